import PyProof.Rows.All
import Wide.All
import OpenK.AllK
import Wide.FinOn
import Lean
import PyProof.EqAt
import PyProof.EqKinds
import PyProof.TupleCall
import PyProof.NeKinds
import PyProof.WalksMore
import PyProof.Rows.SetFrom
import PyProof.FString5
import KE.KSortTup
import KE.KMinKey
import PyProof.SetKind
import PyProof.TupleKey
import KE.KItemsList
import PySem.Challenge.RW_boxmoves_k35_whole_sums_of_breaks
set_option Elab.async false
set_option linter.all false
set_option maxRecDepth 100000
set_option maxHeartbeats 0
theorem ae{α:Sort _}{a:α}:a=a:=rfl
theorem m5{α:Type}{a b:List α}:(a++b).length=a.length+b.length:=List.length_append
theorem m7{α β:Type}{l:List α}(f:α->β):(l.map f).length=l.length:=List.length_map f
theorem m8{p:Prop}[Decidable p](h:¬p):decide p=false:=decide_eq_false h
theorem m9{p:Prop}[Decidable p](h:p):decide p=true:=decide_eq_true h
theorem ng(n:Nat):n<=n:=Nat.le_refl n
theorem nh{α:Type}{a b:α}(h:some a=some b):a=b:=Option.some.inj h
theorem ni{α:Type}{a:α}:[a].length=1:=rfl
theorem nj{α:Type}{a:α}{l:List α}:(a::l).length=l.length+1:=rfl
theorem nu{α:Type}{a:α}(l:List α){m:List α}(h:a∈m):a∈l++m:=List.mem_append_right l h
theorem ny{α:Type}{a:α}{l:List α}(m:List α)(h:a∈l):a∈l++m:=List.mem_append_left m h
theorem nz{α:Type}(b:α){a:α}{l:List α}(h:a∈l):a∈b::l:=List.mem_cons_of_mem b h
theorem nA{α:Type}{a:α}{l:List α}:a∈a::l:=List.mem_cons_self
theorem nB{α:Type}{i:Nat}{l:List α}:(l.take i).length=min i l.length:=List.length_take
theorem nC{α:Type}{i:Nat}{l:List α}:(l.drop i).length=l.length-i:=List.length_drop
theorem nE{α β:Type}{f:α->β}{l:List α}{i:Nat}:(l.map f)[i]?=Option.map f l[i]?:=List.getElem?_map
theorem nF{α:Type}{l:List α}{i:Nat}{a:α}(h:l[i]?=some a):a∈l:=List.mem_of_getElem? h
theorem nG{α:Type}{n:Nat}{a:α}:(List.replicate n a).length=n:=List.length_replicate
theorem nH{α:Type}(a b c:List α):a++b++c=a++(b++c):=List.append_assoc a b c
theorem nJ{α:Type}(l:List α):l++[]=l:=List.append_nil l
theorem nK{α β γ:Type}{g:β->γ}{f:α->β}{l:List α}:(l.map f).map g=l.map (g∘f):=List.map_map
theorem nM{α β:Type}{f:α->β}{a:α}{l:List α}:(a::l).map f=f a::l.map f:=rfl
theorem nO{α:Type}{a:Array α}:a.toList.length=a.size:=Array.length_toList
theorem nQ{α:Type}{l:List α}:l.toArray.size=l.length:=List.size_toArray
theorem nR(n:Nat):0<=n:=Nat.zero_le n
theorem nU(n:Nat):¬n<n:=Nat.lt_irrefl n
theorem nV(n:Nat):(n:Int).toNat=n:=rfl
open PySem.W (Frag CodeHd KitX callWith_K callWith_K0 cellsFrom_some codeIn codeRec_of envX eq_bytes excIn findIn fnOf hasDictIn hideAll hideAll_get hideAll_none hideAll_size instObj kdx_alive keepIn kia_one kitOne kitx_bool kitx_dict kitx_float kitx_int kitx_list kitx_none kitx_own kitx_str kitx_tuple kla_callFunE kla_codeExpr kla_eval kla_fn kla_makeFunction kla_makeFunctionHit kla_obj km_in_of lookIn looks_findIn mem_of_lookupK methodObj mg_none_of mg_of mroIn ne_bytes noTabs nsIn of_hideAll plainGet plainOver specialIn tabIn tabObj tab_of tail_of_in takesIn truthy_bytes)
open PySem.F (args_dict_get_3 args_tuple_add_2 args_tuple_index_2 entry_dict_get entry_tuple_add entry_tuple_index plainAttrs_dict plainAttrs_list plainAttrs_tuple slot_dict_get slot_list_extend slot_tuple_add slot_tuple_index type_dict_get type_list_extend type_tuple_index)
namespace L2
open PySem PySem.Spec PyProof.Rows
noncomputable abbrev Key:=Sum Int Str
noncomputable def Ux:Key->Value->Bool
 | .inl k,v=>Value.isInt k v
 | .inr x,v=>Value.isStrOf x v
noncomputable def A9(w:World):Key->Int
 | .inl k=>hashInt k
 | .inr x=>hashStr w x
theorem QR:∀{k:Key}{v:Value},Ux k v=true->(∃i t,k=Sum.inl i/\v=Value.int i t)\/(∃x t,k=Sum.inr x/\v=Value.str x t)
 | .inl i,v,h=>by
  obtain⟨t,e⟩:=Value.isInt_shape (k:=i) (v:=v) h;exact .inl ⟨i,t,ae,e⟩
 | .inr x,v,h=>by
  obtain⟨t,e⟩:=Value.isStrOf_shape (x:=x) (v:=v) h;exact .inr ⟨x,t,ae,e⟩
theorem XH(i:Int)(t:Tok):Ux (.inl i) (.int i t)=true:=by simp[Ux,Value.isInt]
theorem XI(x:Str)(t:Tok):Ux (.inr x) (.str x t)=true:=by simp[Ux,Value.isStrOf]
theorem vI(a b:Int):decide ((Sum.inl a:Key)=Sum.inl b)=(a==b):=by
 by_cases e:a=b
 ·subst e;simp
 ·have h:¬ (Sum.inl a:Key)=Sum.inl b:=λq=>e (Sum.inl.inj q);rw[m8 h];exact(beq_eq_false_iff_ne.mpr e).symm
theorem vJ(a b:Str):decide ((Sum.inr a:Key)=Sum.inr b)=decide (a=b):=by
 by_cases e:a=b
 ·subst e;simp
 ·have h:¬ (Sum.inr a:Key)=Sum.inr b:=λq=>e (Sum.inr.inj q);rw[m8 h,m8 e]
theorem vK(a:Int)(b:Str):decide ((Sum.inl a:Key)=Sum.inr b)=false:=m8 (λq=>nomatch q)
theorem vL(a:Str)(b:Int):decide ((Sum.inr a:Key)=Sum.inl b)=false:=m8 (λq=>nomatch q)
noncomputable def QI(prog:Program)(w:World):PySem.KeyKind prog w Key where
 is:=Ux
 hash:=A9 w
 inj:=λv a b ha hb=>by
  rcases QR ha with⟨i,t,rfl,rfl⟩|⟨x,t,rfl,rfl⟩
  ·rcases QR hb with⟨j,u,rfl,e⟩|⟨y,u,rfl,e⟩
   ·injection e with e1 _;rw[e1]
   ·exact nomatch e
  ·rcases QR hb with⟨j,u,rfl,e⟩|⟨y,u,rfl,e⟩
   ·exact nomatch e
   ·injection e with e1 _;rw[e1]
 byValue:=λk v h=>by
  rcases QR h with⟨i,t,rfl,rfl⟩|⟨x,t,rfl,rfl⟩<;>rfl
 pyHash:=λhv h=>by
  rcases QR hv with⟨i,t,rfl,rfl⟩|⟨x,t,rfl,rfl⟩
  ·exact wpAny_pyHash_int h
  ·exact wpAny_pyHash_str h
 eqBool:=λhu hv h=>by
  rcases QR hu with⟨i,t,rfl,rfl⟩|⟨x,t,rfl,rfl⟩
  ·rcases QR hv with⟨j,u,rfl,rfl⟩|⟨y,u,rfl,rfl⟩
   ·rw[vI]at h;exact wpAny_eqBool_int h
   ·rw[vK]at h;exact SeqAt.EqAt.int_str i t y u _ _ _ _ h
  ·rcases QR hv with⟨j,u,rfl,rfl⟩|⟨y,u,rfl,rfl⟩
   ·rw[vL]at h;exact SeqAt.EqAt.str_int x t j u _ _ _ _ h
   ·rw[vJ]at h;exact wpAny_eqBool_str h
 «strs»:=λk x t v h=>by
  rcases QR h with⟨i,u,rfl,e⟩|⟨y,u,rfl,e⟩
  ·exact nomatch e
  ·injection e with e1 _;subst e1;cases v<;>rfl
theorem VM(prog:Program)(w:World)(i:Int)(t:Tok):(QI prog w).is (.inl i) (.int i t)=true:=XH i t
theorem VN(prog:Program)(w:World)(x:Str)(t:Tok):(QI prog w).is (.inr x) (.str x t)=true:=XI x t
inductive V where
 |ah|bl (b:Bool)|int (i:Int)|str (x:Str)|dD (b:Array UInt8)|pD (b:UInt64)|ref (a:Addr)|ty (n:String)
 deriving DecidableEq
noncomputable def RelV:V->Value->Prop
 | .ah,u=>u=Value.none
 | .bl b,u=>u=Value.bool b
 | .int i,u=>∃t,u=Value.int i t
 | .str x,u=>∃t,u=Value.str x t
 | .dD b,u=>∃t,u=Value.bytes b t
 | .pD b,u=>∃t,u=Value.float b t
 | .ref a,u=>u=Value.ref a
 | .ty n,u=>u=Value.type n
noncomputable abbrev Vals:List V->List Value->Prop:=Paired RelV
theorem Vals.length{xs:List V}{us:List Value}(r:Vals xs us):xs.length=us.length:=Paired.length r
theorem Vals.get:∀{xs:List V}{us:List Value}{i:Nat}{x:V},Vals xs us->xs[i]? =some x->∃u,us[i]? =some u/\RelV x u
 |_,_,_,_,.nil,e=>by simp at e
 |_,_,0,_,.cons r _,e=>by simp at e;subst e;exact⟨_,ae,r⟩
 |_,_,i+1,x,.cons _ t,e=>by
  obtain⟨u,h1,h2⟩:=Vals.get (i:=i) (x:=x) t (by simpa using e);exact⟨u,by simpa using h1,h2⟩
theorem Vals.append:∀{xs ys:List V}{us ws:List Value},Vals xs us->Vals ys ws->Vals (xs++ys) (us++ws)
 |_,_,_,_,.nil,s=>s
 |_,_,_,_,.cons r t,s=>.cons r (Vals.append t s)
theorem Vals.take:∀{xs:List V}{us:List Value}(n:Nat),Vals xs us->Vals (xs.take n) (us.take n)
 |_,_,0,_=>.nil
 |_,_,_+1,.nil=>.nil
 |_,_,n+1,.cons r t=>.cons r (Vals.take n t)
theorem Vals.drop:∀{xs:List V}{us:List Value}(n:Nat),Vals xs us->Vals (xs.drop n) (us.drop n)
 |_,_,0,r=>r
 |_,_,_+1,.nil=>.nil
 |_,_,n+1,.cons _ t=>Vals.drop n t
noncomputable def Uy:Option V->Option Value->Prop
 |some v,some u=>RelV v u
 |none,none=>True
 |_,_=>False
noncomputable def KV{κ:Type}:List (κ × V)->List (κ × Value)->Prop:=Paired λ(p:κ × V)(q:κ × Value)=>p.1=q.1/\RelV p.2 q.2
noncomputable def kV:Key->V
 | .inl i=>.int i
 | .inr x=>.str x
inductive HO where
 |lst (xs:List V)
 |tup (xs:List V)
 |dK (ap:List (Key × V))|dT (ap:List (List Key × V))
 |set (S:Int->Bool) (n:Nat)
 |ins (C dx:Addr) (fs:List (Str × V))
 |own (x:Addr)
 |xd (fs:List (Str × V))
 |met (f x:Addr)
 |Bb (lo hi:Int)
 |bK (o:Obj) (u:HO)
 |br (ps:Array Value)
 |ext (φ:Heap->Prop)
noncomputable abbrev Hp:=Addr->Option HO
noncomputable def upd(H:Hp)(a:Addr)(o:HO):Hp:=λb=>if b=a then some o else H b
theorem Qb{H:Hp}{a:Addr}{o:HO}:upd H a o a=some o:=by unfold upd;rw[if_pos rfl]
theorem Qh{H:Hp}{a b:Addr}{o:HO}(h:b≠a):upd H a o b=H b:=by unfold upd;rw[if_neg h]
theorem vM{H:Hp}{a b:Addr}{o u:HO}(h:H a=some o)(h':H b=some u)(d:o≠u):a≠b:=by
 intro e;subst e;rw[h]at h';exact d (nh h')
theorem Qn{H:Hp}{a b:Addr}{o:HO}(h:H a=some o)(h':H b=none):a≠b:=by
 intro e;subst e;rw[h]at h';cases h'
noncomputable def Xe(h:Heap)(a:Addr)(items:Array Value):Prop:=∃o,h.get? a=some o/\o.cls=.type "tuple"/\∃n,o.data=.seq items n/\o.dict=none
theorem Xe.tup{h:Heap}{a:Addr}{items:Array Value}(p:Xe h a items):IsTup h a items:=let ⟨o,h1,h2,n,h3,_⟩:=p;⟨o,h1,h2,n,h3⟩
theorem Xe.new(h:Heap)(items:Array Value):Xe (h.push {cls:=.type "tuple",data:=.seq items}) h.objs.size items:=⟨_,Heap.get?_push_size _ rfl,ae,_,ae,ae⟩
section
variable (P:Program)(w:World)
noncomputable def QY(H:Hp)(h:Heap)(a:Addr):HO->Prop
 | .lst xs=>xs.length<=sizeLine/\∃(ad:List Value)(n:Nat),Vals xs ad/\h.get? a=some {cls:=.type "list",data:=.seq ad.toArray n}
 | .tup xs=>xs.length<=sizeLine/\∃ad:List Value,Vals xs ad/\Xe h a ad.toArray
 | .dK ap=>ap.length<=sizeLine/\(a==sysModules)=false/\∃vs,KV ap vs/\h.DictOf (QI P w) a vs
 | .dT ap=>ap.length<=sizeLine/\(a==sysModules)=false/\∃xs:List (List Key × Addr × Value),
   Paired (λ(p:List Key × V)(q:List Key × Addr × Value)=>p.1=q.1/\H q.2.1=some (.tup (p.1.map kV))/\RelV p.2 q.2.2) ap xs/\
   ∃o es ep,h.get? a=some o/\o.ExactDict/\o.data=.dict es ep/\es.toList=xs.map (entryOfKey (tupleKind (QI P w)))/\(xs.map (·.1)).Nodup
 | .set S n=>h.SetOf (intKind P w) a S n
 | .ins C dx fs=>H dx=some (.own a)/\fs.length<=1000/\dx≠a/\h.get? a=some (instObj C dx)/\
   ∃mA,h.Ns1 dx mA/\(∀f,Uy (fs.lookup f) (mA f))/\PySem.Within mA (fs.map (·.1))
 | .own _=>∃o,h.get? a=some o
 | .xd fs=>∃mA,h.Ns1 a mA/\∀f,Uy (fs.lookup f) (mA f)
 | .Bb lo hi=>∃t u v,h.get? a=some {cls:=.type "range",data:=.fields #[.int lo t,.int hi u,.int 1 v]}
 | .bK o u=>h.get? a=some o/\QY H h a u
 | .br ps=>h.get? a=some {cls:=.none,data:=.fields ps}
 | .met f x=>h.get? a=some (methodObj (.ref f) (.ref x))
 | .ext φ=>φ h/\(∃o,h.get? a=some o)/\∀h1 h2:Heap,φ h1->(∀o,h1.get? a=some o->h2.get? a=some o)->φ h2
noncomputable def aS(H:Hp)(h:Heap):Prop:=∀a o,H a=some o->QY P w H h a o
end
section
variable {P:Program}{w:World}{H H':Hp}{h h':Heap}{a:Addr}{o:HO}
theorem QY.lt(x:QY P w H h a o):a<h.objs.size:=by
 cases o with
 |lst xs=>obtain⟨_,_,_,_,e⟩:=x;exact Heap.lt_size e
 |tup xs=>obtain⟨_,_,_,p⟩:=x;exact p.tup.lt
 |dK ap=>obtain⟨_,_,_,_,o,_,_,e,_⟩:=x;exact Heap.lt_size e
 |dT ap=>obtain⟨_,_,_,_,o,_,_,e,_⟩:=x;exact Heap.lt_size e
 |set S n=>obtain⟨o,_,_,_,e,_⟩:=x;exact Heap.lt_size e
 |ins C dx fs=>obtain⟨_,_,_,e,_⟩:=x;exact Heap.lt_size e
 |own y=>obtain⟨_,e⟩:=x;exact Heap.lt_size e
 |xd fs=>obtain⟨_,⟨_,_,_,e,_⟩,_⟩:=x;exact Heap.lt_size e
 |Bb lo hi=>obtain⟨_,_,_,e⟩:=x;exact Heap.lt_size e
 |bK ob u=>obtain⟨e,_⟩:=x;exact Heap.lt_size e
 |br ps=>exact Heap.lt_size (show h.get? a=some _ from x)
 |met f y=>exact Heap.lt_size (show h.get? a=some _ from x)
 |ext φ=>obtain⟨_,⟨_,e⟩,_⟩:=x;exact Heap.lt_size e
theorem Paired.Bc{α β:Type}{F G:α->β->Prop}:∀{l₁:List α}{l₂:List β},Paired F l₁ l₂->(∀a b,F a b->G a b)->Paired G l₁ l₂
 |_,_,.nil,_=>.nil
 |_,_,.cons r t,f=>.cons (f _ _ r) (Paired.Bc t f)
theorem QY.Uz(x:QY P w H h a o)(k:∀b u,(b=a\/H b=some (.own a))->h.get? b=some u->h'.get? b=some u)
  (ho:∀b,H b=some (.own a)->H' b=some (.own a)) (ht:∀b xs,H b=some (.tup xs)->H' b=some (.tup xs)):QY P w H' h' a o:=by
 induction o with
 |lst xs=>obtain⟨z,ad,n,r,e⟩:=x;exact⟨z,ad,n,r,k _ _ (.inl ae) e⟩
 |tup xs=>obtain⟨z,ad,r,ob,e,c⟩:=x;exact⟨z,ad,r,ob,k _ _ (.inl ae) e,c⟩
 |dK ap=>obtain⟨z,y,vs,r,ob,es,ep,e,c⟩:=x;exact⟨z,y,vs,r,ob,es,ep,k _ _ (.inl ae) e,c⟩
 |dT ap=>
  obtain⟨z,y,xs,r,ob,es,ep,e,c⟩:=x;exact⟨z,y,xs,Paired.Bc r λp q z=>⟨z.1,ht _ _ z.2.1,z.2.2⟩,ob,es,ep,k _ _ (.inl ae) e,c⟩
 |set S n=>obtain⟨ob,es,ep,t,e,c⟩:=x;exact⟨ob,es,ep,t,k _ _ (.inl ae) e,c⟩
 |ins C dx fs=>
  obtain⟨d,z,ne,e,mA,⟨od,es,ep,e2,c⟩,r⟩:=x;exact⟨ho _ d,z,ne,k _ _ (.inl ae) e,mA,⟨od,es,ep,k _ _ (.inr d) e2,c⟩,r⟩
 |own y=>obtain⟨ob,e⟩:=x;exact⟨ob,k _ _ (.inl ae) e⟩
 |xd fs=>obtain⟨mA,⟨od,es,ep,e,c⟩,r⟩:=x;exact⟨mA,⟨od,es,ep,k _ _ (.inl ae) e,c⟩,r⟩
 |Bb lo hi=>obtain⟨t,u,v,e⟩:=x;exact⟨t,u,v,k _ _ (.inl ae) e⟩
 |bK ob u ih=>obtain⟨e,q⟩:=x;exact⟨k _ _ (.inl ae) e,ih q⟩
 |br ps=>
  have e:h.get? a=some {cls:=.none,data:=.fields ps}:=x;show h'.get? a=some {cls:=.none,data:=.fields ps};exact k a _ (.inl ae) e
 |met f y=>
  have e:h.get? a=some (methodObj (.ref f) (.ref y)):=x;show h'.get? a=some (methodObj (.ref f) (.ref y));exact k a _ (.inl ae) e
 |ext φ=>obtain⟨p,⟨o,e⟩,st⟩:=x;exact⟨st _ _ p λo q=>k _ _ (.inl ae) q,⟨o,k _ _ (.inl ae) e⟩,st⟩
theorem aS.lt(x:aS P w H h)(e:H a=some o):a<h.objs.size:=(x a o e).lt
theorem aS.fresh(x:aS P w H h)(e:h.objs.size<=a):H a=none:=by
 cases q:H a with
 |none=>rfl
 |some u=>exact absurd (Nat.lt_of_lt_of_le (x.lt q) e) (nU _)
theorem aS.kept(x:aS P w H h)(k:∀b u,h.get? b=some u->h'.get? b=some u):aS P w H h':=λa o e=>
 (x a o e).Uz (λb u _ q=>k b u q) (λ_ q=>q) λ_ _ q=>q
theorem aS.laid(x:aS P w H h)(k:∀b u,h.get? b=some u->h'.get? b=some u) (hp:h.objs.size<=a) (new:QY P w (upd H a o) h' a o):aS P w (upd H a o) h':=λb u e=>by
 have hn:=x.fresh hp
 by_cases hb:b=a
 ·subst hb;rw[Qb]at e;cases e;exact new
 ·rw[Qh hb]at e;exact(x b u e).Uz (λc v _ q=>k c v q) (λc q=>by rw[Qh (Qn q hn)];exact q) λc xs q=>by rw[Qh (Qn q hn)];exact q
end
noncomputable def Rd(H:Hp)(a:Addr)(u:HO):Prop:=H a=some u\/∃o,H a=some (.bK o u)
theorem Rd.ok{P:Program}{w:World}{H:Hp}{h:Heap}{a:Addr}{u:HO}(r:Rd H a u)(x:aS P w H h):QY P w H h a u:=by
 rcases r with r|⟨o,r⟩
 ·exact x a u r
 ·obtain⟨_,q⟩:=x a _ r;exact q
noncomputable def rH:Option HO->Prop
 |some (.lst _)=>True
 |some (.dK _)=>True
 |some (.dT _)=>True
 |some (.set _ _)=>True
 |some (.ins _ _ _)=>True
 |some (.ext _)=>True
 |_=>False
section
variable {P:Program}{w:World}{H:Hp}{h h':Heap}{x e:Addr}{o':HO}
theorem aS.write(ok:aS P w H h)(mu:rH (H x))(he:e=x\/H e=some (.own x))(k:∀b u,b≠e->h.get? b=some u->h'.get? b=some u) (pE:∃u,h'.get? e=some u)
  (new:QY P w (upd H x o') h' x o'):aS P w (upd H x o') h':=λb u q=>by
 have rJ:∀c y,H c=some (.own y)->c≠x:=λc y r z=>by subst z;rw[r]at mu;exact mu
 have Bd:∀c xs,H c=some (.tup xs)->c≠x:=λc xs r z=>by subst z;rw[r]at mu;exact mu
 by_cases hb:b=x
 ·subst hb;rw[Qb]at q;cases q;exact new
 ·rw[Qh hb]at q
  by_cases lL:b=e
  ·have q':H b=some (.own x):=by
    rcases he with z|z
    ·exact absurd (lL.trans z) hb
    ·rw[lL];exact z
   rw[q]at q';cases q';obtain⟨v,hv⟩:=pE;exact⟨v,by rw[lL];exact hv⟩
  ·refine(ok b u q).Uz (λc v hc r=>k c v ?_ r) (λc r=>by rw[Qh (rJ c b r)];exact r) λc xs r=>by rw[Qh (Bd c xs r)];exact r
   rcases hc with rfl|hc
   ·exact lL
   ·rintro rfl;rcases he with z|z
    ·exact rJ c b hc z
    ·rw[hc]at z;cases z;exact hb rfl
end
structure Un(fs ex:List Addr)(H H':Hp)(h h':Heap):Prop where
 keep:∀b o,h.get? b=some o->H b=none->b∉fs->b∉ex->h'.get? b=some o
 slot:∀b o,h.get? b=some o->H b=none->b∈fs->b∉ex->∃sl,h'.get? b=some {o with slots:=sl}
 free:∀b o,h.get? b=some o->H b=none->b∉ex->H' b=none
 there:∀b o,h.get? b=some o->b∉ex->∃o',h'.get? b=some o'
 Jr:∀b xs,H b=some (.tup xs)->H' b=some (.tup xs)
 ba:∀b o u,H b=some (.bK o u)->H' b=some (.bK o u)
 bb:∀b ps,H b=some (.br ps)->∃more,H' b=some (.br (ps++more))
section
variable {fs Ia ex ex':List Addr}{H H1 H2:Hp}{h h1 h2 h':Heap}{a x e:Addr}{o:HO}
theorem Un.any(u:Un fs ex H H1 h h1){b:Addr}{ob:Obj}(q:h.get? b=some ob)(n:H b=none)(hx:b∉ex):∃sl,h1.get? b=some {ob with slots:=sl}:=by
 by_cases hb:b∈fs
 ·exact u.slot b ob q n hb hx
 ·exact⟨ob.slots,u.keep b ob q n hb hx⟩
theorem Un.kept(k:∀b u,h.get? b=some u->h'.get? b=some u):Un fs ex H H h h':=
 ⟨λb ob q _ _ _=>k b ob q,λb ob q _ _ _=>⟨ob.slots,k b ob q⟩,λ_ _ _ n _=>n,λb ob q _=>⟨ob,k b ob q⟩,λ_ _ q=>q,λ_ _ _ q=>q,λ_ ps q=>⟨#[],by rw[q];simp⟩⟩
theorem Un.refl:Un fs ex H H h h:=Un.kept λ_ _ q=>q
theorem Un.laid(k:∀b u,h.get? b=some u->h'.get? b=some u) (hp:h.objs.size<=a) (hn:H a=none):Un fs ex H (upd H a o) h h' where
 keep:=λb u q _ _ _=>k b u q
 slot:=λb u q _ _ _=>⟨u.slots,k b u q⟩
 free:=λb u q n _=>by rw[Qh (Nat.ne_of_lt (Nat.lt_of_lt_of_le (Heap.lt_size q) hp))];exact n
 there:=λb u q _=>⟨u,k b u q⟩
 Jr:=λb xs q=>by rw[Qh (Qn q hn)];exact q
 ba:=λb u xs q=>by rw[Qh (Qn q hn)];exact q
 bb:=λb ps q=>⟨#[],by rw[Qh (Qn q hn),q];simp⟩
theorem Un.write(mu:rH (H x))(he:e=x\/H e=some (.own x))(k:∀b u,b≠e->h.get? b=some u->h'.get? b=some u) (pE:∃u,h'.get? e=some u):Un fs ex H (upd H x o) h h':=by
 have hx:∀b,H b=none->b≠x:=λb n z=>by subst z;rw[n]at mu;exact mu
 have hb:∀b,H b=none->b≠e:=λb n z=>by
  subst z;rcases he with r|r
  ·exact hx b n r
  ·rw[n]at r;cases r
 have hm:∀b u,H b=some u->¬ rH (some u)->b≠x:=λb u q nm z=>by subst z;rw[q]at mu;exact nm mu
 refine⟨λb u q n _ _=>k b u (hb b n) q,λb u q n _ _=>⟨u.slots,k b u (hb b n) q⟩,λb u q n _=>by rw[Qh (hx b n)];exact n,λb u q _=>?_,
  λb xs q=>by rw[Qh (hm b _ q λz=>z)];exact q,λb u xs q=>by rw[Qh (hm b _ q λz=>z)];exact q,λb ps q=>⟨#[],by rw[Qh (hm b _ q λz=>z),q];simp⟩⟩
 by_cases lL:b=e
 ·subst lL;exact pE
 ·exact⟨u,k b u lL q⟩
end
noncomputable def uQ(h:Heap)(H:Hp):List Addr:=(List.range h.objs.size).filter λa=>(H a).isSome
noncomputable def zH(h:Heap)(H:Hp):Heap:=hideAll h (uQ h H)
theorem ql(h:Heap)(H:Hp):(zH h H).objs.size=h.objs.size:=hideAll_size _ _
theorem zK{h:Heap}{H:Hp}{b:Addr}{o:Obj}(e:h.get? b=some o)(n:H b=none):(zH h H).get? b=some o:=
 hideAll_get _ e λhm=>by
  have q:(H b).isSome=true:=(List.mem_filter.mp hm).2;rw[n]at q;simp at q
theorem k6{h:Heap}{H:Hp}{b:Addr}{o:Obj}(e:(zH h H).get? b=some o):h.get? b=some o/\H b=none:=by
 have e':h.get? b=some o:=of_hideAll (uQ h H) e;refine⟨e',?_⟩;cases q:H b with
 |none=>rfl
 |some x=>
  have hm:b∈uQ h H:=List.mem_filter.mpr ⟨List.mem_range.mpr (Heap.lt_size e'),by simp[q]⟩;have z:(zH h H).get? b=none:=hideAll_none (uQ h H) hm;rw[z]at e;cases e
structure Mod(K:Frag)(mg:Str->Option Value)(base:Heap):Prop where
 Be:K.In base
 glob:base.Ns mainGlobals mg
 blt:∃mb,base.Ns builtinsNs mb/\∀x:Str,x≠"__name__"->mb x=bootBuiltins x
 nolimit:base.NoLimit
structure Cx where
 prog:Program
 w:World
 K:Frag
 mg:Str->Option Value
 base:Heap
 A:Around
 N:List Str
 s₀:Shared
 H₀:Hp
 env:Env
 outer:List Env
 stack:List Env
 ex:List Addr
 fn:Str->Bool
 calm:Bool
 pn:List (Addr × Obj)
 xe:Value->Shared->Prop
noncomputable def bc(l:List Env):List Addr:=l.filterMap (·.frame)
noncomputable abbrev Cx.fs(X:Cx):List Addr:=bc X.outer
noncomputable def Bf(sc:Scope)(x:Str):Prop:=sc.names.lookup x=some .local\/sc.names.lookup x=some .cell\/sc.names.lookup x=some .free
noncomputable def Loc(sc:Scope)(x:Str):Prop:=sc.names.lookup x=some .local\/sc.names.lookup x=some .cell
noncomputable def Look(env:Env)(h:Heap)(m:Str->Option Value)(x:Str)(u:Value):Prop:=
 (env.kindOf x=some .local/\m x=some u)\/((env.kindOf x=some .cell\/env.kindOf x=some .free)/\∃c,env.cells.lookup x=some c/\h.IsCell c (some u))
structure Cx.Ok(X:Cx):Prop where
 mod:Mod X.K X.mg X.base
 kind:X.env.scope.kind=.function
 glob:X.env.globals=mainGlobals
 blt:X.env.builtins=builtinsNs
 above:X.s₀.heap.objs.size<=X.env.locals
 inj:∀x y c,X.env.cells.lookup x=some c->X.env.cells.lookup y=some c->x=y
 has:∀x,(X.env.kindOf x=some .cell\/X.env.kindOf x=some .free)->∃c,X.env.cells.lookup x=some c
 rK:∀x c,X.fn x=true->X.env.cells.lookup x=some c->X.s₀.heap.objs.size<=c
 hd:X.calm=true->X.A.handled=none
 frames:X.A.frames=some X.stack
 uR:X.stack=X.outer\/(X.stack=X.env::X.outer/\X.env.frame=some X.env.locals)
 EZ:∀b∈X.ex,b≠X.env.locals/\∀x c,X.env.cells.lookup x=some c->c≠b
 bs:∀b o,X.base.get? b=some o->X.s₀.heap.get? b=some o/\X.H₀ b=none
 dR:X.base.objs.size<=X.s₀.heap.objs.size
 bB:∀b o,X.base.get? b=some o->b∉X.ex
 fQ:∀b∈X.ex,b∉X.fs
 qm:X.s₀.heap.FunFrames X.base X.outer
 pF:∀b∈X.fs,X.H₀ b=none
structure Inv(X:Cx)(pins:List (Addr × Obj))(σ:List (Option V))(H:Hp)(s:Shared):Prop where
 ok:X.Ok
 os:s.os=X.s₀.os
 bare:AllBare s.gens
 base:Un X.fs X.ex X.H₀ H X.s₀.heap s.heap
 loc:∃m,s.heap.Ns X.env.locals m/\∀(i:Nat)(x:Str)(v:V),X.N[i]? =some x->σ[i]? =some (some v)->Bf X.env.scope x->∃u,RelV v u/\Look X.env s.heap m x u
 cell:∀x c,X.env.cells.lookup x=some c->∃v,s.heap.IsCell c v
 free:H X.env.locals=none
 aG:∀x c,X.env.cells.lookup x=some c->H c=none
 pin:∀p∈X.pn++pins,s.heap.get? p.1=some p.2/\H p.1=none/\p.1≠X.env.locals/\p.1∉X.fs/\∀v,p.2.data≠ .cell v
 aj:aS X.prog X.w H s.heap
 len:σ.length=X.N.length
section
variable {X:Cx}{pins:List (Addr × Obj)}{σ:List (Option V)}{H H':Hp}{s:Shared}{h':Heap}
theorem Cx.Ok.Ib(ok:X.Ok){b:Addr}{o:Obj}(e:X.base.get? b=some o):b∉X.fs:=λhb=>by
 have:=(ok.qm.mem hb).1;rw[e]at this;cases this
theorem Inv.bs(I:Inv X pins σ H s):∀b o,X.base.get? b=some o->s.heap.get? b=some o/\H b=none:=λb o e=>
 ⟨I.base.keep b o (I.ok.bs b o e).1 (I.ok.bs b o e).2 (I.ok.Ib e) (I.ok.bB b o e),I.base.free b o (I.ok.bs b o e).1 (I.ok.bs b o e).2 (I.ok.bB b o e)⟩
theorem Inv.bk(I:Inv X pins σ H s):∀b o,X.base.get? b=some o->s.heap.get? b=some o:=λb o e=>(I.bs b o e).1
theorem Inv.mod(I:Inv X pins σ H s):Mod X.K X.mg X.base:=I.ok.mod
theorem Inv.bC(I:Inv X pins σ H s):X.K.In s.heap:=I.ok.mod.Be.keeps I.bk
theorem Inv.nolimit(I:Inv X pins σ H s):s.heap.NoLimit:=I.ok.mod.nolimit.keeps I.bk
theorem Inv.lt(I:Inv X pins σ H s):X.env.locals<s.heap.objs.size:=let ⟨_,hn,_⟩:=I.loc;hn.lt
theorem Inv.sz(I:Inv X pins σ H s):X.s₀.heap.objs.size<=s.heap.objs.size:=Nat.le_trans I.ok.above (Nat.le_of_lt I.lt)
theorem Inv.Ic(I:Inv X pins σ H s){a:Addr}(h:s.heap.objs.size<=a):a∉X.fs:=λhb=>by
 obtain⟨_,o,ho,_⟩:=I.ok.qm.mem hb;exact absurd (Nat.lt_of_lt_of_le (Heap.lt_size ho) (Nat.le_trans I.sz h)) (nU _)
theorem Inv.ei(I:Inv X pins σ H s):∀x c,X.env.cells.lookup x=some c->c≠X.env.locals:=λx c e z=>by
 obtain⟨v,o,ho,hd⟩:=I.cell x c e;obtain⟨m,⟨o',es,ep,fC,dE,_⟩,_⟩:=I.loc;rw[z,fC]at ho;cases ho;rw[dE]at hd;cases hd
theorem Inv.qm(I:Inv X pins σ H s):s.heap.FunFrames X.base X.outer:=by
 have all:∀(l:List Env),(∀b∈bc l,b∈X.fs)->X.s₀.heap.FunFrames X.base l->s.heap.FunFrames X.base l:=by
  intro l
  induction l with
  |nil=>intro _ _;trivial
  |cons env r ih=>
   intro hs hl;obtain⟨hk,⟨L,o,hf,hn,ho,hd⟩,hr⟩:=hl;have hL:L∈X.fs:=hs L (by unfold bc;rw[List.filterMap_cons,hf];exact nA);obtain⟨sl,e⟩:=I.base.slot L o ho (I.ok.pF L hL) hL λz=>I.ok.fQ L z hL;exact⟨hk,⟨L,_,hf,hn,e,hd⟩,ih (λb hb=>hs b (by unfold bc;rw[List.filterMap_cons,hf];exact nz _ hb)) hr⟩
 exact all X.outer (λ_ hb=>hb) I.ok.qm
theorem Inv.stack(I:Inv X pins σ H s):s.heap.FunFrames X.base X.stack:=by
 rcases I.ok.uR with e|⟨e,hf⟩
 ·rw[e];exact I.qm
 ·rw[e];obtain⟨m,hn,_⟩:=I.loc;refine .cons (by rw[I.ok.kind];decide) hf hn ?_ I.qm;exact Heap.get?_none_of_le (Nat.le_trans I.ok.dR I.ok.above)
theorem Inv.XJ(I:Inv X pins σ H s):∀b∈bc X.stack,b∈X.env.locals::X.fs:=λb hb=>by
 rcases I.ok.uR with e|⟨e,hf⟩
 ·rw[e]at hb;exact nz _ hb
 ·rw[e]at hb;unfold bc at hb;rw[List.filterMap_cons,hf]at hb;exact hb
theorem Inv.Zy(I:Inv X pins σ H s):∀b∈bc X.stack,H b=none:=λb hb=>by
 rcases List.mem_cons.mp (I.XJ b hb)with e|hb
 ·rw[e];exact I.free
 ·obtain⟨_,o,ho,_⟩:=I.ok.qm.mem hb;exact I.base.free b o ho (I.ok.pF b hb) λz=>I.ok.fQ b z hb
theorem Inv.step{g':Array GenState}{t':Nat}{d':Drawn}{ch:List Addr}(I:Inv X pins σ H s)
  (fD:∀b∈ch,(b∈X.ex\/X.s₀.heap.objs.size<=b)/\b≠X.env.locals/\(∀x c,X.env.cells.lookup x=some c->c≠b)/\∀p∈X.pn++pins,p.1≠b)
  (keep:∀b o,b≠X.env.locals->b∉X.fs->b∉ch->s.heap.get? b=some o->H b=none->h'.get? b=some o)
  (slot:∀b o,b≠X.env.locals->b∈X.fs->b∉ch->s.heap.get? b=some o->H b=none->∃sl,h'.get? b=some {o with slots:=sl}) (free:∀b o,b∉ch->s.heap.get? b=some o->H b=none->H' b=none)
  (there:∀b o,b∉ch->s.heap.get? b=some o->∃o',h'.get? b=some o')
  (Jr:∀b xs,H b=some (.tup xs)->H' b=some (.tup xs)) (ba:∀b o u,H b=some (.bK o u)->H' b=some (.bK o u)) (bb:∀b ps,H b=some (.br ps)->∃more,H' b=some (.br (ps++more)))
  (ns:∀m,s.heap.Ns X.env.locals m->h'.Ns X.env.locals m) (aj:aS X.prog X.w H' h') (hg:AllBare g'):
  Inv X pins σ H' {s with heap:=h',gens:=g',drawn:=d',toks:=t'}:=by
 have E2:∀b o,X.s₀.heap.get? b=some o->b≠X.env.locals:=λb o e=>Nat.ne_of_lt (Nat.lt_of_lt_of_le (Heap.lt_size e) I.ok.above);have uS:∀b o,X.s₀.heap.get? b=some o->b∉X.ex->b∉ch:=λb o e hx hb=>by
  rcases(fD b hb).1 with z|z
  ·exact hx z
  ·exact absurd (Nat.lt_of_lt_of_le (Heap.lt_size e) z) (nU _)
 have cellK:∀x c,X.env.cells.lookup x=some c->∀v,s.heap.IsCell c v->h'.IsCell c v:=λx c e v⟨o,ho,hd⟩=>by
  have rL:c∉ch:=λz=>(fD c z).2.2.1 x c e rfl
  by_cases hc:c∈X.fs
  ·obtain⟨sl,q⟩:=slot c o (I.ei x c e) hc rL ho (I.aG x c e);exact⟨_,q,hd⟩
  ·exact⟨o,keep c o (I.ei x c e) hc rL ho (I.aG x c e),hd⟩
 refine⟨I.ok,I.os,hg,⟨λb o e n hb hx=>?_,λb o e n hb hx=>?_,λb o e n hx=>?_,λb o e hx=>?_,λb xs e=>Jr b xs (I.base.Jr b xs e),λb o xs e=>ba b o xs (I.base.ba b o xs e),λb ps e=>?_⟩,?_,λx c e=>?_,?_,λx c e=>?_,λp hp=>?_,aj,I.len⟩
 ·exact keep b o (E2 b o e) hb (uS b o e hx) (I.base.keep b o e n hb hx) (I.base.free b o e n hx)
 ·obtain⟨sl,e1⟩:=I.base.slot b o e n hb hx;obtain⟨E3,e2⟩:=slot b _ (E2 b o e) hb (uS b o e hx) e1 (I.base.free b o e n hx);exact⟨E3,e2⟩
 ·obtain⟨o',e1⟩:=I.base.there b o e hx;exact free b o' (uS b o e hx) e1 (I.base.free b o e n hx)
 ·obtain⟨o',e1⟩:=I.base.there b o e hx;exact there b o' (uS b o e hx) e1
 ·obtain⟨m1,e1⟩:=I.base.bb b ps e;obtain⟨m2,e2⟩:=bb b _ e1;exact⟨m1++m2,by rw[e2,Array.append_assoc]⟩
 ·obtain⟨m,hn,hl⟩:=I.loc;refine⟨m,ns m hn,λi x v e1 e2 e3=>?_⟩;obtain⟨u,r,l⟩:=hl i x v e1 e2 e3;refine⟨u,r,?_⟩;rcases l with l|⟨k,c,e,z⟩
  ·exact .inl l
  ·exact .inr ⟨k,c,e,cellK x c e _ z⟩
 ·obtain⟨v,z⟩:=I.cell x c e;exact⟨v,cellK x c e v z⟩
 ·obtain⟨m,⟨o,_,_,ho,_⟩,_⟩:=I.loc;exact free _ o (λz=>(fD _ z).2.1 ae) ho I.free
 ·obtain⟨v,o,ho,hd⟩:=I.cell x c e;exact free c o (λz=>(fD c z).2.2.1 x c e ae) ho (I.aG x c e)
 ·obtain⟨e,n,ne,nf,d⟩:=I.pin p hp;have rL:p.1∉ch:=λz=>(fD p.1 z).2.2.2 p hp rfl;exact⟨keep p.1 p.2 ne nf rL e n,free p.1 p.2 rL e n,ne,nf,d⟩
theorem Inv.un{t':Nat}(I:Inv X pins σ H s)(u:Un X.fs [] H H' s.heap h')(aj:aS X.prog X.w H' h'):Inv X pins σ H' {s with heap:=h',toks:=t'}:=by
 obtain⟨m,⟨o,es,ep,ho,r⟩,_⟩:=id I.loc;obtain⟨sl,hL⟩:=u.any ho I.free (by simp);exact I.step (g':=s.gens) (d':=s.drawn) (ch:=[]) (λ_ z=>nomatch z) (λb o _ hb _ e n=>u.keep b o e n hb (by simp)) (λb o _ hb _ e n=>u.slot b o e n hb (by simp)) (λb o _ e n=>u.free b o e n (by simp)) (λb o _ e=>u.there b o e (by simp)) u.Jr u.ba u.bb (λm' hm=>by
  obtain⟨o',ii,Bg,fC,r'⟩:=hm;rw[ho]at fC;cases fC;exact⟨_,ii,Bg,hL,r'⟩) aj I.bare
theorem Inv.call{g':Array GenState}{t':Nat}{d':Drawn}{ch:List Addr}(I:Inv X pins σ H s)(u:Un (bc X.stack) ch H H' s.heap h')(aj:aS X.prog X.w H' h')(hg:AllBare g')
  (fD:∀b∈ch,(b∈X.ex\/X.s₀.heap.objs.size<=b)/\b≠X.env.locals/\(∀x c,X.env.cells.lookup x=some c->c≠b)/\∀p∈X.pn++pins,p.1≠b):
  Inv X pins σ H' {s with heap:=h',gens:=g',drawn:=d',toks:=t'}:=by
 obtain⟨m,⟨o,es,ep,ho,r⟩,_⟩:=id I.loc;obtain⟨sl,hL⟩:=u.any ho I.free λz=>(fD _ z).2.1 rfl;exact I.step (ch:=ch) fD (λb o hL hb hc e n=>u.keep b o e n (λz=>(List.mem_cons.mp (I.XJ b z)).elim hL hb) hc) (λb o _ _ hc e n=>u.any e n hc) (λb o hc e n=>u.free b o e n hc) (λb o hc e=>u.there b o e hc) u.Jr u.ba u.bb (λm' hm=>by
  obtain⟨o',ii,Bg,fC,r'⟩:=hm;rw[ho]at fC;cases fC;exact⟨_,ii,Bg,hL,r'⟩) aj hg
theorem Inv.turned{t':Nat}{it:Addr}(I:Inv X pins σ H s)(k:∀b o,b≠it->s.heap.get? b=some o->h'.get? b=some o) (hn:H it=none) (hL:it≠X.env.locals)
  (h1:it∈X.ex\/X.s₀.heap.objs.size<=it) (h2:∀x c,X.env.cells.lookup x=some c->c≠it) (h3:∀p∈X.pn++pins,p.1≠it):Inv X pins σ H {s with heap:=h',toks:=t'}:=by
 have eA:∀b u,H b=some u->b≠it:=λb u e z=>by rw[z,hn]at e;cases e
 refine I.step (g':=s.gens) (d':=s.drawn) (ch:=[it]) (λb hb=>?_) (λb o _ _ hc e _=>k b o (λz=>hc (by simp[z])) e) (λb o _ _ hc e _=>⟨o.slots,k b o (λz=>hc (by simp[z])) e⟩) (λ_ _ _ _ n=>n)
  (λb o hc e=>⟨o,k b o (λz=>hc (by simp[z])) e⟩) (λ_ _ e=>e) (λ_ _ _ e=>e) (λb ps e=>⟨#[],by rw[e];simp⟩) (λm hm=>?_) (λb u e=>?_) I.bare
 ·have e:b=it:=by simpa using hb
  subst e;exact⟨h1,hL,h2,h3⟩
 ·obtain⟨o,es,ep,ho,r⟩:=hm;exact⟨o,es,ep,k _ o (Ne.symm hL) ho,r⟩
 ·refine(I.aj b u e).Uz (λc v hc q=>k c v ?_ q) (λ_ q=>q) λ_ _ q=>q;rcases hc with z|z
  ·rw[z];exact eA b u e
  ·exact eA c _ z
theorem Inv.tok(I:Inv X pins σ H s)(t:Nat):Inv X pins σ H {s with toks:=t}:=I.un (h':=s.heap) (t':=t) Un.refl I.aj
theorem Inv.kept{t':Nat}(I:Inv X pins σ H s)(k:∀b u,s.heap.get? b=some u->h'.get? b=some u):Inv X pins σ H {s with heap:=h',toks:=t'}:=I.un (Un.kept k) (I.aj.kept k)
theorem Inv.laid{a:Addr}{o:HO}{t':Nat}(I:Inv X pins σ H s)(k:∀b u,s.heap.get? b=some u->h'.get? b=some u) (hp:s.heap.objs.size<=a) (new:QY X.prog X.w (upd H a o) h' a o):
  Inv X pins σ (upd H a o) {s with heap:=h',toks:=t'}:=I.un (Un.laid k hp (I.aj.fresh hp)) (I.aj.laid k hp new)
theorem Inv.write{x e:Addr}{o:HO}{t':Nat}(I:Inv X pins σ H s)(mu:rH (H x))(he:e=x\/H e=some (.own x))(k:∀b u,b≠e->s.heap.get? b=some u->h'.get? b=some u) (pE:∃u,h'.get? e=some u)
  (new:QY X.prog X.w (upd H x o) h' x o):Inv X pins σ (upd H x o) {s with heap:=h',toks:=t'}:=I.un (Un.write mu he k pE) (I.aj.write mu he k pE new)
theorem Inv.weak{σ':List (Option V)}(I:Inv X pins σ H s)(hl:σ'.length=σ.length)(w:∀(i:Nat) v,σ'[i]? =some (some v)->σ[i]? =some (some v)):Inv X pins σ' H s:=
 ⟨I.ok,I.os,I.bare,I.base,let ⟨m,hn,Ie⟩:=I.loc;⟨m,hn,λi x v e1 e2 e3=>Ie i x v e1 (w i v e2) e3⟩,I.cell,I.free,I.aG,I.pin,I.aj,hl.trans I.len⟩
theorem Inv.Q4{iR:List (Addr × Obj)}(I:Inv X pins σ H s)(h:∀p∈iR,s.heap.get? p.1=some p.2/\H p.1=none/\p.1≠X.env.locals/\p.1∉X.fs/\∀v,p.2.data≠ .cell v):Inv X iR σ H s:=
 ⟨I.ok,I.os,I.bare,I.base,I.loc,I.cell,I.free,I.aG,λp hp=>(List.mem_append.mp hp).elim (λz=>I.pin p (ny _ z)) (h p),I.aj,I.len⟩
theorem YH{N:List Str}(hN:N.Nodup){i j:Nat}{x:Str}(a:N[i]? =some x)(b:N[j]? =some x):i=j:=by
 obtain⟨h1,e1⟩:=List.getElem?_eq_some_iff.mp a;obtain⟨h2,e2⟩:=List.getElem?_eq_some_iff.mp b;exact(List.getElem_inj hN).mp (e1.trans e2.symm)
theorem XL{M:Model}{A:Around}{E:Value->Shared->Prop}{i:Nat}{x:Str}{v:V}{u:Value}{Q:Unit->Shared->Prop}(I:Inv X pins σ H s)(hN:X.N.Nodup)(hi:X.N[i]? =some x)(hx:Loc X.env.scope x)(r:RelV v u)
  (h:∀s',Inv X pins (σ.set i (some v)) H s'->(∃a,Heap.SameBut a s.heap s'.heap/\(a=X.env.locals\/X.env.cells.lookup x=some a))->Q () s') (hf:X.fn x=true\/X.env.scope.names.lookup x=some .local:=by first|exact .inl rfl|exact .inr rfl|assumption):wpAny M A (storeName X.env x u) Q E s:=by
 obtain⟨m,hn,hl⟩:=id I.loc;have lM:(X.env.scope.kind==.class||(X.env.scope.kind==.module&&X.env.locals !=X.env.globals))=false:=by rw[I.ok.kind];rfl
 have E4:i<σ.length:=by rw[I.len];exact(List.getElem?_eq_some_iff.mp hi).1
 have ei:=I.ei;have tracked:∀{a:Addr}{h':Heap},(∃o,s.heap.get? a=some o/\H a=none)->Heap.SameBut a s.heap h'->aS X.prog X.w H h':=λ{a h'} ha hs b ob e=>by
  obtain⟨_,_,ge⟩:=ha;refine(I.aj b ob e).Uz (λc w' hc q=>(hs.2 c ?_).trans q) (λ_ q=>q) λ_ _ q=>q;rintro rfl;rcases hc with rfl|hc
  ·rw[ge]at e;cases e
  ·rw[ge]at hc;cases hc
 rcases hx with hk|hk
 ·refine wpAny_storeName_local hk hn (λh' Bh hs=>?_) lM;obtain⟨oL,_,_,lO,_⟩:=id hn;refine h _ ⟨I.ok,I.os,I.bare,⟨λb o e n hb hx=>?_,λb o e n hb hx=>?_,I.base.free,λb o e hx=>?_,I.base.Jr,I.base.ba,I.base.bb⟩,⟨_,Bh,λj y v' e1 e2 e3=>?_⟩,λy c e=>?_,I.free,I.aG,λp hp=>?_,tracked ⟨oL,lO,I.free⟩ hs,by simpa using I.len⟩ ⟨_,hs,.inl rfl⟩
  ·exact(hs.2 b (Nat.ne_of_lt (Nat.lt_of_lt_of_le (Heap.lt_size e) I.ok.above))).trans (I.base.keep b o e n hb hx)
  ·obtain⟨sl,e1⟩:=I.base.slot b o e n hb hx;exact⟨sl,(hs.2 b (Nat.ne_of_lt (Nat.lt_of_lt_of_le (Heap.lt_size e) I.ok.above))).trans e1⟩
  ·obtain⟨o',e1⟩:=I.base.there b o e hx;exact⟨o',(hs.2 b (Nat.ne_of_lt (Nat.lt_of_lt_of_le (Heap.lt_size e) I.ok.above))).trans e1⟩
  ·by_cases hj:j=i
   ·subst hj;rw[hi]at e1;cases e1;rw[List.getElem?_set_self E4]at e2;cases e2;exact⟨u,r,.inl ⟨hk,by simp⟩⟩
   ·rw[List.getElem?_set_ne (Ne.symm hj)]at e2;obtain⟨u',r',q⟩:=hl j y v' e1 e2 e3;refine⟨u',r',?_⟩;rcases q with⟨k,e⟩|⟨k,c,e,z⟩
    ·refine .inl ⟨k,?_⟩;have:y≠x:=λe=>hj (YH hN e1 (e▸hi));simp[this,e]
    ·exact .inr ⟨k,c,e,z.sameBut hs (ei y c e)⟩
  ·obtain⟨w',z⟩:=I.cell y c e;exact⟨w',z.sameBut hs (ei y c e)⟩
  ·obtain⟨e,n,ne,nf,d⟩:=I.pin p hp;exact⟨(hs.2 p.1 ne).trans e,n,ne,nf,d⟩
 ·have Bi:X.fn x=true:=by
   rcases hf with z|z
   ·exact z
   ·rw[z]at hk;cases hk
  obtain⟨c,hc⟩:=I.ok.has x (.inl hk);obtain⟨w',z⟩:=I.cell x c hc;refine wpAny_storeName_cell I.ok.kind hk hc z (λh' Is hs=>?_);obtain⟨oc,E5,Bj⟩:=id z;refine h {s with heap:=h'} ⟨I.ok,I.os,I.bare,⟨λb o e n hb hx=>?_,λb o e n hb hx=>?_,I.base.free,λb o e hx=>?_,I.base.Jr,I.base.ba,I.base.bb⟩,⟨m,hn.sameBut hs (Ne.symm (ei x c hc)),λj y v' e1 e2 e3=>?_⟩,λy c' e=>?_,I.free,I.aG,λp hp=>?_,tracked ⟨oc,E5,I.aG x c hc⟩ hs,by simpa using I.len⟩ ⟨c,hs,.inr hc⟩
  ·exact(hs.2 b (Nat.ne_of_lt (Nat.lt_of_lt_of_le (Heap.lt_size e) (I.ok.rK x c Bi hc)))).trans (I.base.keep b o e n hb hx)
  ·obtain⟨sl,e1⟩:=I.base.slot b o e n hb hx;exact⟨sl,(hs.2 b (Nat.ne_of_lt (Nat.lt_of_lt_of_le (Heap.lt_size e) (I.ok.rK x c Bi hc)))).trans e1⟩
  ·obtain⟨o',e1⟩:=I.base.there b o e hx;exact⟨o',(hs.2 b (Nat.ne_of_lt (Nat.lt_of_lt_of_le (Heap.lt_size e) (I.ok.rK x c Bi hc)))).trans e1⟩
  ·by_cases hj:j=i
   ·subst hj;rw[hi]at e1;cases e1;rw[List.getElem?_set_self E4]at e2;cases e2;exact⟨u,r,.inr ⟨.inl hk,c,hc,Is⟩⟩
   ·rw[List.getElem?_set_ne (Ne.symm hj)]at e2;obtain⟨u',r',q⟩:=hl j y v' e1 e2 e3;refine⟨u',r',?_⟩;rcases q with q|⟨k,c',e,z'⟩
    ·exact .inl q
    ·refine .inr ⟨k,c',e,z'.sameBut hs ?_⟩;rintro rfl;exact hj (YH hN e1 (I.ok.inj _ _ _ e hc▸hi))
  ·by_cases bS:c'=c
   ·subst bS;exact⟨_,Is⟩
   ·obtain⟨w2,z2⟩:=I.cell y c' e;exact⟨w2,z2.sameBut hs bS⟩
  ·obtain⟨e,n,ne,nf,d⟩:=I.pin p hp;refine⟨(hs.2 p.1 ?_).trans e,n,ne,nf,d⟩;intro q;rw[q,E5]at e;have q':oc=p.2:=nh e;exact d w' (by rw[←q'];exact Bj)
theorem Xv{M:Model}{A:Around}{E:Value->Shared->Prop}{i:Nat}{x:Str}{v:V}{u:Value}{Q:Unit->Shared->Prop}(I:Inv X pins σ H s)(hN:X.N.Nodup)(hi:X.N[i]? =some x)(hx:Loc X.env.scope x)(r:RelV v u)
  (h:∀s',Inv X pins (σ.set i (some v)) H s'->Q () s') (hf:X.fn x=true\/X.env.scope.names.lookup x=some .local:=by first|exact .inl rfl|exact .inr rfl|assumption):wpAny M A (storeName X.env x u) Q E s:=
 XL I hN hi hx r (λs' I' _=>h s' I') hf
theorem Inv.UA{s':Shared}{ch:List Addr}(I:Inv X pins σ H s)(ho:s'.os=s.os)(u:Un (bc X.stack) ch H H' s.heap s'.heap)(aj:aS X.prog X.w H' s'.heap)(hg:AllBare s'.gens)
  (fD:∀b∈ch,(b∈X.ex\/X.s₀.heap.objs.size<=b)/\b≠X.env.locals/\(∀x c,X.env.cells.lookup x=some c->c≠b)/\∀p∈X.pn++pins,p.1≠b):Inv X pins σ H' s':=by
 obtain⟨h',g',d',t',o'⟩:=s';have e:o'=s.os:=ho;subst e;exact I.call (g':=g') (t':=t') (d':=d') u aj hg fD
end
noncomputable abbrev XK:=Value->Option Addr->Hp->Prop
noncomputable abbrev St:=List (Option V)
noncomputable abbrev VK:=V->Hp->Prop
noncomputable abbrev TE:=St->Hp->VK->Prop
noncomputable abbrev TT:=St->Hp->(Bool->Hp->Prop)->Prop
noncomputable abbrev TA:=St->Hp->(List V->Hp->Prop)->Prop
structure Ends where
 nx:St->Hp->Prop
 rt:VK
 bk:St->Hp->Prop:=λ_ _=>False
 ct:St->Hp->Prop:=λ_ _=>False
noncomputable abbrev TS:=Ends->St->Hp->Prop
noncomputable def EP(X:Cx)(pins:List (Addr × Obj))(σ:St)(Q:VK)(u:Value)(s':Shared):Prop:=∃v H',Inv X pins σ H' s'/\RelV v u/\Q v H'
noncomputable def TP(X:Cx)(pins:List (Addr × Obj))(σ:St)(Q:Bool->Hp->Prop)(b:Bool)(s':Shared):Prop:=∃H',Inv X pins σ H' s'/\Q b H'
noncomputable def AP(X:Cx)(pins:List (Addr × Obj))(σ:St)(Q:List V->Hp->Prop)(us:List Value)(s':Shared):Prop:=∃vs H',Inv X pins σ H' s'/\Vals vs us/\Q vs H'
noncomputable def SP(X:Cx)(pins:List (Addr × Obj))(D:Ends)(f:Flow)(s':Shared):Prop:=
 match f with
 | .next=>∃σ' H',Inv X pins σ' H' s'/\D.nx σ' H'
 | .brk=>∃σ' H',Inv X pins σ' H' s'/\D.bk σ' H'
 | .cont=>∃σ' H',Inv X pins σ' H' s'/\D.ct σ' H'
 | .ret u=>∃v σ' H',Inv X pins σ' H' s'/\RelV v u/\D.rt v H'
noncomputable def PE(X:Cx)(e:Expr)(t:TE):Prop:=
 ∀(pins:List (Addr × Obj))(s:Shared)(σ:St)(H:Hp)(Q:VK),Inv X pins σ H s->t σ H Q->wpAny (model X.prog X.w) X.A (eval e X.env) (EP X pins σ Q) X.xe s
noncomputable def PT(X:Cx)(e:Expr)(t:TT):Prop:=
 ∀(pins:List (Addr × Obj))(s:Shared)(σ:St)(H:Hp)(Q:Bool->Hp->Prop),Inv X pins σ H s->t σ H Q->wpAny (model X.prog X.w) X.A (isTrue e X.env (eval e X.env)) (TP X pins σ Q) X.xe s
noncomputable def PW(X:Cx)(e:Expr)(t:TT):Prop:=
 ∀(whole:Sem Value)(pins:List (Addr × Obj))(s:Shared)(σ:St)(H:Hp)(Q:Bool->Hp->Prop),Inv X pins σ H s->t σ H Q->wpAny (model X.prog X.w) X.A (isTrue e X.env whole) (TP X pins σ Q) X.xe s
theorem PW.pt{X:Cx}{e:Expr}{t:TT}(h:PW X e t):PT X e t:=h _
noncomputable def PA(X:Cx)(es:List Expr)(t:TA):Prop:=
 ∀(pos:Pos)(pins:List (Addr × Obj))(s:Shared)(σ:St)(H:Hp)(Q:List V->Hp->Prop),Inv X pins σ H s->t σ H Q->wpAny (model X.prog X.w) X.A (spliced (backTo pos (starEach es X.env))) (AP X pins σ Q) X.xe s
noncomputable def PS(X:Cx)(st:Stmt)(t:TS):Prop:=
 ∀(pins:List (Addr × Obj))(s:Shared)(σ:St)(H:Hp)(D:Ends),Inv X pins σ H s->t D σ H->wpAny (model X.prog X.w) X.A (exec st X.env) (SP X pins D) X.xe s
noncomputable def bL(X:Cx)(st:List Stmt)(t:TS):Prop:=
 ∀(pins:List (Addr × Obj))(s:Shared)(σ:St)(H:Hp)(D:Ends),Inv X pins σ H s->t D σ H->wpAny (model X.prog X.w) X.A (execs st X.env) (SP X pins D) X.xe s
theorem ax{α:Type}{t:Sem α}{Q Q':α->Shared->Prop}{M:Model}{A:Around}{E:Value->Shared->Prop}{s:Shared}(h:wpAny M A t Q E s)(hQ:∀a s,Q a s->Q' a s):wpAny M A t Q' E s:=wpAny_mono h hQ λ_ _ x=>x
section
variable {X:Cx}
noncomputable def qo(i:Nat):TE:=λσ H Q=>∃v,σ[i]? =some (some v)/\Q v H
noncomputable def tC(v:V):TE:=λ_ H Q=>Q v H
theorem vN{i:Nat}{x:Str}{pos:Pos}(hN:X.N[i]? =some x)(hv:Bf X.env.scope x)(hd:(x==("__debug__":Str))=false:=by decide)(dF:(x==("__classdict__":Str))=false:=by decide):PE X (.Name x pos) (qo i):=by
 intro pins s σ H Q I h;obtain⟨v,e,h⟩:=h;obtain⟨m,hn,hl⟩:=I.loc;obtain⟨u,r,l⟩:=hl i x v hN e hv;have fin:EP X pins σ Q u s:=⟨v,H,I,r,h⟩;rcases l with⟨hk,hm⟩|⟨hk,c,hc,cY⟩
 ·exact wpAny_Name (wpAny_loadName_local I.ok.kind hk hn hm fin) hd
 ·rcases hk with hk|hk
  ·exact wpAny_Name (wpAny_loadName_cell I.ok.kind hk hc cY fin) hd
  ·exact wpAny_Name (wpAny_loadName_free I.ok.kind hk hc cY fin dF) hd
theorem Qf{i j pos}:PE X (.Constant (.int i) j pos) (tC (.int i)):=λ_ _ _ H _ I h=>wpAny_Constant_int ⟨.int i,H,I.tok _,⟨_,ae⟩,h⟩
theorem UB{b j pos}:PE X (.Constant (.bool b) j pos) (tC (.bl b)):=λ_ _ _ H _ I h=>Constant_bool ⟨.bl b,H,I,ae,h⟩
theorem QO{x j pos}:PE X (.Constant (.str x) j pos) (tC (.str x)):=λ_ _ _ H _ I h=>Calls.Constant_str ⟨.str x,H,I.tok _,⟨_,ae⟩,h⟩
noncomputable def Gl(X:Cx)(x:Str):Prop:=X.env.kindOf x=some .globalImplicit
theorem qp{E:Value->Shared->Prop}{pins:List (Addr × Obj)}{s:Shared}{σ:St}{H:Hp}{x:Str}{u:Value}{pos:Pos}{Q:Value->Shared->Prop}(I:Inv X pins σ H s)(hg:Gl X x)(hm:X.mg x=some u)(h:Q u s)
  (hd:(x==("__debug__":Str))=false:=by decide):wpAny (model X.prog X.w) X.A (eval (.Name x pos) X.env) Q E s:=
 Calls.Name_function_global I.ok.kind hg (Calls.loadGlobal_global (by rw[I.ok.glob];exact I.mod.glob.keeps I.bk) hm h) hd
theorem JL{E:Value->Shared->Prop}{pins:List (Addr × Obj)}{s:Shared}{σ:St}{H:Hp}{x:Str}{u:Value}{pos:Pos}{Q:Value->Shared->Prop}(I:Inv X pins σ H s)(hg:Gl X x)(hm:X.mg x=none)(hv:bootBuiltins x=some u)(h:Q u s)
  (hn:x≠"__name__":=by decide) (hd:(x==("__debug__":Str))=false:=by decide):wpAny (model X.prog X.w) X.A (eval (.Name x pos) X.env) Q E s:=by
 obtain⟨mb,h1,h2⟩:=I.mod.blt;exact Calls.Name_function_global I.ok.kind hg (Calls.loadGlobal_builtin (by rw[I.ok.glob];exact I.mod.glob.keeps I.bk) hm (by rw[I.ok.blt];exact h1.keeps I.bk) ((h2 x hn).trans hv) h) hd
theorem qr{x:Str}{v:V}{u:Value}{pos:Pos}(hg:Gl X x)(hm:X.mg x=none)(hv:bootBuiltins x=some u)(r:RelV v u)(hn:x≠"__name__":=by decide)(hd:(x==("__debug__":Str))=false:=by decide):PE X (.Name x pos) (tC v):=
 λ_ _ _ H _ I h=>JL I hg hm hv ⟨v,H,I,r,h⟩ hn hd
variable {a b:Expr}{ta tb:TE}{pos:Pos}
noncomputable def tB(t:TE):TT:=λσ H Q=>t σ H λx H1=>∃c,x=.bl c/\Q c H1
theorem Xf{e:Expr}{t:TE}(h:PE X e t)(he:∀whole,isTrue e X.env whole=(do let v←whole;standAt e.pos;holding [v] (truthy v)):=by intro _;rfl):PT X e (tB t):=by
 intro pins s σ H Q I hw;refine isTrue_plain (ax (h pins s σ H _ I hw) λv s1⟨x,H1,I1,r1,q1⟩=>?_) (he _);obtain⟨d,rfl,q⟩:=q1;cases r1;exact wpAny_truthy_bool ⟨H1,I1,q⟩
variable {tA E6:TT}{rest:List Expr}
noncomputable def Ig(t u:TT):TT:=λσ H Q=>t σ H λc H1=>if c=true then u σ H1 Q else Q false H1
noncomputable def E7(t:TT):TT:=λσ H Q=>t σ H λc H1=>Q (!c) H1
theorem VO(ha:PT X a tA):PW X (.BoolOp .And [a] pos) tA:=by
 intro wh pins s σ H Q I h;refine isTrue_and (ax (ha pins s σ H Q I h) λc s1 e=>?_);cases c with
 |true=>exact isTrue_and_nil e
 |false=>exact e
theorem qt(ha:PT X a tA)(hb:PW X (.BoolOp .And (b::rest) pos) E6):PW X (.BoolOp .And (a::b::rest) pos) (Ig tA E6):=by
 intro wh pins s σ H Q I h;refine isTrue_and (ax (ha pins s σ H _ I h) λc s1⟨H1,I1,q1⟩=>?_);cases c with
 |true=>exact hb wh pins s1 σ H1 Q I1 q1
 |false=>exact⟨H1,I1,q1⟩
theorem qu(ha:PT X a tA):PT X (.UnaryOp .Not a pos) (E7 tA):=by
 intro pins s σ H Q I h;exact isTrue_not (ha pins s σ H (λc H1=>Q (!c) H1) I h)
noncomputable def Ih(t:TT)(ta tb:TE):TE:=λσ H Q=>t σ H λc H1=>if c=true then ta σ H1 Q else tb σ H1 Q
theorem Xw{c:Expr}(hc:PT X c tA)(ha:PE X a ta)(hb:PE X b tb):PE X (.IfExp c a b pos) (Ih tA ta tb):=by
 intro pins s σ H Q I h;refine wpAny_IfExp (ax (hc pins s σ H _ I h) λd s1⟨H1,I1,q1⟩=>?_);cases d with
 |true=>exact ha pins s1 σ H1 Q I1 q1
 |false=>exact hb pins s1 σ H1 Q I1 q1
end
noncomputable def aJ(K:Frag)(H:Hp)(a:Addr)(xs:List V):Prop:=
 Rd H a (.lst xs)\/
  ∃(o:Obj)(ad:Array Value)(n:Nat),K.lookup a=some o/\o.cls=.type "list"/\o.dict=none/\o.data=.seq ad n/\ad.size<=sizeLine/\Vals xs ad.toList
noncomputable def aN(K:Frag)(H:Hp)(a:Addr)(xs:List V):Prop:=
 Rd H a (.tup xs)\/
  ∃(o:Obj)(ad:Array Value)(n:Nat),K.lookup a=some o/\o.cls=.type "tuple"/\o.data=.seq ad n/\ad.size<=sizeLine/\Vals xs ad.toList
noncomputable def Ii:Value->Option V
 | .none=>some .ah
 | .bool b=>some (.bl b)
 | .int i _=>some (.int i)
 | .str x _=>some (.str x)
 | .bytes b _=>some (.dD b)
 | .float b _=>some (.pD b)
 | .ref a=>some (.ref a)
 | .type n=>some (.ty n)
 |_=>none
theorem RelV.abs{x:V}{u:Value}(r:RelV x u):Ii u=some x:=by
 cases x with
 |ah=>cases r;rfl
 |bl _=>cases r;rfl
 |int _=>obtain⟨t,rfl⟩:=r;rfl
 |str _=>obtain⟨t,rfl⟩:=r;rfl
 |dD _=>obtain⟨t,rfl⟩:=r;rfl
 |pD _=>obtain⟨t,rfl⟩:=r;rfl
 |ref _=>cases r;rfl
 |ty _=>cases r;rfl
theorem RelV.inj{x y:V}{u:Value}(r:RelV x u)(q:RelV y u):x=y:=nh (r.abs.symm.trans q.abs)
theorem Vals.inj:∀{xs ys:List V}{us:List Value},Vals xs us->Vals ys us->xs=ys
 |_,_,_,.nil,.nil=>rfl
 |_,_,_,.cons r t,.cons r' t'=>by rw[r.inj r',Vals.inj t t']
section
variable {X:Cx}{pins:List (Addr × Obj)}{σ:St}{H:Hp}{s:Shared}{a:Addr}{xs ys:List V}
theorem aN.of{K:Frag}(h:H a=some (.tup xs)):aN K H a xs:=.inl (.inl h)
theorem Inv.list(I:Inv X pins σ H s)(h:aJ X.K H a xs):∃ad:List Value,Vals xs ad/\PlainL s.heap a ad.toArray/\xs.length<=sizeLine:=by
 rcases h with h|⟨o,ad,n,hk,hc,hd,hs,hz,r⟩
 ·obtain⟨z,ad,n,r,e⟩:=h.ok I.aj;exact⟨ad,r,⟨_,n,e,ae,ae,ae⟩,z⟩
 ·refine⟨ad.toList,r,⟨o,n,I.bC a o hk,hc,hd,by simpa using hs⟩,?_⟩;have e:=r.length;simp only[nO]at e;lia
theorem Inv.tuple(I:Inv X pins σ H s)(h:aN X.K H a xs):∃ad:List Value,Vals xs ad/\IsTup s.heap a ad.toArray/\xs.length<=sizeLine:=by
 rcases h with h|⟨o,ad,n,hk,hc,hs,hz,r⟩
 ·obtain⟨z,ad,r,p⟩:=h.ok I.aj;exact⟨ad,r,p.tup,z⟩
 ·refine⟨ad.toList,r,⟨o,I.bC a o hk,hc,n,by simpa using hs⟩,?_⟩;have e:=r.length;simp only[nO]at e;lia
theorem Inv.zL(I:Inv X pins σ H s)(h:aJ X.K H a xs)(h':aJ X.K H a ys):xs=ys:=by
 obtain⟨ad,r,⟨o,n,e,_,_,d⟩,_⟩:=I.list h;obtain⟨its',r',⟨o',n',e',_,_,d'⟩,_⟩:=I.list h';rw[e]at e';cases e';rw[d]at d';injection d' with d1 _;have:ad=its':=by simpa using congrArg Array.toList d1
 subst this;exact r.inj r'
theorem Inv.WH(I:Inv X pins σ H s)(h:aN X.K H a xs)(h':aN X.K H a ys):xs=ys:=by
 obtain⟨ad,r,⟨o,e,_,n,d⟩,_⟩:=I.tuple h;obtain⟨its',r',⟨o',e',_,n',d'⟩,_⟩:=I.tuple h';rw[e]at e';cases e';rw[d]at d';injection d' with d1 _;have:ad=its':=by simpa using congrArg Array.toList d1
 subst this;exact r.inj r'
end
noncomputable abbrev Cx.zI(X:Cx)(E:Value->Shared->Prop):Cx:={X with xe:=E}
noncomputable abbrev Cx.dG(X:Cx):Cx:=X.zI λ_ _=>False
theorem Cx.Ok.zI{X:Cx}(ok:X.Ok)(E:Value->Shared->Prop):(X.zI E).Ok:=
 ⟨ok.mod,ok.kind,ok.glob,ok.blt,ok.above,ok.inj,ok.has,ok.rK,ok.hd,ok.frames,ok.uR,ok.EZ,ok.bs,ok.dR,ok.bB,ok.fQ,ok.qm,ok.pF⟩
theorem Cx.Ok.Xg{X:Cx}{E:Value->Shared->Prop}(ok:(X.zI E).Ok):X.Ok:=
 ⟨ok.mod,ok.kind,ok.glob,ok.blt,ok.above,ok.inj,ok.has,ok.rK,ok.hd,ok.frames,ok.uR,ok.EZ,ok.bs,ok.dR,ok.bB,ok.fQ,ok.qm,ok.pF⟩
section
variable {X:Cx}{pins:List (Addr × Obj)}{σ:St}{H:Hp}{s:Shared}{E:Value->Shared->Prop}
theorem Inv.zI(I:Inv X pins σ H s)(E:Value->Shared->Prop):Inv (X.zI E) pins σ H s:=⟨I.ok.zI E,I.os,I.bare,I.base,I.loc,I.cell,I.free,I.aG,I.pin,I.aj,I.len⟩
theorem Inv.Xg(I:Inv (X.zI E) pins σ H s):Inv X pins σ H s:=⟨I.ok.Xg,I.os,I.bare,I.base,I.loc,I.cell,I.free,I.aG,I.pin,I.aj,I.len⟩
theorem SP.Xg{D:Ends}{f:Flow}{s':Shared}(h:SP (X.zI E) pins D f s'):SP X pins D f s':=by
 cases f with
 |next=>obtain⟨σ',H',I,q⟩:=h;exact⟨σ',H',I.Xg,q⟩
 |brk=>obtain⟨σ',H',I,q⟩:=h;exact⟨σ',H',I.Xg,q⟩
 |cont=>obtain⟨σ',H',I,q⟩:=h;exact⟨σ',H',I.Xg,q⟩
 |ret u=>obtain⟨v,σ',H',I,r,q⟩:=h;exact⟨v,σ',H',I.Xg,r,q⟩
theorem bL.dG{st:List Stmt}{t:TS}(h:bL X.dG st t):bL X st t:=λpins s σ H D I hw=>
 wpAny_mono (h pins s σ H D (I.zI _) hw) (λ_ _ q=>q.Xg) λ_ _ z=>False.elim z
end
section
variable {X:Cx}{st:Stmt}{rest:List Stmt}{t u:TS}{e:Expr}{te:TE}{pos:Pos}
noncomputable def Q6:TS:=λD σ H=>D.nx σ H
noncomputable def JK(t u:TS):TS:=λD σ H=>t {D with nx:=u D} σ H
theorem Js:bL X [] Q6:=λ_ _ σ H _ I h=>wpAny_execs_nil ⟨σ,H,I,h⟩
theorem Qe(h1:PS X st t)(h2:bL X rest u):bL X (st::rest) (JK t u):=by
 intro pins s σ H D I h;refine wpAny_execs_cons (ax (h1 pins s σ H {D with nx:=u D} I h) λf s1 q=>?_);cases f with
 |next=>
  obtain⟨σ',H',I',q⟩:=q;exact h2 pins s1 σ' H' D I' q
 |ret v=>exact q
 |brk=>exact q
 |cont=>exact q
theorem Qk(h1:PS X st t):bL X [st] t:=by
 intro pins s σ H D I h;refine wpAny_execs_cons (ax (h1 pins s σ H D I h) λf s1 q=>?_);cases f with
 |next=>exact wpAny_execs_nil q
 |ret v=>exact q
 |brk=>exact q
 |cont=>exact q
theorem Inv.quiet{pins:List (Addr × Obj)}{σ:St}{H:Hp}{s:Shared}(I:Inv X pins σ H s):interactive X.env=false:=by simp[interactive,I.ok.kind]
noncomputable def Ij(te:TE):TS:=λD σ H=>te σ H λ_ H1=>D.nx σ H1
theorem XM(he:PE X e te)(hs:swapsWith e none pos.line X.env=pure false:=by rfl):PS X (.Expr e pos) (Ij te):=by
 intro pins s σ H D I h;exact wpAny_Expr_any (ax (he pins s σ H _ I h) λv s1⟨x,H1,I1,r1,q1⟩=>⟨σ,H1,I1,q1⟩) I.quiet hs
noncomputable def vE(te:TE):TS:=λD σ H=>te σ H D.rt
theorem Qy(he:PE X e te):PS X (.Return (some e) pos) (vE te):=by
 intro pins s σ H D I h;exact wpAny_Return_some (ax (he pins s σ H _ I h) λv s1⟨x,H1,I1,r1,q1⟩=>⟨x,σ,H1,I1,r1,q1⟩)
noncomputable def Bk(c:TT)(t u:TS):TS:=λD σ H=>c σ H λb H1=>if b=true then t D σ H1 else u D σ H1
theorem Xt{c:Expr}{a b:List Stmt}{tc:TT}(hc:PT X c tc)(ha:bL X a t)(hb:bL X b u):PS X (.If c a b pos) (Bk tc t u):=by
 intro pins s σ H D I h;refine wpAny_If (ax (hc pins s σ H _ I h) λd s1⟨H1,I1,q1⟩=>?_);cases d with
 |true=>exact ha pins s1 σ H1 D I1 q1
 |false=>exact hb pins s1 σ H1 D I1 q1
end
noncomputable abbrev TG:=V->St->Hp->(St->Hp->Prop)->Prop
noncomputable abbrev iS:=List V->St->Hp->(St->Hp->Prop)->Prop
noncomputable def PG(X:Cx)(target:Expr)(t:TG):Prop:=
 ∀(pins:List (Addr × Obj))(s:Shared)(σ:St)(H:Hp)(v:V)(u:Value)(Q:St->Hp->Prop),Inv X pins σ H s->RelV v u->t v σ H Q->
  wpAny (model X.prog X.w) X.A (assign target X.env u) (λ_ s'=>∃σ' H',Inv X pins σ' H' s'/\Q σ' H') X.xe s
noncomputable def rM(X:Cx)(ts:List Expr)(t:iS):Prop:=
 ∀(pins:List (Addr × Obj))(s:Shared)(σ:St)(H:Hp)(vs:List V)(us:List Value)(Q:St->Hp->Prop),Inv X pins σ H s->Vals vs us->t vs σ H Q->
  wpAny (model X.prog X.w) X.A (assignInOrder ((assignEach ts X.env).map (·.2)) us) (λ_ s'=>∃σ' H',Inv X pins σ' H' s'/\Q σ' H') X.xe s
noncomputable abbrev yY:=V->V->V->Hp->(Hp->Prop)->Prop
noncomputable def E8(X:Cx)(t:yY):Prop:=
 ∀(pins:List (Addr × Obj))(s:Shared)(σ:St)(H:Hp)(o i v:V)(ov iv u:Value)(Q:Hp->Prop),Inv X pins σ H s->RelV o ov->RelV i iv->RelV v u->t o i v H Q->
  wpAny (model X.prog X.w) X.A (setItem ov iv u) (λ_ s'=>∃H',Inv X pins σ H' s'/\Q H') X.xe s
section
variable {X:Cx}{pos:Pos}
noncomputable def QD(i:Nat):TG:=λv σ H Q=>Q (σ.set i (some v)) H
theorem Qg{i:Nat}{x:Str}(hN:X.N.Nodup)(hi:X.N[i]? =some x)(hx:Loc X.env.scope x)(hf:X.fn x=true\/X.env.scope.names.lookup x=some .local:=by first|exact .inl rfl|exact .inr rfl|assumption):PG X (.Name x pos) (QD i):=by
 intro pins s σ H v u Q I r h;exact wpAny_assign_Name (Xv I hN hi hx r (λs' I'=>⟨_,H,I',h⟩) hf)
noncomputable def E9:iS:=λvs σ H Q=>vs=[]/\Q σ H
noncomputable def k7(t:TG)(u:iS):iS:=λvs σ H Q=>∃v r,vs=v::r/\t v σ H λσ' H'=>u r σ' H' Q
theorem Q8:rM X [] E9:=by
 intro pins s σ H vs us Q I r h;obtain⟨e,h⟩:=h;subst e;cases r;exact assignInOrder_nil ⟨σ,H,I,h⟩
theorem Ql{e:Expr}{es:List Expr}{t:TG}{u:iS}(h1:PG X e t)(h2:rM X es u)
  (hs:(assignEach (e::es) X.env).map (·.2)=assign e X.env::(assignEach es X.env).map (·.2):=by rfl):rM X (e::es) (k7 t u):=by
 intro pins s σ H vs us Q I r h;obtain⟨v,vr,e1,h⟩:=h;subst e1;cases r with
 |cons r rr=>
  rw[hs];refine assignInOrder_cons (ax (h1 pins s σ H _ _ _ I r h) λ_ s1⟨σ1,H1,I1,q1⟩=>?_);exact h2 pins s1 σ1 H1 _ _ Q I1 rr q1
noncomputable def Bl(K:Frag)(n:Nat)(t:iS):TG:=λv σ H Q=>∃a xs,v=.ref a/\aN K H a xs/\xs.length=n/\t xs σ H Q
theorem JX{es:List Expr}{k:Nat}{t:iS}{n:Nat}(hc:X.calm=true)(h:rM X es t)
  (hn:(assignEach es X.env).length=n:=by rfl) (PP:(assignEach es X.env).findIdx? (·.1)=none:=by rfl):PG X (.Tuple es k pos) (Bl X.K n t):=by
 intro pins s σ H v u Q I r hw;obtain⟨a,xs,e1,hq,hl,hw⟩:=hw;subst e1;cases r;obtain⟨ad,rv,ht,hz⟩:=I.tuple hq;refine assign_Tuple_tuple (I.ok.hd hc) ht (by simp[hn, ←hl,rv.length]) PP λh' hx=>?_;have I1:Inv X pins σ H {s with heap:=h'}:=I.kept (t':=s.toks) λb o e=>hx b o (Nat.ne_of_lt (Heap.lt_size e)) e;exact h pins _ σ H xs _ Q I1 (by simpa using rv) hw
noncomputable def Ik(to ti:TE)(t:yY):TG:=λv σ H Q=>to σ H λo H1=>ti σ H1 λi H2=>t o i v H2 λH3=>Q σ H3
theorem kh{o i:Expr}{to ti:TE}{t:yY}(ho:PE X o to)(hi:PE X i ti)(hs:E8 X t)
  (ha:∀v,assign (.Subscript o i pos) X.env v=(do
   let ov←holding [v] (eval o X.env)
   let iv←holding [v,ov] (eval i X.env)
   standAt pos
   holding [v,ov,iv] (setItem ov iv v)
   release [v,ov,iv] []):=by intro _;rfl):PG X (.Subscript o i pos) (Ik to ti t):=by
 intro pins s σ H v u Q I r h;rw[ha];refine wpAny_bind (wpAny_holding (ax (ho pins s σ H _ I h) λov s1⟨x,H1,I1,r1,q1⟩=>?_));refine wpAny_bind (wpAny_holding (ax (hi pins s1 σ H1 _ I1 q1) λiv s2⟨y,H2,I2,r2,q2⟩=>?_));refine wpAny_bind (wpAny_standAt (wpAny_bind (wpAny_holding (ax (hs pins s2 σ H2 x y v ov iv u _ I2 r1 r2 r q2) λ_ s3⟨H3,I3,q3⟩=>?_))));exact wpAny_release ⟨σ,H3,I3,q3⟩
noncomputable def JF(te:TE)(g:TG):TS:=λD σ H=>te σ H λx H1=>g x σ H1 D.nx
theorem Kw{tg e:Expr}{te:TE}{g:TG}(he:PE X e te)(hg:PG X tg g)(hs:swapsWithSole [tg] e pos.line X.env=pure false:=by rfl)(hw:swappedStores [tg] e X.env=pure none:=by rfl)
  (h1:(assignEach [tg] X.env).map (·.2)=[assign tg X.env]:=by rfl):PS X (.Assign [tg] e pos) (JF te g):=by
 intro pins s σ H D I h;refine wpAny_Assign_stores (ax (he pins s σ H _ I h) λv s1⟨x,H1,I1,r1,q1⟩=>?_) hs hw;rw[h1];exact ax (hg pins s1 σ H1 x v _ I1 r1 q1) λ_ s2 q=>q
theorem Qz{i:Nat}{x:Str}{e:Expr}{te:TE}{pos':Pos}(hN:X.N.Nodup)(hi:X.N[i]? =some x)(hx:Loc X.env.scope x)(he:PE X e te)(hs:swapsWith e (some (.Name x pos')) pos.line X.env=pure false:=by rfl)(hf:X.fn x=true\/X.env.scope.names.lookup x=some .local:=by first|exact .inl rfl|exact .inr rfl|assumption):
  PS X (.Assign [.Name x pos'] e pos) (JF te (QD i)):=by
 intro pins s σ H D I h;refine wpAny_Assign_Name (ax (he pins s σ H _ I h) λv s1⟨y,H1,I1,r1,q1⟩=>?_) hs;exact Xv I1 hN hi hx r1 (λs2 I2=>⟨_,H1,I2,q1⟩) hf
noncomputable def Il(i j:Nat)(ta:TA):TS:=λD σ H=>ta σ H λvs H1=>∃v w,vs=[v,w]/\D.nx ((σ.set i (some v)).set j (some w)) H1
theorem vO{i j:Nat}{x y:Str}{a b:Expr}{ta:TA}{px py pt:Pos}{kt k2 Bm}(hc:X.calm=true)(hN:X.N.Nodup)(hi:X.N[i]? =some x)(hj:X.N[j]? =some y)(sw:i≠j)
  (hx:X.env.scope.names.lookup x=some .local) (hy:X.env.scope.names.lookup y=some .local) (ha:PA X [a,b] ta)
  (hw:swappedStores [.Tuple [.Name x px,.Name y py] kt pt] (.Tuple [a,b] k2 Bm) X.env=pure (some [x,y]))
  (hs:swapsWithSole [.Tuple [.Name x px,.Name y py] kt pt] (.Tuple [a,b] k2 Bm) pos.line X.env=pure false:=by rfl):
  PS X (.Assign [.Tuple [.Name x px,.Name y py] kt pt] (.Tuple [a,b] k2 Bm) pos) (Il i j ta):=by
 intro pins s σ H D I h;rw[exec_Assign_arm];refine wpAny_bind (wpAny_standAt ?_);rw[hs];refine wpAny_bind (wpAny_pure ?_);rw[if_neg (by decide)];refine wpAny_bind (Tuple_ (ax (ha _ pins s σ H _ I h) λus s1⟨vs,H1,I1,r1,q1⟩=>?_));obtain⟨v,w,e1,q1⟩:=q1;subst e1;obtain⟨u1,u2,rfl,rv,dH⟩:∃u1 u2,us=[u1,u2]/\RelV v u1/\RelV w u2:=by
  cases r1 with
  |cons p q=>
   cases q with
   |cons p' q'=>
    cases q';exact⟨_,_,ae,p,p'⟩
 refine wpAny_newObj_type ?_ (by show 2<=sizeLine;decide);have I2:Inv X pins σ H1 {s1 with heap:=s1.heap.push {cls:=.type "tuple",data:=.seq [u1,u2].toArray}}:=I1.kept (t':=s1.toks) λb o e=>Heap.get?_push_of_some _ e;rw[hw];refine wpAny_bind (wpAny_pure ?_);show wpAny (model X.prog X.w) X.A (do rule "assign.swapped-stores";let items←unpackItems (.ref s1.heap.objs.size) 2 none;assignInOrder [λv=>bindName X.env y v,λv=>bindName X.env x v] items.reverse;pure Flow.next) _ _ _;refine wpAny_bind (wpAny_rule (wpAny_bind (unpackItems_tuple (items:= #[u1,u2]) (I.ok.hd hc) (IsTup.new s1.heap _) λh' rN=>?_)));have I3:=I2.kept (h':=h') (t':=s1.toks) λb o e=>rN b o (Nat.ne_of_lt (Heap.lt_size e)) e;show wpAny _ _ (assignInOrder [λv=>bindName X.env y v,λv=>bindName X.env x v] [u2,u1]>>=λ_=>pure Flow.next) _ _ _;refine wpAny_bind (assignInOrder_cons (wpAny_bindName (Xv I3 hN hj (.inl hy) dH (λs2 I4=>?_) (.inr hy))));refine assignInOrder_cons (wpAny_bindName (Xv I4 hN hi (.inl hx) rv (λs3 I5=>assignInOrder_nil (wpAny_pure ?_)) (.inr hx)));rw[List.set_comm _ _ (Ne.symm sw)]at I5;exact⟨_,H1,I5,q1⟩
end
structure It where
 go:Nat->Hp->Prop
 bw:Nat->Hp->V->Hp->Prop
 stop:Nat->Hp->Prop
noncomputable def VP(X:Cx)(pins:List (Addr × Obj))(H:Hp)(b:Addr):Prop:=
 H b=none/\b≠X.env.locals/\b∉X.fs/\(b∈X.ex\/X.s₀.heap.objs.size<=b)/\(∀x c,X.env.cells.lookup x=some c->c≠b)/\∀p∈X.pn++pins,p.1≠b
theorem Inv.zM{X:Cx}{pins:List (Addr × Obj)}{σ:St}{H H':Hp}{s:Shared}{b:Addr}(I:Inv X pins σ H s)(hb:s.heap.objs.size<=b)(hn:H' b=none):VP X pins H' b:=by
 refine⟨hn,Nat.ne_of_gt (Nat.lt_of_lt_of_le I.lt hb),I.Ic hb,.inr (Nat.le_trans I.sz hb),λx c e z=>?_,λp hp z=>?_⟩
 ·obtain⟨v,q⟩:=I.cell x c e;exact absurd (Nat.lt_of_lt_of_le q.lt (by rw[z];exact hb)) (nU _)
 ·exact absurd (Nat.lt_of_lt_of_le (Heap.lt_size (I.pin p hp).1) (by rw[z];exact hb)) (nU _)
structure Turn(P:Program)(w:World)(K:Frag)(tg:Expr)(J:It)(fp:List Addr)(it:Addr)(tn:Nat->Heap->Prop):Prop where
 mem:it∈fp
 obj:∀i h,tn i h->∀b∈fp,∃o,h.get? b=some o/\∀v,o.data≠ .cell v
 keep:∀i h h',tn i h->(∀b∈fp,∀o,h.get? b=some o->h'.get? b=some o)->tn i h'
 item:∀(X:Cx),X.prog=P->X.w=w->X.K=K->X.calm=true->∀(i:Nat)(pins:List (Addr × Obj))(s:Shared)(σ:St)(H:Hp)(E:Value->Shared->Prop),Inv X pins σ H s->(∀b∈fp,VP X pins H b)->tn i s.heap->J.go i H->
  wpAny (model P w) X.A (pyNext (.ref it)) (λr s1=>∃u,r=some u/\
   wpAny (model P w) X.A (letOwnedTupleGo tg (.ref it) u) (λ_ s2=>∃x H',Inv X pins σ H' s2/\RelV x u/\J.bw i H x H'/\tn (i+1) s2.heap/\∀b∈fp,H' b=none) E s1) E s
 done:∀(X:Cx),X.prog=P->X.w=w->X.K=K->X.calm=true->∀(i:Nat)(pins:List (Addr × Obj))(s:Shared)(σ:St)(H:Hp)(E:Value->Shared->Prop),Inv X pins σ H s->(∀b∈fp,VP X pins H b)->tn i s.heap->J.stop i H->
  wpAny (model P w) X.A (pyNext (.ref it)) (λr s1=>r=none/\Inv X pins σ H s1) E s
 self:∀(A:Around)(i:Nat)(s:Shared)(Q:Value->Shared->Prop)(E:Value->Shared->Prop),tn i s.heap->Q (.ref it) s->wpAny (model P w) A (pyIter (.ref it)) Q E s
noncomputable abbrev TI:=St->Hp->(It->Hp->Prop)->Prop
noncomputable def Fb(X:Cx)(pins:List (Addr × Obj))(σ:St)(tg:Expr)(R:It->Hp->Prop)(lP:Value)(s2:Shared):Prop:=
 ∃(it:Addr)(fp:List Addr)(tn:Nat->Heap->Prop)(J:It)(H':Hp),lP=.ref it/\Inv X pins σ H' s2/\Turn X.prog X.w X.K tg J fp it tn/\tn 0 s2.heap/\(∀b∈fp,VP X pins H' b)/\R J H'
noncomputable def PI(X:Cx)(tg iter:Expr)(wi:TI):Prop:=
 ∀(pins:List (Addr × Obj))(s:Shared)(σ:St)(H:Hp)(R:It->Hp->Prop),Inv X pins σ H s->wi σ H R->
  wpAny (model X.prog X.w) X.A (eval iter X.env) (λv s1=>wpAny (model X.prog X.w) X.A (pyIter v) (Fb X pins σ tg R) X.xe s1) X.xe s
theorem zN{M:Model}{A:Around}{E:Value->Shared->Prop}{s:Shared}{tg:Expr}{it:Addr}{u:Value}{o:Obj}{n:String}{vs:Array Value}{Q:Unit->Shared->Prop}(ho:s.heap.get? it=some o)(hc:o.cls=.type n)(hd:o.data=.fields vs)
  (hn:["enumerate","zip","dict_itemiterator","dict_reverseitemiterator","odict_iterator","itertools.zip_longest","itertools.pairwise"].contains n=false) (hQ:Q () s):wpAny M A (letOwnedTupleGo tg (.ref it) u) Q E s:=by
 unfold letOwnedTupleGo;cases tg<;>first
  |exact wpAny_pure hQ
  |(cases u<;>first
    |exact wpAny_pure hQ
    |(refine wpAny_bind (wpAny_load ho ?_)
      rw[hc,hd];show wpAny M A (if(["enumerate","zip","dict_itemiterator","dict_reverseitemiterator","odict_iterator","itertools.zip_longest","itertools.pairwise"].contains n&&vs[0]? ==some (rawInt _))=true then _ else _) Q E s;rw[if_neg (by intro h;rw[hn,Bool.false_and]at h;cases h)];exact wpAny_pure hQ))
noncomputable def Bn(K:Frag)(a:Addr):It:=
 ⟨λi H=>∃xs x,aJ K H a xs/\xs[i]? =some x,λi H x H'=>H'=H/\∀xs,aJ K H a xs->xs[i]? =some x,λi H=>∃xs,aJ K H a xs/\xs.length<=i⟩
noncomputable def Bo(K:Frag)(a:Addr):It:=
 ⟨λi H=>∃xs x,aN K H a xs/\xs[i]? =some x,λi H x H'=>H'=H/\∀xs,aN K H a xs->xs[i]? =some x,λi H=>∃xs,aN K H a xs/\xs.length<=i⟩
noncomputable def lQ(lo:Int)(n:Nat):It:=⟨λi _=>i<n,λi H x H'=>H'=H/\x=.int (lo+i),λi _=>n<=i⟩
theorem qv{P:Program}{w:World}{K:Frag}{tg:Expr}(a it:Addr):Turn P w K tg (Bn K a) [it] it (λi h=>h.IsListIter it a i) where
 mem:=by simp
 obj:=λi h st b hb=>by
  have e:b=it:=by simpa using hb
  subst e;obtain⟨o,e,c,d⟩:=st;exact⟨o,e,λv z=>by rw[d]at z;cases z⟩
 keep:=λi h h' st k=>st.at λo e=>k it (by simp) o e
 item:=by
  intro X hP hw hK hc i pins s σ H E I hf st hg;subst hP hw hK;obtain⟨xs,x,hq,hx⟩:=hg;obtain⟨ad,rv,p,hz⟩:=I.list hq;obtain⟨u,hu,ru⟩:=rv.get hx;obtain⟨f0,f1,f2,f3,f4,f5⟩:=hf it (by simp);refine wpAny_pyNext_list_item st p.isList (x:=u) (by simpa using hu) λh' EQ sb=>?_;have I1:Inv X pins σ H {s with heap:=h'}:=I.turned (t':=s.toks) (λb o hb e=>(sb.2 b hb).trans e) f0 f1 f3 f4 f5;obtain⟨o,e,c,d⟩:=id EQ;exact⟨u,ae,zN (s:={s with heap:=h'}) e c d (by decide) ⟨x,H,I1,ru,⟨ae,λys hy=>by rw[I.zL hy hq];exact hx⟩,EQ,λb hb=>(hf b hb).1⟩⟩
 done:=by
  intro X hP hw hK hc i pins s σ H E I hf st hg;subst hP hw hK;obtain⟨xs,hq,hx⟩:=hg;obtain⟨ad,rv,p,hz⟩:=I.list hq;obtain⟨f0,f1,f2,f3,f4,f5⟩:=hf it (by simp);have hl:=rv.length;exact wpAny_pyNext_list_end (I.ok.hd hc) st p.isList (by simp;lia) λh' eb=>⟨ae,I.turned (t':=s.toks) (λb o hb e=>eb b o hb e) f0 f1 f3 f4 f5⟩
 self:=λ_ _ _ _ _ st h=>wpAny_pyIter_listiter st h
theorem UC{P:Program}{w:World}{K:Frag}{tg:Expr}(a it:Addr):Turn P w K tg (Bo K a) [it] it (λi h=>h.IsTupleIter it a i) where
 mem:=by simp
 obj:=λi h st b hb=>by
  have e:b=it:=by simpa using hb
  subst e;obtain⟨o,e,c,d⟩:=st;exact⟨o,e,λv z=>by rw[d]at z;cases z⟩
 keep:=λi h h' st k=>st.at λo e=>k it (by simp) o e
 item:=by
  intro X hP hw hK hc i pins s σ H E I hf st hg;subst hP hw hK;obtain⟨xs,x,hq,hx⟩:=hg;obtain⟨ad,rv,p,hz⟩:=I.tuple hq;obtain⟨u,hu,ru⟩:=rv.get hx;obtain⟨f0,f1,f2,f3,f4,f5⟩:=hf it (by simp);refine wpAny_pyNext_tuple_item st (show s.heap.IsTuple a ad.toArray from p) (x:=u) (by simpa using hu) λh' EQ sb=>?_;have I1:Inv X pins σ H {s with heap:=h'}:=I.turned (t':=s.toks) (λb o hb e=>(sb.2 b hb).trans e) f0 f1 f3 f4 f5;obtain⟨o,e,c,d⟩:=id EQ;exact⟨u,ae,zN (s:={s with heap:=h'}) e c d (by decide) ⟨x,H,I1,ru,⟨ae,λys hy=>by rw[I.WH hy hq];exact hx⟩,EQ,λb hb=>(hf b hb).1⟩⟩
 done:=by
  intro X hP hw hK hc i pins s σ H E I hf st hg;subst hP hw hK;obtain⟨xs,hq,hx⟩:=hg;obtain⟨ad,rv,p,hz⟩:=I.tuple hq;obtain⟨f0,f1,f2,f3,f4,f5⟩:=hf it (by simp);have hl:=rv.length;exact wpAny_pyNext_tuple_end (I.ok.hd hc) st (show s.heap.IsTuple a ad.toArray from p) (by simp;lia) λh' eb=>⟨ae,I.turned (t':=s.toks) (λb o hb e=>eb b o hb e) f0 f1 f3 f4 f5⟩
 self:=λ_ _ _ _ _ st h=>wpAny_pyIter_tupleiter st h
theorem UD{P:Program}{w:World}{K:Frag}{tg:Expr}(it:Addr)(lo:Int)(n:Nat):Turn P w K tg (lQ lo n) [it] it (λi h=>IsRangeIter h it (lo+(i:Nat)*1) ((n:Int)-(i:Nat)) 1) where
 mem:=by simp
 obj:=λi h st b hb=>by
  have e:b=it:=by simpa using hb
  subst e;exact⟨_,st,λv z=>by
   have z':Data.fields _=Data.cell v:=z;cases z'⟩
 keep:=λi h h' st k=>k it (by simp) _ st
 item:=by
  intro X hP hw hK hc i pins s σ H E I hf st hg;subst hP hw hK;obtain⟨f0,f1,f2,f3,f4,f5⟩:=hf it (by simp);have W:=Walks.range (prog:=X.prog) (w:=X.w) (I.ok.hd hc) it lo 1 n;refine W.item i s _ _ hg st λv h' tk hv EQ kk=>?_;obtain⟨t,rfl⟩:=hv;have I1:Inv X pins σ H {s with heap:=h',toks:=tk}:=I.turned (λb o hb e=>kk b o (by simpa using hb) e) f0 f1 f3 f4 f5;refine⟨_,ae,zN (s:={s with heap:=h',toks:=tk}) (n:="range_iterator") EQ rfl rfl (by decide) ⟨.int (lo+i),H,I1,⟨t,?_⟩,⟨ae,ae⟩,EQ,λb hb=>(hf b hb).1⟩⟩;rw[Int.mul_one]
 done:=by
  intro X hP hw hK hc i pins s σ H E I hf st hg;subst hP hw hK;obtain⟨f0,f1,f2,f3,f4,f5⟩:=hf it (by simp);exact wpAny_pyNext_range_end (I.ok.hd hc) st (by have:n<=i:=hg;lia) λh' eb=>⟨ae,I.turned (t':=s.toks) (λb o hb e=>eb b o hb e) f0 f1 f3 f4 f5⟩
 self:=λ_ _ _ _ _ st h=>wpAny_pyIter_rangeiter st h
section
variable {X:Cx}{tg:Expr}
noncomputable def k8(K:Frag)(tl:TE):TI:=λσ H R=>tl σ H λx H1=>∃a,x=.ref a/\(∃xs,aJ K H1 a xs)/\R (Bn K a) H1
noncomputable def Fc(K:Frag)(tl:TE):TI:=λσ H R=>tl σ H λx H1=>∃a,x=.ref a/\(∃xs,aN K H1 a xs)/\R (Bo K a) H1
theorem JP{l:Expr}{tl:TE}(hl:PE X l tl):PI X tg l (k8 X.K tl):=by
 intro pins s σ H R I h;refine ax (hl pins s σ H _ I h) λv s1⟨x,H1,I1,r1,q1⟩=>?_;obtain⟨a,e,⟨xs,hq⟩,q⟩:=q1;subst e;cases r1;obtain⟨ad,rv,p,hz⟩:=I1.list hq;refine wpAny_pyIter_list p.isList ?_;refine⟨s1.heap.objs.size,[s1.heap.objs.size],_,_,H1,ae,I1.kept (t':=s1.toks) λb o e=>Heap.get?_push_of_some _ e,qv a _,⟨_,Heap.get?_push_size _ rfl,ae,ae⟩,λb hb=>?_,q⟩;have e:b=s1.heap.objs.size:=by simpa using hb
 subst e;exact I1.zM (ng _) (I1.aj.fresh (ng _))
theorem ZJ{l:Expr}{tl:TE}(hl:PE X l tl):PI X tg l (Fc X.K tl):=by
 intro pins s σ H R I h;refine ax (hl pins s σ H _ I h) λv s1⟨x,H1,I1,r1,q1⟩=>?_;obtain⟨a,e,⟨xs,hq⟩,q⟩:=q1;subst e;cases r1;obtain⟨ad,rv,p,hz⟩:=I1.tuple hq;refine wpAny_pyIter_tuple (show s1.heap.IsTuple a ad.toArray from p) ?_;refine⟨s1.heap.objs.size,[s1.heap.objs.size],_,_,H1,ae,I1.kept (t':=s1.toks) λb o e=>Heap.get?_push_of_some _ e,UC a _,⟨_,Heap.get?_push_size _ rfl,ae,ae⟩,λb hb=>?_,q⟩;have e:b=s1.heap.objs.size:=by simpa using hb
 subst e;exact I1.zM (ng _) (I1.aj.fresh (ng _))
theorem zO{pins:List (Addr × Obj)}{σ:St}{H:Hp}{s:Shared}{R:It->Hp->Prop}{E:Value->Shared->Prop}{lo hi:Int}{t u v:Tok}{tk:Nat}(I:Inv X pins σ H s)(h1: -(2^62)<=lo)(h2:lo<2^62)(h3: -(2^62)<=hi)(h4:hi<2^62)
  (q:R (lQ lo (hi-lo).toNat) H):wpAny (model X.prog X.w) X.A (pyIter (.ref s.heap.objs.size)) (Fb X pins σ tg R) E {s with heap:=s.heap.push {cls:=.type "range",data:=.fields #[.int lo t,.int hi u,.int 1 v]},toks:=tk}:=by
 refine wpAny_pyIter_range (IsRange.new ..) (small_one h1 h2 h3 h4) ?_;have I1:Inv X pins σ H {s with heap:=s.heap.push {cls:=.type "range",data:=.fields #[.int lo t,.int hi u,.int 1 v]},toks:=tk}:=I.kept λb o e=>Heap.get?_push_of_some _ e;refine⟨(s.heap.push {cls:=.type "range",data:=.fields #[.int lo t,.int hi u,.int 1 v]}).objs.size,[(s.heap.push {cls:=.type "range",data:=.fields #[.int lo t,.int hi u,.int 1 v]}).objs.size],_,_,H,ae,
  I1.kept (t':=tk) λb o e=>Heap.get?_push_of_some _ e,UD _ lo (hi-lo).toNat,?_,λb hb=>?_,q⟩
 ·have e1:lo+((0:Nat):Int)*1=lo:=by simp
  have e2:(((hi-lo).toNat:Nat):Int)-((0:Nat):Int)=Builtin.Range.rangeSize lo hi 1:=by rw[rangeSize_one];split<;>lia
  show IsRangeIter _ _ (lo+((0:Nat):Int)*1) ((((hi-lo).toNat:Nat):Int)-((0:Nat):Int)) 1;rw[e1,e2];exact Heap.get?_push_size _ rfl
 ·have e:b=(s.heap.push {cls:=.type "range",data:=.fields #[.int lo t,.int hi u,.int 1 v]}).objs.size:=by simpa using hb
  subst e;exact I1.zM (ng _) (I1.aj.fresh (ng _))
noncomputable def Im(ta:TA):TI:=λσ H R=>ta σ H λvs H1=>∃j:Int,vs=[.int j]/\ -(2^62)<=j/\j<2^62/\R (lQ 0 j.toNat) H1
theorem WI{a:Expr}{ta:TA}{p pos:Pos}(hg:Gl X "range")(hm:X.mg "range"=none)(ha:PA X [a] ta)(hs:starEach [a] X.env=[(false,eval a X.env)]:=by rfl):PI X tg (.Call (.Name "range" p) [a] [] pos) (Im ta):=by
 intro pins s σ H R I h;refine Call_ (JL I hg hm boot_range (PyProof.Rows.callWith_type1 (ax (ha pos pins s σ H _ I h) λus s1⟨vs,H1,I1,r1,q1⟩=>?_) hs ae));obtain⟨j,e,q1,q2,q⟩:=q1;subst e;cases r1 with
 |cons r rr=>
  cases rr;obtain⟨t,rfl⟩:=r;exact call_range_1 (zO I1 (by lia) (by lia) q1 q2 (by simpa using q))
noncomputable def Fd(wi:TI)(g:TG)(tb:TS):TS:=λD σ H=>wi σ H λJ H1=>∃W:Nat->Nat->St->Hp->Prop,(∃m,W 0 m σ H1)/\∀i m σ H,W i m σ H->
 (J.stop i H/\D.nx σ H)\/(J.go i H/\∃N:St->Hp->Prop,(∀σ' H',N σ' H'->∃m',m'<m/\W (i+1) m' σ' H')/\∀x H',J.bw i H x H'->g x σ H' λσ2 H2=>tb {D with nx:=N,ct:=N,bk:=D.nx} σ2 H2)
noncomputable def Ju(fp:List Addr)(h:Heap):List (Addr × Obj):=fp.filterMap λb=>(h.get? b).map λo=>(b,o)
theorem Qp{fp:List Addr}{h:Heap}{b:Addr}{o:Obj}(hb:b∈fp)(e:h.get? b=some o):(b,o)∈Ju fp h:=List.mem_filterMap.mpr ⟨b,hb,by rw[e];rfl⟩
theorem ZK{fp:List Addr}{h:Heap}{p:Addr × Obj}(hp:p∈Ju fp h):p.1∈fp/\h.get? p.1=some p.2:=by
 obtain⟨b,hb,e⟩:=List.mem_filterMap.mp hp;cases q:h.get? b with
 |none=>rw[q]at e;cases e
 |some o=>
  rw[q]at e;have e':(b,o)=p:=nh e;subst e';exact⟨hb,q⟩
theorem Inv.pinned{pins:List (Addr × Obj)}{σ:St}{H:Hp}{s:Shared}{fp:List Addr}(I:Inv X pins σ H s)(hf:∀b∈fp,VP X pins H b) (ho:∀b∈fp,∃o,s.heap.get? b=some o/\∀v,o.data≠ .cell v):Inv X (pins++Ju fp s.heap) σ H s:=
 I.Q4 λp hp=>(List.mem_append.mp hp).elim (λz=>I.pin p (nu _ z)) λz=>by
  obtain⟨hb,e⟩:=ZK z;obtain⟨f0,f1,f2,_⟩:=hf p.1 hb;obtain⟨o,e',d⟩:=ho p.1 hb;rw[e]at e';cases e';exact⟨e,f0,f1,f2,d⟩
theorem Inv.QL{pins pl:List (Addr × Obj)}{σ:St}{H:Hp}{s:Shared}(I:Inv X (pins++pl) σ H s):Inv X pins σ H s:=I.Q4 λp hp=>I.pin p (nu _ (ny _ hp))
theorem Xh{iter:Expr}{body:List Stmt}{wi:TI}{g:TG}{tb:TS}{pos:Pos}(hp:PassesOwn (model X.prog X.w) X.A X.env X.xe)(hc:X.calm=true)(hi:PI X tg iter wi)(hg:PG X tg g)(hb:bL X body tb)
  (hs:∀x,foldedSetIterable iter X.env x=pure x:=by intro _;rfl):PS X (.For tg iter body [] pos) (Fd wi g tb):=by
 intro pins s σ H D I h;refine wpAny_For (ax (hi pins s σ H _ I h) λv s1 h1=>ax h1 λlP s2 h2=>?_) hs;obtain⟨it,fp,tn,J,H2,e,I2,T,cn,f2,W,⟨m0,w0⟩,turn⟩:=h2;subst e;have Xr:∀{H':Hp},(∀b∈fp,H' b=none)->∀b∈fp,VP X pins H' b:=λhn b hb=>⟨hn b hb,(f2 b hb).2⟩;refine codeAny_forLoop_any (λn s'=>∃i σ' H',Inv X pins σ' H' s'/\tn i s'.heap/\(∀b∈fp,H' b=none)/\W i n σ' H') ?_ m0 ⟨0,σ,H2,I2,cn,λb hb=>(f2 b hb).1,w0⟩;rintro n s3 ⟨i,σ3,H3,I3,bT,Fe,w3⟩;rcases turn i n σ3 H3 w3 with⟨stop,qn⟩|⟨go,N,hN,step⟩
 ·refine wpAny_passesOwn hp (ax (T.done X ae ae ae hc i pins s3 σ3 H3 X.xe I3 (Xr Fe) bT stop) λr s4⟨hr,I4⟩=>?_);subst hr;exact wpAny_execs_nil ⟨σ3,H3,I4,qn⟩
 ·refine wpAny_passesOwn hp (ax (T.item X ae ae ae hc i pins s3 σ3 H3 X.xe I3 (Xr Fe) bT go) λr s4⟨u,hr,h4⟩=>?_);subst hr;refine wpAny_passesOwn hp (ax h4 λ_ s5⟨x,H5,I5,r5,y5,No,ST⟩=>?_);have Io:=I5.pinned (Xr ST) (T.obj _ _ No);refine wpAny_passesOwn hp (ax (hg _ s5 σ3 H5 x u _ Io r5 (step x H5 y5)) λ_ s6⟨σ6,H6,I6,q6⟩=>?_);refine wpAny_passesOwn hp (ax (hb _ s6 σ6 H6 _ I6 q6) λf s7 q7=>?_);have again:∀{σ7:St}{H7:Hp},Inv X (pins++Ju fp s5.heap) σ7 H7 s7->N σ7 H7->∃m,m<n/\∃i σ' H',Inv X pins σ' H' s7/\tn i s7.heap/\(∀b∈fp,H' b=none)/\W i m σ' H':=λ{σ7 H7} I7 n7=>by
   obtain⟨m',hm,w7⟩:=hN σ7 H7 n7;refine⟨m',hm,i+1,σ7,H7,I7.QL,T.keep _ _ _ No λb hb o e=>(I7.pin (b,o) (nu _ (nu _ (Qp hb e)))).1,λb hb=>?_,w7⟩;obtain⟨o,e,d⟩:=T.obj _ _ No b hb;exact(I7.pin (b,o) (nu _ (nu _ (Qp hb e)))).2.1
  cases f with
  |next=>obtain⟨σ7,H7,I7,n7⟩:=q7;exact again I7 n7
  |cont=>obtain⟨σ7,H7,I7,n7⟩:=q7;exact again I7 n7
  |brk=>obtain⟨σ7,H7,I7,q7⟩:=q7;exact⟨σ7,H7,I7.QL,q7⟩
  |ret v=>obtain⟨x7,σ7,H7,I7,r7,q7⟩:=q7;exact⟨x7,σ7,H7,I7.QL,r7,q7⟩
end
theorem qw{lo:Int}{n:Nat}{g:TG}{tb:TS}{D:Ends}{σ:St}{H:Hp}(Pv:Nat->St->Hp->Prop)(h0:Pv 0 σ H)
  (hs:∀i σ H,i<n->Pv i σ H->g (.int (lo+i)) σ H λσ2 H2=>tb {D with nx:=Pv (i+1),ct:=Pv (i+1),bk:=D.nx} σ2 H2) (hd:∀σ H,Pv n σ H->D.nx σ H):
  ∃W:Nat->Nat->St->Hp->Prop,(∃m,W 0 m σ H)/\∀i m σ H,W i m σ H->
   ((lQ lo n).stop i H/\D.nx σ H)\/((lQ lo n).go i H/\∃N:St->Hp->Prop,(∀σ' H',N σ' H'->∃m',m'<m/\W (i+1) m' σ' H')/\∀x H',(lQ lo n).bw i H x H'->g x σ H' λσ2 H2=>tb {D with nx:=N,ct:=N,bk:=D.nx} σ2 H2):=by
 refine⟨λi m σ H=>m=n-i/\i<=n/\Pv i σ H,⟨n,by simp,nR _,h0⟩,?_⟩;rintro i m σ H ⟨rfl,hi,p⟩
 by_cases bi:i<n
 ·refine .inr ⟨bi,Pv (i+1),λσ' H' p'=>⟨n-(i+1),by lia,ae,bi,p'⟩,λx H' y=>?_⟩;obtain⟨e,y⟩:=y;subst e y;exact hs i σ _ bi p
 ·have e:i=n:=by lia
  subst e;exact .inl ⟨ng _,hd σ H p⟩
noncomputable abbrev R2:=V->V->Hp->VK->Prop
noncomputable def aU(X:Cx)(f:Value->Value->Sem Value)(r:R2):Prop:=
 ∀(pins:List (Addr × Obj))(s:Shared)(σ:St)(H:Hp)(x y:V)(v u:Value)(Q:VK),Inv X pins σ H s->RelV x v->RelV y u->r x y H Q->
  wpAny (model X.prog X.w) X.A (f v u) (EP X pins σ Q) X.xe s
noncomputable def Bp(X:Cx)(f:Value->Sem Value)(r:V->Hp->VK->Prop):Prop:=
 ∀(pins:List (Addr × Obj))(s:Shared)(σ:St)(H:Hp)(x:V)(v:Value)(Q:VK),Inv X pins σ H s->RelV x v->r x H Q->
  wpAny (model X.prog X.w) X.A (f v) (EP X pins σ Q) X.xe s
noncomputable def Xu(X:Cx)(f:Value)(r:List V->Hp->VK->Prop):Prop:=
 ∀(pins:List (Addr × Obj))(s:Shared)(σ:St)(H:Hp)(xs:List V)(us:List Value)(Q:VK),Inv X pins σ H s->Vals xs us->r xs H Q->
  wpAny (model X.prog X.w) X.A (call f us) (EP X pins σ Q) X.xe s
noncomputable def Iq(X:Cx)(r:V->Hp->(Bool->Hp->Prop)->Prop):Prop:=
 ∀(pins:List (Addr × Obj))(s:Shared)(σ:St)(H:Hp)(x:V)(v:Value)(Q:Bool->Hp->Prop),Inv X pins σ H s->RelV x v->r x H Q->
  wpAny (model X.prog X.w) X.A (truthy v) (TP X pins σ Q) X.xe s
noncomputable def fR(r:R2)(ta tb:TE):TE:=λσ H Q=>ta σ H λx H1=>tb σ H1 λy H2=>r x y H2 Q
noncomputable def Ir(r:V->Hp->VK->Prop)(ta:TE):TE:=λσ H Q=>ta σ H λx H1=>r x H1 Q
noncomputable def rI(C:Int->Int->Prop)(g:Int->Int->V):R2:=λx y H Q=>∃i j,x=.int i/\y=.int j/\C i j/\Q (g i j) H
noncomputable def lR(g:Int->Int->V):R2:=λx y H Q=>∃i j,x=.int i/\y=.int j/\Q (g i j) H
noncomputable def rU(g:Int->V):V->Hp->VK->Prop:=λx H Q=>∃i,x=.int i/\Q (g i) H
section
variable {X:Cx}{a b c:Expr}{ta tb tc:TE}{pos:Pos}
theorem Bq(ha:PE X a ta)(hb:PE X b tb){pins:List (Addr × Obj)}{s:Shared}{σ:St}{H:Hp}{R:V->V->Hp->Prop}(I:Inv X pins σ H s)
  (h:ta σ H λx H1=>tb σ H1 λy H2=>R x y H2) {Q:Value->Shared->Prop} {f:Value->Value->Sem Value}
  (hf:∀v u s2 x y H2,Inv X pins σ H2 s2->RelV x v->RelV y u->R x y H2->wpAny (model X.prog X.w) X.A (f v u) Q X.xe s2):
  wpAny (model X.prog X.w) X.A (eval a X.env) (λv s₁=>wpAny (model X.prog X.w) X.A (eval b X.env) (λu s₂=>wpAny (model X.prog X.w) X.A (f v u) Q X.xe s₂) X.xe s₁) X.xe s:=by
 refine ax (ha pins s σ H _ I h) λv s1⟨x,H1,I1,r1,q1⟩=>?_;refine ax (hb pins s1 σ H1 _ I1 q1) λu s2⟨y,H2,I2,r2,q2⟩=>?_;exact hf v u s2 x y H2 I2 r1 r2 q2
theorem QF{op:Operator}{r:R2}(ho:aU X (binaryOp op) r)(ha:PE X a ta)(hb:PE X b tb):PE X (.BinOp a op b pos) (fR r ta tb):=by
 intro pins s σ H Q I h;exact wpAny_BinOp (Bq ha hb I h λv u s2 x y H2 I2 rx ry q=>ho pins s2 σ H2 x y v u Q I2 rx ry q)
theorem zP{op:UnaryOp}{r:V->Hp->VK->Prop}(ho:Bp X (unaryOp op) r)(ha:PE X a ta):PE X (.UnaryOp op a pos) (Ir r ta):=by
 intro pins s σ H Q I h;exact UnaryOp_ (ax (ha pins s σ H _ I h) λv s1⟨x,H1,I1,r1,q1⟩=>ho pins s1 σ H1 x v Q I1 r1 q1)
theorem pG{f:Value->Value->Sem Value}{C:Int->Int->Prop}{g:Int->Int->Int}
  (rule:∀(i j:Int)(t u:Tok)(s:Shared)(Q:Value->Shared->Prop)(E:Value->Shared->Prop),C i j->Q (.int (g i j) s.toks) {s with toks:=s.toks+1}->wpAny (model X.prog X.w) X.A (f (.int i t) (.int j u)) Q E s):
  aU X f (rI C λi j=>.int (g i j)):=by
 intro pins s σ H x y v u Q I rx ry h;obtain⟨i,j,rfl,rfl,hc,q⟩:=h;obtain⟨t,rfl⟩:=rx;obtain⟨t',rfl⟩:=ry;exact rule i j t t' s _ _ hc ⟨.int (g i j),H,I.tok _,⟨_,ae⟩,q⟩
theorem Ff{f:Value->Value->Sem Value}{g:Int->Int->Int}
  (rule:∀(i j:Int)(t u:Tok)(s:Shared)(Q:Value->Shared->Prop)(E:Value->Shared->Prop),Q (.int (g i j) s.toks) {s with toks:=s.toks+1}->wpAny (model X.prog X.w) X.A (f (.int i t) (.int j u)) Q E s):
  aU X f (lR λi j=>.int (g i j)):=by
 intro pins s σ H x y v u Q I rx ry h;obtain⟨i,j,rfl,rfl,q⟩:=h;obtain⟨t,rfl⟩:=rx;obtain⟨t',rfl⟩:=ry;exact rule i j t t' s _ _ ⟨.int (g i j),H,I.tok _,⟨_,ae⟩,q⟩
theorem Br{f:Value->Value->Sem Value}{g:Int->Int->Bool}
  (rule:∀(i j:Int)(t u:Tok)(s:Shared)(Q:Value->Shared->Prop)(E:Value->Shared->Prop),Q (.bool (g i j)) s->wpAny (model X.prog X.w) X.A (f (.int i t) (.int j u)) Q E s):
  aU X f (lR λi j=>.bl (g i j)):=by
 intro pins s σ H x y v u Q I rx ry h;obtain⟨i,j,rfl,rfl,q⟩:=h;obtain⟨t,rfl⟩:=rx;obtain⟨t',rfl⟩:=ry;exact rule i j t t' s _ _ ⟨.bl (g i j),H,I,ae,q⟩
noncomputable def Iu(i j:Int):Prop:=0<j/\j<1073741824
noncomputable def Iv(i j:Int):Prop:=0<=j/\j<=1000000/\i.natAbs<2^64
noncomputable def Bs(i j:Int):Prop:=(-(2^64)<i/\i<2^64)\/(-(2^64)<j/\j<2^64)
theorem Bs.ok{i j:Int}(h:Bs i j):IntMulOk i j:=by
 rcases h with⟨h1,h2⟩|⟨h1,h2⟩
 ·exact .of_left (intBits_le_64 h1 h2)
 ·exact .of_right (intBits_le_64 h1 h2)
theorem Xi:aU X (binaryOp .Add) (lR λi j=>.int (i+j)):=Ff λ_ _ _ _ _ _ _ q=>add_int q
theorem ZL:aU X (binaryOp .Sub) (lR λi j=>.int (i-j)):=Ff λ_ _ _ _ _ _ _ q=>sub_int q
theorem qx:aU X (binaryOp .Mult) (rI Bs λi j=>.int (i*j)):=pG λ_ _ _ _ _ _ _ hc q=>mul_int q hc.ok
theorem VQ:aU X (binaryOp .FloorDiv) (rI Iu λi j=>.int (i/j)):=pG λi j _ _ _ _ _ hc q=>by
 have h1:(0:Int)<j:=hc.1;have h2:j<1073741824:=hc.2;exact floordiv_int (by lia) (by rw[Int.fdiv_eq_ediv_of_nonneg i (by lia)];exact q) (.inl (PyProof.noPylong_small (by lia)))
theorem Kx:aU X (binaryOp .Mod) (rI (λ_ j=>0<j) λi j=>.int (i % j)):=pG λi j _ _ _ _ _ hc q=>by
 have h1:(0:Int)<j:=hc;exact mod_int' (by lia) (by rw[Int.fmod_eq_emod_of_nonneg i (by lia)];exact q)
theorem ki:aU X (binaryOp .Pow) (rI Iv λi j=>.int (i^j.toNat)):=pG λ_ _ _ _ _ _ _ hc q=>pow_int_small hc.1 hc.2.1 hc.2.2 q
theorem Iw{f:Value->Sem Value}{g:Int->Int}
  (rule:∀(i:Int)(t:Tok)(s:Shared)(Q:Value->Shared->Prop)(E:Value->Shared->Prop),Q (.int (g i) s.toks) {s with toks:=s.toks+1}->wpAny (model X.prog X.w) X.A (f (.int i t)) Q E s):
  Bp X f (rU λi=>.int (g i)):=by
 intro pins s σ H x v Q I rx h;obtain⟨i,rfl,q⟩:=h;obtain⟨t,rfl⟩:=rx;exact rule i t s _ _ ⟨.int (g i),H,I.tok _,⟨_,ae⟩,q⟩
theorem YI:Bp X (unaryOp .USub) (rU λi=>.int (-i)):=Iw λ_ _ _ _ _ q=>neg_int q
end
noncomputable def Fg:V->V->Bool
 | .ah,.ah=>true| .ah,.int _=>true| .int _,.ah=>true| .ah,.bl _=>true| .bl _,.ah=>true| .ah,.str _=>true| .str _,.ah=>true
 | .int _,.int _=>true| .bl _,.bl _=>true| .str _,.str _=>true| .dD _,.dD _=>true
 | .int _,.str _=>true| .str _,.int _=>true| .bl _,.str _=>true| .str _,.bl _=>true
 |_,_=>false
noncomputable def Iy:R2:=λx y H Q=>Fg x y=true/\Q (.bl (decide (x=y))) H
noncomputable def Iz:R2:=λx y H Q=>Fg x y=true/\Q (.bl (!decide (x=y))) H
theorem qy{i j:Int}:decide (V.int i=V.int j)=(i==j):=by
 rw[Bool.eq_iff_iff];simp
theorem kj{i j:Bool}:decide (V.bl i=V.bl j)=(i==j):=by
 rw[Bool.eq_iff_iff];simp
theorem qA{i j:Str}:decide (V.str i=V.str j)=(i==j):=by
 rw[Bool.eq_iff_iff];simp
theorem qB{i j:Array UInt8}:decide (V.dD i=V.dD j)=(i.toList==j.toList):=by
 rw[Bool.eq_iff_iff];cases i;cases j;simp
section
variable {X:Cx}{a b c:Expr}{ta tb tc:TE}{pos:Pos}
theorem QG{pins:List (Addr × Obj)}{σ:St}{H:Hp}{s:Shared}{Q:VK}{k k':Bool}(I:Inv X pins σ H s)(q:Q (.bl k) H)(e:k=k'):EP X pins σ Q (.bool k') s:=by
 subst e;exact⟨.bl k,H,I,ae,q⟩
theorem zQ:aU X (compareOp .Eq) Iy:=by
 intro pins s σ H x y v u Q I rx ry h;obtain⟨hs,q⟩:=h;cases x with
 |ah=>
  cases rx;cases y with
  |ah=>cases ry;exact PySem.EqNone.eq_none_none (QG I q (by simp))
  |bl j=>cases ry;exact PySem.EqNone.eq_none_bool (QG I q (by simp))
  |int j=>obtain⟨t',rfl⟩:=ry;exact PySem.EqNone.eq_none_int (QG I q (by simp))
  |str j=>obtain⟨t',rfl⟩:=ry;exact PySem.EqNone.eq_none_str (QG I q (by simp))
  |_=>exact absurd (show false=true from hs) Bool.false_ne_true
 |bl i=>
  cases rx;cases y with
  |ah=>cases ry;exact PySem.EqNone.eq_bool_none (QG I q (by simp))
  |bl j=>cases ry;exact eq_bool (QG I q kj)
  |str j=>obtain⟨t',rfl⟩:=ry;exact PySem.EqMixed.eq_bool_str (QG I q (by simp))
  |_=>exact absurd (show false=true from hs) Bool.false_ne_true
 |int i=>
  obtain⟨t,rfl⟩:=rx;cases y with
  |ah=>cases ry;exact PySem.EqNone.eq_int_none (QG I q (by simp))
  |int j=>obtain⟨t',rfl⟩:=ry;exact eq_int (QG I q qy)
  |str j=>obtain⟨t',rfl⟩:=ry;exact PySem.EqMixed.eq_int_str (QG I q (by simp))
  |_=>exact absurd (show false=true from hs) Bool.false_ne_true
 |str i=>
  obtain⟨t,rfl⟩:=rx;cases y with
  |ah=>cases ry;exact PySem.EqNone.eq_str_none (QG I q (by simp))
  |bl j=>cases ry;exact PySem.EqMixed.eq_str_bool (QG I q (by simp))
  |int j=>obtain⟨t',rfl⟩:=ry;exact PySem.EqMixed.eq_str_int (QG I q (by simp))
  |str j=>obtain⟨t',rfl⟩:=ry;exact eq_str (QG I q qA)
  |_=>exact absurd (show false=true from hs) Bool.false_ne_true
 |dD i=>
  obtain⟨t,rfl⟩:=rx;cases y with
  |dD j=>obtain⟨t',rfl⟩:=ry;exact eq_bytes (QG I q qB)
  |_=>exact absurd (show false=true from hs) Bool.false_ne_true
 |_=>cases y<;>exact absurd (show false=true from hs) Bool.false_ne_true
theorem IA:aU X (compareOp .NotEq) Iz:=by
 intro pins s σ H x y v u Q I rx ry h;obtain⟨hs,q⟩:=h;cases x with
 |ah=>
  cases rx;cases y with
  |ah=>cases ry;exact PySem.EqNone.ne_none_none (QG I q (by simp))
  |bl j=>cases ry;exact PySem.EqNone.ne_none_bool (QG I q (by simp))
  |int j=>obtain⟨t',rfl⟩:=ry;exact PySem.EqNone.ne_none_int (QG I q (by simp))
  |str j=>obtain⟨t',rfl⟩:=ry;exact PySem.EqNone.ne_none_str (QG I q (by simp))
  |_=>exact absurd (show false=true from hs) Bool.false_ne_true
 |bl i=>
  cases rx;cases y with
  |ah=>cases ry;exact PySem.EqNone.ne_bool_none (QG I q (by simp))
  |bl j=>cases ry;exact ne_bool (QG I q (congrArg not kj))
  |str j=>obtain⟨t',rfl⟩:=ry;exact PySem.EqMixed.ne_bool_str (QG I q (by simp))
  |_=>exact absurd (show false=true from hs) Bool.false_ne_true
 |int i=>
  obtain⟨t,rfl⟩:=rx;cases y with
  |ah=>cases ry;exact PySem.EqNone.ne_int_none (QG I q (by simp))
  |int j=>obtain⟨t',rfl⟩:=ry;exact ne_int (QG I q (congrArg not qy))
  |str j=>obtain⟨t',rfl⟩:=ry;exact PySem.EqMixed.ne_int_str (QG I q (by simp))
  |_=>exact absurd (show false=true from hs) Bool.false_ne_true
 |str i=>
  obtain⟨t,rfl⟩:=rx;cases y with
  |ah=>cases ry;exact PySem.EqNone.ne_str_none (QG I q (by simp))
  |bl j=>cases ry;exact PySem.EqMixed.ne_str_bool (QG I q (by simp))
  |int j=>obtain⟨t',rfl⟩:=ry;exact PySem.EqMixed.ne_str_int (QG I q (by simp))
  |str j=>obtain⟨t',rfl⟩:=ry;exact ne_str (QG I q (congrArg not qA))
  |_=>exact absurd (show false=true from hs) Bool.false_ne_true
 |dD i=>
  obtain⟨t,rfl⟩:=rx;cases y with
  |dD j=>obtain⟨t',rfl⟩:=ry;exact ne_bytes (QG I q (congrArg not qB))
  |_=>exact absurd (show false=true from hs) Bool.false_ne_true
 |_=>cases y<;>exact absurd (show false=true from hs) Bool.false_ne_true
theorem vP:aU X (compareOp .Lt) (lR λi j=>.bl (decide (i<j))):=Br λ_ _ _ _ _ _ _ q=>lt_int q
theorem vQ:aU X (compareOp .Gt) (lR λi j=>.bl (decide (j<i))):=Br λ_ _ _ _ _ _ _ q=>gt_int q
theorem IC:aU X (compareOp .GtE) (lR λi j=>.bl (decide (j<=i))):=Br λ_ _ _ _ _ _ _ q=>ge_int q
theorem Jm(b:Expr){op:CmpOp}(h:op≠ .In:=by decide)(h2:op≠ .NotIn:=by decide):behindInMarks op b=false:=by
 have e1:(op==CmpOp.In)=false:=by cases op<;>first|rfl|exact absurd rfl h
 have e2:(op==CmpOp.NotIn)=false:=by cases op<;>first|rfl|exact absurd rfl h2
 cases b<;>simp[behindInMarks,e1,e2]
theorem KS{op:CmpOp}{r:R2}(ho:aU X (compareOp op) r)(ha:PE X a ta)(hb:PE X b tb)(hm:behindInMarks op b=false):PE X (.Compare a [op] [b] pos) (fR r ta tb):=by
 intro pins s σ H Q I h;exact wpAny_Compare1 (Bq ha hb I h λv u s2 x y H2 I2 rx ry q=>ho pins s2 σ H2 x y v u Q I2 rx ry q) hm
noncomputable def vR(t:TE):TT:=λσ H Q=>t σ H λx H'=>∃k,x=.bl k/\Q k H'
theorem Ji{op:CmpOp}{r:R2}(ho:aU X (compareOp op) r)(ha:PE X a ta)(hb:PE X b tb)(hm:behindInMarks op b=false):PT X (.Compare a [op] [b] pos) (vR (fR r ta tb)):=by
 intro pins s σ H Q I h;refine wpAny_isTrue_Compare1 (ax (ha pins s σ H _ I h) λv s1⟨x,H1,I1,r1,q1⟩=>ax (hb pins s1 σ H1 _ I1 q1) λu s2⟨y,H2,I2,r2,q2⟩=>
  ax (ho pins s2 σ H2 x y v u _ I2 r1 r2 q2) λc s3⟨z,H3,I3,r3,k,e,q3⟩=>?_) hm
 subst e;cases r3;exact wpAny_truthy_bool ⟨H3,I3,q3⟩
noncomputable def Bu(K:Frag)(x:V)(H:Hp)(k:Bool):Prop:=
 match x with
 | .ah=>k=false
 | .bl b=>k=b
 | .int i=>k=(i !=0)
 | .str y=>y.length<=sizeLine/\k=((y.length:Int) !=0)
 | .dD y=>y.size<=sizeLine/\k=((y.size:Int) !=0)
 | .ref p=>(∃xs,aJ K H p xs/\k= !xs.isEmpty)\/(∃xs,aN K H p xs/\k= !xs.isEmpty)\/∃ap,H p=some (.dK ap)/\k= !ap.isEmpty
 |_=>False
theorem UE{κ:Type}{ap:List (κ × V)}{vs:List (κ × Value)}(r:KV ap vs):(!vs.isEmpty)= !ap.isEmpty:=by
 cases r<;>rfl
theorem Ky{xs:List V}{ad:List Value}(r:Vals xs ad):(!ad.toArray.isEmpty)= !xs.isEmpty:=by
 cases r<;>simp
theorem WJ:(sizeLine:Nat)<2^63:=by rw[sizeLine_eq];decide
theorem vS:Iq X (λx H Q=>∃k,Bu X.K x H k/\Q k H):=by
 intro pins s σ H x v Q I rx h;obtain⟨k,e,q⟩:=h;have hl:=WJ;have hs:sizeLine=16777216:=sizeLine_eq;cases x with
 |ah=>
  cases rx;have e':k=false:=e;subst e';exact truthy_none ⟨H,I,q⟩
 |bl b=>
  cases rx;have e':k=b:=e;subst e';exact wpAny_truthy_bool ⟨H,I,q⟩
 |int i=>
  obtain⟨t,rfl⟩:=rx;have e':k=(i !=0):=e;subst e';exact PySem.P.truthy_int ⟨H,I,q⟩
 |str y=>
  obtain⟨t,rfl⟩:=rx;obtain⟨hy,e'⟩:y.length<=sizeLine/\k=((y.length:Int) !=0):=e;subst e';exact PySem.P.truthy_str (by lia) ⟨H,I.tok _,q⟩
 |dD y=>
  obtain⟨t,rfl⟩:=rx;obtain⟨hy,e'⟩:y.size<=sizeLine/\k=((y.size:Int) !=0):=e;subst e';exact truthy_bytes (by lia) ⟨H,I.tok _,q⟩
 |ref p=>
  cases rx;have e':(∃xs,aJ X.K H p xs/\k= !xs.isEmpty)\/(∃xs,aN X.K H p xs/\k= !xs.isEmpty)\/∃ap,H p=some (.dK ap)/\k= !ap.isEmpty:=e;rcases e' with⟨xs,hx,e'⟩|⟨xs,hx,e'⟩|⟨ap,hx,e'⟩
  ·subst e';obtain⟨ad,r,pl,hz⟩:=I.list hx;have hlen:=r.length;exact wpAny_truthy_list pl.isList (by simp only[nQ];lia) ⟨H,I.tok _,by rw[Ky r];exact q⟩
  ·subst e';obtain⟨ad,r,pl,hz⟩:=I.tuple hx;have hlen:=r.length;exact truthy_tuple pl (by simp only[nQ];lia) ⟨H,I.tok _,by rw[Ky r];exact q⟩
  ·subst e';obtain⟨hz,hS,vs,r,m⟩:ap.length<=sizeLine/\(p==sysModules)=false/\∃vs,KV ap vs/\s.heap.DictOf (QI X.prog X.w) p vs:=I.aj p _ hx;have hlen:ap.length=vs.length:=Paired.length r;exact wpAny_truthy_dict hS m (by lia) ⟨H,I.tok _,by rw[UE r];exact q⟩
 |_=>exact(show False from e).elim
theorem YJ(ha:PE X a ta)(he:∀whole,isTrue a X.env whole=(do let v←whole;standAt a.pos;holding [v] (truthy v))):
  PT X a (λσ H Q=>ta σ H λx H'=>∃k,Bu X.K x H' k/\Q k H'):=by
 intro pins s σ H Q I h;exact isTrue_plain (ax (ha pins s σ H _ I h) λv s1⟨x,H1,I1,r1,q1⟩=>vS pins s1 σ H1 x v Q I1 r1 q1) (he _)
theorem ZX:aU X (binaryOp .Add) (λx y H Q=>∃i j,x=.str i/\y=.str j/\i.length+j.length<=sizeLine/\Q (.str (i++j)) H):=by
 intro pins s σ H x y v u Q I rx ry h;obtain⟨i,j,rfl,rfl,hz,q⟩:=h;obtain⟨t,rfl⟩:=rx;obtain⟨t',rfl⟩:=ry;exact add_str (λt' tk=>⟨.str (i++j),H,I.tok _,⟨_,ae⟩,q⟩) hz
theorem vals1{x:V}{us:List Value}(r:Vals [x] us):∃u,us=[u]/\RelV x u:=by
 cases r with
 |cons r1 r2=>cases r2;exact⟨_,ae,r1⟩
theorem vals2{x y:V}{us:List Value}(r:Vals [x,y] us):∃u w',us=[u,w']/\RelV x u/\RelV y w':=by
 cases r with
 |cons r1 r2=>
  cases r2 with
  |cons r3 r4=>cases r4;exact⟨_,_,ae,r1,r3⟩
theorem YK:Xu X (.builtin "abs") (λxs H Q=>∃i,xs=[.int i]/\Q (.int (if i<0 then-i else i)) H):=by
 intro pins s σ H xs us Q I r h;obtain⟨i,rfl,q⟩:=h;obtain⟨u,rfl,t,rfl⟩:=vals1 r;exact call_abs_int λu tk=>⟨.int (if i<0 then-i else i),H,I.tok _,⟨_,ae⟩,q⟩
theorem WK(hc:X.calm=true):Xu X (.builtin "max") (λxs H Q=>∃i j,xs=[.int i,.int j]/\Q (.int (if j>i then j else i)) H):=by
 intro pins s σ H xs us Q I r h;obtain⟨i,j,rfl,q⟩:=h;obtain⟨u,w',rfl,⟨t,rfl⟩,⟨t',rfl⟩⟩:=vals2 r;refine max_two_ints (I.ok.hd hc) λh' tk k=>⟨_,H,I.kept k,?_,q⟩
 by_cases hj:j>i
 ·rw[if_pos hj,if_pos hj];exact⟨_,ae⟩
 ·rw[if_neg hj,if_neg hj];exact⟨_,ae⟩
end
structure lS(h:Heap)(x dx C:Addr)(mA:Str->Option Value):Prop where
 obj:h.get? x=some (instObj C dx)
 ns:h.Ns1 dx mA
 ne:dx≠x
theorem qC{h:Heap}{dx:Addr}{mA:Str->Option Value}(n:h.Ns1 dx mA):∃od,h.get? dx=some od/\∀name,lookIn name od=some (mA name):=by
 obtain⟨o,es,ep,ho,hd,hk,_,hm⟩:=n;refine⟨o,ho,λname=>?_⟩;have e:=hm name;unfold nsFind findBy at e;rw[←Array.find?_toList]at e;unfold lookIn;rw[hd];dsimp only
 split
 ·rename_i y q;rw[q]at e;exact congrArg some e
 ·rename_i q;rw[q]at e;have a:es.toList.any (·.refKey)=false:=by
   rw[List.any_eq_false];intro y hy;obtain⟨z,t,Bv⟩:=hk y (Array.mem_toList_iff.mp hy);simp[DictEntry.refKey,Bv]
  have a':¬ es.toList.any (·.refKey)=true:=by rw[a];exact Bool.false_ne_true
  rw[if_neg a'];exact congrArg some e
theorem lS.look{h:Heap}{x dx C:Addr}{mA:Str->Option Value}(I:lS h x dx C mA):∃od,PySem.W.InstAt h x (instObj C dx) C (some od)/\∀name,lookIn name od=some (mA name):=
 let ⟨od,ho,hl⟩:=qC I.ns
 ⟨od,⟨I.obj,ae,ae,ho⟩,hl⟩
theorem Uy.some_of{v:V}{o:Option Value}(r:Uy (some v) o):∃u,o=some u/\RelV v u:=by
 cases o with
 |none=>exact(show False from r).elim
 |some u=>exact⟨u,ae,r⟩
section
variable {P:Program}{w:World}{H H':Hp}{h h':Heap}{a C dx:Addr}{fs Ia:List (Str × V)}
theorem k9(aj:aS P w H h)(e:H a=some (.ins C dx fs)):∃mA,lS h a dx C mA/\(∀f,Uy (fs.lookup f) (mA f))/\PySem.Within mA (fs.map (·.1))/\fs.length<=1000/\H dx=some (.own a):=by
 obtain⟨d,z,ne,ob,mA,n,r,q⟩:=(show QY P w H h a (.ins C dx fs)from aj a _ e);exact⟨mA,⟨ob,n,ne⟩,r,q,z,d⟩
end
structure Bw(K:Frag)(C:Addr):Prop where
 pg:plainGet K C Str.empty=true
 hd:hasDictIn K C=true
 po:plainOver K C=true
 sa:findIn K (.ref C) "__setattr__"=some (some (.builtin "object.__setattr__"))
theorem Bw.get{K:Frag}{C:Addr}(c:Bw K C)(f:Str):plainGet K C f=true:=c.pg
section
variable {X:Cx}{pins:List (Addr × Obj)}{σ:St}{H:Hp}{s:Shared}{A:Around}{E:Value->Shared->Prop}{Q:Value->Shared->Prop}{c:Value}{b:Bool}
inductive aX (K:Frag) (H:Hp):V->Value->Prop where
 |ah:aX K H .ah (.type "NoneType")
 |bl (x:Bool):aX K H (.bl x) (.type "bool")
 |int (i:Int):aX K H (.int i) (.type "int")
 |str (x:Str):aX K H (.str x) (.type "str")
 |pD (x:UInt64):aX K H (.pD x) (.type "float")
 |lst {a:Addr} {xs:List V} (e:H a=some (.lst xs)):aX K H (.ref a) (.type "list")
 |bK {a:Addr} {o:Obj} {xs:List V} (e:H a=some (.bK o (.lst xs))):aX K H (.ref a) (.type "list")
 |tup {a:Addr} {xs:List V} (e:H a=some (.tup xs)):aX K H (.ref a) (.type "tuple")
 |dK {a:Addr} {ap:List (Key × V)} (e:H a=some (.dK ap)):aX K H (.ref a) (.type "dict")
 |dT {a:Addr} {ap:List (List Key × V)} (e:H a=some (.dT ap)):aX K H (.ref a) (.type "dict")
 |ins {a C dx:Addr} {fs:List (Str × V)} (e:H a=some (.ins C dx fs)) (cl:Bw K C) (ha:findIn K (.ref C) "__class__"=some (some (.builtin "object.__class__")))
   (hn:specialIn K (.builtin "object.__class__") "__get__"=some (some (.builtin "getset_descriptor.__get__"))) (Fh:takesIn K (.builtin "object.__class__")=some true)
   (hm:mroIn K C (.type "object")=some true):aX K H (.ref a) (.ref C)
theorem qD{x:V}{u t:Value}(I:Inv X pins σ H s)(rx:RelV x u)(ty:aX X.K H x t)(e:kitOne X.K t c=some b)(h:∀tk,Q (.bool b) {s with toks:=tk}):
  wpAny (model X.prog X.w) A (call (.builtin "isinstance") [u,c]) Q E s:=by
 cases ty with
 |ah=>cases(show u=Value.none from rx);exact kia_one kitx_none I.bC True.intro e (λz=>nomatch z) h
 |bl y=>cases(show u=Value.bool y from rx);exact kia_one kitx_bool I.bC True.intro e (λz=>nomatch z) h
 |int i=>obtain⟨t,q⟩:=(show ∃t,u=Value.int i t from rx);cases q;exact kia_one kitx_int I.bC True.intro e (λz=>nomatch z) h
 |str y=>obtain⟨t,q⟩:=(show ∃t,u=Value.str y t from rx);cases q;exact kia_one kitx_str I.bC True.intro e (λz=>nomatch z) h
 |pD y=>obtain⟨t,q⟩:=(show ∃t,u=Value.float y t from rx);cases q;exact kia_one kitx_float I.bC True.intro e (λz=>nomatch z) h
 |@lst a xs ea=>
  cases(show u=Value.ref a from rx);obtain⟨_,_,n,_,h1⟩:=(show QY X.prog X.w H s.heap a (.lst xs)from I.aj a _ ea);exact kia_one kitx_list I.bC ⟨_,h1,ae⟩ e (λz=>nomatch z) h
 |@bK a ob xs ea=>
  cases(show u=Value.ref a from rx);obtain⟨_,_,_,n,_,h1⟩:=(show QY X.prog X.w H s.heap a (.bK ob (.lst xs))from I.aj a _ ea);exact kia_one kitx_list I.bC ⟨_,h1,ae⟩ e (λz=>nomatch z) h
 |@tup a xs ea=>
  cases(show u=Value.ref a from rx);obtain⟨_,_,_,p⟩:=(show QY X.prog X.w H s.heap a (.tup xs)from I.aj a _ ea);obtain⟨o,h1,h2,_⟩:=p;exact kia_one kitx_tuple I.bC ⟨o,h1,h2⟩ e (λz=>nomatch z) h
 |@dK a ap ea=>
  cases(show u=Value.ref a from rx);obtain⟨_,_,vs,_,p⟩:=(show QY X.prog X.w H s.heap a (.dK ap)from I.aj a _ ea);obtain⟨o,es,ep,h1,h2,_⟩:=p;exact kia_one kitx_dict I.bC ⟨o,h1,h2.1⟩ e (λz=>nomatch z) h
 |@dT a ap ea=>
  cases(show u=Value.ref a from rx);obtain⟨_,_,xs,_,o,es,ep,h1,h2,_⟩:=(show QY X.prog X.w H s.heap a (.dT ap)from I.aj a _ ea);exact kia_one kitx_dict I.bC ⟨o,h1,h2.1⟩ e (λz=>nomatch z) h
 |@ins a C dx fs ea cl ha hn Fh hm=>
  cases(show u=Value.ref a from rx);obtain⟨mA,O,_⟩:=k9 I.aj ea;obtain⟨od,J,_⟩:=O.look;exact kia_one (kitx_own (cl.get _) cl.hd ha hn Fh hm) I.bC J e (λz=>nomatch z) h
end
structure JC(k:Nat)(A:Around):Prop where
 hd:A.handled=none
 dp:A.depth+3*k+5<recursionLimit
 un:A.units+16*k+200<cLine
theorem JC.mono{j k:Nat}{A:Around}(r:JC k A)(h:j<=k):JC j A:=⟨r.hd,by have:=r.dp;lia,by have:=r.un;lia⟩
theorem JC.deeper{k:Nat}{A:Around}(r:JC (k+1) A)(env:Env):JC k (A.deeper env):=
 ⟨r.hd,by have:=r.dp;show A.depth+1+3*k+5<_;lia,by have:=r.un;show A.units+3+16*k+200<_;lia⟩
theorem JC.in1{k:Nat}{A:Around}(r:JC (k+1) A):JC k A.in1:=
 ⟨r.hd,by have:=r.dp;show A.depth+3*k+5<_;lia,by have:=r.un;show A.units+1+16*k+200<_;lia⟩
theorem JC.depth{k:Nat}{A:Around}(r:JC k A):A.depth<recursionLimit:=by have:=r.dp;lia
theorem JC.units{k:Nat}{A:Around}(r:JC k A):A.units+64<cLine:=by have:=r.un;lia
noncomputable def YL:TA:=λ_ H Q=>Q [] H
noncomputable def JG(ta:TE)(tr:TA):TA:=λσ H Q=>ta σ H λx H1=>tr σ H1 λxs H2=>Q (x::xs) H2
section
variable {X:Cx}{e:Expr}{es:List Expr}{te:TE}{t:TA}{pos:Pos}
theorem Qc:PA X [] YL:=λ_ _ _ _ H Q I h=>Calls.spliced_nil ⟨[],H,I,.nil,h⟩
theorem Qa(ha:PE X e te)(hr:PA X es t)(hs:starEach (e::es) X.env=(false,eval e X.env)::starEach es X.env:=by rfl):PA X (e::es) (JG te t):=by
 intro pos pins s σ H Q I h;rw[hs];show wpAny _ _ (spliced ((false,eval e X.env)::backTo pos (starEach es X.env))) _ _ s;refine Calls.spliced_cons (ax (ha pins s σ H _ I h) λu s1⟨x,H1,I1,r1,q1⟩=>?_);exact ax (hr pos pins s1 σ H1 _ I1 q1) λus s2⟨xs,H2,I2,r2,q2⟩=>⟨x::xs,H2,I2,.cons r1 r2,q2⟩
noncomputable def vT(t:TA):TE:=λσ H Q=>t σ H λxs H1=>xs.length<=sizeLine/\∀p,H1 p=none->Q (.ref p) (upd H1 p (.tup xs))
noncomputable def Bx(t:TA):TE:=λσ H Q=>t σ H λxs H1=>xs.length<=sizeLine/\∀p,H1 p=none->Q (.ref p) (upd H1 p (.lst xs))
theorem QV{x1}(h:PA X es t):PE X (.Tuple es x1 pos) (vT t):=by
 intro pins s σ H Q I hq;refine wpAny_Tuple_spliced (ax (h pos pins s σ H _ I hq) λus s1⟨xs,H1,I1,r,z,q⟩=>⟨by rw[←r.length];exact z,?_⟩);have hf:H1 s1.heap.objs.size=none:=I1.aj.fresh (ng _);refine⟨.ref s1.heap.objs.size,upd H1 s1.heap.objs.size (.tup xs),I1.laid (t':=s1.toks) (λb u e=>Heap.get?_push_of_some _ e) (ng _) ?_,ae,q _ hf⟩;exact⟨z,us,r,⟨_,Heap.get?_push_size _ rfl,ae,_,ae,ae⟩⟩
theorem XN(h:PA X es t):PE X (.List es pos) (Bx t):=by
 intro pins s σ H Q I hq;refine wpAny_List_spliced (ax (h pos pins s σ H _ I hq) λus s1⟨xs,H1,I1,r,z,q⟩=>⟨by rw[←r.length];exact z,?_⟩);have hf:H1 s1.heap.objs.size=none:=I1.aj.fresh (ng _);refine⟨.ref s1.heap.objs.size,upd H1 s1.heap.objs.size (.lst xs),I1.laid (t':=s1.toks) (λb u e=>Heap.get?_push_of_some _ e) (ng _) ?_,ae,q _ hf⟩;exact⟨z,us,0,r,Heap.get?_push_size _ rfl⟩
end
noncomputable abbrev Sp:=List V->Hp->VK->XK->Prop
noncomputable abbrev fE:=List Env->Hp->Shared->XK->Value->Shared->Prop
structure fS(P:Program)(w:World)(K:Frag)(mg:Str->Option Value)(base:Heap)(A:Around)(outer:List Env)(s:Shared)(H:Hp):Prop where
 frames:A.frames=some outer
 mod:Mod K mg base
 bs:∀b o,base.get? b=some o->s.heap.get? b=some o/\H b=none
 dR:base.objs.size<=s.heap.objs.size
 qm:s.heap.FunFrames base outer
 pF:∀b∈bc outer,H b=none
 aj:aS P w H s.heap
 bare:AllBare s.gens
noncomputable def CE(outer:List Env)(P:Program)(w:World)(H:Hp)(s:Shared)(Q:VK)(u:Value)(s':Shared):Prop:=
 ∃v H',s'.os=s.os/\AllBare s'.gens/\Un (bc outer) [] H H' s.heap s'.heap/\aS P w H' s'.heap/\RelV v u/\Q v H'
noncomputable def CR(CX:fE)(outer:List Env)(P:Program)(w:World)(H:Hp)(s:Shared)(Q:VK)(E:XK)(r:Result)(s':Shared):Prop:=
 match r with
 | .ok (.ret u)=>CE outer P w H s Q u s'
 | .ok _=>False
 | .error e=>CX outer H s E e s'
structure aw(P:Program)(w:World)(K:Frag)(mg:Str->Option Value)(base:Heap)(CX:fE)(k:Nat)(f:Addr)(fd:FuncData)(ps:List Str)(sp:Sp):Prop where
 len:∀vs H Q E,sp vs H Q E->vs.length=ps.length
 run:∀(A:Around)(outer:List Env)(s:Shared)(H:Hp)(args:Args)(us:List Value)(vs:List V)(Q:VK)(E:XK),JC k A->fS P w K mg base A outer s H->BindsTo s fd args (ps.zip us)->Vals vs us->sp vs H Q E->
  codeAny (model P w) A (.call (.ref f) args) (CR CX outer P w H s Q E) s
section
variable {X:Cx}{pins:List (Addr × Obj)}{σ:St}{H:Hp}{s s':Shared}
theorem Inv.ID(I:Inv X pins σ H s):fS X.prog X.w X.K X.mg X.base X.A X.stack s H:=
 ⟨I.ok.frames,I.ok.mod,I.bs,Nat.le_trans I.ok.dR I.sz,I.stack,I.Zy,I.aj,I.bare⟩
theorem Inv.after{Q:VK}{u:Value}(I:Inv X pins σ H s)(h:CE X.stack X.prog X.w H s Q u s'):EP X pins σ Q u s':=by
 obtain⟨v,H',os,bare,un,aj,r,q⟩:=h;obtain⟨hh,g,d,t,rO⟩:=s';obtain rfl:rO=s.os:=os;exact⟨v,H',I.call (h':=hh) (g':=g) (d':=d) (t':=t) (ch:=[]) un aj bare (λb z=>absurd z (by simp)),r,q⟩
end
noncomputable def VR(sp:Sp)(fF:List V)(E:XK)(t:TA):TE:=λσ H Q=>t σ H λvs H1=>sp (vs++fF) H1 Q E
noncomputable def Binds(K:Frag)(fd:FuncData)(ps:List Str)(ds:List Value):Prop:=
 ∀(s:Shared)(us:List Value),K.In s.heap->(us++ds).length=ps.length->BindsTo s fd ⟨us,[]⟩ (ps.zip (us++ds))
theorem Binds.all{K:Frag}{fd:FuncData}{ps:List Str}(h:∀us:List Value,us.length=ps.length->bindArgs fd ⟨us,[]⟩=pure (ps.zip us)):Binds K fd ps []:=λs us _ hl=>by
 rw[nJ]at hl ⊢;exact .of_eq (h us hl)
noncomputable def Passes(CX:fE)(X:Cx)(E:XK):Prop:=∀(pins:List (Addr × Obj))(σ:St)(H:Hp)(s:Shared)(e:Value)(s':Shared),Inv X pins σ H s->CX X.stack H s E e s'->X.xe e s'
section
variable {X:Cx}{CX:fE}{k:Nat}{f C:Addr}{fd:FuncData}{ps:List Str}{sp:Sp}{fF:List V}{ds:List Value}{E:XK}{x m:Str}{p pos apos:Pos}{e o:Expr}{es:List Expr}{ta:TE}{t:TA}
theorem kl{pins:List (Addr × Obj)}{σ:St}{H:Hp}{s:Shared}{Q:VK}{us:List Value}{vs:List V}(F:aw X.prog X.w X.K X.mg X.base CX k f fd ps sp)(hr:JC k X.A)(hb:Binds X.K fd ps ds)(hd:Vals fF ds)(hx:Passes CX X E)
  (I:Inv X pins σ H s) (r:Vals vs us) (h:sp (vs++fF) H Q E):wpAny (model X.prog X.w) X.A (call (.ref f) us) (EP X pins σ Q) X.xe s:=by
 have r2:Vals (vs++fF) (us++ds):=r.append hd;have hl:(us++ds).length=ps.length:=by rw[←r2.length];exact F.len _ _ _ _ h
 refine wpAny_call (codeAny_mono (F.run X.A X.stack s H ⟨us,[]⟩ (us++ds) (vs++fF) Q E hr I.ID (hb s us I.bC hl) r2 h) λr s' hq=>?_);cases r with
 |error e=>exact hx pins σ H s e s' I hq
 |ok fl=>
  cases fl with
  |ret u=>exact I.after hq
  |next=>exact False.elim hq
  |brk=>exact False.elim hq
  |cont=>exact False.elim hq
theorem wa(F:aw X.prog X.w X.K X.mg X.base CX k f fd ps sp)(hr:JC k X.A)(hg:Gl X x)(hm:X.mg x=some (.ref f))(hk:keepIn X.K (.ref f)=true)(hb:Binds X.K fd ps ds)(hd:Vals fF ds)(hx:Passes CX X E)
  (ha:PA X (e::es) t) (eB:(x==("__debug__":Str))=false:=by decide) (he:starEach (e::es) X.env=(false,eval e X.env)::starEach es X.env:=by rfl) (Ix:(backTo pos (starEach es X.env)).any (·.1)=false:=by rfl):
  PE X (.Call (.Name x p) (e::es) [] pos) (VR sp fF E t):=by
 intro pins s σ H Q I h;refine wpAny_Call_Name_kw (qp I hg hm ?_ eB);refine callWith_K (h₀:=X.base) I.ok.mod.Be hk (ax (ha pos pins s σ H _ I h) λus s1⟨vs,H1,I1,r,q⟩=>⟨I1.bC,?_⟩) he Ix;exact kl F hr hb hd hx I1 r q
theorem zR(F:aw X.prog X.w X.K X.mg X.base CX k f fd ps sp)(hr:JC k X.A)(hg:Gl X x)(hm:X.mg x=some (.ref f))(hk:keepIn X.K (.ref f)=true)(hb:Binds X.K fd ps ds)(hd:Vals fF ds)(hx:Passes CX X E)
  (eB:(x==("__debug__":Str))=false:=by decide):PE X (.Call (.Name x p) [] [] pos) (VR sp fF E YL):=by
 intro pins s σ H Q I h;refine wpAny_Call_Name_kw (qp I hg hm ?_ eB);exact callWith_K0 I.bC hk (kl (us:=[]) F hr hb hd hx I .nil h)
end
structure ai(N P:List Str)(sc:Scope):Prop where
 kind:sc.kind=.function
 co:sc.isCoroutine=false
 gen:sc.isGenerator=false
 nd:N.Nodup
 pre:N.take P.length=P
 par:∀x∈P,sc.names.lookup x=some .local\/sc.names.lookup x=some .cell
 aP:∀y∈sc.names,y.2≠ .free
theorem WL{kindOf:Str->Option NameKind}{x:Str}:∀{binds:List (Str × Value)}{m:Str->Option Value},(∀v,(x,v)∉binds)->bindL kindOf binds m x=m x
 |[],_,_=>rfl
 |(n,v)::r,m,h=>by
  unfold bindL;rw[WL λw hw=>h w (nz _ hw)]
  split
  ·have:x≠n:=by rintro rfl;exact h v nA
   simp[this]
  ·rfl
theorem WM{kindOf:Str->Option NameKind}{x:Str}:∀{binds:List (Str × Value)}{m:Str->Option Value},(∀v,(x,v)∉binds)->bindC kindOf binds m x=m x
 |[],_,_=>rfl
 |(n,v)::r,m,h=>by
  unfold bindC;rw[WM λw hw=>h w (nz _ hw)]
  split
  ·rfl
  ·have:x≠n:=by rintro rfl;exact h v nA
   simp[this]
theorem WN{kindOf:Str->Option NameKind}{x:Str}{v:Value}:∀{P:List Str}{vs:List Value}{i:Nat}{m:Str->Option Value},P.Nodup->P[i]? =some x->vs[i]? =some v->kindOf x=some .local->
  bindL kindOf (P.zip vs) m x=some v
 |[],_,_,_,_,h,_,_=>by simp at h
 |_::_,[],_,_,_,_,h,_=>by simp at h
 |p::P,w::vs,0,m,nd,h1,h2,hk=>by
  simp at h1 h2;subst h1;subst h2;show bindL kindOf ((p,w)::P.zip vs) m p=_;unfold bindL;rw[WL λv hv=>(List.nodup_cons.mp nd).1 (List.of_mem_zip hv).1,if_pos hk];simp
 |p::P,w::vs,i+1,m,nd,h1,h2,hk=>by
  show bindL kindOf ((p,w)::P.zip vs) m x=_;unfold bindL;exact WN (i:=i) (List.nodup_cons.mp nd).2 (by simpa using h1) (by simpa using h2) hk
theorem WO{kindOf:Str->Option NameKind}{x:Str}{v:Value}:∀{P:List Str}{vs:List Value}{i:Nat}{m:Str->Option Value},P.Nodup->P[i]? =some x->vs[i]? =some v->kindOf x≠some .local->
  bindC kindOf (P.zip vs) m x=some v
 |[],_,_,_,_,h,_,_=>by simp at h
 |_::_,[],_,_,_,_,h,_=>by simp at h
 |p::P,w::vs,0,m,nd,h1,h2,hk=>by
  simp at h1 h2;subst h1;subst h2;show bindC kindOf ((p,w)::P.zip vs) m p=_;unfold bindC;rw[WM λv hv=>(List.nodup_cons.mp nd).1 (List.of_mem_zip hv).1,if_neg hk];simp
 |p::P,w::vs,i+1,m,nd,h1,h2,hk=>by
  show bindC kindOf ((p,w)::P.zip vs) m x=_;unfold bindC;exact WO (i:=i) (List.nodup_cons.mp nd).2 (by simpa using h1) (by simpa using h2) hk
noncomputable def start(N:List Str)(vs:List V):St:=vs.map some++List.replicate (N.length-vs.length) none
noncomputable def qk(CX:fE)(P:Program)(w:World)(K:Frag)(mg:Str->Option Value)(base:Heap)(N:List Str)(qual:Str)(scope:Scope)(f:Addr)(cd:Value)(A:Around)(outer:List Env)(s:Shared)(H:Hp)(E:XK):Cx where
 prog:=P
 w:=w
 K:=K
 mg:=mg
 base:=base
 A:=A.deeper (envOfC qual scope s.heap.objs.size f cd)
 N:=N
 s₀:=s
 H₀:=H
 env:=envOfC qual scope s.heap.objs.size f cd
 outer:=outer
 stack:=envOfC qual scope s.heap.objs.size f cd::outer
 ex:=[]
 calm:=true
 fn:=λ_=>true
 pn:=[]
 xe:=λe s'=>wpAny (model P w) (A.deeper (envOfC qual scope s.heap.objs.size f cd)) (leaving (envOfC qual scope s.heap.objs.size f cd) e) (λ_ bM=>CX outer H s E e bM) (λe' bM=>CX outer H s E e' bM) s'
theorem Xx{sc:Scope}{n:Nat}{x:Str}(h:sc.names.lookup x=some .cell):∃c,(cellsFrom n sc.names []).lookup x=some c:=by
 have q:=cellsFrom_some sc.names n [] (.inl h);exact Option.isSome_iff_exists.mp q
theorem qE{CX:fE}{P:Program}{w:World}{K:Frag}{mg:Str->Option Value}{base:Heap}{N ps:List Str}{qual:Str}{scope:Scope}{f:Addr}{cd:Value}{A:Around}{outer:List Env}{s s1:Shared}{H:Hp}{E:XK}{us:List Value}{vs:List V}
  (S:ai N ps scope) (hd:A.handled=none) (e0:fS P w K mg base A outer s H) (hl:vs.length=ps.length) (r:Vals vs us)
  (x:InCallC s s.heap.objs.size (bindL (envOfC qual scope s.heap.objs.size f cd).kindOf (ps.zip us) λ_=>none) (cellsFrom (s.heap.objs.size+1) scope.names []) (bindC (envOfC qual scope s.heap.objs.size f cd).kindOf (ps.zip us) λ_=>none) s1):
  Inv (qk CX P w K mg base N qual scope f cd A outer s H E) [] (start N vs) H s1:=by
 have Ix:ps.length<=N.length:=by have:=congrArg List.length S.pre;rw[nB]at this;lia
 obtain⟨h1,tk,rfl,hk⟩:=x.done;have rP:∀b:Addr,b∉(qk CX P w K mg base N qual scope f cd A outer s H E).ex:=λb z=>absurd (show b∈([]:List Addr)from z) (by simp);refine⟨⟨e0.mod,S.kind,ae,ae,ng _,λy z c h1 h2=>?_,λy hy=>?_,λy c _ h=>?_,λ_=>hd,Around.frames_deeper e0.frames,.inr ⟨ae,ae⟩,λb z=>absurd z (rP b),e0.bs,e0.dR,λb _ _=>rP b,λb z=>absurd z (rP b),e0.qm,e0.pF⟩,
  ae,e0.bare,Un.kept hk,⟨_,x.toInCall.ns,λi y v h1 h2 h3=>?_⟩,λy c h=>⟨_,x.cell y c h⟩,e0.aj.fresh (ng _),λy c h=>?_,λp hp=>absurd (show p∈([]:List (Addr × Obj))from hp) (by simp),e0.aj.kept hk,?_⟩
 ·exact name_of_addr x.apart (PySem.mem_of_lookup h1) (PySem.mem_of_lookup h2)
 ·have hy:scope.names.lookup y=some .cell\/scope.names.lookup y=some .free:=hy;rcases hy with hy|hy
  ·exact Xx hy
  ·exact absurd rfl (S.aP _ (PySem.mem_of_lookup hy))
 ·exact Nat.le_of_lt (x.above y c (PySem.mem_of_lookup h))
 ·have hi:i<vs.length:=by
   unfold start at h2
   by_cases hi:i<vs.length
   ·exact hi
   ·rw[List.getElem?_append_right (by simpa using hi)]at h2;rw[List.getElem?_replicate]at h2
    split at h2<;>cases h2
  have ha:vs[i]? =some v:=by
   unfold start at h2;rw[List.getElem?_append_left (by simpa using hi),nE]at h2;cases e:vs[i]? with
   |none=>rw[e]at h2;cases h2
   |some a=>rw[e]at h2;cases h2;rfl
  obtain⟨u,hu,rv⟩:=r.get ha;have hp:ps[i]? =some y:=by
   rw[←S.pre,List.getElem?_take_of_lt (by lia)];exact h1
  have Fi:ps.Nodup:=by rw[←S.pre];exact S.nd.sublist (List.take_sublist _ _)
  refine⟨u,rv,?_⟩;rcases S.par y (nF hp)with k|k
  ·exact .inl ⟨k,WN Fi hp hu k⟩
  ·obtain⟨c,e⟩:=Xx (n:=s.heap.objs.size+1) k;refine .inr ⟨.inl k,c,e,?_⟩;have q:=x.cell y c e;rw[WO Fi hp hu (by show scope.names.lookup y≠_;rw[k];decide)]at q;exact q
 ·exact e0.aj.fresh (Nat.le_of_lt (x.above y c (PySem.mem_of_lookup h)))
 ·unfold start;show _=N.length;rw[m5,m7,nG];lia
theorem vU{CX:fE}{P:Program}{w:World}{K:Frag}{mg:Str->Option Value}{base:Heap}{k:Nat}{f:Addr}{name qual:Str}{params:Arguments}{body:List Stmt}{scope:Scope}{dV kV doc pm bv ct oc:Value}{an od:Option Addr}
  {IN:Array (Option Value)} {N ps:List Str} {sp:Sp} (lk:K.lookup f=some ⟨oc,od,.func (fnOf name qual params body scope dV kV doc pm an bv ct),IN⟩) (dF:codeIn K bv qual=true) (S:ai N ps scope)
  (len:∀vs H Q E,sp vs H Q E->vs.length=ps.length)
  (mo:∀(A:Around)(outer:List Env)(s:Shared)(H:Hp)(vs:List V)(Q:VK)(E:XK),JC k (A.deeper (envOfC qual scope s.heap.objs.size f bv))->sp vs H Q E->
   ∃t,bL (qk CX P w K mg base N qual scope f bv A outer s H E) body t/\t {nx:=λ_ H'=>Q .ah H',rt:=Q} (start N vs) H):
  aw P w K mg base CX (k+1) f (fnOf name qual params body scope dV kV doc pm an bv ct) ps sp:=by
 refine⟨len,λA outer s H args us vs Q E hr e0 hb r cZ=>?_⟩;have hl:=len _ _ _ _ cZ;have KX:K.In s.heap:=e0.mod.Be.keeps λb o e=>(e0.bs b o e).1;have lim:s.heap.NoLimit:=e0.mod.nolimit.keeps λb o e=>(e0.bs b o e).1;have rQ:∀y∈ps.zip us,scope.names.lookup y.1=some .local\/(scope.names.lookup y.1=some .cell/\((cellsFrom (s.heap.objs.size+1) scope.names []).lookup y.1).isSome=true):=λ⟨n,v⟩ hy=>by
  rcases S.par n (List.of_mem_zip hy).1 with q|q
  ·exact .inl q
  ·exact .inr ⟨q,cellsFrom_some _ _ _ (.inl q)⟩
 refine codeAny_call_function hr.depth (KX _ _ lk) rfl S.co S.gen rfl (codeRec_of KX dF) (hb _ _ _ _ ?_);refine wpAny_newFunctionEnv_cells S.kind rQ λenv he s1 x=>?_;subst he;refine⟨lim.keeps x.toInCall.keep,codeAny_func ?_⟩;obtain⟨t,ht,hq⟩:=mo A outer s H vs Q E (hr.deeper _) cZ;have I:Inv (qk CX P w K mg base N qual scope f bv A outer s H E) [] (start N vs) H s1:=qE S hr.hd e0 hl r x;refine wpAny_mono (ht [] s1 (start N vs) H _ I hq) (λfl s' hs=>?_) λe s' hs=>hs;have fin:∀{σ':St}{H':Hp}{v:V}{u:Value},Inv (qk CX P w K mg base N qual scope f bv A outer s H E) [] σ' H' s'->RelV v u->Q v H'->CE outer P w H s Q u s':=
  λ{σ' H' v u} J rv q=>⟨v,H',J.os,J.bare,J.base,J.aj,rv,q⟩
 cases fl with
 |ret u=>
  obtain⟨v,σ',H',J,rv,q⟩:=hs;exact fin J rv q
 |next=>
  obtain⟨σ',H',J,q⟩:=hs;exact fin (v:=V.ah) (u:=Value.none) J rfl q
 |brk=>
  obtain⟨_,_,_,q⟩:=hs;exact False.elim q
 |cont=>
  obtain⟨_,_,_,q⟩:=hs;exact False.elim q
section
variable {X:Cx}{x:Str}{p pos:Pos}{e:Expr}{es:List Expr}{t:TA}{id T:String}{r:List V->Hp->VK->Prop}
noncomputable def iT(r:List V->Hp->VK->Prop)(t:TA):TE:=λσ H Q=>t σ H λvs H1=>r vs H1 Q
theorem QW(hc:Xu X (.builtin id) r)(hg:Gl X x)(hm:X.mg x=none)(hv:bootBuiltins x=some (.builtin id))(ha:PA X (e::es) t)(hn:x≠"__name__":=by decide)(eB:(x==("__debug__":Str))=false:=by decide)
  (he:starEach (e::es) X.env=(false,eval e X.env)::starEach es X.env:=by rfl) (Ix:(backTo pos (starEach es X.env)).any (·.1)=false:=by rfl):PE X (.Call (.Name x p) (e::es) [] pos) (iT r t):=by
 intro pins s σ H Q I h;refine wpAny_Call_Name_kw (JL I hg hm hv ?_ hn eB);exact PyProof.Rows.callWith_builtin1 (ax (ha pos pins s σ H _ I h) λus s1⟨vs,H1,I1,r1,q1⟩=>hc pins s1 σ H1 vs us Q I1 r1 q1) he Ix
theorem Qu(hc:Xu X (.type T) r)(hg:Gl X x)(hm:X.mg x=none)(hv:bootBuiltins x=some (.type T))(ha:PA X (e::es) t)(hn:x≠"__name__":=by decide)(eB:(x==("__debug__":Str))=false:=by decide)
  (he:starEach (e::es) X.env=(false,eval e X.env)::starEach es X.env:=by rfl) (Ix:(backTo pos (starEach es X.env)).any (·.1)=false:=by rfl):PE X (.Call (.Name x p) (e::es) [] pos) (iT r t):=by
 intro pins s σ H Q I h;refine wpAny_Call_Name_kw (JL I hg hm hv ?_ hn eB);exact PyProof.Rows.callWith_type1 (ax (ha pos pins s σ H _ I h) λus s1⟨vs,H1,I1,r1,q1⟩=>hc pins s1 σ H1 vs us Q I1 r1 q1) he Ix
end
end L2
namespace HT
open PySem PyProof.Rows
section
open PySem.SeqAt
open PySem.AutoSeq1 (wpAny_loadPart')
open PySem.MeetsSeq PySem.MeetsSeq2 PySem.MeetsSeq3
end
section
variable {prog:Program}{w:World}{A:Around}{E:Value->Shared->Prop}{s:Shared}
theorem wb{t b:Addr}{vs ws:List Value}{Q:Value->Shared->Prop}(ht:IsTup s.heap t vs.toArray)(hb:IsTup s.heap b ws.toArray)(hv:vs≠[])
  (h1:ws=[]->Q (.ref t) s) (h2:ws≠[]->Q (.ref s.heap.objs.size) {s with heap:=s.heap.push {cls:=.type "tuple",data:=.seq (vs++ws).toArray}})
  (hsz:vs.length+ws.length<=sizeLine):wpAny (model prog w) A (binaryOp .Add (.ref t) (.ref b)) Q E s:=by
 obtain⟨⟨cls,dd,data,sl⟩,ho,hc,n,hd⟩:=id ht;obtain⟨⟨lT,bU,data2,bV⟩,IO,Fa,n2,hd2⟩:=id hb;simp only at hc hd Fa hd2;subst hc hd Fa hd2;have e:vs.toArray++ws.toArray=(vs++ws).toArray:=by simp
 by_cases hw:ws=[]
 ·exact concat_meets ⟨_,ho,ae⟩ ⟨_,IO,ae⟩ noFill_tuple_add seq_tuple_add slot_tuple_add entry_tuple_add (args_tuple_add_2 _ _)
   (tuple_addW1 t b vs.toArray ws.toArray n n2 dd bU sl bV (by simpa using hv) (by simp[hw])) ⟨ho,IO,h1 hw⟩
 ·refine concat_meets ⟨_,ho,ae⟩ ⟨_,IO,ae⟩ noFill_tuple_add seq_tuple_add slot_tuple_add entry_tuple_add (args_tuple_add_2 _ _)
   (tuple_addW2 t b vs.toArray ws.toArray n n2 dd bU sl bV (by simpa using hv) (by simpa using hw) (by rw[nQ,nQ];exact hsz)) ⟨ho,IO,?_⟩
  rw[e];exact h2 hw
noncomputable def aD(n d:Nat):Option Int->Nat
 |none=>d
 |some v=>if v<0 then(v+(n:Int)).toNat else min v.toNat n
theorem KU(n d:Nat):aD n d none=d:=rfl
theorem J3(n d k:Nat):aD n d (some (k:Int))=min k n:=by
 show(if(k:Int)<0 then((k:Int)+(n:Int)).toNat else min (k:Int).toNat n)=min k n;rw[if_neg (by lia),nV]
theorem vV(n d:Nat)(hd:d<=n)(o:Option Int):aD n d o<=n:=by
 cases o with
 |none=>exact hd
 |some v=>
  show(if v<0 then(v+(n:Int)).toNat else min v.toNat n)<=n
  by_cases hv:v<0
  ·rw[if_pos hv];lia
  ·rw[if_neg hv];exact Nat.min_le_right _ _
theorem qF(v:Int)(n d:Nat):(if v<0 then max (v+(n:Int)) 0 else min v (n:Int))=((aD n d (some v):Nat):Int):=by
 show(if v<0 then max (v+(n:Int)) 0 else min v (n:Int))=(((if v<0 then(v+(n:Int)).toNat else min v.toNat n):Nat):Int)
 by_cases hv:v<0
 ·simp only[if_pos hv];lia
 ·simp only[if_neg hv];lia
theorem UF(lo hi:Option Int)(n:Nat):Builtin.Slice.sliceAdjust lo hi 1 (n:Int)=(((aD n 0 lo:Nat):Int),((aD n n hi:Nat):Int)):=by
 have h1:¬ ((1:Int)<0):=by lia
 unfold Builtin.Slice.sliceAdjust;simp only[h1,if_false];refine Prod.ext ?_ ?_
 ·cases lo with
  |none=>rfl
  |some v=>exact qF v n 0
 ·cases hi with
  |none=>rfl
  |some v=>exact qF v n n
theorem UG(i j:Nat):Builtin.Slice.slicePlaces (i:Int) (j:Int) 1=j-i:=by
 unfold Builtin.Slice.slicePlaces;have h1:(1:Int)>0:=by lia
 simp only[h1,if_true,Int.ediv_one]
 split<;>lia
theorem Kz{v:Value}{o:Option Int}{Q:Option Int->Shared->Prop}(p:IsPart v o)(h:Q o s):wpAny (model prog w) A (Builtin.Slice.slicePartIndex v) Q E s:=by
 cases p with
 |none=>exact slicePart_none h
 |int i t=>exact slicePart_int h
theorem JY{sl:Addr}{vl vu:Value}{lo hi:Option Int}{n:Nat}{Q:Int × Int × Nat->Shared->Prop}(hs:s.heap.IsSliceOf sl vl vu .none)(pl:IsPart vl lo)(pu:IsPart vu hi)
  (h:Q (((aD n 0 lo:Nat):Int),1,aD n n hi-aD n 0 lo) s):wpAny (model prog w) A (Builtin.Slice.sliceApplied (.ref sl) (pure (n:Int))) Q E s:=by
 obtain⟨os,c5,fG,cG⟩:=id hs;unfold Builtin.Slice.sliceApplied Builtin.Slice.sliceFields;refine wpAny_bind (wpAny_bind (wpAny_field c5 cG (x:=vl) ae (wpAny_bind (wpAny_field c5 cG (x:=vu) ae (wpAny_bind (wpAny_field c5 cG (x:=.none) ae (wpAny_pure ?_)))))));refine wpAny_bind (slicePart_none ?_);show wpAny _ _ (if((1:Int)==0)=true then _ else _) _ _ s;rw[if_neg (by decide)];refine wpAny_bind (Kz pl (wpAny_bind (Kz pu (wpAny_bind (wpAny_pure ?_)))));show wpAny _ _ (match Builtin.Slice.sliceAdjust lo hi 1 (n:Int)with|(lo,hi)=>pure (lo,(1:Int),Builtin.Slice.slicePlaces lo hi 1)) _ _ s;rw[UF lo hi n];show wpAny _ _ (pure (((aD n 0 lo:Nat):Int),(1:Int),Builtin.Slice.slicePlaces ((aD n 0 lo:Nat):Int) ((aD n n hi:Nat):Int) 1)) _ _ s;rw[UG];exact wpAny_pure h
theorem zS(xs:Array Value)(i k:Nat):((List.range k).filterMap λ(m:Nat)=>xs[((i:Int)+(m:Int)*1).toNat]?).toArray=((xs.toList.drop i).take k).toArray:=by
 have e:(λ(m:Nat)=>xs[((i:Int)+(m:Int)*1).toNat]?)=λm=>xs[i+m]? :=by
  funext m
  have:((i:Int)+(m:Int)*1).toNat=i+m:=by lia
  rw[this]
 rw[e];have:=pick_run xs i k;rw[List.filterMap_map]at this;have e2:((λx=>xs[x]?)∘λx=>i+x)=λm=>xs[i+m]? :=rfl;rw[e2]at this;rw[this]
theorem ZY{t sl:Addr}{items:Array Value}{vl vu:Value}{lo hi:Option Int}{Q:Value->Shared->Prop}(ht:IsTup s.heap t items)(hs:s.heap.IsSliceOf sl vl vu .none)(pl:IsPart vl lo)(pu:IsPart vu hi)
  (hw:¬ (aD items.size 0 lo=0/\aD items.size items.size hi=items.size))
  (h:Q (.ref s.heap.objs.size) {s with heap:=s.heap.push {cls:=.type "tuple",data:=.seq ((items.toList.drop (aD items.size 0 lo)).take (aD items.size items.size hi-aD items.size 0 lo)).toArray}})
  (hsz:items.size<=sizeLine):wpAny (model prog w) A (getItem (.ref t) (.ref sl)) Q E s:=by
 have c7:sizeOk (.seq ((items.toList.drop (aD items.size 0 lo)).take (aD items.size items.size hi-aD items.size 0 lo)).toArray):=by
  show((items.toList.drop (aD items.size 0 lo)).take (aD items.size items.size hi-aD items.size 0 lo)).toArray.size<=sizeLine;rw[nQ,nB,nC,nO];lia
 have hj:aD items.size items.size hi<=items.size:=vV _ _ (ng _) hi;obtain⟨os,c5,fG,cG⟩:=id hs;have pH:s.TypeIs (.ref sl) "slice":=⟨os,c5,fG⟩;unfold getItem
 try with_reducible refine wpAny_holding ?_
 first|refine wpAny_bind (wpAny_pure ?_)|skip
 refine wpAny_bind (wpAny_sequenceKey ht.typeIs (by decide) ?_);refine wpAny_bind (wpAny_callSpecial?_slot (name:=Str.ofString "__getitem__") ht.typeIs PyProof.Rows.slot_tuple_getitem
  (wpAny_call_entry PyProof.Rows.slot_tuple_getitem ht.typeIs entry_tuple_getitem ?_ (args_tuple_getitem _ _)))
 show wpAny _ _ (Builtin.Tuple.tupleItemsOf (.ref t)>>=_) _ _ s;refine wpAny_bind (tupleItemsOf_ ht ?_);refine wpAny_bind (wpAny_typeOf pH ?_);rw[if_pos (by decide)];refine wpAny_bind (JY hs pl pu ?_);have eC:¬ ((((aD items.size 0 lo:Nat):Int)==0&&(1:Int)==1&&(aD items.size items.size hi-aD items.size 0 lo)==items.size)=true):=by
  intro q;rw[Bool.and_eq_true,Bool.and_eq_true]at q;have q1:((aD items.size 0 lo:Nat):Int)=0:=eq_of_beq q.1.1;have q2:aD items.size items.size hi-aD items.size 0 lo=items.size:=eq_of_beq q.2;exact hw ⟨by lia,by lia⟩
 show wpAny _ _ (if(((aD items.size 0 lo:Nat):Int)==0&&(1:Int)==1&&(aD items.size items.size hi-aD items.size 0 lo)==items.size)=true then _ else _) _ _ s;rw[if_neg eC,zS]
 first
  |exact wpAny_bind (m:=Builtin.Tuple.tupleExact _) (wpAny_newObj_type (wpAny_pure ⟨_,rfl,wpAny_pure h⟩) c7)
  |exact wpAny_bind (m:=Builtin.Tuple.tupleExact _) (wpAny_newObj_type (wpAny_bind (wpAny_pure (wpAny_pure ⟨_,rfl,wpAny_pure h⟩))) c7)
  |exact wpAny_bind (wpAny_bind (m:=Builtin.Tuple.tupleExact _) (wpAny_newObj_type (wpAny_pure (wpAny_pure ⟨_,rfl,wpAny_pure h⟩)) c7))
  |exact wpAny_bind (wpAny_bind (m:=Builtin.Tuple.tupleExact _) (wpAny_newObj_type (wpAny_pure ⟨_,rfl,wpAny_pure h⟩) c7))
end
end HT
namespace L2
open PySem PySem.Spec PyProof.Rows
noncomputable abbrev TO:=St->Hp->(Option Int->Hp->Prop)->Prop
noncomputable def PO(X:Cx)(e:Option Expr)(t:TO):Prop:=
 ∀(pins:List (Addr × Obj))(s:Shared)(σ:St)(H:Hp)(Q:Option Int->Hp->Prop),Inv X pins σ H s->t σ H Q->
  wpAny (model X.prog X.w) X.A (evalPart e X.env) (λu s'=>∃o H',Inv X pins σ H' s'/\IsPart u o/\Q o H') X.xe s
noncomputable def wc:TO:=λ_ H Q=>Q none H
noncomputable def IF(t:TE):TO:=λσ H Q=>t σ H λx H1=>∃i,x=.int i/\Q (some i) H1
section
variable {X:Cx}{e:Expr}{te:TE}{lo hi:Option Expr}{tl th:TO}{pos p2:Pos}
theorem KW:PO X none wc:=by
 intro pins s σ H Q I h;rw[evalPart_none];exact wpAny_pure ⟨none,H,I,.none,h⟩
theorem ZZ(h:PE X e te):PO X (some e) (IF te):=by
 intro pins s σ H Q I hw;rw[evalPart_some];refine ax (h pins s σ H _ I hw) λu s1⟨x,H1,I1,r1,q1⟩=>?_;obtain⟨i,rfl,q⟩:=q1;obtain⟨t,rfl⟩:=r1;exact⟨some i,H1,I1,.int i t,q⟩
noncomputable def uT(X:Cx)(r:V->Option Int->Option Int->Hp->VK->Prop):Prop:=
 ∀(pins:List (Addr × Obj))(s:Shared)(σ:St)(H:Hp)(x:V)(v vl vu:Value)(lo hi:Option Int)(sl:Addr)(Q:VK),Inv X pins σ H s->RelV x v->s.heap.IsSliceOf sl vl vu .none->IsPart vl lo->IsPart vu hi->r x lo hi H Q->
  ∃T id,typeLookup (.type T) "__getitem__"=pure (some (.builtin id))/\s.TypeIs v T/\wpAny (model X.prog X.w) X.A (getItem v (.ref sl)) (EP X pins σ Q) X.xe s
noncomputable def IG(r:V->Option Int->Option Int->Hp->VK->Prop)(te:TE)(tl th:TO):TE:=λσ H Q=>te σ H λx H1=>tl σ H1 λl H2=>th σ H2 λu H3=>r x l u H3 Q
theorem Xy{r:V->Option Int->Option Int->Hp->VK->Prop}(hr:uT X r)(he:PE X e te)(hl:PO X lo tl)(hu:PO X hi th):PE X (.Subscript e (.Slice lo hi none p2) pos) (IG r te tl th):=by
 intro pins s σ H Q I h;refine Subscript_ (ax (he pins s σ H _ I h) λv s1⟨x,H1,I1,r1,q1⟩=>?_);refine wpAny_Slice (ax (hl pins s1 σ H1 _ I1 q1) λvl s2⟨l,H2,I2,pl,q2⟩=>ax (hu pins s2 σ H2 _ I2 q2) λvu s3⟨u,H3,I3,pu,q3⟩=>?_);rw[evalPart_none];refine wpAny_pure ?_;have I4:Inv X pins σ H3 {s3 with heap:=s3.heap.push {cls:=.type "slice",data:=.fields #[vl,vu,.none]}}:=I3.kept (t':=s3.toks) λb ob q=>Heap.get?_push_of_some _ q;obtain⟨T,id,hT,ht,hg⟩:=hr pins {s3 with heap:=s3.heap.push {cls:=.type "slice",data:=.fields #[vl,vu,.none]}} σ H3 x v vl vu l u s3.heap.objs.size Q I4 r1 (Heap.IsSliceOf.new ..) pl pu q3;show wpAny (model X.prog X.w) X.A (subscriptTail e (.Slice lo hi none p2) v (.ref s3.heap.objs.size)) (EP X pins σ Q) X.xe {s3 with heap:=s3.heap.push {cls:=.type "slice",data:=.fields #[vl,vu,.none]}};exact tail_any (ops:=[.ref s3.heap.objs.size,v]) ht hT hg (by with_unfolding_all rfl)
noncomputable def WE(xs:List V)(lo hi:Option Int):List V:=(xs.drop (HT.aD xs.length 0 lo)).take (HT.aD xs.length xs.length hi-HT.aD xs.length 0 lo)
theorem XO(xs:List V)(lo hi:Option Int):(WE xs lo hi).length<=xs.length:=by
 unfold WE;rw[nB,nC];lia
noncomputable def IH(K:Frag):V->Option Int->Option Int->Hp->VK->Prop:=λx lo hi H Q=>∃a xs,x=.ref a/\aN K H a xs/\
 ¬ (HT.aD xs.length 0 lo=0/\HT.aD xs.length xs.length hi=xs.length)/\∀p,H p=none->Q (.ref p) (upd H p (.tup (WE xs lo hi)))
theorem vW:uT X (IH X.K):=by
 intro pins s σ H x v vl vu lo hi sl Q I rx hs pl pu h;obtain⟨a,xs,rfl,hx,hw,q⟩:=h;cases rx;obtain⟨ad,r,ht,hz⟩:=I.tuple hx;have hlen:ad.toArray.size=xs.length:=by rw[nQ];exact r.length.symm
 refine⟨"tuple",_,PyProof.Rows.slot_tuple_getitem.lookup,ht.typeIs,?_⟩;refine HT.ZY ht hs pl pu (by rw[hlen];exact hw) ?_ (by rw[hlen];exact hz);rw[hlen];refine⟨.ref s.heap.objs.size,_,I.laid (t':=s.toks) (o:=.tup (WE xs lo hi)) (λb ob q=>Heap.get?_push_of_some _ q) (ng _) ?_,ae,q _ (I.aj.fresh (ng _))⟩;exact⟨Nat.le_trans (XO xs lo hi) hz,_,(r.drop (HT.aD xs.length 0 lo)).take (HT.aD xs.length xs.length hi-HT.aD xs.length 0 lo),Xe.new _ _⟩
noncomputable def II(K:Frag):R2:=λx y H Q=>∃a b xs ys,x=.ref a/\y=.ref b/\aN K H a xs/\aN K H b ys/\xs≠[]/\xs.length+ys.length<=sizeLine/\
 (ys=[]->Q (.ref a) H)/\(ys≠[]->∀p,H p=none->Q (.ref p) (upd H p (.tup (xs++ys))))
theorem Vals.KY{xs:List V}{us:List Value}(r:Vals xs us):us=[]↔xs=[]:=by
 cases r with
 |nil=>simp
 |cons _ _=>simp
theorem we:aU X (binaryOp .Add) (II X.K):=by
 intro pins s σ H x y v u Q I rx ry h;obtain⟨a,b,xs,ys,rfl,rfl,ha,hb,hx,hz,q1,q2⟩:=h;cases rx;cases ry;obtain⟨ad,r1,p1,_⟩:=I.tuple ha;obtain⟨bn,r2,p2,_⟩:=I.tuple hb;refine HT.wb p1 p2 (λz=>hx (r1.KY.mp z)) (λz=>⟨.ref a,H,I,ae,q1 (r2.KY.mp z)⟩) (λz=>?_) (by rw[←r1.length, ←r2.length];exact hz);refine⟨.ref s.heap.objs.size,_,I.laid (t':=s.toks) (o:=.tup (xs++ys)) (λb ob q=>Heap.get?_push_of_some _ q) (ng _) ?_,ae,q2 (λw=>z (r2.KY.mpr w)) _ (I.aj.fresh (ng _))⟩;exact⟨by rw[m5];exact hz,_,r1.append r2,Xe.new _ _⟩
end
noncomputable def iU(n:Nat)(i:Int):Option Nat:=if 0<=i then(if i<n then some i.toNat else none)else if-(n:Int)<=i then some (i+n).toNat else none
noncomputable def bW{α:Type}(xs:List α)(i:Int):Option α:=(iU xs.length i).bind λj=>xs[j]?
theorem wf{n:Nat}{i:Int}{j:Nat}(h:iU n i=some j):seqIndex? i n=some j/\j<n/\ -(n:Int)<=i/\i<n:=by
 unfold iU at h
 by_cases h0:0<=i
 ·rw[if_pos h0]at h
  by_cases h1:i<n
  ·rw[if_pos h1]at h;have e:i.toNat=j:=nh h;exact⟨by rw[seqIndex_of h0 h1,e],by lia,by lia,h1⟩
  ·rw[if_neg h1]at h;cases h
 ·rw[if_neg h0]at h
  by_cases h1: -(n:Int)<=i
  ·rw[if_pos h1]at h;have e:(i+n).toNat=j:=nh h;exact⟨by rw[seqIndex_neg (by lia) h1,e],by lia,h1,by lia⟩
  ·rw[if_neg h1]at h;cases h
theorem qG{α:Type}{xs:List α}{i:Int}{v:α}(h:bW xs i=some v):∃j,seqIndex? i xs.length=some j/\xs[j]? =some v/\j<xs.length/\ -(xs.length:Int)<=i/\i<xs.length:=by
 unfold bW at h;cases e:iU xs.length i with
 |none=>rw[e]at h;cases h
 |some j=>
  rw[e]at h;obtain⟨h1,h2,h3,h4⟩:=wf e;exact⟨j,h1,h,h2,h3,h4⟩
theorem QZ{α:Type}{xs:List α}{j:Nat}{v:α}(h:xs[j]? =some v):bW xs (j:Int)=some v:=by
 have hj:j<xs.length:=(List.getElem?_eq_some_iff.mp h).1;have e:iU xs.length (j:Int)=some j:=by
  unfold iU;rw[if_pos (by lia),if_pos (by lia)];simp
 unfold bW;rw[e];exact h
theorem zT{α:Type}(xs:List α)(v:α):bW (xs++[v]) (-1)=some v:=by
 have hl:(xs++[v]).length=xs.length+1:=by simp
 have e:iU (xs++[v]).length (-1)=some xs.length:=by
  unfold iU;rw[hl,if_neg (by decide),if_pos (by lia)]
  congr 1
  lia
 unfold bW;rw[e];show(xs++[v])[xs.length]? =some v;simp
noncomputable def qH(b:Expr):Prop:=∀o i,subscripted b false o i=operate [o,i] (getItem o i)
noncomputable def rR(X:Cx)(r:R2):Prop:=
 ∀(value slice:Expr)(pins:List (Addr × Obj))(s:Shared)(σ:St)(H:Hp)(x y:V)(v u:Value)(Q:VK),Inv X pins σ H s->RelV x v->RelV y u->r x y H Q->
  subscripted slice false v u=operate [v,u] (getItem v u)->wpAny (model X.prog X.w) X.A (subscriptTail value slice v u) (EP X pins σ Q) X.xe s
noncomputable def uU(X:Cx)(id:String)(r:V->List V->Hp->VK->Prop):Prop:=
 ∀(pins:List (Addr × Obj))(s:Shared)(σ:St)(H:Hp)(x:V)(xs:List V)(v:Value)(us:List Value)(Q:VK),Inv X pins σ H s->RelV x v->Vals xs us->r x xs H Q->
  wpAny (model X.prog X.w) X.A (call (.builtin id) (v::us)) (EP X pins σ Q) X.xe s
section
variable {X:Cx}{a b:Expr}{ta tb:TE}{pos:Pos}
theorem Qv{r:R2}(hr:rR X r)(ha:PE X a ta)(hb:PE X b tb)(hs:qH b):PE X (.Subscript a b pos) (fR r ta tb):=by
 intro pins s σ H Q I h;exact Subscript_ (Bq ha hb I h λv u s2 x y H2 I2 rx ry q=>hr a b pins s2 σ H2 x y v u Q I2 rx ry q (hs _ _))
noncomputable def IJ(K:Frag):R2:=λx y H Q=>∃p xs i v,x=.ref p/\y=.int i/\aJ K H p xs/\bW xs i=some v/\Q v H
noncomputable def IK(K:Frag):R2:=λx y H Q=>∃p xs i v,x=.ref p/\y=.int i/\aN K H p xs/\bW xs i=some v/\Q v H
theorem qI:rR X (IJ X.K):=by
 intro value slice pins s σ H x y v u Q I rx ry h hs;obtain⟨p,xs,i,z,rfl,rfl,hq,he,q⟩:=h;cases rx;obtain⟨t,rfl⟩:=ry;obtain⟨ad,r,pl,hz⟩:=I.list hq;obtain⟨j,h1,h2,h3,h4,h5⟩:=qG he;obtain⟨w,ew,dH⟩:=r.get h2;have hl:=r.length;have hn:=WJ;have fin:EP X pins σ Q w s:=⟨z,H,I,dH,q⟩
 by_cases h0:0<=i
 ·have hj:i.toNat=j:=by
   rw[seqIndex_of h0 h5]at h1;exact nh h1
  exact item_listR pl.isList h0 (by lia) (by rw[hj];simpa using ew) fin hs
 ·have hj:(i+(ad.toArray.size:Int)).toNat=j:=by
   rw[seqIndex_neg (by lia) h4]at h1;rw[nQ, ←hl];exact nh h1
  exact subscriptTail_builtinR (x:=w) pl.isList.typeIs slot_list_getitem.lookup
   (wpAny_getItem_list_neg (Q:=λr s'=>r=w/\EP X pins σ Q r s') pl.isList (by lia) (by rw[nQ]<;>lia) (by lia) (by rw[hj];simpa using ew) ⟨ae,fin⟩) hs
theorem WP:rR X (IK X.K):=by
 intro value slice pins s σ H x y v u Q I rx ry h hs;obtain⟨p,xs,i,z,rfl,rfl,hq,he,q⟩:=h;cases rx;obtain⟨t,rfl⟩:=ry;obtain⟨ad,r,pl,hz⟩:=I.tuple hq;obtain⟨j,h1,h2,h3,h4,h5⟩:=qG he;obtain⟨w,ew,dH⟩:=r.get h2;have hl:=r.length;have hn:=WJ;have fin:EP X pins σ Q w s:=⟨z,H,I,dH,q⟩;exact subscriptTail_builtinR (x:=w) pl.typeIs slot_tuple_getitem.lookup
  (getItem_tuple (j:=j) (Q:=λr s'=>r=w/\EP X pins σ Q r s') pl (by lia) (by lia) (by rw[nQ, ←hl];exact h1) (by simpa using ew) ⟨ae,fin⟩) hs
theorem WQ(lo hi:Option Int)(n:Nat):(sliceBounds lo hi none n).1=((HT.aD n 0 lo:Nat):Int)/\(sliceBounds lo hi none n).2.1=((HT.aD n n hi:Nat):Int)/\(sliceBounds lo hi none n).2.2=1:=by
 refine⟨?_,?_,ae⟩
 ·cases lo with
  |none=>simp[sliceBounds,HT.aD]
  |some i=>
   simp only[sliceBounds,HT.aD,Option.getD_none,show(1:Int)>0 by decide,if_true]
   by_cases h:i<0
   ·simp only[h,if_true]<;>lia
   ·simp only[h,if_false]<;>lia
 ·cases hi with
  |none=>simp[sliceBounds,HT.aD]
  |some i=>
   simp only[sliceBounds,HT.aD,Option.getD_none,show(1:Int)>0 by decide,if_true]
   by_cases h:i<0
   ·simp only[h,if_true]<;>lia
   ·simp only[h,if_false]<;>lia
theorem KZ(ad:List Value)(lo hi:Option Int):slicePick ad.toArray lo hi none=((ad.drop (HT.aD ad.length 0 lo)).take (HT.aD ad.length ad.length hi-HT.aD ad.length 0 lo)).toArray:=by
 obtain⟨h1,h2,h3⟩:=WQ lo hi ad.toArray.size;unfold slicePick;rw[h1,h2,h3];simp only[sliceRange_one,pick_run,nQ]<;>rfl
noncomputable def IL(K:Frag):V->Option Int->Option Int->Hp->VK->Prop:=λx lo hi H Q=>∃a xs,x=.ref a/\aJ K H a xs/\∀p,H p=none->Q (.ref p) (upd H p (.lst (WE xs lo hi)))
theorem qJ:uT X (IL X.K):=by
 intro pins s σ H x v vl vu lo hi sl Q I rx hs pl pu h;obtain⟨a,xs,rfl,hx,q⟩:=h;cases rx;obtain⟨ad,r,ht,hz⟩:=I.list hx;have hlen:=r.length;refine⟨"list",_,slot_list_getitem.lookup,ht.isList.typeIs,?_⟩;refine wpAny_getItem_list_slice ht.isList hs pl pu .none (by simp) ?_ (by rw[nQ]<;>lia);rw[KZ, ←hlen];refine⟨.ref s.heap.objs.size,_,I.laid (t':=s.toks) (o:=.lst (WE xs lo hi)) (λb ob q=>Heap.get?_push_of_some _ q) (ng _) ?_,ae,q _ (I.aj.fresh (ng _))⟩;exact⟨Nat.le_trans (XO xs lo hi) hz,_,0,(r.drop (HT.aD xs.length 0 lo)).take (HT.aD xs.length xs.length hi-HT.aD xs.length 0 lo),Heap.get?_push_size _ rfl⟩
noncomputable def WR:V->Bool
 | .ah=>true
 | .bl _=>true
 | .int _=>true
 | .str _=>true
 |_=>false
noncomputable def dS:V->V->Bool
 | .ah,.ah=>true
 | .bl a,.bl b=>a==b
 | .bl a,.int b=>(if a then 1 else 0)==b
 | .int a,.bl b=>a==(if b then 1 else 0)
 | .int a,.int b=>a==b
 | .str a,.str b=>a==b
 |_,_=>false
theorem km{A:Around}{s:Shared}{y x:V}{u v:Value}(ry:RelV y u)(rx:RelV x v)(fy:WR y=true)(fx:WR x=true):SeqAt.EqAt A s u v (dS y x):=by
 cases y with
 |ah=>
  cases ry;cases x with
  |ah=>cases rx;exact SeqAt.EqAt.same _
  |bl b=>cases rx;exact SeqAt.EqAt.none_bool b
  |int b=>obtain⟨t,rfl⟩:=rx;exact SeqAt.EqAt.none_int b t
  |str b=>obtain⟨t,rfl⟩:=rx;exact SeqAt.EqAt.none_str b t
  |_=>exact absurd (show false=true from fx) Bool.false_ne_true
 |bl a=>
  cases ry;cases x with
  |ah=>cases rx;exact SeqAt.EqAt.bool_none a
  |bl b=>cases rx;exact SeqAt.EqAt.bool_bool a b
  |int b=>obtain⟨t,rfl⟩:=rx;exact SeqAt.EqAt.bool_int a b t
  |str b=>obtain⟨t,rfl⟩:=rx;exact SeqAt.EqAt.bool_str a b t
  |_=>exact absurd (show false=true from fx) Bool.false_ne_true
 |int a=>
  obtain⟨t',rfl⟩:=ry;cases x with
  |ah=>cases rx;exact SeqAt.EqAt.int_none a t'
  |bl b=>cases rx;exact SeqAt.EqAt.int_bool a t' b
  |int b=>obtain⟨t,rfl⟩:=rx;exact SeqAt.EqAt.int_int a t' b t
  |str b=>obtain⟨t,rfl⟩:=rx;exact SeqAt.EqAt.int_str a t' b t
  |_=>exact absurd (show false=true from fx) Bool.false_ne_true
 |str a=>
  obtain⟨t',rfl⟩:=ry;cases x with
  |ah=>cases rx;exact SeqAt.EqAt.str_none a t'
  |bl b=>cases rx;exact SeqAt.EqAt.str_bool a t' b
  |int b=>obtain⟨t,rfl⟩:=rx;exact SeqAt.EqAt.str_int a t' b t
  |str b=>obtain⟨t,rfl⟩:=rx;exact SeqAt.EqAt.str_str a t' b t
  |_=>exact absurd (show false=true from fx) Bool.false_ne_true
 |_=>exact absurd (show false=true from fy) Bool.false_ne_true
noncomputable def uV(x:V)(u:Value):Bool:=match u with
 | .none=>dS .ah x
 | .bool b=>dS (.bl b) x
 | .int i _=>dS (.int i) x
 | .str z _=>dS (.str z) x
 |_=>false
theorem kn{x y:V}{u:Value}(r:RelV y u)(f:WR y=true):uV x u=dS y x:=by
 cases y with
 |ah=>cases r;rfl
 |bl b=>cases r;rfl
 |int i=>obtain⟨t,rfl⟩:=r;rfl
 |str z=>obtain⟨t,rfl⟩:=r;rfl
 |_=>exact absurd (show false=true from f) Bool.false_ne_true
theorem YM{A:Around}{s:Shared}{x:V}{v:Value}(rx:RelV x v)(fx:WR x=true):∀{xs:List V}{us:List Value},Vals xs us->xs.all WR=true->∀u∈us,SeqAt.EqAt A s u v (uV x u)
 |_,_,.nil,_=>λu hu=>by cases hu
 |y::xs,u::us,.cons r t,f=>λu' hu=>by
  rw[List.all_cons,Bool.and_eq_true]at f;rcases List.mem_cons.mp hu with rfl|hu
  ·rw[kn r f.1];exact km r rx f.1 fx
  ·exact YM rx fx t f.2 u' hu
theorem Q0:Xu X (.builtin "len") (λxs H Q=>∃p ys,xs=[.ref p]/\(aJ X.K H p ys\/aN X.K H p ys)/\Q (.int ys.length) H):=by
 intro pins s σ H xs us Q I r h;obtain⟨p,ys,rfl,hq,q⟩:=h;obtain⟨u,rfl,rx⟩:=vals1 r;cases rx;have hn:=WJ;rcases hq with hq|hq
 ·obtain⟨ad,r',pl,hz⟩:=I.list hq;have hlen:=r'.length;exact Calls.call_len_list pl.isList (by simp only[nQ]<;>lia) ⟨.int ys.length,H,I.tok _,⟨s.toks+1,by rw[nQ,hlen]⟩,q⟩
 ·obtain⟨ad,r',pl,hz⟩:=I.tuple hq;have hlen:=r'.length;exact len_tuple pl (by simp only[nQ]<;>lia) ⟨.int ys.length,H,I.tok _,⟨s.toks+1,by rw[nQ,hlen]⟩,q⟩
theorem WS:Xu X (.type "list") (λxs H Q=>∃p ys,xs=[.ref p]/\(aJ X.K H p ys\/aN X.K H p ys)/\∀l,H l=none->Q (.ref l) (upd H l (.lst ys))):=by
 intro pins s σ H xs us Q I r h;obtain⟨p,ys,rfl,hq,q⟩:=h;obtain⟨u,rfl,rx⟩:=vals1 r;cases rx;have fin:∀(ad:List Value),Vals ys ad->ys.length<=sizeLine->∀(h':Heap)(c':Nat),(∀b o',s.heap.get? b=some o'->h'.get? b=some o')->
   h'.get? s.heap.objs.size=some {cls:=.type "list",dict:=none,data:=.seq ad.toArray c',slots:= #[]}->EP X pins σ Q (.ref s.heap.objs.size) {s with heap:=h'}:=λad r' hz h' c' kp e=>
  ⟨.ref s.heap.objs.size,_,I.laid (t':=s.toks) kp (ng _) (show QY X.prog X.w _ h' _ (.lst ys)from⟨hz,ad,c',r',e⟩),ae,q _ (I.aj.fresh (ng _))⟩
 rcases hq with hq|hq
 ·obtain⟨ad,r',pl,hz⟩:=I.list hq;have hlen:=r'.length;obtain⟨o,ho,hc,n,hd⟩:=pl.isList;exact call_list_seq p (.inl ae) ho hc hd (λh' c' kp e=>fin ad r' hz h' c' kp e) (by simp only[nQ]<;>lia)
 ·obtain⟨ad,r',pl,hz⟩:=I.tuple hq;have hlen:=r'.length;obtain⟨o,ho,hc,n,hd⟩:=pl;exact call_list_seq p (.inr ae) ho hc hd (λh' c' kp e=>fin ad r' hz h' c' kp e) (by simp only[nQ]<;>lia)
theorem Qo:Xu X (.type "tuple") (λxs H Q=>∃p ys,xs=[.ref p]/\((aJ X.K H p ys/\∀l,H l=none->Q (.ref l) (upd H l (.tup ys)))\/(aN X.K H p ys/\Q (.ref p) H))):=by
 intro pins s σ H xs us Q I r h;obtain⟨p,ys,rfl,h⟩:=h;obtain⟨u,rfl,rx⟩:=vals1 r;cases rx;rcases h with⟨hq,q⟩|⟨hq,q⟩
 ·obtain⟨ad,r',pl,hz⟩:=I.list hq;have hlen:=r'.length;refine call_tuple_list pl.isList (λh' kp=>?_) (by simp only[nQ]<;>lia);have I1:Inv X pins σ H {s with heap:=h'}:=I.kept (t':=s.toks) kp;have I2:Inv X pins σ (upd H h'.objs.size (.tup ys)) {s with heap:=h'.push {cls:=.type "tuple",data:=.seq ad.toArray}}:=
   I1.laid (t':=s.toks) (λb o e=>Heap.get?_push_of_some _ e) (ng _) (show QY X.prog X.w _ _ _ (.tup ys)from⟨hz,ad,r',Xe.new _ _⟩)
  exact⟨.ref h'.objs.size,_,I2,ae,q _ (I1.aj.fresh (ng _))⟩
 ·obtain⟨ad,r',pl,hz⟩:=I.tuple hq;exact call_tuple_same pl ⟨.ref p,H,I,ae,q⟩
noncomputable def Fj(K:Frag)(T:String)(x:V)(H:Hp):Prop:=match x with
 | .str _=>T="str"
 | .int _=>T="int"
 | .ref p=>(T="list"/\∃xs,aJ K H p xs)\/(T="tuple"/\∃o,K.lookup p=some o/\o.cls=.type "tuple"/\o.dict=none)\/
   (T="dict"/\((∃ap,H p=some (.dK ap))\/∃ap,H p=some (.dT ap)))\/(T="set"/\∃S n,H p=some (.set S n))\/(T="tuple"/\∃xs,H p=some (.tup xs))
 |_=>False
theorem vX{pins:List (Addr × Obj)}{σ:St}{H:Hp}{s:Shared}{T:String}{x:V}{v:Value}(I:Inv X pins σ H s)(r:RelV x v)(ty:Fj X.K T x H):
  s.TypeIs v T/\∀a,v=.ref a->∃ob,s.heap.get? a=some ob/\ob.dict=none:=by
 cases x with
 |str z=>
  obtain⟨t,rfl⟩:=r;cases(show T="str" from ty);exact⟨typeIs_str s z t,λ_ e=>nomatch e⟩
 |int i=>
  obtain⟨t,rfl⟩:=r;cases(show T="int" from ty);exact⟨typeIs_int s i t,λ_ e=>nomatch e⟩
 |ref p=>
  cases r;rcases ty with⟨rfl,xs,hq⟩|⟨rfl,o,hk,hc,hd⟩|⟨rfl,hk⟩|⟨rfl,S,n,hk⟩|⟨rfl,xs,hk⟩
  ·obtain⟨ad,_,pl,_⟩:=I.list hq;refine⟨pl.isList.typeIs,λa e=>?_⟩;cases e;obtain⟨o,n,e,c,hd,_⟩:=pl;exact⟨o,e,hd⟩
  ·refine⟨⟨o,I.bC p o hk,hc⟩,λa e=>?_⟩;cases e;exact⟨o,I.bC _ o hk,hd⟩
  ·have z:∃o,s.heap.get? p=some o/\o.ExactDict:=by
    rcases hk with⟨ap,hk⟩|⟨ap,hk⟩
    ·obtain⟨_,_,_,_,o,_,_,e,ex,_⟩:=I.aj p _ hk;exact⟨o,e,ex⟩
    ·obtain⟨_,_,_,_,o,_,_,e,ex,_⟩:=I.aj p _ hk;exact⟨o,e,ex⟩
   obtain⟨o,e,ex⟩:=z;refine⟨⟨o,e,ex.1⟩,λa e2=>?_⟩;cases e2;exact⟨o,e,ex.2.1⟩
  ·obtain⟨o,_,_,_,e,ex,_⟩:=I.aj p _ hk;refine⟨⟨o,e,ex.1⟩,λa e2=>?_⟩;cases e2;exact⟨o,e,ex.2.1⟩
  ·obtain⟨_,ad,_,o,h1,h2,n,h3,h4⟩:=(show QY X.prog X.w H s.heap p (.tup xs)from I.aj p _ hk);exact⟨⟨o,h1,h2⟩,λa e=>by cases e;exact⟨o,h1,h4⟩⟩
 |_=>exact False.elim ty
noncomputable def Fl(K:Frag)(T:String)(r:V->List V->Hp->VK->Prop)(to:TE)(t:TA):TE:=λσ H Q=>to σ H λx H1=>Fj K T x H1/\t σ H1 λxs H2=>r x xs H2 Q
variable {o e:Expr}{es:List Expr}{to:TE}{t:TA}{name:Str}{apos ce:Pos}{T id:String}{r:V->List V->Hp->VK->Prop}
theorem UH(pa:PlainAttrs T)(slot:Slot T name id)(By:typeOf (.builtin id)=pure (.type "method_descriptor"))(hm:uU X id r)(ho:PE X o to)(ha:PA X (e::es) t)
  (eE:attributeBase o name X.env (eval o X.env)=eval o X.env:=by rfl)
  (lU:((backTo ce (starEach (e::es) X.env)).all (λx=> !x.1)&&(backToKw ce (keywordEach [] X.env)).all (λx=>x.1.isSome)
   &&decide ((e::es).length+([]:List Keyword).length+(if([]:List Keyword).isEmpty then 0 else 1)<30))=true:=by rfl)
  (eF:(apos.endLine==ce.line)=true:=by rfl) (hs:starEach (e::es) X.env=(false,eval e X.env)::starEach es X.env:=by rfl) (cH:(backTo ce (starEach es X.env)).any (·.1)=false:=by rfl):
  PE X (.Call (.Attribute o name apos) (e::es) [] ce) (Fl X.K T r to t):=by
 intro pins s σ H Q I h;refine wpAny_Call_method_late eE lU eF rfl (ax (ho pins s σ H _ I h) λv s1⟨x,H1,I1,r1,ty,q1⟩=>?_);obtain⟨h1,h2⟩:=vX I1 r1 ty;refine⟨T,id,pa,slot,By,h1,h2,?_⟩;have hA:=ha ce pins s1 σ H1 _ I1 q1;rw[hs]at hA ⊢;refine Calls.callWith_builtin (by show(false||(backTo ce (starEach es X.env)).any (·.1))=false;rw[cH]<;>rfl) (Calls.evalArgs_plain ?_);exact ax hA λus s2⟨vs,H2,I2,r2,q2⟩=>hm pins s2 σ H2 x vs v us Q I2 r1 r2 q2
end
noncomputable def Fm(X:Cx)(id:String)(r:V->List V->Hp->VK->Prop):Prop:=
 ∀(pins:List (Addr × Obj))(s:Shared)(σ:St)(H:Hp)(x:V)(xs:List V)(v:Value)(us:List Value)(Q:VK),Inv X pins σ H s->RelV x v->Vals xs us->r x xs H Q->
  wpAny (model X.prog X.w) X.A (call (.builtin id) (v::us)) (EP X pins σ Q) X.xe s
theorem Vals.one:∀{x:V}{us:List Value},Vals [x] us->∃u,us=[u]/\RelV x u
 |_,_,.cons r .nil=>⟨_,ae,r⟩
theorem Vals.rep{xs:List V}{us:List Value}(h:Vals xs us):∀k:Nat,Vals (List.replicate k xs).flatten (List.replicate k us).flatten
 |0=>.nil
 |k+1=>by
  rw[List.replicate_succ,List.replicate_succ,List.flatten_cons,List.flatten_cons];exact Vals.append h (Vals.rep h k)
theorem foldl_rep(ad:List Value):∀(k:Nat)(acc:List Value),
  List.foldl (λx1 x2=>x1++x2) acc.toArray (List.replicate k ad.toArray)=(acc++(List.replicate k ad).flatten).toArray
 |0,acc=>by simp
 |k+1,acc=>by
  have e:acc.toArray++ad.toArray=(acc++ad).toArray:=by simp
  have e2:(acc++ad)++(List.replicate k ad).flatten=acc++(List.replicate (k+1) ad).flatten:=by
   rw[List.replicate_succ,List.flatten_cons,nH]
  rw[←e2, ←foldl_rep ad k (acc++ad), ←e,List.replicate_succ,List.foldl_cons]
section
variable {X:Cx}{pins:List (Addr × Obj)}{σ:St}{H:Hp}{s:Shared}{l b:Addr}{xs ys zs:List V}
theorem Inv.Bz{ad its':List Value}{n:Nat}{f:Array Value->Array Value}{t':Nat}(I:Inv X pins σ H s)(hH:H l=some (.lst xs))
  (e:s.heap.get? l=some {cls:=.type "list",data:=.seq ad.toArray n}) (hf:f ad.toArray=its'.toArray) (hv:Vals ys its') (hz:ys.length<=sizeLine):
  Inv X pins σ (upd H l (.lst ys)) {s with heap:=s.heap.update l (Obj.mapSeq f),toks:=t'}:=by
 have q:=PySem.IsL.update e f;rw[hf]at q;refine I.write (x:=l) (e:=l) (by rw[hH];exact trivial) (.inl ae) (λb' u hb hu=>(Heap.get?_update_other s.heap (Obj.mapSeq f) (Ne.symm hb)).trans hu) ⟨_,q⟩ ?_;exact⟨hz,its',_,hv,q⟩
theorem Inv.Fn{ad:List Value}{t':Nat}(I:Inv X pins σ H s)(hv:Vals ys ad)(hz:ys.length<=sizeLine):
  Inv X pins σ (upd H s.heap.objs.size (.lst ys)) {s with heap:=s.heap.push {cls:=.type "list",data:=.seq ad.toArray},toks:=t'}:=
 I.laid (λ_ _ q=>Heap.get?_push_of_some _ q) (ng _) ⟨hz,ad,0,hv,Heap.get?_push_size _ rfl⟩
theorem Inv.fresh(I:Inv X pins σ H s):H s.heap.objs.size=none:=I.aj.fresh (ng _)
theorem Inv.ko(I:Inv X pins σ H s)(hH:H l=some (.lst xs)):xs.length<=sizeLine/\∃(ad:List Value)(n:Nat),Vals xs ad/\xs.length=ad.length/\s.heap.get? l=some {cls:=.type "list",data:=.seq ad.toArray n}:=by
 obtain⟨z,ad,n,r,e⟩:=I.aj l _ hH;exact⟨z,ad,n,r,r.length,e⟩
theorem Xz{n:Nat}(h:n<=sizeLine):Builtin.List.listTooLong n=false:=by
 unfold Builtin.List.listTooLong;exact m8 (by lia)
end
section
variable {X:Cx}
noncomputable def wg:V->List V->Hp->VK->Prop:=λx vs H Q=>∃l xs y,x=.ref l/\vs=[y]/\H l=some (.lst xs)/\xs.length<sizeLine/\Q .ah (upd H l (.lst (xs++[y])))
theorem XQ:Fm X "list.append" wg:=by
 intro pins s σ H x vs v us Q I rx rv h;obtain⟨l,xs,y,rfl,rfl,hH,hz,q⟩:=h;cases rx;obtain⟨u,rfl,ru⟩:=rv.one;obtain⟨z,ad,n,r,hl,e⟩:=I.ko hH;refine call_meets F.slot_list_append ⟨_,e,ae⟩ F.entry_list_append (F.args_list_append_2 _ _) (PySem.list_append l ad.toArray n u (by rw[nQ];lia)) ⟨e,?_⟩;refine⟨.ah,_,I.Bz (its':=ad++[u]) hH e (by simp) (r.append (.cons ru .nil)) ?_,ae,q⟩;rw[m5,ni];lia
noncomputable def wj:V->List V->Hp->VK->Prop:=λx vs H Q=>∃l b xs zs,x=.ref l/\vs=[.ref b]/\H l=some (.lst xs)/\H b=some (.lst zs)/\xs.length+zs.length<=sizeLine/\Q .ah (upd H l (.lst (xs++zs)))
theorem WT:Fm X "list.extend" wj:=by
 intro pins s σ H x vs v us Q I rx rv h;obtain⟨l,b,xs,zs,rfl,rfl,hH,hB,hz,q⟩:=h;cases rx;obtain⟨u,rfl,ru⟩:=rv.one;cases ru;obtain⟨z,ad,n,r,hl,e⟩:=I.ko hH;obtain⟨z2,bn,n2,r2,AC,e2⟩:=I.ko hB;have hsz:ad.toArray.size+bn.toArray.size<=sizeLine:=by rw[nQ,nQ];lia
 have eG:¬ (!ad.toArray.isEmpty&&Builtin.List.listTooLong (ad.toArray.size+bn.toArray.size))=true:=by
  rw[Xz hsz,Bool.and_false];exact Bool.false_ne_true
 refine call_meets F.slot_list_extend ⟨_,e,ae⟩ F.entry_list_extend (F.args_list_extend_2 _ _)
  (AutoSeq1.list_extend_list_list_0 l ad.toArray n b bn.toArray n2 eG (by rw[nQ];lia) (by lia)) ⟨e,e2,?_⟩
 refine⟨.ah,_,I.Bz (its':=ad++bn) hH e (by simp) (r.append r2) ?_,ae,q⟩;rw[m5];lia
noncomputable def IM:R2:=λx y H Q=>∃l b xs zs,x=.ref l/\y=.ref b/\H l=some (.lst xs)/\H b=some (.lst zs)/\xs.length+zs.length<=sizeLine/\∀p,H p=none->Q (.ref p) (upd H p (.lst (xs++zs)))
theorem vY:aU X (binaryOp .Add) IM:=by
 intro pins s σ H x y v u Q I rx ry h;obtain⟨l,b,xs,zs,rfl,rfl,hH,hB,hz,q⟩:=h;cases rx;cases ry;obtain⟨z,ad,n,r,hl,e⟩:=I.ko hH;obtain⟨z2,bn,n2,r2,AC,e2⟩:=I.ko hB;refine PySem.P.add_list e e2 ?_ (by rw[nQ,nQ];lia);have ea:ad.toArray++bn.toArray=(ad++bn).toArray:=by simp
 rw[ea];exact⟨.ref _,_,I.Fn (t':=s.toks) (r.append r2) (by rw[m5];lia),ae,q _ I.fresh⟩
noncomputable def IP:R2:=λx y H Q=>∃l k xs,x=.ref l/\y=.int k/\H l=some (.lst xs)/\ -(2^63)<=k/\k<2^63/\xs.length*k.toNat<=sizeLine/\
 ∀p,H p=none->Q (.ref p) (upd H p (.lst (List.replicate k.toNat xs).flatten))
theorem len_rep{α:Type}(xs:List α)(k:Nat):(List.replicate k xs).flatten.length=k*xs.length:=by
 induction k with
 |zero=>simp
 |succ k ih=>rw[List.replicate_succ,List.flatten_cons,m5,ih,Nat.succ_mul,Nat.add_comm]
theorem kq:aU X (binaryOp .Mult) IP:=by
 intro pins s σ H x y v u Q I rx ry h;obtain⟨l,k,xs,rfl,rfl,hH,h1,h2,hz,q⟩:=h;cases rx;obtain⟨t,rfl⟩:=ry;obtain⟨z,ad,n,r,hl,e⟩:=I.ko hH;have hlen:ad.toArray.size*k.toNat<=sizeLine:=by rw[nQ, ←hl];exact hz
 have BA:¬ ad.toArray.size*k.toNat>(2^63-1)/8:=by
  have:(sizeLine:Nat)<=(2^63-1)/8:=by decide
  lia
 have BB:¬ (!Builtin.List.listFitsIndex k)=true:=by
  rw[fitsIndex_both h1 h2];exact Bool.false_ne_true
 have eG:¬ Builtin.List.listTooLong (ad.toArray.size*k.toNat)=true:=by
  rw[Xz hlen];exact Bool.false_ne_true
 have BC:List.foldl (λx1 x2=>x1++x2) #[] (List.replicate (if ad.toArray.isEmpty=true then 0 else k.toNat) ad.toArray)=(List.replicate k.toNat ad).flatten.toArray:=by
  have f0:∀m:Nat,List.foldl (λx1 x2=>x1++x2) #[] (List.replicate m ad.toArray)=(List.replicate m ad).flatten.toArray:=λm=>by
   have:=foldl_rep ad m [];rw[List.nil_append]at this;exact this
  rw[f0];cases ad with
  |nil=>simp
  |cons a r'=>rw[if_neg (by simp)]
 refine wpAny_binaryOp_repeat_ref (T:="list") (U:="int") (by decide) ⟨_,e,ae⟩ (λs'=>typeIs_int s' k t) noFill_list_mul F.fills_int_mul F.slot_int_rmul repeat_list F.slot_int_index.lookup
  (call_meets F.slot_int_rmul (typeIs_int s k t) F.entry_int_rmul (F.args_int_rmul_2 _ _) (int___rmul___int_list k t l ad.toArray n)
   ⟨e,ae,⟨_,e,ae⟩,call_meets F.slot_list_mul ⟨_,e,ae⟩ F.entry_list_mul (F.args_list_mul_2 _ _) (AutoListH.list___mul___list_int_3 l ad.toArray n k t BB BA eG) ⟨e,?_⟩⟩)
 rw[BC];exact⟨.ref _,_,I.Fn (t':=s.toks) (r.rep k.toNat) (by rw[len_rep,Nat.mul_comm];exact hz),ae,q _ I.fresh⟩
end
section
variable {prog:Program}{w:World}{A:Around}{E:Value->Shared->Prop}{s:Shared}
theorem qK(ad bn:List Value)(a c:Nat):ad.toArray.extract 0 a++bn.toArray++ad.toArray.extract c ad.toArray.size=(ad.take a++bn++ad.drop c).toArray:=by
 apply Array.toList_inj.mp
 first
  |(simp
    exact List.take_of_length_le (by simp))
  |simp[List.take_of_length_le]
  |simp
end
section
variable {κ:Type}[DecidableEq κ]
noncomputable def VS(ap:List (κ × V))(k:κ):Option V:=(ap.find? λkv=>decide (kv.1=k)).map (·.2)
noncomputable def putK(ap:List (κ × V))(k:κ)(v:V):List (κ × V):=
 if(ap.any λkv=>decide (kv.1=k))=true then ap.map (λkv=>if kv.1=k then(kv.1,v)else kv)else ap++[(k,v)]
theorem Jk{p:κ × V}{r:List (κ × V)}{k:κ}(e:p.1=k):VS (p::r) k=some p.2:=by simp[VS,List.find?_cons,e]
theorem QX{p:κ × V}{r:List (κ × V)}{k:κ}(e:¬ p.1=k):VS (p::r) k=VS r k:=by simp[VS,List.find?_cons,e]
theorem YN(k:κ):∀ap:List (κ × V),(ap.any λkv=>decide (kv.1=k))=(VS ap k).isSome
 |[]=>rfl
 |p::r=>by
  rw[List.any_cons]
  by_cases e:p.1=k
  ·simp only[Jk e,m9 e,Bool.true_or,Option.isSome_some]
  ·rw[QX e,m8 e,Bool.false_or];exact YN k r
theorem Zz(ap:List (κ × V))(k:κ)(v:V):(putK ap k v).length<=ap.length+1:=by
 unfold putK
 split
 ·rw[m7];lia
 ·rw[m5,nj,List.length_nil];lia
theorem Uy.qL{o:Option V}{u:Option Value}(r:Uy o u):o.isSome=u.isSome:=by
 cases o with
 |none=>cases u with
  |none=>rfl
  |some _=>exact(show False from r).elim
 |some _=>cases u with
  |none=>exact(show False from r).elim
  |some _=>rfl
theorem Uy.getD{o:Option V}{u:Option Value}{d:V}{d':Value}(r:Uy o u)(rd:RelV d d'):RelV (o.getD d) (u.getD d'):=by
 cases o with
 |none=>cases u with
  |none=>exact rd
  |some _=>exact(show False from r).elim
 |some _=>cases u with
  |none=>exact(show False from r).elim
  |some _=>exact r
theorem KV.val{ap:List (κ × V)}{vs:List (κ × Value)}(r:KV ap vs)(k:κ):Uy (VS ap k) (valueAt vs k):=by
 unfold KV at r
 induction r with
 |nil=>exact True.intro
 |@cons p q ps qs h t ih=>
  obtain⟨h1,h2⟩:=h
  by_cases e:p.1=k
  ·have e':q.1=k:=h1.symm.trans e;have b:valueAt (q::qs) k=some q.2:=by simp[valueAt,List.find?_cons,e']
   rw[Jk e,b];exact h2
  ·have e':¬ q.1=k:=λz=>e (h1.trans z);have b:valueAt (q::qs) k=valueAt qs k:=by simp[valueAt,List.find?_cons,e']
   rw[QX e,b];exact ih
theorem KV.any{ap:List (κ × V)}{vs:List (κ × Value)}(r:KV ap vs)(k:κ):(ap.any λkv=>decide (kv.1=k))=vs.any λkv=>decide (kv.1=k):=by
 unfold KV at r
 induction r with
 |nil=>rfl
 |cons h t ih=>rw[List.any_cons,List.any_cons,ih,h.1]
theorem KV.BD{ap:List (κ × V)}{vs:List (κ × Value)}(r:KV ap vs)(k:κ){y:V}{u:Value}(ry:RelV y u):
  KV (ap.map λkv=>if kv.1=k then(kv.1,y)else kv) (vs.map λkv=>if kv.1=k then(kv.1,u)else kv):=by
 unfold KV at r ⊢
 induction r with
 |nil=>exact .nil
 |@cons p q ps qs h t ih=>
  rw[nM,nM];refine .cons ?_ ih;obtain⟨h1,h2⟩:=h
  by_cases e:p.1=k
  ·rw[if_pos e,if_pos (h1.symm.trans e)];exact⟨h1,ry⟩
  ·rw[if_neg e,if_neg (λz=>e (h1.trans z))];exact⟨h1,h2⟩
theorem KV.put{ap:List (κ × V)}{vs:List (κ × Value)}(r:KV ap vs)(k:κ){y:V}{u:Value}(ry:RelV y u):KV (putK ap k y) (stored vs k u):=by
 unfold putK stored;rw[r.any k]
 by_cases e:(vs.any λkv=>decide (kv.1=k))=true
 ·rw[if_pos e,if_pos e];exact r.BD k ry
 ·rw[if_neg e,if_neg e];exact Paired.snoc r ⟨ae,ry⟩
theorem KV.length{ap:List (κ × V)}{vs:List (κ × Value)}(r:KV ap vs):ap.length=vs.length:=Paired.length r
end
theorem qM{P:Program}{w:World}{k:Key}{u:Value}(r:RelV (kV k) u):(QI P w).is k u=true:=by
 cases k with
 |inl i=>obtain⟨t,e⟩:=(show ∃t,u=Value.int i t from r);subst e;exact VM P w i t
 |inr x=>obtain⟨t,e⟩:=(show ∃t,u=Value.str x t from r);subst e;exact VN P w x t
theorem WU{P:Program}{w:World}:∀{ks:List Key}{us:List Value},Vals (ks.map kV) us->ItemsAre (QI P w) ks us
 |[],_,r=>by rw[List.map_nil]at r;cases r;exact .nil
 |k::ks,_,r=>by
  rw[nM]at r;cases r with
  |cons h t=>exact .cons (qM h) (WU t)
noncomputable abbrev KT(H:Hp):List (List Key × V)->List (List Key × Addr × Value)->Prop:=Paired λp q=>p.1=q.1/\H q.2.1=some (.tup (p.1.map kV))/\RelV p.2 q.2.2
theorem KT.val{H:Hp}{ap:List (List Key × V)}{xs:List (List Key × Addr × Value)}(r:KT H ap xs)(k:List Key):Uy (VS ap k) ((atKey xs k).map (·.2)):=by
 induction r with
 |nil=>exact True.intro
 |@cons p q ps qs h t ih=>
  obtain⟨h1,_,h2⟩:=h
  by_cases e:p.1=k
  ·have e':q.1=k:=h1.symm.trans e;have b:atKey (q::qs) k=some q.2:=by simp[atKey,List.find?_cons,e']
   rw[Jk e,b];exact h2
  ·have e':¬ q.1=k:=λz=>e (h1.trans z);have b:atKey (q::qs) k=atKey qs k:=by simp[atKey,List.find?_cons,e']
   rw[QX e,b];exact ih
theorem KT.BD{H:Hp}{ap:List (List Key × V)}{xs:List (List Key × Addr × Value)}(r:KT H ap xs)(k:List Key){y:V}{u:Value}(ry:RelV y u):
  KT H (ap.map λkv=>if kv.1=k then(kv.1,y)else kv) (xs.map (putAt k u)):=by
 induction r with
 |nil=>exact .nil
 |@cons p q ps qs h t ih=>
  rw[nM,nM];refine .cons ?_ ih;obtain⟨h1,h2,h3⟩:=h;unfold putAt
  by_cases e:p.1=k
  ·rw[if_pos e,if_pos (h1.symm.trans e)];exact⟨h1,h2,ry⟩
  ·rw[if_neg e,if_neg (λz=>e (h1.trans z))];exact⟨h1,h2,h3⟩
theorem KT.put{H:Hp}{ap:List (List Key × V)}{xs:List (List Key × Addr × Value)}(r:KT H ap xs)(k:List Key){b:Addr}{y:V}{u:Value}(hb:H b=some (.tup (k.map kV)))(ry:RelV y u):
  KT H (putK ap k y) (storedH xs k b u):=by
 have e:(ap.any λkv=>decide (kv.1=k))=(atKey xs k).isSome:=by
  rw[YN,(r.val k).qL,Option.isSome_map]
 unfold putK storedH;rw[e]
 by_cases q:(atKey xs k).isSome=true
 ·rw[if_pos q,if_pos q];exact r.BD k ry
 ·rw[if_neg q,if_neg q];exact Paired.snoc r ⟨ae,hb,ry⟩
theorem KT.keeps{H H':Hp}{ap:List (List Key × V)}{xs:List (List Key × Addr × Value)}(r:KT H ap xs)(ht:∀b ys,H b=some (.tup ys)->H' b=some (.tup ys)):KT H' ap xs:=
 Paired.Bc r λ_ _ z=>⟨z.1,ht _ _ z.2.1,z.2.2⟩
section
variable {P:Program}{w:World}{H:Hp}{h:Heap}{a:Addr}
theorem vZ{u:HO}(ok:aS P w H h)(e:Rd H a u):QY P w H h a u:=e.ok ok
theorem qN{ap:List (Key × V)}(ok:aS P w H h)(e:Rd H a (.dK ap)):ap.length<=sizeLine/\(a==sysModules)=false/\∃vs,KV ap vs/\h.DictOf (QI P w) a vs:=
 show QY P w H h a (.dK ap)from vZ ok e
theorem v3{ap:List (Key × V)}(ok:aS P w H h)(e:H a=some (.dK ap)):ap.length<=sizeLine/\(a==sysModules)=false/\∃vs,KV ap vs/\h.DictOf (QI P w) a vs:=qN ok (.inl e)
theorem YO{ks:List Key}(ok:aS P w H h)(e:H a=some (.tup (ks.map kV))):(tupleKind (QI P w)).is h ks a:=by
 obtain⟨_,ad,r,o,h1,h2,n,h3,_⟩:=(show QY P w H h a (.tup (ks.map kV))from ok a _ e);exact⟨o,ad.toArray,n,h1,h2,h3,by simpa using WU r⟩
theorem qO{ap:List (List Key × V)}(ok:aS P w H h)(e:Rd H a (.dT ap)):ap.length<=sizeLine/\(a==sysModules)=false/\
  ∃xs,KT H ap xs/\h.DictOfH (tupleKind (QI P w)) a xs:=by
 obtain⟨z,y,xs,r,o,es,ep,h1,h2,h3,h4,h5⟩:=(show QY P w H h a (.dT ap)from vZ ok e);refine⟨z,y,xs,r,o,es,ep,h1,h2,h3,h4,λx hx=>?_,h5⟩;have all:∀{l:List (List Key × V)}{m:List (List Key × Addr × Value)},KT H l m->∀x∈m,(tupleKind (QI P w)).is h x.1 x.2.1:=by
  intro l m q
  induction q with
  |nil=>intro x hx;exact nomatch hx
  |@cons p q ps qs hq t ih=>
   intro x hx;rcases List.mem_cons.mp hx with e|hx
   ·subst e;exact YO ok (by rw[←hq.1];exact hq.2.1)
   ·exact ih x hx
 exact all r x hx
theorem IQ{ap:List (List Key × V)}(ok:aS P w H h)(e:H a=some (.dT ap)):ap.length<=sizeLine/\(a==sysModules)=false/\
  ∃xs,KT H ap xs/\h.DictOfH (tupleKind (QI P w)) a xs:=qO ok (.inl e)
end
noncomputable def YQ(H:Hp)(a:Addr)(y:V)(r:Option V):Prop:=
 (∃ap k,Rd H a (.dK ap)/\y=kV k/\r=VS ap k)\/∃ap k b,Rd H a (.dT ap)/\y=.ref b/\H b=some (.tup (k.map kV))/\r=VS ap k
noncomputable def qP(H:Hp)(a:Addr)(y v:V)(H':Hp):Prop:=
 (∃ap k,H a=some (.dK ap)/\y=kV k/\ap.length<sizeLine/\H'=upd H a (.dK (putK ap k v)))\/
 ∃ap k b,H a=some (.dT ap)/\y=.ref b/\H b=some (.tup (k.map kV))/\ap.length<sizeLine/\H'=upd H a (.dT (putK ap k v))
theorem YQ.k{H:Hp}{a:Addr}{ap:List (Key × V)}{k:Key}(e:H a=some (.dK ap)):YQ H a (kV k) (VS ap k):=.inl ⟨ap,k,.inl e,ae,ae⟩
theorem qP.k{H:Hp}{a:Addr}{ap:List (Key × V)}{k:Key}{v:V}(e:H a=some (.dK ap))(hl:ap.length<sizeLine):qP H a (kV k) v (upd H a (.dK (putK ap k v))):=.inl ⟨ap,k,e,ae,hl,ae⟩
section
variable {X:Cx}{pins:List (Addr × Obj)}{σ:St}{H:Hp}{s:Shared}{a:Addr}{y v:V}{u r:Value}{o:Option V}{A:Around}{E:Value->Shared->Prop}
theorem Inv.big(I:Inv X pins σ H s):sysModules<s.heap.objs.size:=by
 have h:mainGlobals<s.heap.objs.size:=(I.mod.glob.keeps I.bk).lt;exact Nat.lt_trans (by decide) h
theorem qQ{Q:Value->Shared->Prop}(hu:A.units+1<cLine)(I:Inv X pins σ H s)(g:YQ H a y (some v))(ry:RelV y u)(h:∀w' s',Inv X pins σ H s'->RelV v w'->Q w' s'):
  wpAny (model X.prog X.w) A (getItem (.ref a) u) Q E s:=by
 rcases g with⟨ap,k,e,ey,l⟩|⟨ap,k,b,e,ey,eb,l⟩
 ·subst ey;obtain⟨z,hd,vs,rel,dd⟩:=qN I.aj e;obtain⟨w',hw,dH⟩:=Uy.some_of (v:=v) (o:=valueAt vs k) (by rw[l];exact rel.val k);exact wpAny_getItem_of (qM ry) dd.mapOf hw (h w' _ (I.tok _) dH)
 ·subst ey;cases(show u=Value.ref b from ry);obtain⟨z,hd,xs,rel,dd⟩:=qO I.aj e;obtain⟨w',hw,dH⟩:=Uy.some_of (v:=v) (o:=(atKey xs k).map (·.2)) (by rw[l];exact rel.val k);obtain⟨p,hp,lV⟩:=Option.map_eq_some_iff.mp hw;refine wpAny_getItem_heap (tupleKind_room_in1 hu) (YO I.aj eb) dd hp ?_;rw[lV];exact h w' _ (I.tok _) dH
theorem VT{h':Heap}{t':Nat}{ob:HO}(I:Inv X pins σ H s)(mu:rH (H a))(hs:Heap.SameBut a s.heap h')(he:∃q,h'.get? a=some q) (new:QY X.prog X.w (upd H a ob) h' a ob):
  Inv X pins σ (upd H a ob) {s with heap:=h',toks:=t'}:=
 I.write (x:=a) (e:=a) mu (.inl ae) (λb q hb z=>(hs.2 b hb).trans z) he new
theorem kr{P:Program}{w:World}{H':Hp}{h':Heap}{ap:List (Key × V)}{vs:List (Key × Value)}(z:ap.length<=sizeLine)(hd:(a==sysModules)=false)(rel:KV ap vs)(dd:h'.DictOf (QI P w) a vs):
  QY P w H' h' a (.dK ap):=⟨z,hd,vs,rel,dd⟩
theorem WV{H':Hp}{Q:Unit->Shared->Prop}(hu:A.units+1<cLine)(I:Inv X pins σ H s)(g:qP H a y v H')(ry:RelV y u)(rv:RelV v r)(h:∀s',Inv X pins σ H' s'->Q () s'):
  wpAny (model X.prog X.w) A (setItem (.ref a) u r) Q E s:=by
 rcases g with⟨ap,k,e,ey,l,eH⟩|⟨ap,k,b,e,ey,eb,l,eH⟩
 ·subst ey eH;obtain⟨z,hd,vs,rel,dd⟩:=v3 I.aj e;have hz:vs.length<=sizeLine:=by rw[←rel.length];exact z
  have hl:(putK ap k v).length<=sizeLine:=by have:=Zz ap k v;lia
  refine wpAny_setItem_pairs (hsz:=hz) (qM ry) dd λh' lW hs=>h _ ?_;have he:∃q,h'.get? a=some q:=let ⟨q,_,_,hq,_⟩:=lW;⟨q,hq⟩;exact VT I (by rw[e];exact True.intro) hs he (kr hl hd (rel.put k rv) lW)
 ·subst ey eH;cases(show u=Value.ref b from ry);obtain⟨z,hd,xs,rel,dd⟩:=IQ I.aj e;have hz:xs.length<=sizeLine:=by rw[←Paired.length rel];exact z
  have hl:(putK ap k v).length<=sizeLine:=by have:=Zz ap k v;lia
  refine wpAny_setItem_heap (hsz:=hz) (tupleKind_room_in1 hu) (YO I.aj eb) dd λh' lW hs=>h _ ?_;obtain⟨q,es,ep,hq,h2,h3,h4,_,h5⟩:=lW;refine VT I (by rw[e];exact True.intro) hs ⟨q,hq⟩ ⟨hl,hd,_,(rel.put k eb rv).keeps λc ys ec=>?_,q,es,ep,hq,h2,h3,h4,h5⟩;rw[Qh (vM ec e (λz=>nomatch z))];exact ec
end
noncomputable def Fo(i:Expr):Prop:=∀ov iv,subscripted i false ov iv=operate [ov,iv] (getItem ov iv)
theorem wl{prog:Program}{w:World}{A:Around}{E:Value->Shared->Prop}{s:Shared}{env:Env}{value slice:Expr}{pos:Pos}{T id:String}{Q:Value->Shared->Prop}
  (hl:typeLookup (.type T) "__getitem__"=pure (some (.builtin id))) (hs:Fo slice)
  (h:wpAny (model prog w) A (eval value env) (λo s₁=>wpAny (model prog w) A (eval slice env) (λi s₂=>s₂.TypeIs o T/\wpAny (model prog w) A (getItem o i) Q E s₂) E s₁) E s):
  wpAny (model prog w) A (eval (.Subscript value slice pos) env) Q E s:=by
 refine Subscript_ (wpAny_mono h (λo s₁ h₁=>wpAny_mono h₁ (λi s₂ h₂=>?_) λ_ _ x=>x) λ_ _ x=>x);obtain⟨hT,h₂⟩:=h₂;unfold subscriptTail;refine wpAny_bind ?_;rw[getitemInPython_of_ne hT.not_modules];refine wpAny_bind (wpAny_specialOf hT hl ?_);have fin:wpAny (model prog w) A (subscripted slice false o i) (λr s₃=>wpAny (model prog w) A (letTemporaryGo value o r>>=λ_=>pure r) Q E s₃) E s₂:=by
  rw[hs o i];exact wpAny_operating (wpAny_mono h₂ (λr s₃ h₃=>wpAny_bind (wpAny_letTemporaryGo (wpAny_pure h₃))) λ_ _ x=>x)
 first
  |exact wpAny_pure (wpAny_bind fin)
  |exact wpAny_bind (wpAny_pure (wpAny_bind fin))
  |exact wpAny_bind fin
theorem VU{X:Cx}{pins:List (Addr × Obj)}{σ:St}{H:Hp}{s:Shared}{a:Addr}{y:V}{o:Option V}(I:Inv X pins σ H s)(g:YQ H a y o):s.TypeIs (.ref a) "dict":=by
 rcases g with⟨ap,k,e,_,_⟩|⟨ap,k,b,e,_,_,_⟩
 ·obtain⟨_,_,vs,_,dd⟩:=qN I.aj e;exact dd.typeIs
 ·obtain⟨_,_,xs,_,dd⟩:=qO I.aj e;exact dd.typeIs
noncomputable def IS(td ty:TE):TE:=λσ H Q=>td σ H λx H1=>ty σ H1 λy H2=>∃a v,x=.ref a/\YQ H2 a y (some v)/\Q v H2
noncomputable def v4(td ty tv:TE):TS:=λD σ H=>tv σ H λv H1=>td σ H1 λx H2=>ty σ H2 λy H3=>∃a H4,x=.ref a/\qP H3 a y v H4/\D.nx σ H4
section
variable {X:Cx}{o i e value:Expr}{pos pos' IT:Pos}{td ty tv:TE}
theorem Z0(hu:X.A.units+1<cLine)(ho:PE X o td)(hi:PE X i ty)(hs:Fo i):PE X (.Subscript o i pos) (IS td ty):=by
 intro pins s σ H Q I h;refine wl PySem.F.slot_dict_getitem.lookup hs (ax (ho pins s σ H _ I h) λu s1⟨x,H1,I1,rx,q1⟩=>ax (hi pins s1 σ H1 _ I1 q1) λiv s2⟨y,H2,I2,ry,a,v,ex,g,q2⟩=>?_);subst ex;obtain rfl:u=Value.ref a:=rx;exact⟨VU I2 g,qQ hu I2 g ry λw' s3 I3 dH=>⟨v,H2,I3,dH,q2⟩⟩
theorem VW(hu:X.A.units+1<cLine)(ho:PE X o td)(hi:PE X i ty)(hv:PE X value tv)(hs:swapsWith value (some (.Subscript o i pos')) pos.line X.env=pure false):
  PS X (.Assign [.Subscript o i pos'] value pos) (v4 td ty tv):=by
 intro pins s σ H D I h;refine wpAny_Assign_Subscript (ax (hv pins s σ H _ I h) λr s1⟨v,H1,I1,rv,q1⟩=>ax (ho pins s1 σ H1 _ I1 q1) λu s2⟨x,H2,I2,rx,q2⟩=>ax (hi pins s2 σ H2 _ I2 q2) λiv s3⟨y,H3,I3,ry,a,H4,ex,g,q3⟩=>?_) hs;subst ex;obtain rfl:u=Value.ref a:=rx;exact WV hu I3 g ry rv λs4 I4=>⟨σ,H4,I4,q3⟩
end
theorem YR{P:Program}{w:World}{H:Hp}(h:Heap)(hb:sysModules<h.objs.size):QY P w H (h.push {cls:=.type "dict",data:=.dict #[]}) h.objs.size (.dK []):=
 ⟨nR _,beq_eq_false_iff_ne.mpr (Ne.symm (Nat.ne_of_lt hb)),[],.nil,Heap.DictOf.new h⟩
noncomputable def ku:TE:=λ_ H Q=>∀p,H p=none->Q (.ref p) (upd H p (.dK []))
section
variable {X:Cx}{pos:Pos}
theorem zU:PE X (.Dict [] [] pos) ku:=λpins s σ H Q I h=>
 wpAny_Dict_empty ⟨.ref s.heap.objs.size,_,I.laid (a:=s.heap.objs.size) (o:=.dK []) (t':=s.toks) (λ_ _ q=>Heap.get?_push_of_some _ q) (ng _) (YR s.heap I.big),ae,h _ (I.aj.fresh (ng _))⟩
end
noncomputable def qR:List (TE × TE)->St->Hp->(List (V × V)->Hp->Prop)->Prop
 |[],_,H,Q=>Q [] H
 |(tk,tv)::r,σ,H,Q=>tk σ H λx H1=>tv σ H1 λy H2=>qR r σ H2 λps H3=>Q ((x,y)::ps) H3
noncomputable abbrev VV:List (V × V)->List (Value × Value)->Prop:=Paired λp q=>RelV p.1 q.1/\RelV p.2 q.2
noncomputable def uW(X:Cx)(pos:Pos)(keys:List (Option Expr))(values:List Expr)(fT:List (TE × TE)):Prop:=
 ∀(pins:List (Addr × Obj))(s:Shared)(σ:St)(H:Hp)(Q:List (V × V)->Hp->Prop),Inv X pins σ H s->qR fT σ H Q->
  wpAny (model X.prog X.w) X.A (evalPairs (pairTrees keys values X.env pos)) (λvs s'=>∃ps H',Inv X pins σ H' s'/\VV ps vs/\Q ps H') X.xe s
theorem qS{X:Cx}{pos:Pos}:uW X pos [] [] []:=λpins s σ H Q I h=>pairTrees_nil_walk ⟨[],H,I,.nil,h⟩
theorem K1{X:Cx}{pos:Pos}{k v:Expr}{ks:List (Option Expr)}{vs:List Expr}{tk tv:TE}{fT:List (TE × TE)}(hk:PE X k tk)(hv:PE X v tv)(hr:uW X pos ks vs fT):
  uW X pos (some k::ks) (v::vs) ((tk,tv)::fT):=λpins s σ H Q I h=>
 pairTrees_cons_walk (ax (hk pins s σ H _ I h) λu s1⟨x,H1,I1,rx,q1⟩=>ax (hv pins s1 σ H1 _ I1 q1) λw2 s2⟨y,H2,I2,ry,q2⟩=>
  ax (hr pins s2 σ H2 _ I2 q2) λws s3⟨ps,H3,I3,rel,q3⟩=>⟨(x,y)::ps,H3,I3,.cons ⟨rx,ry⟩ rel,q3⟩)
noncomputable def Xj(ap more:List (Key × V)):List (Key × V):=more.foldl (λacc kv=>putK acc kv.1 kv.2) ap
theorem KV.merge:∀{more:List (Key × V)}{rs:List (Key × Value)}{ap:List (Key × V)}{vs:List (Key × Value)},KV more rs->KV ap vs->KV (Xj ap more) (merged vs rs):=by
 intro more rs ap vs r;unfold KV at r
 induction r generalizing ap vs with
 |nil=>intro q;exact q
 |@cons p q ps qs h t ih=>
  intro r0;have e:KV (putK ap p.1 p.2) (stored vs q.1 q.2):=by
   have:=r0.put p.1 h.2;rw[←h.1];exact this
  exact ih e
theorem ZM:∀(more ap:List (Key × V)),(Xj ap more).length<=ap.length+more.length
 |[],ap=>by show ap.length<=ap.length+0;lia
 |p::r,ap=>by
  have h1:=ZM r (putK ap p.1 p.2);have h2:=Zz ap p.1 p.2;show(Xj (putK ap p.1 p.2) r).length<=_;rw[nj];lia
theorem KA{P:Program}{w:World}:∀{ap:List (Key × V)}{ws:List (Value × Value)},VV (ap.map λkv=>(kV kv.1,kv.2)) ws->∃rs,Carries (QI P w) ws rs/\KV ap rs
 |[],_,r=>by rw[List.map_nil]at r;cases r;exact⟨[],True.intro,.nil⟩
 |p::ap,_,r=>by
  rw[nM]at r;cases r with
  |@cons a b as bs h t=>
   obtain⟨rs,c,q⟩:=KA (P:=P) (w:=w) t;obtain⟨b1,b2⟩:=b;exact⟨(p.1,b2)::rs,⟨qM h.1,ae,c⟩,.cons ⟨ae,h.2⟩ q⟩
noncomputable def zV(fT:List (TE × TE)):TE:=λσ H Q=>∀p,H p=none->qR fT σ (upd H p (.dK [])) λps H2=>H2 p=some (.dK [])/\∃ap:List (Key × V),ps=ap.map (λkv=>(kV kv.1,kv.2))/\ap.length<=15/\Q (.ref p) (upd H2 p (.dK (Xj [] ap)))
theorem qT{X:Cx}{pos:Pos}{keys:List (Option Expr)}{values:List Expr}{fT:List (TE × TE)}(h:uW X pos keys values fT)(Cl:keys.all (·.isSome)=true)(hl:keys.length=values.length)(h0:keys≠[])
  (IU:keys.length<=15):PE X (.Dict keys values pos) (zV fT):=by
 intro pins s σ H Q I q;have hn:=I.aj.fresh (ng s.heap.objs.size);have I1:=I.laid (a:=s.heap.objs.size) (o:=.dK []) (h':=s.heap.push {cls:=.type "dict",data:=.dict #[]}) (t':=s.toks) (λ_ _ q=>Heap.get?_push_of_some _ q) (ng _) (YR s.heap I.big);refine wpAny_Dict_walk (knd:=QI X.prog X.w) Cl hl h0 IU (ax (h pins _ σ _ _ I1 (q _ hn)) λws s2⟨ps,H2,I2,rel,e,ap,ep,lk,q2⟩=>?_);subst ep;obtain⟨rs,c,rk⟩:=KA (P:=X.prog) (w:=X.w) rel;obtain⟨z,hd,vs0,r0,dd⟩:=v3 I2.aj e;cases r0;refine⟨rs,c,dd,λh' lW hs=>⟨.ref s.heap.objs.size,_,?_,ae,q2⟩⟩;have hz:(Xj [] ap).length<=sizeLine:=by
  have h1:=ZM ap [];rw[List.length_nil]at h1;rw[sizeLine_eq];lia
 have he:∃q,h'.get? s.heap.objs.size=some q:=let ⟨q,_,_,hq,_⟩:=lW;⟨q,hq⟩;exact VT I2 (by rw[e];exact True.intro) hs he (kr hz hd (rk.merge .nil) lW)
structure M2(X:Cx)(o:Expr)(m:Str)(apos:Pos)(e f:Expr)(ce:Pos):Prop where
 base:attributeBase o m X.env (eval o X.env)=eval o X.env
 uX:((backTo ce (starEach [e,f] X.env)).all (λx=> !x.1)&&(backToKw ce (keywordEach [] X.env)).all (λx=>x.1.isSome)
  &&decide (([e,f]:List Expr).length+([]:List Keyword).length+(if([]:List Keyword).isEmpty then 0 else 1)<30))=true
 line:(apos.endLine==ce.line)=true
 trees:backTo ce (starEach [e,f] X.env)=[(false,eval e X.env),(false,eval f X.env)]
noncomputable def Fp(H:Hp)(a:Addr):Prop:=(∃ap,Rd H a (.dK ap))\/∃ap,Rd H a (.dT ap)
theorem v5{X:Cx}{pins:List (Addr × Obj)}{σ:St}{H:Hp}{s:Shared}{a:Addr}(I:Inv X pins σ H s)(d:Fp H a):
  s.TypeIs (.ref a) "dict"/\(∀b,Value.ref a=.ref b->∃ob,s.heap.get? b=some ob/\ob.dict=none)/\(a==sysModules)=false:=by
 rcases d with⟨ap,e⟩|⟨ap,e⟩
 ·obtain⟨_,hd,vs,_,dd⟩:=qN I.aj e;refine⟨dd.typeIs,λb q=>?_,hd⟩;cases q;obtain⟨ob,_,_,h1,h2,_⟩:=dd;exact⟨ob,h1,h2.2.1⟩
 ·obtain⟨_,hd,xs,_,dd⟩:=qO I.aj e;refine⟨dd.typeIs,λb q=>?_,hd⟩;cases q;obtain⟨ob,_,_,h1,h2,_⟩:=dd;exact⟨ob,h1,h2.2.1⟩
section
variable {X:Cx}{pins:List (Addr × Obj)}{σ:St}{H:Hp}{s:Shared}{a:Addr}{y d:V}{u r:Value}{o:Option V}{A:Around}{E:Value->Shared->Prop}
theorem v6{Q:Value->Shared->Prop}(hu:A.units+1<cLine)(I:Inv X pins σ H s)(g:YQ H a y o)(ry:RelV y u)(rd:RelV d r)(h:∀w' s',Inv X pins σ H s'->RelV (o.getD d) w'->Q w' s'):
  wpAny (model X.prog X.w) A (call (.builtin "dict.get") [.ref a,u,r]) Q E s:=by
 rcases g with⟨ap,k,e,ey,l⟩|⟨ap,k,b,e,ey,eb,l⟩
 ·subst ey;obtain⟨z,hd,vs,rel,dd⟩:=qN I.aj e;refine call_meetsIn slot_dict_get dd.typeIs entry_dict_get (args_dict_get_3 _ _ _) (meets_dict_get_default (QI X.prog X.w) a (qM ry) hd r) ⟨_,dd.mapOf,h _ _ (I.tok _) ?_⟩;rw[l];exact(rel.val k).getD rd
 ·subst ey;cases(show u=Value.ref b from ry);obtain⟨z,hd,xs,rel,dd⟩:=qO I.aj e;refine call_meetsIn slot_dict_get dd.typeIs entry_dict_get (args_dict_get_3 _ _ _) (meetsH_dict_get_default (tupleKind (QI X.prog X.w)) a b hd r) ⟨tupleKind_room_in1 hu,k,xs,YO I.aj eb,dd,h _ _ (I.tok _) ?_⟩;rw[l];exact(rel.val k).getD rd
end
noncomputable def v7(td ty tx:TE):TE:=λσ H Q=>td σ H λx H1=>∃a,x=.ref a/\Fp H1 a/\ty σ H1 λy H2=>tx σ H2 λz H3=>∃o,YQ H3 a y o/\Q (o.getD z) H3
section
variable {X:Cx}{o e f:Expr}{apos ce:Pos}{td ty tx:TE}
theorem zW(hu:X.A.units+1<cLine)(ho:PE X o td)(he:PE X e ty)(hf:PE X f tx)(m:M2 X o "get" apos e f ce):PE X (.Call (.Attribute o "get" apos) [e,f] [] ce) (v7 td ty tx):=by
 intro pins s σ H Q I h;refine wpAny_Call_method m.base m.uX m.line plainAttrs_dict slot_dict_get type_dict_get (ax (ho pins s σ H _ I h) λu s1⟨x,H1,I1,rx,a,ex,d,q1⟩=>?_);subst ex;obtain rfl:u=Value.ref a:=rx;obtain⟨t1,t2,_⟩:=v5 I1 d;refine⟨t1,t2,?_⟩;rw[m.trees];refine Calls.callWith_builtin rfl (Calls.evalArgs_plain (Calls.spliced_cons (ax (he pins s1 σ H1 _ I1 q1) λiv s2⟨y,H2,I2,ry,q2⟩=>
  Calls.spliced_cons (ax (hf pins s2 σ H2 _ I2 q2) λfv s3⟨z,H3,I3,rz,ov,g,q3⟩=>Calls.spliced_nil ?_))))
 exact v6 hu I3 g ry rz λw' s4 I4 dH=>⟨_,H3,I4,dH,q3⟩
end
end L2
namespace Fq
open PySem PySem.W PySem.Calls PyProof.Rows
theorem XR{P:Params}{h:Heap}:∀(ns:List Int)(vs:List Value),WellAll P h vs (ns.map WData.int)->IntsAre vs ns:=by
 intro ns
 induction ns with
 |nil=>
  intro vs w;rw[List.map_nil]at w;cases w;exact .nil
 |cons n ns ih=>
  intro vs w;rw[nM]at w;cases w with
  |cons a b=>
   cases a;exact .cons _ _ (ih _ b)
theorem qU{l:OpenLaw}{n:Nat}(hn:l.most=some n){P:Params}{h:Heap}{args:List WData}{vals:List Value}
  (fU:l.row.toRowW.claim.pre args=true) (uY:WellAll P h vals args):
  ∃a vs ns,vals=[Value.ref a]/\args=[WData.list (ns.map WData.int)]/\h.get? a=some {cls:=.type "list",data:=.seq vs.toArray}/\IntsAre vs ns/\ns.length<=n:=by
 have IV:WShape.hasAll [] args [.list .int]=true:=(pre_splitW fU).1;have hc:l.pre.holds [] {args:=args}=true:=(pre_splitW fU).2;obtain⟨d,r,rfl,h1,h2⟩:=hasAllW_cons IV;obtain rfl:=hasAllW_nil h2;obtain⟨xs,rfl,h3⟩:=hasW_list h1;obtain⟨ns,rfl⟩:=items_int h3;have hlen:ns.length<=n:=by
  unfold OpenLaw.pre at hc;have h4:(WTm.not (.lt (.lit (.int (n:Int))) (.len (.arg 0)))).holds [] {args:=[.list (ns.map .int)]}=true:=by
   have h4:=(holds_andW hc).1;rw[hn]at h4;exact h4
  have h5:=condW_of h4 (w_not (w_lt w_lit (w_len_list (w_arg ae))));rw[m7]at h5;refine Nat.le_of_not_lt λq=>?_;have q':(n:Int)<((ns.length:Nat):Int):=by lia
  first
   |(rw[m9 q']at h5;exact absurd h5 (by decide))
   |(simp at h5;lia)
 cases uY with
 |cons w1 w2=>
  cases w2;cases w1 with
  |list ho Cl=>exact⟨_,_,ns,ae,ae,ho,XR ns _ Cl,hlen⟩
theorem qV(l:OpenLaw)(args:List WData):l.row.toRowW.claim.post args (.bool true) args=true:=
 postW_of (r:=l.row.toRowW) (X:=(true==true))
  (show WShape.has [] (.bool true) .bool=true by first|rfl|decide|simp[WShape.has,WShape.arms,WShape.armsAll])
  (show(WTm.eq .res (.lit (.bool true))).value [] {args:=args,res:=some (.bool true),after:=args}=some (.bool (true==true))from w_eq_bool (w_res ae) w_lit) rfl
theorem VX{l:OpenLaw}{n:Nat}{q:Program}{loose:List Str}{XP:(Str->Option Value)->Heap->Prop}{YP:World->Heap->Prop}{d:DefRec}
  (hn:l.most=some n) (BE:d.params.defaults=[])
  (call:∀(w:World)(s₀ s₁:Shared)(mg mb:Str->Option Value)(fa:Addr)(o:Obj)(pm cd doc:Value)(a:Addr)(vs:List Value)(ns:List Int),
   Ground q loose [] XP w s₀ mg mb s₁.heap->YP w s₁.heap->
   s₁.heap.get? fa=some o->o.data=.func (docDef d.name d.params d.body d.scope pm cd doc)->s₁.heap.CodeRec cd d.name->mg d.name=some (.ref fa)->
   s₁.heap.get? a=some {cls:=.type "list",data:=.seq vs.toArray}->IntsAre vs ns->ns.length<=n->s₁.gens= #[]->
   codeAny (model l.prog w) callerA (.call (.ref fa) ⟨[.ref a],[]⟩) (λr s'=>r=.ok (.ret (.bool true))/\OldK s₁.heap s'.heap/\s'.os=s₁.os/\AllBare s'.gens) s₁):
  WalkO q loose XP YP l.row.toRowW d [] (λf vs=>PySem.call f vs):=by
 intro w s₀ s₁ mg mb G Y fa o pm cd doc dV kV ho hd dF hD rS hg args vals as fU IW hrd uY BF;obtain rfl:dV=.none:=Dflts.none hD BE;obtain rfl:kV=.none:=Dflts.noKw hD;obtain⟨a,vs,ns,rfl,rfl,lX,hints,hlen⟩:=qU hn fU uY;refine enter_call (codeAny_mono (call w s₀ s₁ mg mb fa o pm cd doc a vs ns G Y ho (fd_plain hd) dF rS lX hints hlen hg) λr s' hq=>?_);obtain⟨rfl,h2,h3,h4⟩:=hq;exact⟨.inl ⟨.bool true,.bool true,[],ae,λ_=>rfl,.bool true,qV l _,λ_=>⟨List.Pairwise.nil,λ_ hm=>(nomatch hm)⟩⟩,h2,h3,h4⟩
end Fq
namespace L2
open PySem PySem.Spec PyProof.Rows
theorem WW:∀{vs:List Value}{ns:List Int},IntsAre vs ns->Vals (ns.map V.int) vs
 |_,_,.nil=>.nil
 |_,_,.cons n t h=>.cons ⟨t,ae⟩ (WW h)
noncomputable def QP(s:Stmt):Arguments:=match s with
 | .FunctionDef _ a _ _ _ _ _ _ _ _=>a
 |_=>{posonlyargs:=[],args:=[],vararg:=none,kwonlyargs:=[],kw_defaults:=[],kwarg:=none,defaults:=[]}
noncomputable def Qr(s:Stmt):List Stmt:=match s with
 | .FunctionDef _ _ b _ _ _ _ _ _ _=>b
 |_=>[]
noncomputable def Qd(s:Stmt):Scope:=match s with
 | .FunctionDef _ _ _ _ _ _ sc _ _ _=>sc
 |_=>{kind:=.function,names:=[],isGenerator:=false,isCoroutine:=false}
noncomputable abbrev E0:XK:=λ_ _ _=>False
structure aQ(K:Frag)(x qual:Str)(st:Stmt)(f:Addr)(fd:FuncData):Prop where
 ex:∃(oc:Value)(od:Option Addr)(kV doc pm:Value)(an:Option Addr)(bv ct:Value)(IN:Array (Option Value)),
  fd=fnOf x qual (QP st) (Qr st) (Qd st) .none kV doc pm an bv ct/\K.lookup f=some ⟨oc,od,.func fd,IN⟩/\codeIn K bv qual=true
 kp:keepIn K (.ref f)=true
section
variable {P:Program}{w:World}{K:Frag}{mg:Str->Option Value}{base:Heap}
theorem aQ.binds{x qual:Str}{st:Stmt}{f:Addr}{fd:FuncData}{ps:List Str}(F:aQ K x qual st f fd)
  (h:∀(kV doc pm:Value)(an:Option Addr)(bv ct:Value)(us:List Value),us.length=ps.length->bindArgs (fnOf x qual (QP st) (Qr st) (Qd st) .none kV doc pm an bv ct) ⟨us,[]⟩=pure (ps.zip us)):Binds K fd ps []:=by
 obtain⟨oc,od,kV,doc,pm,an,bv,ct,IN,rfl,lk,dF⟩:=F.ex;exact .all (h kV doc pm an bv ct)
end
theorem v8{A:Around}{k:Nat}(hr:JC k A):A.units+1<cLine:=Nat.lt_of_le_of_lt (Nat.add_le_add_left (by decide:1<=64) _) hr.units
section
variable {X:Cx}
theorem pv(i:Nat){x:Str}{pos:Pos}(hN:X.N[i]? =some x:=by rfl)(hv:Bf X.env.scope x:=by first|exact Or.inl rfl|exact Or.inr (Or.inl rfl)|exact Or.inr (Or.inr rfl))(hd:(x==("__debug__":Str))=false:=by decide)
  (dF:(x==("__classdict__":Str))=false:=by decide):PE X (.Name x pos) (qo i):=vN hN hv hd dF
end
theorem WF{A B:Prop}(h:B):if false=true then A else B:=by
 rw[if_neg Bool.false_ne_true];exact h
theorem zX{A B:Prop}(h:A):if true=true then A else B:=by
 rw[if_pos rfl];exact h
noncomputable def Qi(H H':Hp):Prop:=∀b o,H b=some o->H' b=some o
theorem Qi.refl(H:Hp):Qi H H:=λ_ _ h=>h
theorem Qi.trans{H H1 H2:Hp}(a:Qi H H1)(b:Qi H1 H2):Qi H H2:=λc o h=>b c o (a c o h)
theorem Qi.free{H H':Hp}(e:Qi H H'){l:Addr}(h:H' l=Option.none):H l=Option.none:=by
 cases q:H l with
 |none=>rfl
 |some o=>
  rw[e l o q]at h;cases h
noncomputable def IX(h:Heap)(e T:Addr)(cls:Value):Prop:=
 ∃oe vs oT ts a0,h.get? e=some oe/\oe.cls=cls/\oe.data=.fields vs/\vs[0]? =some a0/\vs[1]? =some (.ref T)/\T≠e/\h.get? T=some oT/\oT.data=.fields ts/\ts[3]? =some .none
noncomputable def aE(P:Program)(w:World):fE:=λouter H s E e s'=>
 ∃a T cls H',e=.ref a/\IX s'.heap a T cls/\s.heap.get? a=none/\s.heap.get? T=none/\H' a=none/\H' T=none/\s'.os=s.os/\AllBare s'.gens/\
  Un (bc outer) [] H H' s.heap s'.heap/\aS P w H' s'.heap/\E cls none H'
theorem Qm{P:Program}{w:World}{X:Cx}:Passes (aE P w) X E0:=by
 rintro _ _ _ _ _ _ _ ⟨_,_,_,_,_,_,_,_,_,_,_,_,_,_,h⟩;exact h.elim
section
variable {X:Cx}
structure Fs(K:Frag)(C:Addr):Prop where
 ex:excIn K C [.type "ValueError",.type "Exception",.type "BaseException",.type "object"] "ValueError.__new__"=true
end
section
variable {X:Cx}{pins:List (Addr × Obj)}{σ:St}{H H':Hp}{s:Shared}{h':Heap}
noncomputable def Ft(a:Addr)(cls:Value):HO:=.ext λh=>∃o vs,h.get? a=some o/\o.cls=cls/\o.data=.fields vs
theorem Inv.VY{a:Addr}{o:HO}(I:Inv X pins σ H s)(hn:H a=none)(h0:X.s₀.heap.get? a=none)(hL:a≠X.env.locals)(hc:∀x c,X.env.cells.lookup x=some c->c≠a) (hp:∀p∈X.pn++pins,p.1≠a)
  (new:QY X.prog X.w (upd H a o) s.heap a o):Inv X pins σ (upd H a o) s:=by
 refine⟨I.ok,I.os,I.bare,⟨I.base.keep,I.base.slot,λb u e n hx=>?_,I.base.there,λb xs e=>?_,λb u xs e=>?_,λb ps e=>?_⟩,I.loc,I.cell,?_,λx c e=>?_,λp q=>?_,λb u e=>?_,I.len⟩
 ·rw[Qh λz=>by rw[z,h0]at e;cases e];exact I.base.free b u e n hx
 ·have q:=I.base.Jr b xs e;rw[Qh (Qn q hn)];exact q
 ·have q:=I.base.ba b u xs e;rw[Qh (Qn q hn)];exact q
 ·obtain⟨m,q⟩:=I.base.bb b ps e;exact⟨m,by rw[Qh (Qn q hn)];exact q⟩
 ·rw[Qh hL.symm];exact I.free
 ·rw[Qh (hc x c e)];exact I.aG x c e
 ·obtain⟨e,n,r⟩:=I.pin p q;exact⟨e,by rw[Qh (hp p q)];exact n,r⟩
 ·by_cases hb:b=a
  ·subst hb;rw[Qb]at e;cases e;exact new
  ·rw[Qh hb]at e;exact(I.aj b u e).Uz (λc v _ q=>q) (λc q=>by rw[Qh (Qn q hn)];exact q) λc xs q=>by rw[Qh (Qn q hn)];exact q
end
noncomputable def Km(a:Addr)(q:Str):HO:=.ext λh=>∃o vs t,h.get? a=some o/\o.data=.fields vs/\vs[1]? =some (.str q t)
theorem zY{P:Program}{w:World}{H:Hp}{h:Heap}{a:Addr}{q:Str}(e:h.CodeRec (.ref a) q):QY P w H h a (Km a q):=by
 obtain⟨c,o,vs,t,e1,e2,e3,e4⟩:=e;cases e1;exact⟨⟨o,vs,t,e2,e3,e4⟩,⟨o,e2⟩,λ_ _⟨o,vs,t,e,r⟩ k=>⟨o,vs,t,k o e,r⟩⟩
theorem qW{P:Program}{w:World}{H:Hp}{h:Heap}{a:Addr}{q:Str}(e:QY P w H h a (Km a q)):h.CodeRec (.ref a) q:=by
 obtain⟨⟨o,vs,t,e2,e3,e4⟩,_⟩:=e;exact⟨a,o,vs,t,ae,e2,e3,e4⟩
noncomputable def Jx(H:Hp)(P:Addr)(q:Str):Prop:=
 ∃ps:Array Value,H P=some (.br ps)/\TriplesOk ps.toList/\∀pos cv,codeAmong pos ps.toList=some cv->∃a,cv=.ref a/\H a=some (Km a q)
structure bj(mg:Str->Option Value)(base:Heap)(c P:Addr):Prop where
 hd:CodeHd base c P
 bm:∃bm ob,mg "__builtins__"=some (.ref bm)/\bm≠builtinsNs/\base.get? bm=some ob/\ob.cls=.type "module"/\ob.dict=some builtinsNs/\ob.data=.plain
theorem WX{a b:Int}{ta tb:Tok}{c:Value}(l:List Value)(h:TriplesOk l):TriplesOk (l++[.int a ta,.int b tb,c]):=by
 fun_induction TriplesOk l with
 |case1=>simp[TriplesOk]
 |case2 a' t b' u x rest ih=>exact ih h
 |case3=>exact h.elim
theorem UI{p:Pos}{a b:Int}{ta tb:Tok}{c cv:Value}(l:List Value)(h:TriplesOk l)(e:codeAmong p (l++[.int a ta,.int b tb,c])=some cv):codeAmong p l=some cv\/cv=c:=by
 fun_induction TriplesOk l with
 |case1=>
  simp only[List.nil_append,codeAmong]at e
  split at e
  ·cases e;exact .inr rfl
  ·cases e
 |case2 a' t b' u x rest ih=>
  simp only[List.cons_append,codeAmong]at e ⊢
  split at e
  ·rename_i q;rw[if_pos q];exact .inl e
  ·rename_i q;rw[if_neg q];exact ih h e
 |case3=>exact h.elim
section
variable {X:Cx}{pins:List (Addr × Obj)}{σ:St}{H:Hp}{s:Shared}
theorem zZ{c P:Addr}{q:Str}{params:Arguments}{body:Expr}{scope:Scope}{pos:Pos}{cl:List (Str × Addr)}{Q:Value->Shared->Prop}(I:Inv X pins σ H s)(L:bj X.mg X.base c P)(c8:X.env.code=.ref c)(hq:q=X.env.qual++"<lambda>")
  (lY:defaultsOf params X.env=([],[])) (fV:closureFor scope X.env=pure cl) (T:Jx H P q)
  (h:∀f c' pm cJ H' s',Inv X pins σ H' s'->s'.heap.get? f=some (kla_obj "<lambda>" q params body scope cl pm c' cJ)->H' f=none->s.heap.objs.size<=f->H' c'=some (Km c' q)->Jx H' P q->
   (∀b o,H b=some o->b≠P->H' b=some o)->(∀b o,s.heap.get? b=some o->b≠P->s'.heap.get? b=some o)->Q (.ref f) s'):
  wpAny (model X.prog X.w) X.A (eval (.Lambda params body scope pos) X.env) Q X.xe s:=by
 subst hq;obtain⟨ps,hP,ht,hc⟩:=T;obtain⟨bm,ob,b1,b2,b3,b4,b5,b6⟩:=L.bm;have uZ:s.heap.get? P=some (tabObj ps):=I.aj P _ hP;have hg:s.heap.Ns mainGlobals X.mg:=I.mod.glob.keeps I.bk;have IY:mainGlobals≠P:=λz=>by
  obtain⟨o,es,ep,e,hd,_⟩:=hg;rw[z,uZ]at e;cases e;cases hd
 have rT:=I.bk _ _ b3;have IZ:bm≠mainGlobals:=λz=>by
  obtain⟨o,es,ep,e,hd,_⟩:=hg;rw[z,e]at rT;cases rT;rw[hd]at b6;cases b6
 have fW:bm≠P:=λz=>by
  rw[z,uZ]at rT;cases rT;cases b4
 have hB:s.heap.BuiltinsAt X.mg P:=⟨bm,ob,b1,b2,IZ,fW,rT,b4,b5,b6⟩;refine kla_eval lY ?_;cases ha:codeAmong pos ps.toList with
 |some cv=>
  obtain⟨c',rfl,Is⟩:=hc pos cv ha;refine kla_makeFunctionHit fV I.ok.glob hg c8 (L.hd.keeps I.bk) uZ ht ha hB λcJ h' tk k hsz=>?_;have kp:∀b o,s.heap.get? b=some o->(h'.push (kla_obj "<lambda>" (X.env.qual++"<lambda>") params body scope cl ((X.mg "__name__").getD .none) c' cJ)).get? b=some o:=λb o e=>Heap.get?_push_of_some _ (k b o e);exact h h'.objs.size c' _ cJ H _ (I.kept kp) (Heap.get?_push_size _ ae) (I.aj.fresh hsz) hsz Is ⟨ps,hP,ht,hc⟩ (λ_ _ e _=>e) λb o e _=>kp b o e
 |none=>
  refine kla_makeFunction fV I.ok.glob hg c8 (L.hd.keeps I.bk) uZ ht ha IY hB λc' cJ h' tk ext fH bi lZ Fu=>?_;have kp:∀b o,s.heap.get? b=some o->b≠P->(h'.push (kla_obj "<lambda>" (X.env.qual++"<lambda>") params body scope cl ((X.mg "__name__").getD .none) c' cJ)).get? b=some o:=λb o e n=>Heap.get?_push_of_some _ (ext b o n e);have BG:H c'=none:=I.aj.fresh fH;have K':c'≠P:=λz=>by rw[z,hP]at BG;cases BG
  have Hk:∀b o,H b=some o->b≠P->upd (upd H P (.br (ps++ #[rawInt pos.line,rawInt pos.col,.ref c']))) c' (Km c' (X.env.qual++"<lambda>")) b=some o:=λb o e n=>by
   rw[Qh (Qn e BG),Qh n];exact e
  have HP:upd (upd H P (.br (ps++ #[rawInt pos.line,rawInt pos.col,.ref c']))) c' (Km c' (X.env.qual++"<lambda>")) P=some (.br (ps++ #[rawInt pos.line,rawInt pos.col,.ref c'])):=by
   rw[Qh K'.symm,Qb]
  have hsz:s.heap.objs.size<=h'.objs.size:=Nat.le_of_lt (Nat.lt_of_le_of_lt fH bi);refine h h'.objs.size c' _ cJ (upd (upd H P (.br (ps++ #[rawInt pos.line,rawInt pos.col,.ref c']))) c' (Km c' (X.env.qual++"<lambda>"))) _ (I.un (t':=tk) ⟨λb o e n hb hx=>?_,λb o e n hb hx=>?_,λb o e n hx=>?_,λb o e hx=>?_,λb xs e=>?_,λb o u e=>?_,λb qs e=>?_⟩ λb u e=>?_) (Heap.get?_push_size _ ae) ?_ hsz (Qb) ⟨_,HP,?_,λp cv e=>?_⟩ Hk λb o e n=>kp b o e n
  ·exact kp b o e λz=>by rw[z,hP]at n;cases n
  ·exact⟨o.slots,kp b o e λz=>by rw[z,hP]at n;cases n⟩
  ·have n1:b≠P:=λz=>by rw[z,hP]at n;cases n
   have n2:b≠c':=Nat.ne_of_lt (Nat.lt_of_lt_of_le (Heap.lt_size e) fH);rw[Qh n2,Qh n1];exact n
  ·by_cases z:b=P
   ·exact⟨_,by rw[z];exact Heap.get?_push_of_some _ Fu⟩
   ·exact⟨o,kp b o e z⟩
  ·exact Hk b _ e λz=>by rw[z,hP]at e;cases e
  ·exact Hk b _ e λz=>by rw[z,hP]at e;cases e
  ·by_cases z:b=P
   ·subst z;rw[hP]at e;cases e;exact⟨_,HP⟩
   ·exact⟨#[],by rw[Hk b _ e z];simp⟩
  ·by_cases z1:b=c'
   ·subst z1;rw[Qb]at e;cases e;exact zY (lZ.keeps λb o e=>Heap.get?_push_of_some _ e)
   ·by_cases z2:b=P
    ·subst z2;rw[HP]at e;cases e;exact(Heap.get?_push_of_some _ Fu:_)
    ·rw[Qh z1,Qh z2]at e;refine(I.aj b u e).Uz (λd v hd q'=>kp d v q' λz=>?_) (λd q'=>Hk d _ q' λz=>by rw[z,hP]at q';cases q') λd xs q'=>Hk d _ q' λz=>by rw[z,hP]at q';cases q'
     rcases hd with rfl|hd
     ·exact z2 z
     ·rw[z,hP]at hd;cases hd
  ·have n2:h'.objs.size≠c':=Nat.ne_of_gt bi;have n0:H h'.objs.size=none:=I.aj.fresh hsz;have n1:h'.objs.size≠P:=λz=>by rw[z,hP]at n0;cases n0
   show upd _ _ _ _=none;rw[Qh n2,Qh n1];exact n0
  ·rw[Array.toList_append];exact WX _ ht
  ·rw[Array.toList_append]at e;rcases UI _ ht e with e|rfl
   ·obtain⟨a,rfl,pI⟩:=hc p cv e;exact⟨a,ae,Hk a _ pI λz=>by rw[z,hP]at pI;cases pI⟩
   ·exact⟨c',ae,Qb⟩
end
noncomputable def wm(P:Program)(w:World)(K:Frag)(mg:Str->Option Value)(base:Heap)(N:List Str)(q:Str)(scope:Scope)(f c':Addr)(cl:List (Str × Addr))(A:Around)(outer:List Env)(s:Shared)(H:Hp)(E:XK):Cx where
 prog:=P
 w:=w
 K:=K
 mg:=mg
 base:=base
 A:=A.deeper (envX q scope s.heap.objs.size f (.ref c') cl)
 N:=N
 s₀:=s
 H₀:=H
 env:=envX q scope s.heap.objs.size f (.ref c') cl
 outer:=outer
 stack:=envX q scope s.heap.objs.size f (.ref c') cl::outer
 ex:=[]
 calm:=true
 fn:=λ_=>false
 pn:=[]
 xe:=λe s'=>wpAny (model P w) (A.deeper (envX q scope s.heap.objs.size f (.ref c') cl)) (leaving (envX q scope s.heap.objs.size f (.ref c') cl) e) (λ_ bM=>aE P w outer H s E e bM) (λe' bM=>aE P w outer H s E e' bM) s'
section
variable {X:Cx}
theorem YS{i:Int}(h:i.natAbs<2^2000):Builtin.Int.intBits i<=2^20:=Nat.le_trans (intBits_le h) (by decide)
noncomputable def Lc(i j:Int):Prop:=i.natAbs<2^2000/\j.natAbs<2^2000
theorem K2:aU X (binaryOp .Mult) (rI Lc λi j=>.int (i*j)):=pG λ_ _ _ _ _ _ _ hc q=>mul_int q (IntMulOk.of_bits (YS hc.1) (YS hc.2))
noncomputable def Ld(i j:Int):Prop:=0<j/\j.natAbs<2^2000
theorem z0:aU X (binaryOp .FloorDiv) (rI Ld λi j=>.int (i/j)):=pG λi j _ _ _ _ _ hc q=>by
 have hp:Builtin.divisionGoesByPylong i j=false:=PyProof.noPylong_of_log2 (by
  by_cases h0:j.natAbs=0
  ·rw[h0];decide
  ·have:=(Nat.log2_lt h0).mpr hc.2;lia)
 refine floordiv_int (Int.ne_of_gt hc.1) ?_ (.inl hp);rw[Int.fdiv_eq_ediv_of_nonneg _ (Int.le_of_lt hc.1)];exact q
noncomputable def WG(x:Str)(n:Nat):Str:=⟨(List.replicate n x.cps).foldl (· ++ ·) #[]⟩
theorem UJ:aU X (binaryOp .Mult) (λx y H Q=>∃z n,x=.str z/\y=.int n/\0<=n/\z.length*n.toNat<=sizeLine/\n<2^40/\Q (.str (WG z n.toNat)) H):=by
 intro pins s σ H x y v u Q I rx ry h;obtain⟨z,n,rfl,rfl,h0,hl,hn,q⟩:=h;obtain⟨t,rfl⟩:=rx;obtain⟨t',rfl⟩:=ry;have hlen:∀k:Nat,(WG z k).cps.toList=(List.replicate k z.cps.toList).flatten:=λk=>by
  unfold WG;have:∀(l:List (Array Nat))(acc:Array Nat),(l.foldl (· ++ ·) acc).toList=acc.toList++(l.map (·.toList)).flatten:=by
   intro l
   induction l with
   |nil=>intro acc;simp
   |cons a r ih=>intro acc;rw[List.foldl_cons,ih];simp
  rw[this];simp
 refine PySem.P.mul_str ?_ ?_ ?_ ?_
 ·rw[m8 (by lia),m8 (by lia)];rfl
 ·intro h1 h2 h3;have:(z.length:Int)*n<=2^63-1:=by
   have e:((z.length*n.toNat:Nat):Int)=(z.length:Int)*n:=by push_cast;rw[Int.toNat_of_nonneg h0]
   have:=WJ;lia
  have:=(Int.le_ediv_iff_mul_le (by lia:0<n)).mpr this;lia
 ·intro h1 h2;have:=hl;exact m8 (Nat.not_lt.mpr hl)
 ·by_cases h1:n<1
  ·rw[if_pos h1];have e:WG z n.toNat=Str.empty:=by rw[show n=0 by lia];rfl
   exact⟨by decide,.str (WG z n.toNat),H,I.tok _,⟨_,by rw[e]⟩,q⟩
  ·rw[if_neg h1]
   by_cases h2:(n==1||z.length==0)=true
   ·rw[if_pos h2];have e:WG z n.toNat=z:=by
     have:(WG z n.toNat).cps.toList=z.cps.toList:=by
      rw[hlen];simp only[Bool.or_eq_true,beq_iff_eq]at h2;rcases h2 with h2|h2
      ·rw[h2];simp
      ·have:z.cps.toList=[]:=by
        have h3:z.cps.size=0:=h2;rw[Array.eq_empty_of_size_eq_zero h3]
       rw[this];simp
     have:(WG z n.toNat).cps=z.cps:=by rw[←Array.toList_inj];exact this
     cases z;cases hh:WG _ n.toNat;rw[hh]at this;simp only at this;rw[this]
    exact⟨.str (WG z n.toNat),H,I,⟨t,by rw[e]⟩,q⟩
   ·rw[if_neg h2];refine⟨?_,.str (WG z n.toNat),H,I.tok _,⟨_,ae⟩,q⟩;show(WG z n.toNat).cps.size<=sizeLine;rw[←nO,hlen,List.length_flatten,List.map_replicate,List.sum_replicate_nat];have e:z.cps.toList.length=z.length:=by rw[nO];rfl
    rw[e,Nat.mul_comm];exact hl
theorem JQ:Xu X (.type "int") (λxs H Q=>∃x n,xs=[.str x]/\PySem.intText? x=some n/\x.length<=640/\Q (.int n) H):=by
 intro pins s σ H xs us Q I r h;obtain⟨x,n,rfl,hn,hl,q⟩:=h;obtain⟨u,rfl,t,rfl⟩:=vals1 r;exact PySem.W.KIN.call_text hn hl ⟨.int n,H,I.tok _,⟨_,ae⟩,q⟩
inductive l4 (K:Frag) (H:Hp):Nat->V->V->Bool->Prop where
 |flat {n:Nat} {x y:V} (fx:WR x=true) (fy:WR y=true):l4 K H n x y (dS x y)
 |tup {n:Nat} {a b:Addr} {xs ys:List V} {e:Nat->Bool} (ne:a≠b) (ha:aN K H a xs) (hb:aN K H b ys) (he:∀j x y,xs[j]? =some x->ys[j]? =some y->l4 K H n x y (e j)):
   l4 K H (n+1) (.ref a) (.ref b) ((List.range (min xs.length ys.length)).all e&&xs.length==ys.length)
theorem Jn{pins:List (Addr × Obj)}{σ:St}{H:Hp}{s:Shared}{A:Around}{xs ys:List V}{ad bn:List Value}{e:Nat->Bool}{n:Nat}(r1:Vals xs ad)(r2:Vals ys bn)
  (he:∀j x y u v,xs[j]? =some x->ys[j]? =some y->RelV x u->RelV y v->SeqAt.EqAt A s u v (e j)):∀j(h1:j<ad.toArray.size)(h2:j<bn.toArray.size),SeqAt.EqAt A s ad.toArray[j] bn.toArray[j] (e j):=by
 intro j h1 h2;have l1:=r1.length;have l2:=r2.length;rw[nQ]at h1 h2;have k1:xs[j]? =some xs[j]:=List.getElem?_eq_getElem (by lia);have k2:ys[j]? =some ys[j]:=List.getElem?_eq_getElem (by lia);obtain⟨u,e1,q1⟩:=r1.get k1;obtain⟨v,e2,q2⟩:=r2.get k2;have z1:ad.toArray[j]=u:=by
  rw[List.getElem?_eq_getElem h1]at e1;simpa using nh e1
 have z2:bn.toArray[j]=v:=by
  rw[List.getElem?_eq_getElem h2]at e2;simpa using nh e2
 rw[z1,z2];exact he j _ _ u v k1 k2 q1 q2
theorem l4.at{pins:List (Addr × Obj)}{σ:St}{H:Hp}{s:Shared}(I:Inv X pins σ H s){n:Nat}{x y:V}{k:Bool}(d:l4 X.K H n x y k):∀{A:Around}{u v:Value},A.units+n<cLine->RelV x u->RelV y v->SeqAt.EqAt A s u v k:=by
 induction d with
 |flat fx fy=>intro A u v _ rx ry;exact km rx ry fx fy
 |@tup n a b xs ys e ne ha hb he ih=>
  intro A u v hu rx ry;obtain rfl:u=Value.ref a:=rx;obtain rfl:v=Value.ref b:=ry;obtain⟨ad,r1,p1,_⟩:=I.tuple ha;obtain⟨bn,r2,p2,_⟩:=I.tuple hb;have l1:=r1.length;have l2:=r2.length;have z:=SeqAt.RcAt.tuples (A:=A) (s:=s) (e:=e) p1 p2 (by lia) (Jn (pins:=pins) (σ:=σ) (H:=H) (n:=n) r1 r2 λj x y u v h1 h2 q1 q2=>ih j x y h1 h2 (A:=A.in1) (by show A.units+1+n<cLine;lia) q1 q2);rw[nQ,nQ, ←l1, ←l2]at z;exact .of_refs ne z
end
structure bu(K:Frag)(C:Addr):Prop where
 ex:excIn K C [.type "ValueError",.type "Exception",.type "BaseException",.type "object"] "ValueError.__new__"=true
 ga:findIn K (.ref C) "__getattribute__"=some (some (.builtin "BaseException.__getattribute__"))
 gn:findIn K (.ref C) "__getattr__"=some none
 cl:findIn K (.ref C) "__class__"=some (some (.builtin "object.__class__"))
theorem bu.err{K:Frag}{C:Addr}(e:bu K C):Fs K C:=⟨e.ex⟩
theorem K3{K:Frag}{C:Addr}{h:Heap}(KX:K.In h)(e:Fs K C):∃bm N nm q bs eJ sn sub ab col dd k0 k1 k2 k3 k5,h.get? C=some (excClassObj nm q C N bs bm eJ sn sub ab col dd k0 k1 k2 k3 k5 "ValueError.__new__")/\
  OwnTail h [.type "ValueError",.type "Exception",.type "BaseException",.type "object"] bm:=by
 have q:=e.ex;unfold excIn at q
 split at q
 ·rename_i dd cd sl ho
  split at q
  ·rename_i C' bm k0 k1 k2 k3 n k5 hm hs;simp only[Bool.and_eq_true,beq_iff_eq,Bool.not_eq_true']at q;obtain⟨⟨⟨⟨⟨rfl,rfl⟩,rV⟩,ht⟩,aj⟩,Le⟩:=q;obtain⟨nm,bs,mro,ns,qn,hd,sn,sub,ab,col,del⟩:=cd;dsimp only at hm rV aj Le;subst hm rV;have fX:sl= #[k0,k1,k2,k3,some (.builtin "ValueError.__new__"),k5]:=by
    obtain⟨l⟩:=sl;simp only at hs;rw[hs]
   subst fX;exact⟨bm,ns,nm,qn,bs,hd,sn,sub,ab,col,dd,k0,k1,k2,k3,k5,KX _ _ ho,tail_of_in KX ht⟩
  ·cases q
 ·cases q
section
variable {prog:Program}{w:World}{A:Around}{E:Value->Shared->Prop}{h:Heap}{g:Array GenState}{d:Drawn}{t:Nat}{os:OsState}{K:Frag}{a C:Addr}{o:Obj}
theorem K4{R:Result->Shared->Prop}(KX:K.In h)(e:bu K C)(hx:h.get? a=some o)(hc:o.cls=.ref C)(hq:R (.ok (.ret (.ref C))) ⟨h,g,d,t,os⟩):
  codeAny (model prog w) A (.call (.builtin "getset_descriptor.__get__") ⟨[.builtin "object.__class__",.ref a,.ref C],[]⟩) R ⟨h,g,d,t,os⟩:=by
 obtain⟨bm,N,nm,q,bs,eJ,sn,sub,ab,col,dd,k0,k1,k2,k3,k5,hC,T⟩:=K3 KX e.err;have Fv:(⟨h,g,d,t,os⟩:Shared).TypeIs (.builtin "object.__class__") "getset_descriptor":=F.typeOf_object_class;have Do:(Value.ref C::bm).contains (.type (".".intercalate ("object.__class__".cutAt '.').dropLast))=true:=by
  rw[F.owner_object_class,List.contains_cons,T.hasType (X:="object") (b:=true) (by decide)];rfl
 refine codeAny_call_builtin F.slot_gs_get.plain F.entry_gs_get (F.slot_gs_get.check _ _ _ _ _ _ _ _ Fv (F.args_gs_get _ _ _) ?_)
 repeat (any_goals (first|assumption|(with_reducible refine wpAny_loadPart_at hx ?_;rw[hc])|(with_reducible refine wpAny_isSubtype_exc hC ?_;rw[Do])|wp_step))
 refine⟨Code.quiet_builtin _ (by decide+kernel),codeAny_builtin F.entry_object_class ?_⟩
 repeat (any_goals (first|assumption|(with_reducible refine wpAny_loadPart_at hx ?_;rw[hc])|wp_step))
theorem XS{tk:Tok}{Q:Fin->Shared->Prop}(KX:K.In h)(e:bu K C)(hx:h.get? a=some o)(hc:o.cls=.ref C)(hq:Q (.done (.ret (.ref C))) ⟨h,g,d,t,os⟩):
  wpAny (model prog w) A (Builtin.«object.__getattribute__» ⟨[.ref a,.str "__class__" tk],[]⟩) Q E ⟨h,g,d,t,os⟩:=by
 have L:=looks_findIn (M:=model prog w) KX e.cl;have Fv:(⟨h,g,d,t,os⟩:Shared).TypeIs (.builtin "object.__class__") "getset_descriptor":=F.typeOf_object_class;have f5:=F.typeOf_object_class;have f6:=F.slot_gs_get.lookup;have f7:=F.slot_gs_set.lookup
 repeat (any_goals (first|assumption|(with_reducible refine wpAny_loadPart_at hx ?_;rw[hc])|with_reducible refine PySem.W.Looks.at L ?_|wp_step))
 refine K4 KX e hx hc ?_
 repeat (any_goals (first|assumption|wp_step))
theorem XT{M:Model}{iV:Value}{Q:Unit->Shared->Prop}(KX:K.In h)(e:bu K C)(hx:h.get? a=some o)(hc:o.cls=.ref C)(hq:Q () ⟨h,g,d,t,os⟩):
  wpAny M A (checkBuiltinCall "BaseException.__getattribute__" ⟨[.ref a,iV],[]⟩) Q E ⟨h,g,d,t,os⟩:=by
 obtain⟨bm,N,nm,q,bs,eJ,sn,sub,ab,col,dd,k0,k1,k2,k3,k5,hC,T⟩:=K3 KX e.err;have hk:builtinKind "BaseException.__getattribute__"=some .slot:=by decide+kernel
 have l5:splitId "BaseException.__getattribute__"=some ("BaseException","__getattribute__"):=by decide+kernel
 have Do:(Value.ref C::bm).contains (.type "BaseException")=true:=by rw[List.contains_cons,T.hasType (X:="BaseException") (b:=true) (by decide)];rfl
 have ha:=F.args_bexc_ga (.ref a) iV;simp only[checkBuiltinCall,hk,l5];refine wpAny_bind ?_
 ·unfold isInstance
  repeat (first|(with_reducible refine wpAny_loadPart_at hx ?_;rw[hc])|(with_reducible refine wpAny_isSubtype_exc hC ?_;rw[Do])|wp_step)
  exact hq
theorem Kn{tk:Tok}{R:Result->Shared->Prop}(KX:K.In h)(e:bu K C)(hx:h.get? a=some o)(hc:o.cls=.ref C)(hq:R (.ok (.ret (.ref C))) ⟨h,g,d,t,os⟩):
  codeAny (model prog w) A (.call (.builtin "BaseException.__getattribute__") ⟨[.ref a,.str "__class__" tk],[]⟩) R ⟨h,g,d,t,os⟩:=
 codeAny_call_builtin F.excAttr_ValueError.ga.plain F.entry_bexc_ga (XT KX e hx hc (XS KX e hx hc hq))
theorem WY{tk:Tok}{Q:Value->Shared->Prop}(KX:K.In h)(e:bu K C)(hx:h.get? a=some o)(hc:o.cls=.ref C)(hq:Q (.ref C) ⟨h,g,d,t,os⟩):
  wpAny (model prog w) A (getAttrBy (.ref a) (.str "__class__" tk) false) Q E ⟨h,g,d,t,os⟩:=by
 have L1:=looks_findIn (M:=model prog w) KX e.ga;have L2:=looks_findIn (M:=model prog w) KX e.gn;have f3:=F.excAttr_ValueError.ga.bind (.ref a);have fI:(Value.builtin "BaseException.__getattribute__"==Value.builtin "object.__getattribute__")=false:=by decide+kernel
 have Lh:(onTheHeap (Value.ref C)&&Value.builtin "BaseException.__getattribute__"==Value.builtin "object.__getattribute__")=false:=by rw[fI];rfl
 repeat (any_goals (first|assumption|(with_reducible refine wpAny_loadPart_at hx ?_;rw[hc])|with_reducible refine PySem.W.Looks.at L1 ?_|with_reducible refine PySem.W.Looks.at L2 ?_|wp_step))
 refine Kn KX e hx hc ?_
 repeat (any_goals (first|assumption|wp_step))
theorem Ko{Q:Option Value->Shared->Prop}(KX:K.In h)(e:bu K C)(hx:h.get? a=some o)(hc:o.cls=.ref C)(hq:Q (some (.ref C)) ⟨h,g,d,t+1,os⟩):
  wpAny (model prog w) A (getAttr? (.ref a) "__class__") Q E ⟨h,g,d,t,os⟩:=by
 unfold getAttr? getAttrBy?
 repeat (any_goals (first|assumption|with_reducible apply WY KX e hx hc|wp_step))
end
theorem z5{K:Frag}{a C:Addr}(e:bu K C):KitX K (.ref a) (.ref C) (λh=>∃o,h.get? a=some o/\o.cls=.ref C) where
 ty:=λM h X⟨o,e1,e2⟩=>by
  rw[←e2];exact(PySem.W.Looks.ld e1).andThen .now
 it:=λM h X _=>by
  obtain⟨bm,N,nm,q,bs,eJ,sn,sub,ab,col,dd,k0,k1,k2,k3,k5,hC,T⟩:=K3 X e.err;intro A' Q' E' s' k q;unfold isType loadHead;exact wpAny_bind (wpAny_loadPart (k _ _ hC) (wpAny_pure q))
 ne:=λh tp dd ad n sl X Fw=>by
  obtain⟨bm,N,nm,q,bs,eJ,sn,sub,ab,col,dd,k0,k1,k2,k3,k5,hC,T⟩:=K3 X e.err;refine Bool.eq_false_iff.mpr λq=>?_;have e:C=tp:=Value.ref.inj (beq_iff_eq.mp q);subst e;rw[hC]at Fw;exact absurd (Value.type.inj (congrArg Obj.cls (nh Fw))) (by decide)
 ca:=λ{prog w A E Q s} X⟨o,e1,e2⟩ k=>by
  obtain⟨h,g,d,t,os⟩:=s;exact Ko X e e1 e2 k
section
variable {X:Cx}
noncomputable def v9:V->Bool
 | .ref _=>true
 | .ty _=>true
 |_=>false
noncomputable def BH:V->Value
 | .ref C=>.ref C
 | .ty n=>.type n
 |_=>.none
theorem wn{c:V}{u:Value}(h:v9 c=true)(r:RelV c u):u=BH c:=by
 cases c<;>first|exact r|cases h
noncomputable def Li(K:Frag):List V->Hp->VK->Prop:=λxs H Q=>∃x c b,xs=[x,c]/\v9 c=true/\((∃t,aX K H x t/\kitOne K t (BH c)=some b)\/∃a C,x=.ref a/\H a=some (Ft a (.ref C))/\bu K C/\kitOne K (.ref C) (BH c)=some b)/\Q (.bl b) H
theorem YT:Xu X (.builtin "isinstance") (Li X.K):=by
 intro pins s σ H xs us Q I r h;obtain⟨x,c,b,rfl,hc,hx,q⟩:=h;obtain⟨u,u2,rfl,ru,rW⟩:=vals2 r;obtain rfl:=wn hc rW;rcases hx with⟨t,ty,k⟩|⟨a,C,rfl,hH,e,k⟩
 ·exact qD I ru ty k λtk=>⟨.bl b,H,I.tok tk,ae,q⟩
 ·obtain rfl:u=Value.ref a:=ru;obtain⟨⟨o,vs,e1,e2,_⟩,_⟩:=(show QY X.prog X.w H s.heap a (Ft a (.ref C))from I.aj a _ hH);exact kia_one (z5 e) I.bC ⟨o,e1,e2⟩ k (λz=>nomatch z) λtk=>⟨.bl b,H,I.tok tk,ae,q⟩
end
noncomputable def VZ(K:Frag):Bool:=K.all λp=>match p.2.cls with
 | .type n=> !(n=="list")
 |_=>true
theorem UK{K:Frag}{a:Addr}{o:Obj}(h:VZ K=true)(e:K.lookup a=some o):o.cls≠ .type "list":=λz=>by
 have q:=List.all_eq_true.mp h (a,o) (mem_of_lookupK e);dsimp only at q;rw[z]at q;exact absurd q (by decide)
noncomputable def Qw(cells:List (Str × Addr)):List (Str × NameKind)->List (Str × Addr)->List (Str × Addr)
 |[],acc=>acc
 |(n,k)::r,acc=>Qw cells r (if k==.free then(n,(cells.lookup n).getD 0)::acc else acc)
theorem qX{env:Env}:∀(names:List (Str × NameKind))(acc:List (Str × Addr)),(∀y∈names,y.2=.free->∃c,env.cells.lookup y.1=some c)->
  (forIn names acc λx(cs:List (Str × Addr))=>(do
   let (name,kind):=x
   if kind==.free then
    let c←cellOf env name
    pure (ForInStep.yield ((name,c)::cs))
   else pure (ForInStep.yield cs):Sem (ForInStep (List (Str × Addr)))))=pure (Qw env.cells names acc)
 |[],acc,_=>rfl
 |(n,k)::r,acc,h=>by
  rw[List.forIn_cons];have ih:=λfY=>qX (env:=env) r fY λy hy=>h y (nz _ hy)
  by_cases hk:k=.free
  ·subst hk;obtain⟨c,hc⟩:=h (n,.free) nA rfl;have Is:env.cells.lookup n=some c:=hc;show _=pure (Qw env.cells r (if NameKind.free==NameKind.free then _ else _));have e:cellOf env n=pure c:=by unfold cellOf;rw[Is]
   simp only[beq_self_eq_true,if_true,e,pure_bind,Is,Option.getD_some];exact ih _
  ·have hb:(k==NameKind.free)=false:=beq_eq_false_iff_ne.mpr hk;show _=pure (Qw env.cells r (if k==NameKind.free then _ else _));simp only[hb,Bool.false_eq_true,if_false,pure_bind];exact ih _
theorem Jb{scope:Scope}{env:Env}(h:∀y∈scope.names,y.2=.free->∃c,env.cells.lookup y.1=some c):closureFor scope env=pure (Qw env.cells scope.names []):=by
 unfold closureFor;have:=qX (env:=env) scope.names [] h;simp only[bind_pure]at this ⊢;exact this
theorem J4{cells:List (Str × Addr)}{x:Str}{c:Addr}:∀(names:List (Str × NameKind))(acc:List (Str × Addr)),(∀y∈names,y.2=.free->∃c,cells.lookup y.1=some c)->(acc.lookup x=some c->cells.lookup x=some c)->
  (Qw cells names acc).lookup x=some c->cells.lookup x=some c
 |[],_,_,h,e=>h e
 |(n,k)::r,acc,h0,h,e=>by
  unfold Qw at e;refine J4 r _ (λy hy=>h0 y (nz _ hy)) (λe'=>?_) e
  split at e'
  ·rename_i hk;rw[List.lookup_cons]at e'
   split at e'
   ·rename_i hx;have rN:x=n:=eq_of_beq hx;subst rN;obtain⟨d,hd⟩:=h0 (x,k) nA (eq_of_beq hk);have dE:cells.lookup x=some d:=hd;rw[dE]at e' ⊢;exact e'
   ·exact h e'
  ·exact h e'
theorem Jy{cells:List (Str × Addr)}{x:Str}:∀(names:List (Str × NameKind))(acc:List (Str × Addr)),((∃c,acc.lookup x=some c)\/(x,NameKind.free)∈names)->∃c,(Qw cells names acc).lookup x=some c
 |[],acc,h=>by
  rcases h with h|h
  ·exact h
  ·cases h
 |(n,k)::r,acc,h=>by
  unfold Qw;refine Jy r _ ?_;rcases h with⟨c,h⟩|h
  ·refine .inl ?_
   split
   ·rw[List.lookup_cons]
    split
    ·exact⟨_,ae⟩
    ·exact⟨c,h⟩
   ·exact⟨c,h⟩
  ·rcases List.mem_cons.mp h with e|h
   ·cases e;refine .inl ?_;rw[if_pos (by rfl),List.lookup_cons,beq_self_eq_true];exact⟨_,ae⟩
   ·exact .inr h
section
variable {P:Program}{w:World}{K:Frag}{mg:Str->Option Value}{base:Heap}
theorem Lj{x qual:Str}{st:Stmt}{f:Addr}{fd:FuncData}{N ps:List Str}{k:Nat}{sp:Sp}(F:aQ K x qual st f fd)(S:ai N ps (Qd st))(len:∀vs H Q E,sp vs H Q E->vs.length=ps.length)
  (mo:∀(bv:Value)(A:Around)(outer:List Env)(s:Shared)(H:Hp)(vs:List V)(Q:VK)(E:XK),JC k (A.deeper (envOfC qual (Qd st) s.heap.objs.size f bv))->sp vs H Q E->
   ∃t,bL (qk (aE P w) P w K mg base N qual (Qd st) f bv A outer s H E) (Qr st) t/\t {nx:=λ_ H'=>Q .ah H',rt:=Q} (start N vs) H):aw P w K mg base (aE P w) (k+1) f fd ps sp:=by
 obtain⟨oc,od,kV,doc,pm,an,bv,ct,IN,rfl,lk,dF⟩:=F.ex;exact vU lk dF S len λA outer s H vs Q E hr cZ=>mo bv A outer s H vs Q E hr cZ
theorem okN{x qual:Str}{st:Stmt}{f:Addr}{fd:FuncData}{N ps:List Str}{k:Nat}{sp:Sp}(F:aQ K x qual st f fd)(S:ai N ps (Qd st))(len:∀vs H Q E,sp vs H Q E->vs.length=ps.length)
  (mo:∀(bv:Value)(A:Around)(outer:List Env)(s:Shared)(H:Hp)(vs:List V)(Q:VK)(E:XK),JC k (A.deeper (envOfC qual (Qd st) s.heap.objs.size f bv))->sp vs H Q E->
   ∃t,bL (qk (aE P w) P w K mg base N qual (Qd st) f bv A outer s H E).dG (Qr st) t/\t {nx:=λ_ H'=>Q .ah H',rt:=Q} (start N vs) H):aw P w K mg base (aE P w) (k+1) f fd ps sp:=
 Lj F S len λbv A outer s H vs Q E hr cZ=>by
  obtain⟨t,h,q⟩:=mo bv A outer s H vs Q E hr cZ;exact⟨t,h.dG,q⟩
end
structure aZ(X:Cx)(e:Expr)(t:TE):Prop where
 pe:PE X e t
structure l6(X:Cx)(e:List Stmt)(t:TS):Prop where
 ps:bL X e t
theorem Ll{X:Cx}{k1 k2 v1 v2:Expr}{pos pos':Pos}{t1 t2 u1 u2:TE}(h1:aZ X k1 t1)(h2:aZ X v1 u1)(h3:aZ X k2 t2)(h4:aZ X v2 u2):l6 X [.Return (some (.Dict [some k1,some k2] [v1,v2] pos)) pos'] (vE (zV [(t1,u1),(t2,u2)])):=
 ⟨Qk (Qy (qT (K1 h1.pe h2.pe (K1 h3.pe h4.pe qS)) ae ae (List.cons_ne_nil _ _) (Nat.le_of_ble_eq_true ae)))⟩
theorem UL{X:Cx}{x y:Str}{i:Int}{p1 p2 p3 p4 p5 p6:Pos}{j1 j2 j3:Nat}:l6 X [.Return (some (.Dict [some (.Constant (.str x) j1 p1),some (.Constant (.str y) j2 p2)] [.Constant (.int i) j3 p3,.Dict [] [] p4] p5)) p6] (vE (zV [(tC (.str x),tC (.int i)),(tC (.str y),ku)])):=
 Ll ⟨QO⟩ ⟨Qf⟩ ⟨QO⟩ ⟨zU⟩
theorem Fx{P:Program}{w:World}{K:Frag}{mg:Str->Option Value}{base:Heap}{x qual:Str}{st:Stmt}{f:Addr}{fd:FuncData}{N ps:List Str}{k:Nat}{sp:Sp}(F:aQ K x qual st f fd)(S:ai N ps (Qd st))(len:∀vs H Q E,sp vs H Q E->vs.length=ps.length)
  (mo:∀(bv:Value)(A:Around)(outer:List Env)(s:Shared)(H:Hp)(vs:List V)(Q:VK)(E:XK),JC k (A.deeper (envOfC qual (Qd st) s.heap.objs.size f bv))->sp vs H Q E->
   ∃t,l6 (qk (aE P w) P w K mg base N qual (Qd st) f bv A outer s H E).dG (Qr st) t/\t {nx:=λ_ H'=>Q .ah H',rt:=Q} (start N vs) H):aw P w K mg base (aE P w) (k+1) f fd ps sp:=
 okN F S len λbv A outer s H vs Q E hr cZ=>by
  obtain⟨t,h,q⟩:=mo bv A outer s H vs Q E hr cZ;exact⟨t,h.ps,q⟩
structure Def(P:Program)(w:World)(K:Frag)(mg:Str->Option Value)(base:Heap)(k:Nat)(x:Str)(ps:List Str)(sp:Sp):Prop where
 ex:∃f fd,mg x=some (.ref f)/\keepIn K (.ref f)=true/\Binds K fd ps []/\aw P w K mg base (aE P w) k f fd ps sp
section
variable {X:Cx}{k k':Nat}{x:Str}{ps:List Str}{sp:Sp}{E:XK}{p pos:Pos}{e:Expr}{es:List Expr}{t:TA}
theorem Def.pe(D:Def X.prog X.w X.K X.mg X.base k x ps sp)(hr:JC k' X.A)(hk:k<=k')(hg:Gl X x)(hx:Passes (aE X.prog X.w) X E)(ha:PA X (e::es) t)(eB:(x==("__debug__":Str))=false:=by decide)
  (he:starEach (e::es) X.env=(false,eval e X.env)::starEach es X.env:=by rfl) (Ix:(backTo pos (starEach es X.env)).any (·.1)=false:=by rfl):PE X (.Call (.Name x p) (e::es) [] pos) (VR sp [] E t):=by
 obtain⟨f,fd,h1,h2,h3,h4⟩:=D.ex;exact wa h4 (hr.mono hk) hg h1 h2 h3 .nil hx ha eB he Ix
theorem Def.Lm(D:Def X.prog X.w X.K X.mg X.base k x ps sp)(hr:JC k' X.A)(hk:k<=k')(hg:Gl X x)(hx:Passes (aE X.prog X.w) X E)(eB:(x==("__debug__":Str))=false:=by decide):
  PE X (.Call (.Name x p) [] [] pos) (VR sp [] E YL):=by
 obtain⟨f,fd,h1,h2,h3,h4⟩:=D.ex;exact zR h4 (hr.mono hk) hg h1 h2 h3 .nil hx eB
end
theorem iW{c:Bool}{A B:Prop}(hT:c=true->A)(hF:c=false->B):if c=true then A else B:=by
 cases c with
 |true=>rw[if_pos rfl];exact hT rfl
 |false=>rw[if_neg (by decide)];exact hF rfl
theorem ya(x y:Bool):(!decide (V.bl x=V.bl y))=(x !=y):=by cases x<;>cases y<;>rfl
theorem wo(x y:Int):decide (V.int x=V.int y)=decide (x=y):=by
 by_cases h:x=y
 ·subst h;simp
 ·rw[m8 (λe=>h (V.int.inj e)),m8 h]
theorem yb{A:Around}{k:Nat}(hr:JC k A):A.units+1+1<cLine:=Nat.lt_of_le_of_lt (by lia:A.units+1+1<=A.units+64) hr.units
theorem aJ.upd{K:Frag}{H:Hp}{a b:Addr}{o:HO}{xs:List V}(h:aJ K H a xs)(n:a≠b):aJ K (upd H b o) a xs:=by
 rcases h with(h|⟨o',h⟩)|h
 ·exact .inl (.inl (by rw[Qh n];exact h))
 ·exact .inl (.inr ⟨o',by rw[Qh n];exact h⟩)
 ·exact .inr h
theorem aN.same{K:Frag}{H H':Hp}{a:Addr}{xs:List V}(e:Qi H H')(h:aN K H a xs):aN K H' a xs:=by
 rcases h with(h|⟨o,h⟩)|h
 ·exact .inl (.inl (e _ _ h))
 ·exact .inl (.inr ⟨o,e _ _ h⟩)
 ·exact .inr h
theorem Qi.new{H:Hp}{p:Addr}{o:HO}(h:H p=none):Qi H (upd H p o):=λb u e=>by rw[Qh (Qn e h)];exact e
structure aL(H:Hp)(t r:Addr)(c:Int)(rs:List (Key × V)):Prop where
 tw:H t=some (.dK [(Sum.inr "count",.int c),(Sum.inr "rests",.ref r)])
 rt:H r=some (.dK rs)
 vs:∀kv∈rs,∃k z,kv=(Sum.inl k,V.int z)
 c0:0<=c
 ln:(rs.length:Int)<=c
 ne:t≠r
theorem aL.same{H H':Hp}{t r:Addr}{c:Int}{rs:List (Key × V)}(T:aL H t r c rs)(e:Qi H H'):aL H' t r c rs:=⟨e _ _ T.tw,e _ _ T.rt,T.vs,T.c0,T.ln,T.ne⟩
noncomputable def Apart(t r:Addr)(H H':Hp):Prop:=∀b o,H b=some o->b≠t->b≠r->H' b=some o
theorem Apart.trans{t r:Addr}{H H1 H2:Hp}(a:Apart t r H H1)(b:Apart t r H1 H2):Apart t r H H2:=λc o e n1 n2=>b c o (a c o e n1 n2) n1 n2
theorem Apart.of{t r:Addr}{H H1:Hp}(a:Qi H H1):Apart t r H H1:=λc o e _ _=>a c o e
theorem Apart.seq{K:Frag}{t r a:Addr}{H H':Hp}{xs:List V}(e:Apart t r H H')(h:aJ K H a xs)(n1:a≠t)(n2:a≠r):aJ K H' a xs:=by
 rcases h with(h|⟨o,h⟩)|h
 ·exact .inl (.inl (e _ _ h n1 n2))
 ·exact .inl (.inr ⟨o,e _ _ h n1 n2⟩)
 ·exact .inr h
theorem WZ{rs:List (Key × V)}(h:∀kv∈rs,∃k z,kv=(Sum.inl k,V.int z)) (k:Int) (d:Int):∃z,(VS rs (Sum.inl k:Key)).getD (.int d)=.int z:=by
 cases e:rs.find? λkv=>decide (kv.1=(Sum.inl k:Key))with
 |none=>exact⟨d,by unfold VS;rw[e];rfl⟩
 |some p=>
  obtain⟨k',z,rfl⟩:=h p (List.mem_of_find?_eq_some e);exact⟨z,by unfold VS;rw[e];rfl⟩
theorem W0{rs:List (Key × V)}(h:∀kv∈rs,∃k z,kv=(Sum.inl k,V.int z)) (k z:Int):(∀kv∈putK rs (Sum.inl k:Key) (.int z),∃k z,kv=(Sum.inl k,V.int z))/\(putK rs (Sum.inl k:Key) (.int z)).length<=rs.length+1:=by
 unfold putK
 split
 ·refine⟨λkv hm=>?_,by rw[m7];lia⟩;obtain⟨p,hp,rfl⟩:=List.mem_map.mp hm;obtain⟨k',z',rfl⟩:=h p hp
  split
  ·exact⟨k',z,ae⟩
  ·exact⟨k',z',ae⟩
 ·refine⟨λkv hm=>?_,by rw[m5];exact ng _⟩;rcases List.mem_append.mp hm with hm|hm
  ·exact h kv hm
  ·exact⟨k,z,List.mem_singleton.mp hm⟩
theorem qY:¬ ((Sum.inr "count":Key)=(Sum.inr "rests":Key)):=by
 have h:¬ ("count":Str)="rests":=by decide+kernel
 exact λe=>h (Sum.inr.inj e)
theorem z6(c d:Int)(r:Addr):putK [((Sum.inr "count":Key),V.int c),(Sum.inr "rests",V.ref r)] (Sum.inr "count") (.int d)=[((Sum.inr "count":Key),V.int d),((Sum.inr "rests":Key),V.ref r)]:=by
 have h:¬ ((Sum.inr "rests":Key)=(Sum.inr "count":Key)):=λe=>qY e.symm;unfold putK;rw[if_pos (by simp)];simp only[nM,List.map_nil,if_true,if_neg h]
theorem Zl{H:Hp}{t r:Addr}{c:Int}(h:H t=some (.dK [(Sum.inr "count",.int c),(Sum.inr "rests",.ref r)])):YQ H t (.str "count") (some (.int c)):=by
 have e:=YQ.k (k:=(Sum.inr "count":Key)) h;rw[Jk rfl]at e;exact e
theorem Zm{H:Hp}{t r:Addr}{c:Int}(h:H t=some (.dK [(Sum.inr "count",.int c),(Sum.inr "rests",.ref r)])):YQ H t (.str "rests") (some (.ref r)):=by
 have e:=YQ.k (k:=(Sum.inr "rests":Key)) h;rw[QX qY,Jk rfl]at e;exact e
theorem UM{H:Hp}{t r:Addr}{c:Int}(d:Int)(h:H t=some (.dK [(Sum.inr "count",.int c),(Sum.inr "rests",.ref r)])):qP H t (.str "count") (.int d) (upd H t (.dK [(Sum.inr "count",.int d),(Sum.inr "rests",.ref r)])):=by
 have e:=qP.k (k:=(Sum.inr "count":Key)) (v:=.int d) h (by show 2<sizeLine;decide);rw[z6]at e;exact e
noncomputable def Xk(K:Frag):Sp:=λvs H Q _=>∃(a t r:Addr)(ns:List Int)(c many:Int)(rs:List (Key × V)),vs=[.ref a,.ref t,.int many]/\aJ K H a (ns.map V.int)/\aL H t r c rs/\a≠t/\a≠r/\ns.length<=63/\c<100000/\0<many/\many<1000000/\
 ∀(v:Int)(Fy:List (Key × V))(H':Hp),0<=v->v<many->aL H' t r (c+1) Fy->Apart t r H H'->Q (.int v) H'
noncomputable def V0:Sp:=λvs H Q _=>vs=[]/\∀(t r:Addr)(H':Hp),H t=none->H r=none->aL H' t r 0 []->Qi H H'->Q (.ref t) H'
structure Own(mg:Str->Option Value):Prop where
 len:mg "len"=none
 range:mg "range"=none
 abs:mg "abs"=none
 max:mg "max"=none
 int:mg "int"=none
 Fz:mg "isinstance"=none
 bool:mg "bool"=none
 val:mg "ValueError"=none
 reversed:mg "reversed"=none
 divmod:mg "divmod"=none
 str:mg "str"=none
 sum:mg "sum"=none
noncomputable def u5:XK:=λ_ _ _=>False
noncomputable def YU(sc outer:Scope):Bool:=sc.names.all λy=> !(y.2==.free)||outer.names.lookup y.1==some .cell
theorem XU{sc outer:Scope}(h:YU sc outer=true):∀y∈sc.names,y.2=.free->outer.names.lookup y.1=some .cell:=λy hy e=>by
 have q:=List.all_eq_true.mp h y hy;rw[e]at q;simpa using q
structure fZ(K:Frag)(x qual:Str)(st:Stmt)(f:Addr)(fd:FuncData)(bv:Value):Prop where
 ex:∃(oc:Value)(od:Option Addr)(kV doc pm:Value)(an:Option Addr)(ct:Value)(IN:Array (Option Value)),
  fd=fnOf x qual (QP st) (Qr st) (Qd st) .none kV doc pm an bv ct/\K.lookup f=some ⟨oc,od,.func fd,IN⟩/\codeIn K bv qual=true
theorem FA{P:Program}{w:World}{K:Frag}{mg:Str->Option Value}{base:Heap}{x qual:Str}{st:Stmt}{f:Addr}{fd:FuncData}{bv:Value}{N ps:List Str}{k:Nat}{sp:Sp}(F:fZ K x qual st f fd bv)(S:ai N ps (Qd st))(len:∀vs H Q E,sp vs H Q E->vs.length=ps.length)
  (mo:∀(A:Around)(outer:List Env)(s:Shared)(H:Hp)(vs:List V)(Q:VK)(E:XK),JC k (A.deeper (envOfC qual (Qd st) s.heap.objs.size f bv))->sp vs H Q E->
   ∃t,bL (qk (aE P w) P w K mg base N qual (Qd st) f bv A outer s H E).dG (Qr st) t/\t {nx:=λ_ H'=>Q .ah H',rt:=Q} (start N vs) H):aw P w K mg base (aE P w) (k+1) f fd ps sp:=by
 obtain⟨oc,od,kV,doc,pm,an,ct,IN,rfl,lk,dF⟩:=F.ex;exact vU lk dF S len λA outer s H vs Q E hr cZ=>by
  obtain⟨t,h,q⟩:=mo A outer s H vs Q E hr cZ;exact⟨t,h.dG,q⟩
structure ar(K:Frag)(x:Str)(st:Stmt):Prop where
 ex:∃f fd,nsIn K mainGlobals x=some (some (.ref f))/\aQ K x x st f fd
theorem Qq{K:Frag}{x:Str}{st:Stmt}{f:Addr}{oc:Value}{od an:Option Addr}{IN:Array (Option Value)}{kV doc pm bv ct:Value}(a:nsIn K mainGlobals x=some (some (.ref f)))
  (l:K.lookup f=some ⟨oc,od,.func (fnOf x x (QP st) (Qr st) (Qd st) .none kV doc pm an bv ct),IN⟩) (c:codeIn K bv x=true) (k:keepIn K (.ref f)=true):ar K x st:=
 ⟨f,_,a,⟨⟨oc,od,kV,doc,pm,an,bv,ct,IN,ae,l,c⟩,k⟩⟩
section
variable {P:Program}{w:World}{K:Frag}{mg:Str->Option Value}{base h:Heap}{x:Str}{st:Stmt}{k:Nat}{ps:List Str}{sp:Sp}
theorem ar.def(D:ar K x st)(X:K.In h)(G:h.Ns mainGlobals mg)(aj:∀f fd,aQ K x x st f fd->aw P w K mg base (aE P w) k f fd ps sp)
  (hb:∀(kV doc pm:Value)(an:Option Addr)(bv ct:Value)(us:List Value),us.length=ps.length->bindArgs (fnOf x x (QP st) (Qr st) (Qd st) .none kV doc pm an bv ct) ⟨us,[]⟩=pure (ps.zip us)):Def P w K mg base k x ps sp:=by
 obtain⟨f,fd,a,F⟩:=D.ex;exact⟨f,fd,mg_of X G a,F.kp,F.binds hb,aj f fd F⟩
end
theorem kw{K:Frag}{x:Str}{f c P:Addr}{oc rX:Value}{od rY:Option Addr}{IN eK:Array (Option Value)}{fd:FuncData}{vs:Array Value}(a:nsIn K mainGlobals x=some (some (.ref f)))(l:K.lookup f=some ⟨oc,od,.func fd,IN⟩)(hc:fd.code=.ref c)
  (lc:K.lookup c=some ⟨rX,rY,.fields vs,eK⟩) (hv:(vs[11]? :Option Value)=some (.ref P)):tabIn K x=some (c,P):=by
 unfold tabIn;simp only[a,l,hc,lc,hv]
theorem all_true(n:Nat):(List.range n).all (λ_=>true)=true:=List.all_eq_true.mpr λ_ _=>rfl
inductive bD (K:Frag) (H:Hp) (n:Nat):List V->List V->Prop where
 |nil:bD K H n [] []
 |cons {x y:V} {xs ys:List V} (h:l4 K H n x y true) (t:bD K H n xs ys):bD K H n (x::xs) (y::ys)
theorem bD.len{K:Frag}{H:Hp}{n:Nat}{xs ys:List V}(l:bD K H n xs ys):xs.length=ys.length:=by
 induction l with
 |nil=>rfl
 |cons h t ih=>rw[nj,nj,ih]
theorem bD.at{K:Frag}{H:Hp}{n:Nat}{xs ys:List V}(l:bD K H n xs ys):∀(j:Nat)(x y:V),xs[j]? =some x->ys[j]? =some y->l4 K H n x y true:=by
 induction l with
 |nil=>intro j x y h;cases h
 |cons h t ih=>
  intro j x y h1 h2;cases j with
  |zero=>cases h1;cases h2;exact h
  |succ j=>exact ih j x y h1 h2
theorem Jx.same{H H':Hp}{P:Addr}{q:Str}(T:Jx H P q)(e:Qi H H'):Jx H' P q:=by
 obtain⟨ps,h1,h2,h3⟩:=T;exact⟨ps,e _ _ h1,h2,λp cv z=>let ⟨a,z1,z2⟩:=h3 p cv z;⟨a,z1,e _ _ z2⟩⟩
noncomputable def qZ(scope:Scope)(env:Env)(C:Addr):Env:=
 {scope:=scope,locals:=C,globals:=env.globals,cells:=cellsFrom (C+1) scope.names [],qual:=env.qual,func:=none,code:=env.code,frame:=env.frame,builtins:=env.builtins}
noncomputable abbrev Ja(X:Cx)(NB:List Str)(scope:Scope)(s:Shared)(H:Hp)(ex:List Addr):Cx:=
 {X with N:=NB,s₀:=s,H₀:=H,env:=qZ scope X.env s.heap.objs.size,outer:=X.stack,ex:=ex,fn:=λ_=>true,pn:=[],xe:=λ_ _=>False}
structure bX(NB:List Str)(scope:Scope):Prop where
 kind:scope.kind=.function
 nd:NB.Nodup
 aP:∀y∈scope.names,y.2≠ .free
 loc:∀y∈scope.names,y.2=.local->scope.names.lookup y.1=some .local
theorem Xl{scope:Scope}{env:Env}(h:∀y∈scope.names,y.2≠ .free):relabel scope env=scope:=by
 obtain⟨k,names,g,c,m⟩:=scope;have e:∀l:List (Str × NameKind),(∀y∈l,y.2≠ .free)->(l.map λ(n,k)=>if(k==NameKind.free&&env.scope.kind==.function&&env.kindOf n==some .cell)then(n,NameKind.cell)else(n,k))=l:=by
  intro l
  induction l with
  |nil=>intro _;rfl
  |cons y r ih=>
   intro hl;obtain⟨n,k⟩:=y;have hk:(k==NameKind.free)=false:=beq_eq_false_iff_ne.mpr (hl (n,k) nA);rw[nM,ih λy hy=>hl y (nz _ hy)];simp only[hk,Bool.false_and,Bool.false_eq_true,if_false]
 unfold relabel;simp only[e names h]
theorem W1{scope:Scope}{env:Env}(h:∀y∈scope.names,y.2≠ .free):closureFor scope env=pure []:=by
 rw[Jb λy hy e=>absurd e (h y hy)];have e:∀(l:List (Str × NameKind))(acc:List (Str × Addr)),(∀y∈l,y.2≠ .free)->Qw env.cells l acc=acc:=by
  intro l
  induction l with
  |nil=>intro acc _;rfl
  |cons y r ih=>
   intro acc hl;obtain⟨n,k⟩:=y;have hk:(k==NameKind.free)=false:=beq_eq_false_iff_ne.mpr (hl (n,k) nA);unfold Qw;rw[hk];exact ih acc λy hy=>hl y (nz _ hy)
 rw[e _ _ h]
theorem Zs{M:Model}{A:Around}{E:Value->Shared->Prop}{s:Shared}{scope:Scope}{globals:Addr}{qual:Str}{env:Env}{Q:Env->Shared->Prop}(hk:scope.kind=.function)
  (hQ:∀AT s',AT={scope:=scope,locals:=s.heap.objs.size,globals:=globals,cells:=cellsFrom (s.heap.objs.size+1) scope.names [],qual:=qual,func:=none,code:=env.code,frame:=env.frame,builtins:=env.builtins}->
   InCallC s s.heap.objs.size (λ_=>none) (cellsFrom (s.heap.objs.size+1) scope.names []) (λ_=>none) s'->Q AT s'):
  wpAny M A (newFunctionEnv scope globals [] [] qual none .none (some env)) Q E s:=by
 simp only[newFunctionEnv,Option.isSome_some,if_true];refine wpAny_bind (wpAny_alloc ?_);refine wpAny_bind (wpAny_layCells _ (λname kind cells=>by cases l7:kind==NameKind.cell<;>simp[l7]) _ _ _ _ ?_);have ok:=cellsFrom_ok scope.names (s.heap.push {cls:=.type "dict",data:=.dict #[]}) (s.heap.objs.size+1) [] ⟨λ_ _ hm=>(nomatch hm),List.Pairwise.nil⟩ (by rw[Heap.size_push];exact ng _);rw[Heap.size_push]at ok;rw[show({s with heap:=s.heap.push {cls:=.type "dict",data:=.dict #[]}}:Shared).heap.objs.size=s.heap.objs.size+1 from Heap.size_push ..];refine wpAny_bind (wpAny_pure (wpAny_pure (hQ _ _ ae ?_)));exact⟨⟨⟨_,_,ae⟩,(Heap.Ns.new s.heap (.type "dict")).keeps (pushCells_keeps _ _),λb o e=>pushCells_keeps _ _ b o (Heap.get?_push_of_some _ e),ng _⟩,
   λn c hc=>(ok.empty n c (mem_of_lookup hc)).1,ok.apart,λn c hm=>(ok.empty n c hm).2⟩
section
variable {prog:Program}{w:World}{A:Around}{E:Value->Shared->Prop}{R:Result->Shared->Prop}{s:Shared}
theorem J5{elt target iter:Expr}{ifs:List Expr}{scope:Scope}{pos:Pos}{it acc:Value}{env:Env}(I:Nat->Shared->Prop)
  (turn:∀n s,I n s->wpAny (model prog w) A (pyNext it) (λr s₁=>match r with
   |none=>R (.ok .next) s₁
   |some v=>wpAny (model prog w) A (letOwnedTupleGo target it v) (λ_ iX=>wpAny (model prog w) A (assign target env v) (λ_ s₂=>
     wpAny (model prog w) A (forIn ifs true λc r=>if r=true then do let ok←isTrue c env (eval c env);pure (ForInStep.yield ok)else pure (ForInStep.yield r)) (λok s₃=>
      if ok=true then wpAny (model prog w) A (eval elt env) (λx s₄=>
       wpAny (model prog w) A (call (.builtin "list.append") [acc,x]) (λ_ s₅=>∃m,m<n/\I m s₅) (notedBy (model prog w) A env λe s'=>R (.error e) s') s₄) (notedBy (model prog w) A env λe s'=>R (.error e) s') s₃
      else ∃m,m<n/\I m s₃) (notedBy (model prog w) A env λe s'=>R (.error e) s') s₂) (notedBy (model prog w) A env λe s'=>R (.error e) s') iX) (notedBy (model prog w) A env λe s'=>R (.error e) s') s₁) (notedBy (model prog w) A env λe s'=>R (.error e) s') s)
  (n:Nat) (h:I n s):
  codeAny (model prog w) A (.compLoop (.ListComp elt [⟨target,iter,ifs,0⟩] scope pos) 0 it acc env) R s:=by
 refine codeAny_loop rfl I (λn s hI=>?_) n h;show wpAny _ A ((compTurn (.ListComp elt [⟨target,iter,ifs,0⟩] scope pos) 0 it acc env).onRaise (λx=>do noteFrame x env;theTreesLotGoes x)) _ _ s;refine wpAny_noted ?_;rw[compTurn_list];refine wpAny_bind (wpAny_standAt (wpAny_bind (wpAny_mono (turn n s hI) (λr s₁ h₁=>?_) λ_ _ h'=>h')));cases r with
 |none=>exact wpAny_pure h₁
 |some v=>
  refine wpAny_bind (wpAny_mono h₁ (λ_ iX rZ=>?_) λ_ _ h'=>h');refine wpAny_bind (wpAny_mono rZ (λ_ s₂ h₂=>wpAny_bind (wpAny_mono h₂ (λok s₃ h₃=>?_) λ_ _ h'=>h')) λ_ _ h'=>h');cases ok with
  |false=>exact wpAny_pure ⟨ae,h₃⟩
  |true=>
   exact wpAny_bind (wpAny_bind (wpAny_mono h₃ (λx s₄ h₄=>wpAny_bind (wpAny_mono h₄ (λ_ s₅ h₅=>wpAny_pure (wpAny_pure ⟨ae,h₅⟩)) λ_ _ h'=>h')) λ_ _ h'=>h'))
end
noncomputable def iY(X:Cx)(ifs:List Expr)(t:TT):Prop:=
 ∀(pins:List (Addr × Obj))(s:Shared)(σ:St)(H:Hp)(Q:Bool->Hp->Prop),Inv X pins σ H s->t σ H Q->
  wpAny (model X.prog X.w) X.A (forIn ifs true λc r=>if r=true then do let ok←isTrue c X.env (eval c X.env);pure (ForInStep.yield ok)else pure (ForInStep.yield r)) (TP X pins σ Q) X.xe s
noncomputable def yZ:TT:=λ_ H Q=>Q true H
theorem QU{X:Cx}:iY X [] yZ:=λpins s σ H Q I h=>wpAny_tests_nil ⟨H,I,h⟩
theorem K5{X:Cx}{c:Expr}{t:TT}(h:PT X c t):iY X [c] t:=λpins s σ H Q I q=>wpAny_tests_one (h pins s σ H Q I q)
noncomputable def W3(NB:List Str)(wi:TI)(g:TG)(tt:TT)(te:TE):TE:=λσ H Q=>wi σ H λJ H1=>∃W:Nat->Nat->List V->Hp->Prop,(∃m,W 0 m [] H1)/\∀i m vs H,W i m vs H->
 (J.stop i H/\∀p,H p=none->Q (.ref p) (upd H p (.lst vs)))\/(J.go i H/\vs.length<sizeLine/\∃N:List V->Hp->Prop,(∀sB H',N sB H'->∃m',m'<m/\W (i+1) m' sB H')/\
  ∀x H',J.bw i H x H'->g x (List.replicate NB.length none) H' λσ2 H2=>tt σ2 H2 λb H3=>if b=true then te σ2 H3 λv H4=>N (vs++[v]) H4 else N vs H3)
noncomputable abbrev Q5(ys:List Value):Obj:={cls:=.type "list",data:=.seq ys.toArray ys.length}
section
variable {X:Cx}
theorem JH{elt tg iter:Expr}{ifs:List Expr}{scope:Scope}{pos:Pos}{NB:List Str}{wi:TI}{g:TG}{tt:TT}{te:TE}(hc:X.calm=true)(S:bX NB scope)(hi:PI X tg iter wi)
  (hg:∀s H ex,PG (Ja X NB scope s H ex) tg g) (ht:∀s H ex,iY (Ja X NB scope s H ex) ifs tt) (he:∀s H ex,PE (Ja X NB scope s H ex) elt te)
  (hs:∀x,foldedSetIterable iter X.env x=pure x:=by intro _;rfl):PE X (.ListComp elt [⟨tg,iter,ifs,0⟩] scope pos) (W3 NB wi g tt te):=by
 intro pins s σ H Q I h;rw[eval_ListComp];refine wpAny_comprehension_free (use:=none) (cl:=[]) rfl hs (W1 S.aP) S.kind S.loc (ax (hi pins s σ H _ I h) λv s1 h1=>ax h1 λlP s2 h2=>?_);obtain⟨it,fp,tn,J,H2,e,I2,T,cn,f2,W,⟨m0,w0⟩,turn⟩:=h2;subst e;refine wpAny_newObj_type ?_;have Fk:∀b o,s2.heap.get? b=some o->(s2.heap.push {cls:=.type "list",data:=.seq ([]:List Value).toArray}).get? b=some o:=λb o e=>Heap.get?_push_of_some _ e;have I3:Inv X pins σ H2 {s2 with heap:=s2.heap.push {cls:=.type "list",data:=.seq ([]:List Value).toArray}}:=I2.kept (t':=s2.toks) Fk;have bT:tn 0 (s2.heap.push {cls:=.type "list",data:=.seq ([]:List Value).toArray}):=T.keep _ _ _ cn λb _ o e=>Fk b o e;have Fr:(s2.heap.push {cls:=.type "list",data:=.seq ([]:List Value).toArray}).get? s2.heap.objs.size=some (Q5 []):=Heap.get?_push_size _ rfl;have c9:H2 s2.heap.objs.size=none:=I2.aj.fresh (ng _);have ul:∀b o,s2.heap.get? b=some o->b≠s2.heap.objs.size:=λb o e=>Nat.ne_of_lt (Heap.lt_size e);have de:∀b∈fp,∃o,s2.heap.get? b=some o:=λb hb=>let ⟨o,e,_⟩:=T.obj _ _ cn b hb;⟨o,e⟩;have f8:X.s₀.heap.objs.size<=s2.heap.objs.size:=I2.sz;have SZ:s2.heap.objs.size≠X.env.locals:=Nat.ne_of_gt I2.lt;have IR:∀x c,X.env.cells.lookup x=some c->c≠s2.heap.objs.size:=λx c e=>let ⟨v,o,e1,_⟩:=I2.cell x c e;ul c o e1;have Tk:∀p∈X.pn++pins,p.1≠s2.heap.objs.size:=λp hp=>ul p.1 _ (I2.pin p hp).1;have P3:s2.heap.objs.size∉bc X.stack:=λz=>let ⟨o,e,_⟩:=(I2.stack.mem z).2;ul _ o e rfl;generalize gV:({s2 with heap:=s2.heap.push {cls:=.type "list",data:=.seq ([]:List Value).toArray}}:Shared)=s3 at I3 ⊢;have eM:s3.heap=s2.heap.push {cls:=.type "list",data:=.seq ([]:List Value).toArray}:=by rw[←gV]
 rw[←eM]at bT Fr Fk;generalize s2.heap.objs.size=D at Fr c9 ul f8 SZ IR Tk P3 ⊢;refine Zs S.kind λAT s4 FB x4=>?_;subst FB;rw[Xl S.aP];have NE:∀b o,s3.heap.get? b=some o->b<s3.heap.objs.size:=λb o e=>Heap.lt_size e;have bY:∀b∈fp,b<s3.heap.objs.size:=λb hb=>let ⟨o,e⟩:=de b hb;NE b o (Fk b o e);have sK:D<s3.heap.objs.size:=NE D _ Fr;have BT:∀b∈fp,b≠D:=λb hb=>let ⟨o,e⟩:=de b hb;ul b o e;obtain⟨h4,dI,rfl,ut⟩:=x4.done;have ia:∀b o,X.base.get? b=some o->b∉D::fp:=λb o e hb=>by
  rcases List.mem_cons.mp hb with rfl|hb
  ·exact absurd (Nat.lt_of_lt_of_le (Heap.lt_size (I2.ok.bs b o e).1) f8) (nU _)
  ·obtain⟨_,_,_,f3,_⟩:=f2 b hb;rcases f3 with z|z
   ·exact I2.ok.bB b o e z
   ·exact absurd (Nat.lt_of_lt_of_le (Heap.lt_size (I2.ok.bs b o e).1) z) (nU _)
 have dg:∀b∈D::fp,b∉bc X.stack:=λb hb hf=>by
  rcases List.mem_cons.mp hb with rfl|hb
  ·exact P3 hf
  ·obtain⟨_,f1,ib,_⟩:=f2 b hb;rcases List.mem_cons.mp (I2.XJ b hf)with z|z
   ·exact f1 z
   ·exact ib z
 have eO:∀y c,(cellsFrom (s3.heap.objs.size+1) scope.names []).lookup y=some c->s3.heap.objs.size<c:=λy c e=>x4.above y c (PySem.mem_of_lookup e);have FS:∀b∈D::fp,b<s3.heap.objs.size:=λb hb=>by
  rcases List.mem_cons.mp hb with rfl|hb
  ·exact sK
  ·exact bY b hb
 have ic:(Ja X NB scope s3 H2 (D::fp)).Ok:=by
  refine⟨I3.ok.mod,S.kind,I3.ok.glob,I3.ok.blt,ng _,λy z c h1 h2=>?_,λy hy=>?_,λy c _ h=>Nat.le_of_lt (eO y c h),I3.ok.hd,I3.ok.frames,.inl rfl,λb hb=>⟨Nat.ne_of_lt (FS b hb),λy c e z=>?_⟩,I3.bs,Nat.le_trans I3.ok.dR I3.sz,ia,dg,I3.stack,I3.Zy⟩
  ·exact name_of_addr x4.apart (PySem.mem_of_lookup h1) (PySem.mem_of_lookup h2)
  ·have hy:scope.names.lookup y=some .cell\/scope.names.lookup y=some .free:=hy;rcases hy with hy|hy
   ·exact Xx hy
   ·exact absurd rfl (S.aP _ (PySem.mem_of_lookup hy))
  ·have:=eO y c e;rw[z]at this;exact absurd (Nat.lt_trans this (FS b hb)) (nU _)
 have rep:∀(j:Nat)(v:V),(List.replicate NB.length (none:Option V))[j]? ≠some (some v):=λj v z=>by
  rw[List.getElem?_replicate]at z
  split at z<;>cases z
 have IB:Inv (Ja X NB scope s3 H2 (D::fp)) [(D,Q5 [])] (List.replicate NB.length none) H2 {s3 with heap:=h4,toks:=dI}:=by
  refine⟨ic,ae,I3.bare,Un.kept ut,⟨_,x4.toInCall.ns,λi y v h1 h2 h3=>absurd h2 (rep i v)⟩,λy c h=>⟨_,x4.cell y c h⟩,I3.aj.fresh (ng _),λy c h=>I3.aj.fresh (Nat.le_of_lt (eO y c h)),λp hp=>?_,I3.aj.kept ut,by rw[nG]⟩;obtain rfl:p=(D,Q5 []):=by simpa using hp
  exact⟨ut _ _ Fr,c9,Nat.ne_of_lt sK,P3,λv z=>nomatch z⟩
 have Xr:∀{H':Hp}{ys:List Value},(∀b∈fp,H' b=none)->∀b∈fp,VP (Ja X NB scope s3 H2 (D::fp)) [(D,Q5 ys)] H' b:=λhn b hb=>
  ⟨hn b hb,Nat.ne_of_lt (bY b hb),dg b (nz _ hb),.inl (nz _ hb),λy c e z=>by
   have:=eO y c e;rw[z]at this;exact absurd (Nat.lt_trans this (bY b hb)) (nU _),λp hp=>by
    obtain rfl:p=(D,_):=by simpa using hp
    exact(BT b hb).symm⟩
 have bN:tn 0 h4:=T.keep _ _ _ bT λb _ o e=>ut b o e;have dJ:∀b∈fp,H2 b=none:=λb hb=>(f2 b hb).1;have Do:(Ja X NB scope s3 H2 (D::fp)).calm=true:=hc;have loop:codeAny (model X.prog X.w) X.A (.compLoop (.ListComp elt [⟨tg,iter,ifs,0⟩] scope pos) 0 (.ref it) (.ref D) (qZ scope X.env s3.heap.objs.size))
   (compPost (model X.prog X.w) X.A X.xe none (EP X pins σ Q) (.ref D) s3.heap.objs.size) {s3 with heap:=h4,toks:=dI}:=by
  refine J5 (λn s'=>∃i vs ys H',Inv (Ja X NB scope s3 H2 (D::fp)) [(D,Q5 ys)] (List.replicate NB.length none) H' s'/\Vals vs ys/\vs.length<=sizeLine/\tn i s'.heap/\(∀b∈fp,H' b=none)/\W i n vs H') ?_ m0 ⟨0,[],[],H2,IB,.nil,nR _,bN,dJ,w0⟩;rintro n s5 ⟨i,vs,ys,H5,I5,rv,Ch,No,ST,w5⟩;rcases turn i n vs H5 w5 with⟨stop,qn⟩|⟨go,bi,N,hN,step⟩
  ·refine wpAny_mono (T.done (Ja X NB scope s3 H2 (D::fp)) ae ae ae Do i _ s5 _ H5 (λ_ _=>False) I5 (Xr ST) No stop) (λr s6⟨hr,I6⟩=>?_) (λ_ _ z=>z.elim);subst hr;obtain⟨m6,ie,_⟩:=id I6.loc;refine⟨m6,ie,λh7 r6=>?_⟩;have bZ:∀b o,b≠s3.heap.objs.size->s6.heap.get? b=some o->h7.get? b=some o:=λb o hb e=>(r6.2 b hb).trans e;have dU:H5 s3.heap.objs.size=none:=I6.free;have ig:Un (bc X.stack) (D::fp) H2 H5 s3.heap h7:=by
    have u:=I6.base;refine⟨λb o e n hb hx=>bZ b o (Nat.ne_of_lt (Heap.lt_size e)) (u.keep b o e n hb hx),λb o e n hb hx=>?_,u.free,λb o e hx=>?_,u.Jr,u.ba,u.bb⟩
    ·obtain⟨sl,q⟩:=u.slot b o e n hb hx;exact⟨sl,bZ b _ (Nat.ne_of_lt (Heap.lt_size e)) q⟩
    ·obtain⟨o',q⟩:=u.there b o e hx;exact⟨o',bZ b _ (Nat.ne_of_lt (Heap.lt_size e)) q⟩
   have eP:aS X.prog X.w H5 h7:=λb u e=>(I6.aj b u e).Uz (λc w' bS q=>bZ c w' (by
    rintro rfl;rcases bS with rfl|bS
    ·rw[dU]at e;cases e
    ·rw[dU]at bS;cases bS) q) (λ_ q=>q) λ_ _ q=>q
   have I7:Inv X pins σ H5 {s6 with heap:=h7}:=I3.UA (s':={s6 with heap:=h7}) I6.os ig eP I6.bare λb hb=>by
    rcases List.mem_cons.mp hb with rfl|hb
    ·exact⟨.inr f8,SZ,IR,Tk⟩
    ·obtain⟨_,f1,_,f3,f4,f5⟩:=f2 b hb;exact⟨f3,f1,f4,f5⟩
   obtain⟨eD,nD,_⟩:=I6.pin (D,Q5 ys) (by simp);have dh:H5 D=none:=nD;have ij:h7.get? D=some (Q5 ys):=bZ D _ (Nat.ne_of_lt sK) eD;have ik:X.s₀.heap.get? D=none:=by
    cases q:X.s₀.heap.get? D with
    |none=>rfl
    |some o=>exact absurd (Nat.lt_of_lt_of_le (Heap.lt_size q) f8) (nU _)
   exact⟨.ref D,upd H5 D (.lst vs),I7.VY dh ik SZ IR Tk ⟨Ch,ys,ys.length,rv,ij⟩,ae,qn D dh⟩
  ·refine wpAny_mono (T.item (Ja X NB scope s3 H2 (D::fp)) ae ae ae Do i _ s5 _ H5 (λ_ _=>False) I5 (Xr ST) No go) (λr s6⟨u,hr,h6⟩=>?_) (λ_ _ z=>z.elim);subst hr;refine wpAny_mono h6 (λ_ s7⟨x,H7,I7,r7,y7,Gc,eQ⟩=>?_) (λ_ _ z=>z.elim);have eT:=I7.pinned (Xr eQ) (T.obj _ _ Gc);refine wpAny_mono (hg s3 H2 (D::fp) _ s7 _ H7 x u _ eT r7 (step x H7 y7)) (λ_ s8⟨σ8,H8,I8,q8⟩=>?_) (λ_ _ z=>z.elim);refine wpAny_mono (ht s3 H2 (D::fp) _ s8 σ8 H8 _ I8 q8) (λok s9⟨H9,I9,q9⟩=>?_) (λ_ _ z=>z.elim);have cp:∀{σ':St}{H':Hp}{s':Shared},Inv (Ja X NB scope s3 H2 (D::fp)) ([(D,Q5 ys)]++Ju fp s7.heap) σ' H' s'->tn (i+1) s'.heap/\∀b∈fp,H' b=none:=λJ=>
    ⟨T.keep _ _ _ Gc λb hb o e=>(J.pin (b,o) (nu _ (nu _ (Qp hb e)))).1,λb hb=>by
     obtain⟨o,e,d⟩:=T.obj _ _ Gc b hb;exact(J.pin (b,o) (nu _ (nu _ (Qp hb e)))).2.1⟩
   have wk:∀{σ':St}{H':Hp}{s':Shared}{pl:List (Addr × Obj)},Inv (Ja X NB scope s3 H2 (D::fp)) pl σ' H' s'->Inv (Ja X NB scope s3 H2 (D::fp)) pl (List.replicate NB.length none) H' s':=λJ=>
    J.weak (by rw[nG];exact J.len.symm) λj v z=>absurd z (rep j v)
   cases ok with
   |false=>
    rw[if_neg (by decide)]at q9;rw[if_neg (by decide)];obtain⟨m',hm,w9⟩:=hN vs H9 q9;obtain⟨t9,f9⟩:=cp I9;exact⟨m',hm,i+1,vs,ys,H9,wk I9.QL,rv,Ch,t9,f9,w9⟩
   |true=>
    rw[if_pos rfl]at q9;rw[if_pos rfl];refine wpAny_mono (he s3 H2 (D::fp) _ s9 σ8 H9 _ I9 q9) (λy LE⟨v,pi,Tl,Tm,il⟩=>?_) (λ_ _ z=>z.elim);obtain⟨eD,nD,_,nf,_⟩:=Tl.pin (D,Q5 ys) (by simp);have ip:=rv.length;refine append_at (hsz:=by show ys.toArray.size<=sizeLine;rw[nQ, ←ip];exact Ch) eD λcq Ty TD=>?_;obtain⟨m',hm,eU⟩:=hN (vs++[v]) pi il;obtain⟨dW,eV⟩:=cp Tl;have cK:=Tl.QL;have cM:∀b o,b≠D->LE.heap.get? b=some o->cq.get? b=some o:=λb o hb e=>(Ty.2 b hb).trans e;have IE:Inv (Ja X NB scope s3 H2 (D::fp)) [] σ8 pi LE:=cK.Q4 λp hp=>nomatch hp;have cu:Inv (Ja X NB scope s3 H2 (D::fp)) [] σ8 pi {LE with heap:=cq}:=IE.turned (t':=LE.toks) cM nD (Nat.ne_of_lt sK) (.inl nA) (λy' c e z=>by
     have:=eO y' c e;rw[z]at this;exact absurd (Nat.lt_trans this sK) (nU _)) (λp hp=>absurd (show p∈([]:List (Addr × Obj))from hp) (by simp))
    have eL:({cls:=.type "list",data:=.seq (ys.toArray.push y) (ys.length+1)}:Obj)=Q5 (ys++[y]):=by
     show({cls:=.type "list",data:=.seq (ys.toArray.push y) (ys.length+1)}:Obj)={cls:=.type "list",data:=.seq (ys++[y]).toArray (ys++[y]).length};rw[m5,ni,List.push_toArray]
    refine⟨m',hm,i+1,vs++[v],ys++[y],pi,wk (cu.Q4 λp hp=>?_),rv.append (.cons Tm .nil),by rw[m5,ni];exact bi,T.keep _ _ _ dW λb hb o e=>cM b o (BT b hb) e,eV,eU⟩;obtain rfl:p=(D,Q5 (ys++[y])):=by simpa using hp
    exact⟨by rw[←eL];exact TD,nD,Nat.ne_of_lt sK,nf,λv z=>nomatch z⟩
 exact codeAny_compStart_list loop (T.self _ 0 _ _ _ bN loop)
end
open Builtin Builtin.Str
theorem boot_reversed:bootBuiltins "reversed"=some (.type "reversed"):=by boot_by_name
section
variable {X:Cx}
theorem ZA:aU X (binaryOp .Mult) (λx y H Q=>∃z n,x=.str z/\y=.int n/\ -(2^40)<n/\z.length*n.toNat<=sizeLine/\n<2^40/\Q (.str (WG z n.toNat)) H):=by
 intro pins s σ H x y v u Q I rx ry h;obtain⟨z,n,ex,ey,h0,hl,hn,q⟩:=h
 by_cases hz:0<=n
 ·exact UJ pins s σ H x y v u Q I rx ry ⟨z,n,ex,ey,hz,hl,hn,q⟩
 ·subst ex ey;obtain⟨t,rfl⟩:=rx;obtain⟨t',rfl⟩:=ry;refine PySem.P.mul_str ?_ ?_ ?_ ?_
  ·rw[m8 (by lia),m8 (by lia)];rfl
  ·intro h1 h2 h3;lia
  ·intro h1 h2;lia
  ·rw[if_pos (by lia)];have e:WG z n.toNat=Str.empty:=by rw[show n.toNat=0 by lia];rfl
   exact⟨by decide,.str (WG z n.toNat),H,I.tok _,⟨_,by rw[e]⟩,q⟩
theorem yc{n:Nat}(hu:X.A.units+1+n<cLine):aU X (compareOp .NotEq) (λx y H Q=>∃a b xs ys,x=.ref a/\y=.ref b/\aJ X.K H a xs/\aJ X.K H b ys/\bD X.K H n xs ys/\Q (.bl false) H):=by
 intro pins s σ H x y v u Q I rx ry h;obtain⟨a,b,xs,ys,rfl,rfl,ha,hb,lk,q⟩:=h;obtain rfl:v=Value.ref a:=rx;obtain rfl:u=Value.ref b:=ry;obtain⟨ad,r1,p1,_⟩:=I.list ha;obtain⟨bn,r2,p2,_⟩:=I.list hb;have l1:=r1.length;have l2:=r2.length;have l3:=lk.len;refine SeqAt.RcNeAt.lists (e:=λ_=>true) p1.isList p2.isList (by rw[nQ,nQ];lia) (by lia) (Jn (pins:=pins) (σ:=σ) (H:=H) (n:=n) r1 r2 λj x y u v h1 h2 q1 q2=>(lk.at j x y h1 h2).at I (A:=X.A.in1) (by show X.A.units+1+n<cLine;lia) q1 q2) X.prog X.w X.xe _ ?_;rw[all_true];exact⟨.bl false,H,I,ae,q⟩
end
noncomputable def BI(lo c:Int)(n:Nat):It:=⟨λi _=>i<n,λi H x H'=>H'=H/\x=.int (lo+i*c),λi _=>n<=i⟩
theorem V1{P:Program}{w:World}{K:Frag}{tg:Expr}(it:Addr)(lo c:Int)(n:Nat):Turn P w K tg (BI lo c n) [it] it (λi h=>IsRangeIter h it (lo+(i:Nat)*c) ((n:Int)-(i:Nat)) c) where
 mem:=by simp
 obj:=λi h st b hb=>by
  have e:b=it:=by simpa using hb
  subst e;exact⟨_,st,λv z=>by
   have z':Data.fields _=Data.cell v:=z;cases z'⟩
 keep:=λi h h' st k=>k it (by simp) _ st
 item:=by
  intro X hP hw hK hc i pins s σ H E I hf st hg;subst hP hw hK;obtain⟨f0,f1,f2,f3,f4,f5⟩:=hf it (by simp);have W:=Walks.range (prog:=X.prog) (w:=X.w) (I.ok.hd hc) it lo c n;refine W.item i s _ _ hg st λv h' tk hv EQ kk=>?_;obtain⟨t,rfl⟩:=hv;have I1:Inv X pins σ H {s with heap:=h',toks:=tk}:=I.turned (λb o hb e=>kk b o (by simpa using hb) e) f0 f1 f3 f4 f5;exact⟨_,ae,zN (s:={s with heap:=h',toks:=tk}) (n:="range_iterator") EQ rfl rfl (by decide) ⟨.int (lo+i*c),H,I1,⟨t,ae⟩,⟨ae,ae⟩,EQ,λb hb=>(hf b hb).1⟩⟩
 done:=by
  intro X hP hw hK hc i pins s σ H E I hf st hg;subst hP hw hK;obtain⟨f0,f1,f2,f3,f4,f5⟩:=hf it (by simp);exact wpAny_pyNext_range_end (I.ok.hd hc) st (by have:n<=i:=hg;lia) λh' eb=>⟨ae,I.turned (t':=s.toks) (λb o hb e=>eb b o hb e) f0 f1 f3 f4 f5⟩
 self:=λ_ _ _ _ _ st h=>wpAny_pyIter_rangeiter st h
structure iq(X:Cx)(es:List Expr)(t:TA):Prop where
 pa:PA X es t
structure l8(X:Cx)(st:Stmt)(t:TS):Prop where
 ps:PS X st t
section
variable {X:Cx}
theorem QS:iq X [] YL:=⟨Qc⟩
theorem QJ{x:Str}{j:Nat}{p:Pos}{es:List Expr}{t:TA}(hr:iq X es t):iq X (.Constant (.str x) j p::es) (JG (tC (.str x)) t):=⟨Qa QO hr.pa rfl⟩
theorem Jz{st:Stmt}{rest:List Stmt}{t1 t2:TS}(h:l8 X st t1)(hr:l6 X rest t2):l6 X (st::rest) (JK t1 t2):=⟨Qe h.ps hr.ps⟩
theorem q4{st:Stmt}{t:TS}(h:l8 X st t):l6 X [st] t:=⟨Qk h.ps⟩
end
theorem KB{prog:Program}{w:World}{A:Around}(hh:A.handled=none)(I l:Addr)(Go:l≠I)(items:Array Value):
  WalksS prog w A I [I,l] [I] (λa b=>a=b) items.size (λi v=>items[i]? =some v) (λi s=>s.heap.IsListIter I l i/\s.heap.IsList l items) where
 sub:=λb hb=>by simp at hb;simp[hb]
 grefl:=λ_=>rfl
 gtrans:=λ_ _ _ a b=>a.trans b
 frame:=λi s h' tk x _ hk=>⟨x.1.at λo e=>hk I (by simp) o e,x.2.at λo e=>hk l (by simp) o e⟩
 item:=λi s Q E hi x hQ=>by
  have hx:items[i]? =some (items[i]'hi):=Array.getElem?_eq_getElem hi;refine wpAny_pyNext_list_item x.1 x.2 hx λh' EQ sb=>?_;exact hQ _ _ hx ⟨EQ,x.2.at λo eo=>(sb.2 l Go).trans eo⟩ ⟨λb o hb eo=>(sb.2 b (λh=>hb (by simp[h]))).trans eo,ae,ae,ae,ng _⟩
 done:=λs Q E x hQ=>wpAny_pyNext_list_end hh x.1 x.2 (Array.getElem?_eq_none (ng _)) λh' eb=>hQ _ ⟨λb o hb eo=>eb b o (λh=>hb (by simp[h])) eo,ae,ae,ae,ng _⟩
 self:=λ_ _ _ _ x hQ=>wpAny_pyIter_listiter x.1 hQ
theorem q5{ns:List Int}{us:List Value}(r:Vals (ns.map V.int) us):∀i v,us.toArray[i]? =some v->∃t,v=Value.int (ns.getD i 0) t:=λi v hv=>by
 have h1:us[i]? =some v:=by simpa using hv
 have bi:=(List.getElem?_eq_some_iff.mp h1).1;have hl:=r.length;rw[m7]at hl;have h2:(ns.map V.int)[i]? =some (V.int (ns.getD i 0)):=by
  rw[nE,List.getElem?_eq_getElem (by lia)];simp[List.getD,List.getElem?_eq_getElem (show i<ns.length by lia)]
 obtain⟨u,e,q⟩:=r.get h2;rw[h1]at e;cases e;exact q
theorem wq(val:Nat->Int):∀k,argBest (λi j=>decide (val i>val j)) k<=k/\∀i,i<=k->val i<=val (argBest (λi j=>decide (val i>val j)) k):=by
 intro k
 induction k with
 |zero=>exact⟨ng _,λi hi=>by rw[Nat.le_zero.mp hi];exact Int.le_refl _⟩
 |succ k ih=>
  unfold argBest
  by_cases h:val (k+1)>val (argBest (λi j=>decide (val i>val j)) k)
  ·rw[if_pos (m9 h)];refine⟨ng _,λi hi=>?_⟩;rcases Nat.lt_or_ge i (k+1)with h1|h1
   ·have:=ih.2 i (by lia);lia
   ·rw[show i=k+1 by lia];exact Int.le_refl _
  ·rw[if_neg (by rw[decide_eq_true_eq];exact h)];refine⟨by lia,λi hi=>?_⟩;rcases Nat.lt_or_ge i (k+1)with h1|h1
   ·exact ih.2 i (by lia)
   ·rw[show i=k+1 by lia];lia
section
variable {X:Cx}
theorem z7{elt tg iter:Expr}{ifs:List Expr}{scope:Scope}{pos eW py:Pos}{NB:List Str}{wi:TI}{g:TG}{tt:TT}{te:TE}{iy:Nat}{y:Str}(hc:X.calm=true)(S:bX NB scope)(hi:PI X tg iter wi)
  (hg:∀s H ex,PG (Ja X NB scope s H ex) tg g) (ht:∀s H ex,iY (Ja X NB scope s H ex) ifs tt) (he:∀s H ex,PE (Ja X NB scope s H ex) elt te)
  (hN:X.N.Nodup) (BJ:X.N[iy]? =some y) (hy:Loc X.env.scope y) (BK:swapsWith (.ListComp elt [⟨tg,iter,ifs,0⟩] scope pos) (some (.Name y py)) eW.line X.env=pure true)
  (hs:∀x,foldedSetIterable iter X.env x=pure x:=by intro _;rfl) (hf:X.fn y=true\/X.env.scope.names.lookup y=some .local:=by first|exact .inl rfl|exact .inr rfl|assumption):
  PS X (.Assign [.Name y py] (.ListComp elt [⟨tg,iter,ifs,0⟩] scope pos) eW) (JF (W3 NB wi g tt te) (QD iy)):=by
 intro pins s σ H Dn I h;rw[exec_Assign_Name_used _ _ _ _ BK];refine wpAny_bind (wpAny_standAt (wpAny_bind ?_));show wpAny _ X.A (do let _←comprehension (.ListComp elt [⟨tg,iter,ifs,0⟩] scope pos) scope X.env _ (newList []) false (eval iter X.env) (some (assign (.Name y py) X.env))) _ _ s;refine wpAny_bind (wpAny_mono (wpAny_comprehension_free (use:=some (assign (.Name y py) X.env)) (Q:=λ_ s'=>SP X pins Dn .next s') (cl:=[]) ae hs (W1 S.aP) S.kind S.loc (ax (hi pins s σ H _ I h) λv s1 h1=>ax h1 λlP s2 h2=>?_)) (λ_ s' hq=>wpAny_pure (wpAny_pure hq)) λ_ _ e=>e);obtain⟨it,fp,tn,J,H2,e,I2,T,cn,f2,W,⟨m0,w0⟩,turn⟩:=h2;subst e;refine wpAny_newObj_type ?_;have Fk:∀b o,s2.heap.get? b=some o->(s2.heap.push {cls:=.type "list",data:=.seq ([]:List Value).toArray}).get? b=some o:=λb o e=>Heap.get?_push_of_some _ e;have I3:Inv X pins σ H2 {s2 with heap:=s2.heap.push {cls:=.type "list",data:=.seq ([]:List Value).toArray}}:=I2.kept (t':=s2.toks) Fk;have bT:tn 0 (s2.heap.push {cls:=.type "list",data:=.seq ([]:List Value).toArray}):=T.keep _ _ _ cn λb _ o e=>Fk b o e;have Fr:(s2.heap.push {cls:=.type "list",data:=.seq ([]:List Value).toArray}).get? s2.heap.objs.size=some (Q5 []):=Heap.get?_push_size _ rfl;have c9:H2 s2.heap.objs.size=none:=I2.aj.fresh (ng _);have ul:∀b o,s2.heap.get? b=some o->b≠s2.heap.objs.size:=λb o e=>Nat.ne_of_lt (Heap.lt_size e);have de:∀b∈fp,∃o,s2.heap.get? b=some o:=λb hb=>let ⟨o,e,_⟩:=T.obj _ _ cn b hb;⟨o,e⟩;have f8:X.s₀.heap.objs.size<=s2.heap.objs.size:=I2.sz;have SZ:s2.heap.objs.size≠X.env.locals:=Nat.ne_of_gt I2.lt;have IR:∀x c,X.env.cells.lookup x=some c->c≠s2.heap.objs.size:=λx c e=>let ⟨v,o,e1,_⟩:=I2.cell x c e;ul c o e1;have Tk:∀p∈X.pn++pins,p.1≠s2.heap.objs.size:=λp hp=>ul p.1 _ (I2.pin p hp).1;have P3:s2.heap.objs.size∉bc X.stack:=λz=>let ⟨o,e,_⟩:=(I2.stack.mem z).2;ul _ o e rfl;generalize gV:({s2 with heap:=s2.heap.push {cls:=.type "list",data:=.seq ([]:List Value).toArray}}:Shared)=s3 at I3 ⊢;have eM:s3.heap=s2.heap.push {cls:=.type "list",data:=.seq ([]:List Value).toArray}:=by rw[←gV]
 rw[←eM]at bT Fr Fk;generalize s2.heap.objs.size=D at Fr c9 ul f8 SZ IR Tk P3 ⊢;refine Zs S.kind λAT s4 FB x4=>?_;subst FB;rw[Xl S.aP];have NE:∀b o,s3.heap.get? b=some o->b<s3.heap.objs.size:=λb o e=>Heap.lt_size e;have bY:∀b∈fp,b<s3.heap.objs.size:=λb hb=>let ⟨o,e⟩:=de b hb;NE b o (Fk b o e);have sK:D<s3.heap.objs.size:=NE D _ Fr;have BT:∀b∈fp,b≠D:=λb hb=>let ⟨o,e⟩:=de b hb;ul b o e;obtain⟨h4,dI,rfl,ut⟩:=x4.done;have ia:∀b o,X.base.get? b=some o->b∉D::fp:=λb o e hb=>by
  rcases List.mem_cons.mp hb with rfl|hb
  ·exact absurd (Nat.lt_of_lt_of_le (Heap.lt_size (I2.ok.bs b o e).1) f8) (nU _)
  ·obtain⟨_,_,_,f3,_⟩:=f2 b hb;rcases f3 with z|z
   ·exact I2.ok.bB b o e z
   ·exact absurd (Nat.lt_of_lt_of_le (Heap.lt_size (I2.ok.bs b o e).1) z) (nU _)
 have dg:∀b∈D::fp,b∉bc X.stack:=λb hb hf=>by
  rcases List.mem_cons.mp hb with rfl|hb
  ·exact P3 hf
  ·obtain⟨_,f1,ib,_⟩:=f2 b hb;rcases List.mem_cons.mp (I2.XJ b hf)with z|z
   ·exact f1 z
   ·exact ib z
 have eO:∀y c,(cellsFrom (s3.heap.objs.size+1) scope.names []).lookup y=some c->s3.heap.objs.size<c:=λy c e=>x4.above y c (PySem.mem_of_lookup e);have FS:∀b∈D::fp,b<s3.heap.objs.size:=λb hb=>by
  rcases List.mem_cons.mp hb with rfl|hb
  ·exact sK
  ·exact bY b hb
 have ic:(Ja X NB scope s3 H2 (D::fp)).Ok:=by
  refine⟨I3.ok.mod,S.kind,I3.ok.glob,I3.ok.blt,ng _,λy z c h1 h2=>?_,λy hy=>?_,λy c _ h=>Nat.le_of_lt (eO y c h),I3.ok.hd,I3.ok.frames,.inl rfl,λb hb=>⟨Nat.ne_of_lt (FS b hb),λy c e z=>?_⟩,I3.bs,Nat.le_trans I3.ok.dR I3.sz,ia,dg,I3.stack,I3.Zy⟩
  ·exact name_of_addr x4.apart (PySem.mem_of_lookup h1) (PySem.mem_of_lookup h2)
  ·have hy:scope.names.lookup y=some .cell\/scope.names.lookup y=some .free:=hy;rcases hy with hy|hy
   ·exact Xx hy
   ·exact absurd rfl (S.aP _ (PySem.mem_of_lookup hy))
  ·have:=eO y c e;rw[z]at this;exact absurd (Nat.lt_trans this (FS b hb)) (nU _)
 have rep:∀(j:Nat)(v:V),(List.replicate NB.length (none:Option V))[j]? ≠some (some v):=λj v z=>by
  rw[List.getElem?_replicate]at z
  split at z<;>cases z
 have IB:Inv (Ja X NB scope s3 H2 (D::fp)) [(D,Q5 [])] (List.replicate NB.length none) H2 {s3 with heap:=h4,toks:=dI}:=by
  refine⟨ic,ae,I3.bare,Un.kept ut,⟨_,x4.toInCall.ns,λi y v h1 h2 h3=>absurd h2 (rep i v)⟩,λy c h=>⟨_,x4.cell y c h⟩,I3.aj.fresh (ng _),λy c h=>I3.aj.fresh (Nat.le_of_lt (eO y c h)),λp hp=>?_,I3.aj.kept ut,by rw[nG]⟩;obtain rfl:p=(D,Q5 []):=by simpa using hp
  exact⟨ut _ _ Fr,c9,Nat.ne_of_lt sK,P3,λv z=>nomatch z⟩
 have Xr:∀{H':Hp}{ys:List Value},(∀b∈fp,H' b=none)->∀b∈fp,VP (Ja X NB scope s3 H2 (D::fp)) [(D,Q5 ys)] H' b:=λhn b hb=>
  ⟨hn b hb,Nat.ne_of_lt (bY b hb),dg b (nz _ hb),.inl (nz _ hb),λy c e z=>by
   have:=eO y c e;rw[z]at this;exact absurd (Nat.lt_trans this (bY b hb)) (nU _),λp hp=>by
    obtain rfl:p=(D,_):=by simpa using hp
    exact(BT b hb).symm⟩
 have bN:tn 0 h4:=T.keep _ _ _ bT λb _ o e=>ut b o e;have dJ:∀b∈fp,H2 b=none:=λb hb=>(f2 b hb).1;have Do:(Ja X NB scope s3 H2 (D::fp)).calm=true:=hc;have loop:codeAny (model X.prog X.w) X.A (.compLoop (.ListComp elt [⟨tg,iter,ifs,0⟩] scope pos) 0 (.ref it) (.ref D) (qZ scope X.env s3.heap.objs.size))
   (compPost (model X.prog X.w) X.A X.xe (some (assign (.Name y py) X.env)) (λ_ s'=>SP X pins Dn .next s') (.ref D) s3.heap.objs.size) {s3 with heap:=h4,toks:=dI}:=by
  refine J5 (λn s'=>∃i vs ys H',Inv (Ja X NB scope s3 H2 (D::fp)) [(D,Q5 ys)] (List.replicate NB.length none) H' s'/\Vals vs ys/\vs.length<=sizeLine/\tn i s'.heap/\(∀b∈fp,H' b=none)/\W i n vs H') ?_ m0 ⟨0,[],[],H2,IB,.nil,nR _,bN,dJ,w0⟩;rintro n s5 ⟨i,vs,ys,H5,I5,rv,Ch,No,ST,w5⟩;rcases turn i n vs H5 w5 with⟨stop,qn⟩|⟨go,bi,N,hN,step⟩
  ·refine wpAny_mono (T.done (Ja X NB scope s3 H2 (D::fp)) ae ae ae Do i _ s5 _ H5 (λ_ _=>False) I5 (Xr ST) No stop) (λr s6⟨hr,I6⟩=>?_) (λ_ _ z=>z.elim);subst hr;obtain⟨m6,ie,_⟩:=id I6.loc;have dU:H5 s3.heap.objs.size=none:=I6.free;have ig:Un (bc X.stack) (D::fp) H2 H5 s3.heap s6.heap:=I6.base;have I7:Inv X pins σ H5 s6:=I3.UA (s':=s6) I6.os ig I6.aj I6.bare λb hb=>by
    rcases List.mem_cons.mp hb with rfl|hb
    ·exact⟨.inr f8,SZ,IR,Tk⟩
    ·obtain⟨_,f1,_,f3,f4,f5⟩:=f2 b hb;exact⟨f3,f1,f4,f5⟩
   obtain⟨eD,nD,_⟩:=I6.pin (D,Q5 ys) (by simp);have dh:H5 D=none:=nD;have ij:s6.heap.get? D=some (Q5 ys):=eD;have ik:X.s₀.heap.get? D=none:=by
    cases q:X.s₀.heap.get? D with
    |none=>rfl
    |some o=>exact absurd (Nat.lt_of_lt_of_le (Heap.lt_size q) f8) (nU _)
   have I8:Inv X pins σ (upd H5 D (.lst vs)) s6:=I7.VY dh ik SZ IR Tk ⟨Ch,ys,ys.length,rv,ij⟩;have hq:=qn D dh;have BL:X.s₀.heap.objs.size<=s3.heap.objs.size:=I3.sz;have cL:s3.heap.objs.size≠X.env.locals:=Nat.ne_of_gt I3.lt;have cC:∀x c,X.env.cells.lookup x=some c->c≠s3.heap.objs.size:=λx c e=>let ⟨v,o,e1,_⟩:=I3.cell x c e;Nat.ne_of_lt (NE c o e1);have cP:∀p∈X.pn++pins,p.1≠s3.heap.objs.size:=λp hp=>Nat.ne_of_lt (NE p.1 _ (I3.pin p hp).1);show wpAny (model X.prog X.w) X.A (assign (.Name y py) X.env (.ref D)) _ X.xe s6;refine wpAny_assign_Name (XL (v:=.ref D) I8 hN BJ hy ae (λs9 I9⟨a9,BM,BN⟩=>?_) hf);have na:s3.heap.objs.size≠a9:=by
    rcases BN with rfl|z
    ·exact cL
    ·exact(cC y a9 z).symm
   refine⟨m6,ie.sameBut BM na,λr8 l'=>⟨_,_,?_,hq⟩⟩;have nW:upd H5 D (.lst vs) s3.heap.objs.size=none:=by rw[Qh (Nat.ne_of_gt sK)];exact dU
   exact(I9.turned (h':=r8) (t':=s9.toks) (it:=s3.heap.objs.size) (λb o hb e=>(l'.2 b hb).trans e) nW cL (.inr BL) cC cP:)
  ·refine wpAny_mono (T.item (Ja X NB scope s3 H2 (D::fp)) ae ae ae Do i _ s5 _ H5 (λ_ _=>False) I5 (Xr ST) No go) (λr s6⟨u,hr,h6⟩=>?_) (λ_ _ z=>z.elim);subst hr;refine wpAny_mono h6 (λ_ s7⟨x,H7,I7,r7,y7,Gc,eQ⟩=>?_) (λ_ _ z=>z.elim);have eT:=I7.pinned (Xr eQ) (T.obj _ _ Gc);refine wpAny_mono (hg s3 H2 (D::fp) _ s7 _ H7 x u _ eT r7 (step x H7 y7)) (λ_ s8⟨σ8,H8,I8,q8⟩=>?_) (λ_ _ z=>z.elim);refine wpAny_mono (ht s3 H2 (D::fp) _ s8 σ8 H8 _ I8 q8) (λok s9⟨H9,I9,q9⟩=>?_) (λ_ _ z=>z.elim);have cp:∀{σ':St}{H':Hp}{s':Shared},Inv (Ja X NB scope s3 H2 (D::fp)) ([(D,Q5 ys)]++Ju fp s7.heap) σ' H' s'->tn (i+1) s'.heap/\∀b∈fp,H' b=none:=λJ=>
    ⟨T.keep _ _ _ Gc λb hb o e=>(J.pin (b,o) (nu _ (nu _ (Qp hb e)))).1,λb hb=>by
     obtain⟨o,e,d⟩:=T.obj _ _ Gc b hb;exact(J.pin (b,o) (nu _ (nu _ (Qp hb e)))).2.1⟩
   have wk:∀{σ':St}{H':Hp}{s':Shared}{pl:List (Addr × Obj)},Inv (Ja X NB scope s3 H2 (D::fp)) pl σ' H' s'->Inv (Ja X NB scope s3 H2 (D::fp)) pl (List.replicate NB.length none) H' s':=λJ=>
    J.weak (by rw[nG];exact J.len.symm) λj v z=>absurd z (rep j v)
   cases ok with
   |false=>
    rw[if_neg (by decide)]at q9;rw[if_neg (by decide)];obtain⟨m',hm,w9⟩:=hN vs H9 q9;obtain⟨t9,f9⟩:=cp I9;exact⟨m',hm,i+1,vs,ys,H9,wk I9.QL,rv,Ch,t9,f9,w9⟩
   |true=>
    rw[if_pos rfl]at q9;rw[if_pos rfl];refine wpAny_mono (he s3 H2 (D::fp) _ s9 σ8 H9 _ I9 q9) (λy LE⟨v,pi,Tl,Tm,il⟩=>?_) (λ_ _ z=>z.elim);obtain⟨eD,nD,_,nf,_⟩:=Tl.pin (D,Q5 ys) (by simp);have ip:=rv.length;refine append_at (hsz:=by show ys.toArray.size<=sizeLine;rw[nQ, ←ip];exact Ch) eD λcq Ty TD=>?_;obtain⟨m',hm,eU⟩:=hN (vs++[v]) pi il;obtain⟨dW,eV⟩:=cp Tl;have cK:=Tl.QL;have cM:∀b o,b≠D->LE.heap.get? b=some o->cq.get? b=some o:=λb o hb e=>(Ty.2 b hb).trans e;have IE:Inv (Ja X NB scope s3 H2 (D::fp)) [] σ8 pi LE:=cK.Q4 λp hp=>nomatch hp;have cu:Inv (Ja X NB scope s3 H2 (D::fp)) [] σ8 pi {LE with heap:=cq}:=IE.turned (t':=LE.toks) cM nD (Nat.ne_of_lt sK) (.inl nA) (λy' c e z=>by
     have:=eO y' c e;rw[z]at this;exact absurd (Nat.lt_trans this sK) (nU _)) (λp hp=>absurd (show p∈([]:List (Addr × Obj))from hp) (by simp))
    have eL:({cls:=.type "list",data:=.seq (ys.toArray.push y) (ys.length+1)}:Obj)=Q5 (ys++[y]):=by
     show({cls:=.type "list",data:=.seq (ys.toArray.push y) (ys.length+1)}:Obj)={cls:=.type "list",data:=.seq (ys++[y]).toArray (ys++[y]).length};rw[m5,ni,List.push_toArray]
    refine⟨m',hm,i+1,vs++[v],ys++[y],pi,wk (cu.Q4 λp hp=>?_),rv.append (.cons Tm .nil),by rw[m5,ni];exact bi,T.keep _ _ _ dW λb hb o e=>cM b o (BT b hb) e,eV,eU⟩;obtain rfl:p=(D,Q5 (ys++[y])):=by simpa using hp
    exact⟨by rw[←eL];exact TD,nD,Nat.ne_of_lt sK,nf,λv z=>nomatch z⟩
 exact codeAny_compStart_list loop (T.self _ 0 _ _ _ bN loop)
end
structure aW(K:Frag)(H:Hp)(a t r:Addr)(ns:List Int)(c:Int):Prop where
 sq:aJ K H a (ns.map V.int)
 tw:∃rs,aL H t r c rs
 nat:a≠t
 iZ:a≠r
 ln:ns.length<=63
section
variable {K:Frag}{H H':Hp}{a t r:Addr}{ns:List Int}{c c':Int}
theorem aW.drawn(B:aW K H a t r ns c)(A:Apart t r H H'){rs:List (Key × V)}(T:aL H' t r c' rs):aW K H' a t r ns c':=
 ⟨A.seq B.sq B.nat B.iZ,⟨rs,T⟩,B.nat,B.iZ,B.ln⟩
theorem aW.same(B:aW K H a t r ns c)(e:Qi H H'):aW K H' a t r ns c:=by
 obtain⟨rs,T⟩:=B.tw;exact⟨(Apart.of e).seq B.sq B.nat B.iZ,⟨rs,T.same e⟩,B.nat,B.iZ,B.ln⟩
theorem aW.draw{σ:St}{i j:Nat}{n:Int}{tn:TE}{Q:VK}{E:XK}(B:aW K H a t r ns c)(hi:σ[i]? =some (some (.ref a)))(hj:σ[j]? =some (some (.ref t)))(hn:∀R:VK,R (.int n) H->tn σ H R) (h0:0<n) (h1:n<1000000) (hc:c<100000)
  (k:∀(d:Nat)(H':Hp),(d:Int)<n->aW K H' a t r ns (c+1)->Apart t r H H'->Q (.int d) H'):VR (Xk K) [] E (JG (qo i) (JG (qo j) (JG tn YL))) σ H Q:=by
 obtain⟨rs,T⟩:=B.tw;refine⟨_,hi,_,hj,hn _ ⟨a,t,r,ns,c,n,rs,ae,B.sq,T,B.nat,B.iZ,B.ln,hc,h0,h1,λv Fy H' v0 v1 T' A'=>?_⟩⟩;obtain⟨d,rfl⟩:=Int.eq_ofNat_of_zero_le v0;exact k d H' v1 (B.drawn A' T') A'
theorem aW.keep(B:aW K H a t r ns c)(A:Apart t r H H'){b:Addr}{o:HO}(e:H b=some o)(n:∀ap,o≠ .dK ap):H' b=some o:=by
 obtain⟨rs,T⟩:=B.tw;refine A b o e (λz=>?_) λz=>?_
 ·rw[z,T.tw]at e;cases e;exact n _ rfl
 ·rw[z,T.rt]at e;cases e;exact n _ rfl
end
section
variable {X:Cx}
theorem ja{n:Nat}(hu:X.A.units+1+n<cLine):aU X (compareOp .NotEq) (λx y H Q=>∃a b xs ys k,x=.ref a/\y=.ref b/\aJ X.K H a xs/\aJ X.K H b ys/\((bD X.K H n xs ys/\k=false)\/(xs.length≠ys.length/\k=true))/\Q (.bl k) H):=by
 intro pins s σ H x y v u Q I rx ry h;obtain⟨a,b,xs,ys,k,e1,e2,ha,hb,lk,q⟩:=h;rcases lk with⟨lk,rfl⟩|⟨ln,rfl⟩
 ·exact yc hu pins s σ H x y v u Q I rx ry ⟨a,b,xs,ys,e1,e2,ha,hb,lk,q⟩
 ·subst e1 e2;obtain rfl:v=Value.ref a:=rx;obtain rfl:u=Value.ref b:=ry;obtain⟨ad,r1,p1,_⟩:=I.list ha;obtain⟨bn,r2,p2,_⟩:=I.list hb;have l1:=r1.length;have l2:=r2.length;refine SeqAt.RcNeAt.lists_lengths p1.isList p2.isList (by rw[nQ,nQ];simp;lia) (by lia) _ _ _ _ ?_;exact⟨.bl true,H,I,ae,q⟩
end
noncomputable def V2(scope:Scope)(env:Env)(C:Addr):Env:=
 {scope:=relabel scope env,locals:=C,globals:=env.globals,cells:=Qw env.cells scope.names [],qual:=env.qual,func:=none,code:=env.code,frame:=env.frame,builtins:=env.builtins}
noncomputable abbrev QH(X:Cx)(NB:List Str)(scope:Scope)(s:Shared)(H:Hp)(ex:List Addr):Cx:=
 {X with N:=NB,s₀:=s,H₀:=H,env:=V2 scope X.env s.heap.objs.size,outer:=X.stack,ex:=ex,fn:=λ_=>false,pn:=[],xe:=λ_ _=>False}
structure bz(NB FR:List Str)(scope:Scope):Prop where
 kind:scope.kind=.function
 nd:(NB++FR).Nodup
 bE:∀y∈scope.names,y.2≠ .cell
 loc:∀y∈scope.names,y.2=.local->scope.names.lookup y.1=some .local
 r9:(scope.names.map (·.1)).Nodup
 fr:∀y∈FR,(y,NameKind.free)∈scope.names
noncomputable def XV(n:Nat)(fi:List Nat)(wi:TI)(g:TG)(tt:TT)(te:TE):TE:=λσ H Q=>wi σ H λJ H1=>∃fv:List V,fi.map (λi=>σ[i]?)=fv.map (λv=>some (some v))/\∃W:Nat->Nat->List V->Hp->Prop,(∃m,W 0 m [] H1)/\∀i m vs H,W i m vs H->
 (J.stop i H/\∀p,H p=none->Q (.ref p) (upd H p (.lst vs)))\/(J.go i H/\vs.length<sizeLine/\∃N:List V->Hp->Prop,(∀sB H',N sB H'->∃m',m'<m/\W (i+1) m' sB H')/\
  ∀x H',J.bw i H x H'->g x (List.replicate n none++fv.map some) H' λσ2 H2=>σ2.drop n=fv.map some/\tt σ2 H2 λb H3=>if b=true then te σ2 H3 λv H4=>N (vs++[v]) H4 else N vs H3)
noncomputable def cw(env:Env)(x:Str × NameKind):Str × NameKind:=if(x.2==NameKind.free&&env.scope.kind==.function&&env.kindOf x.1==some .cell)then(x.1,NameKind.cell)else(x.1,x.2)
theorem XA(env:Env){x:Str × NameKind}{y:Str}(h:y≠x.1)(l:List (Str × NameKind)):(cw env x::l).lookup y=l.lookup y:=by
 have hb:(y==x.1)=false:=beq_eq_false_iff_ne.mpr h;unfold cw
 split<;>rw[List.lookup_cons,hb]
theorem Xm{env:Env}{scope:Scope}{y:Str}(nd:(scope.names.map (·.1)).Nodup)(h:(y,NameKind.free)∈scope.names)(hk:(env.scope.kind==.function)=true)(hc:env.scope.names.lookup y=some .cell):(relabel scope env).names.lookup y=some .cell:=by
 have key:∀l:List (Str × NameKind),(l.map (·.1)).Nodup->(y,NameKind.free)∈l->(l.map (cw env)).lookup y=some .cell:=by
  intro l
  induction l with
  |nil=>intro _ h;cases h
  |cons z r ih=>
   intro nd h;rw[nM,List.nodup_cons]at nd;rw[nM];rcases List.mem_cons.mp h with h|h
   ·subst h;have e:(env.kindOf y==some NameKind.cell)=true:=by rw[show env.kindOf y=env.scope.names.lookup y from rfl,hc];rfl
    have e2:cw env (y,NameKind.free)=(y,NameKind.cell):=by unfold cw;rw[if_pos (by rw[hk,e];rfl)]
    rw[e2,List.lookup_cons,beq_self_eq_true]
   ·have Go:y≠z.1:=λq=>nd.1 (by rw[←q];exact List.mem_map.mpr ⟨_,h,ae⟩);rw[XA env Go];exact ih nd.2 h
 exact key scope.names nd h
theorem Xn{env:Env}{scope:Scope}{y:Str}(nc:∀y∈scope.names,y.2≠ .cell) (h:(relabel scope env).names.lookup y=some .cell\/(relabel scope env).names.lookup y=some .free):(y,NameKind.free)∈scope.names:=by
 have key:∀l:List (Str × NameKind),(∀y∈l,y.2≠ .cell)->((l.map (cw env)).lookup y=some .cell\/(l.map (cw env)).lookup y=some .free)->(y,NameKind.free)∈l:=by
  intro l
  induction l with
  |nil=>intro _ h;rcases h with h|h<;>simp at h
  |cons z r ih=>
   intro nc h;have hk:z.2≠ .cell:=nc z nA;rw[nM]at h
   by_cases hn:y=z.1
   ·obtain⟨n,k⟩:=z;have hn:y=n:=hn;subst hn;have hf:k=.free:=by
     cases k with
     |cell=>exact absurd rfl hk
     |free=>rfl
     |_=>
      have e2:∀q:NameKind,(q==NameKind.free)=false->cw env (y,q)=(y,q):=λq hq=>by unfold cw;rw[if_neg (by rw[show((y,q).2==NameKind.free)=false from hq];simp)]
      rw[e2 _ rfl,List.lookup_cons,beq_self_eq_true]at h;rcases h with h|h<;>cases h
    rw[hf];exact nA
   ·rw[XA env hn]at h;exact nz _ (ih (λy hy=>nc y (nz _ hy)) h)
 exact key scope.names nc h
theorem Zt:∀(l:List (Str × NameKind))(n:Nat)(acc:List (Str × Addr)),(∀y∈l,y.2≠ .cell)->cellsFrom n l acc=acc
 |[],_,_,_=>rfl
 |(x,k)::r,n,acc,h=>by
  have hk:(k==NameKind.cell)=false:=beq_eq_false_iff_ne.mpr (h (x,k) nA);unfold cellsFrom;rw[hk];exact Zt r n acc λy hy=>h y (nz _ hy)
theorem Zu:∀(l:List (Str × NameKind))(h:Heap),(∀y∈l,y.2≠ .cell)->pushCells h l=h
 |[],_,_=>rfl
 |(x,k)::r,h,hn=>by
  have hk:(k==NameKind.cell)=false:=beq_eq_false_iff_ne.mpr (hn (x,k) nA);unfold pushCells;rw[hk];exact Zu r h λy hy=>hn y (nz _ hy)
theorem J6{M:Model}{A:Around}{E:Value->Shared->Prop}{s:Shared}{scope:Scope}{globals:Addr}{qual:Str}{env:Env}{cl:List (Str × Addr)}{Q:Env->Shared->Prop}(hk:scope.kind=.function)(hn:∀y∈scope.names,y.2≠ .cell)
  (hQ:∀AT s',AT={scope:=scope,locals:=s.heap.objs.size,globals:=globals,cells:=cl,qual:=qual,func:=none,code:=env.code,frame:=env.frame,builtins:=env.builtins}->
   InCall s s.heap.objs.size (λ_=>none) s'->Q AT s'):
  wpAny M A (newFunctionEnv scope globals cl [] qual none .none (some env)) Q E s:=by
 simp only[newFunctionEnv,Option.isSome_some,if_true];refine wpAny_bind (wpAny_alloc ?_);refine wpAny_bind (wpAny_layCells _ (λname kind cells=>by cases l7:kind==NameKind.cell<;>simp[l7]) _ _ _ _ ?_);rw[Zt _ _ _ hn,Zu _ _ hn];refine wpAny_bind (wpAny_pure (wpAny_pure (hQ _ _ ae ?_)));exact⟨⟨_,_,ae⟩,Heap.Ns.new s.heap (.type "dict"),λb o e=>Heap.get?_push_of_some _ e,ng _⟩
section
variable {X:Cx}
theorem JM{elt tg iter:Expr}{ifs:List Expr}{scope:Scope}{pos:Pos}{NB FR:List Str}{fi:List Nat}{wi:TI}{g:TG}{tt:TT}{te:TE}(hc:X.calm=true)(S:bz NB FR scope)(ge:YU scope X.env.scope=true)(cN:fi.map (λi=>X.N[i]?)=FR.map some) (hi:PI X tg iter wi)
  (hg:∀s H ex,PG (QH X (NB++FR) scope s H ex) tg g) (ht:∀s H ex,iY (QH X (NB++FR) scope s H ex) ifs tt) (he:∀s H ex,PE (QH X (NB++FR) scope s H ex) elt te)
  (hs:∀x,foldedSetIterable iter X.env x=pure x:=by intro _;rfl):PE X (.ListComp elt [⟨tg,iter,ifs,0⟩] scope pos) (XV NB.length fi wi g tt te):=by
 intro pins s σ H Q I h;have cx:∀y∈scope.names,y.2=.free->X.env.scope.names.lookup y.1=some .cell:=XU ge;have GE:∀y∈scope.names,y.2=.free->∃c,X.env.cells.lookup y.1=some c:=λy hy e=>I.ok.has y.1 (.inl (cx y hy e));have dL:∀y c,(Qw X.env.cells scope.names []).lookup y=some c->X.env.cells.lookup y=some c:=λy c e=>J4 scope.names [] GE (λz=>nomatch z) e;rw[eval_ListComp];refine wpAny_comprehension_free (use:=none) (cl:=Qw X.env.cells scope.names []) rfl hs (Jb GE) S.kind S.loc (ax (hi pins s σ H _ I h) λv s1 h1=>ax h1 λlP s2 h2=>?_);obtain⟨it,fp,tn,J,H2,e,I2,T,cn,f2,fv,Re,W,⟨m0,w0⟩,turn⟩:=h2;subst e;refine wpAny_newObj_type ?_;have Fk:∀b o,s2.heap.get? b=some o->(s2.heap.push {cls:=.type "list",data:=.seq ([]:List Value).toArray}).get? b=some o:=λb o e=>Heap.get?_push_of_some _ e;have I3:Inv X pins σ H2 {s2 with heap:=s2.heap.push {cls:=.type "list",data:=.seq ([]:List Value).toArray}}:=I2.kept (t':=s2.toks) Fk;have bT:tn 0 (s2.heap.push {cls:=.type "list",data:=.seq ([]:List Value).toArray}):=T.keep _ _ _ cn λb _ o e=>Fk b o e;have Fr:(s2.heap.push {cls:=.type "list",data:=.seq ([]:List Value).toArray}).get? s2.heap.objs.size=some (Q5 []):=Heap.get?_push_size _ rfl;have c9:H2 s2.heap.objs.size=none:=I2.aj.fresh (ng _);have ul:∀b o,s2.heap.get? b=some o->b≠s2.heap.objs.size:=λb o e=>Nat.ne_of_lt (Heap.lt_size e);have de:∀b∈fp,∃o,s2.heap.get? b=some o:=λb hb=>let ⟨o,e,_⟩:=T.obj _ _ cn b hb;⟨o,e⟩;have f8:X.s₀.heap.objs.size<=s2.heap.objs.size:=I2.sz;have SZ:s2.heap.objs.size≠X.env.locals:=Nat.ne_of_gt I2.lt;have IR:∀x c,X.env.cells.lookup x=some c->c≠s2.heap.objs.size:=λx c e=>let ⟨v,o,e1,_⟩:=I2.cell x c e;ul c o e1;have Tk:∀p∈X.pn++pins,p.1≠s2.heap.objs.size:=λp hp=>ul p.1 _ (I2.pin p hp).1;have P3:s2.heap.objs.size∉bc X.stack:=λz=>let ⟨o,e,_⟩:=(I2.stack.mem z).2;ul _ o e rfl;generalize gV:({s2 with heap:=s2.heap.push {cls:=.type "list",data:=.seq ([]:List Value).toArray}}:Shared)=s3 at I3 ⊢;have eM:s3.heap=s2.heap.push {cls:=.type "list",data:=.seq ([]:List Value).toArray}:=by rw[←gV]
 rw[←eM]at bT Fr Fk;generalize s2.heap.objs.size=D at Fr c9 ul f8 SZ IR Tk P3 ⊢;refine J6 S.kind S.bE λAT s4 FB x4=>?_;subst FB;have NE:∀b o,s3.heap.get? b=some o->b<s3.heap.objs.size:=λb o e=>Heap.lt_size e;have bY:∀b∈fp,b<s3.heap.objs.size:=λb hb=>let ⟨o,e⟩:=de b hb;NE b o (Fk b o e);have sK:D<s3.heap.objs.size:=NE D _ Fr;have BT:∀b∈fp,b≠D:=λb hb=>let ⟨o,e⟩:=de b hb;ul b o e;obtain⟨h4,dI,rfl,ut⟩:=x4.done;have ia:∀b o,X.base.get? b=some o->b∉D::fp:=λb o e hb=>by
  rcases List.mem_cons.mp hb with rfl|hb
  ·exact absurd (Nat.lt_of_lt_of_le (Heap.lt_size (I2.ok.bs b o e).1) f8) (nU _)
  ·obtain⟨_,_,_,f3,_⟩:=f2 b hb;rcases f3 with z|z
   ·exact I2.ok.bB b o e z
   ·exact absurd (Nat.lt_of_lt_of_le (Heap.lt_size (I2.ok.bs b o e).1) z) (nU _)
 have dg:∀b∈D::fp,b∉bc X.stack:=λb hb hf=>by
  rcases List.mem_cons.mp hb with rfl|hb
  ·exact P3 hf
  ·obtain⟨_,f1,ib,_⟩:=f2 b hb;rcases List.mem_cons.mp (I2.XJ b hf)with z|z
   ·exact f1 z
   ·exact ib z
 have dM:∀y c,(Qw X.env.cells scope.names []).lookup y=some c->(∃v,s3.heap.IsCell c v)/\H2 c=none/\c≠D/\∀b∈fp,c≠b:=λy c e=>by
  have e':=dL y c e;exact⟨I3.cell y c e',I3.aG y c e',IR y c e',λb hb=>(f2 b hb).2.2.2.2.1 y c e'⟩
 have pJ:∀y c,(Qw X.env.cells scope.names []).lookup y=some c->c<s3.heap.objs.size:=λy c e=>let ⟨⟨v,o,ho,_⟩,_⟩:=dM y c e;NE c o ho;have FS:∀b∈D::fp,b<s3.heap.objs.size:=λb hb=>by
  rcases List.mem_cons.mp hb with rfl|hb
  ·exact sK
  ·exact bY b hb
 have ic:(QH X (NB++FR) scope s3 H2 (D::fp)).Ok:=by
  refine⟨I3.ok.mod,S.kind,I3.ok.glob,I3.ok.blt,ng _,λy z c h1 h2=>?_,λy hy=>?_,(λy c z _=>nomatch z),I3.ok.hd,I3.ok.frames,.inl rfl,λb hb=>⟨Nat.ne_of_lt (FS b hb),λy c e z=>?_⟩,I3.bs,Nat.le_trans I3.ok.dR I3.sz,ia,dg,I3.stack,I3.Zy⟩
  ·exact I3.ok.inj y z c (dL y c h1) (dL z c h2)
  ·exact Jy scope.names [] (.inr (Xn S.bE hy))
  ·obtain⟨_,_,n1,n2⟩:=dM y c e;rcases List.mem_cons.mp hb with q|q
   ·exact n1 (z.trans q)
   ·exact n2 b q z
 have u8:(List.replicate NB.length (none:Option V)++fv.map some).length=(NB++FR).length:=by
  have h1:=congrArg List.length Re;have h2:=congrArg List.length cN;simp only[m7]at h1 h2;rw[m5,m5,nG,m7];lia
 have rep:∀(j:Nat)(v:V),(List.replicate NB.length (none:Option V)++fv.map some)[j]? =some (some v)->∃k,j=NB.length+k/\fv[k]? =some v:=λj v z=>by
  rw[List.getElem?_append]at z
  split at z
  ·rw[List.getElem?_replicate]at z
   split at z<;>cases z
  ·rename_i hj;rw[nG]at hj z;refine⟨j-NB.length,by lia,?_⟩;rw[nE]at z;cases e:fv[j-NB.length]? with
   |none=>rw[e]at z;cases z
   |some y=>rw[e]at z;exact congrArg some (nh (nh z))
 have cO:∀(k:Nat)(v:V)(y:Str),fv[k]? =some v->FR[k]? =some y->∃i,X.N[i]? =some y/\σ[i]? =some (some v):=λk v y h1 h2=>by
  have a1:=congrArg (λl=>l[k]?) Re;have a2:=congrArg (λl=>l[k]?) cN;simp only[nE,h1,h2]at a1 a2;cases e:fi[k]? with
  |none=>rw[e]at a1;cases a1
  |some i=>
   rw[e]at a1 a2;exact⟨i,nh a2,nh a1⟩
 have IB:Inv (QH X (NB++FR) scope s3 H2 (D::fp)) [(D,Q5 [])] (List.replicate NB.length none++fv.map some) H2 {s3 with heap:=h4,toks:=dI}:=by
  refine⟨ic,ae,I3.bare,Un.kept ut,⟨_,x4.ns,λi y v h1 h2 h3=>?_⟩,λy c h=>let ⟨⟨v,o,ho,hd⟩,_⟩:=dM y c h;⟨v,o,ut _ _ ho,hd⟩,I3.aj.fresh (ng _),λy c h=>(dM y c h).2.1,λp hp=>?_,I3.aj.kept ut,u8⟩
  ·obtain⟨k,rfl,hk⟩:=rep i v h2;have hy:FR[k]? =some y:=by
    have h1:(NB++FR)[NB.length+k]? =some y:=h1;rw[List.getElem?_append_right (Nat.le_add_right _ _),Nat.add_sub_cancel_left]at h1;exact h1
   obtain⟨io,hN,hσ⟩:=cO k v y hk hy;have s0:(y,NameKind.free)∈scope.names:=S.fr y (nF hy);obtain⟨m,_,hl⟩:=I3.loc;obtain⟨u,r,l⟩:=hl io y v hN hσ (.inr (.inl (cx _ s0 ae)));refine⟨u,r,.inr ⟨.inl ?_,?_⟩⟩
   ·exact Xm S.r9 s0 (by show(X.env.scope.kind==.function)=true;rw[I3.ok.kind];rfl) (cx _ s0 ae)
   ·obtain⟨c,di⟩:=Jy (cells:=X.env.cells) (x:=y) scope.names [] (.inr s0);refine⟨c,di,?_⟩;have Fa:=dL y c di;rcases l with⟨hk,_⟩|⟨_,c',Is,o,ho,hd⟩
    ·have e1:=cx _ s0 rfl;rw[show X.env.kindOf y=X.env.scope.names.lookup y from rfl]at hk;rw[hk]at e1;cases e1
    ·rw[Fa]at Is;cases Is;exact⟨o,ut _ _ ho,hd⟩
  obtain rfl:p=(D,Q5 []):=by simpa using hp
  exact⟨ut _ _ Fr,c9,Nat.ne_of_lt sK,P3,λv z=>nomatch z⟩
 have Xr:∀{H':Hp}{ys:List Value},(∀b∈fp,H' b=none)->∀b∈fp,VP (QH X (NB++FR) scope s3 H2 (D::fp)) [(D,Q5 ys)] H' b:=λhn b hb=>
  ⟨hn b hb,Nat.ne_of_lt (bY b hb),dg b (nz _ hb),.inl (nz _ hb),λy c e z=>(dM y c e).2.2.2 b hb z,λp hp=>by
    obtain rfl:p=(D,_):=by simpa using hp
    exact(BT b hb).symm⟩
 have bN:tn 0 h4:=T.keep _ _ _ bT λb _ o e=>ut b o e;have dJ:∀b∈fp,H2 b=none:=λb hb=>(f2 b hb).1;have Do:(QH X (NB++FR) scope s3 H2 (D::fp)).calm=true:=hc;have loop:codeAny (model X.prog X.w) X.A (.compLoop (.ListComp elt [⟨tg,iter,ifs,0⟩] scope pos) 0 (.ref it) (.ref D) (V2 scope X.env s3.heap.objs.size))
   (compPost (model X.prog X.w) X.A X.xe none (EP X pins σ Q) (.ref D) s3.heap.objs.size) {s3 with heap:=h4,toks:=dI}:=by
  refine J5 (λn s'=>∃i vs ys H',Inv (QH X (NB++FR) scope s3 H2 (D::fp)) [(D,Q5 ys)] (List.replicate NB.length none++fv.map some) H' s'/\Vals vs ys/\vs.length<=sizeLine/\tn i s'.heap/\(∀b∈fp,H' b=none)/\W i n vs H') ?_ m0 ⟨0,[],[],H2,IB,.nil,nR _,bN,dJ,w0⟩;rintro n s5 ⟨i,vs,ys,H5,I5,rv,Ch,No,ST,w5⟩;rcases turn i n vs H5 w5 with⟨stop,qn⟩|⟨go,bi,N,hN,step⟩
  ·refine wpAny_mono (T.done (QH X (NB++FR) scope s3 H2 (D::fp)) ae ae ae Do i _ s5 _ H5 (λ_ _=>False) I5 (Xr ST) No stop) (λr s6⟨hr,I6⟩=>?_) (λ_ _ z=>z.elim);subst hr;obtain⟨m6,ie,_⟩:=id I6.loc;refine⟨m6,ie,λh7 r6=>?_⟩;have bZ:∀b o,b≠s3.heap.objs.size->s6.heap.get? b=some o->h7.get? b=some o:=λb o hb e=>(r6.2 b hb).trans e;have dU:H5 s3.heap.objs.size=none:=I6.free;have ig:Un (bc X.stack) (D::fp) H2 H5 s3.heap h7:=by
    have u:=I6.base;refine⟨λb o e n hb hx=>bZ b o (Nat.ne_of_lt (Heap.lt_size e)) (u.keep b o e n hb hx),λb o e n hb hx=>?_,u.free,λb o e hx=>?_,u.Jr,u.ba,u.bb⟩
    ·obtain⟨sl,q⟩:=u.slot b o e n hb hx;exact⟨sl,bZ b _ (Nat.ne_of_lt (Heap.lt_size e)) q⟩
    ·obtain⟨o',q⟩:=u.there b o e hx;exact⟨o',bZ b _ (Nat.ne_of_lt (Heap.lt_size e)) q⟩
   have eP:aS X.prog X.w H5 h7:=λb u e=>(I6.aj b u e).Uz (λc w' bS q=>bZ c w' (by
    rintro rfl;rcases bS with rfl|bS
    ·rw[dU]at e;cases e
    ·rw[dU]at bS;cases bS) q) (λ_ q=>q) λ_ _ q=>q
   have I7:Inv X pins σ H5 {s6 with heap:=h7}:=I3.UA (s':={s6 with heap:=h7}) I6.os ig eP I6.bare λb hb=>by
    rcases List.mem_cons.mp hb with rfl|hb
    ·exact⟨.inr f8,SZ,IR,Tk⟩
    ·obtain⟨_,f1,_,f3,f4,f5⟩:=f2 b hb;exact⟨f3,f1,f4,f5⟩
   obtain⟨eD,nD,_⟩:=I6.pin (D,Q5 ys) (by simp);have dh:H5 D=none:=nD;have ij:h7.get? D=some (Q5 ys):=bZ D _ (Nat.ne_of_lt sK) eD;have ik:X.s₀.heap.get? D=none:=by
    cases q:X.s₀.heap.get? D with
    |none=>rfl
    |some o=>exact absurd (Nat.lt_of_lt_of_le (Heap.lt_size q) f8) (nU _)
   exact⟨.ref D,upd H5 D (.lst vs),I7.VY dh ik SZ IR Tk ⟨Ch,ys,ys.length,rv,ij⟩,ae,qn D dh⟩
  ·refine wpAny_mono (T.item (QH X (NB++FR) scope s3 H2 (D::fp)) ae ae ae Do i _ s5 _ H5 (λ_ _=>False) I5 (Xr ST) No go) (λr s6⟨u,hr,h6⟩=>?_) (λ_ _ z=>z.elim);subst hr;refine wpAny_mono h6 (λ_ s7⟨x,H7,I7,r7,y7,Gc,eQ⟩=>?_) (λ_ _ z=>z.elim);have eT:=I7.pinned (Xr eQ) (T.obj _ _ Gc);refine wpAny_mono (hg s3 H2 (D::fp) _ s7 _ H7 x u _ eT r7 (step x H7 y7)) (λ_ s8⟨σ8,H8,I8,sd,q8⟩=>?_) (λ_ _ z=>z.elim);refine wpAny_mono (ht s3 H2 (D::fp) _ s8 σ8 H8 _ I8 q8) (λok s9⟨H9,I9,q9⟩=>?_) (λ_ _ z=>z.elim);have cp:∀{σ':St}{H':Hp}{s':Shared},Inv (QH X (NB++FR) scope s3 H2 (D::fp)) ([(D,Q5 ys)]++Ju fp s7.heap) σ' H' s'->tn (i+1) s'.heap/\∀b∈fp,H' b=none:=λJ=>
    ⟨T.keep _ _ _ Gc λb hb o e=>(J.pin (b,o) (nu _ (nu _ (Qp hb e)))).1,λb hb=>by
     obtain⟨o,e,d⟩:=T.obj _ _ Gc b hb;exact(J.pin (b,o) (nu _ (nu _ (Qp hb e)))).2.1⟩
   have wk:∀{H':Hp}{s':Shared}{pl:List (Addr × Obj)},Inv (QH X (NB++FR) scope s3 H2 (D::fp)) pl σ8 H' s'->Inv (QH X (NB++FR) scope s3 H2 (D::fp)) pl (List.replicate NB.length none++fv.map some) H' s':=λJ=>
    J.weak (u8.trans J.len.symm) λj v z=>by
     obtain⟨k,rfl,hk⟩:=rep j v z;have:=congrArg (λl=>l[k]?) sd;simp only[List.getElem?_drop,nE,hk]at this;exact this
   cases ok with
   |false=>
    rw[if_neg (by decide)]at q9;rw[if_neg (by decide)];obtain⟨m',hm,w9⟩:=hN vs H9 q9;obtain⟨t9,f9⟩:=cp I9;exact⟨m',hm,i+1,vs,ys,H9,wk I9.QL,rv,Ch,t9,f9,w9⟩
   |true=>
    rw[if_pos rfl]at q9;rw[if_pos rfl];refine wpAny_mono (he s3 H2 (D::fp) _ s9 σ8 H9 _ I9 q9) (λy LE⟨v,pi,Tl,Tm,il⟩=>?_) (λ_ _ z=>z.elim);obtain⟨eD,nD,_,nf,_⟩:=Tl.pin (D,Q5 ys) (by simp);have ip:=rv.length;refine append_at (hsz:=by show ys.toArray.size<=sizeLine;rw[nQ, ←ip];exact Ch) eD λcq Ty TD=>?_;obtain⟨m',hm,eU⟩:=hN (vs++[v]) pi il;obtain⟨dW,eV⟩:=cp Tl;have cK:=Tl.QL;have cM:∀b o,b≠D->LE.heap.get? b=some o->cq.get? b=some o:=λb o hb e=>(Ty.2 b hb).trans e;have IE:Inv (QH X (NB++FR) scope s3 H2 (D::fp)) [] σ8 pi LE:=cK.Q4 λp hp=>nomatch hp;have cu:Inv (QH X (NB++FR) scope s3 H2 (D::fp)) [] σ8 pi {LE with heap:=cq}:=IE.turned (t':=LE.toks) cM nD (Nat.ne_of_lt sK) (.inl nA) (λy' c e z=>(dM y' c e).2.2.1 z) (λp hp=>absurd (show p∈([]:List (Addr × Obj))from hp) (by simp));have eL:({cls:=.type "list",data:=.seq (ys.toArray.push y) (ys.length+1)}:Obj)=Q5 (ys++[y]):=by
     show({cls:=.type "list",data:=.seq (ys.toArray.push y) (ys.length+1)}:Obj)={cls:=.type "list",data:=.seq (ys++[y]).toArray (ys++[y]).length};rw[m5,ni,List.push_toArray]
    refine⟨m',hm,i+1,vs++[v],ys++[y],pi,wk (cu.Q4 λp hp=>?_),rv.append (.cons Tm .nil),by rw[m5,ni];exact bi,T.keep _ _ _ dW λb hb o e=>cM b o (BT b hb) e,eV,eU⟩;obtain rfl:p=(D,Q5 (ys++[y])):=by simpa using hp
    exact⟨by rw[←eL];exact TD,nD,Nat.ne_of_lt sK,nf,λv z=>nomatch z⟩
 exact codeAny_compStart_list loop (T.self _ 0 _ _ _ bN loop)
end
section
variable {X:Cx}{pins:List (Addr × Obj)}{σ:List (Option V)}{H:Hp}{s:Shared}{h':Heap}
theorem Inv.V3{t':Nat}{ch:List Addr}(I:Inv X pins σ H s)(hf:∀b∈ch,VP X pins H b) (k:∀b o,b∉ch->s.heap.get? b=some o->h'.get? b=some o):Inv X pins σ H {s with heap:=h',toks:=t'}:=by
 have eA:∀b u,H b=some u->b∉ch:=λb u e z=>by rw[(hf b z).1]at e;cases e
 refine I.step (g':=s.gens) (d':=s.drawn) (ch:=ch) (λb hb=>?_) (λb o _ _ hc e _=>k b o hc e) (λb o _ _ hc e _=>⟨o.slots,k b o hc e⟩) (λ_ _ _ _ n=>n) (λb o hc e=>⟨o,k b o hc e⟩) (λ_ _ e=>e) (λ_ _ _ e=>e) (λb ps e=>⟨#[],by rw[e];simp⟩) (λm hm=>?_) (λb u e=>?_) I.bare
 ·obtain⟨_,f1,_,f3,f4,f5⟩:=hf b hb;exact⟨f3,f1,f4,f5⟩
 ·obtain⟨o,es,ep,ho,r⟩:=hm;exact⟨o,es,ep,k _ o (λz=>(hf _ z).2.1 ae) ho,r⟩
 ·refine(I.aj b u e).Uz (λc v hc q=>k c v ?_ q) (λ_ q=>q) λ_ _ q=>q;rcases hc with z|z
  ·rw[z];exact eA b u e
  ·exact eA c _ z
theorem Inv.V4{t':Nat}{ch:List Addr}{T:Addr}{xs:List V}(I:Inv X pins σ H s)(hf:∀b∈ch,VP X pins H b) (k:∀b o,b∉ch->s.heap.get? b=some o->h'.get? b=some o) (hT:s.heap.objs.size<=T)
  (new:QY X.prog X.w (upd H T (.tup xs)) h' T (.tup xs)):Inv X pins σ (upd H T (.tup xs)) {s with heap:=h',toks:=t'}:=by
 have hn:=I.aj.fresh hT;have eA:∀b u,H b=some u->b∉ch:=λb u e z=>by rw[(hf b z).1]at e;cases e
 have nT:∀b o,H b=some o->upd H T (.tup xs) b=some o:=λb o e=>by rw[Qh (Qn e hn)];exact e
 refine I.step (g':=s.gens) (d':=s.drawn) (ch:=ch) (λb hb=>?_) (λb o _ _ hc e _=>k b o hc e) (λb o _ _ hc e _=>⟨o.slots,k b o hc e⟩) (λb o _ e n=>?_) (λb o hc e=>⟨o,k b o hc e⟩) (λb ys e=>nT b _ e) (λb o u e=>nT b _ e) (λb ps e=>⟨#[],by rw[nT b _ e];simp⟩) (λm hm=>?_) (λb u e=>?_) I.bare
 ·obtain⟨_,f1,_,f3,f4,f5⟩:=hf b hb;exact⟨f3,f1,f4,f5⟩
 ·rw[Qh (λz=>absurd (Heap.lt_size e) (by rw[z];exact Nat.not_lt.mpr hT))];exact n
 ·obtain⟨o,es,ep,ho,r⟩:=hm;exact⟨o,es,ep,k _ o (λz=>(hf _ z).2.1 ae) ho,r⟩
 ·by_cases hb:b=T
  ·subst hb;rw[Qb]at e;cases e;exact new
  ·rw[Qh hb]at e;refine(I.aj b u e).Uz (λc v hc q=>k c v ?_ q) (λc q=>nT c _ q) λc ys q=>nT c _ q;rcases hc with z|z
   ·rw[z];exact eA b u e
   ·exact eA c _ z
end
noncomputable abbrev dX(z TI TO i1 i2:Addr):Prop:=ZipApart z TI TO i1 i2 TI TI
inductive Dv where
 |ah|bl (b:Bool)|int (i:Int)|str (x:Str)|tup (ds:List Dv)
mutual
noncomputable def Dv.depth:Dv->Nat
 | .tup ds=>Dv.Qs ds+1
 |_=>0
noncomputable def Dv.Qs:List Dv->Nat
 |[]=>0
 |d::ds=>max (Dv.depth d) (Dv.Qs ds)
end
mutual
noncomputable def Dv.aC:Dv->Dv->Bool
 | .ah,.ah=>true
 | .bl a,.bl b=>a==b
 | .bl a,.int b=>(if a then 1 else 0)==b
 | .int a,.bl b=>a==(if b then 1 else 0)
 | .int a,.int b=>a==b
 | .str a,.str b=>a==b
 | .tup xs,.tup ys=>Dv.VI xs ys
 |_,_=>false
noncomputable def Dv.VI:List Dv->List Dv->Bool
 |[],[]=>true
 |x::xs,y::ys=>Dv.aC x y&&Dv.VI xs ys
 |_,_=>false
end
mutual
inductive ag (H:Hp):V->Dv->Prop where
 |ah:ag H .ah .ah
 |bl {b:Bool}:ag H (.bl b) (.bl b)
 |int {i:Int}:ag H (.int i) (.int i)
 |str {x:Str}:ag H (.str x) (.str x)
 |tup {a:Addr} {xs:List V} {ds:List Dv} (h:H a=some (.tup xs)) (t:af H xs ds):ag H (.ref a) (.tup ds)
inductive af (H:Hp):List V->List Dv->Prop where
 |nil:af H [] []
 |cons {x:V} {d:Dv} {xs:List V} {ds:List Dv} (h:ag H x d) (t:af H xs ds):af H (x::xs) (d::ds)
end
theorem af.length{H:Hp}:∀{xs:List V}{ds:List Dv},af H xs ds->xs.length=ds.length
 |_,_,.nil=>rfl
 |_,_,.cons _ t=>congrArg (· +1) t.length
theorem af.get{H:Hp}:∀{xs:List V}{ds:List Dv}{i:Nat}{d:Dv},af H xs ds->ds[i]? =some d->∃x,xs[i]? =some x/\ag H x d
 |_,_,_,_,.nil,e=>by simp at e
 |_,_,0,_,.cons h _,e=>by
  simp at e;subst e;exact⟨_,ae,h⟩
 |_,_,i+1,d,.cons _ t,e=>by
  obtain⟨x,h1,h2⟩:=af.get (i:=i) (d:=d) t (by simpa using e);exact⟨x,by simpa using h1,h2⟩
theorem af.J7{H:Hp}:∀{xs:List V}{ds:List Dv}{i:Nat}{x:V},af H xs ds->xs[i]? =some x->∃d,ds[i]? =some d/\ag H x d
 |_,_,_,_,.nil,e=>by simp at e
 |_,_,0,_,.cons h _,e=>by
  simp at e;subst e;exact⟨_,ae,h⟩
 |_,_,i+1,x,.cons _ t,e=>by
  obtain⟨d,h1,h2⟩:=af.J7 (i:=i) (x:=x) t (by simpa using e);exact⟨d,by simpa using h1,h2⟩
theorem af.append{H:Hp}:∀{xs ys:List V}{ds es:List Dv},af H xs ds->af H ys es->af H (xs++ys) (ds++es)
 |_,_,_,_,.nil,q=>q
 |_,_,_,_,.cons h t,q=>.cons h (af.append t q)
theorem af.take{H:Hp}:∀{xs:List V}{ds:List Dv}(n:Nat),af H xs ds->af H (xs.take n) (ds.take n)
 |_,_,0,_=>.nil
 |_,_,_+1,.nil=>.nil
 |_,_,n+1,.cons h t=>.cons h (af.take n t)
theorem af.drop{H:Hp}:∀{xs:List V}{ds:List Dv}(n:Nat),af H xs ds->af H (xs.drop n) (ds.drop n)
 |_,_,0,t=>t
 |_,_,_+1,.nil=>.nil
 |_,_,n+1,.cons _ t=>af.drop n t
mutual
theorem ag.keep{H H':Hp}(k:∀b ys,H b=some (.tup ys)->H' b=some (.tup ys)):∀{x:V}{d:Dv},ag H x d->ag H' x d
 |_,_,.ah=>.ah
 |_,_,.bl=>.bl
 |_,_,.int=>.int
 |_,_,.str=>.str
 |_,_,.tup h t=>.tup (k _ _ h) (af.keep k t)
theorem af.keep{H H':Hp}(k:∀b ys,H b=some (.tup ys)->H' b=some (.tup ys)):∀{xs:List V}{ds:List Dv},af H xs ds->af H' xs ds
 |_,_,.nil=>.nil
 |_,_,.cons h t=>.cons (ag.keep k h) (af.keep k t)
end
theorem ag.same{H H':Hp}{x:V}{d:Dv}(h:ag H x d)(S:Qi H H'):ag H' x d:=h.keep (λb ys e=>S _ _ e)
theorem af.same{H H':Hp}{xs:List V}{ds:List Dv}(h:af H xs ds)(S:Qi H H'):af H' xs ds:=h.keep (λb ys e=>S _ _ e)
section
variable {X:Cx}{pins:List (Addr × Obj)}{σ:St}{H:Hp}{s:Shared}
mutual
theorem ag.inj(I:Inv X pins σ H s):∀{x:V}{d e:Dv},ag H x d->ag H x e->d=e
 |_,_,_,.ah,.ah=>rfl
 |_,_,_,.bl,.bl=>rfl
 |_,_,_,.int,.int=>rfl
 |_,_,_,.str,.str=>rfl
 |_,_,_,.tup h t,.tup h2 t2=>by
  have e:=I.WH (.inl (.inl h)) (.inl (.inl h2));subst e;rw[af.inj I t t2]
theorem af.inj(I:Inv X pins σ H s):∀{xs:List V}{ds es:List Dv},af H xs ds->af H xs es->ds=es
 |_,_,_,.nil,.nil=>rfl
 |_,_,_,.cons h t,.cons h2 t2=>by rw[ag.inj I h h2,af.inj I t t2]
end
end
mutual
theorem Dv.ZN:∀d:Dv,d.aC d=true
 | .ah=>rfl
 | .bl b=>by cases b<;>rfl
 | .int i=>by unfold Dv.aC;exact beq_self_eq_true i
 | .str x=>by unfold Dv.aC;exact beq_self_eq_true x
 | .tup ds=>by unfold Dv.aC;exact Dv.J8 ds
theorem Dv.J8:∀ds:List Dv,Dv.VI ds ds=true
 |[]=>rfl
 |d::ds=>by unfold Dv.VI;rw[Dv.ZN d,Dv.J8 ds];rfl
end
theorem Dv.Jj:∀(ds es:List Dv),Dv.VI ds es=((List.range (min ds.length es.length)).all (λj=>((ds[j]?).getD .ah).aC ((es[j]?).getD .ah))&&ds.length==es.length)
 |[],[]=>rfl
 |[],e::es=>rfl
 |d::ds,[]=>rfl
 |d::ds,e::es=>by
  unfold Dv.VI;rw[Dv.Jj ds es,nj,nj,show min (ds.length+1) (es.length+1)=min ds.length es.length+1 by lia,List.range_succ_eq_map,List.all_cons,List.all_map,Bool.and_assoc]
  congr 1
  congr 1
  exact Bool.eq_iff_iff.mpr (by simp)
theorem Dv.Q3:∀{ds:List Dv}{i:Nat}{d:Dv},ds[i]? =some d->d.depth<=Dv.Qs ds
 |[],_,_,e=>by simp at e
 |x::xs,0,d,e=>by
  simp at e;subst e;unfold Dv.Qs;lia
 |x::xs,i+1,d,e=>by
  have:=Dv.Q3 (ds:=xs) (i:=i) (d:=d) (by simpa using e);unfold Dv.Qs;lia
section
variable {X:Cx}{pins:List (Addr × Obj)}{σ:St}{H:Hp}{s:Shared}
theorem ag.FC(I:Inv X pins σ H s){N:Nat}{x y:V}{d e:Dv}(hd:d.depth<=N)(hx:ag H x d)(hy:ag H y e){A:Around}{u v:Value}(hu:A.units+N<cLine)(rx:RelV x u)(ry:RelV y v)
  (ih:∀n,N=n+1->∀(d e:Dv)(x y:V),d.depth<=n->ag H x d->ag H y e->∀{A:Around}{u v:Value},A.units+n<cLine->RelV x u->RelV y v->SeqAt.EqAt A s u v (d.aC e)):SeqAt.EqAt A s u v (d.aC e):=by
 cases hx with
 |ah=>
  cases rx;cases hy with
  |ah=>
   cases ry;exact .same _
  |@bl b2=>
   cases ry;exact SeqAt.EqAt.none_bool b2
  |@int i2=>
   obtain⟨ty,rfl⟩:=ry;exact SeqAt.EqAt.none_int i2 ty
  |@str z2=>
   obtain⟨ty,rfl⟩:=ry;exact SeqAt.EqAt.none_str z2 ty
  |@tup a2 ys es h2 t2=>
   obtain rfl:v=Value.ref a2:=ry;obtain⟨bn,r2,p2,_⟩:=I.tuple (.inl (.inl h2));exact SeqAt.EqAt.none_tuple p2 (by lia)
 |@bl b=>
  cases rx;cases hy with
  |ah=>
   cases ry;exact SeqAt.EqAt.bool_none b
  |@bl b2=>
   cases ry;exact SeqAt.EqAt.bool_bool b b2
  |@int i2=>
   obtain⟨ty,rfl⟩:=ry;exact SeqAt.EqAt.bool_int b i2 ty
  |@str z2=>
   obtain⟨ty,rfl⟩:=ry;exact SeqAt.EqAt.bool_str b z2 ty
  |@tup a2 ys es h2 t2=>
   obtain rfl:v=Value.ref a2:=ry;obtain⟨bn,r2,p2,_⟩:=I.tuple (.inl (.inl h2));exact SeqAt.EqAt.bool_tuple b p2 (by lia)
 |@int i=>
  obtain⟨tx,rfl⟩:=rx;cases hy with
  |ah=>
   cases ry;exact SeqAt.EqAt.int_none i tx
  |@bl b2=>
   cases ry;exact SeqAt.EqAt.int_bool i tx b2
  |@int i2=>
   obtain⟨ty,rfl⟩:=ry;exact SeqAt.EqAt.int_int i tx i2 ty
  |@str z2=>
   obtain⟨ty,rfl⟩:=ry;exact SeqAt.EqAt.int_str i tx z2 ty
  |@tup a2 ys es h2 t2=>
   obtain rfl:v=Value.ref a2:=ry;obtain⟨bn,r2,p2,_⟩:=I.tuple (.inl (.inl h2));exact SeqAt.EqAt.int_tuple i tx p2 (by lia)
 |@str z=>
  obtain⟨tx,rfl⟩:=rx;cases hy with
  |ah=>
   cases ry;exact SeqAt.EqAt.str_none z tx
  |@bl b2=>
   cases ry;exact SeqAt.EqAt.str_bool z tx b2
  |@int i2=>
   obtain⟨ty,rfl⟩:=ry;exact SeqAt.EqAt.str_int z tx i2 ty
  |@str z2=>
   obtain⟨ty,rfl⟩:=ry;exact SeqAt.EqAt.str_str z tx z2 ty
  |@tup a2 ys es h2 t2=>
   obtain rfl:v=Value.ref a2:=ry;obtain⟨bn,r2,p2,_⟩:=I.tuple (.inl (.inl h2));exact SeqAt.EqAt.str_tuple z tx p2 (by lia)
 |@tup a xs ds h t=>
  obtain rfl:u=Value.ref a:=rx;obtain⟨ad,r1,p1,_⟩:=I.tuple (.inl (.inl h));cases hy with
  |ah=>
   cases ry;exact SeqAt.EqAt.tuple_none p1 (by lia)
  |@bl b2=>
   cases ry;exact SeqAt.EqAt.tuple_bool b2 p1 (by lia)
  |@int i2=>
   obtain⟨ty,rfl⟩:=ry;exact SeqAt.EqAt.tuple_int i2 ty p1 (by lia)
  |@str z2=>
   obtain⟨ty,rfl⟩:=ry;exact SeqAt.EqAt.tuple_str z2 ty p1 (by lia)
  |@tup a2 ys es h2 t2=>
   obtain rfl:v=Value.ref a2:=ry;obtain⟨bn,r2,p2,_⟩:=I.tuple (.inl (.inl h2));obtain⟨n,rfl⟩:∃n,N=n+1:=⟨N-1,by have:=hd;unfold Dv.depth at this;lia⟩;have bO:=t.length;have AC:=t2.length;have q1:=r1.length;have q2:=r2.length;have z:=SeqAt.RcAt.tuples (A:=A) (s:=s) (e:=λj=>((ds[j]?).getD .ah).aC ((es[j]?).getD .ah)) p1 p2 (by lia) (Jn (pins:=pins) (σ:=σ) (H:=H) (n:=n) r1 r2 λj x y u v g1 g2 w1 w2=>?_)
   ·rw[nQ,nQ, ←q1, ←q2,bO,AC, ←Dv.Jj]at z
    by_cases ne:a=a2
    ·subst ne;rw[ag.inj I (.tup h t) (.tup h2 t2),Dv.ZN];exact .same _
    ·unfold Dv.aC;exact .of_refs ne z
   ·obtain⟨d1,k1,k2⟩:=t.J7 g1;obtain⟨e1,m1,m2⟩:=t2.J7 g2;show SeqAt.EqAt A.in1 s u v (((ds[j]?).getD .ah).aC ((es[j]?).getD .ah));rw[k1,m1];exact ih n rfl d1 e1 x y (Nat.le_trans (Dv.Q3 k1) (by have:=hd;unfold Dv.depth at this;lia)) k2 m2 (by show A.units+1+n<cLine;lia) w1 w2
theorem ag.at(I:Inv X pins σ H s):∀(n:Nat)(d e:Dv)(x y:V),d.depth<=n->ag H x d->ag H y e->∀{A:Around}{u v:Value},A.units+n<cLine->RelV x u->RelV y v->SeqAt.EqAt A s u v (d.aC e):=by
 intro n
 induction n with
 |zero=>
  intro d e x y hd hx hy A u v hu rx ry;exact ag.FC I hd hx hy hu rx ry λn hn=>absurd hn (by lia)
 |succ n ih=>
  intro d e x y hd hx hy A u v hu rx ry;refine ag.FC I hd hx hy hu rx ry λm hm=>?_;obtain rfl:n=m:=by lia
  exact ih
theorem ag.rc(I:Inv X pins σ H s){n:Nat}{x y:V}{d e:Dv}(hd:d.depth<=n)(hx:ag H x d)(hy:ag H y e){u v:Value}(hu:X.A.units+n<cLine)(rx:RelV x u)(ry:RelV y v):SeqAt.RcAt X.A s u v (d.aC e):=by
 cases hx with
 |ah=>
  cases rx;cases hy with
  |ah=>
   cases ry;exact SeqAt.RcAt.none_none
  |@bl b2=>
   cases ry;exact SeqAt.RcAt.none_bool b2
  |@int i2=>
   obtain⟨ty,rfl⟩:=ry;exact SeqAt.RcAt.none_int i2 ty
  |@str z2=>
   obtain⟨ty,rfl⟩:=ry;exact SeqAt.RcAt.none_str z2 ty
  |@tup a2 ys es h2 t2=>
   obtain rfl:v=Value.ref a2:=ry;obtain⟨bn,r2,p2,_⟩:=I.tuple (.inl (.inl h2));exact SeqAt.RcAt.none_tuple p2 (by lia)
 |@bl b=>
  cases rx;cases hy with
  |ah=>
   cases ry;exact SeqAt.RcAt.bool_none b
  |@bl b2=>
   cases ry;exact SeqAt.RcAt.bool_bool b b2
  |@int i2=>
   obtain⟨ty,rfl⟩:=ry;exact SeqAt.RcAt.bool_int b i2 ty
  |@str z2=>
   obtain⟨ty,rfl⟩:=ry;exact SeqAt.RcAt.bool_str b z2 ty
  |@tup a2 ys es h2 t2=>
   obtain rfl:v=Value.ref a2:=ry;obtain⟨bn,r2,p2,_⟩:=I.tuple (.inl (.inl h2));exact SeqAt.RcAt.bool_tuple b p2 (by lia)
 |@int i=>
  obtain⟨tx,rfl⟩:=rx;cases hy with
  |ah=>
   cases ry;exact SeqAt.RcAt.int_none i tx
  |@bl b2=>
   cases ry;exact SeqAt.RcAt.int_bool i tx b2
  |@int i2=>
   obtain⟨ty,rfl⟩:=ry;exact SeqAt.RcAt.int_int i tx i2 ty
  |@str z2=>
   obtain⟨ty,rfl⟩:=ry;exact SeqAt.RcAt.int_str i tx z2 ty
  |@tup a2 ys es h2 t2=>
   obtain rfl:v=Value.ref a2:=ry;obtain⟨bn,r2,p2,_⟩:=I.tuple (.inl (.inl h2));exact SeqAt.RcAt.int_tuple i tx p2 (by lia)
 |@str z=>
  obtain⟨tx,rfl⟩:=rx;cases hy with
  |ah=>
   cases ry;exact SeqAt.RcAt.str_none z tx
  |@bl b2=>
   cases ry;exact SeqAt.RcAt.str_bool z tx b2
  |@int i2=>
   obtain⟨ty,rfl⟩:=ry;exact SeqAt.RcAt.str_int z tx i2 ty
  |@str z2=>
   obtain⟨ty,rfl⟩:=ry;exact SeqAt.RcAt.str_str z tx z2 ty
  |@tup a2 ys es h2 t2=>
   obtain rfl:v=Value.ref a2:=ry;obtain⟨bn,r2,p2,_⟩:=I.tuple (.inl (.inl h2));exact SeqAt.RcAt.str_tuple z tx p2 (by lia)
 |@tup a xs ds h t=>
  obtain rfl:u=Value.ref a:=rx;obtain⟨ad,r1,p1,_⟩:=I.tuple (.inl (.inl h));cases hy with
  |ah=>
   cases ry;exact SeqAt.RcAt.tuple_none p1 (by lia)
  |@bl b2=>
   cases ry;exact SeqAt.RcAt.tuple_bool b2 p1 (by lia)
  |@int i2=>
   obtain⟨ty,rfl⟩:=ry;exact SeqAt.RcAt.tuple_int i2 ty p1 (by lia)
  |@str z2=>
   obtain⟨ty,rfl⟩:=ry;exact SeqAt.RcAt.tuple_str z2 ty p1 (by lia)
  |@tup a2 ys es h2 t2=>
   obtain rfl:v=Value.ref a2:=ry;obtain⟨bn,r2,p2,_⟩:=I.tuple (.inl (.inl h2));have bO:=t.length;have AC:=t2.length;have q1:=r1.length;have q2:=r2.length;have dE:Dv.Qs ds+1<=n:=by have:=hd;unfold Dv.depth at this;exact this
   have z:=SeqAt.RcAt.tuples (A:=X.A) (s:=s) (e:=λj=>((ds[j]?).getD .ah).aC ((es[j]?).getD .ah)) p1 p2 (by lia) (Jn (pins:=pins) (σ:=σ) (H:=H) (n:=n) r1 r2 λj x y u v g1 g2 w1 w2=>?_)
   ·rw[nQ,nQ, ←q1, ←q2,bO,AC, ←Dv.Jj]at z;unfold Dv.aC;exact z
   ·obtain⟨d1,k1,k2⟩:=t.J7 g1;obtain⟨e1,m1,m2⟩:=t2.J7 g2;show SeqAt.EqAt X.A.in1 s u v (((ds[j]?).getD .ah).aC ((es[j]?).getD .ah));rw[k1,m1];exact ag.at I (n-1) d1 e1 x y (Nat.le_trans (Dv.Q3 k1) (by lia)) k2 m2 (by show X.A.units+1+(n-1)<cLine;lia) w1 w2
theorem ag.Ln(I:Inv X pins σ H s){n:Nat}{x y:V}{d e:Dv}(hd:d.depth<=n)(hx:ag H x d)(hy:ag H y e){u v:Value}(hu:X.A.units+n<cLine)(rx:RelV x u)(ry:RelV y v):SeqAt.RcNeAt X.A s u v (!(d.aC e)):=by
 cases hx with
 |ah=>
  cases rx;cases hy with
  |ah=>
   cases ry;exact SeqAt.RcNeAt.none_none
  |@bl b2=>
   cases ry;exact SeqAt.RcNeAt.none_bool b2
  |@int i2=>
   obtain⟨ty,rfl⟩:=ry;exact SeqAt.RcNeAt.none_int i2 ty
  |@str z2=>
   obtain⟨ty,rfl⟩:=ry;exact SeqAt.RcNeAt.none_str z2 ty
  |@tup a2 ys es h2 t2=>
   obtain rfl:v=Value.ref a2:=ry;obtain⟨bn,r2,p2,_⟩:=I.tuple (.inl (.inl h2));exact SeqAt.RcNeAt.none_tuple p2 (by lia)
 |@bl b=>
  cases rx;cases hy with
  |ah=>
   cases ry;exact SeqAt.RcNeAt.bool_none b
  |@bl b2=>
   cases ry;exact SeqAt.RcNeAt.bool_bool b b2
  |@int i2=>
   obtain⟨ty,rfl⟩:=ry;exact SeqAt.RcNeAt.bool_int b i2 ty
  |@str z2=>
   obtain⟨ty,rfl⟩:=ry;exact SeqAt.RcNeAt.bool_str b z2 ty
  |@tup a2 ys es h2 t2=>
   obtain rfl:v=Value.ref a2:=ry;obtain⟨bn,r2,p2,_⟩:=I.tuple (.inl (.inl h2));exact SeqAt.RcNeAt.bool_tuple b p2 (by lia)
 |@int i=>
  obtain⟨tx,rfl⟩:=rx;cases hy with
  |ah=>
   cases ry;exact SeqAt.RcNeAt.int_none i tx
  |@bl b2=>
   cases ry;exact SeqAt.RcNeAt.int_bool i tx b2
  |@int i2=>
   obtain⟨ty,rfl⟩:=ry;exact SeqAt.RcNeAt.int_int i tx i2 ty
  |@str z2=>
   obtain⟨ty,rfl⟩:=ry;exact SeqAt.RcNeAt.int_str i tx z2 ty
  |@tup a2 ys es h2 t2=>
   obtain rfl:v=Value.ref a2:=ry;obtain⟨bn,r2,p2,_⟩:=I.tuple (.inl (.inl h2));exact SeqAt.RcNeAt.int_tuple i tx p2 (by lia)
 |@str z=>
  obtain⟨tx,rfl⟩:=rx;cases hy with
  |ah=>
   cases ry;exact SeqAt.RcNeAt.str_none z tx
  |@bl b2=>
   cases ry;exact SeqAt.RcNeAt.str_bool z tx b2
  |@int i2=>
   obtain⟨ty,rfl⟩:=ry;exact SeqAt.RcNeAt.str_int z tx i2 ty
  |@str z2=>
   obtain⟨ty,rfl⟩:=ry;exact SeqAt.RcNeAt.str_str z tx z2 ty
  |@tup a2 ys es h2 t2=>
   obtain rfl:v=Value.ref a2:=ry;obtain⟨bn,r2,p2,_⟩:=I.tuple (.inl (.inl h2));exact SeqAt.RcNeAt.str_tuple z tx p2 (by lia)
 |@tup a xs ds h t=>
  obtain rfl:u=Value.ref a:=rx;obtain⟨ad,r1,p1,_⟩:=I.tuple (.inl (.inl h));cases hy with
  |ah=>
   cases ry;exact SeqAt.RcNeAt.tuple_none p1 (by lia)
  |@bl b2=>
   cases ry;exact SeqAt.RcNeAt.tuple_bool b2 p1 (by lia)
  |@int i2=>
   obtain⟨ty,rfl⟩:=ry;exact SeqAt.RcNeAt.tuple_int i2 ty p1 (by lia)
  |@str z2=>
   obtain⟨ty,rfl⟩:=ry;exact SeqAt.RcNeAt.tuple_str z2 ty p1 (by lia)
  |@tup a2 ys es h2 t2=>
   obtain rfl:v=Value.ref a2:=ry;obtain⟨bn,r2,p2,_⟩:=I.tuple (.inl (.inl h2));have bO:=t.length;have AC:=t2.length;have q1:=r1.length;have q2:=r2.length;have dE:Dv.Qs ds+1<=n:=by have:=hd;unfold Dv.depth at this;exact this
   have z:=SeqAt.RcNeAt.tuples (A:=X.A) (s:=s) (e:=λj=>((ds[j]?).getD .ah).aC ((es[j]?).getD .ah)) p1 p2 (by lia) (Jn (pins:=pins) (σ:=σ) (H:=H) (n:=n) r1 r2 λj x y u v g1 g2 w1 w2=>?_)
   ·rw[nQ,nQ, ←q1, ←q2,bO,AC, ←Dv.Jj]at z;unfold Dv.aC;exact z
   ·obtain⟨d1,k1,k2⟩:=t.J7 g1;obtain⟨e1,m1,m2⟩:=t2.J7 g2;show SeqAt.EqAt X.A.in1 s u v (((ds[j]?).getD .ah).aC ((es[j]?).getD .ah));rw[k1,m1];exact ag.at I (n-1) d1 e1 x y (Nat.le_trans (Dv.Q3 k1) (by lia)) k2 m2 (by show X.A.units+1+(n-1)<cLine;lia) w1 w2
noncomputable def yd(n:Nat)(neg:Bool):R2:=λx y H Q=>∃d e,ag H x d/\ag H y e/\d.depth<=n/\Q (.bl (if neg then !(d.aC e)else d.aC e)) H
theorem wt{n:Nat}(hu:X.A.units+n<cLine):aU X (compareOp .Eq) (yd n false):=by
 intro pins s σ H x y v u Q I rx ry h;obtain⟨d,e,hx,hy,hd,q⟩:=h;exact ag.rc I hd hx hy hu rx ry X.prog X.w X.xe _ ⟨.bl _,H,I,ae,q⟩
theorem jb{n:Nat}(hu:X.A.units+n<cLine):aU X (compareOp .NotEq) (yd n true):=by
 intro pins s σ H x y v u Q I rx ry h;obtain⟨d,e,hx,hy,hd,q⟩:=h;exact ag.Ln I hd hx hy hu rx ry X.prog X.w X.xe _ ⟨.bl _,H,I,ae,q⟩
end
section
variable {prog:Program}{w:World}{A:Around}{E:Value->Shared->Prop}{s:Shared}{j tt:Addr}{n:Nat}{ad:Array Value}
theorem ye{v:Value}{Q:Value->Shared->Prop}(g:s.heap.IsTupleIter j tt n)(gt:s.heap.IsTuple tt ad)(gv:ad[n]? =some v)
  (k:∀h',h'.IsTupleIter j tt (n+1)->Heap.SameBut j s.heap h'->Q v {s with heap:=h'}):wpAny (model prog w) A (Builtin.SmallTypes.nextOf (.ref j)) Q E s:=by
 obtain⟨o,ho,hc,hd⟩:=id g;obtain⟨ol,pK,_,nl,nX⟩:=gt;unfold Builtin.SmallTypes.nextOf;refine wpAny_bind (wpAny_callSpecial?_slot (name:=Str.ofString "__next__") g.typeIs F.slot_tuple_iterator_next (wpAny_call_entry F.slot_tuple_iterator_next g.typeIs F.entry_tuple_iterator_next ?_ (F.args_tuple_iterator_next_1 _)));show wpAny _ _ (field (.ref j) 0>>=_) _ _ s;refine wpAny_bind (wpAny_field ho hd (x:=.ref tt) ae ?_);show wpAny _ _ (if(Value.ref tt==Value.none)=true then _ else _) _ _ s;rw[if_neg (show ¬ ((Value.ref tt==Value.none)=true)from Bool.false_ne_true)];show wpAny _ _ (field (.ref j) 1>>=_) _ _ s;refine wpAny_bind (wpAny_field ho hd (x:=.int n 0) ae ?_);show wpAny _ _ (seqItems? (.ref tt)>>=_) _ _ s;refine wpAny_bind (wpAny_seqItems pK nX ?_);simp only[nV,gv];refine wpAny_bind (wpAny_setField ho hd (by simp) (wpAny_pure ⟨v,ae,wpAny_pure (k _ ?_ (Heap.SameBut.update ..))⟩));exact⟨_,Heap.get?_update_self _ ho (Obj.isFreed_of_fields (Obj.data_mapFields hd _)),(Obj.cls_mapFields ..).trans hc,by rw[Obj.data_mapFields hd];simp[rawInt]⟩
theorem wu{Q:Value->Shared->Prop}(hh:A.handled=none)(g:s.heap.IsTupleIter j tt n)(gt:s.heap.IsTuple tt ad)(gv:ad[n]? =none)
  (k:∀h' e,Heap.ExtBut j s.heap h'->(∃o,h'.get? e=some o/\o.cls=.type "StopIteration")->E (.ref e) {s with heap:=h'}):wpAny (model prog w) A (Builtin.SmallTypes.nextOf (.ref j)) Q E s:=by
 obtain⟨o,ho,hc,hd⟩:=id g;obtain⟨ol,pK,_,nl,nX⟩:=gt;unfold Builtin.SmallTypes.nextOf;refine wpAny_bind (wpAny_callSpecial?_slot (name:=Str.ofString "__next__") g.typeIs F.slot_tuple_iterator_next (wpAny_call_entry F.slot_tuple_iterator_next g.typeIs F.entry_tuple_iterator_next ?_ (F.args_tuple_iterator_next_1 _)));show wpAny _ _ (field (.ref j) 0>>=_) _ _ s;refine wpAny_bind (wpAny_field ho hd (x:=.ref tt) ae ?_);show wpAny _ _ (if(Value.ref tt==Value.none)=true then _ else _) _ _ s;rw[if_neg (show ¬ ((Value.ref tt==Value.none)=true)from Bool.false_ne_true)];show wpAny _ _ (field (.ref j) 1>>=_) _ _ s;refine wpAny_bind (wpAny_field ho hd (x:=.int n 0) ae ?_);show wpAny _ _ (seqItems? (.ref tt)>>=_) _ _ s;refine wpAny_bind (wpAny_seqItems pK nX ?_);simp only[nV,gv];refine wpAny_bind (wpAny_rule (wpAny_bind (wpAny_setField ho hd (by simp) ?_)));show wpAny _ _ (newExc (.type "StopIteration") []>>=_) _ _ _;refine wpAny_bind ?_;simp only[newExc,newTuple];refine wpAny_bind (wpAny_newObj_type ?_ (by size_fits));refine wpAny_bind (m:=firstArgMember _ _) (wpAny_of_eq (a:=Value.none) (by first|rfl|(simp only[firstArgMember];rfl)) ?_);refine wpAny_newObj_type ?_ (by size_fits);simp only[raiseNew];refine wpAny_bind (wpAny_handled ?_)
 first|rw[show A.in1.handled=none from hh]|rw[hh]
 refine wpAny_bind (wpAny_pure (wpAny_throw ?_));exact k _ _ (((Heap.SameBut.update ..).extBut.push _).push _) ⟨_,Heap.get?_push_size _ rfl,ae⟩
end
inductive Sk where|tp|ls
noncomputable def UN(k:Sk)(h:Heap)(it a:Addr)(i:Nat):Prop:=match k with| .tp=>h.IsTupleIter it a i| .ls=>h.IsListIter it a i
noncomputable def W4(k:Sk)(h:Heap)(a:Addr)(ad:Array Value):Prop:=match k with| .tp=>h.IsTuple a ad| .ls=>h.IsList a ad
theorem Kp{prog:Program}{w:World}{A:Around}(k:Sk)(hh:A.handled=none)(it a:Addr)(ne:a≠it)(ad:Array Value):Draws prog w A it [it,a] ad.size (λi v=>ad[i]? =some v) (λi h=>UN k h it a i/\W4 k h a ad):=by
 cases k with
 |ls=>exact Draws.list hh it a ne ad
 |tp=>
  exact{live:=λ_ _ st=>let ⟨o,ho,_⟩:=st.1;⟨o,ho⟩,frame:=λ_ _ _ st hk=>⟨let ⟨o,ho,r⟩:=st.1;⟨o,hk it (by simp) o ho,r⟩,let ⟨o,ho,r⟩:=st.2;⟨o,hk a (by simp) o ho,r⟩⟩,item:=λi s Q E hi st hQ=>(by
       refine ye st.1 st.2 (v:=ad[i]) (by simp[hi]) λh' g hs=>?_;exact hQ _ h' s.toks (by simp[hi]) ⟨g,let ⟨o,ho,r⟩:=st.2;⟨o,(hs.2 a ne).trans ho,r⟩⟩ hs),done:=λs Q E st hE=>wu hh st.1 st.2 (by simp) hE}
noncomputable def ir(k:Sk)(K:Frag)(H:Hp)(a:Addr)(xs:List V):Prop:=match k with| .tp=>aN K H a xs| .ls=>aJ K H a xs
theorem Inv.sk{X:Cx}{pins:List (Addr × Obj)}{σ:St}{H:Hp}{s:Shared}{k:Sk}{a:Addr}{xs:List V}(I:Inv X pins σ H s)(h:ir k X.K H a xs):∃ad:List Value,Vals xs ad/\W4 k s.heap a ad.toArray/\xs.length<=sizeLine:=by
 cases k with
 |tp=>
  obtain⟨ad,r,p,z⟩:=I.tuple h;exact⟨ad,r,p,z⟩
 |ls=>
  obtain⟨ad,r,p,z⟩:=I.list h;exact⟨ad,r,p.isList,z⟩
theorem Inv.W5{X:Cx}{pins:List (Addr × Obj)}{σ:St}{H:Hp}{s:Shared}{k:Sk}{a:Addr}{xs ys:List V}(I:Inv X pins σ H s)(h:ir k X.K H a xs)(h':ir k X.K H a ys):xs=ys:=by
 obtain⟨ad,r,p,_⟩:=I.sk h;obtain⟨bn,r2,p2,_⟩:=I.sk h';have e:ad=bn:=by
  cases k with
  |tp=>
   obtain⟨o,ho,_,n,hd⟩:=p;obtain⟨o2,IO,_,n2,hd2⟩:=p2;obtain rfl:=nh (ho.symm.trans IO);have:=hd.symm.trans hd2;injection this with q;simpa using q
  |ls=>
   obtain⟨o,ho,_,n,hd⟩:=p;obtain⟨o2,IO,_,n2,hd2⟩:=p2;obtain rfl:=nh (ho.symm.trans IO);have:=hd.symm.trans hd2;injection this with q;simpa using q
 subst e;exact Vals.inj r r2
theorem z8{a b:String}(h:a≠b):Value.type a≠Value.type b:=λz=>h (by injection z)
theorem Kq{k:Sk}{h:Heap}{it a:Addr}{i:Nat}{ad:Array Value}(g:UN k h it a i)(p:W4 k h a ad):a≠it:=by
 cases k with
 |tp=>
  obtain⟨o,ho,hc,_⟩:=g;obtain⟨o2,IO,Fa,_⟩:=p;rintro rfl;obtain rfl:=nh (ho.symm.trans IO);exact z8 (by decide) (hc.symm.trans Fa)
 |ls=>
  obtain⟨o,ho,hc,_⟩:=g;obtain⟨o2,IO,Fa,_⟩:=p;rintro rfl;obtain rfl:=nh (ho.symm.trans IO);exact z8 (by decide) (hc.symm.trans Fa)
theorem Zv{k:Sk}{h:Heap}{it a:Addr}{i:Nat}(g:UN k h it a i):∃o,h.get? it=some o/\∀v,o.data≠ .cell v:=by
 cases k with
 |tp=>obtain⟨o,ho,hc,hd⟩:=g;exact⟨o,ho,λv q=>by rw[hd]at q;cases q⟩
 |ls=>obtain⟨o,ho,hc,hd⟩:=g;exact⟨o,ho,λv q=>by rw[hd]at q;cases q⟩
theorem J9{k:Sk}{h h':Heap}{it a:Addr}{i:Nat}(g:UN k h it a i)(kk:∀o,h.get? it=some o->h'.get? it=some o):UN k h' it a i:=by
 cases k with
 |tp=>obtain⟨o,ho,r⟩:=g;exact⟨o,kk o ho,r⟩
 |ls=>obtain⟨o,ho,r⟩:=g;exact⟨o,kk o ho,r⟩
theorem yf{k:Sk}{h:Heap}{a:Addr}{ad:Array Value}{o:Obj}(p:W4 k h a ad)(e:h.get? a=some o):o.cls=.type "tuple"\/o.cls=.type "list":=by
 cases k with
 |tp=>obtain⟨o2,ho,hc,_⟩:=p;obtain rfl:=nh (e.symm.trans ho);exact .inl hc
 |ls=>obtain⟨o2,ho,hc,_⟩:=p;obtain rfl:=nh (e.symm.trans ho);exact .inr hc
noncomputable def BO(k:Sk)(K:Frag)(a:Addr):It:=⟨λi H=>∃xs x,ir k K H a xs/\xs[i]? =some x,λi H v H'=>∃p,H p=none/\v=.ref p/\∀xs,ir k K H a xs->∃x,xs[i]? =some x/\H'=upd H p (.tup [.int (i:Nat),x]),λi H=>∃xs,ir k K H a xs/\xs.length=i⟩
theorem UO{P:Program}{w:World}{K:Frag}{es:List Expr}{n:Nat}{pos:Pos}(k:Sk)(e it a:Addr)(pL:e≠it):
  Turn P w K (.Tuple es n pos) (BO k K a) [e,it] e (λi h=>(∃old,IsEnum h e it (i:Nat) old)/\UN k h it a i) where
 mem:=by simp
 obj:=λi h st b hb=>by
  obtain⟨⟨old,he⟩,g⟩:=st;rcases List.mem_cons.mp hb with rfl|hb
  ·exact⟨_,he,λv q=>nomatch (show Data.fields _=Data.cell v from q)⟩
  ·obtain rfl:b=it:=by simpa using hb
   exact Zv g
 keep:=λi h h' st kk=>by
  obtain⟨⟨old,he⟩,g⟩:=st;exact⟨⟨old,kk e (by simp) _ he⟩,J9 g λo=>kk it (by simp) o⟩
 item:=by
  intro X hP hw hK hc i pins s σ H E I hf st hg;subst hP hw hK;obtain⟨⟨old,he⟩,g⟩:=st;obtain⟨xs,x,hq,hx⟩:=hg;obtain⟨ad,rv,p,hz⟩:=I.sk hq;obtain⟨u,hu,ru⟩:=rv.get hx;have bi:i<ad.toArray.size:=by
   rw[nQ];exact(List.getElem?_eq_some_iff.mp hu).1
  have Lq:e≠a:=λq=>by
   rcases yf p (q▸he)with z|z
   ·exact z8 (by decide) z
   ·exact z8 (by decide) z
  have D:=Kp (prog:=X.prog) (w:=X.w) (A:=X.A.in1) k (I.ok.hd hc) it a (Kq g p) ad.toArray;refine wpAny_pyNext_enum_itemD D he ⟨g,p⟩ bi pL (by simp[pL,Lq]) λv h1 tk hv ho Lr hT hsz hk=>⟨_,ae,?_⟩;obtain rfl:v=u:=by
   have:ad.toArray[i]? =some u:=by simpa using hu
   exact nh (hv.symm.trans this)
  refine wpAny_letOwnedTupleGo_enum ho λh2 i0 LT=>?_;have Ls:s.heap.objs.size≠e:=λq=>absurd (Heap.lt_size he) (by rw[←q];exact nU _);refine⟨.ref s.heap.objs.size,upd H s.heap.objs.size (.tup [.int (i:Nat),x]),I.V4 (ch:=[e,it]) hf (λb o hb q=>?_) (ng _) ?_,ae,⟨_,I.aj.fresh (ng _),ae,λys hy=>⟨x,by rw[I.W5 hy hq];exact hx,ae⟩⟩,⟨⟨_,i0⟩,?_⟩,λb hb=>?_⟩
  ·simp only[List.mem_cons,List.not_mem_nil,or_false,not_or]at hb;exact(LT.2 b hb.1).trans (hk b o hb.1 hb.2 q)
  ·exact⟨by show 2<=sizeLine;decide,[.int (i:Nat) tk,v],.cons ⟨_,ae⟩ (.cons ru .nil),⟨_,(LT.2 _ Ls).trans hT,ae,_,ae,ae⟩⟩
  ·exact J9 Lr.1 λo q=>(LT.2 it pL.symm).trans q
  ·have bi:b<s.heap.objs.size:=by
    rcases List.mem_cons.mp hb with q|q
    ·rw[q];exact Heap.lt_size he
    ·obtain⟨o,BP,_⟩:=Zv g;rw[show b=it by simpa using q];exact Heap.lt_size BP
   rw[Qh (Nat.ne_of_lt bi)];exact(hf b hb).1
 done:=by
  intro X hP hw hK hc i pins s σ H E I hf st hg;subst hP hw hK;obtain⟨⟨old,he⟩,g⟩:=st;obtain⟨xs,hq,hx⟩:=hg;obtain⟨ad,rv,p,hz⟩:=I.sk hq;have hl:=rv.length;have D:=Kp (prog:=X.prog) (w:=X.w) (A:=X.A.in1) k (I.ok.hd hc) it a (Kq g p) ad.toArray;have PP:UN k s.heap it a ad.toArray.size/\W4 k s.heap a ad.toArray:=⟨by rw[nQ, ←hl,hx];exact g,p⟩;exact wpAny_pyNext_enum_endD D he PP λh1 eb=>⟨ae,I.V3 (t':=s.toks) (ch:=[e,it]) hf λb o hb q=>eb b o (λr=>hb (by simp[r])) q⟩
 self:=λ_ _ _ _ _ st h=>let ⟨⟨_,he⟩,_⟩:=st;wpAny_pyIter_enum he h
noncomputable abbrev u6(h:Heap)(a:Addr):Heap:=h.push {cls:=.type "tuple_iterator",data:=.fields #[.ref a,.int 0 0]}
noncomputable abbrev FD(h:Heap)(a:Addr):Heap:=(u6 h a).push {cls:=.type "enumerate",data:=.fields #[.none,.bool false,.ref h.objs.size,rawInt 0,.none,.none]}
open AutoSeq1 (wpAny_loadPart')in
theorem jc(a:Addr)(ad:Array Value)(n:Nat)(dd:Option Addr)(sl:Array (Option Value)):
  Meets (Builtin.«enumerate.__new__» ⟨[.type "enumerate",.ref a],[]⟩) (λ_ R s=>s.heap.get? a=some ⟨.type "tuple",dd,.seq ad n,sl⟩/\R (.ok (.ret (.ref (u6 s.heap a).objs.size))) {s with heap:=FD s.heap a}):=
 .of_wp λprog w A R s h=>by
  obtain⟨hp,g,d,tk,os⟩:=s;obtain⟨hl,h⟩:=h;have On:=sub_enumerate;have hT:Heap.IsTuple (Shared.heap ⟨hp,g,d,tk,os⟩) a ad:=⟨_,hl,ae,n,ae⟩
  wp_walk using wpAny_loadPart' hl
  refine wpAny_stack_any λst=>wpAny_pure ?_
  split
  ·rename_i c _ _ _ _ _;cases(c==Value.type "enumerate")<;>(wp_walk using wpAny_loadPart' hl,wpAny_pyIter_tuple hT;exact⟨_,ae,h⟩)
  ·wp_walk using wpAny_loadPart' hl,wpAny_pyIter_tuple hT
   exact⟨_,ae,h⟩
theorem z9{prog:Program}{w:World}{A:Around}{E:Value->Shared->Prop}{s:Shared}{a:Addr}{ad:Array Value}{Q:Value->Shared->Prop}(hT:s.heap.IsTuple a ad)
  (h:∀h',IsEnum h' (s.heap.objs.size+1) s.heap.objs.size 0 .none->h'.IsTupleIter s.heap.objs.size a 0->h'.objs.size=s.heap.objs.size+2->(∀b o,s.heap.get? b=some o->h'.get? b=some o)->Q (.ref (s.heap.objs.size+1)) {s with heap:=h'}):
  wpAny (model prog w) A (call (.type "enumerate") [.ref a]) Q E s:=by
 obtain⟨⟨c,dd,dt,sl⟩,hl,hc,n,hd⟩:=hT
 replace hc:c=.type "tuple":=hc
 replace hd:dt=.seq ad n:=hd
 subst hc hd;refine callType_new F.called_enumerate (by decide) (F.typeCall_enumerate_1 _) (F.newCall_enumerate_1 _) (λobj=>F.args_object_init_2 obj _) F.entry_enumerate_new (jc a ad n dd sl) ⟨hl,?_⟩;have hz:(u6 s.heap a).objs.size=s.heap.objs.size+1:=Heap.size_push ..;have he:IsEnum (FD s.heap a) (u6 s.heap a).objs.size s.heap.objs.size 0 .none:=Heap.get?_push_size _ rfl;rw[hz]at he;show _/\_;rw[hz];exact⟨⟨_,he,ae⟩,h _ he ⟨_,Heap.get?_push_of_some _ (Heap.get?_push_size _ ae),ae,ae⟩ (by rw[Heap.size_push,hz]) λb o x=>Heap.get?_push_of_some _ (Heap.get?_push_of_some _ x)⟩
theorem xb{prog:Program}{w:World}{A:Around}{E:Value->Shared->Prop}{s:Shared}(k:Sk){a:Addr}{ad:Array Value}{Q:Value->Shared->Prop}(p:W4 k s.heap a ad)
  (h:∀h',IsEnum h' (s.heap.objs.size+1) s.heap.objs.size 0 .none->UN k h' s.heap.objs.size a 0->(∀b o,s.heap.get? b=some o->h'.get? b=some o)->Q (.ref (s.heap.objs.size+1)) {s with heap:=h'}):
  wpAny (model prog w) A (call (.type "enumerate") [.ref a]) Q E s:=by
 cases k with
 |tp=>exact z9 p λh' h1 h2 _ h4=>h h' h1 h2 h4
 |ls=>exact call_enumerate_list p λh' h1 h2 _ h4=>h h' h1 h2 h4
section
variable {X:Cx}
noncomputable def yg(k:Sk)(K:Frag)(ta:TA):TI:=λσ H R=>ta σ H λvs H1=>∃a,vs=[.ref a]/\(∃xs,ir k K H1 a xs)/\R (BO k K a) H1
theorem K6(k:Sk){es:List Expr}{n:Nat}{tp:Pos}{a:Expr}{ta:TA}{p pos:Pos}(hg:Gl X "enumerate")(hm:X.mg "enumerate"=none)(ha:PA X [a] ta)(hs:starEach [a] X.env=[(false,eval a X.env)]:=by rfl):
  PI X (.Tuple es n tp) (.Call (.Name "enumerate" p) [a] [] pos) (yg k X.K ta):=by
 intro pins s σ H R I h;refine Call_ (JL I hg hm boot_enumerate (PyProof.Rows.callWith_type1 (ax (ha pos pins s σ H _ I h) λus s1⟨vs,H1,I1,r1,aa,e,⟨xs,hq⟩,q⟩=>?_) hs ae));subst e;obtain⟨u,rfl,rfl⟩:=vals1 r1;obtain⟨ad,rv,po,hz⟩:=I1.sk hq;refine xb k po λh1 he PP hk=>?_;refine wpAny_pyIter_enum (s:={s1 with heap:=h1}) he ?_;refine⟨_,[s1.heap.objs.size+1,s1.heap.objs.size],_,_,H1,ae,I1.kept (t':=s1.toks) hk,UO k _ _ aa (Nat.succ_ne_self _),⟨⟨_,he⟩,PP⟩,λb hb=>?_,q⟩;have dj:s1.heap.objs.size<=b:=by
  simp only[List.mem_cons,List.not_mem_nil,or_false]at hb;rcases hb with rfl|rfl
  ·exact Nat.le_succ _
  ·exact ng _
 exact I1.zM dj (I1.aj.fresh dj)
end
structure Off(fp:List Addr)(z TO i:Addr):Prop where
 z:∀b∈fp,b≠z
 o:∀b∈fp,b≠TO
 i:∀b∈fp,b≠i
section
variable {prog:Program}{w:World}{A:Around}{E:Value->Shared->Prop}{s:Shared}{z TI TO i1 i2:Addr}{k n1 n2:Nat}{f1 f2:List Addr}{P1 P2:Nat->Value->Prop}{S1 S2:Nat->Heap->Prop}{a b:Value}
theorem Qx{i c:Addr}{fp:List Addr}{n:Nat}{P:Nat->Value->Prop}{S:Nat->Heap->Prop}{h h':Heap}(D:Draws prog w A i fp n P S)(st:S k h)(e:Heap.ExtBut c h h')(ne:∀b∈fp,b≠c):S k h':=
 D.frame _ _ _ st λb hb o q=>e _ _ (ne b hb) q
theorem jd{Q:Value->Shared->Prop}(D:dX z TI TO i1 i2)(D1:Draws prog w A i1 f1 n1 P1 S1)(C1:Off f1 z TO i2)(D2:Draws prog w A i2 f2 n2 P2 S2)(C2:Off f2 z TO i1)
  (hz:IsZip s.heap z TI TO .none) (cQ:IsPair s.heap TI (.ref i1) (.ref i2)) (cy:IsPair s.heap TO a b) (h1:S1 k s.heap) (h2:S2 k s.heap) (hx:k<n1) (hy:k<n2)
  (hQ:∀x y h' tk,P1 k x->P2 k y->IsZip h' z TI TO (rawInt s.heap.objs.size)->IsPair h' TO x y->S1 (k+1) h'->S2 (k+1) h'->IsPair h' s.heap.objs.size x y->(∀c o,c≠z->c≠TO->c≠i1->c≠i2->s.heap.get? c=some o->h'.get? c=some o)->Q (.ref s.heap.objs.size) {s with heap:=h',toks:=tk}):
  wpAny (model prog w) A (Builtin.«zip.__next__» ⟨[.ref z],[]⟩) (λfin s'=>∃v,fin=.done (.ret v)/\Q v s') E s:=by
 show wpAny _ _ (field (.ref z) 2>>=_) _ _ _;refine wpAny_bind (wpAny_field hz ae (x:=.bool false) ae ?_);show wpAny _ _ (field (.ref z) 3>>=_) _ _ _;refine wpAny_bind (wpAny_field hz ae (x:=.ref TI) ae (wpAny_bind (wpAny_seqItems cQ ae ?_)));show wpAny _ _ (Builtin.SmallTypes.ownedTupleIsFree (.ref z)>>=_) _ _ _;refine wpAny_bind ?_;unfold Builtin.SmallTypes.ownedTupleIsFree;refine wpAny_bind (wpAny_field hz ae (x:=.none) ae (wpAny_pure ?_));simp only[if_true];refine wpAny_bind (wpAny_rule (wpAny_bind (wpAny_field hz ae (x:=.ref TO) ae (wpAny_bind (wpAny_setField_rec hz (by simp) λh₁ Rs lm=>?_)))))
 replace Rs:IsZip h₁ z TI TO .ellipsis:=Rs;refine wpAny_bind ?_
 simp only[List.zipIdx_cons,List.zipIdx_nil,List.forIn_cons,List.forIn_nil];refine wpAny_bind (wpAny_bind (wpAny_onRaise ?_));show wpAny _ _ (Builtin.SmallTypes.nextOf (.ref i1)>>=_) _ _ _;refine wpAny_bind (D1.item k _ _ _ hx (Qx D1 h1 lm.extBut C1.z) λx h₂ nY px i3 li=>wpAny_pure ?_);have GM:IsPair h₂ TO a b:=li.extBut _ _ D.TOi1 (lm.extBut _ _ D.TOz cy);refine wpAny_bind (wpAny_seqItems GM ae (wpAny_bind (wpAny_updateSeq_pair GM λh₃ T0 re=>?_)))
 replace T0:IsPair h₃ TO x b:=T0;refine wpAny_bind (wpAny_letGo (wpAny_pure (wpAny_bind (wpAny_bind (wpAny_onRaise ?_)))))
 show wpAny _ _ (Builtin.SmallTypes.nextOf (.ref i2)>>=_) _ _ _;have e2:S2 k h₃:=Qx D2 (Qx D2 (Qx D2 h2 lm.extBut C2.z) li.extBut C2.i) re.extBut C2.o;refine wpAny_bind (D2.item k _ _ _ hy e2 λy h₄ dI py BQ b0=>wpAny_pure ?_);have eX:IsPair h₄ TO x b:=b0.extBut _ _ D.TOi2 T0;refine wpAny_bind (wpAny_seqItems eX ae (wpAny_bind (wpAny_updateSeq_pair eX λh₅ bF b7=>?_)))
 replace bF:IsPair h₅ TO x y:=bF;refine wpAny_bind (wpAny_letGo (wpAny_pure (wpAny_pure (wpAny_bind (wpAny_seqItems bF ae (wpAny_bind (wpAny_newTuple ?_)))))))
 have se:=lm.1;have LT:=li.1;have i4:=re.1;have BR:=b0.1;have BS:=b7.1;have hsz:h₅.objs.size=s.heap.objs.size:=BS.trans (BR.trans (i4.trans (LT.trans se)));have sf:IsZip h₅ z TI TO .ellipsis:=b7.extBut _ _ D.TOz.symm (b0.extBut _ _ D.i2z.symm (re.extBut _ _ D.TOz.symm (li.extBut _ _ D.i1z.symm Rs)));have BU:∀c o,c≠z->c≠TO->c≠i1->c≠i2->s.heap.get? c=some o->h₅.get? c=some o:=λc o c1 c2 c3 c4 e=>b7.extBut _ _ c2 (b0.extBut _ _ c4 (re.extBut _ _ c2 (li.extBut _ _ c3 (lm.extBut _ _ c1 e))));have g1:S1 (k+1) h₅:=Qx D1 (Qx D1 (Qx D1 i3 re.extBut C1.o) b0.extBut C1.i) b7.extBut C1.o;have g2:S2 (k+1) h₅:=Qx D2 BQ b7.extBut C2.o;have eY:z<h₅.objs.size:=Heap.lt_size sf;show wpAny _ _ (Builtin.SmallTypes.ownedTupleHandOut (.ref z) (.ref h₅.objs.size)>>=_) _ _ _;refine wpAny_bind ?_;unfold Builtin.SmallTypes.ownedTupleHandOut;have BV:IsZip (h₅.push {cls:=.type "tuple",data:=.seq #[x,y]}) z TI TO .ellipsis:=Heap.get?_push_of_some _ sf;refine wpAny_bind (wpAny_setField_rec BV (by simp) λh₇ nZ sg=>?_);replace nZ:IsZip h₇ z TI TO (rawInt h₅.objs.size):=nZ;refine wpAny_setField_rec nZ (by simp) λh₈ i5 sh=>?_;replace i5:IsZip h₈ z TI TO (rawInt h₅.objs.size):=i5;have up:∀c o,c≠z->h₅.get? c=some o->h₈.get? c=some o:=λc o c1 e=>sh.extBut _ _ c1 (sg.extBut _ _ c1 (Heap.get?_push_of_some _ e));have si:IsPair h₈ h₅.objs.size x y:=sh.extBut _ _ (Nat.ne_of_gt eY) (sg.extBut _ _ (Nat.ne_of_gt eY) (Heap.get?_push_size _ ae));rw[hsz]at i5 si;refine wpAny_pure ⟨_,ae,?_⟩;show Q (.ref h₅.objs.size) _;rw[hsz];exact hQ x y h₈ _ px py i5 (up _ _ D.TOz bF) (D1.frame _ _ _ g1 λb hb o q=>up _ _ (C1.z b hb) q) (D2.frame _ _ _ g2 λb hb o q=>up _ _ (C2.z b hb) q) si λc o c1 c2 c3 c4 e=>up c o c1 (BU c o c1 c2 c3 c4 e)
theorem xf{Q:Fin->Shared->Prop}(D:dX z TI TO i1 i2)(D1:Draws prog w A i1 f1 n1 P1 S1)(C1:Off f1 z TO i2)(D2:Draws prog w A i2 f2 n2 P2 S2)(C2:Off f2 z TO i1)
  (hz:IsZip s.heap z TI TO .none) (cQ:IsPair s.heap TI (.ref i1) (.ref i2)) (cy:IsPair s.heap TO a b) (h1:S1 k s.heap) (h2:S2 k s.heap) (hx:k=n1\/(k<n1/\k=n2))
  (hE:∀h' e tk,(∀c o,c≠z->c≠TO->c≠i1->c≠i2->s.heap.get? c=some o->h'.get? c=some o)->(∃o,h'.get? e=some o/\o.cls=.type "StopIteration")->E (.ref e) {s with heap:=h',toks:=tk}):
  wpAny (model prog w) A (Builtin.«zip.__next__» ⟨[.ref z],[]⟩) Q E s:=by
 show wpAny _ _ (field (.ref z) 2>>=_) _ _ _;refine wpAny_bind (wpAny_field hz ae (x:=.bool false) ae ?_);show wpAny _ _ (field (.ref z) 3>>=_) _ _ _;refine wpAny_bind (wpAny_field hz ae (x:=.ref TI) ae (wpAny_bind (wpAny_seqItems cQ ae ?_)));show wpAny _ _ (Builtin.SmallTypes.ownedTupleIsFree (.ref z)>>=_) _ _ _;refine wpAny_bind ?_;unfold Builtin.SmallTypes.ownedTupleIsFree;refine wpAny_bind (wpAny_field hz ae (x:=.none) ae (wpAny_pure ?_));simp only[if_true];refine wpAny_bind (wpAny_rule (wpAny_bind (wpAny_field hz ae (x:=.ref TO) ae (wpAny_bind (wpAny_setField_rec hz (by simp) λh₁ Rs lm=>?_)))))
 replace Rs:IsZip h₁ z TI TO .ellipsis:=Rs;refine wpAny_bind ?_
 simp only[List.zipIdx_cons,List.zipIdx_nil,List.forIn_cons,List.forIn_nil];refine wpAny_bind (wpAny_bind (wpAny_onRaise ?_));show wpAny _ _ (Builtin.SmallTypes.nextOf (.ref i1)>>=_) _ _ _;rcases hx with e|⟨hx,e⟩
 ·refine wpAny_bind (D1.done _ _ _ (by rw[←e];exact Qx D1 h1 lm.extBut C1.z) λh₂ e li he=>?_);obtain⟨oe,cR,FB⟩:=he;have sj:IsZip h₂ z TI TO .ellipsis:=li _ _ D.i1z.symm Rs;have n6:e≠z:=λx=>by subst x;rw[sj]at cR;cases cR;simp at FB
  exact wpAny_setField_rec sj (by simp) λh₃ _ re=>hE h₃ e _ (λc o c1 _ c3 _ x=>re.extBut _ _ c1 (li _ _ c3 (lm.extBut _ _ c1 x))) ⟨oe,re.extBut _ _ n6 cR,FB⟩
 ·refine wpAny_bind (D1.item k _ _ _ hx (Qx D1 h1 lm.extBut C1.z) λx h₂ nY px i3 li=>wpAny_pure ?_);have GM:IsPair h₂ TO a b:=li.extBut _ _ D.TOi1 (lm.extBut _ _ D.TOz cy);refine wpAny_bind (wpAny_seqItems GM ae (wpAny_bind (wpAny_updateSeq_pair GM λh₃ T0 re=>wpAny_bind (wpAny_letGo (wpAny_pure (wpAny_bind (wpAny_bind (wpAny_onRaise ?_))))))));show wpAny _ _ (Builtin.SmallTypes.nextOf (.ref i2)>>=_) _ _ _;have e2:S2 k h₃:=Qx D2 (Qx D2 (Qx D2 h2 lm.extBut C2.z) li.extBut C2.i) re.extBut C2.o;refine wpAny_bind (D2.done _ _ _ (by rw[←e];exact e2) λh₄ e b0 he=>?_);obtain⟨oe,cR,FB⟩:=he;have so:IsZip h₄ z TI TO .ellipsis:=b0 _ _ D.i2z.symm (re.extBut _ _ D.TOz.symm (li.extBut _ _ D.i1z.symm Rs));have n6:e≠z:=λx=>by subst x;rw[so]at cR;cases cR;simp at FB
  exact wpAny_setField_rec so (by simp) λh₅ _ b7=>hE h₅ e _ (λc o c1 c2 c3 c4 x=>b7.extBut _ _ c1 (b0 _ _ c4 (re.extBut _ _ c2 (li.extBut _ _ c3 (lm.extBut _ _ c1 x))))) ⟨oe,b7.extBut _ _ n6 cR,FB⟩
theorem je{Q:Option Value->Shared->Prop}(D:dX z TI TO i1 i2)(D1:Draws prog w A.in1 i1 f1 n1 P1 S1)(C1:Off f1 z TO i2)(D2:Draws prog w A.in1 i2 f2 n2 P2 S2)(C2:Off f2 z TO i1)
  (hz:IsZip s.heap z TI TO .none) (cQ:IsPair s.heap TI (.ref i1) (.ref i2)) (cy:IsPair s.heap TO a b) (h1:S1 k s.heap) (h2:S2 k s.heap) (hx:k<n1) (hy:k<n2)
  (hQ:∀x y h' tk,P1 k x->P2 k y->IsZip h' z TI TO (rawInt s.heap.objs.size)->IsPair h' TO x y->S1 (k+1) h'->S2 (k+1) h'->IsPair h' s.heap.objs.size x y->(∀c o,c≠z->c≠TO->c≠i1->c≠i2->s.heap.get? c=some o->h'.get? c=some o)->Q (some (.ref s.heap.objs.size)) {s with heap:=h',toks:=tk}):
  wpAny (model prog w) A (pyNext (.ref z)) Q E s:=by
 have hT:s.TypeIs (.ref z) "zip":=⟨_,hz,ae⟩;unfold pyNext;exact wpAny_bind (wpAny_attempt (wpAny_callSpecial?_slot (name:=Str.ofString "__next__") hT F.slot_zip_next (wpAny_call_entry F.slot_zip_next hT F.entry_zip_next (jd D D1 C1 D2 C2 hz cQ cy h1 h2 hx hy λx y h' tk a1 a2 a3 a4 a5 a6 a7 a8=>wpAny_pure (hQ x y h' tk a1 a2 a3 a4 a5 a6 a7 a8)) (F.args_zip_next_1 _))))
theorem xg{Q:Option Value->Shared->Prop}(D:dX z TI TO i1 i2)(D1:Draws prog w A.in1 i1 f1 n1 P1 S1)(C1:Off f1 z TO i2)(D2:Draws prog w A.in1 i2 f2 n2 P2 S2)(C2:Off f2 z TO i1)
  (hz:IsZip s.heap z TI TO .none) (cQ:IsPair s.heap TI (.ref i1) (.ref i2)) (cy:IsPair s.heap TO a b) (h1:S1 k s.heap) (h2:S2 k s.heap) (hx:k=n1\/(k<n1/\k=n2))
  (hQ:∀h' tk,(∀c o,c≠z->c≠TO->c≠i1->c≠i2->s.heap.get? c=some o->h'.get? c=some o)->Q none {s with heap:=h',toks:=tk}):
  wpAny (model prog w) A (pyNext (.ref z)) Q E s:=by
 have hT:s.TypeIs (.ref z) "zip":=⟨_,hz,ae⟩;unfold pyNext;refine wpAny_bind (wpAny_attempt (wpAny_callSpecial?_slot (name:=Str.ofString "__next__") hT F.slot_zip_next (wpAny_call_entry F.slot_zip_next hT F.entry_zip_next (xf D D1 C1 D2 C2 hz cQ cy h1 h2 hx λh' e tk hk he=>?_) (F.args_zip_next_1 _))));obtain⟨o,ho,hc⟩:=he;refine wpAny_bind (wpAny_isInstance (T:="StopIteration") (b:=true) ⟨o,ho,hc⟩ isSubtype_stop ?_);exact wpAny_pure (hQ _ _ hk)
end
noncomputable def Lu:Sk->String| .tp=>"tuple_iterator"| .ls=>"list_iterator"
noncomputable abbrev u7(k:Sk)(a:Addr):Obj:={cls:=.type (Lu k),data:=.fields #[.ref a,.int 0 0]}
theorem ky{k:Sk}{h:Heap}{it a:Addr}(e:h.get? it=some (u7 k a)):UN k h it a 0:=by
 cases k with
 |tp=>exact⟨_,e,ae,ae⟩
 |ls=>exact⟨_,e,ae,ae⟩
theorem W4.push{k:Sk}{h:Heap}{a:Addr}{ad:Array Value}(p:W4 k h a ad)(o:Obj):W4 k (h.push o) a ad:=by
 cases k with
 |tp=>exact Heap.IsTuple.push p o
 |ls=>exact Heap.IsList.push p o
theorem jf{prog:Program}{w:World}{A:Around}{E:Value->Shared->Prop}{s:Shared}(k:Sk){a:Addr}{ad:Array Value}{Q:Value->Shared->Prop}(p:W4 k s.heap a ad)(q:Q (.ref s.heap.objs.size) {s with heap:=s.heap.push (u7 k a)}):wpAny (model prog w) A (pyIter (.ref a)) Q E s:=by
 cases k with
 |tp=>exact wpAny_pyIter_tuple p q
 |ls=>exact wpAny_pyIter_list p q
noncomputable abbrev b8(h:Heap)(k:Sk)(a:Addr):Heap:=h.push (u7 k a)
noncomputable abbrev pM(h:Heap)(k1 k2:Sk)(a1 a2:Addr):Heap:=(b8 (b8 h k1 a1) k2 a2).push {cls:=.type "tuple",data:=.seq #[.ref h.objs.size,.ref (b8 h k1 a1).objs.size]}
noncomputable abbrev pN(h:Heap)(k1 k2:Sk)(a1 a2:Addr):Heap:=(pM h k1 k2 a1 a2).push {cls:=.type "tuple",data:=.seq #[.none,.none]}
noncomputable abbrev pO(h:Heap)(k1 k2:Sk)(a1 a2:Addr):Heap:=(pN h k1 k2 a1 a2).push {cls:=.type "zip",data:=.fields #[.none,.bool false,.bool false,.ref (b8 (b8 h k1 a1) k2 a2).objs.size,.ref (pM h k1 k2 a1 a2).objs.size]}
theorem UP(k1 k2:Sk)(a1 a2:Addr)(xs ys:Array Value):Meets (Builtin.«zip.__new__» ⟨[.type "zip",.ref a1,.ref a2],[]⟩) (λ_ R s=>W4 k1 s.heap a1 xs/\W4 k2 s.heap a2 ys/\R (.ok (.ret (.ref (pN s.heap k1 k2 a1 a2).objs.size))) {s with heap:=pO s.heap k1 k2 a1 a2}):=
 .of_wp λprog w A R s h=>by
  obtain⟨hp,g,d,tk,os⟩:=s;obtain⟨h1,h2,h⟩:=h;have On:=sub_zip;have p1:W4 k1 (Shared.heap ⟨hp,g,d,tk,os⟩) a1 xs:=h1;have p2:W4 k2 (Shared.heap ⟨hp.push (u7 k1 a1),g,d,tk,os⟩) a2 ys:=W4.push h2 _
  wp_walk using jf k1 p1,jf k2 p2
  exact⟨_,ae,h⟩
noncomputable def dm(k:Sk)(H:Hp)(a:Addr)(xs:List V):Prop:=match k with| .tp=>Rd H a (.tup xs)| .ls=>Rd H a (.lst xs)
theorem dm.q{k:Sk}{K:Frag}{H:Hp}{a:Addr}{xs:List V}(h:dm k H a xs):ir k K H a xs:=by
 cases k with
 |tp=>exact .inl h
 |ls=>exact .inl h
theorem dm.some{k:Sk}{H:Hp}{a:Addr}{xs:List V}(h:dm k H a xs):H a≠none:=by
 cases k with
 |tp=>rcases h with h|⟨o,h⟩<;>rw[h]<;>exact λz=>nomatch z
 |ls=>rcases h with h|⟨o,h⟩<;>rw[h]<;>exact λz=>nomatch z
noncomputable def sr(k1 k2:Sk)(a1 a2:Addr):It:=⟨λi H=>∃xs ys x y,dm k1 H a1 xs/\dm k2 H a2 ys/\xs[i]? =some x/\ys[i]? =some y,
 λi H v H'=>∃p,H p=none/\v=.ref p/\∀xs ys,dm k1 H a1 xs->dm k2 H a2 ys->∃x y,xs[i]? =some x/\ys[i]? =some y/\H'=upd H p (.tup [x,y]),λi H=>∃xs ys,dm k1 H a1 xs/\dm k2 H a2 ys/\i=min xs.length ys.length⟩
noncomputable def FE(k1 k2:Sk)(z TI TO i1 i2 a1 a2:Addr)(i:Nat)(h:Heap):Prop:=IsZip h z TI TO .none/\IsPair h TI (.ref i1) (.ref i2)/\(∃a b,IsPair h TO a b)/\UN k1 h i1 a1 i/\UN k2 h i2 a2 i
theorem Xo{z TI TO i1 i2 a:Addr}{H:Hp}(n1:H a≠none)(hz:H z=none)(hO:H TO=none)(hi:H i2=none)(e1:i1≠z)(e2:i1≠TO)(e3:i1≠i2):Off [i1,a] z TO i2:=by
 constructor<;>(intro b hb;simp only[List.mem_cons,List.not_mem_nil,or_false]at hb;rcases hb with rfl|rfl)
 ·exact e1
 ·exact λq=>n1 (q▸hz)
 ·exact e2
 ·exact λq=>n1 (q▸hO)
 ·exact e3
 ·exact λq=>n1 (q▸hi)
theorem jg{P:Program}{w:World}{K:Frag}{es:List Expr}{n:Nat}{pos:Pos}{z TI TO i1 i2:Addr}(D:dX z TI TO i1 i2)(k1 k2:Sk)(a1 a2:Addr):
  Turn P w K (.Tuple es n pos) (sr k1 k2 a1 a2) [z,TI,TO,i1,i2] z (FE k1 k2 z TI TO i1 i2 a1 a2) where
 mem:=by simp
 obj:=λi h st b hb=>by
  obtain⟨hz,hI,⟨a,c,hO⟩,g1,g2⟩:=st;simp only[List.mem_cons,List.not_mem_nil,or_false]at hb;rcases hb with rfl|rfl|rfl|rfl|rfl
  ·exact⟨_,hz,λv q=>nomatch (show Data.fields _=Data.cell v from q)⟩
  ·exact⟨_,hI,λv q=>nomatch (show Data.seq _ _=Data.cell v from q)⟩
  ·exact⟨_,hO,λv q=>nomatch (show Data.seq _ _=Data.cell v from q)⟩
  ·exact Zv g1
  ·exact Zv g2
 keep:=λi h h' st kk=>by
  obtain⟨hz,hI,⟨a,c,hO⟩,g1,g2⟩:=st;exact⟨kk _ (by simp) _ hz,kk _ (by simp) _ hI,⟨a,c,kk _ (by simp) _ hO⟩,J9 g1 λo=>kk _ (by simp) o,J9 g2 λo=>kk _ (by simp) o⟩
 item:=by
  intro X hP hw hK hc i pins s σ H E I hf st hg;subst hP hw hK;obtain⟨hz,hI,⟨a,c,hO⟩,g1,g2⟩:=st;obtain⟨xs,ys,x,y,b9,bG,hx,hy⟩:=hg;obtain⟨im,iu,o1,_⟩:=I.sk (b9.q (K:=X.K));obtain⟨bn,dn,o2,_⟩:=I.sk (bG.q (K:=X.K));obtain⟨u1,su,BW⟩:=iu.get hx;obtain⟨u2,eZ,rW⟩:=dn.get hy;have l1:i<im.toArray.size:=by rw[nQ];exact(List.getElem?_eq_some_iff.mp su).1
  have l2:i<bn.toArray.size:=by rw[nQ];exact(List.getElem?_eq_some_iff.mp eZ).1
  have Hz:=(hf z (by simp)).1;have HO:=(hf TO (by simp)).1;have H1:=(hf i1 (by simp)).1;have H2:=(hf i2 (by simp)).1;have D1:=Kp (prog:=X.prog) (w:=X.w) (A:=X.A.in1) k1 (I.ok.hd hc) i1 a1 (Kq g1 o1) im.toArray;have D2:=Kp (prog:=X.prog) (w:=X.w) (A:=X.A.in1) k2 (I.ok.hd hc) i2 a2 (Kq g2 o2) bn.toArray;refine je D D1 (Xo (TI:=TI) b9.some Hz HO H2 D.i1z D.TOi1.symm D.i12) D2 (Xo (TI:=TI) bG.some Hz HO H1 D.i2z D.TOi2.symm D.i12.symm) hz hI hO ⟨g1,o1⟩ ⟨g2,o2⟩ l1 l2 λv1 v2 h1 tk p1 p2 n8 BX q1 q2 hT hk=>⟨_,ae,?_⟩;obtain rfl:v1=u1:=nh (p1.symm.trans (by simpa using su));obtain rfl:v2=u2:=nh (p2.symm.trans (by simpa using eZ));refine wpAny_letOwnedTupleGo_zip n8 λh2 Lv LT=>?_;have up:∀b o,b≠z->h1.get? b=some o->h2.get? b=some o:=λb o hb q=>(LT.2 b hb).trans q;have bi:∀b∈[z,TI,TO,i1,i2],b<s.heap.objs.size:=λb hb=>by
   simp only[List.mem_cons,List.not_mem_nil,or_false]at hb;rcases hb with rfl|rfl|rfl|rfl|rfl
   ·exact Heap.lt_size hz
   ·exact Heap.lt_size hI
   ·exact Heap.lt_size hO
   ·obtain⟨o,g,_⟩:=Zv g1;exact Heap.lt_size g
   ·obtain⟨o,g,_⟩:=Zv g2;exact Heap.lt_size g
  refine⟨.ref s.heap.objs.size,upd H s.heap.objs.size (.tup [x,y]),I.V4 (ch:=[z,TI,TO,i1,i2]) hf (λb o hb q=>?_) (ng _) ?_,ae,⟨_,I.aj.fresh (ng _),ae,λBY fJ e1 e2=>⟨x,y,by rw[I.W5 (e1.q (K:=X.K)) b9.q];exact hx,by rw[I.W5 (e2.q (K:=X.K)) bG.q];exact hy,ae⟩⟩,⟨Lv,up _ _ D.TIz (hk _ _ D.TIz D.TITO D.TIi1 D.TIi2 hI),⟨_,_,up _ _ D.TOz BX⟩,J9 q1.1 λo g=>up _ _ D.i1z g,J9 q2.1 λo g=>up _ _ D.i2z g⟩,λb hb=>?_⟩
  ·simp only[List.mem_cons,List.not_mem_nil,or_false,not_or]at hb;exact up b o hb.1 (hk b o hb.1 hb.2.2.1 hb.2.2.2.1 hb.2.2.2.2 q)
  ·exact⟨by show 2<=sizeLine;decide,[v1,v2],.cons BW (.cons rW .nil),⟨_,up _ _ (Nat.ne_of_gt (bi z (by simp))) hT,ae,_,ae,ae⟩⟩
  ·rw[Qh (Nat.ne_of_lt (bi b hb))];exact(hf b hb).1
 done:=by
  intro X hP hw hK hc i pins s σ H E I hf st hg;subst hP hw hK;obtain⟨hz,hI,⟨a,c,hO⟩,g1,g2⟩:=st;obtain⟨xs,ys,b9,bG,hi⟩:=hg;obtain⟨im,iu,o1,_⟩:=I.sk (b9.q (K:=X.K));obtain⟨bn,dn,o2,_⟩:=I.sk (bG.q (K:=X.K));have e1:=iu.length;have e2:=dn.length;have Hz:=(hf z (by simp)).1;have HO:=(hf TO (by simp)).1;have H1:=(hf i1 (by simp)).1;have H2:=(hf i2 (by simp)).1;have D1:=Kp (prog:=X.prog) (w:=X.w) (A:=X.A.in1) k1 (I.ok.hd hc) i1 a1 (Kq g1 o1) im.toArray;have D2:=Kp (prog:=X.prog) (w:=X.w) (A:=X.A.in1) k2 (I.ok.hd hc) i2 a2 (Kq g2 o2) bn.toArray;refine xg D D1 (Xo (TI:=TI) b9.some Hz HO H2 D.i1z D.TOi1.symm D.i12) D2 (Xo (TI:=TI) bG.some Hz HO H1 D.i2z D.TOi2.symm D.i12.symm) hz hI hO (k:=i) ⟨g1,o1⟩ ⟨g2,o2⟩ (by rw[nQ,nQ];lia) λh' tk hk=>⟨ae,I.V3 (ch:=[z,TI,TO,i1,i2]) hf λb o hb q=>?_⟩;simp only[List.mem_cons,List.not_mem_nil,or_false,not_or]at hb;exact hk b o hb.1 hb.2.2.1 hb.2.2.2.1 hb.2.2.2.2 q
 self:=λ_ _ _ _ _ st h=>wpAny_pyIter_zip st.1 h
theorem W6{prog:Program}{w:World}{A:Around}{E:Value->Shared->Prop}{s:Shared}{k1 k2:Sk}{a1 a2:Addr}{xs ys:Array Value}{Q:Value->Shared->Prop}(h1:W4 k1 s.heap a1 xs)(h2:W4 k2 s.heap a2 ys)
  (h:∀h' z TI TO i1 i2,dX z TI TO i1 i2->FE k1 k2 z TI TO i1 i2 a1 a2 0 h'->(∀b∈[z,TI,TO,i1,i2],s.heap.objs.size<=b)->(∀c o,s.heap.get? c=some o->h'.get? c=some o)->Q (.ref z) {s with heap:=h'}):
  wpAny (model prog w) A (call (.type "zip") [.ref a1,.ref a2]) Q E s:=by
 refine callType_new F.called_zip (by decide) (F.typeCall_zip_2 _ _) (F.newCall_zip_2 _ _) (λobj=>F.args_object_init_3 obj _ _) F.entry_zip_new (UP k1 k2 a1 a2 xs ys) ⟨h1,h2,?_⟩;have z1:(b8 s.heap k1 a1).objs.size=s.heap.objs.size+1:=Heap.size_push ..;have z2:(b8 (b8 s.heap k1 a1) k2 a2).objs.size=s.heap.objs.size+2:=(Heap.size_push ..).trans (by rw[z1]);have z3:(pM s.heap k1 k2 a1 a2).objs.size=s.heap.objs.size+3:=(Heap.size_push ..).trans (by rw[z2]);have z4:(pN s.heap k1 k2 a1 a2).objs.size=s.heap.objs.size+4:=(Heap.size_push ..).trans (by rw[z3]);have g5:(pO s.heap k1 k2 a1 a2).get? (pN s.heap k1 k2 a1 a2).objs.size=some _:=Heap.get?_push_size _ rfl;have g4:(pO s.heap k1 k2 a1 a2).get? (pM s.heap k1 k2 a1 a2).objs.size=some _:=Heap.get?_push_of_some _ (Heap.get?_push_size _ ae);have g3:(pO s.heap k1 k2 a1 a2).get? (b8 (b8 s.heap k1 a1) k2 a2).objs.size=some _:=Heap.get?_push_of_some _ (Heap.get?_push_of_some _ (Heap.get?_push_size _ ae));have g2:(pO s.heap k1 k2 a1 a2).get? (b8 s.heap k1 a1).objs.size=some _:=Heap.get?_push_of_some _ (Heap.get?_push_of_some _ (Heap.get?_push_of_some _ (Heap.get?_push_size _ ae)));have g1:(pO s.heap k1 k2 a1 a2).get? s.heap.objs.size=some _:=Heap.get?_push_of_some _ (Heap.get?_push_of_some _ (Heap.get?_push_of_some _ (Heap.get?_push_of_some _ (Heap.get?_push_size _ ae))));have D:dX (pN s.heap k1 k2 a1 a2).objs.size (b8 (b8 s.heap k1 a1) k2 a2).objs.size (pM s.heap k1 k2 a1 a2).objs.size s.heap.objs.size (b8 s.heap k1 a1).objs.size:=by
  generalize (pN s.heap k1 k2 a1 a2).objs.size=e4 at z4 ⊢;generalize (pM s.heap k1 k2 a1 a2).objs.size=e3 at z3 ⊢;generalize (b8 (b8 s.heap k1 a1) k2 a2).objs.size=e2 at z2 ⊢;generalize (b8 s.heap k1 a1).objs.size=e1 at z1 ⊢;generalize s.heap.objs.size=e0 at*;constructor<;>(intro q;replace q:@Eq Nat _ _:=q;lia)
 refine⟨⟨_,g5,ae⟩,h _ _ _ _ _ _ D ⟨g5,g3,⟨_,_,g4⟩,?_,?_⟩ ?_ λc o q=>Heap.get?_push_of_some _ (Heap.get?_push_of_some _ (Heap.get?_push_of_some _ (Heap.get?_push_of_some _ (Heap.get?_push_of_some _ q))))⟩
 ·exact ky g1
 ·exact ky g2
 ·intro b hb;simp only[List.mem_cons,List.not_mem_nil,or_false]at hb;rcases hb with q|q|q|q|q
  ·exact Nat.le_trans (Nat.le_add_right _ 4) (Nat.le_of_eq (z4.symm.trans q.symm))
  ·exact Nat.le_trans (Nat.le_add_right _ 2) (Nat.le_of_eq (z2.symm.trans q.symm))
  ·exact Nat.le_trans (Nat.le_add_right _ 3) (Nat.le_of_eq (z3.symm.trans q.symm))
  ·exact Nat.le_of_eq q.symm
  ·exact Nat.le_trans (Nat.le_add_right _ 1) (Nat.le_of_eq (z1.symm.trans q.symm))
section
variable {X:Cx}
noncomputable def yh(k1 k2:Sk)(ta:TA):TI:=λσ H R=>ta σ H λvs H1=>∃a1 a2,vs=[.ref a1,.ref a2]/\(∃xs,dm k1 H1 a1 xs)/\(∃ys,dm k2 H1 a2 ys)/\R (sr k1 k2 a1 a2) H1
theorem V5(k1 k2:Sk){es:List Expr}{n:Nat}{tp:Pos}{a b:Expr}{ta:TA}{p pos:Pos}(hg:Gl X "zip")(hm:X.mg "zip"=none)(ha:PA X [a,b] ta)(hs:starEach [a,b] X.env=[(false,eval a X.env),(false,eval b X.env)]:=by rfl)(LT:starEach [b] X.env=[(false,eval b X.env)]:=by rfl):
  PI X (.Tuple es n tp) (.Call (.Name "zip" p) [a,b] [] pos) (yh k1 k2 ta):=by
 intro pins s σ H R I h;refine Call_ (JL I hg hm boot_zip (PyProof.Rows.callWith_type1 (ax (ha pos pins s σ H _ I h) λus s1⟨vs,H1,I1,r1,a1,a2,e,⟨xs,b9⟩,⟨ys,bG⟩,q⟩=>?_) (by rw[hs,LT]) (by rw[LT];rfl)));subst e;obtain⟨v,w,rfl,rfl,rfl⟩:=vals2 r1;obtain⟨im,iu,o1,_⟩:=I1.sk (b9.q (K:=X.K));obtain⟨bn,dn,o2,_⟩:=I1.sk (bG.q (K:=X.K));refine W6 o1 o2 λh1 z TI TO i1 i2 D st nw hk=>?_;refine wpAny_pyIter_zip (s:={s1 with heap:=h1}) st.1 ?_;exact⟨_,[z,TI,TO,i1,i2],_,_,H1,ae,I1.kept (t':=s1.toks) hk,jg D k1 k2 a1 a2,st,λb hb=>I1.zM (nw b hb) (I1.aj.fresh (nw b hb)),q⟩
end
structure Fix(J:It)(n:Nat)(Ok:Hp->Prop)(item:Nat->Hp->V->Hp->Prop):Prop where
 go:∀i H,Ok H->i<n->J.go i H
 stop:∀H,Ok H->J.stop n H
 bw:∀i H v H',Ok H->i<n->J.bw i H v H'->item i H v H'
section
variable {J:It}{n:Nat}{Ok:Hp->Prop}{item:Nat->Hp->V->Hp->Prop}
theorem ZB{g:TG}{tb:TS}{D:Ends}{σ:St}{H:Hp}(F:Fix J n Ok item)(Pv:Nat->St->Hp->Prop)(h0:Pv 0 σ H)(ho:∀i σ H,i<=n->Pv i σ H->Ok H)
  (hs:∀i v σ H H',i<n->Pv i σ H->item i H v H'->g v σ H' λσ2 H2=>tb {D with nx:=Pv (i+1),ct:=Pv (i+1),bk:=D.nx} σ2 H2) (hd:∀σ H,Pv n σ H->D.nx σ H):
  ∃W:Nat->Nat->St->Hp->Prop,(∃m,W 0 m σ H)/\∀i m σ H,W i m σ H->
   (J.stop i H/\D.nx σ H)\/(J.go i H/\∃N:St->Hp->Prop,(∀σ' H',N σ' H'->∃m',m'<m/\W (i+1) m' σ' H')/\∀x H',J.bw i H x H'->g x σ H' λσ2 H2=>tb {D with nx:=N,ct:=N,bk:=D.nx} σ2 H2):=by
 refine⟨λi m σ H=>m=n-i/\i<=n/\Pv i σ H,⟨n,by simp,nR _,h0⟩,?_⟩;rintro i m σ H ⟨rfl,hi,p⟩;have ok:=ho i σ H hi p
 by_cases bi:i<n
 ·exact .inr ⟨F.go i H ok bi,Pv (i+1),λσ' H' p'=>⟨n-(i+1),by lia,ae,bi,p'⟩,λx H' y=>hs i x σ H H' bi p (F.bw i H x H' ok bi y)⟩
 ·have e:i=n:=by lia
  subst e;exact .inl ⟨F.stop H ok,hd σ H p⟩
theorem YV{NB:List Str}{wi:TI}{g:TG}{tt:TT}{te:TE}{Q:VK}{σ:St}{H:Hp}(F:Fix J n Ok item)(Pv:Nat->List V->Hp->Prop)(h:∀R:It->Hp->Prop,(∀H1,Pv 0 [] H1->R J H1)->wi σ H R) (ho:∀i vs H,i<=n->Pv i vs H->Ok H/\vs.length<=i)
  (hs:∀i v vs H H',i<n->Pv i vs H->item i H v H'->g v (List.replicate NB.length none) H' λσ2 H2=>tt σ2 H2 λb H3=>if b=true then te σ2 H3 λv H4=>Pv (i+1) (vs++[v]) H4 else Pv (i+1) vs H3)
  (hd:∀vs H,Pv n vs H->∀p,H p=none->Q (.ref p) (upd H p (.lst vs))) (hz:n<sizeLine):W3 NB wi g tt te σ H Q:=by
 refine h _ λH1 h0=>⟨λi m vs H=>m=n-i/\i<=n/\Pv i vs H,⟨n,by simp,nR _,h0⟩,?_⟩;rintro i m vs H ⟨rfl,hi,p⟩;obtain⟨ok,hv⟩:=ho i vs H hi p
 by_cases bi:i<n
 ·exact .inr ⟨F.go i H ok bi,by lia,Pv (i+1),λsB H' p'=>⟨n-(i+1),by lia,ae,bi,p'⟩,λx H' y=>hs i x vs H H' bi p (F.bw i H x H' ok bi y)⟩
 ·have e:i=n:=by lia
  subst e;exact .inl ⟨F.stop H ok,hd vs H p⟩
theorem W7{nn:Nat}{fi:List Nat}{fv:List V}{wi:TI}{g:TG}{tt:TT}{te:TE}{Q:VK}{σ:St}{H:Hp}(F:Fix J n Ok item)(Pv:Nat->List V->Hp->Prop)(h:∀R:It->Hp->Prop,(∀H1,Pv 0 [] H1->R J H1)->wi σ H R) (Re:fi.map (λi=>σ[i]?)=fv.map (λv=>some (some v))) (ho:∀i vs H,i<=n->Pv i vs H->Ok H/\vs.length<=i)
  (hs:∀i v vs H H',i<n->Pv i vs H->item i H v H'->g v (List.replicate nn none++fv.map some) H' λσ2 H2=>σ2.drop nn=fv.map some/\tt σ2 H2 λb H3=>if b=true then te σ2 H3 λv H4=>Pv (i+1) (vs++[v]) H4 else Pv (i+1) vs H3)
  (hd:∀vs H,Pv n vs H->∀p,H p=none->Q (.ref p) (upd H p (.lst vs))) (hz:n<sizeLine):XV nn fi wi g tt te σ H Q:=by
 refine h _ λH1 h0=>⟨fv,Re,λi m vs H=>m=n-i/\i<=n/\Pv i vs H,⟨n,by simp,nR _,h0⟩,?_⟩;rintro i m vs H ⟨rfl,hi,p⟩;obtain⟨ok,hv⟩:=ho i vs H hi p
 by_cases bi:i<n
 ·exact .inr ⟨F.go i H ok bi,by lia,Pv (i+1),λsB H' p'=>⟨n-(i+1),by lia,ae,bi,p'⟩,λx H' y=>hs i x vs H H' bi p (F.bw i H x H' ok bi y)⟩
 ·have e:i=n:=by lia
  subst e;exact .inl ⟨F.stop H ok,hd vs H p⟩
end
theorem jh{xs:List V}{i:Nat}(h:i<xs.length):∃x,xs[i]? =some x:=⟨_,List.getElem?_eq_getElem h⟩
theorem zJ{K:Frag}{a:Addr}{xs:List V}:Fix (Bo K a) xs.length (λH=>aN K H a xs) (λi H v H'=>H'=H/\xs[i]? =some v):=
 ⟨λi H ok h=>let ⟨x,e⟩:=jh h;⟨xs,x,ok,e⟩,λH ok=>⟨xs,ok,ng _⟩,λi H v H' ok _ y=>⟨y.1,y.2 _ ok⟩⟩
theorem kz{K:Frag}{a:Addr}{xs:List V}:Fix (Bn K a) xs.length (λH=>aJ K H a xs) (λi H v H'=>H'=H/\xs[i]? =some v):=
 ⟨λi H ok h=>let ⟨x,e⟩:=jh h;⟨xs,x,ok,e⟩,λH ok=>⟨xs,ok,ng _⟩,λi H v H' ok _ y=>⟨y.1,y.2 _ ok⟩⟩
theorem Lx{lo:Int}{n:Nat}:Fix (lQ lo n) n (λ_=>True) (λi H v H'=>H'=H/\v=.int (lo+i)):=⟨λi H _ h=>h,λH _=>ng _,λi H v H' _ _ y=>y⟩
theorem BZ{k:Sk}{K:Frag}{a:Addr}{xs:List V}:Fix (BO k K a) xs.length (λH=>ir k K H a xs) (λi H v H'=>∃p x,H p=none/\v=.ref p/\xs[i]? =some x/\H'=upd H p (.tup [.int (i:Nat),x])):=
 ⟨λi H ok h=>let ⟨x,e⟩:=jh h;⟨xs,x,ok,e⟩,λH ok=>⟨xs,ok,ae⟩,λi H v H' ok _⟨p,hp,e,y⟩=>let ⟨x,h1,h2⟩:=y xs ok;⟨p,x,hp,e,h1,h2⟩⟩
theorem u9{k1 k2:Sk}{a1 a2:Addr}{xs ys:List V}:Fix (sr k1 k2 a1 a2) (min xs.length ys.length) (λH=>dm k1 H a1 xs/\dm k2 H a2 ys) (λi H v H'=>∃p x y,H p=none/\v=.ref p/\xs[i]? =some x/\ys[i]? =some y/\H'=upd H p (.tup [x,y])):=
 ⟨λi H ok h=>let ⟨x,e⟩:=jh (xs:=xs) (by lia);let ⟨y,e2⟩:=jh (xs:=ys) (by lia);⟨xs,ys,x,y,ok.1,ok.2,e,e2⟩,λH ok=>⟨xs,ys,ok.1,ok.2,ae⟩,λi H v H' ok _⟨p,hp,e,q⟩=>let ⟨x,y,h1,h2,h3⟩:=q xs ys ok.1 ok.2;⟨p,x,y,hp,e,h1,h2,h3⟩⟩
noncomputable def UQ(l:List Str)(x:Str):List Str:=if l.any (· ==x)then l else l++[x]
noncomputable def met(f:Nat->Str):Nat->List Str
 |0=>[]
 |i+1=>UQ (met f i) (f i)
theorem xh(l:List Str)(x k:Str):(UQ l x).any (· ==k)=(l.any (· ==k)||decide (k=x)):=by
 unfold UQ
 by_cases h:l.any (· ==x)=true
 ·rw[if_pos h]
  by_cases e:k=x
  ·subst e;rw[h];simp
  ·simp[e]
 ·rw[if_neg h,List.any_append]
  by_cases e:k=x
  ·subst e;simp
  ·have hb:(x==k)=false:=by simpa[beq_iff_eq]using(λq:x=k=>e q.symm)
   simp[hb,e]
theorem YW(l:List Str)(x:Str):(UQ l x).length=if l.any (· ==x)then l.length else l.length+1:=by unfold UQ;split<;>simp
theorem kA(f:Nat->Str):∀i,(met f i).length<=i
 |0=>ng _
 |i+1=>by
  have:=kA f i;show(UQ (met f i) (f i)).length<=i+1;rw[YW]
  split<;>lia
noncomputable abbrev YX(led:Bool):Obj:={cls:=.type "set",dict:=none,data:=.set #[] 0 (.fresh 0 0 led)}
section
variable {X:Cx}{pins:List (Addr × Obj)}{σ:List (Option V)}{H:Hp}{s:Shared}{h':Heap}
theorem Inv.wv{t':Nat}{ch:List Addr}{T:Addr}{nw:HO}(I:Inv X pins σ H s)(hf:∀b∈ch,VP X pins H b) (k:∀b o,b∉ch->s.heap.get? b=some o->h'.get? b=some o) (hT:s.heap.objs.size<=T)
  (new:QY X.prog X.w (upd H T nw) h' T nw):Inv X pins σ (upd H T nw) {s with heap:=h',toks:=t'}:=by
 have hn:=I.aj.fresh hT;have eA:∀b u,H b=some u->b∉ch:=λb u e z=>by rw[(hf b z).1]at e;cases e
 have nT:∀b o,H b=some o->upd H T nw b=some o:=λb o e=>by rw[Qh (Qn e hn)];exact e
 refine I.step (g':=s.gens) (d':=s.drawn) (ch:=ch) (λb hb=>?_) (λb o _ _ hc e _=>k b o hc e) (λb o _ _ hc e _=>⟨o.slots,k b o hc e⟩) (λb o _ e n=>?_) (λb o hc e=>⟨o,k b o hc e⟩) (λb ys e=>nT b _ e) (λb o u e=>nT b _ e) (λb ps e=>⟨#[],by rw[nT b _ e];simp⟩) (λm hm=>?_) (λb u e=>?_) I.bare
 ·obtain⟨_,f1,_,f3,f4,f5⟩:=hf b hb;exact⟨f3,f1,f4,f5⟩
 ·rw[Qh (λz=>absurd (Heap.lt_size e) (by rw[z];exact Nat.not_lt.mpr hT))];exact n
 ·obtain⟨o,es,ep,ho,r⟩:=hm;exact⟨o,es,ep,k _ o (λz=>(hf _ z).2.1 ae) ho,r⟩
 ·by_cases hb:b=T
  ·subst hb;rw[Qb]at e;cases e;exact new
  ·rw[Qh hb]at e;refine(I.aj b u e).Uz (λc v hc q=>k c v ?_ q) (λc q=>nT c _ q) λc ys q=>nT c _ q;rcases hc with z|z
   ·rw[z];exact eA b u e
   ·exact eA c _ z
end
noncomputable def many(ys:List Str):Nat:=(met (λi=>ys.getD i "") ys.length).length
open AutoSeq1 (wpAny_loadPart')
theorem V6(l:Addr)(ad:Array Value)(n:Nat)(dd:Option Addr)(sl:Array (Option Value))(x:Value)(e:Value->Bool)(j:Nat)(hj:j<ad.size)(hit:e ad[j]=true)(eC:∀m(hm:m<ad.size),m<j->e ad[m]=false):
  Meets (Builtin.«tuple.index» ⟨[.ref l,x],[]⟩) (λA R s=>s.heap.get? l=some ⟨.type "tuple",dd,.seq ad n,sl⟩/\(∀y,y∈ad->SeqAt.EqAt A.in1 s y x (e y))/\R (.ok (.ret (.int j s.toks))) {s with toks:=s.toks+1}):=
 .of_wp λprog w A R s h=>by
  obtain⟨hp,g,d,tk,os⟩:=s;obtain⟨hl,he,h⟩:=h;unfold Builtin.«tuple.index»;simp only[Std.Legacy.Range.forIn_eq_forIn_range']
  wp_walk using wpAny_loadPart' hl,wpAny_forIn_list _ (λrest b s'=>b=(none,())/\s'=⟨hp,g,d,tk,os⟩/\∃i,i<=j/\rest=(List.range' 0 ad.size).drop i) _
  case turn=>
   rintro y rest b s' ⟨rfl,rfl,i,sw,hz⟩;have bi:i<(List.range' 0 ad.size).length:=by rw[List.length_range'];lia
   rw[List.drop_eq_getElem_cons bi]at hz;injection hz with hy SB;obtain rfl:y=i:=by rw[hy,List.getElem_range'];lia
   have x':y<ad.size:=by lia
   rw[Array.getElem?_eq_getElem x'];refine wpAny_bind (he ad[y] (Array.getElem_mem x') prog w _ _ ?_)
   by_cases Ly:y=j
   ·subst Ly;rw[hit]
    wp_walk
    exact⟨_,ae,h⟩
   ·rw[eC y x' (by lia)]
    wp_walk
    exact⟨ae,ae,y+1,by lia,SB⟩
  case fin=>
   rintro b s' ⟨rfl,rfl,i,sw,hz⟩;have bi:i<(List.range' 0 ad.size).length:=by rw[List.length_range'];lia
   rw[List.drop_eq_getElem_cons bi]at hz;cases hz
  case h=>
   refine⟨ae,ae,0,nR _,?_⟩;rw[List.drop_zero]
   congr 1
   simp
theorem ji(ys:List Str):(ys.map V.str).all WR=true:=by
 rw[List.all_eq_true];intro x hx;obtain⟨y,_,rfl⟩:=List.mem_map.mp hx;rfl
section
variable {X:Cx}
theorem jk:uU X "tuple.index" (λx vs H Q=>∃(l:Addr)(ys:List Str)(y:Str)(j:Nat),x=.ref l/\vs=[.str y]/\aN X.K H l (ys.map V.str)/\ys[j]? =some y/\(∀i,i<j->ys[i]? ≠some y)/\Q (.int (j:Nat)) H):=by
 intro pins s σ H x vs v us Q I rx rv h;obtain⟨l,ys,y,j,rfl,rfl,hq,hj,eC,q⟩:=h;obtain rfl:v=Value.ref l:=rx;obtain⟨u,rfl,ru⟩:=vals1 rv;obtain⟨ad,r,p,hl⟩:=I.tuple hq;obtain⟨⟨c,dd,dt,sl⟩,e,hc,n,hd⟩:=p
 replace hc:c=.type "tuple":=hc
 replace hd:dt=.seq ad.toArray n:=hd
 subst hc hd;have fs:=ji ys;have hlen:=r.length;rw[m7]at hlen;have i6:j<ys.length:=(List.getElem?_eq_some_iff.mp hj).1;have at_:∀(i:Nat)(hi:i<ad.toArray.size)(w:Str),ys[i]? =some w->uV (.str y) ad.toArray[i]=dS (.str w) (.str y):=λi hi w hw=>by
  obtain⟨w',e1,q1⟩:=r.get (i:=i) (x:=.str w) (by rw[nE,hw];rfl);have cz:i<ad.length:=by simpa using hi
  rw[List.getElem?_eq_getElem cz]at e1;have z1:ad.toArray[i]=w':=by simpa using nh e1
  rw[z1];exact kn q1 rfl
 have hsz:ad.toArray.size=ys.length:=by rw[nQ];exact hlen.symm
 refine call_meets slot_tuple_index ⟨_,e,ae⟩ entry_tuple_index (args_tuple_index_2 _ _) (V6 l ad.toArray n dd sl u (uV (.str y)) j (by lia) ?_ ?_) ⟨e,λw hw=>YM ru rfl r fs w (by simpa using hw),⟨.int _,H,I.tok _,⟨_,ae⟩,q⟩⟩
 ·rw[at_ j (by lia) y hj];show dS (.str y) (.str y)=true;simp[dS]
 ·intro m hm bi;have h1:ys[m]? =some ys[m]:=List.getElem?_eq_getElem (by lia);rw[at_ m hm _ h1];have:ys[m]≠y:=λz=>eC m bi (by rw[h1,z]);show dS (.str ys[m]) (.str y)=false;simp[dS,this]
end
theorem Lz{lo c:Int}{n:Nat}:Fix (BI lo c n) n (λ_=>True) (λi H v H'=>H'=H/\v=.int (lo+i*c)):=⟨λi H _ h=>h,λH _=>ng _,λi H v H' _ _ y=>y⟩
section
variable {prog:Program}{w:World}{A:Around}{E:Value->Shared->Prop}{s:Shared}
theorem XW:isSubtype (.type "range_iterator") (.type "reversed")=pure false:=by rw[isSubtype_type];kernel_rfl
noncomputable abbrev pP(i j:Int):Obj:={cls:=.type "range_iterator",data:=.fields #[rawInt (i+(Builtin.Range.rangeSize i j 1-1)*1),rawInt (Builtin.Range.rangeSize i j 1),rawInt (-1)]}
theorem ww{r:Addr}{i j:Int}{t u v:Tok}{Q:Value->Shared->Prop}(hr:IsRange s.heap r i j 1 t u v)(b: -(2^40)<=i/\i<2^40/\ -(2^40)<=j/\j<2^40)
  (q:Q (.ref s.heap.objs.size) {s with heap:=s.heap.push (pP i j)}):wpAny (model prog w) A (call (.builtin "range.__reversed__") [.ref r]) Q E s:=by
 have hT:s.TypeIs (.ref r) "range":=⟨_,hr,ae⟩;refine wpAny_call_entry F.slot_range_reversed hT F.entry_range_reversed ?_ (F.args_range_reversed_1 _);have hf:∀x:Int, -(2^41)<=x->x<=2^41->Builtin.Range.rangeFitsLong x=true:=λx h1 h2=>by
  unfold Builtin.Range.rangeFitsLong;rw[m9 (show-(2^63)<=x by lia),m9 (show x<2^63 by lia)];rfl
 have hn:0<=Builtin.Range.rangeSize i j 1/\Builtin.Range.rangeSize i j 1<=2^41:=by
  unfold Builtin.Range.rangeSize;rw[if_pos (by decide)]
  split
  ·rw[Int.ediv_one];lia
  ·lia
 unfold Builtin.«range.__reversed__»;refine wpAny_bind (wpAny_of_eq (a:=Value.ref r) ae ?_);unfold Builtin.Range.rangeFields;refine wpAny_bind (wpAny_bind (wpAny_field hr ae (x:=.int i t) ae ?_));refine wpAny_bind (wpAny_of_eq (a:=some i) ae ?_);refine wpAny_bind (wpAny_field hr ae (x:=.int j u) ae ?_);refine wpAny_bind (wpAny_of_eq (a:=some j) ae ?_);refine wpAny_bind (wpAny_field hr ae (x:=.int 1 v) ae ?_);refine wpAny_bind (wpAny_of_eq (a:=some 1) ae (wpAny_pure ?_));dsimp only;rw[hf i (by lia) (by lia),hf j (by lia) (by lia),hf 1 (by decide) (by decide),hf (-1) (by decide) (by decide),hf (i-1) (by lia) (by lia),hf (Builtin.Range.rangeSize i j 1) (by lia) (by lia)];exact wpAny_bind (wpAny_newObj_type (wpAny_pure ⟨_,ae,q⟩))
theorem W8{r:Addr}{i j:Int}{t u v:Tok}{Q₁:Value->Shared->Prop}(hr:IsRange s.heap r i j 1 t u v)(b: -(2^40)<=i/\i<2^40/\ -(2^40)<=j/\j<2^40)
  (q:Q₁ (.ref s.heap.objs.size) {s with heap:=s.heap.push (pP i j)}):codeAny (model prog w) A (.call (.builtin "reversed.__new__") ⟨[.type "reversed",.ref r],[]⟩) (wants Q₁ E) s:=by
 have hT:s.TypeIs (.ref r) "range":=⟨_,hr,ae⟩;refine codeAny_of_tree ?_;show wpAny _ A.in1 (do checkBuiltinCall "reversed.__new__" ⟨[.type "reversed",.ref r],[]⟩;again (.builtin "reversed.__new__" ⟨[.type "reversed",.ref r],[]⟩)) _ _ s;refine wpAny_bind (wpAny_of_eq (F.newCall_reversed_1 _) (wpAny_pure ⟨plainId_quiet F.plain_reversed_new _,codeAny_builtin F.entry_reversed_new ?_⟩));rw[Around.under_plainId F.plain_reversed_new _];unfold Builtin.«reversed.__new__»;refine wpAny_bind (wpAny_of_eq (newClass_reversed _) ?_)
 try dsimp only
 refine wpAny_bind (wpAny_of_eq (a:=()) (by first|rfl|kernel_rfl) ?_);refine wpAny_bind (wpAny_of_eq (a:=()) (by first|rfl|kernel_rfl) ?_)
 try dsimp only
 refine wpAny_bind (wpAny_specialOf hT F.slot_range_reversed.lookup ?_)
 try dsimp only
 refine wpAny_bind (wpAny_of_eq (F.slot_range_reversed.bind _) ?_)
 try dsimp only
 first
 |rw[if_neg (show ¬ ((Value.builtin "range.__reversed__"==Value.none)=true)from Bool.false_ne_true)]
 |(show wpAny _ _ (if(Value.builtin "range.__reversed__"==Value.none)=true then _ else _) _ _ _;rw[if_neg (show ¬ ((Value.builtin "range.__reversed__"==Value.none)=true)from Bool.false_ne_true)])
 refine wpAny_bind (wpAny_rule ?_);refine wpAny_bind (m:=runValue (.call (.builtin "range.__reversed__") ⟨[.ref r],[]⟩)) (show wpAny _ _ (call (.builtin "range.__reversed__") [.ref r]) _ _ _ from ww hr b ?_)
 first
 |exact wpAny_pure q
 |exact wpAny_bind (wpAny_pure (wpAny_pure q))
theorem W9{r:Addr}{i j:Int}{t u v:Tok}{Q:Value->Shared->Prop}(hr:IsRange s.heap r i j 1 t u v)(b: -(2^40)<=i/\i<2^40/\ -(2^40)<=j/\j<2^40)
  (q:Q (.ref s.heap.objs.size) {s with heap:=s.heap.push (pP i j)}):wpAny (model prog w) A (call (.type "reversed") [.ref r]) Q E s:=by
 refine callType_other (U:="range_iterator") (Q₁:=λobj s₁=>obj=.ref s.heap.objs.size/\s₁={s with heap:=s.heap.push (pP i j)}) (by decide+kernel) F.create_reversed ⟨_,_,F.mro_reversed⟩ F.made_reversed XW (F.typeCall_reversed_1 _) (W8 hr b ⟨ae,ae⟩) ?_;rintro obj s₁ ⟨rfl,rfl⟩;exact⟨⟨_,Heap.get?_push_size _ rfl,ae⟩,q⟩
end
section
variable {X:Cx}{tg:Expr}
noncomputable def LA(ta:TA):TI:=λσ H R=>ta σ H λvs H1=>∃i j:Int,vs=[.int i,.int j]/\(-(2^40)<=i/\i<2^40/\ -(2^40)<=j/\j<2^40)/\R (BI (i+((j-i).toNat:Nat)-1) (-1) (j-i).toNat) H1
theorem jl(i j:Int):Builtin.Range.rangeSize i j 1=(((j-i).toNat:Nat):Int):=by
 unfold Builtin.Range.rangeSize;rw[if_pos (by decide)]
 split<;>simp<;>lia
theorem yi{a b:Expr}{ta:TA}{p p2 pos fb:Pos}(hc:X.calm=true)(hg:Gl X "reversed")(hm:X.mg "reversed"=none)(Ca:Gl X "range")(LB:X.mg "range"=none)(ha:PA X [a,b] ta)(hs:starEach [a,b] X.env=[(false,eval a X.env),(false,eval b X.env)]:=by rfl)(LT:starEach [b] X.env=[(false,eval b X.env)]:=by rfl)
  (i4:starEach [.Call (.Name "range" p2) [a,b] [] fb] X.env=[(false,eval (.Call (.Name "range" p2) [a,b] [] fb) X.env)]:=by rfl):PI X tg (.Call (.Name "reversed" p) [.Call (.Name "range" p2) [a,b] [] fb] [] pos) (LA ta):=by
 intro pins s σ H R I h;refine Call_ (JL I hg hm boot_reversed (PyProof.Rows.callWith_type1 ?_ i4 ae));rw[i4];show wpAny _ _ (spliced ((false,eval (.Call (.Name "range" p2) [a,b] [] fb) X.env)::[])) _ _ s;refine Calls.spliced_cons ?_;refine Call_ (JL I Ca LB boot_range (PyProof.Rows.callWith_type1 (ax (ha fb pins s σ H _ I h) λus s1⟨vs,H1,I1,r1,i,j,e,bd,q⟩=>?_) (by rw[hs,LT]) (by rw[LT];rfl)));subst e;obtain⟨v1,v2,rfl,⟨t,rfl⟩,u,rfl⟩:=vals2 r1;refine call_range_2 (Calls.spliced_nil ?_);have I2:Inv X pins σ H1 {s1 with heap:=s1.heap.push {cls:=.type "range",data:=.fields #[.int i t,.int j u,.int 1 s1.toks]},toks:=s1.toks+1}:=I1.kept λb o e=>Heap.get?_push_of_some _ e;refine W9 (s:={s1 with heap:=s1.heap.push {cls:=.type "range",data:=.fields #[.int i t,.int j u,.int 1 s1.toks]},toks:=s1.toks+1}) (IsRange.new ..) bd ?_;generalize sx:({s1 with heap:=s1.heap.push {cls:=.type "range",data:=.fields #[.int i t,.int j u,.int 1 s1.toks]},toks:=s1.toks+1}:Shared)=s2 at I2;have hit:IsRangeIter (s2.heap.push (pP i j)) s2.heap.objs.size (i+((j-i).toNat:Nat)-1+((0:Nat):Int)*(-1)) ((((j-i).toNat:Nat):Int)-((0:Nat):Int)) (-1):=by
  have e1:i+((j-i).toNat:Nat)-1+((0:Nat):Int)*(-1)=i+(Builtin.Range.rangeSize i j 1-1)*1:=by rw[jl];simp;lia
  have e2:(((j-i).toNat:Nat):Int)-((0:Nat):Int)=Builtin.Range.rangeSize i j 1:=by rw[jl];simp
  rw[e1,e2];exact Heap.get?_push_size _ rfl
 refine wpAny_pyIter_rangeiter (s:={s2 with heap:=s2.heap.push (pP i j)}) hit ?_;refine⟨s2.heap.objs.size,[s2.heap.objs.size],_,_,H1,ae,I2.kept (t':=s2.toks) λb o e=>Heap.get?_push_of_some _ e,V1 _ _ (-1) _,hit,λb hb=>?_,q⟩;obtain rfl:b=s2.heap.objs.size:=by simpa using hb
 exact I2.zM (ng _) (I2.aj.fresh (ng _))
end
section
variable {prog:Program}{w:World}{A:Around}{E:Value->Shared->Prop}{s:Shared}
theorem V7{a c n:Nat}(sy:a<=c)(hc:c=n):sliceBounds (some (a:Int)) none none n=((a:Int),(c:Int),1):=by
 subst hc;simp only[sliceBounds,Option.getD_none];have h1:¬ ((a:Int)<0):=by lia
 simp only[h1,if_false,show(1:Int)>0 by decide,if_true]
 congr 1
 lia
theorem Va{l b sl:Addr}{items new:Array Value}{n n2:Nat}{vl vu:Value}{a c:Nat}{Q:Unit->Shared->Prop}
  (e:s.heap.get? l=some {cls:=.type "list",data:=.seq items n}) (e2:s.heap.get? b=some {cls:=.type "list",data:=.seq new n2}) (Go:l≠b)
  (hs:s.heap.IsSliceOf sl vl vu .none) (pl:IsPart vl (some (a:Int))) (pu:IsPart vu none) (sy:a<=c) (hc:c=items.size)
  (hsz:items.size+new.size<=sizeLine) (h:Q () {s with heap:=s.heap.update l (Obj.mapSeq λxs=>xs.extract 0 a++new++xs.extract c xs.size)}):
  wpAny (model prog w) A (setItem (.ref l) (.ref sl) (.ref b)) Q E s:=by
 have hl:s.heap.IsList l items:=PySem.IsL.isList e;have hb:s.heap.IsList b new:=PySem.IsL.isList e2;obtain⟨os,c5,fG,cG⟩:=id hs;have pH:s.TypeIs (.ref sl) "slice":=⟨os,c5,fG⟩;have sA:¬ ((rawPart none==rawInt 0)=true):=Bool.false_ne_true;have fc:Builtin.List.listSameRef (.ref l) (.ref b)=false:=by
  unfold Builtin.List.listSameRef;exact beq_eq_false_iff_ne.mpr Go
 have Cb:(max (a:Int) (c:Int)).toNat=c:=by lia
 have Cc:((λxs:Array Value=>xs.extract 0 a++new++xs.extract c xs.size) items).size<=sizeLine+1:=by
  simp only[Array.size_append,Array.size_extract];lia
 unfold setItem
 try with_reducible refine wpAny_holding ?_
 first|refine wpAny_bind (wpAny_pure ?_)|skip
 refine wpAny_bind (wpAny_sequenceKey hl.typeIs (by decide) ?_);refine wpAny_bind (wpAny_callSpecial?_slot (name:=Str.ofString "__setitem__") hl.typeIs slot_list_setitem
  (wpAny_call_entry slot_list_setitem hl.typeIs entry_list_setitem ?_ (args_list_setitem _ _ _)))
 show wpAny _ _ (Builtin.List.listSubscript? (.ref sl)>>=_) _ _ s;refine wpAny_bind ?_;unfold Builtin.List.listSubscript?;refine wpAny_bind (wpAny_specialOf pH slice_no_index ?_);simp only[Option.isNone_none,if_true];refine wpAny_pure ?_;show wpAny _ _ (typeOf (.ref sl)>>=_) _ _ s;refine wpAny_bind (wpAny_typeOf pH ?_)
 first
  |rw[if_neg (by decide)]
  |refine PySem.W.KFB.if_not (by decide) ?_
 rw[listSliceParts_eq];refine wpAny_bind (wpAny_bind (wpAny_field c5 cG (x:=.none) ae (wpAny_bind (wpAny_listPart .none ?_))));rw[if_neg sA];refine wpAny_bind (wpAny_field c5 cG (x:=vl) ae (wpAny_bind (wpAny_listPart pl ?_)));refine wpAny_bind (wpAny_field c5 cG (x:=vu) ae (wpAny_bind (wpAny_listPart pu (wpAny_pure ?_))))
 first
  |simp only[fc,Bool.false_eq_true,if_false]
  |refine PySem.W.KFB.if_not fc ?_
  |(dsimp only
    rw[if_neg (by rw[fc];exact Bool.false_ne_true)])
 refine wpAny_bind (m:=Builtin.List.listAllItems (.ref b) "must assign iterable to extended slice") ?_;unfold Builtin.List.listAllItems;refine wpAny_bind (wpAny_typeOf hb.typeIs ?_)
 first
  |refine PySem.W.KFB.if_so (by decide) ?_
  |rw[if_pos (by decide)]
  |simp only[beq_self_eq_true,Bool.true_or,if_true]
 unfold Builtin.List.listItems;refine wpAny_bind (wpAny_seqItems e2 ae (wpAny_pure ?_));refine wpAny_bind (wpAny_bind (wpAny_seqItems e ae (wpAny_pure ?_)));refine wpAny_bind (wpAny_of_eq ((sliceIndices_raw (some (a:Int)) none none items.size (by simp)).trans (congrArg (pure:Int × Int × Int->Sem (Int × Int × Int)) (V7 sy hc))) ?_);show wpAny _ _ (if((1:Int)==1)=true then _ else _) _ _ s;rw[if_pos (by decide)];refine wpAny_bind (wpAny_rule ?_)
 first
  |simp only[Xz hsz,Bool.false_eq_true,if_false]
  |refine PySem.W.KFB.if_not (Xz hsz) ?_
 first|refine wpAny_bind (wpAny_pure ?_)|skip
 show wpAny _ _ (updateSeq l (λxs=>xs.extract 0 ((a:Int)).toNat++new++xs.extract (max (a:Int) (c:Int)).toNat xs.size)>>=_) _ _ s;rw[Cb,nV];refine wpAny_bind (wpAny_updateSeq (hz:=Nat.le_trans (Nat.le_add_right _ _) hsz) (_hz':=Cc) e ae ?_);refine wpAny_bind (wpAny_letGo ?_)
 first
  |exact wpAny_bind (wpAny_pure (wpAny_pure ⟨.none,rfl,wpAny_pure h⟩))
  |exact wpAny_pure ⟨.none,rfl,wpAny_pure h⟩
end
section
variable {X:Cx}
theorem xi{pins:List (Addr × Obj)}{s:Shared}{σ:St}{H:Hp}{l b sl:Addr}{xs ys:List V}{a:Nat}{vl vu:Value}{Q:Unit->Shared->Prop}(I:Inv X pins σ H s)
  (hH:H l=some (.lst xs)) (hB:H b=some (.lst ys)) (Go:l≠b) (hs:s.heap.IsSliceOf sl vl vu .none) (pl:IsPart vl (some (a:Int))) (pu:IsPart vu none) (sy:a<=xs.length) (hz:xs.length+ys.length<=sizeLine) (h:∀s',Inv X pins σ (upd H l (.lst (xs.take a++ys))) s'->Q () s'):
  wpAny (model X.prog X.w) X.A (setItem (.ref l) (.ref sl) (.ref b)) Q X.xe s:=by
 obtain⟨z,ad,n,r,hl,e⟩:=I.ko hH;obtain⟨z2,bn,n2,r2,AC,e2⟩:=I.ko hB;refine Va (a:=a) (c:=ad.length) e e2 Go hs pl pu (by lia) (by rw[nQ]) (by rw[nQ,nQ];lia) (h _ ?_);refine I.Bz (its':=ad.take a++bn++ad.drop ad.length) (t':=s.toks) hH e ?_ ?_ ?_
 ·exact qK ad bn a ad.length
 ·rw[List.drop_length,nJ];exact Vals.append (r.take _) r2
 ·rw[m5,nB];lia
noncomputable def LC(to:TE)(tl:TO)(tv:TE):TS:=λD σ H=>tv σ H λv H1=>to σ H1 λx H2=>tl σ H2 λy H3=>∃(l b:Addr)(xs ys:List V)(a:Nat),x=.ref l/\v=.ref b/\y=some ((a:Nat):Int)/\H3 l=some (.lst xs)/\H3 b=some (.lst ys)/\l≠b/\a<=xs.length/\xs.length+ys.length<=sizeLine/\D.nx σ (upd H3 l (.lst (xs.take a++ys)))
theorem wz{o value:Expr}{lo:Option Expr}{to tv:TE}{tl:TO}{p2 pos' pos:Pos}(ho:PE X o to)(hl:PO X lo tl)(hv:PE X value tv)(hs:swapsWith value (some (.Subscript o (.Slice lo none none p2) pos')) pos.line X.env=pure false):
  PS X (.Assign [.Subscript o (.Slice lo none none p2) pos'] value pos) (LC to tl tv):=by
 intro pins s σ H D I h;refine wpAny_Assign_Subscript (ax (hv pins s σ H _ I h) λr s1⟨v,H1,I1,rv,q1⟩=>ax (ho pins s1 σ H1 _ I1 q1) λu s2⟨x,H2,I2,rx,q2⟩=>?_) hs;refine wpAny_Slice (ax (hl pins s2 σ H2 _ I2 q2) λvl s3⟨lo,H3,I3,pl,l,b,xs,ys,a,ex,ev,LD,hL,hB,ne,sy,hz,q3⟩=>?_);subst ex ev LD;obtain rfl:u=Value.ref l:=rx;obtain rfl:r=Value.ref b:=rv;rw[evalPart_none];refine wpAny_pure (wpAny_pure ?_);have I4:Inv X pins σ H3 {s3 with heap:=s3.heap.push {cls:=.type "slice",data:=.fields #[vl,.none,.none]}}:=I3.kept (t':=s3.toks) λb ob q=>Heap.get?_push_of_some _ q;exact xi I4 hL hB ne (Heap.IsSliceOf.new ..) pl .none sy hz λs5 I5=>⟨σ,_,I5,q3⟩
noncomputable def LG:yY:=λo i v H Q=>∃a H4,o=.ref a/\qP H a i v H4/\Q H4
theorem set_dict(hu:X.A.units+1<cLine):E8 X LG:=by
 intro pins s σ H o i v ov iv u Q I ro ri rv h;obtain⟨a,H4,rfl,g,q⟩:=h;cases ro;exact WV hu I g ri rv λs4 I4=>⟨H4,I4,q⟩
end
theorem af.xj{H:Hp}{l:Addr}{o o':HO}{v:List V}{d:List Dv}(h:af H v d)(e:H l=some o)(n1:∀ys,o≠ .tup ys):af (upd H l o') v d:=
 h.keep (λb ys q=>by rw[Qh (vM q e λz=>n1 ys z.symm)];exact q)
theorem ag.Aa{H:Hp}{v:V}{x:Str}(h:ag H v (.str x)):v=.str x:=by cases h;rfl
theorem ag.Ac{H:Hp}{v:V}{i:Int}(h:ag H v (.int i)):v=.int i:=by cases h;rfl
theorem ag.Za{H:Hp}{v:V}{ds:List Dv}(h:ag H v (.tup ds)):∃a xs,v=.ref a/\H a=some (.tup xs)/\af H xs ds:=by cases h with|tup h t=>exact⟨_,_,ae,h,t⟩
noncomputable def cb(ys:List Str):List Dv:=ys.map Dv.str
theorem af.strs{H:Hp}:∀{xs:List V}{ys:List Str},af H xs (cb ys)->xs=ys.map V.str
 |_,[],.nil=>rfl
 |_,y::ys,.cons h t=>by
  obtain rfl:=h.Aa;rw[af.strs (ys:=ys) t];rfl
theorem af.V8{H:Hp}:∀(ys:List Str),af H (ys.map V.str) (cb ys)
 |[]=>.nil
 |y::ys=>.cons .str (af.V8 ys)
theorem wA{A:Around}{k:Nat}(hr:JC k A):A.units+8<cLine:=Nat.lt_of_le_of_lt (by lia:A.units+8<=A.units+64) hr.units
section
variable {prog:Program}{w:World}{A:Around}{E:Value->Shared->Prop}{s:Shared}
theorem xm(t b:Addr)(ys:Array Value)(n n2:Nat)(dd bU:Option Addr)(sl bV:Array (Option Value)):
  Meets (Builtin.«tuple.__add__» ⟨[.ref t,.ref b],[]⟩) (λ_ R s=>s.heap.get? t=some ⟨.type "tuple",dd,.seq #[] n,sl⟩/\s.heap.get? b=some ⟨.type "tuple",bU,.seq ys n2,bV⟩/\R (.ok (.ret (.ref b))) s):=
 .of_wp λprog w A R s h=>by
  obtain⟨hp,g,d,tk,os⟩:=s;obtain⟨hl,hb,h⟩:=h;have f2:=AutoSeq1.sub_tuple_tuple
  wp_walk using wpAny_loadPart' hl,wpAny_loadPart' hb
  exact⟨_,ae,h⟩
theorem xn{t b:Addr}{ws:List Value}{Q:Value->Shared->Prop}(ht:IsTup s.heap t #[])(hb:IsTup s.heap b ws.toArray)(q:Q (.ref b) s):wpAny (model prog w) A (binaryOp .Add (.ref t) (.ref b)) Q E s:=by
 obtain⟨⟨cls,dd,data,sl⟩,ho,hc,n,hd⟩:=id ht;obtain⟨⟨lT,bU,data2,bV⟩,IO,Fa,n2,hd2⟩:=id hb;simp only at hc hd Fa hd2;subst hc hd Fa hd2;exact concat_meets ⟨_,ho,ae⟩ ⟨_,IO,ae⟩ noFill_tuple_add seq_tuple_add slot_tuple_add entry_tuple_add (args_tuple_add_2 _ _) (xm t b ws.toArray n n2 dd bU sl bV) ⟨ho,IO,q⟩
open HT in
theorem jm{t sl:Addr}{ad:Array Value}{vl vu:Value}{lo hi:Option Int}{Q:Value->Shared->Prop}(ht:IsTup s.heap t ad)(hs:s.heap.IsSliceOf sl vl vu .none)(pl:IsPart vl lo)(pu:IsPart vu hi)(hw:aD ad.size 0 lo=0/\aD ad.size ad.size hi=ad.size)(q:Q (.ref t) s):
  wpAny (model prog w) A (getItem (.ref t) (.ref sl)) Q E s:=by
 obtain⟨os,c5,fG,cG⟩:=id hs;have pH:s.TypeIs (.ref sl) "slice":=⟨os,c5,fG⟩;unfold getItem
 try with_reducible refine wpAny_holding ?_
 first|refine wpAny_bind (wpAny_pure ?_)|skip
 refine wpAny_bind (wpAny_sequenceKey ht.typeIs (by decide) ?_);refine wpAny_bind (wpAny_callSpecial?_slot (name:=Str.ofString "__getitem__") ht.typeIs PyProof.Rows.slot_tuple_getitem (wpAny_call_entry PyProof.Rows.slot_tuple_getitem ht.typeIs entry_tuple_getitem ?_ (args_tuple_getitem _ _)));show wpAny _ _ (Builtin.Tuple.tupleItemsOf (.ref t)>>=_) _ _ s;refine wpAny_bind (tupleItemsOf_ ht ?_);refine wpAny_bind (wpAny_typeOf pH ?_);rw[if_pos (by decide)];refine wpAny_bind (JY hs pl pu ?_);rw[hw.1,hw.2];show wpAny _ _ (if(((0:Nat):Int)==0&&(1:Int)==1&&(ad.size-0)==ad.size)=true then _ else _) _ _ s;rw[if_pos (by simp)];obtain⟨⟨cls,dd,data,E3⟩,ho,hc,n,hd⟩:=id ht;simp only at hc hd;subst hc hd
 wp_walk using wpAny_loadPart' ho
 exact⟨_,ae,wpAny_pure q⟩
end
section
variable {X:Cx}
theorem xp:aU X (binaryOp .Add) (λx y H Q=>∃a b ys,x=.ref a/\y=.ref b/\Rd H a (.tup [])/\Rd H b (.tup ys)/\Q (.ref b) H):=by
 intro pins s σ H x y v u Q I rx ry h;obtain⟨a,b,ys,rfl,rfl,ha,hb,q⟩:=h;cases rx;cases ry;obtain⟨ad,r1,p1,_⟩:=I.tuple (.inl ha);obtain⟨bn,r2,p2,_⟩:=I.tuple (.inl hb);obtain rfl:ad=[]:=r1.KY.mpr rfl;exact xn p1 p2 ⟨.ref b,H,I,ae,q⟩
noncomputable def xq:R2:=λx y H Q=>∃a b xs ys,x=.ref a/\y=.ref b/\Rd H a (.tup xs)/\Rd H b (.tup ys)/\xs.length+ys.length<=sizeLine/\(xs=[]->Q (.ref b) H)/\(xs≠[]->ys=[]->Q (.ref a) H)/\(xs≠[]->ys≠[]->∀p,H p=none->Q (.ref p) (upd H p (.tup (xs++ys))))
theorem wB:aU X (binaryOp .Add) xq:=by
 intro pins s σ H x y v u Q I rx ry h;obtain⟨a,b,xs,ys,rfl,rfl,ha,hb,hz,q0,q1,q2⟩:=h
 by_cases hx:xs=[]
 ·subst hx;exact xp pins s σ H _ _ v u Q I rx ry ⟨a,b,ys,ae,ae,ha,hb,q0 rfl⟩
 ·exact we pins s σ H _ _ v u Q I rx ry ⟨a,b,xs,ys,ae,ae,.inl ha,.inl hb,hx,hz,q1 hx,q2 hx⟩
theorem xq.deep{x y:V}{H:Hp}{Q:VK}{ds es:List Dv}(hx:ag H x (.tup ds))(hy:ag H y (.tup es))(hz:ds.length+es.length<=sizeLine)(k:∀v H',Qi H H'->ag H' v (.tup (ds++es))->Q v H'):xq x y H Q:=by
 obtain⟨a,xs,rfl,h1,t1⟩:=hx.Za;obtain⟨b,ys,rfl,h2,t2⟩:=hy.Za;have l1:=t1.length;have l2:=t2.length;refine⟨a,b,xs,ys,ae,ae,.inl h1,.inl h2,by lia,λz=>?_,λ_ z=>?_,λ_ _ p hp=>?_⟩
 ·subst z;obtain rfl:ds=[]:=List.length_eq_zero_iff.mp l1.symm;exact k _ _ (Qi.refl _) hy
 ·subst z;obtain rfl:es=[]:=List.length_eq_zero_iff.mp l2.symm;rw[nJ]at k;exact k _ _ (Qi.refl _) hx
 ·have S:=Qi.new (o:=.tup (xs++ys)) hp;exact k _ _ S (.tup Qb ((t1.same S).append (t2.same S)))
theorem Qj:rR X (λx y H Q=>∃p xs i v,x=.ref p/\y=.int i/\Rd H p (.tup xs)/\bW xs i=some v/\Q v H):=λvalue slice pins s σ H x y v u Q I rx ry⟨p,xs,i,z,e1,e2,hq,he,q⟩ hs=>WP value slice pins s σ H x y v u Q I rx ry ⟨p,xs,i,z,e1,e2,.inl hq,he,q⟩ hs
theorem K7:rR X (λx y H Q=>∃p xs i v,x=.ref p/\y=.int i/\Rd H p (.lst xs)/\bW xs i=some v/\Q v H):=λvalue slice pins s σ H x y v u Q I rx ry⟨p,xs,i,z,e1,e2,hq,he,q⟩ hs=>qI value slice pins s σ H x y v u Q I rx ry ⟨p,xs,i,z,e1,e2,.inl hq,he,q⟩ hs
noncomputable def kB:V->Option Int->Option Int->Hp->VK->Prop:=λx lo hi H Q=>∃a xs,x=.ref a/\Rd H a (.tup xs)/\((HT.aD xs.length 0 lo=0/\HT.aD xs.length xs.length hi=xs.length)->Q (.ref a) H)/\(¬ (HT.aD xs.length 0 lo=0/\HT.aD xs.length xs.length hi=xs.length)->∀p,H p=none->Q (.ref p) (upd H p (.tup (WE xs lo hi))))
theorem jn:uT X kB:=by
 intro pins s σ H x v vl vu lo hi sl Q I rx hs pl pu h;obtain⟨a,xs,rfl,hx,q1,q2⟩:=h
 by_cases hw:HT.aD xs.length 0 lo=0/\HT.aD xs.length xs.length hi=xs.length
 ·cases rx;obtain⟨ad,r,ht,hz⟩:=I.tuple (.inl hx);have hlen:ad.toArray.size=xs.length:=by rw[nQ];exact r.length.symm
  exact⟨"tuple",_,PyProof.Rows.slot_tuple_getitem.lookup,ht.typeIs,jm ht hs pl pu (by rw[hlen];exact hw) ⟨.ref a,H,I,ae,q1 hw⟩⟩
 ·exact vW pins s σ H (.ref a) v vl vu lo hi sl Q I rx hs pl pu ⟨a,xs,ae,.inl hx,hw,q2 hw⟩
theorem xt(xs:List V)(a c:Nat):WE xs (some (a:Int)) (some (c:Int))=(xs.take c).drop a:=by
 unfold WE;rw[HT.J3,HT.J3,List.drop_take]
 by_cases h:a<=xs.length
 ·rw[show min a xs.length=a by lia];apply List.ext_getElem?;intro i;rw[List.getElem?_take,List.getElem?_take]
  by_cases h1:i<min c xs.length-a
  ·rw[if_pos h1,if_pos (by lia)]
  ·rw[if_neg h1]
   by_cases h2:i<c-a
   ·rw[if_pos h2,List.getElem?_drop,List.getElem?_eq_none (by lia)]
   ·rw[if_neg h2]
 ·rw[show min a xs.length=xs.length by lia,List.drop_length,List.take_nil,List.drop_of_length_le (by lia),List.take_nil]
theorem kB.deep{x:V}{lo:Nat}{hi:Nat}{H:Hp}{Q:VK}{ds:List Dv}(hx:ag H x (.tup ds))(k:∀v H',Qi H H'->ag H' v (.tup ((ds.take hi).drop lo))->Q v H'):kB x (some (lo:Int)) (some (hi:Int)) H Q:=by
 obtain⟨a,xs,rfl,h1,t1⟩:=hx.Za;have l1:=t1.length;refine⟨a,xs,ae,.inl h1,λz=>?_,λ_ p hp=>?_⟩
 ·rw[HT.J3,HT.J3]at z;refine k _ _ (Qi.refl _) ?_;have e:(ds.take hi).drop lo=ds:=by
   by_cases h0:ds=[]
   ·rw[h0];simp
   ·have:0<ds.length:=List.length_pos_iff.mpr h0;rw[List.take_of_length_le (by lia),show lo=0 by lia,List.drop_zero]
  rw[e];exact hx
 ·have S:=Qi.new (o:=.tup (WE xs (some (lo:Int)) (some (hi:Int)))) hp;have t2:af H (WE xs (some (lo:Int)) (some (hi:Int))) ((ds.take hi).drop lo):=by
   rw[xt];exact(t1.take hi).drop lo
  exact k _ _ S (.tup Qb (t2.same S))
theorem KC:uU X "tuple.index" (λx vs H Q=>∃(l:Addr)(ys:List Str)(y:Str)(j:Nat),x=.ref l/\vs=[.str y]/\Rd H l (.tup (ys.map V.str))/\ys[j]? =some y/\(∀i,i<j->ys[i]? ≠some y)/\Q (.int (j:Nat)) H):=λpins s σ H x vs v us Q I rx rv⟨l,ys,y,j,e1,e2,hq,hj,eC,q⟩=>jk pins s σ H x vs v us Q I rx rv ⟨l,ys,y,j,e1,e2,.inl hq,hj,eC,q⟩
noncomputable def LH:Dv->String
 | .ah=>"NoneType"
 | .bl _=>"bool"
 | .int _=>"int"
 | .str _=>"str"
 | .tup _=>"tuple"
end
theorem ag.ty{K:Frag}{H:Hp}{v:V}{d:Dv}(h:ag H v d):aX K H v (.type (LH d)):=by
 cases h with
 |ah=>exact .ah
 |bl=>exact .bl _
 |int=>exact .int _
 |str=>exact .str _
 |tup h t=>exact .tup h
end L2
namespace ay
noncomputable def az(m:Int):Int:=10^m.toNat
noncomputable def VJ(i:Int):Int:=if i<0 then-i else i
noncomputable def kC(a b:Int):Int:=if decide (a<0) !=decide (b<0)then-(VJ a/VJ b)else VJ a/VJ b
noncomputable def yj(u o p:Int):Int:=kC (u*az (p-o)) (az (o-p))
theorem JR(m:Int):0<az m:=Int.pow_pos (by decide)
theorem jo{m:Int}(h:m<=0):az m=1:=by
 unfold az;rw[Int.toNat_of_nonpos h];rfl
theorem jp{a b:Int}(ha:0<=a)(hb:0<=b):az (a+b)=az a*az b:=by
 unfold az;rw[Int.toNat_add ha hb,Int.pow_add]
theorem xw{i t:Int}(ht:0<t):VJ (i*t)=VJ i*t:=by
 unfold VJ
 by_cases h:i<0
 ·rw[if_pos h,if_pos (Int.mul_neg_of_neg_of_pos h ht),Int.neg_mul]
 ·rw[if_neg h,if_neg (Int.not_lt.mpr (Int.mul_nonneg (Int.not_lt.mp h) (Int.le_of_lt ht)))]
theorem V9{t:Int}(ht:0<t):VJ t=t:=by unfold VJ;rw[if_neg (by lia)]
theorem lt_mul{i t:Int}(ht:0<t):decide (i*t<0)=decide (i<0):=by
 by_cases h:i<0
 ·rw[m9 h,m9 (Int.mul_neg_of_neg_of_pos h ht)]
 ·rw[m8 h,m8 (Int.not_lt.mpr (Int.mul_nonneg (Int.not_lt.mp h) (Int.le_of_lt ht)))]
theorem xx{u t b:Int}(ht:0<t)(hb:0<b):kC (u*t) b=if u<0 then-(VJ u*t/b)else VJ u*t/b:=by
 unfold kC;rw[lt_mul ht,xw ht,V9 hb,m8 (Int.not_lt.mpr (Int.le_of_lt hb))]
 by_cases h:u<0
 ·rw[m9 h,if_pos h];rfl
 ·rw[m8 h,if_neg h];rfl
theorem jq{u o p:Int}(h:o<=p):yj u o p=u*az (p-o):=by
 unfold yj;rw[jo (show o-p<=0 by lia),xx (JR _) (by decide),Int.ediv_one];unfold VJ
 split
 ·rw[Int.neg_mul];lia
 ·rfl
theorem YY{u o p:Int}(h1:o<=p)(h2:p<=18):u*az (p-o)*az (18-p)=u*az (18-o):=by
 rw[Int.mul_assoc, ←jp (by lia) (by lia),show p-o+(18-p)=18-o by lia]
theorem YZ{a b t:Int}(ht:0<t):(a*t=b*t)↔a=b:=⟨λh=>Int.eq_of_mul_eq_mul_right (Int.ne_of_gt ht) h,λh=>by rw[h]⟩
theorem yk{a b:Int}(h:a<=b)(hb:0<=b):az a<=az b:=by
 by_cases ha:0<=a
 ·rw[show b=a+(b-a) by lia,jp ha (by lia)];have:=JR (b-a);have h2:=JR a
  calc az a=az a*1:=(Int.mul_one _).symm
   _<=az a*az (b-a):=Int.mul_le_mul_of_nonneg_left (by lia) (Int.le_of_lt h2)
 ·rw[jo (by lia)];have:=JR b;lia
end ay
namespace Lw
open PySem PySem.Spec PyProof.Rows L2
noncomputable def top(i:Nat):Stmt:=PySem.Challenge.pw_boxmoves_k35_whole_sums_of_breaks.main.body.getD i (.Pass ⟨0,0,0,0⟩)
noncomputable abbrev K8:Stmt:=top 1
theorem ZO:ai ["many","power","turn"] ["many"] (Qd K8):=by constructor<;>decide+kernel
noncomputable abbrev s_same:Stmt:=top 3
theorem K9:ai ["one","other","first","second","places"] ["one","other"] (Qd s_same):=by constructor<;>decide+kernel
noncomputable abbrev Ya:Stmt:=top 4
theorem XB:ai ["one","other","first","second","places"] ["one","other"] (Qd Ya):=by constructor<;>decide+kernel
noncomputable abbrev wC:Stmt:=top 5
theorem jr:ai ["amount","places","units","own"] ["amount","places"] (Qd wC):=by constructor<;>decide+kernel
noncomputable abbrev Z1:Stmt:=top 6
theorem XX:ai ["one","other","places"] ["one","other"] (Qd Z1):=by constructor<;>decide+kernel
noncomputable abbrev JI:Stmt:=top 7
theorem Zb:ai ["number","by","quotient"] ["number","by"] (Qd JI):=by constructor<;>decide+kernel
noncomputable abbrev Wa:Stmt:=top 9
theorem Jo:ai ["plan","rows","keys","lines","since","at","row","first"] ["plan","rows"] (Qd Wa):=by constructor<;>decide+kernel
noncomputable abbrev Q9:Stmt:=top 10
theorem ZC:ai ["plan","rows","places","spots"] ["plan","rows"] (Qd Q9):=by constructor<;>decide+kernel
noncomputable abbrev XY:Stmt:=top 11
theorem UR:ai ["value"] ["value"] (Qd XY):=by constructor<;>decide+kernel
noncomputable abbrev Z2:Stmt:=top 12
theorem XZ:ai ["plan","names","columns"] ["plan","names"] (Qd Z2):=by constructor<;>decide+kernel
noncomputable abbrev X0:Stmt:=top 13
theorem US:ai ["plan"] ["plan"] (Qd X0):=by constructor<;>decide+kernel
noncomputable abbrev Z3:Stmt:=top 14
theorem Yb:ai ["plan","amounts","row"] ["plan","amounts","row"] (Qd Z3):=by constructor<;>decide+kernel
noncomputable abbrev X1:Stmt:=top 15
theorem Zn:ai ["plan","rows","amounts","row"] ["plan","rows"] (Qd X1):=by constructor<;>decide+kernel
noncomputable abbrev JS:Stmt:=top 16
theorem JJ:ai ["plan","one","other","level","at"] ["plan","one","other"] (Qd JS):=by constructor<;>decide+kernel
noncomputable abbrev Z4:Stmt:=top 17
theorem Yc:ai ["one","other"] ["one","other"] (Qd Z4):=by constructor<;>decide+kernel
noncomputable abbrev js:Stmt:=top 18
theorem Yd:ai ["plan","row","since","first","keys","values"] ["plan","row","since","first"] (Qd js):=by constructor<;>decide+kernel
noncomputable abbrev jt:Stmt:=top 19
theorem wD:ai ["value","places"] ["value","places"] (Qd jt):=by constructor<;>decide+kernel
noncomputable abbrev ZD:Stmt:=top 21
theorem Jp:ai ["_law_script","_law_town","_law_many","_law_at","_law_rest","_law_number"] ["_law_script","_law_town","_law_many"] (Qd ZD):=by constructor<;>decide+kernel
noncomputable abbrev Zc:Stmt:=top 22
theorem Wb:ai [] [] (Qd Zc):=by constructor<;>decide+kernel
noncomputable abbrev JT:Stmt:=top 23
theorem QC:ai ["_law_script","_law_town","_law_keys","_law_sums","_law_columns","_law_rows","_law_k","_law_row"] ["_law_script","_law_town"] (Qd JT):=by constructor<;>decide+kernel
noncomputable abbrev ZE:Stmt:=top 24
theorem Q1:ai ["_law_one","_law_two","_law_found","_law_first","_law_second","_law_far","_law_units"] ["_law_one","_law_two"] (Qd ZE):=by constructor<;>decide+kernel
noncomputable abbrev ZF:Stmt:=top 26
theorem Vb:ai ["_law_part"] ["_law_part"] (Qd ZF):=by constructor<;>decide+kernel
noncomputable abbrev ZG:Stmt:=top 27
theorem Xp:ai ["_law_plan","_law_rows","_law_word_so","_law_lines"] ["_law_plan","_law_rows","_law_word_so"] (Qd ZG):=by constructor<;>decide+kernel
noncomputable abbrev JD:Stmt:=top 28
theorem Q2:ai ["_law_script","_law_town","_law_plan","_law_rows","_law_columns","_law_keys","_law_sums","_law_size","_law_at","_law_due","_law_mixed","_law_turn","_law_final","_law_word_so","_law_one","_law_two","_law_whole","_law_first","_law_second","_law_unlike","_law_ranks"] ["_law_script"] (Qd JD):=by constructor<;>decide+kernel
section
variable {P:Program}{w:World}{K:Frag}{mg:Str->Option Value}{base:Heap}{f:Addr}{fd:FuncData}
noncomputable def wE:Sp:=λvs H Q _=>∃m:Int,vs=[.int m]/\ -(2^62)<=m/\m<2^62/\Q (.int (ay.az m)) H
theorem ju(F:aQ K "ten_to" "ten_to" K8 f fd)(O:Own mg):aw P w K mg base (aE P w) 1 f fd ["many"] wE:=by
 refine okN F ZO (λvs H Q E h=>?_) (λbv A outer s H vs Q E hr h=>?_)
 ·obtain⟨m,rfl,_⟩:=h;rfl
 ·obtain⟨m,rfl,h1,h2,k⟩:=h;refine⟨_,(Qe (Qz (i:=1) ZO.nd ae (Or.inl ae) Qf)
   (Qe (Xh PassesOwn.never ae (WI ae O.range (Qa (pv 0) Qc)) (Qg (i:=2) ZO.nd ae (Or.inl ae)) (Qk (Qz (i:=1) ZO.nd ae (Or.inl ae) (QF qx (pv 1) Qf))))
   (Qk (Qy (pv 1))))),?_⟩
  refine⟨_,ae,m,ae,h1,h2,qw (n:=m.toNat) (λi σ H2=>∃v,σ=[some (.int m),some (.int (10^i)),v]/\H2=H) ⟨none,ae,ae⟩ ?_ ?_⟩
  ·rintro i σ H2 hi ⟨v,rfl,rfl⟩;refine⟨_,ae,_,_,ae,ae,.inr ⟨by decide,by decide⟩,?_⟩;exact⟨_,by rw[Int.pow_succ];rfl,ae⟩
  ·rintro σ H2 ⟨v,rfl,rfl⟩;exact⟨_,ae,k⟩
noncomputable def jv:Sp:=λvs H Q _=>∃a b:Int,vs=[.int a,.int b]/\b≠0/\b.natAbs<2^2000/\Q (.int (ay.kC a b)) H
theorem jw{b:Int}{n:Nat}(h:b.natAbs<n):(if b<0 then-b else b).natAbs<n:=by split<;>lia
theorem wF{b:Int}(h:b≠0):0<(if b<0 then-b else b):=by split<;>lia
theorem X2(F:aQ K "quotient_cut" "quotient_cut" JI f fd)(O:Own mg):aw P w K mg base (aE P w) 1 f fd ["number","by"] jv:=by
 refine okN F Zb (λvs H Q E h=>?_) (λbv A outer s H vs Q E hr h=>?_)
 ·obtain⟨a,b,rfl,_⟩:=h;rfl
 ·obtain⟨a,b,rfl,h1,h2,k⟩:=h;refine⟨_,(Qe (Qz (i:=2) Zb.nd ae (Or.inl ae) (QF z0 (QW YK ae O.abs boot_abs (Qa (pv 0) Qc)) (QW YK ae O.abs boot_abs (Qa (pv 1) Qc))))
   (Qk (Qy (Xw (Ji IA (KS vP (pv 0) Qf (Jm _)) (KS vP (pv 1) Qf (Jm _)) (Jm _)) (zP YI (pv 2)) (pv 2))))),?_⟩
  refine⟨_,ae,a,ae,_,ae,b,ae,_,_,ae,ae,⟨wF h1,jw h2⟩,?_⟩;refine⟨_,ae,_,_,ae,ae,_,ae,_,_,ae,ae,ae,_,ae,?_⟩;refine iW (λz=>?_) (λz=>?_)
  ·refine⟨_,ae,_,ae,?_⟩;have e:ay.kC a b= -(ay.VJ a/ay.VJ b):=by unfold ay.kC;rw[if_pos (by rw[←ya];exact z)]
   rw[e]at k;exact k
  ·refine⟨_,ae,?_⟩;have e:ay.kC a b=ay.VJ a/ay.VJ b:=by unfold ay.kC;rw[if_neg (by rw[←ya];exact λq=>Bool.noConfusion (z.symm.trans q))]
   rw[e]at k;exact k
structure dY(K:Frag)(H:Hp)(a:Addr)(u o:Int):Prop where
 sq:aN K H a [.int u,.int o]
 bd:u.natAbs<2^200
 lo:0<=o
 hi:o<=18
theorem dY.same{H H':Hp}{a:Addr}{u o:Int}(A:dY K H a u o)(e:Qi H H'):dY K H' a u o:=⟨A.sq.same e,A.bd,A.lo,A.hi⟩
theorem Zd{m:Int}(h:m<=40):(ay.az m).natAbs<2^200:=by
 have h1:=ay.yk (a:=m) (b:=40) h (by decide);have h2:=ay.JR m;have h3:ay.az 40<2^200:=by decide
 lia
theorem big{a:Int}(h:a.natAbs<2^200):a.natAbs<2^2000:=Nat.lt_of_lt_of_le h (by decide)
noncomputable def xy(K:Frag):Sp:=λvs H Q _=>∃(a:Addr)(u o p:Int),vs=[.ref a,.int p]/\dY K H a u o/\0<=p/\p<=18/\∀q,H q=none->Q (.ref q) (upd H q (.tup [.int (ay.yj u o p),.int p]))
theorem yl(F:aQ K "cut" "cut" wC f fd)(O:Own mg)(ma:Def P w K mg base 1 "ten_to" ["many"] wE)(gD:Def P w K mg base 1 "quotient_cut" ["number","by"] jv):aw P w K mg base (aE P w) 2 f fd ["amount","places"] (xy K):=by
 refine okN F jr (λvs H Q E h=>?_) (λbv A outer s H vs Q E hr h=>?_)
 ·obtain⟨a,u,o,p,rfl,_⟩:=h;rfl
 ·obtain⟨a,u,o,p,rfl,M,h1,h2,k⟩:=h;have b1:=M.lo;have b2:=M.hi;refine⟨_,(Qe (Kw (pv 0) (JX ae (Ql (Qg (i:=2) jr.nd ae (Or.inl ae)) (Ql (Qg (i:=3) jr.nd ae (Or.inl ae)) Q8))))
   (Qk (Qy (QV (Qa (gD.pe hr (by decide) ae Qm (Qa (QF K2 (pv 2) (ma.pe hr (by decide) ae Qm (Qa (QF ZL (pv 1) (pv 3)) Qc))) (Qa (ma.pe hr (by decide) ae Qm (Qa (QF ZL (pv 3) (pv 1)) Qc)) Qc))) (Qa (pv 1) Qc)))))),?_⟩
  refine⟨_,ae,a,_,ae,M.sq,ae,_,_,ae,_,_,ae,ae,?_⟩;refine⟨_,ae,_,ae,_,ae,_,_,ae,ae,_,ae,by lia,by lia,_,_,ae,ae,⟨big M.bd,big (Zd (by lia))⟩,?_⟩;refine⟨_,ae,_,ae,_,_,ae,ae,_,ae,by lia,by lia,?_⟩;refine⟨_,_,ae,Int.ne_of_gt (ay.JR _),big (Zd (by lia)),?_⟩;exact⟨_,ae,by show 2<=sizeLine;decide,k⟩
noncomputable def mx(o o':Int):Int:=if o'>o then o' else o
theorem wG(o o':Int):o<=mx o o':=by unfold mx;split<;>lia
theorem vF(o o':Int):o'<=mx o o':=by unfold mx;split<;>lia
theorem Yf{o o' n:Int}(h1:o<=n)(h2:o'<=n):mx o o'<=n:=by unfold mx;split<;>lia
noncomputable def Wc(K:Frag):Sp:=λvs H Q _=>∃(a b:Addr)(u o v o':Int),vs=[.ref a,.ref b]/\dY K H a u o/\dY K H b v o'/\
 ∀q H',Qi H H'->H q=none->H' q=some (.tup [.int (u*ay.az (mx o o'-o)),.int (v*ay.az (mx o o'-o')),.int (mx o o')])->Q (.ref q) H'
theorem Yg(F:aQ K "lined_up" "lined_up" Z1 f fd)(O:Own mg)(ml:Def P w K mg base 2 "cut" ["amount","places"] (xy K)):aw P w K mg base (aE P w) 3 f fd ["one","other"] (Wc K):=by
 refine okN F XX (λvs H Q E h=>?_) (λbv A outer s H vs Q E hr h=>?_)
 ·obtain⟨a,b,u,o,v,o',rfl,_⟩:=h;rfl
 ·obtain⟨a,b,u,o,v,o',rfl,M1,M2,k⟩:=h;have b1:=M1.lo;have b2:=wG o o';have b3:=Yf M1.hi M2.hi;refine⟨_,(Qe (Qz (i:=2) XX.nd ae (Or.inl ae) (QW (WK ae) ae O.max boot_max (Qa (Qv WP (pv 0) Qf (λ_ _=>rfl)) (Qa (Qv WP (pv 1) Qf (λ_ _=>rfl)) Qc))))
   (Qk (Qy (QV (Qa (Qv WP (ml.pe hr (by decide) ae Qm (Qa (pv 0) (Qa (pv 2) Qc))) Qf (λ_ _=>rfl)) (Qa (Qv WP (ml.pe hr (by decide) ae Qm (Qa (pv 1) (Qa (pv 2) Qc))) Qf (λ_ _=>rfl)) (Qa (pv 2) Qc))))))),?_⟩
  refine⟨_,ae,a,_,_,_,ae,ae,M1.sq,ae,_,ae,b,_,_,_,ae,ae,M2.sq,ae,o,o',ae,?_⟩;refine⟨_,ae,_,ae,a,u,o,mx o o',ae,M1,by lia,b3,λq1 h1=>⟨q1,_,_,_,ae,ae,aN.of Qb,ae,?_⟩⟩;refine⟨_,ae,_,ae,b,v,o',mx o o',ae,M2.same (Qi.new h1),by lia,b3,λq2 h2=>⟨q2,_,_,_,ae,ae,aN.of Qb,ae,?_⟩⟩;refine⟨_,ae,by show 3<=sizeLine;decide,λq3 h3=>?_⟩;have Ad:Qi H (upd (upd H q1 (.tup [.int (ay.yj u o (mx o o')),.int (mx o o')])) q2 (.tup [.int (ay.yj v o' (mx o o')),.int (mx o o')])):=(Qi.new h1).trans (Qi.new h2);refine k q3 _ (Ad.trans (Qi.new h3)) (Ad.free h3) ?_;rw[Qb,ay.jq (wG o o'),ay.jq (vF o o')];rfl
noncomputable def Xq(K:Frag):Sp:=λvs H Q _=>∃(a b:Addr)(u o v o':Int),vs=[.ref a,.ref b]/\dY K H a u o/\dY K H b v o'/\
 ∀H',Qi H H'->Q (.bl (decide (u*ay.az (18-o)=v*ay.az (18-o')))) H'
noncomputable def wH(K:Frag)(g:Int->Int->Int):Sp:=λvs H Q _=>∃(a b:Addr)(u o v o':Int),vs=[.ref a,.ref b]/\dY K H a u o/\dY K H b v o'/\
 ∀q H' z,Qi H H'->H q=none->H' q=some (.tup [.int z,.int (mx o o')])->z=g (u*ay.az (mx o o'-o)) (v*ay.az (mx o o'-o'))->Q (.ref q) H'
theorem up_eq{u o v o':Int}(h1:o<=18)(h2:o'<=18):(u*ay.az (mx o o'-o)=v*ay.az (mx o o'-o'))↔u*ay.az (18-o)=v*ay.az (18-o'):=by
 rw[←ay.YY (u:=u) (wG o o') (Yf h1 h2), ←ay.YY (u:=v) (vF o o') (Yf h1 h2)];exact(ay.YZ (ay.JR _)).symm
theorem wI(F:aQ K "same" "same" s_same f fd)(gj:Def P w K mg base 3 "lined_up" ["one","other"] (Wc K)):aw P w K mg base (aE P w) 4 f fd ["one","other"] (Xq K):=by
 refine okN F K9 (λvs H Q E h=>?_) (λbv A outer s H vs Q E hr h=>?_)
 ·obtain⟨a,b,u,o,v,o',rfl,_⟩:=h;rfl
 ·obtain⟨a,b,u,o,v,o',rfl,M1,M2,k⟩:=h;refine⟨_,(Qe (Kw (gj.pe hr (by decide) ae Qm (Qa (pv 0) (Qa (pv 1) Qc))) (JX ae (Ql (Qg (i:=2) K9.nd ae (Or.inl ae)) (Ql (Qg (i:=3) K9.nd ae (Or.inl ae)) (Ql (Qg (i:=4) K9.nd ae (Or.inl ae)) Q8)))))
   (Qk (Qy (KS zQ (pv 2) (pv 3) (Jm _))))),?_⟩
  refine⟨_,ae,_,ae,a,b,u,o,v,o',ae,M1,M2,λq H' e hq ht=>⟨q,_,ae,aN.of ht,ae,_,_,ae,_,_,ae,_,_,ae,ae,?_⟩⟩;refine⟨_,ae,_,ae,ae,?_⟩;have z:=k H' e;rw[←decide_eq_decide.mpr (up_eq M1.hi M2.hi), ←wo]at z;exact z
theorem xz(F:aQ K "added" "added" Ya f fd)(gj:Def P w K mg base 3 "lined_up" ["one","other"] (Wc K)):aw P w K mg base (aE P w) 4 f fd ["one","other"] (wH K λx y=>x+y):=by
 refine okN F XB (λvs H Q E h=>?_) (λbv A outer s H vs Q E hr h=>?_)
 ·obtain⟨a,b,u,o,v,o',rfl,_⟩:=h;rfl
 ·obtain⟨a,b,u,o,v,o',rfl,M1,M2,k⟩:=h;refine⟨_,(Qe (Kw (gj.pe hr (by decide) ae Qm (Qa (pv 0) (Qa (pv 1) Qc))) (JX ae (Ql (Qg (i:=2) XB.nd ae (Or.inl ae)) (Ql (Qg (i:=3) XB.nd ae (Or.inl ae)) (Ql (Qg (i:=4) XB.nd ae (Or.inl ae)) Q8)))))
   (Qk (Qy (QV (Qa (QF Xi (pv 2) (pv 3)) (Qa (pv 4) Qc)))))),?_⟩
  refine⟨_,ae,_,ae,a,b,u,o,v,o',ae,M1,M2,λq H' e hq ht=>⟨q,_,ae,aN.of ht,ae,_,_,ae,_,_,ae,_,_,ae,ae,?_⟩⟩;refine⟨_,ae,_,ae,_,_,ae,ae,_,ae,by show 2<=sizeLine;decide,λq2 h2=>?_⟩;exact k q2 _ _ (e.trans (Qi.new h2)) (e.free h2) Qb rfl
end
end Lw
namespace L2
open PySem PySem.Spec PyProof.Rows
end L2
namespace Lw
open PySem PySem.Spec PyProof.Rows L2
open Builtin Builtin.Str StrLaws
inductive Cell where
 |txt (x:Str)|au (u o:Int)
noncomputable def Cell.dv:Cell->Dv
 | .txt x=>.str x
 | .au u o=>.tup [.int u,.int o]
structure Cd(K:Frag):Prop where
 ss:kitOne K (.type "str") (.type "str")=some true
 st:kitOne K (.type "str") (.type "tuple")=some false
 ts:kitOne K (.type "tuple") (.type "str")=some false
 tt:kitOne K (.type "tuple") (.type "tuple")=some true
noncomputable def KD(x:Str):Bool:=decide (1<=x.length)&&decide (x.length<=12)&&decide (V.str (Txt.stripChars x "abcdefghijklmnopqrstuvwxyz")=V.str "")
section
variable {P:Program}{w:World}{K:Frag}{mg:Str->Option Value}{base:Heap}{f:Addr}{fd:FuncData}{tk:Nat->Tok}
noncomputable def Cell.LI:Cell->Bool
 | .txt _=>false
 | .au _ _=>true
theorem kD{H:Hp}{v:V}{x:Str}(h:ag H v (Cell.txt x).dv):v=.str x:=ag.Aa h
theorem X3{H:Hp}{v:V}{u o:Int}(h:ag H v (Cell.au u o).dv):∃a,v=.ref a/\H a=some (.tup [.int u,.int o]):=by
 obtain⟨a,xs,rfl,h1,t⟩:=ag.Za h;cases t with
 |cons p t=>
  cases t with
  |cons q t=>
   cases t;obtain rfl:=p.Ac;obtain rfl:=q.Ac;exact⟨a,ae,h1⟩
noncomputable def ZP:Sp:=λvs H Q _=>∃(v:V)(c:Cell),vs=[v]/\ag H v c.dv/\Q (.bl c.LI) H
theorem UT(F:aQ K "is_pair" "is_pair" XY f fd)(O:Own mg)(OT:mg "tuple"=none)(KT:Cd K):aw P w K mg base (aE P w) 1 f fd ["value"] ZP:=by
 refine okN F UR (λvs H Q E h=>?_) (λbv A outer s H vs Q E hr h=>?_)
 ·obtain⟨v,c,rfl,_⟩:=h;rfl
 ·obtain⟨v,c,rfl,D,k⟩:=h;refine⟨_,(Qk (Qy (QW YT ae O.Fz boot_isinstance (Qa (pv 0) (Qa (qr (v:=V.ty "tuple") ae OT boot_tuple ae) Qc))))),?_⟩;cases c with
  |txt x=>exact⟨_,ae,_,_,false,ae,ae,.inl ⟨_,D.ty,KT.st⟩,k⟩
  |au u o=>exact⟨_,ae,_,_,true,ae,ae,.inl ⟨_,D.ty,KT.tt⟩,k⟩
noncomputable def LJ(c:Nat):Bool:=decide (c<128)&& !decide (([c]:List Nat)<[32])&& !decide (([126]:List Nat)<[c])
noncomputable def textOk(x:Str):Bool:=x.cps.toList.all LJ&&decide (x.length<=100)
structure Plan where
 cols:List Str
 keys:List Str
 sums:List Str
 size:Int
noncomputable def ZH(π:Plan):Dv:=.tup [.tup (cb π.cols),.tup (cb π.keys),.tup (cb π.sums),.int π.size]
structure ao(π:Plan):Prop where
 nc:π.cols.all KD=true
 nk:π.keys.all KD=true
 ns:π.sums.all KD=true
 mc:many π.cols=π.cols.length
 my:many π.keys=π.keys.length
 ms:many π.sums=π.sums.length
 mu:many (π.keys++π.sums)=(π.keys++π.sums).length
 sub:(π.keys++π.sums).all (λx=>π.cols.contains x)=true
 pos:π.cols≠[]
 sz:6<=π.size
 lc:π.cols.length<=100
 lu:(π.keys++π.sums).length<=100
structure aH(H:Hp)(v:V)(π:Plan)(a ac ak as:Addr):Prop where
 v:v=.ref a
 a:H a=some (.tup [.ref ac,.ref ak,.ref as,.int π.size])
 c:H ac=some (.tup (π.cols.map V.str))
 k:H ak=some (.tup (π.keys.map V.str))
 s:H as=some (.tup (π.sums.map V.str))
theorem aH.same{H H':Hp}{v:V}{π:Plan}{a ac ak as:Addr}(h:aH H v π a ac ak as)(S:Qi H H'):aH H' v π a ac ak as:=⟨h.v,S _ _ h.a,S _ _ h.c,S _ _ h.k,S _ _ h.s⟩
theorem jx{H:Hp}{v:V}{ys:List Str}(h:ag H v (.tup (cb ys))):∃a,v=.ref a/\H a=some (.tup (ys.map V.str)):=by
 obtain⟨a,xs,rfl,g,t⟩:=h.Za;rw[t.strs]at g;exact⟨a,ae,g⟩
theorem Ze{H:Hp}{v:V}{π:Plan}(h:ag H v (ZH π)):∃a ac ak as,aH H v π a ac ak as:=by
 obtain⟨a,xs,rfl,g,t⟩:=ag.Za h;cases t with
 |cons p1 t=>
  cases t with
  |cons p2 t=>
   cases t with
   |cons p3 t=>
    cases t with
    |cons p4 t=>
     cases t;obtain⟨ac,rfl,g1⟩:=jx p1;obtain⟨ak,rfl,g2⟩:=jx p2;obtain⟨as,rfl,g3⟩:=jx p3;obtain rfl:=p4.Ac;exact⟨a,ac,ak,as,ae,g,g1,g2,g3⟩
theorem aH.dk{H:Hp}{v:V}{π:Plan}{a ac ak as:Addr}(h:aH H v π a ac ak as):ag H (.ref ak) (.tup (cb π.keys)):=.tup h.k (af.V8 _)
theorem aH.ds{H:Hp}{v:V}{π:Plan}{a ac ak as:Addr}(h:aH H v π a ac ak as):ag H (.ref as) (.tup (cb π.sums)):=.tup h.s (af.V8 _)
theorem Y0{ys:List Str}{i:Nat}{v:V}(hv:(ys.map V.str)[i]? =some v):∃y,ys[i]? =some y/\v=.str y:=by
 rw[nE]at hv;cases e:ys[i]? with
 |none=>rw[e]at hv;cases hv
 |some y=>rw[e]at hv;exact⟨y,ae,(nh hv).symm⟩
end
theorem Wd{X:Cx}{K0:Frag}{es:List Expr}{k:Nat}{t:iS}{n:Nat}{pos:Pos}(hK:X.K=K0)(hc:X.calm=true)(h:rM X es t)
  (hn:(assignEach es X.env).length=n:=by rfl) (PP:(assignEach es X.env).findIdx? (·.1)=none:=by rfl):PG X (.Tuple es k pos) (Bl K0 n t):=by
 subst hK;exact JX hc h hn PP
theorem jy{r:List V->Hp->VK->Prop}{t:TA}{D:Ends}{σ:L2.St}{H:Hp}(h:iT r t σ H D.rt):vE (iT r t) D σ H:=h
noncomputable def Kl(row:List Cell):Dv:=.tup (row.map Cell.dv)
noncomputable def Jh:Cell->Prop
 | .txt x=>textOk x=true
 | .au u o=>0<=o/\o<=2/\(u*ay.az (2-o)).natAbs<=10^4
structure aq(π:Plan)(row:List Cell):Prop where
 len:row.length=π.cols.length
 ok:∀c∈row,Jh c
 sm:∀(i:Nat)(x:Str),π.cols[i]? =some x->π.sums.contains x=true->∃u o:Int,row[i]? =some (Cell.au u o)
end Lw
namespace L2
open PySem PySem.Spec PyProof.Rows
section
variable {J:It}{n:Nat}{Ok:Hp->Prop}{item:Nat->Hp->V->Hp->Prop}{wi:TI}{g:TG}{te:TE}{Q:VK}{σ:St}{H:Hp}
theorem KF{H H':Hp}{vs:List V}{u:V}{ds:List Dv}{i:Nat}{d:Dv}(h:af H vs (ds.take i))(S:Qi H H')(e:ds[i]? =some d)(hu:ag H' u d):af H' (vs++[u]) (ds.take (i+1)):=by
 rw[List.take_add_one,e];exact(h.same S).append (.cons hu .nil)
theorem Zf{NB:List Str}(F:Fix J n Ok item)(ds:List Dv)(hn:ds.length=n)(h:∀R:It->Hp->Prop,(∀H1,Qi H H1->R J H1)->wi σ H R) (ho:∀H1,Qi H H1->Ok H1)
  (hs:∀i v H1 H2 d(R:V->Hp->Prop),ds[i]? =some d->Qi H H1->item i H1 v H2->(∀u H4,Qi H1 H4->ag H4 u d->R u H4)->g v (List.replicate NB.length none) H2 λσ2 H3=>te σ2 H3 R)
  (hd:∀xs H1 p,Qi H H1->af H1 xs ds->H1 p=none->Q (.ref p) (upd H1 p (.lst xs))) (hz:n<sizeLine):W3 NB wi g yZ te σ H Q:=by
 refine YV F (λi vs H1=>Qi H H1/\af H1 vs (ds.take i)) (λR k=>h R λH1 S=>k H1 ⟨S,.nil⟩) (λi vs H1 hi⟨S,t⟩=>⟨ho H1 S,by rw[t.length,nB];lia⟩) ?_ ?_ hz
 ·rintro i v vs H1 H2 hi ⟨S,t⟩ it;have e:ds[i]? =some ds[i]:=List.getElem?_eq_getElem (by lia);exact hs i v H1 H2 _ (λu H4=>Qi H H4/\af H4 (vs++[u]) (ds.take (i+1))) e S it λu H4 S4 du=>⟨S.trans S4,KF t S4 e du⟩
 ·rintro vs H1 ⟨S,t⟩ p hp;rw[List.take_of_length_le (by lia)]at t;exact hd vs H1 p S t hp
theorem QQ{nn:Nat}{fi:List Nat}{fv:List V}(F:Fix J n Ok item)(ds:List Dv)(hn:ds.length=n)(h:∀R:It->Hp->Prop,(∀H1,Qi H H1->R J H1)->wi σ H R) (Re:fi.map (λi=>σ[i]?)=fv.map (λv=>some (some v))) (ho:∀H1,Qi H H1->Ok H1)
  (hs:∀i v H1 H2 d(R:V->Hp->Prop),ds[i]? =some d->Qi H H1->item i H1 v H2->(∀u H4,Qi H1 H4->ag H4 u d->R u H4)->g v (List.replicate nn none++fv.map some) H2 λσ2 H3=>σ2.drop nn=fv.map some/\te σ2 H3 R)
  (hd:∀xs H1 p,Qi H H1->af H1 xs ds->H1 p=none->Q (.ref p) (upd H1 p (.lst xs))) (hz:n<sizeLine):XV nn fi wi g yZ te σ H Q:=by
 refine W7 F (λi vs H1=>Qi H H1/\af H1 vs (ds.take i)) (λR k=>h R λH1 S=>k H1 ⟨S,.nil⟩) Re (λi vs H1 hi⟨S,t⟩=>⟨ho H1 S,by rw[t.length,nB];lia⟩) ?_ ?_ hz
 ·rintro i v vs H1 H2 hi ⟨S,t⟩ it;have e:ds[i]? =some ds[i]:=List.getElem?_eq_getElem (by lia);exact hs i v H1 H2 _ (λu H4=>Qi H H4/\af H4 (vs++[u]) (ds.take (i+1))) e S it λu H4 S4 du=>⟨S.trans S4,KF t S4 e du⟩
 ·rintro vs H1 ⟨S,t⟩ p hp;rw[List.take_of_length_le (by lia)]at t;exact hd vs H1 p S t hp
theorem JA{H:Hp}{xs:List V}{ds:List Dv}(t:af H xs ds){p:Addr}(hp:H p=none):ag (upd H p (.tup xs)) (.ref p) (.tup ds):=.tup Qb (t.same (Qi.new hp))
theorem KG{H:Hp}:∀{xs:List V}{ns:List Int},af H xs (ns.map Dv.int)->xs=ns.map V.int
 |_,[],.nil=>rfl
 |_,n::ns,.cons h t=>by
  obtain rfl:=h.Ac;rw[KG (ns:=ns) t];rfl
end
section
variable {X:Cx}{K0:Frag}{o e:Expr}{es:List Expr}{to:TE}{t:TA}{name:Str}{apos ce:Pos}{T id:String}{r:V->List V->Hp->VK->Prop}
theorem kE(hK:X.K=K0)(pa:PlainAttrs T)(slot:Slot T name id)(By:typeOf (.builtin id)=pure (.type "method_descriptor"))(hm:uU X id r)(ho:PE X o to)(ha:PA X (e::es) t)
  (eE:attributeBase o name X.env (eval o X.env)=eval o X.env:=by rfl)
  (lU:((backTo ce (starEach (e::es) X.env)).all (λx=> !x.1)&&(backToKw ce (keywordEach [] X.env)).all (λx=>x.1.isSome)&&decide ((e::es).length+([]:List Keyword).length+(if([]:List Keyword).isEmpty then 0 else 1)<30))=true:=by rfl)
  (eF:(apos.endLine==ce.line)=true:=by rfl) (hs:starEach (e::es) X.env=(false,eval e X.env)::starEach es X.env:=by rfl) (cH:(backTo ce (starEach es X.env)).any (·.1)=false:=by rfl):
  PE X (.Call (.Attribute o name apos) (e::es) [] ce) (Fl K0 T r to t):=by
 subst hK;exact UH pa slot By hm ho ha eE lU eF hs cH
end
theorem n9{r:List V->Hp->VK->Prop}{te:TE}{σ:St}{H:Hp}{Q:VK}(h:te σ H λv H1=>r [v] H1 Q):iT r (JG te YL) σ H Q:=h
theorem jz{te:TE}{D:Ends}{σ:St}{H:Hp}(h:te σ H D.rt):vE te D σ H:=h
theorem kB.yn{x:V}{hi:Nat}{H:Hp}{Q:VK}{ds:List Dv}(hx:ag H x (.tup ds))(k:∀v H',Qi H H'->ag H' v (.tup (ds.take hi))->Q v H'):kB x none (some (hi:Int)) H Q:=by
 have h:=kB.deep (lo:=0) (hi:=hi) (Q:=Q) hx (by simpa using k);obtain⟨a,xs,e,h1,h2,h3⟩:=h;refine⟨a,xs,e,h1,λz=>h2 ?_,λz p hp=>?_⟩
 ·rw[HT.J3,Nat.zero_min];exact⟨ae,z.2⟩
 ·have e2:WE xs none (some (hi:Int))=WE xs (some ((0:Nat):Int)) (some (hi:Int)):=by unfold WE;rw[HT.KU,show HT.aD xs.length 0 (some ((0:Nat):Int))=0 by rw[HT.J3,Nat.zero_min]]
  rw[e2];exact h3 (λy=>z ⟨ae,y.2⟩) p hp
theorem Y3{NB:List Str}{wi:TI}{g:TG}{tt:TT}{te:TE}{Q:VK}{σ:St}{H:Hp}(h:wi σ H λJ H1=>W3 NB (λ_ H R=>R J H) g tt te σ H1 Q):W3 NB wi g tt te σ H Q:=h
theorem JE{n:Nat}{fi:List Nat}{wi:TI}{g:TG}{tt:TT}{te:TE}{Q:VK}{σ:St}{H:Hp}(h:wi σ H λJ H1=>XV n fi (λ_ H R=>R J H) g tt te σ H1 Q):XV n fi wi g tt te σ H Q:=h
end L2
namespace dZ
open L2 PySem
noncomputable def Vc(cols:List Str)(x:Str):Nat:=cols.findIdx (· ==x)
noncomputable def Qt(cols names:List Str):List Nat:=names.map (Vc cols)
theorem X4{cols:List Str}{x:Str}(h:cols.contains x=true):cols[Vc cols x]? =some x/\∀i,i<Vc cols x->cols[i]? ≠some x:=by
 have hm:x∈cols:=List.contains_iff_mem.mp h;have bi:Vc cols x<cols.length:=List.findIdx_lt_length_of_exists ⟨x,hm,by simp⟩;have hg:(cols[Vc cols x]==x)=true:=List.findIdx_getElem (p:=(· ==x)) (w:=bi);refine⟨by rw[List.getElem?_eq_getElem bi,eq_of_beq hg],λi hi e=>?_⟩;have bP:i<cols.length:=by lia
 rw[List.getElem?_eq_getElem bP]at e;have:=List.not_of_lt_findIdx (p:=(· ==x)) hi;rw[nh e]at this;simp at this
end dZ
theorem pQ:0<=PySem.sizeLine:=by rw[PySem.sizeLine_eq];decide
theorem Ce:1<=PySem.sizeLine:=by rw[PySem.sizeLine_eq];decide
theorem fe:2<=PySem.sizeLine:=by rw[PySem.sizeLine_eq];decide
theorem Ae:3<=PySem.sizeLine:=by rw[PySem.sizeLine_eq];decide
theorem FF:4<=PySem.sizeLine:=by rw[PySem.sizeLine_eq];decide
namespace Lw
open PySem PySem.Spec PyProof.Rows L2 dZ
open Builtin Builtin.Str StrLaws
noncomputable def Kr(p:Int × Int):Dv:=.tup [.int p.1,.int p.2]
noncomputable def JU(l:List (Int × Int)):Dv:=.tup (l.map Kr)
section
variable {P:Program}{w:World}{K:Frag}{mg:Str->Option Value}{base:Heap}{f:Addr}{fd:FuncData}{tk:Nat->Tok}
noncomputable def Z5:Sp:=λvs H Q _=>∃(v n:V)(π:Plan)(ys:List Str),vs=[v,n]/\ag H v (ZH π)/\ag H n (.tup (cb ys))/\(∀y∈ys,π.cols.contains y=true)/\ys.length<=100/\∀q H',Qi H H'->H' q=some (.lst ((Qt π.cols ys).map λi=>V.int (i:Nat)))->Q (.ref q) H'
theorem Yh(F:aQ K "spots_of" "spots_of" Z2 f fd):aw P w K mg base (aE P w) 1 f fd ["plan","names"] Z5:=by
 refine okN F XZ (λvs H Q E h=>?_) (λbv A outer s H vs Q E hr h=>?_)
 ·obtain⟨v,n,π,ys,rfl,_⟩:=h;rfl
 ·obtain⟨v,n,π,ys,rfl,D,DN,hc,hl,k⟩:=h;have hz:1000<=sizeLine:=by decide
  refine⟨_,(Qe (Qz (i:=2) XZ.nd ae (Or.inr ae) (Qv Qj (pv 0) Qf (λ_ _=>rfl)))
   (Qk (Qy (JM (NB:=[".0","name"]) (FR:=["columns"]) (fi:=[2]) ae ⟨ae,by decide+kernel,by decide+kernel,by decide+kernel,by decide+kernel,by decide+kernel⟩ ae ae (ZJ (pv 1)) (λ_ _ _=>(Qg (i:=1) (show([".0","name","columns"]:List Str).Nodup by decide+kernel) ae (Or.inl ae))) (λ_ _ _=>QU) (λ_ _ _=>(kE (K0:=K) ae plainAttrs_tuple slot_tuple_index type_tuple_index KC (pv 2) (Qa (pv 1) Qc))))))),?_⟩
  obtain⟨a,ac,ak,as,L⟩:=Ze D;obtain rfl:=L.v;obtain⟨an,rfl,gn⟩:=jx DN;have sC:(ys.map V.str).length=ys.length:=m7 ..;refine⟨_,ae,a,_,0,_,ae,ae,.inl L.a,ae,?_⟩;dsimp only[QD,JF,JK,Q6];refine jz ?_;refine QQ (fv:=[.ref ac]) (zJ (K:=K) (a:=an) (xs:=ys.map V.str)) ((Qt π.cols ys).map λi=>Dv.int (i:Nat)) (by unfold Qt;simp) (λR h=>⟨_,ae,an,ae,⟨_,.inl (.inl gn)⟩,h H (Qi.refl _)⟩) rfl (λH1 S=>.inl (.inl (S _ _ gn))) ?_ ?_ (by lia)
  ·rintro i v H1 H2 d R hd S ⟨rfl,hv⟩ kk;obtain⟨y,hy,rfl⟩:=Y0 hv;obtain⟨e1,e2⟩:=X4 (hc y (nF hy));refine⟨ae,_,ae,(.inr (.inr (.inr (.inr ⟨ae,_,S _ _ L.c⟩)))),_,ae,ac,π.cols,y,_,ae,ae,.inl (S _ _ L.c),e1,e2,?_⟩;refine kk _ _ (Qi.refl _) ?_;have:d=.int ((Vc π.cols y:Nat):Int):=by
    unfold Qt at hd;rw[nE,nE,hy]at hd;exact(nh hd).symm
   rw[this];exact .int
  ·rintro xs H1 p S t hp;have e:xs=(Qt π.cols ys).map λi=>V.int (i:Nat):=by
    have:=KG (ns:=(Qt π.cols ys).map λi=>((i:Nat):Int)) (by rw[nK];exact t);rw[this,nK];rfl
   subst e;exact k _ _ (S.trans (Qi.new hp)) Qb
noncomputable def xA:Sp:=λvs H Q _=>∃(v:V)(π:Plan),vs=[v]/\ag H v (ZH π)/\π.sums.length<=100/\∀u H',Qi H H'->ag H' u (JU (π.sums.map λ_=>(0,0)))->Q u H'
theorem UU(F:aQ K "no_sums" "no_sums" X0 f fd)(OT:mg "tuple"=none):aw P w K mg base (aE P w) 1 f fd ["plan"] xA:=by
 refine okN F US (λvs H Q E h=>?_) (λbv A outer s H vs Q E hr h=>?_)
 ·obtain⟨v,π,rfl,_⟩:=h;rfl
 ·obtain⟨v,π,rfl,D,hl,k⟩:=h;have hz:1000<=sizeLine:=by decide
  refine⟨_,(Qk (Qy (Qu Qo ae OT boot_tuple (Qa (JH (NB:=[".0","name"]) ae ⟨ae,by decide+kernel,by decide+kernel,by decide+kernel⟩ (ZJ (Qv Qj (pv 0) Qf (λ_ _=>rfl))) (λ_ _ _=>(Qg (i:=1) (show([".0","name"]:List Str).Nodup by decide+kernel) ae (Or.inl ae))) (λ_ _ _=>QU) (λ_ _ _=>(QV (Qa Qf (Qa Qf Qc))))) Qc)))),?_⟩;obtain⟨a,ac,ak,as,L⟩:=Ze D;obtain rfl:=L.v;have sC:(π.sums.map V.str).length=π.sums.length:=m7 ..;refine jy (n9 ?_);refine Zf (zJ (K:=K) (a:=as) (xs:=π.sums.map V.str)) ((π.sums.map λ_=>((0:Int),(0:Int))).map Kr) (by simp) (λR h=>⟨_,ae,a,_,2,_,ae,ae,.inl L.a,ae,as,ae,⟨_,.inl (.inl L.s)⟩,h H (Qi.refl _)⟩) (λH1 S=>.inl (.inl (S _ _ L.s))) ?_ ?_ (by lia)
  ·rintro i v H1 H2 d R hd S ⟨rfl,hv⟩ kk;refine⟨fe,λp hp=>kk _ _ (Qi.new hp) ?_⟩;have:d=Kr (0,0):=by
    rw[nE,nE]at hd;cases e:π.sums[i]? with
    |none=>rw[e]at hd;cases hd
    |some y=>rw[e]at hd;exact(nh hd).symm
   rw[this];exact .tup Qb (.cons .int (.cons .int .nil))
  ·rintro xs H1 p S t hp;have S2:=Qi.new (o:=.lst xs) hp;refine⟨p,xs,ae,.inl ⟨.inl (.inl Qb),λl hl=>?_⟩⟩;exact k _ _ ((S.trans S2).trans (Qi.new hl)) (JA (t.same S2) hl)
theorem wJ{H:Hp}{v:V}{l:List (Int × Int)}(h:ag H v (JU l)):∃a xs,v=.ref a/\H a=some (.tup xs)/\af H xs (l.map Kr):=ag.Za h
theorem kF{H:Hp}{v:V}{p:Int × Int}(h:ag H v (Kr p)):∃a,v=.ref a/\H a=some (.tup [.int p.1,.int p.2]):=X3 (u:=p.1) (o:=p.2) h
noncomputable def Vd(row:List Cell)(i:Nat):Int × Int:=match row[i]? with
 |some (.au u o)=>(u,o)
 |_=>(0,0)
noncomputable def KH(p q:Int × Int):Int × Int:=(p.1*ay.az (mx p.2 q.2-p.2)+q.1*ay.az (mx p.2 q.2-q.2),mx p.2 q.2)
noncomputable def JZ(sp:List Nat)(row:List Cell)(l:List (Int × Int)):List (Int × Int):=List.zipWith (λp i=>KH p (Vd row i)) l sp
noncomputable def aF(n:Nat)(p:Int × Int):Prop:=0<=p.2/\p.2<=2/\(p.1*ay.az (2-p.2)).natAbs<=n*10^4
theorem aF.au{n:Nat}{p:Int × Int}(h:aF n p)(hn:n<=1000){H:Hp}{a:Addr}(g:H a=some (.tup [.int p.1,.int p.2])):dY K H a p.1 p.2:=by
 obtain⟨h1,h2,h3⟩:=h;refine⟨.inl (.inl g),?_,h1,by lia⟩;have ht:=ay.JR (2-p.2);have h4:p.1.natAbs<=(p.1*ay.az (2-p.2)).natAbs:=by
  rw[Int.natAbs_mul];exact Nat.le_mul_of_pos_right _ (by lia)
 have h5:n*10^4<=1000*10^4:=Nat.mul_le_mul_right _ hn;have h6:(1000*10^4:Nat)<2^200:=by decide
 lia
theorem ZI{a b:Int}(ha:0<=a)(hb:0<=b):ay.az a*ay.az b=ay.az (a+b):=by
 unfold ay.az;rw[←Int.pow_add, ←Int.toNat_add ha hb]
theorem wK{n:Nat}{p q:Int × Int}(hp:aF n p)(hq:aF 1 q):aF (n+1) (KH p q):=by
 obtain⟨a1,a2,a3⟩:=hp;obtain⟨b1,b2,b3⟩:=hq;have m1:=wG p.2 q.2;have m2:=vF p.2 q.2;have m3:=Yf a2 b2;refine⟨by show 0<=mx p.2 q.2;lia,m3,?_⟩;show((p.1*ay.az (mx p.2 q.2-p.2)+q.1*ay.az (mx p.2 q.2-q.2))*ay.az (2-mx p.2 q.2)).natAbs<=_;rw[Int.add_mul,Int.mul_assoc,Int.mul_assoc,ZI (by lia) (by lia),ZI (by lia) (by lia),show mx p.2 q.2-p.2+(2-mx p.2 q.2)=2-p.2 by lia,show mx p.2 q.2-q.2+(2-mx p.2 q.2)=2-q.2 by lia];lia
noncomputable def Y4(K:Frag):Sp:=λvs H Q _=>∃(v av rv:V)(π:Plan)(l:List (Int × Int))(row:List Cell)(n:Nat),vs=[v,av,rv]/\ag H v (ZH π)/\ao π/\ag H av (JU l)/\l.length=π.sums.length/\(∀p∈l,aF n p)/\n<=50/\ag H rv (Kl row)/\aq π row/\∀u H',Qi H H'->ag H' u (JU (JZ (Qt π.cols π.sums) row l))->Q u H'
theorem sum_in{π:Plan}(Z:ao π){x:Str}(h:x∈π.sums):π.cols.contains x=true:=List.all_eq_true.mp Z.sub x (nu _ h)
theorem Ve{π:Plan}(Z:ao π){x:Str}(h:x∈π.keys):π.cols.contains x=true:=List.all_eq_true.mp Z.sub x (ny _ h)
theorem Yi(F:aQ K "with_row" "with_row" Z3 f fd)(OT:mg "tuple"=none)(OZ:mg "zip"=none)(hU:Def P w K mg base 1 "spots_of" ["plan","names"] Z5)(mz:Def P w K mg base 4 "added" ["one","other"] (wH K λx y=>x+y)):aw P w K mg base (aE P w) 5 f fd ["plan","amounts","row"] (Y4 K):=by
 refine okN F Yb (λvs H Q E h=>?_) (λbv A outer s H vs Q E hr h=>?_)
 ·obtain⟨v,av,rv,π,l,row,n,rfl,_⟩:=h;rfl
 ·obtain⟨v,av,rv,π,l,row,n,rfl,D,Z,DA,hl,ha,hn,DR,Y,k⟩:=h;have hz:1000<=sizeLine:=by decide
  have z2:=Z.lu;have z3:π.keys.length+π.sums.length=(π.keys++π.sums).length:=(m5 ..).symm;refine⟨_,(Qk (Qy (Qu Qo ae OT boot_tuple (Qa (JM (NB:=[".0","amount","at"]) (FR:=["row"]) (fi:=[2]) ae ⟨ae,by decide+kernel,by decide+kernel,by decide+kernel,by decide+kernel,by decide+kernel⟩ ae ae (V5 .tp .ls ae OZ (Qa (pv 1) (Qa (hU.pe hr (by decide) ae Qm (Qa (pv 0) (Qa (Qv Qj (pv 0) Qf (λ_ _=>rfl)) Qc))) Qc))) (λ_ _ _=>(Wd (K0:=K) (n:=2) ae ae (Ql (Qg (i:=1) (show([".0","amount","at","row"]:List Str).Nodup by decide+kernel) ae (Or.inl ae) (Or.inr ae)) (Ql (Qg (i:=2) (show([".0","amount","at","row"]:List Str).Nodup by decide+kernel) ae (Or.inl ae) (Or.inr ae)) Q8)))) (λ_ _ _=>QU) (λ_ _ _=>(mz.pe hr (by decide) ae Qm (Qa (pv 1) (Qa (Qv Qj (pv 3) (pv 2) (λ_ _=>rfl)) Qc))))) Qc)))),?_⟩;obtain⟨a,ac,ak,as,L⟩:=Ze D;obtain rfl:=L.v;obtain⟨aa,xa,rfl,ga,ta⟩:=wJ DA;obtain⟨rr,xs,rfl,gr,tr⟩:=ag.Za DR;have la:=ta.length;rw[m7]at la;refine jy (n9 ?_);have LK:(Qt π.cols π.sums).length=π.sums.length:=by unfold Qt;rw[m7]
  refine JE ?_;refine⟨_,ae,_,ae,_,ae,a,_,2,_,ae,ae,.inl L.a,ae,.ref a,.ref as,π,π.sums,ae,D,L.ds,(λy hy=>sum_in Z hy),by lia,λq H1 S1 gq=>⟨aa,q,ae,⟨_,.inl (S1 _ _ ga)⟩,⟨_,.inl gq⟩,?_⟩⟩;have Cf:min xa.length ((Qt π.cols π.sums).map λi=>V.int (i:Nat)).length=(JZ (Qt π.cols π.sums) row l).length:=by
   unfold JZ;rw[m7,List.length_zipWith];lia
  have uY:(JZ (Qt π.cols π.sums) row l).length=π.sums.length:=by
   unfold JZ;rw[List.length_zipWith];lia
  refine QQ (fv:=[.ref rr]) (u9 (k1:=.tp) (k2:=.ls) (a1:=aa) (a2:=q) (xs:=xa) (ys:=(Qt π.cols π.sums).map λi=>V.int (i:Nat))) ((JZ (Qt π.cols π.sums) row l).map Kr) (by rw[m7,Cf]) (λR h=>h H1 (Qi.refl _)) rfl (λH2 S2=>⟨.inl (S2 _ _ (S1 _ _ ga)),.inl (S2 _ _ gq)⟩) ?_ ?_ (by lia)
  ·rintro i v H2 H3 d R hd S2 ⟨p,x,y,hp,rfl,hx,hy,rfl⟩ kk;have Sp:=Qi.new (o:=.tup [x,y]) hp;obtain⟨dx,sD,LM⟩:=ta.J7 hx;rw[nE]at sD;cases el:l[i]? with
   |none=>rw[el]at sD;cases sD
   |some pp=>
    rw[el]at sD;obtain rfl:=nh sD;rw[nE]at hy;cases es:(Qt π.cols π.sums)[i]? with
    |none=>rw[es]at hy;cases hy
    |some at_=>
     rw[es]at hy;obtain rfl:=nh hy;obtain⟨nm,ff,rfl⟩:∃nm,π.sums[i]? =some nm/\at_=Vc π.cols nm:=by
      unfold Qt at es;rw[nE]at es;cases e:π.sums[i]? with
      |none=>rw[e]at es;cases es
      |some nm=>rw[e]at es;exact⟨nm,ae,(nh es).symm⟩
     obtain⟨c1,_⟩:=X4 (sum_in Z (nF ff));obtain⟨u,o,bH⟩:=Y.sm _ nm c1 (List.contains_iff_mem.mpr (nF ff));have og:=Y.ok _ (nF bH);obtain⟨cv,LN,LQ⟩:=tr.get (i:=Vc π.cols nm) (d:=(Cell.au u o).dv) (by rw[nE,bH];rfl);have dN:=(S1.trans S2).trans Sp;obtain⟨a1,rfl,g1⟩:=kF (LM.same dN);obtain⟨a2,rfl,g2⟩:=X3 (LQ.same dN);have A1:=(ha pp (nF el)).au (K:=K) (by lia) g1;have A2:dY K (upd H2 p (.tup [.ref a1,.int ((Vc π.cols nm:Nat):Int)])) a2 u o:=aF.au (K:=K) (n:=1) (p:=(u,o)) ⟨og.1,og.2.1,by simpa using og.2.2⟩ (by lia) g2;refine⟨p,_,ae,.inl (.inl Qb),ae,_,_,ae,_,_,ae,ae,ae,?_⟩;refine⟨_,ae,_,ae,_,ae,rr,xs,((Vc π.cols nm:Nat):Int),_,ae,ae,.inl (dN _ _ gr),QZ LN,a1,a2,pp.1,pp.2,u,o,ae,A1,A2,λqq H4 z S4 _ gz LR=>kk _ _ (Sp.trans S4) ?_⟩;have ed:d=Kr (KH pp (u,o)):=by
      have e3:(JZ (Qt π.cols π.sums) row l)[i]? =some (KH pp (Vd row (Vc π.cols nm))):=by
       unfold JZ;rw[List.getElem?_zipWith,el,es]
      have e4:Vd row (Vc π.cols nm)=(u,o):=by unfold Vd;rw[bH]
      rw[nE,e3,e4]at hd;exact(nh hd).symm
     rw[ed];refine .tup gz ?_;rw[LR];exact .cons .int (.cons .int .nil)
  ·rintro ys H2 p S2 t hp;have S3:=Qi.new (o:=.lst ys) hp;refine⟨p,ys,ae,.inl ⟨.inl (.inl Qb),λl2 AC=>?_⟩⟩;exact k _ _ (((S1.trans S2).trans S3).trans (Qi.new AC)) (JA (t.same S3) AC)
end
noncomputable def zeros(π:Plan):List (Int × Int):=π.sums.map λ_=>(0,0)
noncomputable def total(π:Plan)(rows:List (List Cell)):List (Int × Int):=rows.foldl (λl r=>JZ (Qt π.cols π.sums) r l) (zeros π)
theorem JB{π:Plan}{row:List Cell}{l:List (Int × Int)}(h:l.length=π.sums.length):(JZ (Qt π.cols π.sums) row l).length=π.sums.length:=by
 unfold JZ Qt;rw[List.length_zipWith,m7];lia
theorem jA{π:Plan}(Z:ao π){row:List Cell}(Y:aq π row){i:Nat}(h:i∈Qt π.cols π.sums):aF 1 (Vd row i):=by
 unfold Qt at h;obtain⟨nm,ff,rfl⟩:=List.mem_map.mp h;obtain⟨c1,_⟩:=X4 (sum_in Z ff);obtain⟨u,o,bH⟩:=Y.sm _ nm c1 (List.contains_iff_mem.mpr ff);have og:=Y.ok _ (nF bH);unfold Vd;rw[bH];exact⟨og.1,og.2.1,by simpa using og.2.2⟩
theorem Yj{α β γ:Type}{f:α->β->γ}:∀{l:List α}{m:List β}{z:γ},z∈List.zipWith f l m->∃x∈l,∃y∈m,z=f x y
 |[],_,_,h=>by simp at h
 |_::_,[],_,h=>by simp at h
 |x::l,y::m,z,h=>by
  rw[List.zipWith_cons_cons]at h;rcases List.mem_cons.mp h with rfl|h
  ·exact⟨x,nA,y,nA,ae⟩
  ·obtain⟨a,ha,b,hb,e⟩:=Yj h;exact⟨a,nz _ ha,b,nz _ hb,e⟩
theorem JV{π:Plan}(Z:ao π){row:List Cell}(Y:aq π row){l:List (Int × Int)}{n:Nat}(h:∀p∈l,aF n p):∀p∈JZ (Qt π.cols π.sums) row l,aF (n+1) p:=by
 intro p hp;obtain⟨x,hx,i,hi,rfl⟩:=Yj hp;exact wK (h x hx) (jA Z Y hi)
theorem QN(π:Plan):∀p∈zeros π,aF 0 p:=by
 intro p hp;obtain⟨_,_,rfl⟩:=List.mem_map.mp hp;exact⟨by decide,by decide,by decide⟩
theorem QA(π:Plan):(zeros π).length=π.sums.length:=m7 ..
theorem Vf(π:Plan)(rows:List (List Cell)):(total π rows).length=π.sums.length:=by
 have:∀(rows:List (List Cell))(l:List (Int × Int)),l.length=π.sums.length->(rows.foldl (λl r=>JZ (Qt π.cols π.sums) r l) l).length=π.sums.length:=by
  intro rows
  induction rows with
  |nil=>intro l h;exact h
  |cons r rs ih=>intro l h;exact ih _ (JB h)
 exact this rows _ (QA π)
theorem Y5{π:Plan}(Z:ao π):∀(rows:List (List Cell)),(∀r∈rows,aq π r)->∀p∈total π rows,aF rows.length p:=by
 have:∀(rows:List (List Cell))(l:List (Int × Int))(n:Nat),(∀p∈l,aF n p)->(∀r∈rows,aq π r)->∀p∈rows.foldl (λl r=>JZ (Qt π.cols π.sums) r l) l,aF (n+rows.length) p:=by
  intro rows
  induction rows with
  |nil=>intro l n h _;exact h
  |cons r rs ih=>
   intro l n h hr p hp;have:=ih (JZ (Qt π.cols π.sums) r l) (n+1) (JV Z (hr r nA) h) (λq hq=>hr q (nz _ hq)) p hp;rw[nj,show n+(rs.length+1)=n+1+rs.length by lia];exact this
 intro rows hr p hp;have:=this rows (zeros π) 0 (QN π) hr p hp;rwa[Nat.zero_add]at this
theorem UV(π:Plan)(rows:List (List Cell))(r:List Cell):total π (rows++[r])=JZ (Qt π.cols π.sums) r (total π rows):=by unfold total;rw[List.foldl_append];rfl
noncomputable def Zr(rows:List (List Cell)):Dv:=.tup (rows.map Kl)
section
variable {P:Program}{w:World}{K:Frag}{mg:Str->Option Value}{base:Heap}{f:Addr}{fd:FuncData}{tk:Nat->Tok}
theorem XC{H:Hp}{xs:List V}{rows:List (List Cell)}(t:af H xs (rows.map Kl)){i:Nat}{x:V}(h:xs[i]? =some x):∃r,rows[i]? =some r/\ag H x (Kl r):=by
 obtain⟨d,hd,dd⟩:=t.J7 h;rw[nE]at hd;cases e:rows[i]? with
 |none=>rw[e]at hd;cases hd
 |some r=>rw[e]at hd;obtain rfl:=nh hd;exact⟨r,ae,dd⟩
noncomputable def jB:Sp:=λvs H Q _=>∃(v rv:V)(π:Plan)(rows:List (List Cell)),vs=[v,rv]/\ag H v (ZH π)/\ao π/\ag H rv (Zr rows)/\(∀r∈rows,aq π r)/\rows.length<=40/\∀u H',Qi H H'->ag H' u (JU (total π rows))->Q u H'
theorem UW(F:aQ K "sums_of" "sums_of" X1 f fd)(gA:Def P w K mg base 1 "no_sums" ["plan"] xA)(gB:Def P w K mg base 5 "with_row" ["plan","amounts","row"] (Y4 K)):aw P w K mg base (aE P w) 6 f fd ["plan","rows"] jB:=by
 refine okN F Zn (λvs H Q E h=>?_) (λbv A outer s H vs Q E hr h=>?_)
 ·obtain⟨v,rv,π,rows,rfl,_⟩:=h;rfl
 ·obtain⟨v,rv,π,rows,rfl,D,Z,DR,Y,hl,k⟩:=h;have z2:=Z.lu;have z3:π.keys.length+π.sums.length=(π.keys++π.sums).length:=(m5 ..).symm;refine⟨_,(Qe (Qz (i:=2) Zn.nd ae (Or.inl ae) (gA.pe hr (by decide) ae Qm (Qa (pv 0) Qc)))
   (Qe (Xh PassesOwn.never ae (ZJ (pv 1)) (Qg (i:=3) Zn.nd ae (Or.inl ae)) (Qk (Qz (i:=2) Zn.nd ae (Or.inl ae) (gB.pe hr (by decide) ae Qm (Qa (pv 0) (Qa (pv 2) (Qa (pv 3) Qc)))))))
   (Qk (Qy (pv 2))))),?_⟩
  obtain⟨R,xs,rfl,gr,tr⟩:=ag.Za DR;have lx:=tr.length;rw[m7]at lx;refine⟨_,ae,v,π,ae,D,by lia,λu0 H1 S1 D1=>?_⟩;dsimp only[QD,JF,JK,Q6];refine⟨_,ae,R,ae,⟨_,.inl (.inl (S1 _ _ gr))⟩,?_⟩;refine ZB (zJ (K:=K) (a:=R) (xs:=xs)) (λi σ H2=>∃u x,σ=[some v,some (.ref R),some u,x]/\Qi H H2/\ag H2 u (JU (total π (rows.take i)))) ⟨u0,none,ae,S1,D1⟩ ?_ ?_ ?_
  ·rintro i σ H2 _ ⟨u,x,rfl,S,_⟩;exact .inl (.inl (S _ _ gr))
  ·rintro i x σ H2 H3 hi ⟨u,x0,rfl,S,DU⟩ ⟨rfl,hx⟩;obtain⟨r,fg,dr⟩:=XC tr hx;have i7:=nF fg;refine⟨_,ae,_,ae,_,ae,v,u,x,π,total π (rows.take i),r,(rows.take i).length,ae,D.same S,Z,DU,Vf _ _,Y5 Z _ (λq hq=>Y q (List.mem_of_mem_take hq)),by rw[nB];lia,dr.same S,Y r i7,λu2 H4 S4 D4=>?_⟩;refine⟨u2,_,ae,S.trans S4,?_⟩;rw[List.take_add_one,fg];show ag H4 u2 (JU (total π (rows.take i++[r])));rw[UV];exact D4
  ·rintro σ H2 ⟨u,x,rfl,S,DU⟩;rw[List.take_of_length_le (by lia)]at DU;exact⟨_,ae,k _ _ S DU⟩
noncomputable def Vg:Cell->Cell->Bool
 | .au u o,.au v p=>decide (u*ay.az (18-o)=v*ay.az (18-p))
 | .txt x,.txt y=>x==y
 |_,_=>false
theorem Jh.Af{u o:Int}(h:Jh (.au u o)):aF 1 (u,o):=⟨h.1,h.2.1,by simpa using h.2.2⟩
noncomputable def Yk:Sp:=λvs H Q _=>∃(v1 v2:V)(c1 c2:Cell),vs=[v1,v2]/\ag H v1 c1.dv/\ag H v2 c2.dv/\Jh c1/\Jh c2/\∀H',Qi H H'->Q (.bl (Vg c1 c2)) H'
theorem Yl(F:aQ K "is_alike" "is_alike" Z4 f fd)(gi:Def P w K mg base 1 "is_pair" ["value"] ZP)(gC:Def P w K mg base 4 "same" ["one","other"] (Xq K)):aw P w K mg base (aE P w) 5 f fd ["one","other"] Yk:=by
 refine okN F Yc (λvs H Q E h=>?_) (λbv A outer s H vs Q E hr h=>?_)
 ·obtain⟨v1,v2,c1,c2,rfl,_⟩:=h;rfl
 ·obtain⟨v1,v2,c1,c2,rfl,D1,D2,o1,o2,k⟩:=h;refine⟨_,(Qe (Xt (PW.pt (qt (Xf (gi.pe hr (by decide) ae Qm (Qa (pv 0) Qc))) (VO (Xf (gi.pe hr (by decide) ae Qm (Qa (pv 1) Qc)))))) (Qk (Qy (gC.pe hr (by decide) ae Qm (Qa (pv 0) (Qa (pv 1) Qc))))) Js)
   (Qk (Qy (KS (wt (n:=8) (wA hr)) (pv 0) (pv 1) (Jm _))))),?_⟩
  have dd:∀c:Cell,c.dv.depth<=8:=λc=>by cases c<;>simp[Cell.dv,Dv.depth,Dv.Qs]
  refine⟨_,ae,v1,c1,ae,D1,_,ae,?_⟩;cases c1 with
  |txt x=>
   refine WF (WF ⟨_,ae,_,ae,_,_,D1,D2,dd _,?_⟩);have:=k H (Qi.refl _);cases c2 with
   |txt y=>exact this
   |au u o=>exact this
  |au u o=>
   refine zX ⟨_,ae,v2,c2,ae,D2,_,ae,?_⟩;cases c2 with
   |txt y=>exact WF ⟨_,ae,_,ae,_,_,D1,D2,dd _,k H (Qi.refl _)⟩
   |au v p=>
    obtain⟨a1,rfl,g1⟩:=X3 D1;obtain⟨a2,rfl,g2⟩:=X3 D2;exact zX ⟨_,ae,_,ae,a1,a2,u,o,v,p,ae,o1.Af.au (K:=K) (by decide) g1,o2.Af.au (K:=K) (by decide) g2,λH' S=>k H' S⟩
end
noncomputable def Jt(r1 r2:List Cell)(i:Nat):Bool:=match r1[i]?,r2[i]? with
 |some a,some b=>Vg a b
 |_,_=>true
noncomputable def unlike(sk:List Nat)(r1 r2:List Cell):Nat:=sk.findIdx λi=> !Jt r1 r2 i
theorem jC{sk:List Nat}{r1 r2:List Cell}{i j:Nat}(hi:sk[i]? =some j)(hb:∀m x,m<i->sk[m]? =some x->Jt r1 r2 x=true) (hn:Jt r1 r2 j=false):unlike sk r1 r2=i:=by
 have bi:i<sk.length:=(List.getElem?_eq_some_iff.mp hi).1;have e:sk[i]=j:=(List.getElem?_eq_some_iff.mp hi).2;unfold unlike;rw[List.findIdx_eq bi];refine⟨by rw[e,hn];rfl,λm hm=>?_⟩;have:=hb m sk[m] hm (List.getElem?_eq_getElem (by lia));rw[this];rfl
theorem Ym{sk:List Nat}{r1 r2:List Cell}(hb:∀m x,m<sk.length->sk[m]? =some x->Jt r1 r2 x=true):unlike sk r1 r2=sk.length:=by
 unfold unlike;refine List.findIdx_eq_length.mpr λx hx=>?_;obtain⟨m,hm,e⟩:=List.getElem_of_mem hx;rw[hb m x hm (by rw[List.getElem?_eq_getElem hm,e])];rfl
theorem Vh(sk:List Nat)(r1 r2:List Cell):unlike sk r1 r2<=sk.length:=List.findIdx_le_length
theorem Zo{π:Plan}(Z:ao π){row:List Cell}(Y:aq π row){i at_:Nat}(h:(Qt π.cols π.keys)[i]? =some at_):∃c,row[at_]? =some c/\Jh c:=by
 unfold Qt at h;rw[nE]at h;cases e:π.keys[i]? with
 |none=>rw[e]at h;cases h
 |some nm=>
  rw[e]at h;obtain rfl:=nh h;obtain⟨c1,_⟩:=X4 (Ve Z (nF e));have bi:=(List.getElem?_eq_some_iff.mp c1).1;have hy:=Y.len;have e2:row[Vc π.cols nm]? =some (row[Vc π.cols nm]'(by lia)):=List.getElem?_eq_getElem (by lia);exact⟨_,e2,Y.ok _ (nF e2)⟩
section
variable {P:Program}{w:World}{K:Frag}{mg:Str->Option Value}{base:Heap}{f:Addr}{fd:FuncData}{tk:Nat->Tok}
noncomputable def We:Sp:=λvs H Q _=>∃(v x1 x2:V)(π:Plan)(r1 r2:List Cell),vs=[v,x1,x2]/\ag H v (ZH π)/\ao π/\ag H x1 (Kl r1)/\aq π r1/\ag H x2 (Kl r2)/\aq π r2/\∀H',Qi H H'->Q (.int ((unlike (Qt π.cols π.keys) r1 r2:Nat):Int)) H'
theorem Ks(F:aQ K "unlike_from" "unlike_from" JS f fd)(O:Own mg)(OE:mg "enumerate"=none)(hU:Def P w K mg base 1 "spots_of" ["plan","names"] Z5)(gW:Def P w K mg base 5 "is_alike" ["one","other"] Yk):aw P w K mg base (aE P w) 6 f fd ["plan","one","other"] We:=by
 refine okN F JJ (λvs H Q E h=>?_) (λbv A outer s H vs Q E hr h=>?_)
 ·obtain⟨v,x1,x2,π,r1,r2,rfl,_⟩:=h;rfl
 ·obtain⟨v,x1,x2,π,r1,r2,rfl,D,Z,D1,Y1,D2,Y2,k⟩:=h;have z2:=Z.lu;have z3:π.keys.length+π.sums.length=(π.keys++π.sums).length:=(m5 ..).symm;refine⟨_,(Qe (Xh PassesOwn.never ae (K6 .ls ae OE (Qa (hU.pe hr (by decide) ae Qm (Qa (pv 0) (Qa (Qv Qj (pv 0) Qf (λ_ _=>rfl)) Qc))) Qc)) (JX ae (Ql (Qg (i:=3) JJ.nd ae (Or.inl ae)) (Ql (Qg (i:=4) JJ.nd ae (Or.inl ae)) Q8))) (Qk (Xt (qu (Xf (gW.pe hr (by decide) ae Qm (Qa (Qv Qj (pv 1) (pv 4) (λ_ _=>rfl)) (Qa (Qv Qj (pv 2) (pv 4) (λ_ _=>rfl)) Qc))))) (Qk (Qy (pv 3))) Js)))
   (Qk (Qy (QW Q0 ae O.len boot_len (Qa (Qv Qj (pv 0) Qf (λ_ _=>rfl)) Qc))))),?_⟩
  obtain⟨a,ac,ak,as,L⟩:=Ze D;obtain rfl:=L.v;obtain⟨q1,d5,rfl,g1,t1⟩:=ag.Za D1;obtain⟨q2,d6,rfl,g2,t2⟩:=ag.Za D2;have fh:(Qt π.cols π.keys).length=π.keys.length:=by unfold Qt;rw[m7]
  refine⟨_,ae,_,ae,a,_,1,_,ae,ae,.inl L.a,ae,.ref a,.ref ak,π,π.keys,ae,D,L.dk,(λy hy=>Ve Z hy),by lia,λq H1 S1 gq=>⟨q,ae,⟨_,.inl (.inl gq)⟩,?_⟩⟩;refine ZB (BZ (k:=.ls) (K:=K) (a:=q) (xs:=(Qt π.cols π.keys).map λi=>V.int (i:Nat))) (λi σ H2=>∃y3 y4,σ=[some (.ref a),some (.ref q1),some (.ref q2),y3,y4]/\Qi H1 H2/\∀m x,m<i->(Qt π.cols π.keys)[m]? =some x->Jt r1 r2 x=true) ⟨none,none,ae,Qi.refl _,λm x hm=>absurd hm (by lia)⟩ ?_ ?_ ?_
  ·rintro i σ H2 _ ⟨y3,y4,rfl,S,_⟩;exact .inl (.inl (S _ _ gq))
  ·rintro i x σ H2 H3 hi ⟨y3,y4,rfl,S,hb⟩ ⟨p,x,hp,rfl,hx,rfl⟩;rw[nE]at hx;cases es:(Qt π.cols π.keys)[i]? with
   |none=>rw[es]at hx;cases hx
   |some at_=>
    rw[es]at hx;obtain rfl:=nh hx;have Sp:=Qi.new (o:=.tup [.int ((i:Nat):Int),.int ((at_:Nat):Int)]) hp;have sE:=(S1.trans S).trans Sp;obtain⟨c1,di,Op⟩:=Zo Z Y1 es;obtain⟨c2,Fa,sF⟩:=Zo Z Y2 es;obtain⟨w1,fK,d7⟩:=t1.get (i:=at_) (d:=c1.dv) (by rw[nE,di];rfl);obtain⟨w2,LS,FG⟩:=t2.get (i:=at_) (d:=c2.dv) (by rw[nE,Fa];rfl);refine⟨p,_,ae,.inl (.inl Qb),ae,_,_,ae,_,_,ae,ae,?_⟩;refine⟨_,ae,_,ae,q1,d5,_,_,ae,ae,.inl (sE _ _ g1),QZ fK,_,ae,_,ae,q2,d6,_,_,ae,ae,.inl (sE _ _ g2),QZ LS,w1,w2,c1,c2,ae,d7.same sE,FG.same sE,Op,sF,λH4 S4=>⟨_,ae,?_⟩⟩;have ea:Jt r1 r2 at_=Vg c1 c2:=by unfold Jt;rw[di,Fa]
    cases Cg:Vg c1 c2 with
    |false=>
     refine zX ⟨_,ae,?_⟩;have:=k H4 (sE.trans S4);rw[jC es hb (by rw[ea,Cg])]at this;exact this
    |true=>
     refine WF ⟨_,_,ae,(S.trans Sp).trans S4,λm x hm hx=>?_⟩;rcases Nat.lt_or_ge m i with h|h
     ·exact hb m x h hx
     ·obtain rfl:m=i:=by lia
      rw[es]at hx;obtain rfl:=nh hx;rw[ea,Cg]
  ·rintro σ H2 ⟨y3,y4,rfl,S,hb⟩;rw[m7]at hb;refine⟨_,ae,a,_,1,_,ae,ae,.inl ((S1.trans S) _ _ L.a),ae,ak,_,ae,.inr (.inl (.inl ((S1.trans S) _ _ L.k))),?_⟩;have:=k H2 (S1.trans S);rw[Ym hb,fh, ←m7 (l:=π.keys) V.str]at this;exact this
end
noncomputable def jD(row:List Cell)(i:Nat):Dv:=match row[i]? with
 |some c=>c.dv
 |none=>.ah
noncomputable def Vi(π:Plan)(row:List Cell):List Dv:=(Qt π.cols π.keys).map (jD row)
noncomputable def wL(π:Plan)(row:List Cell)(since:List (List (Int × Int)))(level:Nat):Dv:=.tup [.str "foot",.str (π.keys.getD level ""),.tup ((Vi π row).take (level+1)),JU (since.getD level [])]
noncomputable def Jv(π:Plan)(row:List Cell)(since:List (List (Int × Int)))(first:Nat):List Dv:=(List.range (π.keys.length-first)).map λi=>wL π row since (π.keys.length-1-i)
section
variable {P:Program}{w:World}{K:Frag}{mg:Str->Option Value}{base:Heap}{f:Addr}{fd:FuncData}{tk:Nat->Tok}
noncomputable def jE:Sp:=λvs H Q _=>∃(v rv:V)(sl:Addr)(xs:List V)(π:Plan)(row:List Cell)(since:List (List (Int × Int)))(first:Nat),vs=[v,rv,.ref sl,.int (first:Nat)]/\ag H v (ZH π)/\ao π/\ag H rv (Kl row)/\aq π row/\H sl=some (.lst xs)/\af H xs (since.map JU)/\since.length=π.keys.length/\first<=π.keys.length/\
 ∀q H' ys,Qi H H'->H q=none->H' q=some (.lst ys)->af H' ys (Jv π row since first)->Q (.ref q) H'
theorem wM(F:aQ K "feet" "feet" js f fd)(O:Own mg)(OT:mg "tuple"=none)(hU:Def P w K mg base 1 "spots_of" ["plan","names"] Z5):aw P w K mg base (aE P w) 2 f fd ["plan","row","since","first"] jE:=by
 refine okN F Yd (λvs H Q E h=>?_) (λbv A outer s H vs Q E hr h=>?_)
 ·obtain⟨v,rv,sl,xs,π,row,since,first,rfl,_⟩:=h;rfl
 ·obtain⟨v,rv,sl,xs,π,row,since,first,rfl,D,Z,DR,Y,gs,ts,fX,hf,k⟩:=h;have hz:1000<=sizeLine:=by decide
  have z2:=Z.lu;have z3:π.keys.length+π.sums.length=(π.keys++π.sums).length:=(m5 ..).symm;refine⟨_,(Qe (Qz (i:=4) Yd.nd ae (Or.inr ae) (Qv Qj (pv 0) Qf (λ_ _=>rfl)))
   (Qe (Qz (i:=5) Yd.nd ae (Or.inr ae) (Qu Qo ae OT boot_tuple (Qa (JM (NB:=[".0","at"]) (FR:=["row"]) (fi:=[1]) ae ⟨ae,by decide+kernel,by decide+kernel,by decide+kernel,by decide+kernel,by decide+kernel⟩ ae ae (JP (hU.pe hr (by decide) ae Qm (Qa (pv 0) (Qa (pv 4) Qc)))) (λ_ _ _=>(Qg (i:=1) (show([".0","at","row"]:List Str).Nodup by decide+kernel) ae (Or.inl ae))) (λ_ _ _=>QU) (λ_ _ _=>(Qv Qj (pv 2) (pv 1) (λ_ _=>rfl)))) Qc)))
   (Qk (Qy (JM (NB:=[".0","level"]) (FR:=["keys","since","values"]) (fi:=[4,2,5]) ae ⟨ae,by decide+kernel,by decide+kernel,by decide+kernel,by decide+kernel,by decide+kernel⟩ ae ae (yi ae ae O.reversed ae O.range (Qa (pv 3) (Qa (QW Q0 ae O.len boot_len (Qa (pv 4) Qc)) Qc))) (λ_ _ _=>(Qg (i:=1) (show([".0","level","keys","since","values"]:List Str).Nodup by decide+kernel) ae (Or.inl ae))) (λ_ _ _=>QU) (λ_ _ _=>(QV (Qa QO (Qa (Qv Qj (pv 2) (pv 1) (λ_ _=>rfl)) (Qa (Xy jn (pv 4) KW (ZZ (QF Xi (pv 1) Qf))) (Qa (Qv K7 (pv 3) (pv 1) (λ_ _=>rfl)) Qc))))))))))),?_⟩
  obtain⟨a,ac,ak,as,L⟩:=Ze D;obtain rfl:=L.v;obtain⟨rr,rx,rfl,gr,tr⟩:=ag.Za DR;have fh:(Qt π.cols π.keys).length=π.keys.length:=by unfold Qt;rw[m7]
  have LU:=ts.length;rw[m7]at LU;refine⟨_,ae,a,_,1,_,ae,ae,.inl L.a,ae,?_⟩;dsimp only[QD,JF,JK,Q6];refine n9 (JE ?_);refine⟨_,ae,_,ae,.ref a,.ref ak,π,π.keys,ae,D,L.dk,(λy hy=>Ve Z hy),by lia,λq H1 S1 gq=>⟨q,ae,⟨_,.inl (.inl gq)⟩,?_⟩⟩;refine QQ (fv:=[.ref rr]) (kz (K:=K) (a:=q) (xs:=(Qt π.cols π.keys).map λi=>V.int (i:Nat))) (Vi π row) (by unfold Vi;rw[m7,m7]) (λR h=>h H1 (Qi.refl _)) rfl (λH2 S2=>.inl (.inl (S2 _ _ gq))) ?_ ?_ (by rw[m7];lia)
  ·rintro i v H2 H3 d R hd S2 ⟨rfl,hv⟩ kk;rw[nE]at hv;unfold Vi at hd;rw[nE]at hd;cases es:(Qt π.cols π.keys)[i]? with
   |none=>rw[es]at hv;cases hv
   |some at_=>
    rw[es]at hv hd;obtain rfl:=nh hv;obtain⟨c1,di,Op⟩:=Zo Z Y es;obtain⟨w1,fK,d7⟩:=tr.get (i:=at_) (d:=c1.dv) (by rw[nE,di];rfl);refine⟨ae,_,ae,_,ae,rr,rx,_,_,ae,ae,.inl ((S1.trans S2) _ _ gr),QZ fK,kk _ _ (Qi.refl _) ?_⟩;have:d=c1.dv:=by
     have e2:=nh hd;rw[←e2];show jD row at_=_;unfold jD;rw[di]
    rw[this];exact d7.same (S1.trans S2)
  ·rintro vx H2 p S2 tv hp;have S3:=Qi.new (o:=.lst vx) hp;refine⟨p,vx,ae,.inl ⟨.inl (.inl Qb),λl2 AC=>?_⟩⟩;have S4:=Qi.new (o:=.tup vx) AC;have DV:ag (upd (upd H2 p (.lst vx)) l2 (.tup vx)) (.ref l2) (.tup (Vi π row)):=JA (tv.same S3) AC;have sG:=((S1.trans S2).trans S3).trans S4;generalize upd (upd H2 p (.lst vx)) l2 (.tup vx)=H4 at DV sG S4;dsimp only[QD,JF,JK,Q6];refine jz (JE ?_);have L4:=L.same sG;have bI:(π.keys.map V.str).length=π.keys.length:=m7 ..;refine⟨_,ae,_,ae,ak,_,ae,.inr (.inl (.inl L4.k)),((first:Nat):Int),(((π.keys.map V.str).length:Nat):Int),ae,⟨by lia,by lia,by lia,by lia⟩,?_⟩;have en:((((π.keys.map V.str).length:Nat):Int)-((first:Nat):Int)).toNat=π.keys.length-first:=by lia
   rw[en];refine QQ (fv:=[.ref ak,.ref sl,.ref l2]) (Lz (lo:=((first:Nat):Int)+((π.keys.length-first:Nat):Int)-1) (c:= -1) (n:=π.keys.length-first)) (Jv π row since first) (by unfold Jv;rw[m7,List.length_range]) (λR h=>h H4 (Qi.refl _)) rfl (λH5 S5=>trivial) ?_ ?_ (by lia)
   ·rintro i v H5 H6 d R hd S5 ⟨rfl,rfl⟩ kk;unfold Jv at hd;rw[nE]at hd;have hi:i<π.keys.length-first:=by
     rcases Nat.lt_or_ge i (π.keys.length-first)with h|h
     ·exact h
     ·rw[List.getElem?_eq_none (by rw[List.length_range];exact h)]at hd;cases hd
    rw[List.getElem?_range hi]at hd;obtain rfl:d=wL π row since (π.keys.length-1-i):=(nh hd).symm;have LV:((first:Nat):Int)+((π.keys.length-first:Nat):Int)-1+((i:Nat):Int)*(-1)=((π.keys.length-1-i:Nat):Int):=by lia
    rw[LV];generalize hlv:π.keys.length-1-i=lv at kk ⊢;have bi:lv<π.keys.length:=by lia
    have ek:π.keys[lv]? =some (π.keys.getD lv ""):=by
     rw[List.getD_eq_getElem?_getD,List.getElem?_eq_getElem bi];rfl
    have LW:since[lv]? =some (since.getD lv []):=by
     rw[List.getD_eq_getElem?_getD,List.getElem?_eq_getElem (by lia)];rfl
    obtain⟨sv,LX,LY⟩:=ts.get (i:=lv) (d:=JU (since.getD lv [])) (by rw[nE,LW];rfl);have Ci:=sG.trans S5;refine⟨ae,?_⟩;refine⟨_,ae,_,ae,ak,_,_,_,ae,ae,.inl (Ci _ _ L.k),QZ (v:=.str (π.keys.getD lv "")) (by rw[nE,ek];rfl),?_⟩;refine⟨_,ae,_,ae,_,_,ae,ae,_,ae,?_⟩;have e1:((lv:Nat):Int)+1=((lv+1:Nat):Int):=by lia
    rw[e1];refine kB.yn (DV.same S5) λu H7 S7 DU=>?_;refine⟨_,ae,_,ae,sl,xs,_,sv,ae,ae,.inl (S7 _ _ (Ci _ _ gs)),QZ LX,?_⟩;refine⟨FF,λp8 cD=>kk _ _ (S7.trans (Qi.new cD)) ?_⟩;have S8:=Qi.new (o:=.tup [.str "foot",.str (π.keys.getD lv ""),u,sv]) cD;exact .tup Qb (.cons .str (.cons .str (.cons (DU.same S8) (.cons (LY.same ((Ci.trans S7).trans S8)) .nil))))
   ·rintro ys H5 p8 S5 t8 cD;have S8:=Qi.new (o:=.lst ys) cD;refine k p8 _ ys ((sG.trans S5).trans S8) ?_ Qb (t8.same S8);cases e:H p8 with
    |none=>rfl
    |some o=>rw[(sG.trans S5) _ _ e]at cD;cases cD
end
end Lw
namespace L2
open PySem PySem.Spec PyProof.Rows
section
variable {X:Cx}
theorem X5{elt tg iter:Expr}{ifs:List Expr}{scope:Scope}{pos eW py:Pos}{NB FR:List Str}{fi:List Nat}{wi:TI}{g:TG}{tt:TT}{te:TE}{iy:Nat}{y:Str}(hc:X.calm=true)(S:bz NB FR scope)(ge:YU scope X.env.scope=true)(cN:fi.map (λi=>X.N[i]?)=FR.map some) (hi:PI X tg iter wi)
  (hg:∀s H ex,PG (QH X (NB++FR) scope s H ex) tg g) (ht:∀s H ex,iY (QH X (NB++FR) scope s H ex) ifs tt) (he:∀s H ex,PE (QH X (NB++FR) scope s H ex) elt te)
  (hN:X.N.Nodup) (BJ:X.N[iy]? =some y) (hy:Loc X.env.scope y) (BK:swapsWith (.ListComp elt [⟨tg,iter,ifs,0⟩] scope pos) (some (.Name y py)) eW.line X.env=pure true)
  (hs:∀x,foldedSetIterable iter X.env x=pure x:=by intro _;rfl) (hf:X.fn y=true\/X.env.scope.names.lookup y=some .local:=by first|exact .inl rfl|exact .inr rfl|assumption):
  PS X (.Assign [.Name y py] (.ListComp elt [⟨tg,iter,ifs,0⟩] scope pos) eW) (JF (XV NB.length fi wi g tt te) (QD iy)):=by
 intro pins s σ H Dn I h;have cx:∀y∈scope.names,y.2=.free->X.env.scope.names.lookup y.1=some .cell:=XU ge;have GE:∀y∈scope.names,y.2=.free->∃c,X.env.cells.lookup y.1=some c:=λy hy e=>I.ok.has y.1 (.inl (cx y hy e));have dL:∀y c,(Qw X.env.cells scope.names []).lookup y=some c->X.env.cells.lookup y=some c:=λy c e=>J4 scope.names [] GE (λz=>nomatch z) e;rw[exec_Assign_Name_used _ _ _ _ BK];refine wpAny_bind (wpAny_standAt (wpAny_bind ?_));show wpAny _ X.A (do let _←comprehension (.ListComp elt [⟨tg,iter,ifs,0⟩] scope pos) scope X.env _ (newList []) false (eval iter X.env) (some (assign (.Name y py) X.env))) _ _ s;refine wpAny_bind (wpAny_mono (wpAny_comprehension_free (use:=some (assign (.Name y py) X.env)) (Q:=λ_ s'=>SP X pins Dn .next s') (cl:=Qw X.env.cells scope.names []) ae hs (Jb GE) S.kind S.loc (ax (hi pins s σ H _ I h) λv s1 h1=>ax h1 λlP s2 h2=>?_)) (λ_ s' hq=>wpAny_pure (wpAny_pure hq)) λ_ _ e=>e);obtain⟨it,fp,tn,J,H2,e,I2,T,cn,f2,fv,Re,W,⟨m0,w0⟩,turn⟩:=h2;subst e;refine wpAny_newObj_type ?_;have Fk:∀b o,s2.heap.get? b=some o->(s2.heap.push {cls:=.type "list",data:=.seq ([]:List Value).toArray}).get? b=some o:=λb o e=>Heap.get?_push_of_some _ e;have I3:Inv X pins σ H2 {s2 with heap:=s2.heap.push {cls:=.type "list",data:=.seq ([]:List Value).toArray}}:=I2.kept (t':=s2.toks) Fk;have bT:tn 0 (s2.heap.push {cls:=.type "list",data:=.seq ([]:List Value).toArray}):=T.keep _ _ _ cn λb _ o e=>Fk b o e;have Fr:(s2.heap.push {cls:=.type "list",data:=.seq ([]:List Value).toArray}).get? s2.heap.objs.size=some (Q5 []):=Heap.get?_push_size _ rfl;have c9:H2 s2.heap.objs.size=none:=I2.aj.fresh (ng _);have ul:∀b o,s2.heap.get? b=some o->b≠s2.heap.objs.size:=λb o e=>Nat.ne_of_lt (Heap.lt_size e);have de:∀b∈fp,∃o,s2.heap.get? b=some o:=λb hb=>let ⟨o,e,_⟩:=T.obj _ _ cn b hb;⟨o,e⟩;have f8:X.s₀.heap.objs.size<=s2.heap.objs.size:=I2.sz;have SZ:s2.heap.objs.size≠X.env.locals:=Nat.ne_of_gt I2.lt;have IR:∀x c,X.env.cells.lookup x=some c->c≠s2.heap.objs.size:=λx c e=>let ⟨v,o,e1,_⟩:=I2.cell x c e;ul c o e1;have Tk:∀p∈X.pn++pins,p.1≠s2.heap.objs.size:=λp hp=>ul p.1 _ (I2.pin p hp).1;have P3:s2.heap.objs.size∉bc X.stack:=λz=>let ⟨o,e,_⟩:=(I2.stack.mem z).2;ul _ o e rfl;generalize gV:({s2 with heap:=s2.heap.push {cls:=.type "list",data:=.seq ([]:List Value).toArray}}:Shared)=s3 at I3 ⊢;have eM:s3.heap=s2.heap.push {cls:=.type "list",data:=.seq ([]:List Value).toArray}:=by rw[←gV]
 rw[←eM]at bT Fr Fk;generalize s2.heap.objs.size=D at Fr c9 ul f8 SZ IR Tk P3 ⊢;refine J6 S.kind S.bE λAT s4 FB x4=>?_;subst FB;have NE:∀b o,s3.heap.get? b=some o->b<s3.heap.objs.size:=λb o e=>Heap.lt_size e;have bY:∀b∈fp,b<s3.heap.objs.size:=λb hb=>let ⟨o,e⟩:=de b hb;NE b o (Fk b o e);have sK:D<s3.heap.objs.size:=NE D _ Fr;have BT:∀b∈fp,b≠D:=λb hb=>let ⟨o,e⟩:=de b hb;ul b o e;obtain⟨h4,dI,rfl,ut⟩:=x4.done;have ia:∀b o,X.base.get? b=some o->b∉D::fp:=λb o e hb=>by
  rcases List.mem_cons.mp hb with rfl|hb
  ·exact absurd (Nat.lt_of_lt_of_le (Heap.lt_size (I2.ok.bs b o e).1) f8) (nU _)
  ·obtain⟨_,_,_,f3,_⟩:=f2 b hb;rcases f3 with z|z
   ·exact I2.ok.bB b o e z
   ·exact absurd (Nat.lt_of_lt_of_le (Heap.lt_size (I2.ok.bs b o e).1) z) (nU _)
 have dg:∀b∈D::fp,b∉bc X.stack:=λb hb hf=>by
  rcases List.mem_cons.mp hb with rfl|hb
  ·exact P3 hf
  ·obtain⟨_,f1,ib,_⟩:=f2 b hb;rcases List.mem_cons.mp (I2.XJ b hf)with z|z
   ·exact f1 z
   ·exact ib z
 have dM:∀y c,(Qw X.env.cells scope.names []).lookup y=some c->(∃v,s3.heap.IsCell c v)/\H2 c=none/\c≠D/\∀b∈fp,c≠b:=λy c e=>by
  have e':=dL y c e;exact⟨I3.cell y c e',I3.aG y c e',IR y c e',λb hb=>(f2 b hb).2.2.2.2.1 y c e'⟩
 have pJ:∀y c,(Qw X.env.cells scope.names []).lookup y=some c->c<s3.heap.objs.size:=λy c e=>let ⟨⟨v,o,ho,_⟩,_⟩:=dM y c e;NE c o ho;have FS:∀b∈D::fp,b<s3.heap.objs.size:=λb hb=>by
  rcases List.mem_cons.mp hb with rfl|hb
  ·exact sK
  ·exact bY b hb
 have ic:(QH X (NB++FR) scope s3 H2 (D::fp)).Ok:=by
  refine⟨I3.ok.mod,S.kind,I3.ok.glob,I3.ok.blt,ng _,λy z c h1 h2=>?_,λy hy=>?_,(λy c z _=>nomatch z),I3.ok.hd,I3.ok.frames,.inl rfl,λb hb=>⟨Nat.ne_of_lt (FS b hb),λy c e z=>?_⟩,I3.bs,Nat.le_trans I3.ok.dR I3.sz,ia,dg,I3.stack,I3.Zy⟩
  ·exact I3.ok.inj y z c (dL y c h1) (dL z c h2)
  ·exact Jy scope.names [] (.inr (Xn S.bE hy))
  ·obtain⟨_,_,n1,n2⟩:=dM y c e;rcases List.mem_cons.mp hb with q|q
   ·exact n1 (z.trans q)
   ·exact n2 b q z
 have u8:(List.replicate NB.length (none:Option V)++fv.map some).length=(NB++FR).length:=by
  have h1:=congrArg List.length Re;have h2:=congrArg List.length cN;simp only[m7]at h1 h2;rw[m5,m5,nG,m7];lia
 have rep:∀(j:Nat)(v:V),(List.replicate NB.length (none:Option V)++fv.map some)[j]? =some (some v)->∃k,j=NB.length+k/\fv[k]? =some v:=λj v z=>by
  rw[List.getElem?_append]at z
  split at z
  ·rw[List.getElem?_replicate]at z
   split at z<;>cases z
  ·rename_i hj;rw[nG]at hj z;refine⟨j-NB.length,by lia,?_⟩;rw[nE]at z;cases e:fv[j-NB.length]? with
   |none=>rw[e]at z;cases z
   |some y=>rw[e]at z;exact congrArg some (nh (nh z))
 have cO:∀(k:Nat)(v:V)(y:Str),fv[k]? =some v->FR[k]? =some y->∃i,X.N[i]? =some y/\σ[i]? =some (some v):=λk v y h1 h2=>by
  have a1:=congrArg (λl=>l[k]?) Re;have a2:=congrArg (λl=>l[k]?) cN;simp only[nE,h1,h2]at a1 a2;cases e:fi[k]? with
  |none=>rw[e]at a1;cases a1
  |some i=>
   rw[e]at a1 a2;exact⟨i,nh a2,nh a1⟩
 have IB:Inv (QH X (NB++FR) scope s3 H2 (D::fp)) [(D,Q5 [])] (List.replicate NB.length none++fv.map some) H2 {s3 with heap:=h4,toks:=dI}:=by
  refine⟨ic,ae,I3.bare,Un.kept ut,⟨_,x4.ns,λi y v h1 h2 h3=>?_⟩,λy c h=>let ⟨⟨v,o,ho,hd⟩,_⟩:=dM y c h;⟨v,o,ut _ _ ho,hd⟩,I3.aj.fresh (ng _),λy c h=>(dM y c h).2.1,λp hp=>?_,I3.aj.kept ut,u8⟩
  ·obtain⟨k,rfl,hk⟩:=rep i v h2;have hy:FR[k]? =some y:=by
    have h1:(NB++FR)[NB.length+k]? =some y:=h1;rw[List.getElem?_append_right (Nat.le_add_right _ _),Nat.add_sub_cancel_left]at h1;exact h1
   obtain⟨io,hN,hσ⟩:=cO k v y hk hy;have s0:(y,NameKind.free)∈scope.names:=S.fr y (nF hy);obtain⟨m,_,hl⟩:=I3.loc;obtain⟨u,r,l⟩:=hl io y v hN hσ (.inr (.inl (cx _ s0 ae)));refine⟨u,r,.inr ⟨.inl ?_,?_⟩⟩
   ·exact Xm S.r9 s0 (by show(X.env.scope.kind==.function)=true;rw[I3.ok.kind];rfl) (cx _ s0 ae)
   ·obtain⟨c,di⟩:=Jy (cells:=X.env.cells) (x:=y) scope.names [] (.inr s0);refine⟨c,di,?_⟩;have Fa:=dL y c di;rcases l with⟨hk,_⟩|⟨_,c',Is,o,ho,hd⟩
    ·have e1:=cx _ s0 rfl;rw[show X.env.kindOf y=X.env.scope.names.lookup y from rfl]at hk;rw[hk]at e1;cases e1
    ·rw[Fa]at Is;cases Is;exact⟨o,ut _ _ ho,hd⟩
  obtain rfl:p=(D,Q5 []):=by simpa using hp
  exact⟨ut _ _ Fr,c9,Nat.ne_of_lt sK,P3,λv z=>nomatch z⟩
 have Xr:∀{H':Hp}{ys:List Value},(∀b∈fp,H' b=none)->∀b∈fp,VP (QH X (NB++FR) scope s3 H2 (D::fp)) [(D,Q5 ys)] H' b:=λhn b hb=>
  ⟨hn b hb,Nat.ne_of_lt (bY b hb),dg b (nz _ hb),.inl (nz _ hb),λy c e z=>(dM y c e).2.2.2 b hb z,λp hp=>by
    obtain rfl:p=(D,_):=by simpa using hp
    exact(BT b hb).symm⟩
 have bN:tn 0 h4:=T.keep _ _ _ bT λb _ o e=>ut b o e;have dJ:∀b∈fp,H2 b=none:=λb hb=>(f2 b hb).1;have Do:(QH X (NB++FR) scope s3 H2 (D::fp)).calm=true:=hc;have loop:codeAny (model X.prog X.w) X.A (.compLoop (.ListComp elt [⟨tg,iter,ifs,0⟩] scope pos) 0 (.ref it) (.ref D) (V2 scope X.env s3.heap.objs.size))
   (compPost (model X.prog X.w) X.A X.xe (some (assign (.Name y py) X.env)) (λ_ s'=>SP X pins Dn .next s') (.ref D) s3.heap.objs.size) {s3 with heap:=h4,toks:=dI}:=by
  refine J5 (λn s'=>∃i vs ys H',Inv (QH X (NB++FR) scope s3 H2 (D::fp)) [(D,Q5 ys)] (List.replicate NB.length none++fv.map some) H' s'/\Vals vs ys/\vs.length<=sizeLine/\tn i s'.heap/\(∀b∈fp,H' b=none)/\W i n vs H') ?_ m0 ⟨0,[],[],H2,IB,.nil,nR _,bN,dJ,w0⟩;rintro n s5 ⟨i,vs,ys,H5,I5,rv,Ch,No,ST,w5⟩;rcases turn i n vs H5 w5 with⟨stop,qn⟩|⟨go,bi,N,hN,step⟩
  ·refine wpAny_mono (T.done (QH X (NB++FR) scope s3 H2 (D::fp)) ae ae ae Do i _ s5 _ H5 (λ_ _=>False) I5 (Xr ST) No stop) (λr s6⟨hr,I6⟩=>?_) (λ_ _ z=>z.elim);subst hr;obtain⟨m6,ie,_⟩:=id I6.loc;have dU:H5 s3.heap.objs.size=none:=I6.free;have ig:Un (bc X.stack) (D::fp) H2 H5 s3.heap s6.heap:=I6.base;have I7:Inv X pins σ H5 s6:=I3.UA (s':=s6) I6.os ig I6.aj I6.bare λb hb=>by
    rcases List.mem_cons.mp hb with rfl|hb
    ·exact⟨.inr f8,SZ,IR,Tk⟩
    ·obtain⟨_,f1,_,f3,f4,f5⟩:=f2 b hb;exact⟨f3,f1,f4,f5⟩
   obtain⟨eD,nD,_⟩:=I6.pin (D,Q5 ys) (by simp);have dh:H5 D=none:=nD;have ij:s6.heap.get? D=some (Q5 ys):=eD;have ik:X.s₀.heap.get? D=none:=by
    cases q:X.s₀.heap.get? D with
    |none=>rfl
    |some o=>exact absurd (Nat.lt_of_lt_of_le (Heap.lt_size q) f8) (nU _)
   have I8:Inv X pins σ (upd H5 D (.lst vs)) s6:=I7.VY dh ik SZ IR Tk ⟨Ch,ys,ys.length,rv,ij⟩;have hq:=qn D dh;have BL:X.s₀.heap.objs.size<=s3.heap.objs.size:=I3.sz;have cL:s3.heap.objs.size≠X.env.locals:=Nat.ne_of_gt I3.lt;have cC:∀x c,X.env.cells.lookup x=some c->c≠s3.heap.objs.size:=λx c e=>let ⟨v,o,e1,_⟩:=I3.cell x c e;Nat.ne_of_lt (NE c o e1);have cP:∀p∈X.pn++pins,p.1≠s3.heap.objs.size:=λp hp=>Nat.ne_of_lt (NE p.1 _ (I3.pin p hp).1);show wpAny (model X.prog X.w) X.A (assign (.Name y py) X.env (.ref D)) _ X.xe s6;refine wpAny_assign_Name (XL (v:=.ref D) I8 hN BJ hy ae (λs9 I9⟨a9,BM,BN⟩=>?_) hf);have na:s3.heap.objs.size≠a9:=by
    rcases BN with rfl|z
    ·exact cL
    ·exact(cC y a9 z).symm
   refine⟨m6,ie.sameBut BM na,λr8 l'=>⟨_,_,?_,hq⟩⟩;have nW:upd H5 D (.lst vs) s3.heap.objs.size=none:=by rw[Qh (Nat.ne_of_gt sK)];exact dU
   exact(I9.turned (h':=r8) (t':=s9.toks) (it:=s3.heap.objs.size) (λb o hb e=>(l'.2 b hb).trans e) nW cL (.inr BL) cC cP:)
  ·refine wpAny_mono (T.item (QH X (NB++FR) scope s3 H2 (D::fp)) ae ae ae Do i _ s5 _ H5 (λ_ _=>False) I5 (Xr ST) No go) (λr s6⟨u,hr,h6⟩=>?_) (λ_ _ z=>z.elim);subst hr;refine wpAny_mono h6 (λ_ s7⟨x,H7,I7,r7,y7,Gc,eQ⟩=>?_) (λ_ _ z=>z.elim);have eT:=I7.pinned (Xr eQ) (T.obj _ _ Gc);refine wpAny_mono (hg s3 H2 (D::fp) _ s7 _ H7 x u _ eT r7 (step x H7 y7)) (λ_ s8⟨σ8,H8,I8,sd,q8⟩=>?_) (λ_ _ z=>z.elim);refine wpAny_mono (ht s3 H2 (D::fp) _ s8 σ8 H8 _ I8 q8) (λok s9⟨H9,I9,q9⟩=>?_) (λ_ _ z=>z.elim);have cp:∀{σ':St}{H':Hp}{s':Shared},Inv (QH X (NB++FR) scope s3 H2 (D::fp)) ([(D,Q5 ys)]++Ju fp s7.heap) σ' H' s'->tn (i+1) s'.heap/\∀b∈fp,H' b=none:=λJ=>
    ⟨T.keep _ _ _ Gc λb hb o e=>(J.pin (b,o) (nu _ (nu _ (Qp hb e)))).1,λb hb=>by
     obtain⟨o,e,d⟩:=T.obj _ _ Gc b hb;exact(J.pin (b,o) (nu _ (nu _ (Qp hb e)))).2.1⟩
   have wk:∀{H':Hp}{s':Shared}{pl:List (Addr × Obj)},Inv (QH X (NB++FR) scope s3 H2 (D::fp)) pl σ8 H' s'->Inv (QH X (NB++FR) scope s3 H2 (D::fp)) pl (List.replicate NB.length none++fv.map some) H' s':=λJ=>
    J.weak (u8.trans J.len.symm) λj v z=>by
     obtain⟨k,rfl,hk⟩:=rep j v z;have:=congrArg (λl=>l[k]?) sd;simp only[List.getElem?_drop,nE,hk]at this;exact this
   cases ok with
   |false=>
    rw[if_neg (by decide)]at q9;rw[if_neg (by decide)];obtain⟨m',hm,w9⟩:=hN vs H9 q9;obtain⟨t9,f9⟩:=cp I9;exact⟨m',hm,i+1,vs,ys,H9,wk I9.QL,rv,Ch,t9,f9,w9⟩
   |true=>
    rw[if_pos rfl]at q9;rw[if_pos rfl];refine wpAny_mono (he s3 H2 (D::fp) _ s9 σ8 H9 _ I9 q9) (λy LE⟨v,pi,Tl,Tm,il⟩=>?_) (λ_ _ z=>z.elim);obtain⟨eD,nD,_,nf,_⟩:=Tl.pin (D,Q5 ys) (by simp);have ip:=rv.length;refine append_at (hsz:=by show ys.toArray.size<=sizeLine;rw[nQ, ←ip];exact Ch) eD λcq Ty TD=>?_;obtain⟨m',hm,eU⟩:=hN (vs++[v]) pi il;obtain⟨dW,eV⟩:=cp Tl;have cK:=Tl.QL;have cM:∀b o,b≠D->LE.heap.get? b=some o->cq.get? b=some o:=λb o hb e=>(Ty.2 b hb).trans e;have IE:Inv (QH X (NB++FR) scope s3 H2 (D::fp)) [] σ8 pi LE:=cK.Q4 λp hp=>nomatch hp;have cu:Inv (QH X (NB++FR) scope s3 H2 (D::fp)) [] σ8 pi {LE with heap:=cq}:=IE.turned (t':=LE.toks) cM nD (Nat.ne_of_lt sK) (.inl nA) (λy' c e z=>(dM y' c e).2.2.1 z) (λp hp=>absurd (show p∈([]:List (Addr × Obj))from hp) (by simp));have eL:({cls:=.type "list",data:=.seq (ys.toArray.push y) (ys.length+1)}:Obj)=Q5 (ys++[y]):=by
     show({cls:=.type "list",data:=.seq (ys.toArray.push y) (ys.length+1)}:Obj)={cls:=.type "list",data:=.seq (ys++[y]).toArray (ys++[y]).length};rw[m5,ni,List.push_toArray]
    refine⟨m',hm,i+1,vs++[v],ys++[y],pi,wk (cu.Q4 λp hp=>?_),rv.append (.cons Tm .nil),by rw[m5,ni];exact bi,T.keep _ _ _ dW λb hb o e=>cM b o (BT b hb) e,eV,eU⟩;obtain rfl:p=(D,Q5 (ys++[y])):=by simpa using hp
    exact⟨by rw[←eL];exact TD,nD,Nat.ne_of_lt sK,nf,λv z=>nomatch z⟩
 exact codeAny_compStart_list loop (T.self _ 0 _ _ _ bN loop)
end
end L2
namespace Lw
open PySem PySem.Spec PyProof.Rows L2 dZ
open Builtin Builtin.Str StrLaws
theorem Y6{c:TT}{t u:TS}{D:Ends}{σ:L2.St}{H:Hp}(Good:L2.St->Hp->Prop)(rest:∀σ' H',Good σ' H'->u D σ' H') (h:(∀σ' H',Good σ' H'->u D σ' H')->c σ H λb H1=>if b=true then t {D with nx:=u D} σ H1 else u D σ H1):JK (Bk c t Q6) u D σ H:=h rest
noncomputable def xB(r:List Cell):Dv:=.tup [.str "row",Kl r]
noncomputable def yp(l:List (Int × Int)):Dv:=.tup [.str "final",JU l]
noncomputable abbrev aA(π:Plan):List Nat:=Qt π.cols π.keys
noncomputable abbrev bh(π:Plan):List Nat:=Qt π.cols π.sums
noncomputable def prog(π:Plan):List (List Cell)->Option (List Cell)->List (List (Int × Int))->List Dv
 |[],none,_=>[]
 |[],some p,since=>Jv π p since 0
 |r::rs,none,since=>xB r::prog π rs (some r) (since.map (JZ (bh π) r))
 |r::rs,some p,since=>Jv π p since (unlike (aA π) p r)++xB r::prog π rs (some r) ((since.take (unlike (aA π) p r)++List.replicate (π.keys.length-unlike (aA π) p r) (zeros π)).map (JZ (bh π) r))
noncomputable def Jq(π:Plan):List (List (Int × Int)):=List.replicate π.keys.length (zeros π)
noncomputable def Z6(π:Plan)(rows:List (List Cell)):List Dv:=prog π rows none (Jq π)++[yp (total π rows)]
theorem Zp{H H2:Hp}{l:Addr}{o:HO}(S:Qi H H2)(h:H l=none):Qi H (upd H2 l o):=λb o' e=>by rw[Qh (Qn e h)];exact S _ _ e
theorem X6{H:Hp}{v:V}{d:Dv}(h:ag H v d):∀n:Nat,af H (List.replicate n v) (List.replicate n d)
 |0=>.nil
 |n+1=>.cons h (X6 h n)
theorem Y7{α:Type}(x:α)(n:Nat):(List.replicate n [x]).flatten=List.replicate n x:=by
 induction n with
 |zero=>rfl
 |succ n ih=>rw[List.replicate_succ,List.flatten_cons,ih];rfl
theorem kG{α:Type}{xs:List α}{n:Nat}{v:α}(h:xs[n]? =some v)(e:xs.length=n+1):bW xs (-1)=some v:=by
 rcases List.eq_nil_or_concat xs with rfl|⟨ys,y,rfl⟩
 ·cases e
 ·rw[List.concat_eq_append]at h e ⊢;rw[m5,ni]at e;rw[List.getElem?_append_right (by lia),show n-ys.length=0 by lia]at h;obtain rfl:=nh h;exact zT ys _
theorem ZQ(π:Plan)(r:List Cell)(s:List (List (Int × Int)))(first:Nat):(Jv π r s first).length=π.keys.length-first:=by unfold Jv;rw[m7,List.length_range]
theorem XD(π:Plan):∀(rows:List (List Cell))(p:Option (List Cell))(since:List (List (Int × Int))),(prog π rows p since).length<=π.keys.length+rows.length*(π.keys.length+1)
 |[],none,_=>by simp[prog]
 |[],some p,since=>by rw[prog,ZQ];lia
 |r::rs,none,since=>by
  have:=XD π rs (some r) (since.map (JZ (bh π) r));rw[prog,nj,nj,Nat.add_mul];lia
 |r::rs,some p,since=>by
  have:=XD π rs (some r) ((since.take (unlike (aA π) p r)++List.replicate (π.keys.length-unlike (aA π) p r) (zeros π)).map (JZ (bh π) r));rw[prog,m5,nj,ZQ,nj,Nat.add_mul];lia
section
variable {P:Program}{w:World}{K:Frag}{mg:Str->Option Value}{base:Heap}{f:Addr}{fd:FuncData}{tk:Nat->Tok}
structure cc(π:Plan)(rows:List (List Cell))(H0 H:Hp)(ln sl:Addr)(xl xs:List V)(acc:List Dv)(since:List (List (Int × Int)))(i m:Nat):Prop where
 S:Qi H0 H
 gl:H ln=some (.lst xl)
 gs:H sl=some (.lst xs)
 ne:ln≠sl
 fl:H0 ln=none
 fs:H0 sl=none
 tl:af H xl acc
 ts:af H xs (since.map JU)
 ls:since.length=π.keys.length
 lz:∀l∈since,l.length=π.sums.length
 ok:∀l∈since,∀p∈l,aF i p
 la:acc.length<=m
theorem cc.same{π:Plan}{rows:List (List Cell)}{H0 H H':Hp}{ln sl:Addr}{xl xs:List V}{acc:List Dv}{since:List (List (Int × Int))}{i m:Nat}(B:cc π rows H0 H ln sl xl xs acc since i m)(S:Qi H H'):cc π rows H0 H' ln sl xl xs acc since i m:=
 ⟨B.S.trans S,S _ _ B.gl,S _ _ B.gs,B.ne,B.fl,B.fs,B.tl.same S,B.ts.same S,B.ls,B.lz,B.ok,B.la⟩
noncomputable def JW:Sp:=λvs H Q _=>∃(v rv:V)(π:Plan)(rows:List (List Cell)),vs=[v,rv]/\ag H v (ZH π)/\ao π/\π.keys.length<=10/\ag H rv (Zr rows)/\(∀r∈rows,aq π r)/\rows.length<=20/\∀u H',Qi H H'->ag H' u (.tup (Z6 π rows))->Q u H'
noncomputable def xC(rows:List (List Cell)):Nat->Option (List Cell)
 |0=>none
 |i+1=>rows[i]?
theorem jF(F:aQ K "breaks" "breaks" Wa f fd)(O:Own mg)(OT:mg "tuple"=none)(OE:mg "enumerate"=none)(gA:Def P w K mg base 1 "no_sums" ["plan"] xA)(gB:Def P w K mg base 5 "with_row" ["plan","amounts","row"] (Y4 K))(md:Def P w K mg base 6 "sums_of" ["plan","rows"] jB)
  (gF:Def P w K mg base 6 "unlike_from" ["plan","one","other"] We) (mB:Def P w K mg base 2 "feet" ["plan","row","since","first"] jE):aw P w K mg base (aE P w) 7 f fd ["plan","rows"] JW:=by
 refine okN F Jo (λvs H Q E h=>?_) (λbv A outer s H vs Q E hr h=>?_)
 ·obtain⟨v,rv,π,rows,rfl,_⟩:=h;rfl
 ·obtain⟨v,rv,π,rows,rfl,D,Z,oh,DR,Y,hl,k⟩:=h;have hz:100000<=sizeLine:=by rw[sizeLine_eq];decide
  have z2:=Z.lu;have z3:π.keys.length+π.sums.length=(π.keys++π.sums).length:=(m5 ..).symm;refine⟨_,(Qe (Qz (i:=2) Jo.nd ae (Or.inl ae) (Qv Qj (pv 0) Qf (λ_ _=>rfl)))
   (Qe (Qz (i:=3) Jo.nd ae (Or.inl ae) (XN Qc))
   (Qe (Qz (i:=4) Jo.nd ae (Or.inl ae) (QF kq (XN (Qa (gA.pe hr (by decide) ae Qm (Qa (pv 0) Qc)) Qc)) (QW Q0 ae O.len boot_len (Qa (pv 2) Qc))))
   (Qe (Xh PassesOwn.never ae (K6 .tp ae OE (Qa (pv 1) Qc)) (JX ae (Ql (Qg (i:=5) Jo.nd ae (Or.inl ae)) (Ql (Qg (i:=6) Jo.nd ae (Or.inr ae)) Q8))) (Qe (Xt (Ji vQ (pv 5) Qf (Jm _)) (Qe (Qz (i:=7) Jo.nd ae (Or.inl ae) (gF.pe hr (by decide) ae Qm (Qa (pv 0) (Qa (Qv Qj (pv 1) (QF ZL (pv 5) Qf) (λ_ _=>rfl)) (Qa (pv 6) Qc)))))
   (Qe (XM (UH plainAttrs_list slot_list_extend type_list_extend WT (pv 3) (Qa (mB.pe hr (by decide) ae Qm (Qa (pv 0) (Qa (Qv Qj (pv 1) (QF ZL (pv 5) Qf) (λ_ _=>rfl)) (Qa (pv 4) (Qa (pv 7) Qc))))) Qc)))
   (Qk (wz (pv 4) (ZZ (pv 7)) (QF kq (XN (Qa (gA.pe hr (by decide) ae Qm (Qa (pv 0) Qc)) Qc)) (QF ZL (QW Q0 ae O.len boot_len (Qa (pv 2) Qc)) (pv 7))) ae)))) Js)
   (Qe (XM (UH plainAttrs_list PySem.F.slot_list_append PySem.F.type_list_append XQ (pv 3) (Qa (QV (Qa QO (Qa (pv 6) Qc))) Qc)))
   (Qk (X5 (NB:=[".0","amounts"]) (FR:=["plan","row"]) (fi:=[0,6]) (iy:=4) ae ⟨ae,by decide+kernel,by decide+kernel,by decide+kernel,by decide+kernel,by decide+kernel⟩ ae ae (JP (pv 4)) (λ_ _ _=>(Qg (i:=1) (show([".0","amounts","plan","row"]:List Str).Nodup by decide+kernel) ae (Or.inl ae))) (λ_ _ _=>QU) (λ_ _ _=>(gB.pe hr (by decide) ae Qm (Qa (pv 2) (Qa (pv 1) (Qa (pv 3) Qc))))) Jo.nd ae (Or.inl ae) ae)))))
   (Qe (Xt (Ji vQ (QW Q0 ae O.len boot_len (Qa (pv 1) Qc)) Qf (Jm _)) (Qk (XM (UH plainAttrs_list slot_list_extend type_list_extend WT (pv 3) (Qa (mB.pe hr (by decide) ae Qm (Qa (pv 0) (Qa (Qv Qj (pv 1) (zP YI Qf) (λ_ _=>rfl)) (Qa (pv 4) (Qa Qf Qc))))) Qc)))) Js)
   (Qe (XM (UH plainAttrs_list PySem.F.slot_list_append PySem.F.type_list_append XQ (pv 3) (Qa (QV (Qa QO (Qa (md.pe hr (by decide) ae Qm (Qa (pv 0) (Qa (pv 1) Qc))) Qc))) Qc)))
   (Qk (Qy (Qu Qo ae OT boot_tuple (Qa (pv 3) Qc)))))))))),?_⟩
  obtain⟨a,ac,ak,as,L⟩:=Ze D;obtain rfl:=L.v;obtain⟨R,xr,rfl,gr,tr⟩:=ag.Za DR;have lx:=tr.length;rw[m7]at lx;have bI:(π.keys.map V.str).length=π.keys.length:=m7 ..;refine⟨_,ae,a,_,1,_,ae,ae,.inl L.a,ae,?_⟩;dsimp only[QD,JF,JK,Q6];refine⟨pQ,λln sH=>?_⟩;have S1:=Qi.new (o:=.lst []) sH;have g1:upd H ln (.lst []) ln=some (.lst []):=Qb;generalize upd H ln (.lst [])=H1 at S1 g1;refine⟨_,ae,.ref a,π,ae,D.same S1,by lia,λu0 H2 S2 D2=>?_⟩;refine⟨Ce,λl1 bO=>?_⟩;have S3:=Qi.new (o:=.lst [u0]) bO;refine⟨_,ae,ak,_,ae,.inr (.inl (.inl (S3 _ _ (S2 _ _ (S1 _ _ L.k))))),l1,(((π.keys.map V.str).length:Nat):Int),[u0],ae,ae,Qb,by lia,by lia,by rw[nV];simp;lia,λsl fX=>?_⟩;rw[nV,Y7,bI];have S4:=Qi.new (o:=.lst (List.replicate π.keys.length u0)) fX;have Cj:upd (upd H2 l1 (.lst [u0])) sl (.lst (List.replicate π.keys.length u0)) sl=some (.lst (List.replicate π.keys.length u0)):=Qb;have Ck:=(S1.trans S2).trans S3;have FH:H sl=none:=by
   cases e:H sl with
   |none=>rfl
   |some o=>rw[Ck _ _ e]at fX;cases fX
  have FI:ln≠sl:=λz=>by
   rw[←z,S3 _ _ (S2 _ _ g1)]at fX;cases fX
  have D0:ag H2 u0 (JU (zeros π)):=D2;dsimp only;generalize upd (upd H2 l1 (.lst [u0])) sl (.lst (List.replicate π.keys.length u0))=H4 at S4 Cj;have B0:cc π rows H H4 ln sl [] (List.replicate π.keys.length u0) [] (Jq π) 0 0:=by
   refine⟨Ck.trans S4,S4 _ _ (S3 _ _ (S2 _ _ g1)),Cj,FI,sH,FH,.nil,?_,nG ..,λl hl=>?_,λl hl p hp=>?_,ng _⟩
   ·unfold Jq;rw[List.map_replicate];exact X6 (D0.same (S3.trans S4)) _
   ·rw[List.eq_of_mem_replicate hl];exact QA π
   ·rw[List.eq_of_mem_replicate hl]at hp;exact QN π p hp
  clear S1 S2 S3 S4 Ck Cj FH FI D0 D2 g1 fX bO sH;refine⟨_,ae,R,ae,⟨_,.inl (.inl (B0.S _ _ gr))⟩,?_⟩;refine ZB (BZ (k:=.tp) (K:=K) (a:=R) (xs:=xr)) (λi σ H5=>∃ln sl xl xs acc since y5 y6 y7,σ=[some (.ref a),some (.ref R),some (.ref ak),some (.ref ln),some (.ref sl),y5,y6,y7]/\cc π rows H H5 ln sl xl xs acc since i (i*20)/\acc++prog π (rows.drop i) (xC rows i) since=prog π rows none (Jq π)) ⟨ln,sl,_,_,_,_,none,none,none,ae,B0,ae⟩ ?_ ?_ ?_
  ·rintro i σ H5 _ ⟨ln,sl,xl,xs,acc,since,y5,y6,y7,rfl,B,_⟩;exact .inl (.inl (B.S _ _ gr))
  ·rintro i x σ H5 H6 hi ⟨ln,sl,xl,xs,acc,since,y5,y6,y7,rfl,B,lf⟩ ⟨p,x,hp,rfl,hx,rfl⟩;obtain⟨r,fg,dr⟩:=XC tr hx;have i7:=nF fg;have LZ:i<rows.length:=(List.getElem?_eq_some_iff.mp fg).1;have Sp:=Qi.new (o:=.tup [.int ((i:Nat):Int),x]) hp;have B6:=B.same Sp;refine⟨p,_,ae,.inl (.inl Qb),ae,_,_,ae,_,_,ae,ae,?_⟩;generalize upd H5 p (.tup [.int ((i:Nat):Int),x])=H6 at B6;clear B Sp hp;have L3:rows.drop i=r::rows.drop (i+1):=by
    rw[List.drop_eq_getElem_cons LZ]
    congr 1
    exact(List.getElem?_eq_some_iff.mp fg).2
   rw[L3]at lf;dsimp only[QD,JF,Q6];refine Y6 (λσ' H7=>∃dO BY fY fj L5,σ'=[some (.ref a),some (.ref R),some (.ref ak),some (.ref ln),some (.ref sl),some (.int ((i:Nat):Int)),some x,L5]/\cc π rows H H7 ln sl dO BY fY fj i (i*20+10)/\fY++xB r::prog π (rows.drop (i+1)) (some r) (fj.map (JZ (bh π) r))=prog π rows none (Jq π)) ?_ (λrest=>?_);rotate_left
   ·refine⟨_,ae,_,_,ae,ae,_,ae,?_⟩;refine iW (λz=>?_) (λz=>?_)
    ·have z:=of_decide_eq_true z;obtain⟨i',rfl⟩:∃i',i=i'+1:=⟨i-1,by lia⟩;obtain⟨x0,sI⟩:∃x0,xr[i']? =some x0:=⟨_,List.getElem?_eq_getElem (by lia)⟩;obtain⟨r0,d8,Ag⟩:=XC tr sI;have iw:=nF d8;have L6:(((i'+1:Nat):Nat):Int)-1=((i':Nat):Int):=by lia
     have ix:bW xr ((((i'+1:Nat):Nat):Int)-1)=some x0:=by rw[L6];exact QZ sI
     have GT:acc++(Jv π r0 since (unlike (aA π) r0 r)++xB r::prog π (rows.drop (i'+1+1)) (some r) ((since.take (unlike (aA π) r0 r)++List.replicate (π.keys.length-unlike (aA π) r0 r) (zeros π)).map (JZ (bh π) r)))=prog π rows none (Jq π):=by
      have e1:xC rows (i'+1)=some r0:=d8;rw[e1]at lf;exact lf
     refine⟨_,ae,_,ae,_,ae,_,_,ae,ae,R,xr,_,x0,ae,ae,.inl (B6.S _ _ gr),ix,_,ae,.ref a,x0,x,π,r0,r,ae,D.same B6.S,Z,Ag.same B6.S,Y r0 iw,dr.same B6.S,Y r i7,λH8 S8=>?_⟩;have B8:=B6.same S8;have L7:=Vh (aA π) r0 r;have fh:(aA π).length=π.keys.length:=by unfold aA Qt;rw[m7]
     generalize unlike (aA π) r0 r=u at GT L7 ⊢;dsimp only[QD,JF,JK,Q6];refine⟨_,ae,.inl ⟨ae,_,.inl (.inl B8.gl)⟩,?_⟩;refine⟨_,ae,_,ae,_,ae,_,_,ae,ae,R,xr,_,x0,ae,ae,.inl (B8.S _ _ gr),ix,_,ae,_,ae,.ref a,x0,sl,xs,π,r0,since,u,ae,D.same B8.S,Z,Ag.same B8.S,Y r0 iw,B8.gs,B8.ts,B8.ls,by lia,λq H9 ys S9 hq gq ty=>?_⟩;have B9:=B8.same S9;have Cm:=ty.length;rw[ZQ]at Cm;have Cn:=B9.tl.length;have sJ:=B9.la;have nq:ln≠q:=λz=>by rw[←z,B8.gl]at hq;cases hq
     have nsq:sl≠q:=λz=>by rw[←z,B8.gs]at hq;cases hq
     refine⟨ln,q,xl,ys,ae,ae,B9.gl,gq,by lia,?_⟩;have e1:∀zs:List V,(HO.lst xl)≠ .tup zs:=λzs z=>nomatch z;have pR:cc π rows H (upd H9 ln (.lst (xl++ys))) ln sl (xl++ys) xs (acc++Jv π r0 since u) since (i'+1) ((i'+1)*20+10):=by
      refine⟨Zp B9.S B9.fl,Qb,by rw[Qh B9.ne.symm];exact B9.gs,B9.ne,B9.fl,B9.fs,(B9.tl.append ty).xj B9.gl e1,B9.ts.xj B9.gl e1,B9.ls,B9.lz,B9.ok,?_⟩;rw[m5,ZQ];lia
     generalize upd H9 ln (.lst (xl++ys))=pi at pR;dsimp only[QD,JF,JK,Q6];refine⟨_,ae,.ref a,π,ae,D.same pR.S,by lia,λu1 dA fL oi=>⟨Ce,λl1 bO=>?_⟩⟩;have pS:=Qi.new (o:=.lst [u1]) bO;have Co:=fL.trans pS;have pT:=pR.same Co;have fM:([u1]:List V).length*((((π.keys.map V.str).length:Nat):Int)-((u:Nat):Int)).toNat<=sizeLine:=by
      have:((((π.keys.map V.str).length:Nat):Int)-((u:Nat):Int)).toNat<=10:=by lia
      rw[ni];lia
     refine⟨_,ae,ak,_,ae,.inr (.inl (.inl (pT.S _ _ L.k))),_,ae,_,_,ae,ae,l1,(((π.keys.map V.str).length:Nat):Int)-((u:Nat):Int),[u1],ae,ae,Qb,by lia,by lia,fM,λb hb=>?_⟩;have en:((((π.keys.map V.str).length:Nat):Int)-((u:Nat):Int)).toNat=π.keys.length-u:=by lia
     rw[en,Y7];have dN:=Qi.new (o:=.lst (List.replicate (π.keys.length-u) u1)) hb;have Os:=pT.same dN;have sL:ag (upd (upd dA l1 (.lst [u1])) b (.lst (List.replicate (π.keys.length-u) u1))) u1 (JU (zeros π)):=oi.same (pS.trans dN);have gb:upd (upd dA l1 (.lst [u1])) b (.lst (List.replicate (π.keys.length-u) u1)) b=some (.lst (List.replicate (π.keys.length-u) u1)):=Qb;have nb:sl≠b:=λz=>by rw[←z,pT.gs]at hb;cases hb
     generalize upd (upd dA l1 (.lst [u1])) b (.lst (List.replicate (π.keys.length-u) u1))=pU at Os sL gb;have Cp:=Os.ts.length;rw[m7]at Cp;have L8:=Os.ls;refine⟨_,ae,_,ae,_,ae,sl,b,xs,List.replicate (π.keys.length-u) u1,u,ae,ae,ae,Os.gs,gb,nb,by lia,by rw[nG];lia,?_⟩;have e2:∀zs:List V,(HO.lst xs)≠ .tup zs:=λzs z=>nomatch z;refine rest _ _ ⟨xl++ys,xs.take u++List.replicate (π.keys.length-u) u1,acc++Jv π r0 since u,since.take u++List.replicate (π.keys.length-u) (zeros π),_,ae,?_,by rw[nH];exact GT⟩;refine⟨Zp Os.S Os.fs,by rw[Qh Os.ne];exact Os.gl,Qb,Os.ne,Os.fl,Os.fs,Os.tl.xj Os.gs e2,?_,?_,?_,?_,Os.la⟩
     ·rw[List.map_append,List.map_take,List.map_replicate];exact((Os.ts.take u).append (X6 sL _)).xj Os.gs e2
     ·rw[m5,nB,nG];lia
     ·intro l hl;rcases List.mem_append.mp hl with hl|hl
      ·exact Os.lz l (List.mem_of_mem_take hl)
      ·rw[List.eq_of_mem_replicate hl];exact QA π
     ·intro l hl p hp;rcases List.mem_append.mp hl with hl|hl
      ·exact Os.ok l (List.mem_of_mem_take hl) p hp
      ·rw[List.eq_of_mem_replicate hl]at hp;obtain⟨q1,q2,q3⟩:=QN π p hp;exact⟨q1,q2,by lia⟩
    ·have z:=of_decide_eq_false z;obtain rfl:i=0:=by lia
     have sJ:=B6.la;exact rest _ _ ⟨xl,xs,acc,since,_,ae,⟨B6.S,B6.gl,B6.gs,B6.ne,B6.fl,B6.fs,B6.tl,B6.ts,B6.ls,B6.lz,B6.ok,by lia⟩,lf⟩
   rintro σ' H7 ⟨xl,xs,acc,since,y7,rfl,B7,sM⟩;clear lf B6;have Cn:=B7.tl.length;have sJ:=B7.la;dsimp only[QD,JF,JK,Q6];refine⟨_,ae,.inl ⟨ae,_,.inl (.inl B7.gl)⟩,?_⟩;refine⟨_,ae,fe,λp8 cD=>?_⟩;have S8:=Qi.new (o:=.tup [.str "row",x]) cD;have B8:=B7.same S8;have DL:ag (upd H7 p8 (.tup [.str "row",x])) (.ref p8) (xB r):=.tup Qb (.cons .str (.cons (dr.same B8.S) .nil));generalize upd H7 p8 (.tup [.str "row",x])=H8 at B8 DL;refine⟨ln,xl,.ref p8,ae,ae,B8.gl,by lia,?_⟩;have e1:∀zs:List V,(HO.lst xl)≠ .tup zs:=λzs z=>nomatch z;have B9:cc π rows H (upd H8 ln (.lst (xl++[.ref p8]))) ln sl (xl++[.ref p8]) xs (acc++[xB r]) since i ((i+1)*20):=by
    refine⟨Zp B8.S B8.fl,Qb,by rw[Qh B8.ne.symm];exact B8.gs,B8.ne,B8.fl,B8.fs,(B8.tl.append (.cons DL .nil)).xj B8.gl e1,B8.ts.xj B8.gl e1,B8.ls,B8.lz,B8.ok,?_⟩;rw[m5];simp;lia
   generalize upd H8 ln (.lst (xl++[.ref p8]))=H9 at B9;dsimp only[QD,JF,JK,Q6];refine JE ?_;refine⟨_,ae,sl,ae,⟨_,.inl (.inl B9.gs)⟩,?_⟩;have Cp:=B9.ts.length;rw[m7]at Cp;have L8:=B9.ls;refine QQ (fv:=[.ref a,x]) (kz (K:=K) (a:=sl) (xs:=xs)) ((since.map (JZ (bh π) r)).map JU) (by rw[m7,m7];lia) (λR h=>h H9 (Qi.refl _)) rfl (λpi Pi=>.inl (.inl (Pi _ _ B9.gs))) ?_ ?_ (by lia)
   ·rintro j v pi dA d R2 hd Pi ⟨rfl,hv⟩ kk;obtain⟨dv2,oj,Cq⟩:=B9.ts.J7 hv;rw[nE]at oj;cases el:since[j]? with
    |none=>rw[el]at oj;cases oj
    |some l=>
     rw[el]at oj;obtain rfl:=nh oj;rw[nE,nE,el]at hd;have sC:=nF el;have sN:=B9.S.trans Pi;refine⟨ae,_,ae,_,ae,_,ae,.ref a,v,x,π,l,r,i,ae,D.same sN,Z,Cq.same Pi,B9.lz l sC,B9.ok l sC,by lia,dr.same sN,Y r i7,λu2 Cr pS pV=>kk _ _ pS ?_⟩;have:d=JU (JZ (bh π) r l):=(nh hd).symm;rw[this];exact pV
   ·rintro ys pi Cs Pi dW fk;have fL:=Qi.new (o:=.lst ys) fk;have pW:=(B9.same Pi).same fL;have np:ln≠Cs:=λz=>by rw[←z,Pi _ _ B9.gl]at fk;cases fk
    refine⟨ln,Cs,xl++[.ref p8],ys,acc++[xB r],since.map (JZ (bh π) r),_,_,_,ae,⟨pW.S,pW.gl,Qb,np,pW.fl,?_,pW.tl,dW.same fL,by rw[m7];exact pW.ls,?_,?_,pW.la⟩,?_⟩
    ·cases e:H Cs with
     |none=>rfl
     |some o=>rw[(B9.S.trans Pi) _ _ e]at fk;cases fk
    ·intro l hl;obtain⟨l0,Ct,rfl⟩:=List.mem_map.mp hl;exact JB (B9.lz l0 Ct)
    ·intro l hl;obtain⟨l0,Ct,rfl⟩:=List.mem_map.mp hl;exact JV Z (Y r i7) (B9.ok l0 Ct)
    ·rw[nH];have e2:xC rows (i+1)=some r:=fg;rw[e2];exact sM
  ·rintro σ H5 ⟨ln,sl,xl,xs,acc,since,y5,y6,y7,rfl,B,lf⟩;have sJ:=B.la;have lnl:xr.length=rows.length:=lx;have L9:rows.drop xr.length=[]:=List.drop_eq_nil_of_le (by lia);rw[L9]at lf;have FJ:=B.S _ _ gr;dsimp only[QD,JF,JK,Q6];refine Y6 (λσ' H7=>∃dO,σ'=[some (.ref a),some (.ref R),some (.ref ak),some (.ref ln),some (.ref sl),y5,y6,y7]/\Qi H H7/\H7 ln=some (.lst dO)/\af H7 dO (prog π rows none (Jq π))) ?_ (λrest=>?_);rotate_left
   ·refine⟨_,ae,R,_,ae,.inr (.inl (.inl FJ)),_,_,ae,ae,_,ae,?_⟩;refine iW (λz=>?_) (λz=>?_)
    ·have z:=of_decide_eq_true z;obtain⟨n,en⟩:∃n,xr.length=n+1:=⟨xr.length-1,by lia⟩;obtain⟨x0,sI⟩:∃x0,xr[n]? =some x0:=⟨_,List.getElem?_eq_getElem (by lia)⟩;obtain⟨r0,d8,Ag⟩:=XC tr sI;have iw:=nF d8;rw[en]at lf;have e1:xC rows (n+1)=some r0:=d8;rw[e1]at lf;have GT:acc++Jv π r0 since 0=prog π rows none (Jq π):=lf;dsimp only[QD,JF,JK,Q6];refine⟨_,ae,.inl ⟨ae,_,.inl (.inl B.gl)⟩,?_⟩;refine⟨_,ae,_,ae,_,ae,R,xr,_,x0,ae,ae,.inl FJ,kG sI en,_,ae,.ref a,x0,sl,xs,π,r0,since,0,ae,D.same B.S,Z,Ag.same B.S,Y r0 iw,B.gs,B.ts,B.ls,by lia,λq H9 ys S9 hq gq ty=>?_⟩;have B9:=B.same S9;have Cm:=ty.length;rw[ZQ]at Cm;have Cn:=B9.tl.length;refine⟨ln,q,xl,ys,ae,ae,B9.gl,gq,by lia,?_⟩;have e1:∀zs:List V,(HO.lst xl)≠ .tup zs:=λzs z=>nomatch z;refine rest _ _ ⟨xl++ys,ae,Zp B9.S B9.fl,Qb,?_⟩;rw[←GT];exact(B9.tl.append ty).xj B9.gl e1
    ·have z:=of_decide_eq_false z;have en:xr.length=0:=by lia
     rw[en]at lf;have GT:acc++[]=prog π rows none (Jq π):=lf;rw[nJ]at GT;refine rest _ _ ⟨xl,ae,B.S,B.gl,?_⟩;rw[←GT];exact B.tl
   rintro σ' H7 ⟨dO,rfl,S7,g7,t7⟩;have fl:=B.fl;have lp:(prog π rows none (Jq π)).length<=1000:=by
    have h2:=XD π rows none (Jq π);have h3:rows.length*(π.keys.length+1)<=20*11:=Nat.mul_le_mul (by lia) (by lia);lia
   have Cn:=t7.length;dsimp only[QD,JF,JK,Q6];refine⟨_,ae,.inl ⟨ae,_,.inl (.inl g7)⟩,?_⟩;refine⟨_,ae,_,ae,.ref a,.ref R,π,rows,ae,D.same S7,Z,DR.same S7,Y,by lia,λu H8 S8 D8=>?_⟩;refine⟨fe,λp9 iz=>?_⟩;have S9:=Qi.new (o:=.tup [.str "final",u]) iz;have D9:ag (upd H8 p9 (.tup [.str "final",u])) (.ref p9) (yp (total π rows)):=.tup Qb (.cons .str (.cons (D8.same S9) .nil));have iA:=S8.trans S9;have g9:=iA _ _ g7;have t9:=(t7.same iA).append (.cons D9 .nil);have FK:=S7.trans iA;generalize upd H8 p9 (.tup [.str "final",u])=H9 at iA g9 t9 FK;refine⟨ln,dO,.ref p9,ae,ae,g9,by lia,?_⟩;have e1:∀zs:List V,(HO.lst dO)≠ .tup zs:=λzs z=>nomatch z;have dW:=t9.xj (o':=.lst (dO++[.ref p9])) g9 e1;have Pi:Qi H (upd H9 ln (.lst (dO++[.ref p9]))):=Zp FK fl;have FL:upd H9 ln (.lst (dO++[.ref p9])) ln=some (.lst (dO++[.ref p9])):=Qb;generalize upd H9 ln (.lst (dO++[.ref p9]))=pi at dW Pi FL;refine⟨_,ae,ln,_,ae,.inl ⟨.inl (.inl FL),λl hl=>?_⟩⟩;have fL:=Qi.new (o:=.tup (dO++[.ref p9])) hl;exact k _ _ (Pi.trans fL) (.tup Qb (dW.same fL))
theorem Wf{H:Hp}{a:Addr}{ns:List Int}(h:aJ K H a (ns.map V.int)):Bu K (.ref a) H (!ns.isEmpty):=.inl ⟨_,h,by cases ns<;>rfl⟩
theorem Vj(F:aQ K "_law_draw" "_law_draw" ZD f fd)(O:Own mg):aw P w K mg base (aE P w) 1 f fd ["_law_script","_law_town","_law_many"] (Xk K):=by
 refine okN F Jp (λvs H Q E h=>?_) (λbv A outer s H vs Q E hr h=>?_)
 ·obtain⟨a,t,r,ns,c,many,rs,rfl,_⟩:=h;rfl
 ·obtain⟨a,t,r,ns,c,many,rs,rfl,hS,T,nat,iZ,hl,hc,dB,Ah,k⟩:=h;have hu:=v8 hr;have T1:aL (upd H t (.dK [(Sum.inr "count",.int (c+1)),(Sum.inr "rests",.ref r)])) t r (c+1) rs:=⟨Qb,by rw[Qh T.ne.symm];exact T.rt,T.vs,by have:=T.c0;lia,by have:=T.ln;lia,T.ne⟩;have oo:=hS.upd (o:=.dK [(Sum.inr "count",.int (c+1)),(Sum.inr "rests",.ref r)]) nat;have A1:Apart t r H (upd H t (.dK [(Sum.inr "count",.int (c+1)),(Sum.inr "rests",.ref r)])):=λb o e n1 n2=>by rw[Qh n1];exact e
  refine⟨_,(Qe (VW hu (pv 1) QO (QF Xi (Z0 hu (pv 1) QO (λ_ _=>rfl)) Qf) ae)
   (Qe (Qz (i:=3) Jp.nd ae (Or.inl ae) (Xw (YJ (pv 0) (λ_=>rfl)) (QF Kx (Z0 hu (pv 1) QO (λ_ _=>rfl)) (QW Q0 ae O.len boot_len (Qa (pv 0) Qc))) Qf))
   (Qe (Qz (i:=4) Jp.nd ae (Or.inl ae) (zW hu (Z0 hu (pv 1) QO (λ_ _=>rfl)) (pv 3) (Xw (YJ (pv 0) (λ_=>rfl)) (Qv qI (pv 0) (pv 3) (λ_ _=>rfl)) Qf) ⟨ae,ae,ae,ae⟩))
   (Qe (Xt (Ji IC (pv 4) (QF ki Qf Qf) (Jm _)) (Qe (VW hu (Z0 hu (pv 1) QO (λ_ _=>rfl)) (pv 3) (QF VQ (pv 4) (pv 2)) ae)
   (Qk (Qy (QF Kx (pv 4) (pv 2))))) Js)
   (Qe (Qz (i:=5) Jp.nd ae (Or.inl ae) (QF Kx (QF Xi (pv 4) (QF qx Qf (Z0 hu (pv 1) QO (λ_ _=>rfl)))) Qf))
   (Qe (Qz (i:=5) Jp.nd ae (Or.inl ae) (QF Kx (QF ki (pv 5) Qf) Qf))
   (Qk (Qy (QF Kx (QF VQ (QF Kx (QF Xi (QF qx (QF VQ (pv 5) Qf) Qf) (pv 5)) Qf) Qf) (pv 2)))))))))),?_⟩
  refine⟨_,ae,t,_,ae,Zl T.tw,_,_,ae,ae,_,ae,t,_,ae,UM _ T.tw,?_⟩;refine⟨_,ae,_,Wf oo,?_⟩;refine iW (λhz=>?_) (λhz=>?_)
  ·have hp:0<ns.length:=by cases ns with|nil=>cases hz|cons a r=>exact Nat.succ_pos _
   have oq:(0:Int)<((ns.map V.int).length:Int):=by rw[m7];lia
   refine⟨_,ae,t,_,ae,Zl T1.tw,_,ae,a,_,ae,.inl oo,_,_,ae,ae,oq,?_⟩;have m1:=Int.emod_nonneg (c+1) (Int.ne_of_gt oq);have m2:=Int.emod_lt_of_pos (c+1) oq;obtain⟨j,hj⟩:=Int.eq_ofNat_of_zero_le m1;have Ma:j<ns.length:=by rw[hj,m7]at m2;lia
   refine⟨_,ae,t,_,ae,Zm T1.tw,r,ae,.inl ⟨rs,.inl T1.rt⟩,_,ae,_,ae,_,Wf oo,?_⟩;rw[hz];refine zX ⟨_,ae,_,ae,a,_,_,V.int ns[j],ae,ae,oo,?_,_,YQ.k (k:=Sum.inl ((c+1) % ((ns.map V.int).length:Int))) T1.rt,?_⟩
   ·show bW (ns.map V.int) ((c+1) % ((ns.map V.int).length:Int))=_;rw[hj];refine QZ ?_;rw[nE,List.getElem?_eq_getElem Ma];rfl
   obtain⟨z,hz⟩:=WZ T1.vs ((c+1) % ((ns.map V.int).length:Int)) (ns[j]);rw[hz];refine⟨_,ae,_,_,ae,ae,⟨by decide,by decide,by decide⟩,_,_,ae,ae,_,ae,?_⟩;refine iW (λg=>?_) (λg=>?_)
   ·have P2:=W0 T1.vs ((c+1) % ((ns.map V.int).length:Int)) (z/many);refine⟨_,ae,_,ae,_,_,ae,ae,⟨dB,by lia⟩,_,ae,t,_,ae,Zm T1.tw,_,ae,r,_,ae,qP.k (k:=Sum.inl ((c+1) % ((ns.map V.int).length:Int))) T1.rt (Nat.lt_of_lt_of_le (m:=100001) (by have:=T.ln;lia) (by decide)),?_⟩;refine⟨_,ae,_,ae,_,_,ae,ae,dB,?_⟩;refine k _ (putK rs (Sum.inl ((c+1) % ((ns.map V.int).length:Int))) (.int (z/many))) _ (Int.emod_nonneg _ (Int.ne_of_gt dB)) (Int.emod_lt_of_pos _ dB) ⟨?_,Qb,P2.1,T1.c0,?_,T.ne⟩ (A1.trans λb o e n1 n2=>by rw[Qh n2];exact e)
    ·rw[Qh T.ne];exact T1.tw
    ·have:=P2.2;have:=T.ln;lia
   ·refine⟨_,ae,_,ae,t,_,ae,Zl T1.tw,_,_,ae,ae,.inl ⟨by decide,by decide⟩,_,_,ae,ae,_,_,ae,ae,(show(0:Int)<4294967291 by decide),?_⟩;have n1:=Int.emod_nonneg (z+104729*(c+1)) (show(4294967291:Int)≠0 by decide);have n2:=Int.emod_lt_of_pos (z+104729*(c+1)) (show(0:Int)<4294967291 by decide);refine⟨_,ae,_,_,ae,ae,⟨by decide,by decide,by show Int.natAbs _<2^64;lia⟩,_,_,ae,ae,(show(0:Int)<4294967279 by decide),?_⟩;refine⟨_,ae,_,_,ae,ae,⟨by decide,by decide⟩,_,_,ae,ae,.inr ⟨by decide,by decide⟩,_,ae,_,_,ae,ae,_,_,ae,ae,(show(0:Int)<4294967231 by decide),_,_,ae,ae,⟨by decide,by decide⟩,_,ae,_,_,ae,ae,dB,?_⟩;exact k _ rs _ (Int.emod_nonneg _ (Int.ne_of_gt dB)) (Int.emod_lt_of_pos _ dB) T1 A1
  ·refine⟨_,ae,t,_,ae,Zm T1.tw,r,ae,.inl ⟨rs,.inl T1.rt⟩,_,ae,_,ae,_,Wf oo,?_⟩;rw[hz];refine WF ⟨_,YQ.k (k:=Sum.inl (0:Int)) T1.rt,?_⟩;obtain⟨z,hz⟩:=WZ T1.vs ((0:Int)) (0);rw[hz];refine⟨_,ae,_,_,ae,ae,⟨by decide,by decide,by decide⟩,_,_,ae,ae,_,ae,?_⟩;refine iW (λg=>?_) (λg=>?_)
   ·have P2:=W0 T1.vs ((0:Int)) (z/many);refine⟨_,ae,_,ae,_,_,ae,ae,⟨dB,by lia⟩,_,ae,t,_,ae,Zm T1.tw,_,ae,r,_,ae,qP.k (k:=Sum.inl ((0:Int))) T1.rt (Nat.lt_of_lt_of_le (m:=100001) (by have:=T.ln;lia) (by decide)),?_⟩;refine⟨_,ae,_,ae,_,_,ae,ae,dB,?_⟩;refine k _ (putK rs (Sum.inl ((0:Int))) (.int (z/many))) _ (Int.emod_nonneg _ (Int.ne_of_gt dB)) (Int.emod_lt_of_pos _ dB) ⟨?_,Qb,P2.1,T1.c0,?_,T.ne⟩ (A1.trans λb o e n1 n2=>by rw[Qh n2];exact e)
    ·rw[Qh T.ne];exact T1.tw
    ·have:=P2.2;have:=T.ln;lia
   ·refine⟨_,ae,_,ae,t,_,ae,Zl T1.tw,_,_,ae,ae,.inl ⟨by decide,by decide⟩,_,_,ae,ae,_,_,ae,ae,(show(0:Int)<4294967291 by decide),?_⟩;have n1:=Int.emod_nonneg (z+104729*(c+1)) (show(4294967291:Int)≠0 by decide);have n2:=Int.emod_lt_of_pos (z+104729*(c+1)) (show(0:Int)<4294967291 by decide);refine⟨_,ae,_,_,ae,ae,⟨by decide,by decide,by show Int.natAbs _<2^64;lia⟩,_,_,ae,ae,(show(0:Int)<4294967279 by decide),?_⟩;refine⟨_,ae,_,_,ae,ae,⟨by decide,by decide⟩,_,_,ae,ae,.inr ⟨by decide,by decide⟩,_,ae,_,_,ae,ae,_,_,ae,ae,(show(0:Int)<4294967231 by decide),_,_,ae,ae,⟨by decide,by decide⟩,_,ae,_,_,ae,ae,dB,?_⟩;exact k _ rs _ (Int.emod_nonneg _ (Int.ne_of_gt dB)) (Int.emod_lt_of_pos _ dB) T1 A1
theorem Wg(F:aQ K "_law_begun" "_law_begun" Zc f fd):aw P w K mg base (aE P w) 1 f fd [] V0:=by
 refine Fx F Wb (λvs H Q E h=>?_) (λbv A outer s H vs Q E hr h=>?_)
 ·obtain⟨rfl,_⟩:=h;rfl
 ·obtain⟨rfl,k⟩:=h;refine⟨_,UL,?_⟩;intro p hp d hd;have Ai:d≠p:=λz=>by rw[z,Qb]at hd;cases hd
  have Aj:H d=none:=by rw[Qh Ai]at hd;exact hd
  refine⟨by rw[Qh Ai.symm,Qb],[(Sum.inr "count",.int 0),(Sum.inr "rests",.ref d)],ae,Nat.le_of_ble_eq_true rfl,?_⟩;have e:Xj [] [((Sum.inr "count":Key),V.int 0),((Sum.inr "rests":Key),V.ref d)]=[((Sum.inr "count":Key),V.int 0),((Sum.inr "rests":Key),V.ref d)]:=by
   have h:¬ ((Sum.inr "count":Key)=(Sum.inr "rests":Key)):=qY;unfold Xj putK;simp[h]
  rw[e];refine k p d _ hp Aj ⟨Qb,by rw[Qh Ai,Qb],(λkv hm=>nomatch hm),by decide,by decide,Ai.symm⟩ λb o z=>?_;rw[Qh (Qn z hp),Qh (Qn z Aj),Qh (Qn z hp)];exact z
theorem Wh:∀k:Nat,k<19->PySem.intText? (("1":Str)++WG "0" k)=some (10^k)/\(("1":Str)++WG "0" k).length<=640/\("1":Str).length+(WG "0" k).length<=sizeLine/\("0":Str).length*k<=sizeLine:=by decide+kernel
noncomputable def KI:Sp:=λvs H Q _=>∃(a b:Addr)(xs ys:List V)(l m:List (Int × Int))(n:Nat),vs=[.ref a,.ref b]/\H a=some (.tup xs)/\af H xs (l.map Kr)/\H b=some (.tup ys)/\af H ys (m.map Kr)/\l.length=m.length/\(∀p∈l,aF n p)/\(∀p∈m,aF n p)/\n<=500/\l.length<=100/\∀u H',Qi H H'->ag H' u (JU (List.zipWith KH l m))->Q u H'
theorem XE{H:Hp}{xs:List V}{l:List (Int × Int)}(t:af H xs (l.map Kr)){i:Nat}{x:V}(h:xs[i]? =some x):∃p a,l[i]? =some p/\x=.ref a/\H a=some (.tup [.int p.1,.int p.2]):=by
 obtain⟨d,hd,dd⟩:=t.J7 h;rw[nE]at hd;cases e:l[i]? with
 |none=>rw[e]at hd;cases hd
 |some p=>
  rw[e]at hd;obtain rfl:=nh hd;obtain⟨a,rfl,g⟩:=kF dd;exact⟨p,a,ae,ae,g⟩
theorem aF.Cu{n:Nat}{p:Int × Int}(h:aF n p)(hn:n<=1000):p.1.natAbs<2^200:=(h.au (K:=default) hn (H:=λ_=>some (.tup [.int p.1,.int p.2])) (a:=default) ae).bd
theorem Vk(F:aQ K "_law_plus" "_law_plus" ZE f fd)(O:Own mg)(OT:mg "tuple"=none)(OZ:mg "zip"=none):aw P w K mg base (aE P w) 1 f fd ["_law_one","_law_two"] KI:=by
 refine okN F Q1 (λvs H Q E h=>?_) (λbv A outer s H vs Q E hr h=>?_)
 ·obtain⟨a,b,xs,ys,l,m,n,rfl,_⟩:=h;rfl
 ·obtain⟨a,b,xs,ys,l,m,n,rfl,ga,ta,gb,tb,sC,ol,om,hn,hl,k⟩:=h;have hz:1000<=sizeLine:=by decide
  have l1:=ta.length;have l2:=tb.length;rw[m7]at l1 l2;refine⟨_,(Qe (Qz (i:=2) Q1.nd ae (Or.inl ae) (XN Qc))
   (Qe (Xh PassesOwn.never ae (V5 .tp .tp ae OZ (Qa (pv 0) (Qa (pv 1) Qc))) (JX ae (Ql (Qg (i:=3) Q1.nd ae (Or.inl ae)) (Ql (Qg (i:=4) Q1.nd ae (Or.inl ae)) Q8))) (Qe (Qz (i:=5) Q1.nd ae (Or.inl ae) (QW (WK ae) ae O.max boot_max (Qa (Qv Qj (pv 3) Qf (λ_ _=>rfl)) (Qa (Qv Qj (pv 4) Qf (λ_ _=>rfl)) Qc))))
   (Qe (Qz (i:=6) Q1.nd ae (Or.inl ae) (QF K2 (Qv Qj (pv 3) Qf (λ_ _=>rfl)) (Qu JQ ae O.int boot_int (Qa (QF ZX QO (QF ZA QO (QF ZL (pv 5) (Qv Qj (pv 3) Qf (λ_ _=>rfl))))) Qc))))
   (Qe (Qz (i:=6) Q1.nd ae (Or.inl ae) (QF Xi (pv 6) (QF K2 (Qv Qj (pv 4) Qf (λ_ _=>rfl)) (Qu JQ ae O.int boot_int (Qa (QF ZX QO (QF ZA QO (QF ZL (pv 5) (Qv Qj (pv 4) Qf (λ_ _=>rfl))))) Qc)))))
   (Qk (XM (UH plainAttrs_list PySem.F.slot_list_append PySem.F.type_list_append XQ (pv 2) (Qa (QV (Qa (pv 6) (Qa (pv 5) Qc))) Qc))))))))
   (Qk (Qy (Qu Qo ae OT boot_tuple (Qa (pv 2) Qc)))))),?_⟩
  refine⟨pQ,λq hq=>?_⟩;have S1:=Qi.new (o:=.lst []) hq;have g1:upd H q (.lst []) q=some (.lst []):=Qb;generalize upd H q (.lst [])=H1 at S1 g1;dsimp only[QD,JF,JK,Q6];refine⟨_,ae,_,ae,a,b,ae,⟨_,.inl (S1 _ _ ga)⟩,⟨_,.inl (S1 _ _ gb)⟩,?_⟩;refine ZB (u9 (k1:=.tp) (k2:=.tp) (a1:=a) (a2:=b) (xs:=xs) (ys:=ys)) (λi σ H2=>∃zs y3 y4 y5 y6,σ=[some (.ref a),some (.ref b),some (.ref q),y3,y4,y5,y6]/\Qi H H2/\H2 q=some (.lst zs)/\af H2 zs (((List.zipWith KH l m).take i).map Kr)) ⟨[],none,none,none,none,ae,S1,g1,.nil⟩ ?_ ?_ ?_
  ·rintro i σ H2 _ ⟨zs,y3,y4,y5,y6,rfl,S,_⟩;exact⟨.inl (S _ _ ga),.inl (S _ _ gb)⟩
  ·rintro i v σ H2 H3 hi ⟨zs,y3,y4,y5,y6,rfl,S,gq,tq⟩ ⟨p,x,y,hp,rfl,hx,hy,rfl⟩;have Sp:=Qi.new (o:=.tup [x,y]) hp;obtain⟨pp,a1,ou,rfl,g1⟩:=XE ta hx;obtain⟨qq,a2,sO,rfl,g2⟩:=XE tb hy;have o1:=ol _ (nF ou);have o2:=om _ (nF sO);have b1:=o1.Cu (by lia);have b2:=o2.Cu (by lia);refine⟨p,_,ae,.inl (.inl Qb),ae,_,_,ae,_,_,ae,ae,?_⟩;have S3:=S.trans Sp;have Ak:=Sp _ _ gq;have Cv:=tq.same Sp;generalize upd H2 p (.tup [.ref a1,.ref a2])=H3 at Sp S3 Ak Cv;have h1:=S3 _ _ g1;have h2:=S3 _ _ g2;obtain⟨p1,p2⟩:=pp;obtain⟨q1,q2⟩:=qq;obtain⟨c1,c2,c3⟩:=o1;obtain⟨d1,d2,d3⟩:=o2;have m1:=wG p2 q2;have m2:=vF p2 q2;have m3:=Yf c2 d2;dsimp only[QD,JF,JK,Q6];refine⟨_,ae,a1,_,1,_,ae,ae,.inl h1,ae,_,ae,a2,_,1,_,ae,ae,.inl h2,ae,p2,q2,ae,?_⟩;have em:(if q2>p2 then q2 else p2)=mx p2 q2:=rfl;rw[em];obtain⟨e1,e2,e3,e4⟩:=Wh (mx p2 q2-p2).toNat (by lia);obtain⟨f1,f2,f3,f4⟩:=Wh (mx p2 q2-q2).toNat (by lia);have t1:((10:Int)^(mx p2 q2-p2).toNat).natAbs<2^2000:=big (Zd (m:=mx p2 q2-p2) (by lia));have t2:((10:Int)^(mx p2 q2-q2).toNat).natAbs<2^2000:=big (Zd (m:=mx p2 q2-q2) (by lia));refine⟨_,ae,a1,_,0,_,ae,ae,.inl h1,ae,_,ae,_,ae,a1,_,1,_,ae,ae,.inl h1,ae,_,_,ae,ae,_,_,ae,ae,by lia,e4,by lia,_,_,ae,ae,e3,_,_,ae,e1,e2,_,_,ae,ae,⟨big b1,t1⟩,?_⟩;refine⟨_,ae,_,ae,a2,_,0,_,ae,ae,.inl h2,ae,_,ae,_,ae,a2,_,1,_,ae,ae,.inl h2,ae,_,_,ae,ae,_,_,ae,ae,by lia,f4,by lia,_,_,ae,ae,f3,_,_,ae,f1,f2,_,_,ae,ae,⟨big b2,t2⟩,_,_,ae,ae,?_⟩;refine⟨_,ae,.inl ⟨ae,_,.inl (.inl Ak)⟩,?_⟩;refine⟨_,ae,_,ae,fe,λp8 cD=>?_⟩;have S8:=Qi.new (o:=.tup [.int (p1*10^(mx p2 q2-p2).toNat+q1*10^(mx p2 q2-q2).toNat),.int (mx p2 q2)]) cD;have D8:ag (upd H3 p8 (.tup [.int (p1*10^(mx p2 q2-p2).toNat+q1*10^(mx p2 q2-q2).toNat),.int (mx p2 q2)])) (.ref p8) (Kr (KH (p1,p2) (q1,q2))):=.tup Qb (.cons .int (.cons .int .nil));generalize upd H3 p8 (.tup [.int (p1*10^(mx p2 q2-p2).toNat+q1*10^(mx p2 q2-q2).toNat),.int (mx p2 q2)])=H8 at S8 D8;have lz:=Cv.length;rw[m7,nB,List.length_zipWith]at lz;refine⟨q,zs,.ref p8,ae,ae,S8 _ _ Ak,by lia,?_⟩;have e9:∀zz:List V,(HO.lst zs)≠ .tup zz:=λzz z=>nomatch z;refine⟨zs++[.ref p8],_,_,_,_,ae,Zp (S3.trans S8) hq,Qb,?_⟩;have ez:(List.zipWith KH l m)[i]? =some (KH (p1,p2) (q1,q2)):=by rw[List.getElem?_zipWith,ou,sO]
   rw[List.take_add_one,ez,List.map_append];exact((Cv.same S8).append (.cons D8 .nil)).xj (S8 _ _ Ak) e9
  ·rintro σ H2 ⟨zs,y3,y4,y5,y6,rfl,S,gq,tq⟩;rw[List.take_of_length_le (by rw[List.length_zipWith];lia)]at tq;refine⟨_,ae,q,_,ae,.inl ⟨.inl (.inl gq),λl9 FN=>?_⟩⟩;exact k _ _ (S.trans (Qi.new FN)) (JA tq FN)
end
end Lw
namespace L2
open PySem PySem.Spec PyProof.Rows
section
variable {X:Cx}
theorem Zg{i:Int}{j:Nat}{p:Pos}{es:List Expr}{t:TA}(hr:iq X es t):iq X (.Constant (.int i) j p::es) (JG (tC (.int i)) t):=⟨Qa Qf hr.pa rfl⟩
theorem Jc{ii:List Expr}{t1:TA}{k:Nat}{p:Pos}{es:List Expr}{t:TA}(h:iq X ii t1)(hr:iq X es t):iq X (.Tuple ii k p::es) (JG (vT t1) t):=⟨Qa (QV h.pa) hr.pa rfl⟩
noncomputable def yq:R2:=λx y H Q=>∃p xs i v,x=.ref p/\y=.int i/\Rd H p (.lst xs)/\bW xs i=some v/\Q v H
theorem ZR{es:List Expr}{t:TA}{b:Expr}{tb:TE}{p pos:Pos}(h:iq X es t)(hb:aZ X b tb)(hs:qH b):aZ X (.Subscript (.List es p) b pos) (fR yq (Bx t) tb):=⟨Qv K7 (XN h.pa) hb.pe hs⟩
theorem jG{k v:Expr}{tk tv:TE}{pos:Pos}(hk:aZ X k tk)(hv:aZ X v tv):aZ X (.Dict [some k] [v] pos) (zV [(tk,tv)]):=⟨qT (K1 hk.pe hv.pe qS) rfl rfl (List.cons_ne_nil _ _) (Nat.le_of_ble_eq_true ae)⟩
theorem Z7{i:Nat}{x:Str}{e:Expr}{te:TE}{pos pos':Pos}(hN:X.N.Nodup)(hi:X.N[i]? =some x)(hx:Loc X.env.scope x)(he:aZ X e te)(hs:swapsWith e (some (.Name x pos')) pos.line X.env=pure false)(hf:X.fn x=true):l8 X (.Assign [.Name x pos'] e pos) (JF te (QD i)):=⟨Qz hN hi hx he.pe hs (.inl hf)⟩
theorem Y8{o i value:Expr}{td ty tv:TE}{pos pos':Pos}(hu:X.A.units+1<cLine)(ho:aZ X o td)(hi:aZ X i ty)(hv:aZ X value tv)(hs:swapsWith value (some (.Subscript o i pos')) pos.line X.env=pure false):l8 X (.Assign [.Subscript o i pos'] value pos) (v4 td ty tv):=⟨VW hu ho.pe hi.pe hv.pe hs⟩
theorem wN{tg iter:Expr}{body:List Stmt}{wi:TI}{g:TG}{tb:TS}{pos:Pos}(hp:PassesOwn (model X.prog X.w) X.A X.env X.xe)(hc:X.calm=true)(hi:PI X tg iter wi)(hg:PG X tg g)(hb:l6 X body tb)(hs:∀x,foldedSetIterable iter X.env x=pure x):l8 X (.For tg iter body [] pos) (Fd wi g tb):=⟨Xh hp hc hi hg hb.ps hs⟩
theorem wO{e:Expr}{te:TE}{pos:Pos}(he:aZ X e te):l8 X (.Return (some e) pos) (vE te):=⟨Qy he.pe⟩
end
noncomputable def iB(ta:TA)(ds:List Dv):Prop:=∀(σ:St)(H:Hp)(R:List V->Hp->Prop),(∀xs H1,Qi H H1->af H1 xs ds->R xs H1)->ta σ H R
theorem QT:iB YL []:=λσ H R h=>h [] H (Qi.refl _) .nil
theorem QK{x:Str}{t:TA}{ds:List Dv}(h:iB t ds):iB (JG (tC (.str x)) t) (.str x::ds):=λσ H R k=>h σ H _ λxs H1 S t=>k _ _ S (.cons .str t)
theorem Zh{i:Int}{t:TA}{ds:List Dv}(h:iB t ds):iB (JG (tC (.int i)) t) (.int i::ds):=λσ H R k=>h σ H _ λxs H1 S t=>k _ _ S (.cons .int t)
theorem Jd{t1 t:TA}{es ds:List Dv}(h1:iB t1 es)(hl:es.length<=sizeLine)(h:iB t ds):iB (JG (vT t1) t) (.tup es::ds):=λσ H R k=>h1 σ H _ λxs H1 S t1=>⟨by rw[t1.length];exact hl,λp hp=>h σ _ _ λys H2 S2 t2=>k _ _ ((S.trans (Qi.new hp)).trans S2) (.cons ((JA t1 hp).same S2) t2)⟩
section
variable {K:Frag}
section
variable {H H':Hp}{a t r:Addr}{ns:List Int}{c c':Int}
theorem aW.Jr(B:aW K H a t r ns c)(A:Apart t r H H'):∀b ys,H b=some (.tup ys)->H' b=some (.tup ys):=λb ys e=>B.keep A e λ_ z=>nomatch z
theorem aW.jH{σ:St}{i j:Nat}{n:Int}{ta:TA}{ds:List Dv}{Q:VK}{E:XK}(B:aW K H a t r ns c)(hi:σ[i]? =some (some (.ref a)))(hj:σ[j]? =some (some (.ref t)))(Mb:iB ta ds)(hn:n=(ds.length:Int))(h0:0<n)(h1:n<1000)(hc:c<100000)
  (k:∀(d:Nat)(x:V)(dv:Dv)(H':Hp),ds[d]? =some dv->ag H' x dv->aW K H' a t r ns (c+1)->Apart t r H H'->Q x H'):fR yq (Bx ta) (VR (Xk K) [] E (JG (qo i) (JG (qo j) (JG (tC (.int n)) YL)))) σ H Q:=by
 have hz:1000<=sizeLine:=by decide
 refine Mb _ _ _ λxs H1 S1 T1=>⟨by have:=T1.length;lia,λp hp=>?_⟩;have S:=Qi.new (o:=.lst xs) hp;have B1:=B.same (S1.trans S);refine B1.draw hi hj (λR h=>h) h0 (by lia) hc λd H' hd B' A'=>?_;have hl:=T1.length;obtain⟨x,hx⟩:∃x,xs[d]? =some x:=⟨_,List.getElem?_eq_getElem (by lia)⟩;have ou:H' p=some (.lst xs):=B1.keep A' Qb λ_ z=>nomatch z;obtain⟨dv,oj,Cq⟩:=T1.J7 hx;exact⟨p,xs,d,x,ae,ae,.inl ou,QZ hx,k d x dv H' oj ((Cq.same S).keep (B1.Jr A')) B' (λb o e n1 n2=>A' b o ((S1.trans S) _ _ e) n1 n2)⟩
theorem xD{p:Addr}{ap:List (Key × V)}{o:HO}{xs:List V}(h:aJ K H a xs)(e:H p=some (.dK ap)):aJ K (upd H p o) a xs:=by
 rcases h with(h|⟨o',h⟩)|h
 ·exact .inl (.inl (by rw[Qh (λz=>by rw[z,e]at h;cases h)];exact h))
 ·exact .inl (.inr ⟨o',by rw[Qh (λz=>by rw[z,e]at h;cases h)];exact h⟩)
 ·exact .inr h
theorem aW.Mc{p:Addr}{ap:List (Key × V)}{o:HO}(B:aW K H a t r ns c)(e:H p=some (.dK ap))(n1:p≠t)(n2:p≠r):aW K (upd H p o) a t r ns c:=by
 obtain⟨rs,T⟩:=B.tw;exact⟨xD B.sq e,⟨rs,by rw[Qh n1.symm];exact T.tw,by rw[Qh n2.symm];exact T.rt,T.vs,T.c0,T.ln,T.ne⟩,B.nat,B.iZ,B.ln⟩
end
end
end L2
namespace Lw
open PySem PySem.Spec PyProof.Rows L2 dZ
open Builtin Builtin.Str StrLaws
section
variable {P:Program}{w:World}{K:Frag}{mg:Str->Option Value}{base:Heap}{f:Addr}{fd:FuncData}{tk:Nat->Tok}
noncomputable def xE:List (List Str):=[[],["a"],["a","b"],["b","a"]]
noncomputable def UX:List (List Str):=[[],["x"],["x","y"],["y"]]
noncomputable def UY:List (List Str):=[["a","b","x","y","z"],["x","a","z","b","y"]]
theorem wP{ks ss cs:List Str}{n:Int}(h1:ks∈xE)(h2:ss∈UX)(h3:cs∈UY)(h4:6<=n):ao ⟨cs,ks,ss,n⟩:=by
 have key:(xE.all λks=>UX.all λss=>UY.all λcs=>cs.all KD&&ks.all KD&&ss.all KD&&decide (many cs=cs.length)&&decide (many ks=ks.length)&&decide (many ss=ss.length)&&decide (many (ks++ss)=(ks++ss).length)&&(ks++ss).all (λx=>cs.contains x)&& !cs.isEmpty&&decide (cs.length<=100)&&decide ((ks++ss).length<=100))=true:=by decide+kernel
 have k1:=List.all_eq_true.mp key ks h1;have k2:=List.all_eq_true.mp k1 ss h2;have k3:=List.all_eq_true.mp k2 cs h3;simp only[Bool.and_eq_true,decide_eq_true_eq]at k3;obtain⟨⟨⟨⟨⟨⟨⟨⟨⟨⟨a1,a2⟩,a3⟩,a4⟩,a5⟩,a6⟩,a7⟩,a8⟩,a9⟩,Md⟩,Me⟩:=k3;exact⟨a1,a2,a3,a4,a5,a6,a7,a8,(λz=>by simp only[]at z;rw[z]at a9;cases a9),h4,Md,Me⟩
noncomputable def cellOf(A B X Y:Cell)(nm:Str):Cell:=if nm="a" then A else if nm="b" then B else if nm="x" then X else if nm="y" then Y else .txt "t"
noncomputable def Cw:List Cell:=[.txt "p",.txt "q",.au 1 0]
noncomputable def Cy:List Cell:=[.au 1 0,.au 10 1,.txt "r",.au 2 0]
theorem wQ:∀c∈Cw,Jh c:=by
 intro c hc;simp only[Cw,List.mem_cons,List.not_mem_nil,or_false]at hc;rcases hc with rfl|rfl|rfl
 ·show textOk "p"=true;decide+kernel
 ·show textOk "q"=true;decide+kernel
 ·exact⟨by decide,by decide,by decide⟩
theorem wR:∀c∈Cy,Jh c:=by
 intro c hc;simp only[Cy,List.mem_cons,List.not_mem_nil,or_false]at hc;rcases hc with rfl|rfl|rfl|rfl
 ·exact⟨by decide,by decide,by decide⟩
 ·exact⟨by decide,by decide,by decide⟩
 ·show textOk "r"=true;decide+kernel
 ·exact⟨by decide,by decide,by decide⟩
theorem kH{u o:Int}(h0:0<=o)(h2:o<=2)(hu:u.natAbs<=100):Jh (.au u o):=by
 refine⟨h0,h2,?_⟩;rw[Int.natAbs_mul];have:(ay.az (2-o)).natAbs<=100:=by
  obtain rfl|rfl|rfl:o=0\/o=1\/o=2:=by lia
  ·decide
  ·decide
  ·decide
 calc u.natAbs*(ay.az (2-o)).natAbs<=100*100:=Nat.mul_le_mul hu this
  _=10^4:=by decide
theorem yt{ks ss cs:List Str}{n:Int}{A B:Cell}{xu xo yu yo:Int}(h2:ss∈UX)(hA:Jh A)(hB:Jh B)(hX:Jh (.au xu xo))(hY:Jh (.au yu yo)):aq ⟨cs,ks,ss,n⟩ (cs.map (cellOf A B (.au xu xo) (.au yu yo))):=by
 refine⟨m7 ..,λc hc=>?_,λi x hx hs=>?_⟩
 ·obtain⟨nm,_,rfl⟩:=List.mem_map.mp hc;unfold cellOf
  split
  ·exact hA
  ·split
   ·exact hB
   ·split
    ·exact hX
    ·split
     ·exact hY
     ·show textOk "t"=true;decide+kernel
 ·have key:∀ss∈UX,∀x∈ss,x="x"\/x="y":=by
   intro ss Al x hx;have h:=List.all_eq_true.mp (show(UX.all λss=>ss.all λx=>decide (x=("x":Str))||decide (x=("y":Str)))=true by decide+kernel) ss Al;have h:=List.all_eq_true.mp h x hx;simpa using h
  have Mf:=key ss h2 x (List.contains_iff_mem.mp hs);have fI:cs[i]? =some x:=hx;rw[nE,fI];have n1:¬ (("x":Str)="a"):=by decide+kernel
  have n2:¬ (("x":Str)="b"):=by decide+kernel
  have n3:¬ (("y":Str)="a"):=by decide+kernel
  have n4:¬ (("y":Str)="b"):=by decide+kernel
  have n5:¬ (("y":Str)="x"):=by decide+kernel
  rcases Mf with rfl|rfl
  ·refine⟨xu,xo,?_⟩;show some (cellOf _ _ _ _ _)=_;unfold cellOf;rw[if_neg n1,if_neg n2,if_pos rfl]
  ·refine⟨yu,yo,?_⟩;show some (cellOf _ _ _ _ _)=_;unfold cellOf;rw[if_neg n3,if_neg n4,if_neg n5,if_pos rfl]
noncomputable def Yn(K:Frag):Sp:=λvs H Q _=>∃(a t r:Addr)(ns:List Int)(c:Int),vs=[.ref a,.ref t]/\aW K H a t r ns c/\c<90000/\∀(v:V)(H':Hp)(π:Plan)(rows:List (List Cell))(c':Int),aW K H' a t r ns c'->c'<=c+1000->Apart t r H H'->ag H' v (.tup [ZH π,Zr rows])->ao π->π.keys.length<=10->rows.length<=12->(∀r∈rows,aq π r)->Q v H'
theorem xF:∀cs∈UY,cs.length<=10:=by decide+kernel
theorem xG:∀ks∈xE,ks.length<=10:=by decide+kernel
theorem Wi{L:List (List Str)}{d:Nat}{dv:Dv}(h:(L.map λys=>Dv.tup (cb ys))[d]? =some dv):∃ys∈L,dv=.tup (cb ys):=by
 rw[nE]at h;cases e:L[d]? with
 |none=>rw[e]at h;cases h
 |some ys=>rw[e]at h;exact⟨ys,nF e,(nh h).symm⟩
theorem wS{r:List V->Hp->VK->Prop}{te:TE}{σ:L2.St}{H:Hp}{Q:VK}(h:te σ H λv H1=>r [v] H1 λx H2=>([x]:List V).length<=sizeLine/\∀l,H2 l=none->Q (.ref l) (upd H2 l (.tup [x]))):vT (JG (iT r (JG te YL)) YL) σ H Q:=h
theorem xH{ap:List (Key × V)}{k:Key}{v:V}(h:∀kv∈ap,kv.1≠k):putK ap k v=ap++[(k,v)]:=by
 unfold putK;rw[if_neg];intro z;obtain⟨kv,h1,h2⟩:=List.any_eq_true.mp z;exact h kv h1 (of_decide_eq_true h2)
noncomputable def wT(va vb vx vy:V):List (Key × V):=[(Sum.inr "a",va),(Sum.inr "b",vb),(Sum.inr "x",vx),(Sum.inr "y",vy),(Sum.inr "z",.str "t")]
theorem yv:((Sum.inr ("a":Str):Key)≠Sum.inr ("b":Str))/\((Sum.inr ("a":Str):Key)≠Sum.inr ("x":Str))/\((Sum.inr ("a":Str):Key)≠Sum.inr ("y":Str))/\((Sum.inr ("a":Str):Key)≠Sum.inr ("z":Str))/\((Sum.inr ("b":Str):Key)≠Sum.inr ("x":Str))/\((Sum.inr ("b":Str):Key)≠Sum.inr ("y":Str))/\((Sum.inr ("b":Str):Key)≠Sum.inr ("z":Str))/\((Sum.inr ("x":Str):Key)≠Sum.inr ("y":Str))/\((Sum.inr ("x":Str):Key)≠Sum.inr ("z":Str))/\((Sum.inr ("y":Str):Key)≠Sum.inr ("z":Str)):=by decide+kernel
theorem wU{H:Hp}{va vb vx vy:V}{A B X Y:Cell}{nm:Str}{cs:List Str}(hc:cs∈UY)(hn:nm∈cs)(da:ag H va A.dv)(db:ag H vb B.dv)(dx:ag H vx X.dv)(dy:ag H vy Y.dv):∃v,VS (wT va vb vx vy) (Sum.inr nm:Key)=some v/\ag H v (cellOf A B X Y nm).dv:=by
 have key:=List.all_eq_true.mp (List.all_eq_true.mp (show(UY.all λcs=>cs.all λx=>decide (x=("a":Str))||decide (x=("b":Str))||decide (x=("x":Str))||decide (x=("y":Str))||decide (x=("z":Str)))=true by decide+kernel) cs hc) nm hn;simp only[Bool.or_eq_true,decide_eq_true_eq]at key;obtain⟨e1,e2,e3,e4,e5,e6,e7,e8,e9,Am⟩:=yv;have f:∀{x y:Str},(Sum.inr x:Key)≠Sum.inr y->x≠y:=λh z=>h (by rw[z]);unfold wT cellOf;rcases key with(((rfl|rfl)|rfl)|rfl)|rfl
 ·exact⟨va,Jk rfl,by rw[if_pos rfl];exact da⟩
 ·exact⟨vb,by rw[QX e1];exact Jk rfl,by rw[if_neg (f e1).symm,if_pos rfl];exact db⟩
 ·exact⟨vx,by rw[QX e2,QX e5];exact Jk rfl,by rw[if_neg (f e2).symm,if_neg (f e5).symm,if_pos rfl];exact dx⟩
 ·exact⟨vy,by rw[QX e3,QX e6,QX e8];exact Jk rfl,by rw[if_neg (f e3).symm,if_neg (f e6).symm,if_neg (f e8).symm,if_pos rfl];exact dy⟩
 ·exact⟨.str "t",by rw[QX e4,QX e7,QX e9,QX Am];exact Jk rfl,by rw[if_neg (f e4).symm,if_neg (f e7).symm,if_neg (f e9).symm,if_neg (f Am).symm];exact .str⟩
structure bQ(H:Hp)(t r p:Addr)(ap:List (Key × V)):Prop where
 h:H p=some (.dK ap)
 nt:p≠t
 nr:p≠r
theorem bQ.same{H H':Hp}{t r p:Addr}{ap:List (Key × V)}(D:bQ H t r p ap)(S:Qi H H'):bQ H' t r p ap:=⟨S _ _ D.h,D.nt,D.nr⟩
theorem bQ.apart{H H':Hp}{t r p:Addr}{ap:List (Key × V)}(D:bQ H t r p ap)(A:L2.Apart t r H H'):bQ H' t r p ap:=⟨A _ _ D.h D.nt D.nr,D.nt,D.nr⟩
theorem bQ.put{H:Hp}{t r p:Addr}{ap:List (Key × V)}(D:bQ H t r p ap)(more:List (Key × V)):bQ (upd H p (.dK more)) t r p more:=⟨Qb,D.nt,D.nr⟩
theorem bQ.Jr{H:Hp}{t r p:Addr}{ap:List (Key × V)}{o:HO}(D:bQ H t r p ap):∀b ys,H b=some (.tup ys)->upd H p o b=some (.tup ys):=λb ys e=>by rw[Qh (λz=>by rw[z,D.h]at e;cases e)];exact e
theorem bQ.UQ{H:Hp}{t r p:Addr}{ap:List (Key × V)}(D:bQ H t r p ap)(x:Str)(v:V)(hl:ap.length<100)(h:∀kv∈ap,kv.1≠Sum.inr x):qP H p (.str x) v (upd H p (.dK (ap++[(Sum.inr x,v)]))):=by
 have hz:1000<=sizeLine:=by decide
 have e:=qP.k (k:=(Sum.inr x:Key)) (v:=v) D.h (by lia);rw[xH h]at e;exact e
structure dP(K:Frag)(H0 H:Hp)(a t r:Addr)(ns:List Int)(c:Int)(xk xs xc xr:V)(ks ss cs:List Str)(rows:List (List Cell)):Prop where
 B:aW K H a t r ns c
 A:L2.Apart t r H0 H
 dk:ag H xk (.tup (cb ks))
 ds:ag H xs (.tup (cb ss))
 dc:ag H xc (.tup (cb cs))
 dr:ag H xr (Zr rows)
theorem dP.same{H0 H H':Hp}{a t r:Addr}{ns:List Int}{c:Int}{xk xs xc xr:V}{ks ss cs:List Str}{rows:List (List Cell)}(M:dP K H0 H a t r ns c xk xs xc xr ks ss cs rows)(S:Qi H H'):dP K H0 H' a t r ns c xk xs xc xr ks ss cs rows:=⟨M.B.same S,M.A.trans (Apart.of S),M.dk.same S,M.ds.same S,M.dc.same S,M.dr.same S⟩
theorem dP.drawn{H0 H H':Hp}{a t r:Addr}{ns:List Int}{c c':Int}{xk xs xc xr:V}{ks ss cs:List Str}{rows:List (List Cell)}(M:dP K H0 H a t r ns c xk xs xc xr ks ss cs rows)(A:L2.Apart t r H H')(B':aW K H' a t r ns c'):dP K H0 H' a t r ns c' xk xs xc xr ks ss cs rows:=⟨B',M.A.trans A,M.dk.keep (M.B.Jr A),M.ds.keep (M.B.Jr A),M.dc.keep (M.B.Jr A),M.dr.keep (M.B.Jr A)⟩
theorem dP.put{H0 H:Hp}{a t r p:Addr}{ns:List Int}{c:Int}{xk xs xc xr:V}{ks ss cs:List Str}{rows:List (List Cell)}{ap:List (Key × V)}(M:dP K H0 H a t r ns c xk xs xc xr ks ss cs rows)(D:bQ H t r p ap)(f:H0 p=none)(o:HO):dP K H0 (upd H p o) a t r ns c xk xs xc xr ks ss cs rows:=⟨M.B.Mc D.h D.nt D.nr,λb o' e n1 n2=>by rw[Qh (Qn e f)];exact M.A b o' e n1 n2,M.dk.keep D.Jr,M.ds.keep D.Jr,M.dc.keep D.Jr,M.dr.keep D.Jr⟩
theorem dP.free{H0 H:Hp}{a t r p:Addr}{ns:List Int}{c:Int}{xk xs xc xr:V}{ks ss cs:List Str}{rows:List (List Cell)}(M:dP K H0 H a t r ns c xk xs xc xr ks ss cs rows)(h:H p=none):H0 p=none/\p≠t/\p≠r:=by
 obtain⟨rs,T⟩:=M.B.tw;have n1:p≠t:=λz=>by rw[z,T.tw]at h;cases h
 have n2:p≠r:=λz=>by rw[z,T.rt]at h;cases h
 refine⟨?_,n1,n2⟩;cases e:H0 p with
 |none=>rfl
 |some o=>rw[M.A p o e n1 n2]at h;cases h
theorem Vl{L:List Cell}{d:Nat}{dv:Dv}(h:(L.map Cell.dv)[d]? =some dv):∃c∈L,dv=c.dv:=by
 rw[nE]at h;cases e:L[d]? with
 |none=>rw[e]at h;cases h
 |some c=>rw[e]at h;exact⟨c,nF e,(nh h).symm⟩
theorem Kt(F:aQ K "_law_a_plan" "_law_a_plan" JT f fd)(O:Own mg)(OT:mg "tuple"=none)(hJ:Def P w K mg base 1 "_law_draw" ["_law_script","_law_town","_law_many"] (Xk K)):aw P w K mg base (aE P w) 2 f fd ["_law_script","_law_town"] (Yn K):=by
 refine Fx F QC (λvs H Q E h=>?_) (λbv A outer s H vs Q E hr h=>?_)
 ·obtain⟨a,t,r,ns,c,rfl,_⟩:=h;rfl
 ·obtain⟨a,t,r,ns,c,rfl,B,hc,k⟩:=h;have hu:=v8 hr;have hz:100000<=sizeLine:=by rw[sizeLine_eq];decide
  refine⟨_,(Jz (Z7 (i:=2) QC.nd ae (Or.inl ae) (ZR (Jc QS (Jc (QJ QS) (Jc (QJ (QJ QS)) (Jc (QJ (QJ QS)) QS)))) (aZ.mk (hJ.pe hr (by decide) ae Qm (Qa (pv 0) (Qa (pv 1) (Qa Qf Qc))))) (λ_ _=>rfl)) ae ae)
   (Jz (Z7 (i:=3) QC.nd ae (Or.inl ae) (ZR (Jc QS (Jc (QJ QS) (Jc (QJ (QJ QS)) (Jc (QJ QS) QS)))) (aZ.mk (hJ.pe hr (by decide) ae Qm (Qa (pv 0) (Qa (pv 1) (Qa Qf Qc))))) (λ_ _=>rfl)) ae ae)
   (Jz (Z7 (i:=4) QC.nd ae (Or.inl ae) (ZR (Jc (QJ (QJ (QJ (QJ (QJ QS))))) (Jc (QJ (QJ (QJ (QJ (QJ QS))))) QS)) (aZ.mk (hJ.pe hr (by decide) ae Qm (Qa (pv 0) (Qa (pv 1) (Qa Qf Qc))))) (λ_ _=>rfl)) ae ae)
   (Jz (Z7 (i:=5) QC.nd ae (Or.inl ae) (aZ.mk (QV Qc)) ae ae)
   (Jz (wN PassesOwn.never ae (WI ae O.range (Qa (hJ.pe hr (by decide) ae Qm (Qa (pv 0) (Qa (pv 1) (Qa Qf Qc)))) Qc)) (Qg (i:=6) QC.nd ae (Or.inl ae)) (Jz (Z7 (i:=7) QC.nd ae (Or.inr ae) (jG (aZ.mk QO) (ZR (QJ (QJ (Jc (Zg (Zg QS)) QS))) (aZ.mk (hJ.pe hr (by decide) ae Qm (Qa (pv 0) (Qa (pv 1) (Qa Qf Qc))))) (λ_ _=>rfl))) ae ae)
   (Jz (Y8 hu (aZ.mk (pv 7)) (aZ.mk QO) (ZR (Jc (Zg (Zg QS)) (Jc (Zg (Zg QS)) (QJ (Jc (Zg (Zg QS)) QS)))) (aZ.mk (hJ.pe hr (by decide) ae Qm (Qa (pv 0) (Qa (pv 1) (Qa Qf Qc))))) (λ_ _=>rfl)) ae)
   (Jz (Y8 hu (aZ.mk (pv 7)) (aZ.mk QO) (aZ.mk (QV (Qa (QF ZL (hJ.pe hr (by decide) ae Qm (Qa (pv 0) (Qa (pv 1) (Qa Qf Qc)))) Qf) (Qa (hJ.pe hr (by decide) ae Qm (Qa (pv 0) (Qa (pv 1) (Qa Qf Qc)))) Qc)))) ae)
   (Jz (l8.mk (Kw (QV (Qa (QV (Qa (hJ.pe hr (by decide) ae Qm (Qa (pv 0) (Qa (pv 1) (Qa Qf Qc)))) (Qa (hJ.pe hr (by decide) ae Qm (Qa (pv 0) (Qa (pv 1) (Qa Qf Qc)))) Qc))) (Qa QO Qc))) (JX ae (Ql (kh (pv 7) QO (set_dict hu)) (Ql (kh (pv 7) QO (set_dict hu)) Q8)))))
   (q4 (Z7 (i:=5) QC.nd ae (Or.inl ae) (aZ.mk (QF wB (pv 5) (QV (Qa (Qu Qo ae OT boot_tuple (Qa (JM (NB:=[".0","_law_name"]) (FR:=["_law_row"]) (fi:=[7]) ae ⟨ae,by decide+kernel,by decide+kernel,by decide+kernel,by decide+kernel,by decide+kernel⟩ ae ae (ZJ (pv 4)) (λ_ _ _=>(Qg (i:=1) (show([".0","_law_name","_law_row"]:List Str).Nodup by decide+kernel) ae (Or.inl ae))) (λ_ _ _=>QU) (λ_ _ _=>(Z0 hu (pv 2) (pv 1) (λ_ _=>rfl)))) Qc)) Qc)))) ae ae)))))) (λ_=>rfl))
   (q4 (wO (aZ.mk (QV (Qa (QV (Qa (pv 4) (Qa (pv 2) (Qa (pv 3) (Qa (QF Xi Qf (hJ.pe hr (by decide) ae Qm (Qa (pv 0) (Qa (pv 1) (Qa Qf Qc))))) Qc))))) (Qa (pv 5) Qc))))))))))),?_⟩
  refine B.jH (ds:=xE.map λys=>.tup (cb ys)) rfl rfl (Jd QT (by decide) (Jd (QK QT) (by decide) (Jd (QK (QK QT)) (by decide) (Jd (QK (QK QT)) (by decide) QT)))) rfl (by decide) (by decide) (by lia) λd1 xk dk H1 i8 Dk B1 A1=>?_;obtain⟨ks,Cz,rfl⟩:=Wi i8
  try dsimp only[QD,JF,JK,Q6]
  refine B1.jH (ds:=UX.map λys=>.tup (cb ys)) rfl rfl (Jd QT (by decide) (Jd (QK QT) (by decide) (Jd (QK (QK QT)) (by decide) (Jd (QK QT) (by decide) QT)))) rfl (by decide) (by decide) (by lia) λd2 xs ds H2 hd2 Ds B2 A2=>?_;obtain⟨ss,Al,rfl⟩:=Wi hd2
  try dsimp only[QD,JF,JK,Q6]
  refine B2.jH (ds:=UY.map λys=>.tup (cb ys)) rfl rfl (Jd (QK (QK (QK (QK (QK QT))))) (by decide) (Jd (QK (QK (QK (QK (QK QT))))) (by decide) QT)) rfl (by decide) (by decide) (by lia) λd3 xc dc H3 iC Dc B3 A3=>?_;obtain⟨cs,fG,rfl⟩:=Wi iC
  try dsimp only[QD,JF,JK,Q6]
  have FO:=B1.Jr A2;have CA:=B2.Jr A3;have FP:=(Dk.keep FO).keep CA;have FQ:=Ds.keep CA;have FT:=(A1.trans A2).trans A3;clear FO CA A1 A2 A3 B1 B2 B Dk Ds i8 hd2 iC;refine⟨pQ,λR0 Mg=>?_⟩;have S4:=Qi.new (o:=.tup []) Mg;have B4:=B3.same S4;have D4:ag (upd H3 R0 (.tup [])) (.ref R0) (Zr []):=.tup Qb .nil;have CB:=FP.same S4;have CC:=FQ.same S4;have CD:=Dc.same S4;have CF:=FT.trans (Apart.of S4);generalize upd H3 R0 (.tup [])=H4 at S4 B4 D4 CB CC CD CF;clear S4 B3 FP FQ Dc FT;have M4:dP K H H4 a t r ns (c+1+1+1) xk xs xc (.ref R0) ks ss cs []:=⟨B4,CF,CB,CC,CD,D4⟩;clear B4 D4 CB CC CD CF;refine M4.B.draw rfl rfl (λR h=>h) (by decide) (by decide) (by lia) λn H5 hn B5 A5=>?_;have M5:=M4.drawn A5 B5;clear M4 A5 B5;refine⟨_,ae,by lia,by lia,?_⟩;rw[nV];refine ZB (Lx (lo:=0) (n:=n)) (λi σ H6=>∃R y6 y7 rows c6,σ=[some (.ref a),some (.ref t),some xk,some xs,some xc,some (.ref R),y6,y7]/\dP K H H6 a t r ns c6 xk xs xc (.ref R) ks ss cs rows/\c6<=c+4+6*i/\rows.length=i/\∀π:Plan,π.cols=cs->π.sums=ss->∀r∈rows,aq π r) ⟨R0,none,none,[],_,ae,M5,by lia,ae,λ_ _ _ r hr=>nomatch hr⟩ ?_ ?_ ?_
  ·intro i σ H6 _ _;trivial
  ·rintro i v σ H6 FU hi ⟨R,y6,y7,rows,c6,rfl,M6,Mh,Mi,aj⟩ ⟨rfl,rfl⟩;dsimp only[QD,JF,JK,Q6];intro p hp;obtain⟨fp,Mj,Mk⟩:=M6.free hp;have M7:=M6.same (Qi.new (o:=.dK []) hp);have D7:bQ (upd FU p (.dK [])) t r p []:=⟨Qb,Mj,Mk⟩;generalize upd FU p (.dK [])=H7 at M7 D7;refine M7.B.jH (ds:=Cw.map Cell.dv) rfl rfl (QK (QK (Jd (Zh (Zh QT)) (by decide) QT))) rfl (by decide) (by decide) (by lia) λd1 va da H8 i8 Da B8 A8=>?_;have M8:=M7.drawn A8 B8;have D8:=D7.apart A8;obtain⟨cA,Ml,rfl⟩:=Vl i8;refine⟨D8.h,[(Sum.inr "a",va)],ae,by show 1<=15;decide,?_⟩;have e8:Xj [] [((Sum.inr "a":Key),va)]=[((Sum.inr "a":Key),va)]:=rfl;rw[e8];have CG:=Da.keep (D8.Jr (o:=.dK [((Sum.inr "a":Key),va)]));have M9:=M8.put D8 fp (.dK [((Sum.inr "a":Key),va)]);have D9:=D8.put [((Sum.inr "a":Key),va)];generalize upd H8 p (.dK [((Sum.inr "a":Key),va)])=H9 at M9 D9 CG;clear M6 M7 M8 D7 D8 A8 B8 Da e8 i8 hp;dsimp only[QD,JF,JK,Q6];refine M9.B.jH (ds:=Cy.map Cell.dv) rfl rfl (Jd (Zh (Zh QT)) (by decide) (Jd (Zh (Zh QT)) (by decide) (QK (Jd (Zh (Zh QT)) (by decide) QT)))) rfl (by decide) (by decide) (by lia) λd2 vb db pi hd2 Db pR An=>?_;have FV:=M9.drawn An pR;have sP:=D9.apart An;have sQ:=CG.keep (M9.B.Jr An);obtain⟨cB,Do,rfl⟩:=Vl hd2;obtain⟨e1,e2,e3,e4,e5,e6,e7,e8,e9,Am⟩:=yv;refine⟨_,ae,p,_,ae,sP.UQ "b" vb (by show 1<100;decide) (List.forall_mem_cons.mpr ⟨e1,λ_ h=>nomatch h⟩),?_⟩;have kp:=sP.Jr (o:=.dK ([((Sum.inr "a":Key),va)]++[((Sum.inr "b":Key),vb)]));have ox:=sQ.keep kp;have oy:=Db.keep kp;have pX:=FV.put sP fp (.dK ([((Sum.inr "a":Key),va)]++[((Sum.inr "b":Key),vb)]));have oi:=sP.put ([((Sum.inr "a":Key),va)]++[((Sum.inr "b":Key),vb)]);generalize upd pi p (.dK ([((Sum.inr "a":Key),va)]++[((Sum.inr "b":Key),vb)]))=dA at pX oi ox oy
   replace oi:bQ dA t r p [((Sum.inr "a":Key),va),((Sum.inr "b":Key),vb)]:=oi
   clear M9 FV D9 sP An pR CG sQ Db kp hd2;refine pX.B.draw rfl rfl (λR h=>h) (by decide) (by decide) (by lia) λx1 Cr Lh pT sR=>?_;have sS:=pX.drawn sR pT;have pV:=oi.apart sR;have sT:=ox.keep (pX.B.Jr sR);have sU:=oy.keep (pX.B.Jr sR);clear pX oi ox oy sR pT;refine⟨_,_,ae,ae,?_⟩;refine sS.B.draw rfl rfl (λR h=>h) (by decide) (by decide) (by lia) λx2 pU fI Os sV=>?_;have FW:=sS.drawn sV Os;have sL:=pV.apart sV;have sW:=sT.keep (sS.B.Jr sV);have sX:=sU.keep (sS.B.Jr sV);clear sS pV sT sU sV Os;refine⟨fe,λpx FX=>?_⟩;have Sx:=Qi.new (o:=.tup [.int ((x1:Nat)-100),.int (x2:Nat)]) FX;have oz:ag (upd pU px (.tup [.int ((x1:Nat)-100),.int (x2:Nat)])) (.ref px) (Cell.au ((x1:Nat)-100) (x2:Nat)).dv:=.tup Qb (.cons .int (.cons .int .nil));have CH:=FW.same Sx;have pY:=sL.same Sx;have oA:=sW.same Sx;have oB:=sX.same Sx;generalize upd pU px (.tup [.int ((x1:Nat)-100),.int (x2:Nat)])=CI at CH pY oA oB oz;clear FW sL sW sX Sx FX;refine⟨_,ae,p,_,ae,pY.UQ "x" (.ref px) (by show 2<100;decide) (List.forall_mem_cons.mpr ⟨e2,List.forall_mem_cons.mpr ⟨e5,λ_ h=>nomatch h⟩⟩),?_⟩;have kp:=pY.Jr (o:=.dK ([((Sum.inr "a":Key),va),((Sum.inr "b":Key),vb)]++[((Sum.inr "x":Key),.ref px)]));have oC:=oA.keep kp;have oD:=oB.keep kp;have oE:=oz.keep kp;have sY:=CH.put pY fp (.dK ([((Sum.inr "a":Key),va),((Sum.inr "b":Key),vb)]++[((Sum.inr "x":Key),.ref px)]));have sZ:=pY.put ([((Sum.inr "a":Key),va),((Sum.inr "b":Key),vb)]++[((Sum.inr "x":Key),.ref px)]);generalize upd CI p (.dK ([((Sum.inr "a":Key),va),((Sum.inr "b":Key),vb)]++[((Sum.inr "x":Key),.ref px)]))=tj at sY sZ oC oD oE
   replace sZ:bQ tj t r p [((Sum.inr "a":Key),va),((Sum.inr "b":Key),vb),((Sum.inr "x":Key),V.ref px)]:=sZ
   clear CH pY oA oB oz kp
   try dsimp only[QD,JF,JK,Q6]
   refine sY.B.draw rfl rfl (λR h=>h) (by decide) (by decide) (by lia) λy1 CJ hy1 FY Ao=>?_;have Ap:=sY.drawn Ao FY;have FZ:=sZ.apart Ao;have kp:=sY.B.Jr Ao;have tu:=oC.keep kp;have tD:=oD.keep kp;have tE:=oE.keep kp;clear sY sZ oC oD oE Ao FY kp;refine Ap.B.draw rfl rfl (λR h=>h) (by decide) (by decide) (by lia) λy2 F0 x' F1 Aq=>?_;have F2:=Ap.drawn Aq F1;have F3:=FZ.apart Aq;have kp:=Ap.B.Jr Aq;have tF:=tu.keep kp;have tG:=tD.keep kp;have tH:=tE.keep kp;clear Ap FZ tu tD tE Aq F1 kp;refine⟨fe,λpy F4=>?_⟩;have Sy:=Qi.new (o:=.tup [.int (y1:Nat),.int (y2:Nat)]) F4;have oF:ag (upd F0 py (.tup [.int (y1:Nat),.int (y2:Nat)])) (.ref py) (Cell.au (y1:Nat) (y2:Nat)).dv:=.tup Qb (.cons .int (.cons .int .nil));have CK:=F2.same Sy;have CL:=F3.same Sy;have oG:=tF.same Sy;have oH:=tG.same Sy;have oJ:=tH.same Sy;generalize upd F0 py (.tup [.int (y1:Nat),.int (y2:Nat)])=F5 at CK CL oG oH oJ oF;clear F2 F3 tF tG tH Sy F4;refine⟨fe,λpt F6=>?_⟩;have St:=Qi.new (o:=.tup [.ref py,.str "t"]) F6;have oK:upd F5 pt (.tup [.ref py,.str "t"]) pt=some (.tup [.ref py,.str "t"]):=Qb;have CM:=CK.same St;have pZ:=CL.same St;have oM:=oG.same St;have oN:=oH.same St;have oO:=oJ.same St;have oP:=oF.same St;generalize upd F5 pt (.tup [.ref py,.str "t"])=Mm at CM pZ oM oN oO oP oK;clear CK CL oG oH oJ oF St F6;refine⟨pt,_,ae,.inl (.inl oK),ae,_,_,ae,_,ae,p,_,ae,pZ.UQ "y" (.ref py) (by show 3<100;decide) (List.forall_mem_cons.mpr ⟨e3,List.forall_mem_cons.mpr ⟨e6,List.forall_mem_cons.mpr ⟨e8,λ_ h=>nomatch h⟩⟩⟩),?_⟩;have kp:=pZ.Jr (o:=.dK ([((Sum.inr "a":Key),va),((Sum.inr "b":Key),vb),((Sum.inr "x":Key),.ref px)]++[((Sum.inr "y":Key),.ref py)]));have oQ:=oM.keep kp;have oR:=oN.keep kp;have oU:=oO.keep kp;have oV:=oP.keep kp;have CN:=CM.put pZ fp (.dK ([((Sum.inr "a":Key),va),((Sum.inr "b":Key),vb),((Sum.inr "x":Key),.ref px)]++[((Sum.inr "y":Key),.ref py)]));have i9:=pZ.put ([((Sum.inr "a":Key),va),((Sum.inr "b":Key),vb),((Sum.inr "x":Key),.ref px)]++[((Sum.inr "y":Key),.ref py)]);generalize upd Mm p (.dK ([((Sum.inr "a":Key),va),((Sum.inr "b":Key),vb),((Sum.inr "x":Key),.ref px)]++[((Sum.inr "y":Key),.ref py)]))=F7 at CN i9 oQ oR oU oV
   replace i9:bQ F7 t r p [((Sum.inr "a":Key),va),((Sum.inr "b":Key),vb),((Sum.inr "x":Key),V.ref px),((Sum.inr "y":Key),V.ref py)]:=i9
   clear CM pZ oM oN oO oP kp oK;refine⟨_,_,ae,_,ae,p,_,ae,i9.UQ "z" (.str "t") (by show 4<100;decide) (List.forall_mem_cons.mpr ⟨e4,List.forall_mem_cons.mpr ⟨e7,List.forall_mem_cons.mpr ⟨e9,List.forall_mem_cons.mpr ⟨Am,λ_ h=>nomatch h⟩⟩⟩⟩),ae,?_⟩;have kp:=i9.Jr (o:=.dK (wT va vb (.ref px) (.ref py)));have tI:=oQ.keep kp;have tJ:=oR.keep kp;have tK:=oU.keep kp;have tL:=oV.keep kp;have CO:=CN.put i9 fp (.dK (wT va vb (.ref px) (.ref py)));have F8:=i9.put (wT va vb (.ref px) (.ref py));have F9:[((Sum.inr "a":Key),va),((Sum.inr "b":Key),vb),((Sum.inr "x":Key),V.ref px),((Sum.inr "y":Key),V.ref py)]++[((Sum.inr "z":Key),V.str "t")]=wT va vb (.ref px) (.ref py):=rfl;rw[F9];generalize upd F7 p (.dK (wT va vb (.ref px) (.ref py)))=Mn at CO F8 tI tJ tK tL;clear CN i9 oQ oR oU oV kp F9;obtain⟨ac,rfl,gc⟩:=jx CO.dc;refine⟨_,ae,?_⟩;refine wS (JE ?_);refine⟨_,ae,ac,ae,⟨_,.inl (.inl gc)⟩,?_⟩;have Mo:(cs.map V.str).length=cs.length:=m7 ..;have lcs:cs.length<=10:=xF cs fG;refine QQ (fv:=[.ref p]) (zJ (K:=K) (a:=ac) (xs:=cs.map V.str)) ((cs.map (cellOf cA cB (.au ((x1:Nat)-100) (x2:Nat)) (.au (y1:Nat) (y2:Nat)))).map Cell.dv) (by rw[m7,m7,Mo]) (λR h=>h Mn (Qi.refl _)) rfl (λH1 S=>.inl (.inl (S _ _ gc))) ?_ ?_ (by lia)
   ·rintro i v F' CP d R2 hd Ar ⟨rfl,hv⟩ kk;obtain⟨nm,ff,rfl⟩:=Y0 hv;obtain⟨vv,Mp,Mq⟩:=wU fG (nF ff) tI tJ tK tL;have iD:=YQ.k (k:=(Sum.inr nm:Key)) (Ar _ _ F8.h);rw[Mp]at iD;refine⟨ae,_,ae,_,ae,p,vv,ae,iD,kk _ _ (Qi.refl _) ?_⟩;rw[nE,nE,ff]at hd;obtain rfl:=nh hd;exact Mq.same Ar
   ·rintro ys F' q Ar tq hq;have Sq:=Qi.new (o:=.lst ys) hq;refine⟨q,ys,ae,.inl ⟨.inl (.inl Qb),λl hl=>?_⟩⟩;have Gd:=JA (tq.same Sq) hl;have Ge:=(Ar.trans Sq).trans (Qi.new (o:=.tup ys) hl);generalize upd (upd F' q (.lst ys)) l (.tup ys)=CP at Gd Ge;refine⟨Ce,λl2 AC=>?_⟩;have Gf:=Qi.new (o:=.tup [.ref l]) AC;have Gg:ag (upd CP l2 (.tup [.ref l])) (.ref l2) (.tup [Kl (cs.map (cellOf cA cB (.au ((x1:Nat)-100) (x2:Nat)) (.au (y1:Nat) (y2:Nat))))]):=.tup Qb (.cons (Gd.same Gf) .nil);have CQ:=CO.same (Ge.trans Gf);generalize upd CP l2 (.tup [.ref l])=H24 at CQ Gg;refine xq.deep (ds:=rows.map Kl) CQ.dr Gg (by rw[m7];show rows.length+1<=sizeLine;lia) λv H25 Mr Gh=>?_;have tM:=CQ.same Mr;obtain⟨R3,xr3,rfl,_,_⟩:=ag.Za Gh;refine⟨R3,_,_,rows++[cs.map (cellOf cA cB (.au ((x1:Nat)-100) (x2:Nat)) (.au (y1:Nat) (y2:Nat)))],_,ae,⟨tM.B,tM.A,tM.dk,tM.ds,tM.dc,?_⟩,by lia,by rw[m5];show rows.length+1=i+1;lia,λπ hc hs r hr=>?_⟩
    ·unfold Zr;rw[List.map_append];exact Gh
    ·rcases List.mem_append.mp hr with hr|hr
     ·exact aj π hc hs r hr
     ·obtain rfl:=List.mem_singleton.mp hr;obtain⟨pc,pk,ps,pz⟩:=π;obtain rfl:pc=cs:=hc;obtain rfl:ps=ss:=hs;exact yt Al (wQ _ Ml) (wR _ Do) (kH (by lia) (by lia) (by lia)) (kH (by lia) (by lia) (by lia))
  ·rintro σ H6 ⟨R,y6,y7,rows,c6,rfl,M6,Mh,Mi,aj⟩;refine⟨_,ae,_,ae,_,ae,?_⟩;refine M6.B.draw rfl rfl (λR h=>h) (by decide) (by decide) (by lia) λz H7 hz7 B7 A7=>?_;have M7:=M6.drawn A7 B7;refine⟨_,_,ae,ae,FF,λl hl=>?_⟩;have S8:=Qi.new (o:=.tup [xc,xk,xs,.int (6+(z:Nat))]) hl;have M8:=M7.same S8;have D8:ag (upd H7 l (.tup [xc,xk,xs,.int (6+(z:Nat))])) (.ref l) (ZH ⟨cs,ks,ss,6+(z:Nat)⟩):=.tup Qb (.cons M8.dc (.cons M8.dk (.cons M8.ds (.cons .int .nil))));generalize upd H7 l (.tup [xc,xk,xs,.int (6+(z:Nat))])=H8 at M8 D8;refine⟨_,ae,fe,λl2 AC=>?_⟩;have S9:=Qi.new (o:=.tup [.ref l,.ref R]) AC;have M9:=M8.same S9;exact k _ _ ⟨cs,ks,ss,6+(z:Nat)⟩ rows _ M9.B (by lia) M9.A (.tup Qb (.cons (D8.same S9) (.cons M9.dr .nil))) (wP Cz Al fG (by lia)) (xG ks Cz) (by lia) (aj _ ae ae)
end
end Lw
namespace aI
structure LO{β:Type}(lt:β->β->Prop):Prop where
 bR:∀a,¬ lt a a
 tr:∀a b c,lt a b->lt b c->lt a c
 aT:∀a b,¬ lt a b->¬ lt b a->a=b
section
variable {α β:Type}[DecidableEq β](pr:α->β)(v:α->Int)
noncomputable def gr:List α->Option β->Int->List (β × Int)
 |[],none,_=>[]
 |[],some b,s=>[(b,s)]
 |r::rs,none,s=>gr rs (some (pr r)) (s+v r)
 |r::rs,some b,s=>if pr r=b then gr rs (some b) (s+v r)else(b,s)::gr rs (some (pr r)) (0+v r)
noncomputable def aT(x:β):List α->Int
 |[]=>0
 |r::rs=>(if pr r=x then v r else 0)+aT x rs
noncomputable def all:List α->Int
 |[]=>0
 |r::rs=>v r+all rs
noncomputable def sum2:List (β × Int)->Int
 |[]=>0
 |e::es=>e.2+sum2 es
theorem Yo:∀(rs:List α)(b:β)(s:Int),sum2 (gr pr v rs (some b) s)=s+all v rs
 |[],b,s=>rfl
 |r::rs,b,s=>by
  rw[gr,all]
  split
  ·rw[Yo rs];lia
  ·rw[sum2,Yo rs];show s+_=_;lia
theorem jI:∀(rs:List α),sum2 (gr pr v rs none 0)=all v rs
 |[]=>rfl
 |r::rs=>by rw[gr,Yo,all];lia
theorem xI(x:β){a b:List α}(h:a.Perm b):aT pr v x a=aT pr v x b:=by
 induction h with
 |nil=>rfl
 |cons _ _ ih=>rw[aT,aT,ih]
 |swap=>rw[aT,aT,aT,aT];lia
 |trans _ _ i1 i2=>exact i1.trans i2
theorem xJ{a b:List α}(h:a.Perm b):all v a=all v b:=by
 induction h with
 |nil=>rfl
 |cons _ _ ih=>rw[all,all,ih]
 |swap=>rw[all,all,all,all];lia
 |trans _ _ i1 i2=>exact i1.trans i2
theorem Y9{x:β}:∀{rs:List α},(∀r∈rs,pr r≠x)->aT pr v x rs=0
 |[],_=>rfl
 |r::rs,h=>by
  rw[aT,if_neg (h r nA),Y9 λr' hr=>h r' (nz _ hr)];rfl
variable {lt:β->β->Prop}
theorem Yp(o:LO lt):∀(rs:List α)(b:β)(s:Int),(∀r∈rs,¬ lt (pr r) b)->rs.Pairwise (λr r'=>¬ lt (pr r') (pr r))->
  ∃tl,gr pr v rs (some b) s=(b,s+aT pr v b rs)::tl/\(∀e∈tl,lt b e.1)/\tl.Pairwise (λe e'=>lt e.1 e'.1)/\(∀x,(∃e∈tl,e.1=x)↔((∃r∈rs,pr r=x)/\x≠b))/\∀e∈tl,e.2=aT pr v e.1 rs
 |[],b,s,_,_=>⟨[],by rw[gr,aT,Int.add_zero],λ_ h=>(nomatch h),.nil,λx=>⟨λ⟨_,h,_⟩=>(nomatch h),λ⟨⟨_,h,_⟩,_⟩=>(nomatch h)⟩,λ_ h=>(nomatch h)⟩
 |r::rs,b,s,h1,h2=>by
  obtain⟨h3,h4⟩:=List.pairwise_cons.mp h2
  by_cases hb:pr r=b
  ·obtain⟨tl,e,t1,t2,t3,t4⟩:=Yp o rs b (s+v r) (λr' hr=>h1 r' (nz _ hr)) h4;refine⟨tl,?_,t1,t2,λx=>?_,λe he=>?_⟩
   ·rw[gr,if_pos hb,e,aT,if_pos hb,Int.add_assoc]
   ·rw[t3];refine⟨λ⟨⟨r',bf,e'⟩,hx⟩=>⟨⟨r',nz _ bf,e'⟩,hx⟩,λ⟨⟨r',bf,e'⟩,hx⟩=>⟨?_,hx⟩⟩;rcases List.mem_cons.mp bf with rfl|bf
    ·exact absurd (e'.symm.trans hb) hx
    ·exact⟨r',bf,e'⟩
   ·have ne:¬ pr r=e.1:=λz=>by
     have:=t1 e he;rw[←z,hb]at this;exact o.bR _ this
    rw[aT,if_neg ne,t4 e he,Int.zero_add]
  ·have bi:lt b (pr r):=by
    refine Classical.byContradiction λz=>hb (o.aT _ _ (h1 r nA) z)
   obtain⟨tl,e,t1,t2,t3,t4⟩:=Yp o rs (pr r) (0+v r) h3 h4;have eC:∀r'∈rs,pr r'≠b:=λr' hr z=>h3 r' hr (z▸bi);refine⟨(pr r,0+v r+aT pr v (pr r) rs)::tl,?_,?_,?_,λx=>?_,?_⟩
   ·rw[gr,if_neg hb,e,aT,if_neg hb,Y9 pr v eC];simp
   ·intro e he;rcases List.mem_cons.mp he with rfl|he
    ·exact bi
    ·exact o.tr _ _ _ bi (t1 e he)
   ·exact List.pairwise_cons.mpr ⟨t1,t2⟩
   ·constructor
    ·rintro⟨e,he,rfl⟩;rcases List.mem_cons.mp he with rfl|he
     ·exact⟨⟨r,nA,ae⟩,hb⟩
     ·obtain⟨⟨r',bf,e'⟩,_⟩:=(t3 e.1).mp ⟨e,he,ae⟩;exact⟨⟨r',nz _ bf,e'⟩,λz=>eC r' bf (e'.trans z)⟩
    ·rintro⟨⟨r',bf,e'⟩,hx⟩
     by_cases hz:x=pr r
     ·exact⟨_,nA,hz.symm⟩
     ·rcases List.mem_cons.mp bf with rfl|bf
      ·exact absurd e'.symm hz
      ·obtain⟨e2,i0,e3⟩:=(t3 x).mpr ⟨⟨r',bf,e'⟩,hz⟩;exact⟨e2,nz _ i0,e3⟩
   ·intro e he;rcases List.mem_cons.mp he with rfl|he
    ·show 0+v r+aT pr v (pr r) rs=aT pr v (pr r) (r::rs);rw[aT,if_pos rfl];lia
    ·have ne:¬ pr r=e.1:=λz=>by
      have:=t1 e he;rw[←z]at this;exact o.bR _ this
     rw[aT,if_neg ne,t4 e he,Int.zero_add]
theorem wV(o:LO lt)(rs:List α)(h:rs.Pairwise (λr r'=>¬ lt (pr r') (pr r))):
  (gr pr v rs none 0).Pairwise (λe e'=>lt e.1 e'.1)/\(∀x,(∃e∈gr pr v rs none 0,e.1=x)↔∃r∈rs,pr r=x)/\∀e∈gr pr v rs none 0,e.2=aT pr v e.1 rs:=by
 cases rs with
 |nil=>exact⟨.nil,λx=>⟨λ⟨_,h,_⟩=>(nomatch h),λ⟨_,h,_⟩=>(nomatch h)⟩,λ_ h=>(nomatch h)⟩
 |cons r rs=>
  obtain⟨h3,h4⟩:=List.pairwise_cons.mp h;obtain⟨tl,e,t1,t2,t3,t4⟩:=Yp pr v o rs (pr r) (0+v r) h3 h4;rw[gr,e];refine⟨List.pairwise_cons.mpr ⟨t1,t2⟩,λx=>?_,?_⟩
  ·constructor
   ·rintro⟨e,he,rfl⟩;rcases List.mem_cons.mp he with rfl|he
    ·exact⟨r,nA,ae⟩
    ·obtain⟨⟨r',bf,e'⟩,_⟩:=(t3 e.1).mp ⟨e,he,ae⟩;exact⟨r',nz _ bf,e'⟩
   ·rintro⟨r',bf,e'⟩
    by_cases hz:x=pr r
    ·exact⟨_,nA,hz.symm⟩
    ·rcases List.mem_cons.mp bf with rfl|bf
     ·exact absurd e'.symm hz
     ·obtain⟨e2,i0,e3⟩:=(t3 x).mpr ⟨⟨r',bf,e'⟩,hz⟩;exact⟨e2,nz _ i0,e3⟩
  ·intro e he;rcases List.mem_cons.mp he with rfl|he
   ·show 0+v r+aT pr v (pr r) rs=aT pr v (pr r) (r::rs);rw[aT,if_pos rfl];lia
   ·have ne:¬ pr r=e.1:=λz=>by
     have:=t1 e he;rw[←z]at this;exact o.bR _ this
    rw[aT,if_neg ne,t4 e he,Int.zero_add]
theorem uniq(o:LO lt):∀{a b:List β},a.Pairwise lt->b.Pairwise lt->(∀x,x∈a↔x∈b)->a=b
 |[],[],_,_,_=>rfl
 |[],y::b,_,_,h=>nomatch (h y).mpr nA
 |x::a,[],_,_,h=>nomatch (h x).mp nA
 |x::a,y::b,p,q,h=>by
  obtain⟨p1,p2⟩:=List.pairwise_cons.mp p;obtain⟨q1,q2⟩:=List.pairwise_cons.mp q;have e:x=y:=by
   refine o.aT _ _ (λz=>?_) (λz=>?_)
   ·rcases List.mem_cons.mp ((h x).mp nA)with rfl|m
    ·exact o.bR _ z
    ·exact o.bR _ (o.tr _ _ _ z (q1 _ m))
   ·rcases List.mem_cons.mp ((h y).mpr nA)with rfl|m
    ·exact o.bR _ z
    ·exact o.bR _ (o.tr _ _ _ z (p1 _ m))
  subst e;refine congrArg (x:: ·) (uniq o p2 q2 λz=>⟨λm=>?_,λm=>?_⟩)
  ·rcases List.mem_cons.mp ((h z).mp (nz _ m))with rfl|m'
   ·exact absurd (p1 _ m) (o.bR _)
   ·exact m'
  ·rcases List.mem_cons.mp ((h z).mpr (nz _ m))with rfl|m'
   ·exact absurd (q1 _ m) (o.bR _)
   ·exact m'
theorem jJ(o:LO lt){a b:List α}(hp:a.Perm b)(ha:a.Pairwise (λr r'=>¬ lt (pr r') (pr r))) (hb:b.Pairwise (λr r'=>¬ lt (pr r') (pr r))):gr pr v a none 0=gr pr v b none 0:=by
 obtain⟨a1,a2,a3⟩:=wV pr v o a ha;obtain⟨b1,b2,b3⟩:=wV pr v o b hb;have e1:(gr pr v a none 0).map (·.1)=(gr pr v b none 0).map (·.1):=by
  refine uniq o (List.pairwise_map.mpr a1) (List.pairwise_map.mpr b1) λx=>?_;rw[List.mem_map,List.mem_map];refine(a2 x).trans (Iff.trans ?_ (b2 x).symm);exact⟨λ⟨r,hr,e⟩=>⟨r,hp.mem_iff.mp hr,e⟩,λ⟨r,hr,e⟩=>⟨r,hp.mem_iff.mpr hr,e⟩⟩
 have e2:∀(c:List α)(l:List (β × Int)),(∀e∈l,e.2=aT pr v e.1 c)->l=(l.map (·.1)).map λx=>(x,aT pr v x c):=λc l h=>by
  rw[nK]
  conv=>lhs;rw[←List.map_id l]
  exact List.map_congr_left λe he=>by rw[id,Function.comp, ←h e he]
 rw[e2 a _ a3,e2 b _ b3,e1];exact List.map_congr_left λx _=>by rw[xI pr v x hp]
end
end aI
namespace L2
open PySem PySem.SeqAt
open AutoSeq1 (wpAny_loadPart')
open MeetsSeq MeetsSeq2 MeetsSeq3 SeqRoads2
noncomputable def X7(A:Around)(s:Shared)(y x:Value)(b:Bool):Prop:=
 ∀(prog:Program)(w:World)(E:Value->Shared->Prop)(Q:Value->Shared->Prop),Q (.bool b) s->wpAny (model prog w) A (richCompare .Lt y x) Q E s
noncomputable def KJ(e f:Nat->Bool)(fin:Bool):List Nat->Bool
 |[]=>fin
 |j::r=>if e j=true then KJ e f fin r else f j
theorem UZ(l b:Addr)(items al:Array Value)(n n2:Nat)(dd bU:Option Addr)(sl bV:Array (Option Value))(e f:Nat->Bool):
  Meets (Builtin.«tuple.__lt__» ⟨[.ref l,.ref b],[]⟩)
   (λA R s=>s.heap.get? l=some {cls:=.type "tuple",dict:=dd,data:=.seq items n,slots:=sl}/\s.heap.get? b=some {cls:=.type "tuple",dict:=bU,data:=.seq al n2,slots:=bV}/\
    (∀j(h1:j<items.size)(h2:j<al.size),EqAt A.in1 s items[j] al[j] (e j))/\(∀j(h1:j<items.size)(h2:j<al.size),e j=false->X7 A.in1 s items[j] al[j] (f j))/\
    R (.ok (.ret (.bool (KJ e f (decide (items.size<al.size)) (List.range (min items.size al.size)))))) s):=
 .of_wp λprog w A R s h=>by
  obtain⟨hp,g,d,tk,os⟩:=s;obtain⟨hl,hb,he,hf,h⟩:=h;have f2:=AutoSeq1.sub_tuple_tuple;have hZ:(items.toList.zip al.toList).length=min items.size al.size:=by simp
  wp_walk using wpAny_loadPart' hl,wpAny_loadPart' hb,wpAny_forIn_list _ (λrest b s'=>b.1=none/\s'=⟨hp,g,d,tk,os⟩/\∃i,rest=(items.toList.zip al.toList).drop i/\
   R (.ok (.ret (.bool (KJ e f (decide (items.size<al.size)) ((List.range (min items.size al.size)).drop i))))) ⟨hp,g,d,tk,os⟩) _
  case turn=>
   rintro⟨y,x⟩ rest b s' ⟨cS,rfl,i,hz,hR⟩;have bi:i<(items.toList.zip al.toList).length:=by
    rcases Nat.lt_or_ge i (items.toList.zip al.toList).length with h'|h'
    ·exact h'
    ·rw[List.drop_of_length_le h']at hz;cases hz
   have hm:i<min items.size al.size:=hZ▸bi;have h1:i<items.size:=Nat.lt_of_lt_of_le hm (Nat.min_le_left _ _);have h2:i<al.size:=Nat.lt_of_lt_of_le hm (Nat.min_le_right _ _);rw[List.drop_eq_getElem_cons bi]at hz;injection hz with Gi SB;have hy:y=items[i]:=by have:=congrArg Prod.fst Gi;simpa using this
   have hx:x=al[i]:=by have:=congrArg Prod.snd Gi;simpa using this
   subst hy hx;have hd:(List.range (min items.size al.size)).drop i=i::(List.range (min items.size al.size)).drop (i+1):=by simp[List.drop_eq_getElem_cons,hm]
   rw[hd,KJ]at hR;refine wpAny_bind (he i h1 h2 prog w _ _ ?_);cases hy:e i with
   |true=>
    rw[hy,if_pos rfl]at hR
    wp_walk
    exact⟨ae,ae,i+1,SB,hR⟩
   |false=>
    rw[hy,if_neg (by decide)]at hR;have AC:=hf i h1 h2 hy;simp only[Bool.not_false,if_true];refine wpAny_bind (wpAny_rule ?_);refine wpAny_bind (AC prog w _ _ ?_)
    wp_walk
    exact⟨_,ae,hR⟩
  case fin=>
   rintro⟨b1,b2⟩ s' ⟨cS,rfl,i,hz,hR⟩;simp only at cS;subst cS;have fH:min items.size al.size<=i:=by
    rcases Nat.lt_or_ge i (items.toList.zip al.toList).length with h'|h'
    ·rw[List.drop_eq_getElem_cons h']at hz;cases hz
    ·exact hZ▸h'
   rw[List.drop_of_length_le (by simpa using fH)]at hR
   wp_walk
   exact⟨_,ae,by simpa[Builtin.Tuple.tupleCompareSizes,KJ]using hR⟩
  case h=>
   exact⟨ae,ae,0,ae,by simpa using h⟩
theorem X7.tuples{A:Around}{s:Shared}{l b:Addr}{items al:Array Value}{e f:Nat->Bool}(hl:s.heap.IsTuple l items)(hb:s.heap.IsTuple b al)(hu:A.units<cLine)
  (he:∀j(h1:j<items.size)(h2:j<al.size),EqAt A.in1 s items[j] al[j] (e j)) (hf:∀j(h1:j<items.size)(h2:j<al.size),e j=false->X7 A.in1 s items[j] al[j] (f j)):X7 A s (.ref l) (.ref b) (KJ e f (decide (items.size<al.size)) (List.range (min items.size al.size))):=λprog w E Q h=>by
 obtain⟨⟨cls,dd,data,sl⟩,ho,hc,n,hd⟩:=id hl;obtain⟨⟨lT,bU,data2,bV⟩,IO,Fa,n2,hd2⟩:=id hb;simp only at hc hd Fa hd2;subst hc hd Fa hd2;exact richCompare_meets_room (op:=.Lt) ⟨_,ho,ae⟩ ⟨_,IO,ae⟩ F.slot_tuple_lt F.entry_tuple_lt (F.args_tuple_lt_2 _ _) (UZ l b items al n n2 dd bU sl bV e f)
  ⟨ho,IO,he,hf,show Value.bool (KJ e f (decide (items.size<al.size)) (List.range (min items.size al.size)))≠Value.notImplemented/\Q (.bool (KJ e f (decide (items.size<al.size)) (List.range (min items.size al.size)))) s from⟨(λx=>nomatch x),h⟩⟩ hu
theorem jK(l b:Addr)(items al:Array Value)(n n2:Nat)(dd bU:Option Addr)(sl bV:Array (Option Value))(hsz:items.size=al.size)(e f:Nat->Bool)(k:Nat):
  ∀i:Nat,items.size-i=k->Meets (Builtin.«list.__eq__.loop» ⟨[.ref l,.ref b,rawInt i,rawInt 0],[]⟩)
   (λA R s=>s.heap.get? l=some {cls:=.type "list",dict:=dd,data:=.seq items n,slots:=sl}/\s.heap.get? b=some {cls:=.type "list",dict:=bU,data:=.seq al n2,slots:=bV}/\
    (∀j(h1:j<items.size)(h2:j<al.size),EqAt A.in1 s items[j] al[j] (e j))/\(∀j(h1:j<items.size)(h2:j<al.size),e j=false->X7 A.in1 s items[j] al[j] (f j))/\
    R (.ok (.ret (.bool (KJ e f false ((List.range items.size).drop i))))) s):=by
 induction k with
 |zero=>
  intro i hk prog w A R s h;obtain⟨hp,g,d,tk,os⟩:=s;obtain⟨hl,hb,he,hf,h⟩:=h
  wp_walk using wpAny_loadPart' hl,wpAny_loadPart' hb
  have As:items[((i:Nat):Int).toNat]? =none:=by simp;lia
  have bP:al[((i:Nat):Int).toNat]? =none:=by simp;lia
  have hd:(List.range items.size).drop i=[]:=by simp;lia
  rw[hd]at h;rw[As,bP]
  wp_walk using wpAny_loadPart' hl,wpAny_loadPart' hb
  show R (.ok (.ret (.bool (items.size<al.size)))) _;rw[hsz,m8 (nU _)];exact h
 |succ k ih=>
  intro i hk prog w A R s h;obtain⟨hp,g,d,tk,os⟩:=s;obtain⟨hl,hb,he,hf,h⟩:=h
  wp_walk using wpAny_loadPart' hl,wpAny_loadPart' hb
  have bi:i<items.size:=by lia
  have oW:i<al.size:=by lia
  have As:items[((i:Nat):Int).toNat]? =some items[i]:=by simp[bi]
  have bP:al[((i:Nat):Int).toNat]? =some al[i]:=by simp[oW]
  have hd:(List.range items.size).drop i=i::(List.range items.size).drop (i+1):=by simp[List.drop_eq_getElem_cons,bi]
  have hc:((i:Int)+1)=((i+1:Nat):Int):=by push_cast;rfl
  rw[hd,KJ]at h;rw[As,bP];refine wpAny_bind (he i bi oW prog w _ _ ?_);cases cS:e i with
  |true=>
   rw[cS,if_pos rfl]at h
   wp_walk
   rw[hc];exact⟨plainId_quiet plain_eq_loop _,codeAny_builtin entry_eq_loop (by
    rw[Around.under_plainId plain_eq_loop _];exact ih (i+1) (by lia) prog w A R _ ⟨hl,hb,he,hf,h⟩)⟩
  |false=>
   rw[cS,if_neg (by decide)]at h;have AC:=hf i bi oW cS
   wp_walk using wpAny_loadPart' hl,wpAny_loadPart' hb
   rw[As,bP];refine wpAny_bind (AC prog w _ _ ?_)
   wp_walk
   exact h
open PySem PySem.Spec PyProof.Rows PySem.SeqAt
mutual
noncomputable def Dv.aO:Dv->Dv->Bool
 | .int a,.int b=>decide (a<b)
 | .str a,.str b=>decide (a.cps.toList<b.cps.toList)
 | .tup xs,.tup ys=>Dv.Wj xs ys
 |_,_=>false
noncomputable def Dv.Wj:List Dv->List Dv->Bool
 |[],[]=>false
 |[],_::_=>true
 |_::_,[]=>false
 |x::xs,y::ys=>if Dv.aC x y=true then Dv.Wj xs ys else Dv.aO x y
end
theorem Dv.Vm:∀(ds es:List Dv)(e f:Nat->Bool)(k:Nat),(∀j,e (k+j)=((ds[j]?).getD .ah).aC ((es[j]?).getD .ah))->(∀j,f (k+j)=((ds[j]?).getD .ah).aO ((es[j]?).getD .ah))->
  KJ e f (decide (ds.length<es.length)) (List.range' k (min ds.length es.length))=Dv.Wj ds es
 |[],[],e,f,k,_,_=>by simp[KJ,Dv.Wj]
 |[],y::ys,e,f,k,_,_=>by simp[KJ,Dv.Wj]
 |x::xs,[],e,f,k,_,_=>by simp[KJ,Dv.Wj]
 |x::xs,y::ys,e,f,k,he,hf=>by
  have h0:=he 0;have f0:=hf 0;rw[Nat.add_zero]at h0 f0;have em:min (x::xs).length (y::ys).length=min xs.length ys.length+1:=by simp only[nj];lia
  rw[em,List.range'_succ,KJ,Dv.Wj,h0,f0];show(if x.aC y=true then _ else x.aO y)=_
  by_cases h:x.aC y=true
  ·rw[if_pos h,if_pos h];have ed:decide ((x::xs).length<(y::ys).length)=decide (xs.length<ys.length):=by simp only[nj];exact decide_eq_decide.mpr ⟨λz=>by lia,λz=>by lia⟩
   rw[ed];exact Dv.Vm xs ys e f (k+1) (λj=>by have:=he (j+1);rw[show k+(j+1)=k+1+j by lia]at this;simpa using this) (λj=>by have:=hf (j+1);rw[show k+(j+1)=k+1+j by lia]at this;simpa using this)
  ·rw[if_neg h,if_neg h]
theorem Dv.Z8(ds es:List Dv):KJ (λj=>((ds[j]?).getD .ah).aC ((es[j]?).getD .ah)) (λj=>((ds[j]?).getD .ah).aO ((es[j]?).getD .ah)) (decide (ds.length<es.length)) (List.range (min ds.length es.length))=Dv.Wj ds es:=by
 rw[List.range_eq_range'];exact Dv.Vm ds es _ _ 0 (λj=>by rw[Nat.zero_add]) (λj=>by rw[Nat.zero_add])
section
variable {X:Cx}{pins:List (Addr × Obj)}{σ:St}{H:Hp}{s:Shared}
theorem X7.int{A:Around}(a b:Int)(t u:Tok):X7 A s (.int a t) (.int b u) (decide (a<b)):=λprog w E Q h=>lt_int h
theorem X7.str{A:Around}(a b:Str)(t u:Tok):X7 A s (.str a t) (.str b u) (decide (a.cps.toList<b.cps.toList)):=λprog w E Q h=>PySem.P.lt_str h
mutual
noncomputable def Dv.cE:Dv->Dv->Prop
 | .int _,.int _=>True
 | .str _,.str _=>True
 | .tup xs,.tup ys=>Dv.Vn xs ys
 |_,_=>False
noncomputable def Dv.Vn:List Dv->List Dv->Prop
 |x::xs,y::ys=>(Dv.aC x y=false->Dv.cE x y)/\Dv.Vn xs ys
 |_,_=>True
end
theorem Dv.Wl:∀{ds es:List Dv},Dv.Vn ds es->∀{j:Nat}{d e:Dv},ds[j]? =some d->es[j]? =some e->d.aC e=false->d.cE e
 |[],_,_,j,d,e,h1,_,_=>by cases h1
 |_::_,[],_,j,d,e,_,h2,_=>by cases h2
 |x::xs,y::ys,h,j,d,e,h1,h2,h3=>by
  unfold Dv.Vn at h;cases j with
  |zero=>cases h1;cases h2;exact h.1 h3
  |succ j=>exact Dv.Wl h.2 (by simpa using h1) (by simpa using h2) h3
theorem Ua{A:Around}{xs ys:List V}{ad bn:List Value}{e f:Nat->Bool}(r1:Vals xs ad)(r2:Vals ys bn)
  (he:∀j x y u v,xs[j]? =some x->ys[j]? =some y->RelV x u->RelV y v->e j=false->X7 A s u v (f j)):∀j(h1:j<ad.toArray.size)(h2:j<bn.toArray.size),e j=false->X7 A s ad.toArray[j] bn.toArray[j] (f j):=by
 intro j h1 h2;have l1:=r1.length;have l2:=r2.length;rw[nQ]at h1 h2;have k1:xs[j]? =some xs[j]:=List.getElem?_eq_getElem (by lia);have k2:ys[j]? =some ys[j]:=List.getElem?_eq_getElem (by lia);obtain⟨u,e1,q1⟩:=r1.get k1;obtain⟨v,e2,q2⟩:=r2.get k2;have f1:ad.toArray[j]=u:=by simpa[List.getElem?_eq_getElem h1]using e1
 have f2:bn.toArray[j]=v:=by simpa[List.getElem?_eq_getElem h2]using e2
 rw[f1,f2];exact he j _ _ u v k1 k2 q1 q2
theorem ag.lt(I:Inv X pins σ H s):∀(n:Nat)(d e:Dv)(x y:V),d.depth<=n->ag H x d->ag H y e->d.cE e->∀{A:Around}{u v:Value},A.units+n<cLine->RelV x u->RelV y v->X7 A s u v (d.aO e):=by
 intro n
 induction n with
 |zero=>
  intro d e x y hd hx hy hc A u v hu rx ry;cases hx with
  |int=>cases hy with
   |int=>obtain⟨t,rfl⟩:=rx;obtain⟨t',rfl⟩:=ry;unfold Dv.aO;exact X7.int _ _ _ _
   |_=>unfold Dv.cE at hc;exact hc.elim
  |str=>cases hy with
   |str=>obtain⟨t,rfl⟩:=rx;obtain⟨t',rfl⟩:=ry;unfold Dv.aO;exact X7.str _ _ _ _
   |_=>unfold Dv.cE at hc;exact hc.elim
  |tup h t=>unfold Dv.depth at hd;lia
  |ah=>cases hy<;>(unfold Dv.cE at hc;exact hc.elim)
  |bl=>cases hy<;>(unfold Dv.cE at hc;exact hc.elim)
 |succ n ih=>
  intro d e x y hd hx hy hc A u v hu rx ry;cases hx with
  |int=>cases hy with
   |int=>obtain⟨t,rfl⟩:=rx;obtain⟨t',rfl⟩:=ry;unfold Dv.aO;exact X7.int _ _ _ _
   |_=>unfold Dv.cE at hc;exact hc.elim
  |str=>cases hy with
   |str=>obtain⟨t,rfl⟩:=rx;obtain⟨t',rfl⟩:=ry;unfold Dv.aO;exact X7.str _ _ _ _
   |_=>unfold Dv.cE at hc;exact hc.elim
  |@tup a xs ds h t=>cases hy with
   |@tup a2 ys es h2 t2=>
    obtain rfl:u=Value.ref a:=rx;obtain rfl:v=Value.ref a2:=ry;obtain⟨im,r1,p1,_⟩:=I.tuple (.inl (.inl h));obtain⟨bn,r2,p2,_⟩:=I.tuple (.inl (.inl h2));have bO:=t.length;have AC:=t2.length;have q1:=r1.length;have q2:=r2.length;have fN:Dv.Qs ds<=n:=by have:=hd;unfold Dv.depth at this;lia
    have fV:Dv.Vn ds es:=by unfold Dv.cE at hc;exact hc
    have z:=X7.tuples (A:=A) (s:=s) (e:=λj=>((ds[j]?).getD .ah).aC ((es[j]?).getD .ah)) (f:=λj=>((ds[j]?).getD .ah).aO ((es[j]?).getD .ah)) p1 p2 (by lia) (Jn (pins:=pins) (σ:=σ) (H:=H) (n:=n) r1 r2 λj x y u v g1 g2 w1 w2=>?_) (Ua r1 r2 λj x y u v g1 g2 w1 w2 hq=>?_)
    ·rw[nQ,nQ, ←q1, ←q2,bO,AC,Dv.Z8]at z;unfold Dv.aO;exact z
    ·obtain⟨d1,k1,k2⟩:=t.J7 g1;obtain⟨e1,m1,m2⟩:=t2.J7 g2;show SeqAt.EqAt A.in1 s u v (((ds[j]?).getD .ah).aC ((es[j]?).getD .ah));rw[k1,m1];exact ag.at I n d1 e1 x y (Nat.le_trans (Dv.Q3 k1) fN) k2 m2 (by show A.units+1+n<cLine;lia) w1 w2
    ·obtain⟨d1,k1,k2⟩:=t.J7 g1;obtain⟨e1,m1,m2⟩:=t2.J7 g2;show X7 A.in1 s u v (((ds[j]?).getD .ah).aO ((es[j]?).getD .ah));have hq:((ds[j]?).getD .ah).aC ((es[j]?).getD .ah)=false:=hq;rw[k1,m1]at hq ⊢;exact ih d1 e1 x y (Nat.le_trans (Dv.Q3 k1) fN) k2 m2 (Dv.Wl fV k1 m1 hq) (by show A.units+1+n<cLine;lia) w1 w2
   |_=>unfold Dv.cE at hc;exact hc.elim
  |ah=>cases hy<;>(unfold Dv.cE at hc;exact hc.elim)
  |bl=>cases hy<;>(unfold Dv.cE at hc;exact hc.elim)
end
open PySem PySem.Spec PyProof.Rows PySem.SeqAt PySem.W
theorem jL(l b:Addr)(items al:Array Value)(n n2:Nat)(dd bU:Option Addr)(sl bV:Array (Option Value))(hsz:items.size=al.size)(e f:Nat->Bool):
  Meets (Builtin.«list.__lt__» ⟨[.ref l,.ref b],[]⟩)
   (λA R s=>s.heap.get? l=some {cls:=.type "list",dict:=dd,data:=.seq items n,slots:=sl}/\s.heap.get? b=some {cls:=.type "list",dict:=bU,data:=.seq al n2,slots:=bV}/\
    (∀j(h1:j<items.size)(h2:j<al.size),EqAt A.in1 s items[j] al[j] (e j))/\(∀j(h1:j<items.size)(h2:j<al.size),e j=false->X7 A.in1 s items[j] al[j] (f j))/\
    R (.ok (.ret (.bool (KJ e f false (List.range items.size))))) s):=by
 intro prog w A R s h;obtain⟨hp,g,d,tk,os⟩:=s;obtain⟨hl,hb,he,hf,h⟩:=h;have f3:=AutoSeq1.sub_list_list
 wp_walk using wpAny_loadPart' hl,wpAny_loadPart' hb
 exact⟨plainId_quiet plain_eq_loop _,codeAny_builtin entry_eq_loop (by
  rw[Around.under_plainId plain_eq_loop _];exact jK l b items al n n2 dd bU sl bV hsz e f _ 0 ae prog w A R _ ⟨hl,hb,he,hf,by simpa using h⟩)⟩
theorem Yq{prog:Program}{w:World}{A:Around}{E:Value->Shared->Prop}{s:Shared}{l b:Addr}{items al:Array Value}{e f:Nat->Bool}{Q:Bool->Shared->Prop}(hl:s.heap.IsList l items)(hb:s.heap.IsList b al)(hsz:items.size=al.size)(hu:A.units<cLine)
  (he:∀(B:Around),B.units=A.units+1->∀j(h1:j<items.size)(h2:j<al.size),EqAt B s items[j] al[j] (e j)) (hf:∀(B:Around),B.units=A.units+1->∀j(h1:j<items.size)(h2:j<al.size),e j=false->X7 B s items[j] al[j] (f j))
  (h:Q (KJ e f false (List.range items.size)) s):wpAny (model prog w) A (oneLt' true (.ref l) (.ref b)) Q E s:=by
 obtain⟨⟨cls,dd,data,sl⟩,ho,hc,n,hd⟩:=id hl;obtain⟨⟨lT,bU,data2,bV⟩,IO,Fa,n2,hd2⟩:=id hb;simp only at hc hd Fa hd2;subst hc hd Fa hd2;rw[oneLt'_eq];simp only[if_true];refine wpAny_bind (wpAny_cRoomFor hu ?_);refine wpAny_bind (wpAny_callSpecialIfBound?_slot (T:="list") ⟨_,ho,ae⟩ F.slot_list_lt (call_meets F.slot_list_lt ⟨_,ho,ae⟩ F.entry_list_lt (F.args_list_lt_2 _ _) (jL l b items al n n2 dd bU sl bV hsz e f) ⟨ho,IO,he _ rfl,hf _ rfl,?_⟩));exact wpAny_truthy_bool h
theorem Q7{xs:List V}{us:List Value}(r:Vals xs us){i:Nat}{u:Value}(h:us[i]? =some u):∃x,xs[i]? =some x/\RelV x u:=by
 have hl:=r.length;have hi:=(List.getElem?_eq_some_iff.mp h).1;have k:xs[i]? =some xs[i]:=List.getElem?_eq_getElem (by lia);obtain⟨u',e,q⟩:=r.get k;rw[h]at e;cases e;exact⟨_,k,q⟩
section
variable {X:Cx}{pins:List (Addr × Obj)}{σ:St}{H:Hp}{s:Shared}
theorem kJ{prog:Program}{w:World}{A:Around}{fin:Bool}{Q:Bool->Shared->Prop}{e f:Nat->Bool}:∀(l:List (Value × Value))(k i:Nat),(∀j p q,l[j]? =some (p,q)->EqAt A s p q (e (k+j)))->(∀j p q,l[j]? =some (p,q)->e (k+j)=false->X7 A s p q (f (k+j)))->Q (KJ e f fin (List.range' k l.length)) s->
  KatLex prog w A false fin Q l i s
 |[],k,i,_,_,h=>kat_nil h
 |(p,q)::r,k,i,he,hf,h=>by
  rw[nj,List.range'_succ,KJ]at h;refine kat_cons (he 0 p q ae prog w _ _ ?_);rw[Nat.add_zero];refine kat_go (λz=>?_) (λz=>?_)
  ·rw[z,if_pos rfl]at h;exact kat_yes (kJ r (k+1) (i+1) (λj p q g=>by have:=he (j+1) p q (by simpa using g);rw[show k+(j+1)=k+1+j by lia]at this;exact this) (λj p q g=>by have:=hf (j+1) p q (by simpa using g);rw[show k+(j+1)=k+1+j by lia]at this;exact this) h)
  ·rw[z,if_neg (by decide)]at h;refine kat_no ?_;rw[Bool.false_and];have hl:=hf 0 p q rfl (by rw[Nat.add_zero];exact z);rw[Nat.add_zero]at hl;exact kat_one p q (hl prog w _ _ h)
theorem jM(I:Inv X pins σ H s){A:Around}{E:Value->Shared->Prop}{l b:Addr}{xs ys:List V}{ds es:List Dv}{n:Nat}{Q:Bool->Shared->Prop}(h1:H l=some (.lst xs))(t1:af H xs ds)(h2:H b=some (.lst ys))(t2:af H ys es)(hn:Dv.Qs ds<=n)(hl:ds.length=es.length)(hc:Dv.Vn ds es)(hu:A.units+1+n<cLine)
  (h:Q (Dv.Wj ds es) s):wpAny (model X.prog X.w) A (keyLt' oneType' (.ref l) (.ref b)) Q E s:=by
 obtain⟨im,r1,p1,_⟩:=I.list (.inl (.inl h1));obtain⟨bn,r2,p2,_⟩:=I.list (.inl (.inl h2));have q1:=r1.length;have q2:=r2.length;have l1:=t1.length;have l2:=t2.length;rw[keyLt'_oneType];refine Yq (e:=λj=>((ds[j]?).getD .ah).aC ((es[j]?).getD .ah)) (f:=λj=>((ds[j]?).getD .ah).aO ((es[j]?).getD .ah)) p1.isList p2.isList (by rw[nQ,nQ];lia) (by lia) (λB hB=>Jn (pins:=pins) (σ:=σ) (H:=H) (n:=n) r1 r2 λj x y u v g1 g2 w1 w2=>?_) (λB hB=>Ua r1 r2 λj x y u v g1 g2 w1 w2 hq=>?_) ?_
 ·obtain⟨d1,k1,k2⟩:=t1.J7 g1;obtain⟨e1,m1,m2⟩:=t2.J7 g2;show EqAt B s u v (((ds[j]?).getD .ah).aC ((es[j]?).getD .ah));rw[k1,m1];exact ag.at I n d1 e1 x y (Nat.le_trans (Dv.Q3 k1) hn) k2 m2 (by lia) w1 w2
 ·obtain⟨d1,k1,k2⟩:=t1.J7 g1;obtain⟨e1,m1,m2⟩:=t2.J7 g2;have hq:((ds[j]?).getD .ah).aC ((es[j]?).getD .ah)=false:=hq;show X7 B s u v (((ds[j]?).getD .ah).aO ((es[j]?).getD .ah));rw[k1,m1]at hq ⊢;exact ag.lt I n d1 e1 x y (Nat.le_trans (Dv.Q3 k1) hn) k2 m2 (Dv.Wl hc k1 m1 hq) (by lia) w1 w2
 ·have e:=Dv.Z8 ds es;rw[show min ds.length es.length=im.toArray.size by rw[nQ];lia,m8 (show ¬ ds.length<es.length by lia)]at e;rw[e];exact h
theorem U0(I:Inv X pins σ H s){A:Around}{E:Value->Shared->Prop}{l b:Addr}{xs ys:List V}{ds es:List Dv}{n:Nat}{Q:Bool->Shared->Prop}(h1:H l=some (.tup xs))(t1:af H xs ds)(h2:H b=some (.tup ys))(t2:af H ys es)(hn:Dv.Qs ds<=n)(hc:Dv.Vn ds es)(hu:A.units+n<cLine)
  (h:Q (Dv.Wj ds es) s):wpAny (model X.prog X.w) A (keyLt' (tuples' false) (.ref l) (.ref b)) Q E s:=by
 obtain⟨im,r1,⟨o1,g1,c1,n1,d1⟩,_⟩:=I.tuple (.inl (.inl h1));obtain⟨bn,r2,⟨o2,g2,c2,n2,d2⟩,_⟩:=I.tuple (.inl (.inl h2));have q1:=r1.length;have q2:=r2.length;have l1:=t1.length;have l2:=t2.length;refine kat_lt g1 d1 g2 d2 (kJ (e:=λj=>((ds[j]?).getD .ah).aC ((es[j]?).getD .ah)) (f:=λj=>((ds[j]?).getD .ah).aO ((es[j]?).getD .ah)) _ 0 0 (λj p q tN=>?_) (λj p q tN hq=>?_) ?_)
 ·rw[Nat.zero_add];rw[List.getElem?_zip_eq_some]at tN;obtain⟨a1,a2⟩:=tN;have a1:im[j]? =some p:=by simpa using a1
  have a2:bn[j]? =some q:=by simpa using a2
  obtain⟨x,gx,wx⟩:=Q7 r1 a1;obtain⟨y,gy,wy⟩:=Q7 r2 a2;obtain⟨d1,k1,k2⟩:=t1.J7 gx;obtain⟨e1,m1,m2⟩:=t2.J7 gy;show EqAt A s p q (((ds[j]?).getD .ah).aC ((es[j]?).getD .ah));rw[k1,m1];exact ag.at I n d1 e1 x y (Nat.le_trans (Dv.Q3 k1) hn) k2 m2 (by lia) wx wy
 ·rw[Nat.zero_add]at hq ⊢;rw[List.getElem?_zip_eq_some]at tN;obtain⟨a1,a2⟩:=tN;have a1:im[j]? =some p:=by simpa using a1
  have a2:bn[j]? =some q:=by simpa using a2
  obtain⟨x,gx,wx⟩:=Q7 r1 a1;obtain⟨y,gy,wy⟩:=Q7 r2 a2;obtain⟨d1,k1,k2⟩:=t1.J7 gx;obtain⟨e1,m1,m2⟩:=t2.J7 gy;have hq:((ds[j]?).getD .ah).aC ((es[j]?).getD .ah)=false:=hq;show X7 A s p q (((ds[j]?).getD .ah).aO ((es[j]?).getD .ah));rw[k1,m1]at hq ⊢;exact ag.lt I n d1 e1 x y (Nat.le_trans (Dv.Q3 k1) hn) k2 m2 (Dv.Wl hc k1 m1 hq) (by lia) wx wy
 ·have e:=Dv.Z8 ds es;rw[List.length_zip,List.range_eq_range']at*;have z1:im.toArray.toList.length=ds.length:=by simp;lia
  have z2:bn.toArray.toList.length=es.length:=by simp;lia
  rw[z1,z2,nQ,nQ,show im.length=ds.length by lia,show bn.length=es.length by lia,e];exact h
end
end L2
namespace Lw
open PySem PySem.Spec PyProof.Rows L2 dZ
open Builtin Builtin.Str StrLaws
inductive Rk where
 |au (u:Int)|txt (x:Str)
noncomputable def Rk.aO:Rk->Rk->Bool
 | .au u,.au v=>decide (u<v)
 | .au _,.txt _=>true
 | .txt _,.au _=>false
 | .txt x,.txt y=>decide (x.cps.toList<y.cps.toList)
noncomputable instance:DecidableEq Rk
 | .au u,.au v=>if h:u=v then isTrue (by rw[h])else isFalse λe=>h (Rk.au.inj e)
 | .txt x,.txt y=>if h:x=y then isTrue (by rw[h])else isFalse λe=>h (Rk.txt.inj e)
 | .au _,.txt _=>isFalse λe=>nomatch e
 | .txt _,.au _=>isFalse λe=>nomatch e
noncomputable def Rk.dv:Rk->Dv
 | .au u=>.tup [.int 0,.int u,.str ""]
 | .txt x=>.tup [.int 1,.int 0,.str x]
theorem Rk.bR(a:Rk):a.aO a=false:=by
 cases a with
 |au u=>simp[Rk.aO]
 |txt x=>simp[Rk.aO,List.lt_irrefl]
theorem Rk.tr{a b c:Rk}(h:a.aO b=true)(g:b.aO c=true):a.aO c=true:=by
 cases a<;>cases b<;>cases c<;>simp[Rk.aO]at h g ⊢
 ·lia
 ·exact List.lt_trans h g
theorem wW{x y:Str}(h:x.cps.toList=y.cps.toList):x=y:=by
 cases x;cases y
 congr 1
 exact Array.toList_inj.mp h
theorem Rk.aT{a b:Rk}(h:a.aO b=false)(g:b.aO a=false):a=b:=by
 cases a with
 |au u=>
  cases b with
  |au v=>simp[Rk.aO]at h g;rw[show u=v by lia]
  |txt y=>cases h
 |txt x=>
  cases b with
  |au v=>cases g
  |txt y=>
   have h:=of_decide_eq_false h;have g:=of_decide_eq_false g;rw[wW (List.le_antisymm (Std.not_lt.mp g) (Std.not_lt.mp h))]
noncomputable def aV:List Rk->List Rk->Bool
 |[],[]=>false
 |[],_::_=>true
 |_::_,[]=>false
 |x::xs,y::ys=>if x=y then aV xs ys else x.aO y
theorem Wm:∀a,aV a a=false
 |[]=>rfl
 |x::xs=>by rw[aV,if_pos rfl,Wm xs]
theorem Ub:∀{a b c:List Rk},aV a b=true->aV b c=true->aV a c=true
 |[],[],_,h,_=>nomatch h
 |[],_::_,[],_,g=>nomatch g
 |[],_::_,_::_,_,_=>rfl
 |_::_,[],_,h,_=>nomatch h
 |_::_,_::_,[],_,g=>nomatch g
 |x::xs,y::ys,z::zs,h,g=>by
  rw[aV]at h g ⊢
  by_cases e:x=y
  ·subst e;rw[if_pos rfl]at h
   by_cases e2:x=z
   ·rw[if_pos e2]at g ⊢;exact Ub h g
   ·rw[if_neg e2]at g ⊢;exact g
  ·rw[if_neg e]at h
   by_cases e2:y=z
   ·subst e2;rw[if_neg e];exact h
   ·rw[if_neg e2]at g;have t:=Rk.tr h g;have ne:x≠z:=λz'=>by rw[z',Rk.bR]at t;cases t
    rw[if_neg ne];exact t
theorem Z9:∀{a b:List Rk},aV a b=false->aV b a=false->a=b
 |[],[],_,_=>rfl
 |[],_::_,h,_=>nomatch h
 |_::_,[],_,g=>nomatch g
 |x::xs,y::ys,h,g=>by
  rw[aV]at h g
  by_cases e:x=y
  ·subst e;rw[if_pos rfl]at h g;rw[Z9 h g]
  ·rw[if_neg e]at h;rw[if_neg (Ne.symm e)]at g;exact absurd (Rk.aT h g) e
noncomputable def cF(a b:List Rk):Prop:=aV a b=true
theorem xK:aI.LO cF:=⟨λa h=>(by unfold cF at h;rw[Wm]at h;cases h),λ_ _ _=>Ub,λa b h g=>Z9 (by simpa[cF]using h) (by simpa[cF]using g)⟩
theorem Uc:∀(n:Nat){a b:List Rk},aV a b=false->a.length=b.length->aV (a.take n) (b.take n)=false
 |0,a,b,_,_=>by rw[List.take_zero,List.take_zero];rfl
 |n+1,[],[],_,_=>rfl
 |n+1,[],_::_,_,e=>nomatch e
 |n+1,_::_,[],_,e=>nomatch e
 |n+1,x::xs,y::ys,h,e=>by
  rw[List.take_succ_cons,List.take_succ_cons,aV];rw[aV]at h
  by_cases z:x=y
  ·rw[if_pos z]at h ⊢;exact Uc n h (by simpa using e)
  ·rw[if_neg z]at h ⊢;exact h
noncomputable def rk(pl:Int):Cell->Rk
 | .txt x=>.txt x
 | .au u o=>.au (u*ay.az (pl-o))
noncomputable def VL(pl:Int)(row:List Cell)(i:Nat):Rk:=rk pl (row.getD i (.txt ""))
noncomputable def aK(pl:Int)(π:Plan)(row:List Cell):List Rk:=(aA π).map (VL pl row)
theorem Ms{a b:Int}{t:Int}(ht:0<t):decide (a*t<b*t)=decide (a<b):=by
 refine decide_eq_decide.mpr ⟨λh=>Int.lt_of_mul_lt_mul_right h (Int.le_of_lt ht),λh=>Int.mul_lt_mul_of_pos_right h ht⟩
theorem yw{pl pm:Int}{c d:Cell}(hm:pl<=pm)(hc:∀u o,c=.au u o->o<=pl) (hd:∀u o,d=.au u o->o<=pl):(rk pm c).aO (rk pm d)=(rk pl c).aO (rk pl d)/\(rk pm c=rk pm d↔rk pl c=rk pl d):=by
 have e:∀{u o:Int},o<=pl->u*ay.az (pm-o)=u*ay.az (pl-o)*ay.az (pm-pl):=λ{u o} h=>by
  rw[Int.mul_assoc,ZI (by lia) (by lia),show pl-o+(pm-pl)=pm-o by lia]
 cases c with
 |txt x=>
  cases d with
  |txt y=>exact⟨ae,Iff.rfl⟩
  |au v p=>exact⟨ae,⟨λh=>(nomatch h),λh=>(nomatch h)⟩⟩
 |au u o=>
  cases d with
  |txt y=>exact⟨ae,⟨λh=>(nomatch h),λh=>(nomatch h)⟩⟩
  |au v p=>
   have e1:=e (u:=u) (hc u o ae);have e2:=e (u:=v) (hd v p ae);have tp:=ay.JR (pm-pl);refine⟨?_,?_⟩
   ·show decide (u*ay.az (pm-o)<v*ay.az (pm-p))=decide (u*ay.az (pl-o)<v*ay.az (pl-p));rw[e1,e2];exact Ms tp
   ·show Rk.au (u*ay.az (pm-o))=Rk.au (v*ay.az (pm-p))↔Rk.au (u*ay.az (pl-o))=Rk.au (v*ay.az (pl-p));rw[e1,e2,Rk.au.injEq,Rk.au.injEq];exact ay.YZ tp
noncomputable def wX(π:Plan)(row:List Cell)(k:Nat)(s:List (Int × Int)):Dv:=.tup [.str "foot",.str (π.keys.getD k ""),.tup ((Vi π row).take (k+1)),JU s]
noncomputable def Zi(w:Str):Dv->Bool
 | .tup (.str a:: .str b::_)=>a=="foot"&&b==w
 |_=>false
noncomputable def aM(π:Plan)(k:Nat):List (List Cell)->Option (List Cell)->List (Int × Int)->List (List Cell × List (Int × Int))
 |[],none,_=>[]
 |[],some p,s=>[(p,s)]
 |r::rs,none,s=>aM π k rs (some r) (JZ (bh π) r s)
 |r::rs,some p,s=>if unlike (aA π) p r<=k then(p,s)::aM π k rs (some r) (JZ (bh π) r (zeros π))else aM π k rs (some r) (JZ (bh π) r s)
theorem range_one(n k:Nat)(hk:k<n):∀m,m<=n->(List.range m).filter (λi=>decide (n-1-i=k))=if n-1-k<m then[n-1-k]else[]
 |0,_=>by simp
 |m+1,h=>by
  rw[List.range_succ,List.filter_append,range_one n k hk m (by lia)]
  by_cases z:n-1-m=k
  ·have e:n-1-k=m:=by lia
   rw[e,if_neg (nU m),if_pos (Nat.lt_succ_self m)];simp[z]
  ·have e:n-1-k≠m:=by lia
   have f:(List.filter (λi=>decide (n-1-i=k)) [m])=[]:=by simp[z]
   rw[f,nJ]
   by_cases y:n-1-k<m
   ·rw[if_pos y,if_pos (by lia)]
   ·rw[if_neg y,if_neg (by lia)]
theorem wY{ks:List Str}(hn:ks.Nodup){i k:Nat}(hi:i<ks.length)(hk:k<ks.length):(ks.getD i ""==ks.getD k "")=decide (i=k):=by
 rw[List.getD_eq_getElem?_getD,List.getD_eq_getElem?_getD,List.getElem?_eq_getElem hi,List.getElem?_eq_getElem hk];show(ks[i]==ks[k])=_
 by_cases e:i=k
 ·subst e;simp
 ·have:ks[i]≠ks[k]:=λz=>e ((List.getElem_inj hn).mp z);rw[m8 e];exact beq_false_of_ne this
theorem kK{π:Plan}(hn:π.keys.Nodup){k:Nat}(hk:k<π.keys.length)(r:List Cell)(since:List (List (Int × Int)))(first:Nat):(Jv π r since first).filter (Zi (π.keys.getD k ""))=if first<=k then[wX π r k (since.getD k [])]else[]:=by
 unfold Jv;rw[List.filter_map];have e:(List.range (π.keys.length-first)).filter (Zi (π.keys.getD k "")∘λi=>wL π r since (π.keys.length-1-i))=(List.range (π.keys.length-first)).filter (λi=>decide (π.keys.length-1-i=k)):=by
  refine List.filter_congr λi hi=>?_;have hi:=List.mem_range.mp hi;show((("foot":Str)=="foot")&&(π.keys.getD (π.keys.length-1-i) ""==π.keys.getD k ""))=_;rw[wY hn (by lia) hk];simp
 rw[e,range_one π.keys.length k hk _ (by lia)]
 by_cases z:first<=k
 ·rw[if_pos (by lia),if_pos z,List.map_singleton,show π.keys.length-1-(π.keys.length-1-k)=k by lia];rfl
 ·rw[if_neg (by lia),if_neg z];rfl
theorem kL(w:Str)(r:List Cell):Zi w (xB r)=false:=rfl
theorem yx(w:Str)(l:List (Int × Int)):Zi w (yp l)=false:=rfl
theorem jN{π:Plan}(hn:π.keys.Nodup){k:Nat}(hk:k<π.keys.length):∀(rows:List (List Cell))(p:Option (List Cell))(since:List (List (Int × Int))),since.length=π.keys.length->(prog π rows p since).filter (Zi (π.keys.getD k ""))=(aM π k rows p (since.getD k [])).map λe=>wX π e.1 k e.2
 |[],none,since,_=>by rw[prog,aM];rfl
 |[],some p,since,_=>by rw[prog,aM,kK hn hk,if_pos (nR _)];rfl
 |r::rs,none,since,h=>by
  rw[prog,aM,List.filter_cons,kL,if_neg (by decide),jN hn hk rs _ _ (by rw[m7];exact h)]
  congr 2
  rw[List.getD_eq_getElem?_getD,nE,List.getD_eq_getElem?_getD,List.getElem?_eq_getElem (by lia)];rfl
 |r::rs,some p,since,h=>by
  have hu:=Vh (aA π) p r;have fh:(aA π).length=π.keys.length:=by unfold aA Qt;rw[m7]
  have ll:(since.take (unlike (aA π) p r)++List.replicate (π.keys.length-unlike (aA π) p r) (zeros π)).length=π.keys.length:=by
   rw[m5,nB,nG];lia
  rw[prog,aM,List.filter_append,List.filter_cons,kL,if_neg (by decide),kK hn hk,jN hn hk rs _ _ (by rw[m7];exact ll)];have eg:((since.take (unlike (aA π) p r)++List.replicate (π.keys.length-unlike (aA π) p r) (zeros π)).map (JZ (bh π) r)).getD k []=JZ (bh π) r (if unlike (aA π) p r<=k then zeros π else since.getD k []):=by
   rw[List.getD_eq_getElem?_getD,nE]
   by_cases z:unlike (aA π) p r<=k
   ·rw[if_pos z,List.getElem?_append_right (by rw[nB];lia),List.getElem?_replicate,if_pos (by rw[nB];lia)];rfl
   ·rw[if_neg z,List.getElem?_append_left (by rw[nB];lia),List.getElem?_take,if_pos (by lia),List.getD_eq_getElem?_getD,List.getElem?_eq_getElem (by lia)];rfl
  rw[eg]
  by_cases z:unlike (aA π) p r<=k
  ·rw[if_pos z,if_pos z,if_pos z];rfl
  ·rw[if_neg z,if_neg z,if_neg z];rfl
theorem jO{π:Plan}(hn:π.keys.Nodup){k:Nat}(hk:k<π.keys.length)(rows:List (List Cell)):(Z6 π rows).filter (Zi (π.keys.getD k ""))=(aM π k rows none (zeros π)).map λe=>wX π e.1 k e.2:=by
 unfold Z6;rw[List.filter_append,jN hn hk rows none (Jq π) (by unfold Jq;rw[nG]),List.filter_cons,yx,if_neg (by decide),List.filter_nil,nJ]
 congr 2
 unfold Jq;rw[List.getD_eq_getElem?_getD,List.getElem?_replicate,if_pos hk];rfl
theorem xL{c d:Cell}(hc:Jh c)(hd:Jh d):Vg c d=true↔rk 9 c=rk 9 d:=by
 cases c with
 |txt x=>
  cases d with
  |txt y=>
   show(x==y)=true↔Rk.txt x=Rk.txt y;rw[beq_iff_eq,Rk.txt.injEq]
  |au v p=>exact⟨λh=>(nomatch h),λh=>(nomatch h)⟩
 |au u o=>
  cases d with
  |txt y=>exact⟨λh=>(nomatch h),λh=>(nomatch h)⟩
  |au v p=>
   obtain⟨c1,c2,_⟩:=hc;obtain⟨d1,d2,_⟩:=hd;have e:=(yw (pl:=9) (pm:=18) (c:=.au u o) (d:=.au v p) (by decide) (λu' o' z=>by cases z;lia) (λu' o' z=>by cases z;lia)).2;rw[←e];show decide (u*ay.az (18-o)=v*ay.az (18-p))=true↔Rk.au _=Rk.au _;rw[decide_eq_true_iff,Rk.au.injEq]
theorem Ud{π:Plan}(Z:ao π){p r:List Cell}(hp:aq π p)(hr:aq π r){i:Nat}(h:i∈aA π):Jt p r i=true↔VL 9 p i=VL 9 r i:=by
 obtain⟨m,hm⟩:=List.getElem?_of_mem h;obtain⟨c,hc,oc⟩:=Zo Z hp hm;obtain⟨d,hd,od⟩:=Zo Z hr hm;unfold Jt VL;rw[List.getD_eq_getElem?_getD,List.getD_eq_getElem?_getD,hc,hd];exact xL oc od
noncomputable def kind(π:Plan)(k:Nat)(r:List Cell):List Rk:=(aK 9 π r).take (k+1)
theorem wZ{π:Plan}{k:Nat}{p r:List Cell}:kind π k p=kind π k r↔∀i∈(aA π).take (k+1),VL 9 p i=VL 9 r i:=by
 unfold kind aK;rw[←List.map_take, ←List.map_take];exact List.map_inj_left
theorem X8{π:Plan}(Z:ao π){k:Nat}(hk:k<π.keys.length){p r:List Cell}(hp:aq π p)(hr:aq π r):unlike (aA π) p r<=k↔¬ kind π k r=kind π k p:=by
 have fh:(aA π).length=π.keys.length:=by unfold aA Qt;rw[m7]
 rw[wZ];constructor
 ·intro h e;have bi:unlike (aA π) p r<(aA π).length:=by lia
  have hg:(!Jt p r (aA π)[unlike (aA π) p r])=true:=List.findIdx_getElem (p:=λi=> !Jt p r i) (w:=bi);have hm:(aA π)[unlike (aA π) p r]∈(aA π).take (k+1):=by
   rw[List.mem_iff_getElem?];exact⟨unlike (aA π) p r,by rw[List.getElem?_take,if_pos (by lia),List.getElem?_eq_getElem bi]⟩
  have:=(Ud Z hp hr (List.mem_of_mem_take hm)).mpr (e _ hm).symm;rw[this]at hg;cases hg
 ·intro h;refine Classical.byContradiction λz=>h λi hi=>?_;obtain⟨m,hm⟩:=List.getElem?_of_mem hi;rw[List.getElem?_take]at hm
  split at hm
  ·rename_i hmk;obtain⟨CS,Mt⟩:=List.getElem?_eq_some_iff.mp hm;have:=List.not_of_lt_findIdx (p:=λi=> !Jt p r i) (xs:=aA π) (i:=m) (by show m<unlike (aA π) p r;lia);rw[Mt]at this;exact((Ud Z hp hr (List.mem_of_mem_take hi)).mp (by simpa using this)).symm
  ·cases hm
noncomputable def vG(p:Int × Int):Int:=p.1*ay.az (18-p.2)
theorem Ue{n m:Nat}{p q:Int × Int}(hp:aF n p)(hq:aF m q):vG (KH p q)=vG p+vG q:=by
 obtain⟨a1,a2,_⟩:=hp;obtain⟨b1,b2,_⟩:=hq;have m1:=wG p.2 q.2;have m2:=vF p.2 q.2;have m3:=Yf a2 b2;show(p.1*ay.az (mx p.2 q.2-p.2)+q.1*ay.az (mx p.2 q.2-q.2))*ay.az (18-mx p.2 q.2)=p.1*ay.az (18-p.2)+q.1*ay.az (18-q.2);rw[Int.add_mul,Int.mul_assoc,Int.mul_assoc,ZI (by lia) (by lia),ZI (by lia) (by lia),show mx p.2 q.2-p.2+(18-mx p.2 q.2)=18-p.2 by lia,show mx p.2 q.2-q.2+(18-mx p.2 q.2)=18-q.2 by lia]
theorem xM{n m:Nat}{p q:Int × Int}(hp:aF n p)(hq:aF m q):aF (n+m) (KH p q):=by
 obtain⟨a1,a2,a3⟩:=hp;obtain⟨b1,b2,b3⟩:=hq;have m1:=wG p.2 q.2;have m2:=vF p.2 q.2;have m3:=Yf a2 b2;refine⟨by show 0<=mx p.2 q.2;lia,m3,?_⟩;show((p.1*ay.az (mx p.2 q.2-p.2)+q.1*ay.az (mx p.2 q.2-q.2))*ay.az (2-mx p.2 q.2)).natAbs<=_;rw[Int.add_mul,Int.mul_assoc,Int.mul_assoc,ZI (by lia) (by lia),ZI (by lia) (by lia),show mx p.2 q.2-p.2+(2-mx p.2 q.2)=2-p.2 by lia,show mx p.2 q.2-q.2+(2-mx p.2 q.2)=2-q.2 by lia];lia
noncomputable def val(j:Nat)(s:List (Int × Int)):Int:=vG (s.getD j (0,0))
noncomputable def give(π:Plan)(j:Nat)(r:List Cell):Int:=vG (Vd r ((bh π).getD j 0))
theorem Wn{π:Plan}(Z:ao π){r:List Cell}(Y:aq π r){s:List (Int × Int)}{n:Nat}(hl:s.length=π.sums.length)(ho:∀p∈s,aF n p) {j:Nat} (hj:j<π.sums.length):val j (JZ (bh π) r s)=val j s+give π j r:=by
 have LK:(bh π).length=π.sums.length:=by unfold bh Qt;rw[m7]
 have h1:s[j]? =some (s.getD j (0,0)):=by rw[List.getD_eq_getElem?_getD,List.getElem?_eq_getElem (by lia)];rfl
 have h2:(bh π)[j]? =some ((bh π).getD j 0):=by rw[List.getD_eq_getElem?_getD,List.getElem?_eq_getElem (by lia)];rfl
 have h3:(JZ (bh π) r s).getD j (0,0)=KH (s.getD j (0,0)) (Vd r ((bh π).getD j 0)):=by
  unfold JZ;rw[List.getD_eq_getElem?_getD,List.getElem?_zipWith,h1,h2];rfl
 unfold val give;rw[h3];exact Ue (ho _ (nF h1)) (jA Z Y (nF h2))
theorem Zj{π:Plan}{j:Nat}:val j (zeros π)=0:=by
 unfold val zeros;rw[List.getD_eq_getElem?_getD,nE];cases π.sums[j]? <;>simp[vG]
theorem KK{π:Plan}(Z:ao π){k j:Nat}(hk:k<π.keys.length)(hj:j<π.sums.length):∀(rows:List (List Cell))(p:Option (List Cell))(s:List (Int × Int))(n:Nat),(∀r∈rows,aq π r)->(∀r,p=some r->aq π r)->s.length=π.sums.length->(∀x∈s,aF n x)->
  (aM π k rows p s).map (λe=>(kind π k e.1,val j e.2))=aI.gr (kind π k) (give π j) rows (p.map (kind π k)) (val j s)
 |[],none,s,n,_,_,_,_=>rfl
 |[],some p,s,n,_,_,_,_=>rfl
 |r::rs,none,s,n,hY,_,hl,ho=>by
  have Y:=hY r nA;rw[aM,KK Z hk hj rs (some r) _ (n+1) (λr' h=>hY r' (nz _ h)) (λr' e=>by cases e;exact Y) (JB hl) (JV Z Y ho),Wn Z Y hl ho hj];rfl
 |r::rs,some p,s,n,hY,hP,hl,ho=>by
  have Y:=hY r nA;have YP:=hP p rfl;have lh:=λr' h=>hY r' (nz _ h);have hu:=X8 Z hk YP Y;rw[aM];show _=aI.gr (kind π k) (give π j) (r::rs) (some (kind π k p)) (val j s);rw[aI.gr]
  by_cases z:unlike (aA π) p r<=k
  ·rw[if_pos z,if_neg (hu.mp z),nM,KK Z hk hj rs (some r) _ 1 lh (λr' e=>by cases e;exact Y) (JB (QA π)) (JV Z Y (QN π)),Wn Z Y (QA π) (QN π) hj,Zj];rfl
  ·have ek:kind π k r=kind π k p:=Classical.byContradiction λy=>z (hu.mpr y);rw[if_neg z,if_pos ek,KK Z hk hj rs (some r) _ (n+1) lh (λr' e=>by cases e;exact Y) (JB hl) (JV Z Y ho),Wn Z Y hl ho hj, ←ek];rfl
theorem KL{π:Plan}(Z:ao π){k:Nat}:∀(rows:List (List Cell))(p:Option (List Cell))(s:List (Int × Int))(n:Nat),(∀r∈rows,aq π r)->s.length=π.sums.length->(∀x∈s,aF n x)->
  ∀e∈aM π k rows p s,e.2.length=π.sums.length/\(∀x∈e.2,aF (n+rows.length) x)/\(e.1∈rows\/p=some e.1)
 |[],none,s,n,_,_,_,e,he=>nomatch he
 |[],some p,s,n,_,hl,ho,e,he=>by
  obtain rfl:=List.mem_singleton.mp he;exact⟨hl,ho,.inr rfl⟩
 |r::rs,none,s,n,hY,hl,ho,e,he=>by
  have Y:=hY r nA;obtain⟨h1,h2,h3⟩:=KL Z rs (some r) _ (n+1) (λr' h=>hY r' (nz _ h)) (JB hl) (JV Z Y ho) e he;refine⟨h1,λx hx=>?_,?_⟩
  ·have:=h2 x hx;rw[nj,show n+(rs.length+1)=n+1+rs.length by lia];exact this
  ·rcases h3 with h|h
   ·exact .inl (nz _ h)
   ·cases h;exact .inl nA
 |r::rs,some p,s,n,hY,hl,ho,e,he=>by
  have Y:=hY r nA;have lh:=λr' h=>hY r' (nz _ h);have up:∀(m:Nat) x,aF m x->m<=n+(rs.length+1)->aF (n+(rs.length+1)) x:=λm x⟨a,b,c⟩ h=>⟨a,b,Nat.le_trans c (Nat.mul_le_mul_right _ h)⟩;rw[aM]at he;rw[nj]
  split at he
  ·rcases List.mem_cons.mp he with rfl|he
   ·exact⟨hl,λx hx=>up n x (ho x hx) (by lia),.inr rfl⟩
   ·obtain⟨h1,h2,h3⟩:=KL Z rs (some r) _ 1 lh (JB (QA π)) (JV Z Y (QN π)) e he;refine⟨h1,λx hx=>up _ x (h2 x hx) (by lia),?_⟩;rcases h3 with h|h
    ·exact .inl (nz _ h)
    ·cases h;exact .inl nA
  ·obtain⟨h1,h2,h3⟩:=KL Z rs (some r) _ (n+1) lh (JB hl) (JV Z Y ho) e he;refine⟨h1,λx hx=>up _ x (h2 x hx) (by lia),?_⟩;rcases h3 with h|h
   ·exact .inl (nz _ h)
   ·cases h;exact .inl nA
end Lw
namespace aI
open PySem PySem.W PyProof.Rows
noncomputable def Sp{α:Type}(N:Nat)(lt:Nat->Nat->Bool)(R:α->Prop):KasT α->Prop
 | .ret a=>R a
 | .ask i j k=>i<N/\j<N/\Sp N lt R (k (lt i j))
theorem Sp.bind{α β:Type}{N:Nat}{lt:Nat->Nat->Bool}{R:β->Prop}{f:α->KasT β}:∀{t:KasT α},Sp N lt (λa=>Sp N lt R (f a)) t->Sp N lt R (t.bind f)
 | .ret _,h=>h
 | .ask _ _ _,h=>⟨h.1,h.2.1,Sp.bind h.2.2⟩
theorem Sp.mono{α:Type}{N:Nat}{lt:Nat->Nat->Bool}{R R':α->Prop}(hr:∀a,R a->R' a):∀{t:KasT α},Sp N lt R t->Sp N lt R' t
 | .ret a,h=>hr a h
 | .ask _ _ _,h=>⟨h.1,h.2.1,Sp.mono hr h.2.2⟩
theorem Sp.wp{α:Type}{N:Nat}{lt:Nat->Nat->Bool}{R:α->Prop}{cmp:Nat->Nat->(Bool->Shared->Prop)->Shared->Prop}{I:Shared->Prop}(hc:∀i j C s,i<N->j<N->I s->(∀s',I s'->C (lt i j) s')->cmp i j C s) {Q:α->Shared->Prop} (hq:∀a s,R a->I s->Q a s):∀{t:KasT α}{s:Shared},Sp N lt R t->I s->t.kasWp cmp Q s
 | .ret a,s,h,i=>hq a s h i
 | .ask i j k,s,h,hi=>hc i j _ s h.1 h.2.1 hi λs' cz=>Sp.wp hc hq h.2.2 cz
structure Ord(lt:Nat->Nat->Bool):Prop where
 fm:∀a b,lt a b=true->lt b a=false
 tr:∀a b c,lt b a=false->lt c b=false->lt c a=false
noncomputable def S(lt:Nat->Nat->Bool)(a b:Nat):Prop:=lt b a=false/\(lt a b=false->a<b)
variable {lt:Nat->Nat->Bool}{N:Nat}
theorem Ord.Au(o:Ord lt){a b c:Nat}(h1:lt a b=true)(h2:lt c b=false):lt a c=true:=by
 cases h:lt a c with
 |true=>rfl
 |false=>have:=o.tr c a b h (o.fm _ _ h1);have h3:=o.tr b c a h2 h;rw[h1]at h3;cases h3
theorem Ord.Gj(o:Ord lt){a b c:Nat}(h1:lt b a=false)(h2:lt b c=true):lt a c=true:=by
 cases h:lt a c with
 |true=>rfl
 |false=>have:=o.tr c a b h h1;rw[h2]at this;cases this
theorem Ord.bR(o:Ord lt)(a:Nat):lt a a=false:=by
 cases h:lt a a with
 |false=>rfl
 |true=>have:=o.fm _ _ h;rw[h]at this;exact this
theorem S.of_lt(o:Ord lt){a b:Nat}(h:lt a b=true):S lt a b:=⟨o.fm _ _ h,λz=>by rw[h]at z;cases z⟩
theorem S.trans(o:Ord lt){a b c:Nat}(h1:S lt a b)(h2:S lt b c):S lt a c:=by
 refine⟨o.tr a b c h1.1 h2.1,λz=>?_⟩;have e1:lt a b=false:=by
  cases h:lt a b with
  |false=>rfl
  |true=>have:=o.Au h h2.1;rw[z]at this;cases this
 have e2:lt b c=false:=by
  cases h:lt b c with
  |false=>rfl
  |true=>have:=o.Gj h1.1 h;rw[z]at this;cases this
 exact Nat.lt_trans (h1.2 e1) (h2.2 e2)
theorem S.bR(o:Ord lt)(a:Nat):¬ S lt a a:=λh=>absurd (h.2 (o.bR a)) (nU a)
noncomputable def At(p:Array Nat)(i:Nat):Nat:=p.getD i 0
theorem jP{p:Array Nat}{i:Nat}(h:i<p.size):p[i]? =some (At p i):=by
 unfold At;simp[Array.getD,h]
theorem jQ{p:Array Nat}{i x:Nat}(h:p[i]? =some x):At p i=x:=by
 unfold At;rw[Array.getD_eq_getD_getElem?,h];rfl
theorem Wo(p:Array Nat)(i j:Nat):(kas_rev p i j).size=p.size:=mirror_size _ _ _ _
theorem Uf{p:Array Nat}{i j k:Nat}(hj:j<=p.size)(hk:k<p.size):At (kas_rev p i j) k=if i<=k/\k<j then At p (i+j-1-k)else At p k:=by
 have e:=getElem?_mirror_all (i:=i) hj k;apply jQ;unfold kas_rev;rw[e]
 split
 ·rename_i h;exact jP (by lia)
 ·exact jP hk
theorem yy{p:Array Nat}{k l i:Nat}(hk:k<p.size)(hl:l<=k)(hi:i<p.size):At (bubble p k (k-l)) i=if i=l then At p k else if l<i/\i<=k then At p (i-1)else At p i:=by
 have e:=getElem?_bubble hk (k-l) (by lia) i;rw[show k-(k-l)=l by lia]at e;apply jQ;rw[e]
 split
 ·exact jP hk
 ·split
  ·exact jP (by lia)
  ·exact jP hi
structure Pre(lt:Nat->Nat->Bool)(N:Nat)(p:Array Nat)(n:Nat):Prop where
 sz:p.size=N
 rest:∀i,n<=i->i<N->At p i=i
 low:∀i,i<n->At p i<n
 ord:∀i j,i<j->j<n->S lt (At p i) (At p j)
 perm:p.toList.Perm (List.range N)
 le:n<=N
theorem Pre.step(o:Ord lt){p:Array Nat}{n:Nat}(h:Pre lt N p n)(hn:n<N)(h1:1<=n)(hl:lt n (At p (n-1))=false):Pre lt N p (n+1):=by
 have lj:S lt (At p (n-1)) n:=⟨hl,λ_=>h.low _ (by lia)⟩;refine⟨h.sz,λi a b=>h.rest i (by lia) b,λi hi=>?_,λi j sw hj=>?_,h.perm,hn⟩
 ·by_cases e:i=n
  ·rw[e,h.rest n (ng _) hn];lia
  ·have:=h.low i (by lia);lia
 ·by_cases e:j=n
  ·rw[e,h.rest n (ng _) hn]
   by_cases e2:i=n-1
   ·rw[e2];exact lj
   ·exact(h.ord i (n-1) (by lia) (by lia)).trans o lj
  ·exact h.ord i j sw (by lia)
theorem jR(o:Ord lt){p:Array Nat}:∀(f n:Nat),1<=n->n+f=N->Pre lt N p n->
  Sp N lt (λm=>n<=m/\Pre lt N p m/\(m<N->lt m (At p (m-1))=true)) (kas_asc p f n)
 |0,n,h1,hf,h=>⟨ng _,h,λz=>by lia⟩
 |f+1,n,h1,hf,h=>by
  have e1:p.getD n 0=n:=h.rest n (ng _) (by lia);have e2:p.getD (n-1) 0=At p (n-1):=rfl;unfold kas_asc;rw[e1,e2];have BF:=h.low (n-1) (by lia);refine⟨by lia,by lia,?_⟩;cases hc:lt n (At p (n-1))with
  |true=>exact⟨ng _,h,λ_=>hc⟩
  |false=>exact Sp.mono (λm hm=>⟨by lia,hm.2⟩) (jR o f (n+1) (by lia) (by lia) (h.step o (by lia) h1 hc))
structure Down(lt:Nat->Nat->Bool)(N:Nat)(p:Array Nat)(n q:Nat):Prop where
 sz:p.size=N
 rest:∀i,n<=i->i<N->At p i=i
 low:∀i,i<n->At p i<n
 ord:∀i j,i<j->j<n-(q+1)->S lt (At p j) (At p i)
 top:∀i j,i<n-(q+1)->n-(q+1)<=j->j<n->lt (At p j) (At p i)=true
 eq:∀i j,n-(q+1)<=i->i<j->j<n->lt (At p i) (At p j)=false/\lt (At p j) (At p i)=false/\At p i<At p j
 perm:p.toList.Perm (List.range N)
 le:n<=N
 hq:q+1<=n
theorem Wp{p:Array Nat}(h:p.toList.Perm (List.range N))(i j:Nat):(kas_rev p i j).toList.Perm (List.range N):=(Array.perm_iff_toList_perm.mp (mirror_perm p i j _)).trans h
structure cg(lt:Nat->Nat->Bool)(N:Nat)(p:Array Nat)(n:Nat):Prop where
 sz:p.size=N
 rest:∀i,n<=i->i<N->At p i=i
 low:∀i,i<n->At p i<n
 ord:∀i j,i<j->j<n->S lt (At p j) (At p i)
 perm:p.toList.Perm (List.range N)
 le:n<=N
theorem Down.Gk(o:Ord lt){p:Array Nat}{n q:Nat}(h:Down lt N p n q):cg lt N (kas_rev p (n-(q+1)) n) n:=by
 have hq:=h.hq;have hle:=h.le;have at':∀k,k<N->At (kas_rev p (n-(q+1)) n) k=if n-(q+1)<=k/\k<n then At p (n-(q+1)+n-1-k)else At p k:=λk hk=>Uf (by rw[h.sz];exact hle) (by rw[h.sz];exact hk);refine⟨by rw[Wo,h.sz],λi a b=>?_,λi hi=>?_,λi j sw hj=>?_,Wp h.perm _ _,hle⟩
 ·rw[at' i b,if_neg (by lia)];exact h.rest i a b
 ·rw[at' i (by lia)]
  split
  ·exact h.low _ (by lia)
  ·exact h.low _ hi
 ·rw[at' i (by lia),at' j (by lia)]
  by_cases bP:n-(q+1)<=i
  ·rw[if_pos ⟨by lia,hj⟩,if_pos ⟨bP,by lia⟩];obtain⟨e1,e2,e3⟩:=h.eq (n-(q+1)+n-1-j) (n-(q+1)+n-1-i) (by lia) (by lia) (by lia);exact⟨e2,λ_=>e3⟩
  ·by_cases i6:n-(q+1)<=j
   ·rw[if_pos ⟨i6,hj⟩,if_neg (by lia)];exact S.of_lt o (h.top i _ (by lia) (by lia) (by lia))
   ·rw[if_neg (by lia),if_neg (by lia)];exact h.ord i j sw (by lia)
theorem cg.down(o:Ord lt){p:Array Nat}{n:Nat}(h:cg lt N p n)(hn:n<N)(hl:∀i,i<n->lt n (At p i)=true):Down lt N p (n+1) 0:=by
 have e:At p n=n:=h.rest n (ng _) hn;refine⟨h.sz,λi a b=>h.rest i (by lia) b,λi hi=>?_,λi j sw hj=>h.ord i j sw (by lia),λi j hi hj i6=>?_,λi j hi sw hj=>by lia,h.perm,hn,by lia⟩
 ·by_cases z:i=n
  ·rw[z,e];lia
  ·have:=h.low i (by lia);lia
 ·have:j=n:=by lia
  rw[this,e];exact hl i (by lia)
theorem Wq(o:Ord lt):∀(f:Nat)(p:Array Nat)(n q:Nat),n+f=N->Down lt N p n q->
  Sp N lt (λr:Array Nat × Nat × Nat=>Down lt N r.1 r.2.1 r.2.2) (kas_desc f p n q)
 |0,p,n,q,hf,h=>h
 |f+1,p,n,q,hf,h=>by
  have hq:=h.hq;have e1:p.getD n 0=n:=h.rest n (ng _) (by lia);have e2:p.getD (n-1) 0=At p (n-1):=rfl;have BF:=h.low (n-1) (by lia);unfold kas_desc;rw[e1,e2];refine⟨by lia,by lia,?_⟩;have above:∀i,i<n->lt n (At p (n-1))=true->lt n (At p i)=true:=λi hi hc=>by
   refine o.Au hc ?_
   by_cases bP:i<n-(q+1)
   ·exact o.fm _ _ (h.top i (n-1) bP (by lia) (by lia))
   ·by_cases Mu:i=n-1
    ·rw[Mu];exact o.bR _
    ·exact(h.eq i (n-1) (by lia) (by lia) (by lia)).1
  cases hc:lt n (At p (n-1))with
  |true=>
   show Sp N lt _ (if q>0 then kas_desc f (kas_rev p (n-(q+1)) n) (n+1) 0 else kas_desc f p (n+1) 0);have F:=h.Gk o
   by_cases tO:q>0
   ·rw[if_pos tO];refine Wq o f _ (n+1) 0 (by lia) (F.down o (by lia) λi hi=>?_);rw[Uf (by rw[h.sz];exact h.le) (by rw[h.sz];lia)]
    split
    ·exact above _ (by lia) hc
    ·exact above _ hi hc
   ·rw[if_neg tO];have CT:q=0:=by lia
    subst CT;refine Wq o f p (n+1) 0 (by lia) (cg.down o ⟨h.sz,h.rest,h.low,λi j sw hj=>?_,h.perm,h.le⟩ (by lia) λi hi=>above i hi hc)
    by_cases i6:j<n-1
    ·exact h.ord i j sw (by lia)
    ·exact S.of_lt o (h.top i j (by lia) (by lia) hj)
  |false=>
   refine⟨by lia,by lia,?_⟩;show Sp N lt _ (if lt (At p (n-1)) n=true then KasT.ret (p,n,q)else kas_desc f p (n+1) (q+1));cases hd:lt (At p (n-1)) n with
   |true=>exact h
   |false=>
    rw[if_neg (by decide)];have en:At p n=n:=e1;have same:∀i,n-(q+1)<=i->i<n->lt (At p i) n=false/\lt n (At p i)=false:=λi hi bP=>by
     by_cases z:i=n-1
     ·rw[z];exact⟨hd,hc⟩
     ·obtain⟨a1,a2,_⟩:=h.eq i (n-1) hi (by lia) (by lia);exact⟨o.tr n (At p (n-1)) (At p i) hd a1,o.tr (At p i) (At p (n-1)) n a2 hc⟩
    refine Wq o f p (n+1) (q+1) (by lia) ⟨h.sz,λi a b=>h.rest i (by lia) b,λi hi=>?_,λi j sw hj=>h.ord i j sw (by lia),λi j hi hj i6=>?_,λi j hi sw hj=>?_,h.perm,by lia,by lia⟩
    ·by_cases z:i=n
     ·rw[z,en];lia
     ·have:=h.low i (by lia);lia
    ·by_cases z:j=n
     ·rw[z,en];exact o.Gj hd (h.top i (n-1) (by lia) (by lia) (by lia))|>λx=>x
     ·exact h.top i j (by lia) (by lia) (by lia)
    ·by_cases z:j=n
     ·rw[z,en];obtain⟨a1,a2⟩:=same i (by lia) (by lia);exact⟨a1,a2,h.low i (by lia)⟩
     ·exact h.eq i j (by lia) sw (by lia)
theorem cg.pre{p:Array Nat}{n:Nat}(h:cg lt N p n):Pre lt N (kas_rev p 0 n) n:=by
 have hle:=h.le;have at':∀k,k<N->At (kas_rev p 0 n) k=if 0<=k/\k<n then At p (0+n-1-k)else At p k:=λk hk=>Uf (by rw[h.sz];exact hle) (by rw[h.sz];exact hk);refine⟨by rw[Wo,h.sz],λi a b=>?_,λi hi=>?_,λi j sw hj=>?_,Wp h.perm _ _,hle⟩
 ·rw[at' i b,if_neg (by lia)];exact h.rest i a b
 ·rw[at' i (by lia),if_pos ⟨nR _,hi⟩];exact h.low _ (by lia)
 ·rw[at' i (by lia),at' j (by lia),if_pos ⟨nR _,by lia⟩,if_pos ⟨nR _,hj⟩];exact h.ord _ _ (by lia) (by lia)
theorem jS(o:Ord lt){p:Array Nat}{n:Nat}(h:cg lt N p n)(h1:1<=n):Sp N lt (λr:Nat × Array Nat=>1<=r.1/\Pre lt N r.2 r.1) (kas_tail3 n N p):=by
 unfold kas_tail3;have hle:=h.le;refine Sp.bind (Sp.mono (λm hm=>?_) (jR o (N-n) n h1 (by lia) h.pre));exact⟨by lia,hm.2.1⟩
theorem X9(o:Ord lt){p:Array Nat}{n:Nat}(h:cg lt N p n)(hn:n<N)(hl:∀i,i<n->lt n (At p i)=true):Sp N lt (λr:Nat × Array Nat=>1<=r.1/\Pre lt N r.2 r.1) (kas_descPart n N p):=by
 unfold kas_descPart;refine Sp.bind (Sp.mono (λr hr=>?_) (Wq o (N-(n+1)) p (n+1) 0 (by lia) (h.down o hn hl)));have hq:=hr.hq;have F:=hr.Gk o
 by_cases tO:r.2.2>0
 ·rw[if_pos tO];exact jS o F (by lia)
 ·rw[if_neg tO];have e:r.2.2=0:=by lia
  refine jS o ⟨hr.sz,hr.rest,hr.low,λi j sw hj=>?_,hr.perm,hr.le⟩ (by lia)
  by_cases i6:j<r.2.1-1
  ·exact hr.ord i j sw (by lia)
  ·exact S.of_lt o (hr.top i j (by lia) (by lia) hj)
theorem Jl{i:Nat}(h:i<N):At (List.toArray (List.range N)) i=i:=jQ (by simp[h])
theorem jT(h:1<=N):Pre lt N (List.toArray (List.range N)) 1:=by
 refine⟨by simp,λi _ b=>Jl b,λi hi=>?_,λi j a b=>by lia,by simp,h⟩;rw[Jl (by lia)];exact hi
theorem xN(o:Ord lt)(h1:1<=N):Sp N lt (λr:Nat × Array Nat=>1<=r.1/\Pre lt N r.2 r.1) (kas_count N (List.toArray (List.range N))):=by
 unfold kas_count;refine Sp.bind (Sp.mono (λn hn=>?_) (jR o (N-1) 1 (ng _) (by lia) (jT h1)));obtain⟨CU,P,stop⟩:=hn;have hle:=P.le
 by_cases e:(n==N)=true
 ·rw[if_pos e];exact⟨CU,P⟩
 ·rw[if_neg e];have bi:n<N:=by
   have:n≠N:=λz=>e (by rw[z];exact beq_self_eq_true N);lia
  have PP:=stop bi
  by_cases h2:n>1
  ·rw[if_pos h2];have a0:(List.toArray (List.range N)).getD 0 0=0:=Jl (by lia);have a1:(List.toArray (List.range N)).getD (n-1) 0=n-1:=Jl (by lia);have am:At (List.toArray (List.range N)) (n-1)=n-1:=a1;rw[am]at PP;rw[a0,a1];refine⟨by lia,by lia,?_⟩;show Sp N lt _ (if lt 0 (n-1)=true then KasT.ret (n,List.toArray (List.range N))else kas_descPart n N (kas_rev (List.toArray (List.range N)) 0 n));cases hc:lt 0 (n-1)with
   |true=>exact⟨CU,P⟩
   |false=>
    rw[if_neg (by decide)];have ord:∀i j,i<j->j<n->S lt i j:=λi j a b=>by have:=P.ord i j a b;rw[Jl (by lia),Jl (by lia)]at this;exact this
    have Gm:∀i j,i<=j->j<n->lt j i=false:=λi j a b=>by
     by_cases z:i=j
     ·rw[z];exact o.bR _
     ·exact(ord i j (by lia) b).1
    have all:∀i j,i<n->j<n->lt i j=false:=λi j hi hj=>by
     exact o.tr j (n-1) i (Gm j (n-1) (by lia) (by lia)) (o.tr (n-1) 0 i hc (Gm 0 i (by lia) hi))|>λx=>x
    have at':∀k,k<N->At (kas_rev (List.toArray (List.range N)) 0 n) k=if 0<=k/\k<n then 0+n-1-k else k:=λk hk=>by
     rw[Uf (by simp;lia) (by simpa using hk)]
     split
     ·exact Jl (by lia)
     ·exact Jl hk
    refine X9 o ⟨by rw[Wo];simp,λi a b=>?_,λi hi=>?_,λi j sw hj=>?_,Wp P.perm _ _,hle⟩ bi λi hi=>?_
    ·rw[at' i b,if_neg (by lia)]
    ·rw[at' i (by lia),if_pos ⟨nR _,hi⟩];lia
    ·rw[at' i (by lia),at' j (by lia),if_pos ⟨nR _,hj⟩,if_pos ⟨nR _,by lia⟩];exact⟨all _ _ (by lia) (by lia),λ_=>by lia⟩
    ·rw[at' i (by lia),if_pos ⟨nR _,hi⟩];exact o.Au PP (all _ _ (by lia) (by lia))
  ·rw[if_neg h2];have e1:n=1:=by lia
   subst e1;have am:At (List.toArray (List.range N)) (1-1)=0:=Jl (by lia);rw[am]at PP;refine X9 o ⟨P.sz,P.rest,P.low,λi j a b=>by lia,P.perm,hle⟩ bi λi hi=>?_;have:i=0:=by lia
   rw[this,Jl (by lia)];exact PP
theorem Wr(o:Ord lt){p:Array Nat}{k:Nat}(h:Pre lt N p k)(hk:k<N):∀(f l r:Nat),l<=r->r<=k->r-l<=f->(∀i,i<l->lt k (At p i)=false)->(∀i,r<=i->i<k->lt k (At p i)=true)->
  Sp N lt (λl=>l<=k/\(∀i,i<l->lt k (At p i)=false)/\∀i,l<=i->i<k->lt k (At p i)=true) (kas_place p k f l r)
 |0,l,r,h1,h2,h3,a,b=>⟨by lia,a,λi hi=>b i (by lia)⟩
 |f+1,l,r,h1,h2,h3,a,b=>by
  unfold kas_place
  by_cases fH:l≥r
  ·rw[if_pos fH];exact⟨by lia,a,λi hi=>b i (by lia)⟩
  ·rw[if_neg fH];have e1:p.getD k 0=k:=h.rest k (ng _) hk;have e2:p.getD ((l+r)/2) 0=At p ((l+r)/2):=rfl;rw[e1,e2];have BF:=h.low ((l+r)/2) (by lia);refine⟨hk,by lia,?_⟩;have mon:∀i j,i<=j->j<k->lt (At p j) (At p i)=false:=λi j sw hj=>by
    by_cases z:i=j
    ·rw[z];exact o.bR _
    ·exact(h.ord i j (by lia) hj).1
   cases hc:lt k (At p ((l+r)/2))with
   |true=>exact Wr o h hk f l ((l+r)/2) (by lia) (by lia) (by lia) a λi hi bP=>o.Au hc (mon _ _ hi bP)
   |false=>exact Wr o h hk f ((l+r)/2+1) r (by lia) h2 (by lia) (λi hi=>o.tr _ _ _ (mon i ((l+r)/2) (by lia) (by lia)) hc) b
theorem Pre.insert(o:Ord lt){p:Array Nat}{k l:Nat}(h:Pre lt N p k)(hk:k<N)(hl:l<=k)(ha:∀i,i<l->lt k (At p i)=false) (hb:∀i,l<=i->i<k->lt k (At p i)=true):Pre lt N (bubble p k (k-l)) (k+1):=by
 have hs:=h.sz;have ek:At p k=k:=h.rest k (ng _) hk;have at':∀i,i<N->At (bubble p k (k-l)) i=if i=l then k else if l<i/\i<=k then At p (i-1)else At p i:=λi hi=>by rw[yy (by lia) hl (by lia),ek]
 refine⟨by rw[bubble_size,hs],λi a b=>?_,λi hi=>?_,λi j sw hj=>?_,(Array.perm_iff_toList_perm.mp (bubble_perm p k _)).trans h.perm,hk⟩
 ·rw[at' i b,if_neg (by lia),if_neg (by lia)];exact h.rest i (by lia) b
 ·rw[at' i (by lia)]
  split
  ·lia
  ·split
   ·have:=h.low (i-1) (by lia);lia
   ·have:=h.low i (by lia);lia
 ·rw[at' i (by lia),at' j (by lia)]
  by_cases c1:j=l
  ·rw[if_pos c1,if_neg (by lia),if_neg (by lia)];exact⟨ha i (by lia),λ_=>h.low i (by lia)⟩
  ·rw[if_neg c1]
   by_cases c2:l<j/\j<=k
   ·rw[if_pos c2]
    by_cases c3:i=l
    ·rw[if_pos c3];exact S.of_lt o (hb _ (by lia) (by lia))
    ·rw[if_neg c3]
     split
     ·exact h.ord _ _ (by lia) (by lia)
     ·exact h.ord _ _ (by lia) (by lia)
   ·rw[if_neg c2,if_neg (by lia),if_neg (by lia)];exact h.ord _ _ sw (by lia)
theorem kM(o:Ord lt):∀(f:Nat)(p:Array Nat)(k:Nat),k+f=N->Pre lt N p k->Sp N lt (λp=>Pre lt N p N) (kas_bin f p k)
 |0,p,k,hf,h=>by
  have:k=N:=by lia
  rw[this]at h;exact h
 |f+1,p,k,hf,h=>by
  unfold kas_bin;refine Sp.bind (Sp.mono (λl hl=>?_) (Wr o h (by lia) k 0 k (nR _) (ng _) (by lia) (λi hi=>by lia) (λi a b=>by lia)));exact kM o f _ (k+1) (by lia) (h.insert o (by lia) hl.1 hl.2.1 hl.2.2)
theorem jU(o:Ord lt)(h1:1<=N):Sp N lt (λp=>p.toList.Perm (List.range N)/\p.toList.Pairwise (S lt)) (kas_sort N):=by
 unfold kas_sort;have fin:∀p:Array Nat,Pre lt N p N->p.toList.Perm (List.range N)/\p.toList.Pairwise (S lt):=λp h=>by
  refine⟨h.perm,List.pairwise_iff_getElem.mpr λi j hi hj sw=>?_⟩;have hs:=h.sz;have cz:i<p.size:=by simpa using hi
  have Mw:j<p.size:=by simpa using hj
  have:=h.ord i j sw (by lia);have e1:At p i=p.toList[i]:=jQ (by simp[cz]);have e2:At p j=p.toList[j]:=jQ (by simp[Mw]);rw[e1,e2]at this;exact this
 refine Sp.bind (Sp.mono (λr hr=>?_) (xN o h1));obtain⟨CV,P⟩:=hr;have hle:=P.le
 by_cases c:r.1<N
 ·rw[if_pos c,show max r.1 1=r.1 by lia];exact Sp.mono (λp h=>fin p h) (kM o (N-r.1) r.2 r.1 (by lia) P)
 ·rw[if_neg c];have:r.1=N:=by lia
  rw[this]at P;exact fin _ P
theorem xO(o:Ord lt):∀{a b:List Nat},a.Perm b->a.Pairwise (S lt)->b.Pairwise (S lt)->a=b:=λhp h1 h2=>
 hp.eq_of_pairwise (le:=S lt) (λx y _ _ h h'=>absurd (h.trans o h') (S.bR o x)) h1 h2
end aI
namespace L2
open PySem PySem.Spec PyProof.Rows
structure oX(x:Str)(scope:Scope)(own:Bool):Prop where
 kind:scope.names.lookup x=some (if own=true then .cell else .local)
 only:∀y∈scope.names,y.2=.local\/y.2=.cell->y.1=x
 cf:∀n acc,cellsFrom n scope.names acc=if own=true then(x,n)::acc else acc
 pc:∀h,pushCells h scope.names=if own=true then h.push {cls:=.type "cell",data:=.cell none}else h
noncomputable def Jw(own:Bool)(x:Str)(L:Addr)(cl:List (Str × Addr)):List (Str × Addr):=if own=true then(x,L+1)::cl else cl
theorem Ws{M:Model}{A:Around}{E:Value->Shared->Prop}{s:Shared}{scope:Scope}{globals:Addr}{cl:List (Str × Addr)}{x:Str}{u:Value}{own:Bool}{qual:Str}{func:Option Addr}{code:Value}{builtins:Addr}{Q:Env->Shared->Prop}
  (hk:scope.kind=.function) (P:oX x scope own)
  (hQ:∀h' tk m,h'.Ns s.heap.objs.size m->(own=false->m x=some u)->(own=true->h'.IsCell (s.heap.objs.size+1) (some u))->(∀b o,s.heap.get? b=some o->h'.get? b=some o)->
   Q (newEnv scope s.heap.objs.size globals (Jw own x s.heap.objs.size cl) qual func code none builtins) {s with heap:=h',toks:=tk}):
  wpAny M A (newFunctionEnv scope globals cl [(x,u)] qual func code none builtins) Q E s:=by
 simp only[newFunctionEnv,Option.isSome_none,Bool.false_eq_true,if_false];refine wpAny_bind (wpAny_alloc ?_);refine wpAny_bind (wpAny_layCells _ (λname kind cells=>by cases l7:kind==NameKind.cell<;>simp[l7]) _ _ _ _ ?_);rw[show({s with heap:=s.heap.push {cls:=.type "frame",data:=.dict #[]}}:Shared).heap.objs.size=s.heap.objs.size+1 from Heap.size_push ..,P.cf,P.pc];have iE:=Heap.Ns.new s.heap (.type "frame");have lM:∀cells,(({scope,locals:=s.heap.objs.size,globals,cells:=cells,qual,func,code,frame:=some s.heap.objs.size,builtins}:Env).scope.kind==.class||(({scope,locals:=s.heap.objs.size,globals,cells:=cells,qual,func,code,frame:=some s.heap.objs.size,builtins}:Env).scope.kind==.module&&({scope,locals:=s.heap.objs.size,globals,cells:=cells,qual,func,code,frame:=some s.heap.objs.size,builtins}:Env).locals !=({scope,locals:=s.heap.objs.size,globals,cells:=cells,qual,func,code,frame:=some s.heap.objs.size,builtins}:Env).globals))=false:=λcells=>by
  show(scope.kind==.class||(scope.kind==.module&&_))=false;rw[hk];rfl
 cases own with
 |false=>
  simp only[Bool.false_eq_true,if_false];rw[List.forIn_cons];have hl:Env.kindOf {scope,locals:=s.heap.objs.size,globals,cells:=cl,qual,func,code,frame:=some s.heap.objs.size,builtins} x=some .local:=P.kind;refine wpAny_bind (wpAny_bind (wpAny_bind (wpAny_storeName_local hl iE (λh' Bh hs=>wpAny_pure ?_) (lM cl))));show wpAny _ _ (forIn [] _ _) _ _ _;rw[List.forIn_nil];refine wpAny_pure (wpAny_pure (hQ h' _ _ Bh (λ_=>by simp) (λz=>nomatch z) λb o e=>?_));exact(hs.2 b (Nat.ne_of_lt (Heap.lt_size e))).trans (Heap.get?_push_of_some _ e)
 |true=>
  simp only[if_true];rw[List.forIn_cons];have hl:Env.kindOf {scope,locals:=s.heap.objs.size,globals,cells:=(x,s.heap.objs.size+1)::cl,qual,func,code,frame:=some s.heap.objs.size,builtins} x=some .cell:=P.kind;have hc:Heap.IsCell ((s.heap.push {cls:=.type "frame",data:=.dict #[]}).push {cls:=.type "cell",data:=.cell none}) (s.heap.objs.size+1) none:=by
   refine⟨{cls:=.type "cell",data:=.cell none},?_,ae⟩;have e:((s.heap.push {cls:=.type "frame",data:=.dict #[]}).push {cls:=.type "cell",data:=.cell none}).get? (s.heap.push {cls:=.type "frame",data:=.dict #[]}).objs.size=some {cls:=.type "cell",data:=.cell none}:=Heap.get?_push_size _ rfl;rw[Heap.size_push]at e;exact e
  refine wpAny_bind (wpAny_bind (wpAny_bind (wpAny_storeName_cell hk hl (by show List.lookup x ((x,_)::cl)=_;rw[List.lookup_cons,beq_self_eq_true]) hc λh' Is hs=>wpAny_pure ?_)));show wpAny _ _ (forIn [] _ _) _ _ _;rw[List.forIn_nil];have CW:=iE.keeps (h':=(s.heap.push {cls:=.type "frame",data:=.dict #[]}).push {cls:=.type "cell",data:=.cell none}) λb o e=>Heap.get?_push_of_some _ e;refine wpAny_pure (wpAny_pure (hQ h' _ _ (CW.sameBut hs (Nat.ne_of_lt (Nat.lt_succ_self _))) (λz=>nomatch z) (λ_=>Is) λb o e=>?_));exact(hs.2 b (Nat.ne_of_lt (Nat.lt_succ_of_lt (Heap.lt_size e)))).trans (Heap.get?_push_of_some _ (Heap.get?_push_of_some _ e))
structure cj(x:Str)(FR:List Str)(fv:List V)(scope:Scope)(cl:List (Str × Addr))(H:Hp)(h:Heap):Prop where
 inj:∀y z c,cl.lookup y=some c->cl.lookup z=some c->y=z
 has:∀y,scope.names.lookup y=some .free->∃c,cl.lookup y=some c
 nx:cl.lookup x=none
 cell:∀y c,cl.lookup y=some c->H c=none/\∃v,h.IsCell c v
 len:fv.length=FR.length
 val:∀(i:Nat)(y:Str)(v:V),FR[i]? =some y->fv[i]? =some v->scope.names.lookup y=some .free/\∃u c,RelV v u/\cl.lookup y=some c/\h.IsCell c (some u)
section
variable {X:Cx}{pins:List (Addr × Obj)}{σ1:St}{H:Hp}{s:Shared}
theorem jV{k:Nat}{x:Str}{own:Bool}{FR:List Str}{fv:List V}{A:Around}{q:Str}{params:Arguments}{body:Expr}{scope:Scope}{f c':Addr}{cl:List (Str × Addr)}{pm cJ:Value}{te:TE}{Q:VK}{v:V}{u:Value}{E:Value->Shared->Prop}(I:Inv X pins σ1 H s)(hA:A.frames=some X.stack)(hr:JC (k+1) A)
  (ho:s.heap.get? f=some (kla_obj "<lambda>" q params body scope cl pm c' cJ)) (Is:H c'=some (Km c' q)) (hk:scope.kind=.function) (Mx:scope.isCoroutine=false) (CY:scope.isGenerator=false)
  (ck:bindArgs (kla_fn "<lambda>" q params body scope cl pm (.ref c') cJ) ⟨[u],[]⟩=pure [(x,u)]) (P1:oX x scope own) (C:cj x FR fv scope cl H s.heap) (rv:RelV v u)
  (hb:JC k (A.deeper (envX q scope s.heap.objs.size f (.ref c') (Jw own x s.heap.objs.size cl)))->PE (wm X.prog X.w X.K X.mg X.base (x::FR) q scope f c' (Jw own x s.heap.objs.size cl) A X.stack s H u5).dG body te) (h:te (some v::fv.map some) H Q):
  wpAny (model X.prog X.w) A (call (.ref f) [u]) (EP X pins σ1 Q) E s:=by
 refine wpAny_call (codeAny_mono (R:=CR (λ_ _ _ _ _ _=>False) X.stack X.prog X.w H s Q u5) ?_ λr s' hq=>?_)
 ·refine kla_callFunE hr.depth ho rfl Mx CY rfl (qW (I.aj c' _ Is)) ?_;rw[ck];refine wpAny_pure (Ws hk P1 λh₁ tk m iE hm FB tP=>⟨I.nolimit.keeps tP,?_⟩);show codeAny _ _ (.expr body (envX q scope s.heap.objs.size f (.ref c') (Jw own x s.heap.objs.size cl))) _ _;have pJ:∀y c,cl.lookup y=some c->c<s.heap.objs.size:=λy c e=>by
   obtain⟨_,w',o,e1,_⟩:=C.cell y c e;exact Heap.lt_size e1
  have look:∀y c,(Jw own x s.heap.objs.size cl).lookup y=some c->(own=true/\y=x/\c=s.heap.objs.size+1)\/cl.lookup y=some c:=λy c e=>by
   unfold Jw at e
   split at e
   ·rename_i ho;rw[List.lookup_cons]at e
    split at e
    ·rename_i hy;cases e;exact .inl ⟨ho,eq_of_beq hy,ae⟩
    ·exact .inr e
   ·exact .inr e
  have up:∀y c,cl.lookup y=some c->(Jw own x s.heap.objs.size cl).lookup y=some c:=λy c e=>by
   unfold Jw
   split
   ·rw[List.lookup_cons]
    split
    ·rename_i hy;rw[eq_of_beq hy,C.nx]at e;cases e
    ·exact e
   ·exact e
  have CZ:∀y,(scope.names.lookup y=some .cell\/scope.names.lookup y=some .free)->∃c,(Jw own x s.heap.objs.size cl).lookup y=some c:=λy hy=>by
   rcases hy with z|z
   ·have e:y=x:=P1.only _ (PySem.mem_of_lookup z) (.inr ae);subst e;have:=P1.kind;rw[z]at this;cases own with
    |false=>cases this
    |true=>exact⟨s.heap.objs.size+1,by unfold Jw;rw[if_pos rfl,List.lookup_cons,beq_self_eq_true]⟩
   ·obtain⟨c,e⟩:=C.has y z;exact⟨c,up y c e⟩
  have Gn:∀y c,(Jw own x s.heap.objs.size cl).lookup y=some c->(∃w',h₁.IsCell c w')/\H c=none:=λy c e=>by
   rcases look y c e with⟨ow,_,rfl⟩|e
   ·exact⟨⟨_,FB ow⟩,I.aj.fresh (Nat.le_succ _)⟩
   ·obtain⟨n,w',o,e1,e2⟩:=C.cell y c e;exact⟨⟨w',o,tP _ _ e1,e2⟩,n⟩
  have J:Inv (wm X.prog X.w X.K X.mg X.base (x::FR) q scope f c' (Jw own x s.heap.objs.size cl) A X.stack s H u5).dG [] (some v::fv.map some) H {s with heap:=h₁,toks:=tk}:=by
   refine⟨⟨I.ok.mod,hk,ae,ae,ng _,λy z c h1 h2=>?_,CZ,(λx c z _=>nomatch z),λ_=>hr.hd,Around.frames_deeper hA,.inr ⟨ae,ae⟩,λb z=>absurd (show b∈([]:List Addr)from z) (by simp),I.bs,Nat.le_trans I.ok.dR I.sz,λb _ _ z=>absurd (show b∈([]:List Addr)from z) (by simp),λb z=>absurd (show b∈([]:List Addr)from z) (by simp),I.stack,I.Zy⟩,
    ae,I.bare,Un.kept tP,⟨_,iE,λi y w' h1 h2 h3=>?_⟩,λy c e=>(Gn y c e).1,I.aj.fresh (ng _),λy c e=>(Gn y c e).2,λp hp=>absurd (show p∈([]:List (Addr × Obj))from hp) (by simp),I.aj.kept tP,?_⟩
   ·rcases look y c h1 with⟨_,rfl,rfl⟩|e1
    ·rcases look z _ h2 with⟨_,rfl,_⟩|e2
     ·rfl
     ·exact absurd (pJ _ _ e2) (Nat.not_lt.mpr (Nat.le_succ _))
    ·rcases look z c h2 with⟨_,rfl,rfl⟩|e2
     ·exact absurd (pJ _ _ e1) (Nat.not_lt.mpr (Nat.le_succ _))
     ·exact C.inj y z c e1 e2
   ·cases i with
    |zero=>
     cases h1;cases h2;refine⟨u,rv,?_⟩;cases own with
     |false=>exact .inl ⟨P1.kind,hm rfl⟩
     |true=>exact .inr ⟨.inl P1.kind,_,by show(Jw true x s.heap.objs.size cl).lookup x=_;unfold Jw;rw[if_pos rfl,List.lookup_cons,beq_self_eq_true],FB rfl⟩
    |succ i=>
     have h1:FR[i]? =some y:=h1;have h2:(fv.map some)[i]? =some (some w'):=h2;rw[nE]at h2;cases e:fv[i]? with
     |none=>rw[e]at h2;cases h2
     |some v2=>
      rw[e]at h2;cases h2;obtain⟨hf,u',c,r,e1,o,e2,e3⟩:=C.val i y w' h1 e;exact⟨u',r,.inr ⟨.inr hf,c,up y c e1,o,tP _ _ e2,e3⟩⟩
   ·show(some v::fv.map some).length=(x::FR).length;rw[nj,nj,m7,C.len]
  refine kla_codeExpr (wpAny_mono (hb (hr.deeper _) [] _ _ H Q J h) (λv s' hq=>?_) λe s' hq=>hq.elim);obtain⟨y,H',J',r,q'⟩:=hq;exact⟨y,H',J'.os,J'.bare,J'.base,J'.aj,r,q'⟩
 ·cases r with
  |error e=>exact hq.elim
  |ok fl=>
   cases fl with
   |ret u=>exact I.after hq
   |next=>exact False.elim hq
   |brk=>exact False.elim hq
   |cont=>exact False.elim hq
end
open PySem PySem.Spec PyProof.Rows PySem.W
structure Lo(X:Cx)(pins:List (Addr × Obj))(a:Addr):Prop where
 l:a≠X.env.locals
 f:a∉X.fs
 s:X.s₀.heap.objs.size<=a
 c:∀x c,X.env.cells.lookup x=some c->c≠a
 p:∀p∈X.pn++pins,p.1≠a
section
variable {X:Cx}{pins:List (Addr × Obj)}{σ:St}{H:Hp}{s:Shared}{a b:Addr}{oa ob:Obj}
theorem Lo.new(I:Inv X pins σ H s)(h:s.heap.objs.size<=a):Lo X pins a:=by
 obtain⟨_,f1,f2,f3,f4,f5⟩:=I.zM (H':=λ_=>none) h rfl;exact⟨f1,f2,Nat.le_trans I.sz h,f4,f5⟩
theorem Inv.loose{h':Heap}{t':Nat}(I:Inv X pins σ H s)(L:Lo X pins a)(hn:H a=none)(k:∀b o,b≠a->s.heap.get? b=some o->h'.get? b=some o):Inv X pins σ H {s with heap:=h',toks:=t'}:=I.turned k hn L.l (.inr L.s) L.c L.p
theorem Inv.yz{C0:Obj}{f:Obj->Obj}(I:Inv X (pins++[(a,oa),(b,ob)]) σ H s)(Lb:Lo X pins b)(iF:a≠b)(hf:(s.heap.update b f).get? b=some C0)(hd:∀v,C0.data≠ .cell v):Inv X (pins++[(a,oa),(b,C0)]) σ H {s with heap:=s.heap.update b f}:=by
 have pb:=I.pin (b,ob) (nu _ (nu _ (by simp)));have I1:Inv X (pins++[(a,oa)]) σ H s:=I.Q4 λp hp=>I.pin p (nu _ ((List.mem_append.mp hp).elim (λz=>ny _ z) λz=>nu _ (by rw[List.mem_singleton.mp z];simp)));have L1:Lo X (pins++[(a,oa)]) b:=⟨Lb.l,Lb.f,Lb.s,Lb.c,λp hp=>by
  rcases List.mem_append.mp hp with z|z
  ·exact Lb.p p (ny _ z)
  ·rcases List.mem_append.mp z with z|z
   ·exact Lb.p p (nu _ z)
   ·rw[List.mem_singleton.mp z];exact iF⟩
 have I2:=I1.loose (h':=s.heap.update b f) (t':=s.toks) L1 pb.2.1 λc o hc e=>(Heap.get?_update_other _ _ (Ne.symm hc)).trans e;refine I2.Q4 λp hp=>?_;rcases List.mem_append.mp hp with z|z
 ·exact I2.pin p (nu _ (ny _ z))
 ·rcases List.mem_cons.mp z with z|z
  ·rw[z];exact I2.pin (a,oa) (nu _ (nu _ (by simp)))
  ·rw[List.mem_singleton.mp z];exact⟨hf,pb.2.1,Lb.l,Lb.f,hd⟩
end
noncomputable def yA(X:Cx)(A:Around)(s:Shared)(ks:List Value)(lt:Nat->Nat->Bool):Prop:=
 ∃κ,(∀(Q:SortKind->Shared->Prop)(E:Value->Shared->Prop),Q κ s->wpAny (model X.prog X.w) A (keyKind' ks.toArray) Q E s)/\
  ∀i j(C:Bool->Shared->Prop),i<ks.length->j<ks.length->C (lt i j) s->wpAny (model X.prog X.w) A (keyLt' κ (ks.getD i Value.none) (ks.getD j Value.none)) C (λ_ _=>False) s
noncomputable def QB(n:Nat)(lt:Nat->Nat->Bool)(ps:List Nat):Prop:=ps.Perm (List.range n)/\ps.Pairwise (aI.S lt)
theorem QB.uX{n:Nat}{lt:Nat->Nat->Bool}(h:n<2):QB n lt (List.range n):=by
 refine⟨List.Perm.refl _,?_⟩
 match n,h with
 |0,_=>exact List.Pairwise.nil
 |1,_=>exact List.pairwise_singleton _ _
theorem QB.lt{n:Nat}{lt:Nat->Nat->Bool}{ps:List Nat}(h:QB n lt ps):∀i∈ps,i<n:=λi hi=>by
 have:=h.1.mem_iff.mp hi;simpa using this
theorem QB.len{n:Nat}{lt:Nat->Nat->Bool}{ps:List Nat}(h:QB n lt ps):ps.length=n:=by
 have:=h.1.length_eq;simpa using this
theorem Ka{vs:List V}{us:List Value}(r:Vals vs us):∀(ps:List Nat),(∀i∈ps,i<vs.length)->Vals (ps.map λi=>vs.getD i .ah) (ps.map λi=>us.getD i Value.none)
 |[],_=>.nil
 |i::ps,h=>by
  have hi:=h i nA;have e1:vs[i]? =some (vs.getD i .ah):=by simp[List.getD,List.getElem?_eq_getElem hi]
  obtain⟨u,e2,q⟩:=r.get e1;have e3:us.getD i Value.none=u:=by simp[List.getD,e2]
  rw[nM,nM,e3];exact .cons q (Ka r ps λj hj=>h j (nz _ hj))
section
variable {X:Cx}{pins:List (Addr × Obj)}{σ:St}{A:Around}{E:Value->Shared->Prop}{a kS:Addr}{vs:List V}{us:List Value}{oa:Obj}{f:Value}
theorem Ug{body:Value->PUnit->Sem (ForInStep PUnit)}(Ev:Nat->List V->Hp->Prop)(rv:Vals vs us)(fq:vs.length<64)(Lk:Lo X pins kS)(lq:a≠kS)
  (SC:∀(i:Nat)(kv:List V)(pl:List (Addr × Obj))(H:Hp)(s:Shared)(v:V)(u:Value),Inv X (pins++pl) σ H s->vs[i]? =some v->RelV v u->Ev i kv H->kv.length=i->wpAny (model X.prog X.w) A (call f [u]) (EP X (pins++pl) σ λk H'=>Ev (i+1) (kv++[k]) H') (λ_ _=>False) s)
  (hb:∀(x:Value)(ks:List Value)(s:Shared)(R:Shared->Prop),ks.length<64->wpAny (model X.prog X.w) A (call f [x]) (λk s'=>(∃e,s'.heap.get? kS=some (seqObj "list" (List.toArray ks) e))/\R {s' with heap:=s'.heap.update kS (Obj.mapSeq (·.push k))}) (λ_ _=>False) s->
   wpAny (model X.prog X.w) A (body x ⟨⟩) (λr s'=>r=.yield ⟨⟩/\R s') E s):
  ∀(r:List Value)(i:Nat)(kv:List V)(ks:List Value)(e:Nat)(H:Hp)(s:Shared),us.drop i=r->i+r.length=us.length->Inv X (pins++[(a,oa),(kS,seqObj "list" (List.toArray ks) e)]) σ H s->Vals kv ks->kv.length=i->Ev i kv H->
   wpAny (model X.prog X.w) A (forIn r PUnit.unit body) (λ_ s'=>∃kv ks e H',Inv X (pins++[(a,oa),(kS,seqObj "list" (List.toArray ks) e)]) σ H' s'/\Vals kv ks/\kv.length=vs.length/\Ev vs.length kv H') E s
 |[],i,kv,ks,e,H,s,hd,hl,I,rk,hi,ok=>by
  have:=rv.length;rw[List.forIn_nil];rw[List.length_nil]at hl;have hv:i=vs.length:=by lia
  exact wpAny_pure ⟨kv,ks,e,H,I,rk,by lia,by rw[←hv];exact ok⟩
 |x::r,i,kv,ks,e,H,s,hd,hl,I,rk,hi,ok=>by
  have Ch:=rv.length;rw[nj]at hl;rw[List.forIn_cons];have hx:us[i]? =some x:=by
   have:=congrArg (λl=>l[0]?) hd;simpa using this
  have hr:us.drop (i+1)=r:=by
   have:=congrArg (λl=>l.drop 1) hd;simpa[List.drop_drop]using this
  obtain⟨v,hv,My⟩:=Q7 rv hx;have bI:=rk.length;refine wpAny_bind (wpAny_mono (hb x ks s (λs'=>∃k e' H' c,Inv X (pins++[(a,oa),(kS,seqObj "list" (List.toArray (ks++[k])) c)]) σ H' s'/\∃kx,RelV kx k/\Ev (i+1) (kv++[kx]) H'/\e'=0) (by lia) (wpAny_mono (SC i kv _ H s v x I hv My ok hi) (λk s' hq=>?_) λ_ _ z=>z)) (λq s' hq=>?_) λ_ _ z=>z)
  ·obtain⟨kx,H',I',C3,C4⟩:=hq;have pk:=I'.pin (kS,seqObj "list" (List.toArray ks) e) (nu _ (nu _ (by simp)));have gu:=get?_update_seq pk.1 (·.push k);rw[List.push_toArray]at gu;exact⟨⟨e,pk.1⟩,k,0,H',_,I'.yz Lk lq gu (λv z=>nomatch z),kx,C3,C4,ae⟩
  ·obtain⟨rfl,k,e',H',c,I',kx,C3,C4,_⟩:=hq;show wpAny (model X.prog X.w) A (forIn r PUnit.unit body) _ E s';exact Ug Ev rv fq Lk lq SC hb r (i+1) (kv++[kx]) (ks++[k]) c H' s' hr (by lia) I' (rk.append (.cons C3 .nil)) (by rw[m5,ni,hi]) C4
theorem w4{kv:List V}{ks:List Value}{e e1:Nat}{H:Hp}{s:Shared}{lt:Nat->Nat->Bool}{P:PySem.Fin->Shared->Prop}(rv:Vals vs us)(fq:vs.length<64)(rk:Vals kv ks)(bI:kv.length=vs.length)(La:Lo X pins a)(Lk:Lo X pins kS)(lq:a≠kS)
  (I:Inv X (pins++[(a,seqObj "list" #[] e1),(kS,seqObj "list" (List.toArray ks) e)]) σ H s) (ord:2<=vs.length->aI.Ord lt) (asks:2<=vs.length->yA X A s ks lt)
  (h:∀ps s',QB vs.length lt ps->Inv X pins σ (upd H a (.lst (ps.map λi=>vs.getD i .ah))) s'->P (.done (.ret .none)) s'):
  wpAny (model X.prog X.w) A (ksk_end a false us.toArray e1 (.ref kS) (List.toArray ks)) P E s:=by
 have iG:=rv.length;have Cz:=rk.length;have pa:=I.pin (a,seqObj "list" #[] e1) (nu _ (nu _ (by simp)));have pk:=I.pin (kS,seqObj "list" (List.toArray ks) e) (nu _ (nu _ (by simp)));have tail:∀(st:SortSt)(ps:List Nat),QB vs.length lt ps->(arrOf st).map (·.2)=List.toArray (ps.map λi=>us.getD i Value.none)->failedOf st=none->wpAny (model X.prog X.w) A (ksk_tail a false e1 (.ref kS) st) P E s:=by
  intro st ps Id Ps hf;have g1:=get?_update_seq pk.1 λ_=>(#[]:Array Value);have I1:=I.yz Lk lq g1 (λv z=>nomatch z);have C5:=I1.pin (a,seqObj "list" #[] e1) (nu _ (nu _ (by simp)));have g2:=get?_update_seq C5.1 λ_=>List.toArray (ps.map λi=>us.getD i Value.none);have hlen:(List.toArray (ps.map λi=>us.getD i Value.none)).size=vs.length:=by rw[nQ,m7,Id.len]
  unfold ksk_tail;dsimp only;rw[Ps];refine wpAny_bind (listUpdate_at pk.1 ae ?_ (by rw[nQ,sizeLine_eq];lia) (nR _));refine wpAny_bind (wpAny_letGo ?_);refine wpAny_bind (seqEpoch_at C5.1 ae ?_);rw[if_neg (by decide)];refine wpAny_bind (listUpdate_at C5.1 ae ?_ (nR _) (Nat.le_trans (Nat.le_of_eq hlen) (by rw[sizeLine_eq];lia)));rw[hf];simp only[bne_self_eq_false,Bool.false_eq_true,if_false];refine wpAny_pure (h ps _ Id ?_);have I2:Inv X pins σ H {s with heap:=s.heap.update kS (Obj.mapSeq λ_=>(#[]:Array Value))}:=I1.QL;have I3:=I2.loose (h':=(s.heap.update kS (Obj.mapSeq λ_=>(#[]:Array Value))).update a (Obj.mapSeq λ_=>List.toArray (ps.map λi=>us.getD i Value.none))) (t':=s.toks) La pa.2.1 λc o hc q=>(Heap.get?_update_other _ _ (Ne.symm hc)).trans q;have h0:X.s₀.heap.get? a=none:=by
   cases q:X.s₀.heap.get? a with
   |none=>rfl
   |some o=>exact absurd (Nat.lt_of_lt_of_le (Heap.lt_size q) La.s) (nU _)
  refine I3.VY pa.2.1 h0 La.l La.c La.p ⟨?_,_,_,Ka rv ps λi hi=>Id.lt i hi,g2⟩;rw[m7,Id.len,sizeLine_eq];lia
 unfold ksk_end;dsimp only;simp only[Bool.false_eq_true,if_false]
 by_cases h2:us.toArray.size<2
 ·have fu:vs.length<2:=by rw[nQ]at h2;lia
  rw[if_pos h2,if_pos h2];refine wpAny_bind (wpAny_pure ?_);rw[StateT.run_pure];refine wpAny_bind (wpAny_pure ?_);refine tail _ (List.range vs.length) (QB.uX fu) ?_ rfl;have hl:ks.length=us.length:=by lia
  have er:=kas_range ((List.toArray ks).zip us.toArray);rw[show((List.toArray ks).zip us.toArray).size=us.length by simp[hl]]at er;have:=kat_snds (vs:=us) (ks:=ks) hl (st:=SortSt.mk' general' ((List.toArray ks).zip us.toArray) #[] 7 none) (p:=List.toArray (List.range us.length)) er.symm;rw[iG];exact this
 ·have fu:2<=vs.length:=by rw[nQ]at h2;lia
  rw[if_neg h2,if_neg h2];obtain⟨κ,hκ,bi⟩:=asks fu;refine wpAny_bind (hκ _ _ ?_);have hl:ks.length=us.length:=by lia
  refine wpAny_bind (wpAny_mono (kat_run (Q:=λEQ s'=>s'=s/\∃p:Array Nat,arrOf EQ=p.map (kas_item ((List.toArray ks).zip us.toArray))/\failedOf EQ=none/\QB vs.length lt p.toList) (G:=λp s'=>s'=s/\QB vs.length lt p.toList)
   hl (by lia) (by lia) (λp' EQ s' a1 a2 a3 a4=>⟨a4.1,p',a2,a3,a4.2⟩) ?_) ?_ λ_ _ z=>z)
  ·rw[←iG];exact aI.Sp.wp (N:=vs.length) (lt:=lt) (I:=λs'=>s'=s) (R:=λp=>QB vs.length lt p.toList) (λi j C s' hi hj hs hC=>by
    subst hs;exact bi i j C (by lia) (by lia) (hC _ ae)) (λp s' hp hs=>⟨hs,hp⟩) (aI.jU (ord fu) (by lia)) rfl
  ·rintro⟨⟨⟩,EQ⟩ s' ⟨rfl,p,C6,hf,hp⟩;exact tail EQ p.toList hp (kat_snds hl C6) hf
end
section
variable {X:Cx}{pins:List (Addr × Obj)}{σ:St}{A:Around}{E:Value->Shared->Prop}{a:Addr}{vs:List V}{us:List Value}{f:Value}{H:Hp}{s:Shared}
theorem jW{n:Nat}{P:PySem.Fin->Shared->Prop}(Ev:Nat->List V->Hp->Prop)(I:Inv X pins σ H s)(ho:s.heap.get? a=some (seqObj "list" us.toArray n))(La:Lo X pins a)(hn:H a=none)(rv:Vals vs us)(fq:vs.length<64)(k0:Ev 0 [] H)
  (SC:∀(i:Nat)(kv:List V)(pl:List (Addr × Obj))(H:Hp)(s:Shared)(v:V)(u:Value),Inv X (pins++pl) σ H s->vs[i]? =some v->RelV v u->Ev i kv H->kv.length=i->wpAny (model X.prog X.w) A (call f [u]) (EP X (pins++pl) σ λk H'=>Ev (i+1) (kv++[k]) H') (λ_ _=>False) s)
  (fin:∀kv H',kv.length=vs.length->Ev vs.length kv H'->∃lt,(2<=vs.length->aI.Ord lt)/\(∀pl s' ks,Inv X (pins++pl) σ H' s'->Vals kv ks->2<=vs.length->yA X A s' ks lt)/\
   ∀ps s',QB vs.length lt ps->Inv X pins σ (upd H' a (.lst (ps.map λi=>vs.getD i .ah))) s'->H' a=none->P (.done (.ret .none)) s'):
  wpAny (model X.prog X.w) A (ksk_tree a f false) P E s:=by
 have iG:=rv.length;have g1:=get?_update_seq ho λ_=>(#[]:Array Value);generalize (if(#[]:Array Value).size==us.toArray.size then n else n+1)=e1 at g1;have I1:=I.loose (h':=s.heap.update a (Obj.mapSeq λ_=>(#[]:Array Value))) (t':=s.toks) La hn λc o hc q=>(Heap.get?_update_other _ _ (Ne.symm hc)).trans q;have I2:Inv X pins σ H {s with heap:=(s.heap.update a (Obj.mapSeq λ_=>(#[]:Array Value))).push (seqObj "tuple" us.toArray 0)}:=I1.kept (t':=s.toks) λb o e=>Heap.get?_push_of_some _ e;have I3:Inv X pins σ H {s with heap:=((s.heap.update a (Obj.mapSeq λ_=>(#[]:Array Value))).push (seqObj "tuple" us.toArray 0)).push (seqObj "list" #[] 0)}:=I2.kept (t':=s.toks) λb o e=>Heap.get?_push_of_some _ e;have Lk:Lo X pins ((s.heap.update a (Obj.mapSeq λ_=>(#[]:Array Value))).push (seqObj "tuple" us.toArray 0)).objs.size:=Lo.new I2 (ng _);have ga:(((s.heap.update a (Obj.mapSeq λ_=>(#[]:Array Value))).push (seqObj "tuple" us.toArray 0)).push (seqObj "list" #[] 0)).get? a=some (seqObj "list" #[] e1):=Heap.get?_push_of_some _ (Heap.get?_push_of_some _ g1);have gk:(((s.heap.update a (Obj.mapSeq λ_=>(#[]:Array Value))).push (seqObj "tuple" us.toArray 0)).push (seqObj "list" #[] 0)).get? ((s.heap.update a (Obj.mapSeq λ_=>(#[]:Array Value))).push (seqObj "tuple" us.toArray 0)).objs.size=some (seqObj "list" (List.toArray []) 0):=Heap.get?_push_size _ rfl;have lq:a≠((s.heap.update a (Obj.mapSeq λ_=>(#[]:Array Value))).push (seqObj "tuple" us.toArray 0)).objs.size:=Nat.ne_of_lt (Heap.lt_size (Heap.get?_push_of_some _ g1));have Gp:H ((s.heap.update a (Obj.mapSeq λ_=>(#[]:Array Value))).push (seqObj "tuple" us.toArray 0)).objs.size=none:=I2.aj.fresh (ng _);unfold ksk_tree;refine wpAny_bind (listItems_at ho ae ?_);refine wpAny_bind (listUpdate_at ho ae ?_ (by rw[nQ,sizeLine_eq];lia) (nR _));refine wpAny_bind (seqEpoch_at g1 ae ?_);refine wpAny_bind (wpAny_newTuple ?_ (by show us.length<=_;rw[sizeLine_eq];lia));refine wpAny_bind (wpAny_newList ?_ (nR _));refine wpAny_holding ?_;show wpAny (model X.prog X.w) A (ksk_rest a f false us.toArray e1 (.ref ((s.heap.update a (Obj.mapSeq λ_=>(#[]:Array Value))).push (seqObj "tuple" us.toArray 0)).objs.size)) P E {s with heap:=((s.heap.update a (Obj.mapSeq λ_=>(#[]:Array Value))).push (seqObj "tuple" us.toArray 0)).push (seqObj "list" #[] 0)};generalize ((s.heap.update a (Obj.mapSeq λ_=>(#[]:Array Value))).push (seqObj "tuple" us.toArray 0)).objs.size=kS at Lk gk lq Gp ⊢;generalize ((s.heap.update a (Obj.mapSeq λ_=>(#[]:Array Value))).push (seqObj "tuple" us.toArray 0)).push (seqObj "list" #[] 0)=h3 at I3 ga gk ⊢;have I4:Inv X (pins++[(a,seqObj "list" #[] e1),(kS,seqObj "list" (List.toArray []) 0)]) σ H {s with heap:=h3}:=I3.Q4 λp hp=>by
  rcases List.mem_append.mp hp with z|z
  ·exact I3.pin p (nu _ z)
  ·rcases List.mem_cons.mp z with z|z
   ·rw[z];exact⟨ga,hn,La.l,La.f,λv z=>nomatch z⟩
   ·rw[List.mem_singleton.mp z];exact⟨gk,Gp,Lk.l,Lk.f,λv z=>nomatch z⟩
 unfold ksk_rest;refine wpAny_bind (wpAny_rule ?_)
 first
  |rw[List.forIn_toArray]
  |(rw[←Array.forIn_toList];simp only[List.toList_toArray])
  |rw[←Array.forIn_toList]
 refine wpAny_bind (wpAny_mono (Ug (a:=a) (oa:=seqObj "list" #[] e1) Ev rv fq Lk lq SC (λx ks s' R hz hx=>?_) us 0 [] [] 0 H _ ae (by lia) I4 .nil ae k0) (λ_ s' hd=>?_) λ_ _ z=>z)
 ·refine wpAny_bind (wpAny_attempt (wpAny_mono hx (λk bM hk=>?_) λ_ _ hF=>hF.elim));obtain⟨⟨e,ek⟩,hR⟩:=hk
  try dsimp only
  refine wpAny_bind (listUpdate_at ek ae ?_ (by rw[nQ,sizeLine_eq];lia) (Nat.le_trans (Nat.le_of_eq (Array.size_push ..)) (by rw[nQ,sizeLine_eq];lia)));exact wpAny_pure ⟨ae,hR⟩
 ·obtain⟨kv,ks,e,H',I',rk,bI,ok⟩:=hd;have pk:=I'.pin (kS,seqObj "list" (List.toArray ks) e) (nu _ (nu _ (by simp)));have pa:=I'.pin (a,seqObj "list" #[] e1) (nu _ (nu _ (by simp)))
  try dsimp only
  refine wpAny_bind (listItems_at pk.1 ae ?_);obtain⟨lt,ord,asks,done⟩:=fin kv H' bI ok;exact w4 rv fq rk bI La Lk lq I' ord (asks _ _ ks I' rk) λps bM Id J=>done ps bM Id J pa.2.1
theorem Ys{prog:Program}{w:World}{A:Around}{l:Addr}{vs:List Value}{Q:List Value->Shared->Prop}{o:Obj}{n:Nat}(ho:s.heap.get? l=some o)(hc:o.cls=.type "tuple")(hd:o.data=.seq vs.toArray n)
  (h:Q vs {s with heap:=(s.heap.push (seqObj "list" #[] 0)).update s.heap.objs.size (Obj.mapSeq (· ++vs.toArray))}) (hsz:vs.length<=sizeLine:=by size_fits):
  wpAny (model prog w) A (collect (.ref l)) Q E s:=by
 unfold collect;refine wpAny_bind (wpAny_runValue (codeAny_builtin entry_proto_collect' ?_));show wpAny _ _ (do again (.builtin "list.__iadd__" ⟨[←newList [],.ref l],[]⟩)) _ _ s;refine wpAny_bind (wpAny_newList (wpAny_pure ⟨Code.quiet_builtin _ (by decide+kernel),codeAny_builtin entry_list_iadd' ?_⟩));show wpAny _ _ (Builtin.List.listExtendWith (.ref s.heap.objs.size) (.ref l) (.ref s.heap.objs.size)) _ _ {s with heap:=s.heap.push (seqObj "list" #[] 0)};unfold Builtin.List.listExtendWith;have fC:(s.heap.push (seqObj "list" #[] 0)).get? l=some o:=Heap.get?_push_of_some _ ho;refine wpAny_bind (wpAny_typeOf (T:="tuple") ⟨o,fC,hc⟩ ?_);have ht:(Value.type "tuple"==Value.type "tuple")=true:=by rfl
 rw[if_pos (by rw[ht];simp)];refine wpAny_bind (listItems_at fC hd ?_);refine wpAny_bind (listItems_at (xs:= #[]) (n:=0) (Heap.get?_push_size _ ae) ae ?_);rw[if_neg (by simp)];refine wpAny_bind (listUpdate_at (xs:= #[]) (n:=0) (Heap.get?_push_size _ ae) ae ?_ (nR _) (by show(#[]++vs.toArray).size<=sizeLine+1;simp only[Array.size_append,nQ,List.length_nil];lia));refine wpAny_pure ?_;show wpAny (model prog w) A (do
   let o←load s.heap.objs.size
   match o.data with
   | .seq xs _=>pure xs.toList
   |_=>unsupported "internal:collect") Q E {s with heap:=(s.heap.push (seqObj "list" #[] 0)).update s.heap.objs.size (Obj.mapSeq (· ++vs.toArray))}
 refine wpAny_bind (wpAny_load (get?_update_seq (Heap.get?_push_size _ ae) _) ?_);show wpAny _ _ (pure ((#[]:Array Value)++vs.toArray).toList) Q E _;rw[show((#[]:Array Value)++vs.toArray).toList=vs by simp];exact wpAny_pure h
noncomputable def C7(K:Frag)(H:Hp)(l:Addr)(vs:List V):Prop:=aN K H l vs\/aJ K H l vs
theorem U1{A:Around}{l q:Addr}{Q:VK}(Ev:Nat->List V->Hp->Prop)(I:Inv X pins σ H s)(hl:C7 X.K H l vs)(fq:vs.length<64)(k0:Ev 0 [] H)
  (SC:∀(i:Nat)(kv:List V)(pl:List (Addr × Obj))(H:Hp)(s:Shared)(v:V)(u:Value),Inv X (pins++pl) σ H s->vs[i]? =some v->RelV v u->Ev i kv H->kv.length=i->wpAny (model X.prog X.w) A.in1.in1 (call (.ref q) [u]) (EP X (pins++pl) σ λk H'=>Ev (i+1) (kv++[k]) H') (λ_ _=>False) s)
  (fin:∀kv H',kv.length=vs.length->Ev vs.length kv H'->∃lt,(2<=vs.length->aI.Ord lt)/\(∀pl s' ks,Inv X (pins++pl) σ H' s'->Vals kv ks->2<=vs.length->yA X A.in1.in1 s' ks lt)/\
   ∀ps,QB vs.length lt ps->∀p,H' p=none->Q (.ref p) (upd H' p (.lst (ps.map λi=>vs.getD i .ah)))):
  wpAny (model X.prog X.w) A (call (.builtin "sorted") [.ref l] [(Str.ofString "key",.ref q)]) (EP X pins σ Q) E s:=by
 have oY:∃us,Vals vs us/\∀(A':Around)(E':Value->Shared->Prop)(Q':List Value->Shared->Prop),Q' us {s with heap:=(s.heap.push (seqObj "list" #[] 0)).update s.heap.objs.size (Obj.mapSeq (· ++us.toArray))}->wpAny (model X.prog X.w) A' (collect (.ref l)) Q' E' s:=by
  rcases hl with hl|hl
  ·obtain⟨us,rv,⟨o,e,c,n,d⟩,_⟩:=I.tuple hl;have:=rv.length;exact⟨us,rv,λA' E' Q' hq=>Ys e c d hq (by rw[sizeLine_eq];lia)⟩
  ·obtain⟨us,rv,pl,_⟩:=I.list hl;have:=rv.length;exact⟨us,rv,λA' E' Q' hq=>collect_list pl.isList hq (by rw[sizeLine_eq];lia)⟩
 obtain⟨us,rv,oY⟩:=oY;have iG:=rv.length;refine call_function_entry_kw kind_sorted plain_sorted entry_sorted (ksk_s1 _ _) ?_;unfold Builtin.«sorted»;refine wpAny_bind (m:=checkCount "sorted" 1 1 _) (wpAny_pure ?_);refine wpAny_bind (oY _ _ _ ?_);refine wpAny_bind (wpAny_newList ?_ (by rw[sizeLine_eq];lia));have hsz:((s.heap.push (seqObj "list" #[] 0)).update s.heap.objs.size (Obj.mapSeq (· ++us.toArray))).objs.size=s.heap.objs.size+1:=by
  rw[Heap.size_update,Heap.size_push]
 have lO:(((s.heap.push (seqObj "list" #[] 0)).update s.heap.objs.size (Obj.mapSeq (· ++us.toArray))).push (seqObj "list" us.toArray 0)).get? (s.heap.objs.size+1)=some (seqObj "list" us.toArray 0):=by
  rw[←hsz];exact Heap.get?_push_size _ rfl
 have keep:∀b o,s.heap.get? b=some o->(((s.heap.push (seqObj "list" #[] 0)).update s.heap.objs.size (Obj.mapSeq (· ++us.toArray))).push (seqObj "list" us.toArray 0)).get? b=some o:=λb o q=>by
  have bi:b<s.heap.objs.size:=Heap.lt_size q;rw[Heap.get?_push_ne _ _ _ (by rw[hsz];exact Nat.ne_of_lt (Nat.lt_succ_of_lt bi)),Heap.get?_update_ne _ _ _ _ (Nat.ne_of_lt bi),Heap.get?_push_ne _ _ _ (Nat.ne_of_lt bi)];exact q
 have I1:Inv X pins σ H {s with heap:=((s.heap.push (seqObj "list" #[] 0)).update s.heap.objs.size (Obj.mapSeq (· ++us.toArray))).push (seqObj "list" us.toArray 0)}:=I.kept (t':=s.toks) keep;show wpAny _ _ _ _ _ {s with heap:=((s.heap.push (seqObj "list" #[] 0)).update s.heap.objs.size (Obj.mapSeq (· ++us.toArray))).push (seqObj "list" us.toArray 0)};rw[hsz];have La:Lo X pins (s.heap.objs.size+1):=Lo.new I (Nat.le_succ _);refine wpAny_bind (wpAny_holding (wpAny_call_entry_kw slot_list_sort ⟨_,lO,ae⟩ entry_list_sort ?_ (ksk_l1 _ _)));show wpAny (model X.prog X.w) A.in1.in1 (Builtin.«list.sort» ⟨[.ref (s.heap.objs.size+1)],[(Str.ofString "key",.ref q)]⟩) _ _ _;rw[ksk_t1];refine jW Ev I1 lO La (I.aj.fresh (Nat.le_succ _)) rv fq k0 SC λkv H' bI ok=>?_;obtain⟨lt,ord,asks,done⟩:=fin kv H' bI ok;exact⟨lt,ord,asks,λps s' Id J hn=>⟨_,ae,wpAny_pure ⟨_,ae,.ref (s.heap.objs.size+1),_,J,ae,done ps Id _ hn⟩⟩⟩
end
theorem Uh{cells:List (Str × Addr)}{x:Str}{c:Addr}:∀(names:List (Str × NameKind))(acc:List (Str × Addr)),(Qw cells names acc).lookup x=some c->acc.lookup x=some c\/(x,NameKind.free)∈names
 |[],_,e=>.inl e
 |(n,k)::r,acc,e=>by
  unfold Qw at e;rcases Uh r _ e with z|z
  ·split at z
   ·rename_i hk;rw[List.lookup_cons]at z
    split at z
    ·rename_i hx;rw[eq_of_beq hx,eq_of_beq hk];exact .inr nA
    ·exact .inl z
   ·exact .inl z
  ·exact .inr (nz _ z)
noncomputable def w6(X:Cx)(SL:Hp->List V->(Nat->Nat->Bool)->Prop):Prop:=
 ∀(pins:List (Addr × Obj))(σ:St)(H:Hp)(s:Shared)(A:Around)(kv:List V)(ks:List Value)(lt:Nat->Nat->Bool),Inv X pins σ H s->A.units+64<cLine->Vals kv ks->2<=kv.length->SL H kv lt->yA X A s ks lt
noncomputable def Mz(K:Frag)(P:Addr)(q:Str)(fi:List Nat)(SL:Hp->List V->(Nat->Nat->Bool)->Prop)(ti tl:TE):TE:=λσ H Q=>ti σ H λx H0=>∃(l:Addr)(vs fv:List V),x=.ref l/\C7 K H0 l vs/\vs.length<64/\fi.map (λi=>σ[i]?)=fv.map (λv=>some (some v))/\Jx H0 P q/\
 ∀(c':Addr)(H1:Hp),H1 c'=some (Km c' q)->Jx H1 P q->(∀b o,H0 b=some o->b≠P->H1 b=some o)->
  ∃Ev:Nat->List V->Hp->Prop,Ev 0 [] H1/\(∀i kv H2 v,vs[i]? =some v->kv.length=i->Ev i kv H2->H2 c'=some (Km c' q)/\tl (some v::fv.map some) H2 λk H3=>Ev (i+1) (kv++[k]) H3)/\
   ∀kv H2,kv.length=vs.length->Ev vs.length kv H2->∃lt,(2<=vs.length->aI.Ord lt)/\(2<=vs.length->SL H2 kv lt)/\∀ps,QB vs.length lt ps->∀p,H2 p=none->Q (.ref p) (upd H2 p (.lst (ps.map λi=>vs.getD i .ah)))
section
variable {X:Cx}
theorem Ui{k:Nat}{e:Expr}{x:Str}{own:Bool}{FR:List Str}{fi:List Nat}{q:Str}{params:Arguments}{body:Expr}{scope:Scope}{c P:Addr}{ti tl:TE}{p tQ oZ ce:Pos}{SL:Hp->List V->(Nat->Nat->Bool)->Prop}(C8:w6 X SL)(hr:JC (k+3) X.A)
  (hg:Gl X "sorted") (hm:X.mg "sorted"=none) (hi:PE X e ti) (L:bj X.mg X.base c P) (c8:X.env.code=.ref c) (hq:q=X.env.qual++"<lambda>") (lY:defaultsOf params X.env=([],[]))
  (sk:scope.kind=.function) (MA:scope.isCoroutine=false) (C9:scope.isGenerator=false) (P1:oX x scope own) (MB:(x,NameKind.free)∉scope.names) (ge:YU scope X.env.scope=true) (MC:∀y∈FR,scope.names.lookup y=some .free) (cN:fi.map (λi=>X.N[i]?)=FR.map some)
  (ck:∀cl pm c' cJ u,bindArgs (kla_fn "<lambda>" q params body scope cl pm (.ref c') cJ) ⟨[u],[]⟩=pure [(x,u)])
  (mo:∀(A:Around)(s:Shared)(H:Hp)(f c':Addr)(cl:List (Str × Addr)),JC k (A.deeper (envX q scope s.heap.objs.size f (.ref c') (Jw own x s.heap.objs.size cl)))->PE (wm X.prog X.w X.K X.mg X.base (x::FR) q scope f c' (Jw own x s.heap.objs.size cl) A X.stack s H u5).dG body tl)
  (he:backTo ce (starEach [e] X.env)=(false,eval e X.env)::backTo ce (starEach [] X.env):=by rfl):PE X (.Call (.Name "sorted" p) [e] [⟨some "key",.Lambda params body scope tQ,oZ⟩] ce) (Mz X.K P q fi SL ti tl):=by
 intro pins s σ H Q I h;refine wpAny_Call_Name_kw (JL I hg hm boot_sorted ?_);refine callWith_kw ?_ he (by rw[he];rfl);rw[he];show wpAny _ _ (spliced ((false,eval e X.env)::[])) _ _ s;refine Calls.spliced_cons (ax (hi pins s σ H _ I h) λu s1⟨xv,H0,I0,r0,h0⟩=>Calls.spliced_nil ?_);obtain⟨l,vs,fv,rfl,hl,fq,Re,hT,h⟩:=h0;cases r0;show wpAny _ _ (evalAll [do let v←eval (.Lambda params body scope tQ) X.env;standAt ce;pure v]) _ _ s1;have cx:∀y∈scope.names,y.2=.free->X.env.scope.names.lookup y.1=some .cell:=XU ge;have GE:∀y∈scope.names,y.2=.free->∃c,X.env.cells.lookup y.1=some c:=λy hy e=>I0.ok.has y.1 (.inl (cx y hy e));have cs:∀y d,(Qw X.env.cells scope.names []).lookup y=some d->X.env.cells.lookup y=some d:=λy d e=>J4 scope.names [] GE (λz=>nomatch z) e;refine wpAny_evalAll_cons (wpAny_bind (zZ I0 L c8 hq lY (Jb GE) hT λf c' pm cJ H1 s2 I2 ob un fr code T1 keep kp=>wpAny_bind (wpAny_standAt (wpAny_pure (wpAny_evalAll_nil ?_)))));show wpAny _ _ (call (.builtin "sorted") [.ref l] [(Str.ofString "key",.ref f)]) _ _ s2;have MD:∀{xs:List V},aN X.K H0 l xs->aN X.K H1 l xs:=λ{xs} z=>by
  have nP:∀o,H0 l=some o->(∀ps,o≠ .br ps)->l≠P:=λo e n z=>by
   obtain⟨ps,h1,_⟩:=hT;rw[z,h1]at e;cases e;exact n _ rfl
  rcases z with(z|⟨o,z⟩)|z
  ·exact .inl (.inl (keep l _ z (nP _ z λps w=>nomatch w)))
  ·exact .inl (.inr ⟨o,keep l _ z (nP _ z λps w=>nomatch w)⟩)
  ·exact .inr z
 have De:∀{xs:List V},aJ X.K H0 l xs->aJ X.K H1 l xs:=λ{xs} z=>by
  have nP:∀o,H0 l=some o->(∀ps,o≠ .br ps)->l≠P:=λo e n z=>by
   obtain⟨ps,h1,_⟩:=hT;rw[z,h1]at e;cases e;exact n _ rfl
  rcases z with(z|⟨o,z⟩)|z
  ·exact .inl (.inl (keep l _ z (nP _ z λps w=>nomatch w)))
  ·exact .inl (.inr ⟨o,keep l _ z (nP _ z λps w=>nomatch w)⟩)
  ·exact .inr z
 have bO:C7 X.K H1 l vs:=hl.elim (λz=>.inl (MD z)) λz=>.inr (De z);obtain⟨Ev,k0,hk,fin⟩:=h c' H1 code T1 keep;have Lf:Lo X pins f:=Lo.new I0 fr;have Ip:Inv X (pins++[(f,kla_obj "<lambda>" q params body scope (Qw X.env.cells scope.names []) pm c' cJ)]) σ H1 s2:=I2.Q4 λp hp=>by
  rcases List.mem_append.mp hp with z|z
  ·exact I2.pin p (nu _ z)
  ·rw[List.mem_singleton.mp z];exact⟨ob,un,Lf.l,Lf.f,λv z=>nomatch z⟩
 refine ax (U1 (A:=X.A) (q:=f) (Q:=Q) Ev Ip bO fq k0 (λi kv pl H3 s3 v u I3 hv rv ok bI=>?_) λkv H3 bI ok=>?_) λu s'⟨v,H',J,r,hq⟩=>⟨v,H',J.QL,r,hq⟩
 ·obtain⟨Gq,ME⟩:=hk i kv H3 v hv bI ok;have pf:=I3.pin (f,kla_obj "<lambda>" q params body scope (Qw X.env.cells scope.names []) pm c' cJ) (nu _ (ny _ (nu _ (by simp))));have hlen:fv.length=FR.length:=by
   have h1:=congrArg List.length Re;have h2:=congrArg List.length cN;simp only[m7]at h1 h2;lia
  have cO:∀(k:Nat)(v:V)(y:Str),fv[k]? =some v->FR[k]? =some y->∃i,X.N[i]? =some y/\σ[i]? =some (some v):=λk v y h1 h2=>by
   have a1:=congrArg (λl=>l[k]?) Re;have a2:=congrArg (λl=>l[k]?) cN;simp only[nE,h1,h2]at a1 a2;cases e:fi[k]? with
   |none=>rw[e]at a1;cases a1
   |some i=>
    rw[e]at a1 a2;exact⟨i,nh a2,nh a1⟩
  have C:cj x FR fv scope (Qw X.env.cells scope.names []) H3 s3.heap:=by
   refine⟨λy z d e1 e2=>I3.ok.inj y z d (cs y d e1) (cs z d e2),λy hy=>Jy scope.names [] (.inr (PySem.mem_of_lookup hy)),?_,λy d e=>⟨I3.aG y d (cs y d e),I3.cell y d (cs y d e)⟩,hlen,λj y w e1 e2=>?_⟩
   ·cases e:(Qw X.env.cells scope.names []).lookup x with
    |none=>rfl
    |some d=>
     rcases Uh _ _ e with z|z
     ·cases z
     ·exact absurd z MB
   ·have e3:=MC y (nF e1);refine⟨e3,?_⟩;have hy:X.env.scope.names.lookup y=some .cell:=cx _ (PySem.mem_of_lookup e3) rfl;obtain⟨io,hN,hσ⟩:=cO j w y e2 e1;obtain⟨m,_,hl⟩:=I3.loc;obtain⟨u',r,MF⟩:=hl io y w hN hσ (.inr (.inl hy));rcases MF with⟨kk,_⟩|⟨_,d',dE,hc⟩
    ·have z:X.env.scope.names.lookup y=some .local:=kk;rw[hy]at z;cases z
    ·obtain⟨d2,hd2⟩:=Jy (cells:=X.env.cells) scope.names [] (.inr (PySem.mem_of_lookup e3));have:=cs y d2 hd2;rw[dE]at this;cases this;exact⟨u',d',r,hd2,hc⟩
  exact jV (k:=k) (A:=X.A.in1.in1) I3 I3.ok.frames (hr.in1.in1) pf.1 Gq sk MA C9 (ck _ _ _ _ _) P1 C rv (λbf=>mo _ _ _ _ _ _ bf) ME
 ·obtain⟨lt,ord,asked,done⟩:=fin kv H3 bI ok;refine⟨lt,ord,λpl s' ks J rk h2=>C8 _ _ _ _ _ kv ks lt J ?_ rk (by lia) (asked h2),done⟩;have:=hr.un;show X.A.units+1+1+64<cLine;lia
end
noncomputable def MG(H:Hp)(kv:List V)(lt:Nat->Nat->Bool):Prop:=∃D:Nat->List Dv,(∀i v,kv[i]? =some v->∃l xs,v=.ref l/\H l=some (.lst xs)/\af H xs (D i)/\Dv.Qs (D i)<=8)/\
 (∀i j,i<kv.length->j<kv.length->(D i).length=(D j).length/\Dv.Vn (D i) (D j))/\∀i j,lt i j=Dv.Wj (D i) (D j)
noncomputable def Av(H:Hp)(kv:List V)(lt:Nat->Nat->Bool):Prop:=∃D:Nat->List Dv,(∀i v,kv[i]? =some v->∃l xs,v=.ref l/\H l=some (.tup xs)/\af H xs (D i)/\Dv.Qs (D i)<=8/\∃l0 ys,xs[0]? =some (.ref l0)/\H l0=some (.tup ys))/\
 (∀i j,i<kv.length->j<kv.length->Dv.Vn (D i) (D j))/\∀i j,lt i j=Dv.Wj (D i) (D j)
section
variable {X:Cx}
theorem ZS{kv:List V}{ks:List Value}(r:Vals kv ks){i:Nat}(h:i<ks.length):∃v,kv[i]? =some v/\RelV v (ks.getD i Value.none):=by
 have e:ks[i]? =some (ks.getD i Value.none):=by simp[List.getD,List.getElem?_eq_getElem h]
 exact Q7 r e
theorem MH:w6 X MG:=by
 intro pins σ H s A kv ks lt I hu r h2 ⟨D,hD,hC,bi⟩;have hl:=r.length;refine⟨oneType',λQ E h=>kas_kind (T:=.type "list") (by lia) (λv hv=>?_) (by decide) (by decide) h,λi j C hi hj h=>?_⟩
 ·obtain⟨i,hi,rfl⟩:=List.mem_iff_getElem.mp hv;obtain⟨x,hx,rx⟩:=Q7 r (List.getElem?_eq_getElem hi);obtain⟨l,xs,rfl,hH,_⟩:=hD i x hx;obtain⟨z,ad,n,_,e⟩:=I.aj l _ hH;rw[show ks[i]=Value.ref l from rx];exact(Looks.ld e).andThen .now
 ·obtain⟨x,hx,rx⟩:=ZS r hi;obtain⟨y,hy,ry⟩:=ZS r hj;obtain⟨l,xs,rfl,hH,t1,d1⟩:=hD i x hx;obtain⟨l2,ys,rfl,Dg,t2,d2⟩:=hD j y hy;rw[show ks.getD i Value.none=Value.ref l from rx,show ks.getD j Value.none=Value.ref l2 from ry];obtain⟨c1,c2⟩:=hC i j (by lia) (by lia);rw[bi]at h;exact jM I (n:=8) hH t1 Dg t2 d1 c1 c2 (by lia) h
theorem jX{h:Heap}:∀(ks:List Value),(∀k∈ks,∃a o xs n f b ob,k=Value.ref a/\h.get? a=some o/\o.cls=.type "tuple"/\o.data=.seq xs n/\xs[0]? =some f/\f=Value.ref b/\h.get? b=some ob/\ob.cls=.type "tuple")->
  ∃fs,KatTups h ks fs/\fs.length=ks.length/\∀f∈fs,∃b ob,f=Value.ref b/\h.get? b=some ob/\ob.cls=.type "tuple"
 |[],_=>⟨[],trivial,ae,λf hf=>nomatch hf⟩
 |k::ks,hk=>by
  obtain⟨fs,t,l,hf⟩:=jX ks λk' h'=>hk k' (nz _ h');obtain⟨a,o,xs,n,f,b,ob,rfl,e1,e2,e3,e4,e5,e6,e7⟩:=hk k nA;refine⟨f::fs,KatTups.cons e1 e2 e3 e4 t,by simp[l],λg hg=>?_⟩;rcases List.mem_cons.mp hg with rfl|hg
  ·exact⟨b,ob,e5,e6,e7⟩
  ·exact hf g hg
theorem Gr:w6 X Av:=by
 intro pins σ H s A kv ks lt I hu r h2 ⟨D,hD,hC,bi⟩;have hl:=r.length;obtain⟨fs,t,tT,hf⟩:=jX (h:=s.heap) ks λk hk=>by
  obtain⟨i,hi,rfl⟩:=List.mem_iff_getElem.mp hk;obtain⟨x,hx,rx⟩:=Q7 r (List.getElem?_eq_getElem hi);obtain⟨l,xs,rfl,hH,_,_,l0,ys,h0,MI⟩:=hD i x hx;obtain⟨ad,rv,⟨o,e,c,n,d⟩,_⟩:=I.tuple (.inl (.inl hH));obtain⟨MJ,rv0,⟨o0,e0,c0,n0,d0⟩,_⟩:=I.tuple (.inl (.inl MI));obtain⟨u,eu,ru⟩:=rv.get h0;exact⟨l,o,ad.toArray,n,u,l0,o0,rx,e,c,d,by simpa using eu,ru,e0,c0⟩
 refine⟨tuples' false,λQ E h=>kat_kind (T:=.type "tuple") t (by lia) (λv hv=>?_) (by decide) h,λi j C hi hj h=>?_⟩
 ·obtain⟨b,ob,rfl,e,c⟩:=hf v hv;rw[←c];exact(Looks.ld e).andThen .now
 ·obtain⟨x,hx,rx⟩:=ZS r hi;obtain⟨y,hy,ry⟩:=ZS r hj;obtain⟨l,xs,rfl,hH,t1,d1,_⟩:=hD i x hx;obtain⟨l2,ys,rfl,Dg,t2,d2,_⟩:=hD j y hy;rw[show ks.getD i Value.none=Value.ref l from rx,show ks.getD j Value.none=Value.ref l2 from ry];rw[bi]at h;exact U0 I (n:=8) hH t1 Dg t2 d1 (hC i j (by lia) (by lia)) (by lia) h
end
end L2
namespace Lw
open PySem PySem.Spec PyProof.Rows L2 dZ
open Builtin Builtin.Str StrLaws
theorem kN(a b:Rk):a.dv.aC b.dv=decide (a=b):=by
 cases a<;>cases b<;>simp[Rk.dv,Dv.aC,Dv.VI]
 all_goals exact Bool.eq_iff_iff.mpr (by simp)
theorem yB(a b:Rk):a.dv.aO b.dv=a.aO b:=by
 cases a<;>cases b<;>simp[Rk.dv,Rk.aO,Dv.aO,Dv.Wj,Dv.aC,Dv.VI,List.lt_irrefl]
 all_goals first|(intro h z;lia)|(intro h z;rw[z]at h;exact absurd h (Array.lt_irrefl _))
theorem Wt:∀a b:List Rk,Dv.Wj (a.map Rk.dv) (b.map Rk.dv)=aV a b
 |[],[]=>rfl
 |[],_::_=>rfl
 |_::_,[]=>rfl
 |x::xs,y::ys=>by
  rw[nM,nM,Dv.Wj,kN,yB,Wt xs ys,aV]
  by_cases e:x=y
  ·rw[if_pos e,if_pos (by simpa using e)]
  ·rw[if_neg e,if_neg (by simpa using e)]
theorem Yt:∀a b:List Rk,Dv.VI (a.map Rk.dv) (b.map Rk.dv)=decide (a=b)
 |[],[]=>rfl
 |[],_::_=>rfl
 |_::_,[]=>rfl
 |x::xs,y::ys=>by
  rw[nM,nM,Dv.VI,kN,Yt xs ys, ←Bool.decide_and];simp
theorem yC(a b:Rk):a.dv.cE b.dv:=by
 cases a<;>cases b<;>simp[Rk.dv,Dv.cE,Dv.Vn]
theorem Wu:∀a b:List Rk,Dv.Vn (a.map Rk.dv) (b.map Rk.dv)
 |[],[]=>by simp[Dv.Vn]
 |[],_::_=>by simp[Dv.Vn]
 |_::_,[]=>by simp[Dv.Vn]
 |x::xs,y::ys=>by
  have h1:=yC x y;have h2:=Wu xs ys;simp[Dv.Vn,h1,h2]
theorem Uj(a:List Rk):Dv.Qs (a.map Rk.dv)<=8:=by
 induction a with
 |nil=>simp[Dv.Qs]
 |cons x xs ih=>
  have:x.dv.depth<=8:=by cases x<;>simp[Rk.dv,Dv.depth,Dv.Qs]
  rw[nM,Dv.Qs];lia
noncomputable def Yu(f:Nat->List Rk)(i j:Nat):Bool:=aV (f i) (f j)
theorem jY{a b c:List Rk}(h:aV b a=false)(g:aV c b=false):aV c a=false:=by
 cases e:aV c a with
 |false=>rfl
 |true=>
  cases e1:aV a b with
  |true=>rw[Ub e e1]at g;cases g
  |false=>
   obtain rfl:=Z9 e1 h;rw[e]at g;cases g
theorem Uk(f:Nat->List Rk):aI.Ord (Yu f):=
 ⟨λa b h=>(by
  cases e:Yu f b a with
  |false=>rfl
  |true=>
   have:=Ub (show aV (f a) (f b)=true from h) (show aV (f b) (f a)=true from e);rw[Wm]at this;cases this),λa b c h g=>jY h g⟩
noncomputable def Yv(f:Nat->List Rk)(i j:Nat):Bool:=Dv.Wj [.tup ((f i).map Rk.dv),.int i] [.tup ((f j).map Rk.dv),.int j]
theorem Wv(f:Nat->List Rk)(i j:Nat):Yv f i j=if f i=f j then decide (i<j)else aV (f i) (f j):=by
 unfold Yv;rw[Dv.Wj,Dv.aC,Dv.aO,Yt,Wt]
 by_cases e:f i=f j
 ·rw[if_pos (by simpa using e),if_pos e,Dv.Wj,Dv.aO,Dv.aC,Dv.Wj]
  by_cases z:(i:Int)=j
  ·have:i=j:=by lia
   subst this;simp
  ·simp[z]
 ·rw[if_neg (by simpa using e),if_neg e]
theorem MK{f:Nat->List Rk}{a b:Nat}(h:aI.S (Yv f) a b):aI.S (Yu f) a b:=by
 obtain⟨h1,h2⟩:=h;rw[Wv]at h1 h2
 by_cases e:f a=f b
 ·rw[if_pos e.symm]at h1;rw[if_pos e]at h2;have h1:=of_decide_eq_false h1;refine⟨by unfold Yu;rw[e,Wm],λ_=>?_⟩;rcases Nat.lt_or_ge a b with z|z
  ·exact z
  ·exact h2 (m8 (by lia))
 ·rw[if_neg (Ne.symm e)]at h1;exact⟨h1,λz=>absurd (Z9 z h1) e⟩
theorem w8{f:Nat->List Rk}{n:Nat}{ps qs:List Nat}(h:QB n (Yu f) ps)(g:QB n (Yv f) qs):ps=qs:=
 aI.xO (Uk f) (h.1.trans g.1.symm) h.2 (g.2.imp MK)
theorem vc(f:Nat->List Rk):aI.Ord (Yv f):=by
 refine⟨λa b h=>?_,λa b c h g=>?_⟩
 ·rw[Wv]at h ⊢
  by_cases e:f a=f b
  ·rw[if_pos e]at h;rw[if_pos e.symm];have:=of_decide_eq_true h;exact m8 (by lia)
  ·rw[if_neg e]at h;rw[if_neg (Ne.symm e)];exact(Uk f).fm a b h
 ·rw[Wv]at h g ⊢
  by_cases e1:f b=f a
  ·rw[if_pos e1]at h;have h:=of_decide_eq_false h
   by_cases e2:f c=f b
   ·rw[if_pos e2]at g;have g:=of_decide_eq_false g;rw[if_pos (e2.trans e1)];exact m8 (by lia)
   ·rw[if_neg e2]at g;rw[←e1,if_neg e2];exact g
  ·rw[if_neg e1]at h
   by_cases e2:f c=f b
   ·rw[e2,if_neg e1];exact h
   ·rw[if_neg e2]at g;have:=jY h g
    by_cases e3:f c=f a
    ·rw[if_pos e3];rw[e3]at g;exact absurd (Z9 g h) (Ne.symm e1)
    ·rw[if_neg e3];exact this
theorem Kb{α:Type}{d:α}{xs:List α}{ps:List Nat}(h:ps.Perm (List.range xs.length)):(ps.map λi=>xs.getD i d).Perm xs:=by
 have e:(List.range xs.length).map (λi=>xs.getD i d)=xs:=by
  refine List.ext_getElem? λi=>?_;rw[nE];rcases Nat.lt_or_ge i xs.length with z|z
  ·rw[List.getElem?_range z];show some (xs.getD i d)=_;rw[List.getD_eq_getElem?_getD,List.getElem?_eq_getElem z];rfl
  ·rw[List.getElem?_eq_none (by rw[List.length_range];exact z),List.getElem?_eq_none z];rfl
 have:=h.map (λi=>xs.getD i d);rw[e]at this;exact this
theorem Ul{π:Plan}{rows:List (List Cell)}{ps:List Nat}(h:QB rows.length (Yu λi=>aK 9 π (rows.getD i [])) ps) (k:Nat):(ps.map λi=>rows.getD i []).Pairwise λr r'=>¬ cF (kind π k r') (kind π k r):=by
 refine List.pairwise_map.mpr (h.2.imp λ{a b} s=>?_);have e:=Uc (k+1) s.1 (by show(aK 9 π _).length=(aK 9 π _).length;unfold aK;rw[m7,m7]);intro z;unfold cF kind at z;rw[e]at z;cases z
theorem Zq{π:Plan}(Z:ao π){k:Nat}(hk:k<π.keys.length):∀(rows:List (List Cell))(p:Option (List Cell))(s:List (Int × Int))(t:Int),(∀r∈rows,aq π r)->(∀r,p=some r->aq π r)->
  (aM π k rows p s).map (λe=>kind π k e.1)=(aI.gr (kind π k) (λ_=>0) rows (p.map (kind π k)) t).map (·.1)
 |[],none,s,t,_,_=>rfl
 |[],some p,s,t,_,_=>rfl
 |r::rs,none,s,t,hY,_=>by
  have Y:=hY r nA;rw[aM,Zq Z hk rs (some r) _ (t+0) (λr' h=>hY r' (nz _ h)) (λr' e=>by cases e;exact Y)];rfl
 |r::rs,some p,s,t,hY,hP=>by
  have Y:=hY r nA;have YP:=hP p rfl;have lh:=λr' h=>hY r' (nz _ h);have hu:=X8 Z hk YP Y;rw[aM];show _=(aI.gr (kind π k) (λ_=>0) (r::rs) (some (kind π k p)) t).map (·.1);rw[aI.gr]
  by_cases z:unlike (aA π) p r<=k
  ·rw[if_pos z,if_neg (hu.mp z),nM,Zq Z hk rs (some r) _ (0+0) lh (λr' e=>by cases e;exact Y)];rfl
  ·have ek:kind π k r=kind π k p:=Classical.byContradiction λy=>z (hu.mpr y);rw[if_neg z,if_pos ek,Zq Z hk rs (some r) _ (t+0) lh (λr' e=>by cases e;exact Y), ←ek];rfl
theorem xP{π:Plan}(Z:ao π){k:Nat}(hk:k<π.keys.length){rows:List (List Cell)}(hY:∀r∈rows,aq π r) (hs:rows.Pairwise λr r'=>¬ cF (kind π k r') (kind π k r)):
  ((aM π k rows none (zeros π)).map λe=>kind π k e.1).Pairwise cF/\∀x,x∈((aM π k rows none (zeros π)).map λe=>kind π k e.1)↔x∈rows.map (kind π k):=by
 rw[Zq Z hk rows none _ 0 hY (λr e=>nomatch e)];obtain⟨h1,h2,_⟩:=aI.wV (kind π k) (λ_=>0) xK rows hs;refine⟨List.pairwise_map.mpr h1,λx=>?_⟩;rw[List.mem_map,List.mem_map];exact h2 x
theorem U2{π:Plan}(Z:ao π){k:Nat}(hk:k<π.keys.length){a b:List (List Cell)}(hp:a.Perm b)(hY:∀r∈a,aq π r) (ha:a.Pairwise λr r'=>¬ cF (kind π k r') (kind π k r)) (hb:b.Pairwise λr r'=>¬ cF (kind π k r') (kind π k r)):
  ((aM π k a none (zeros π)).map λe=>kind π k e.1)=(aM π k b none (zeros π)).map λe=>kind π k e.1:=by
 rw[Zq Z hk a none _ 0 hY (λr e=>nomatch e),Zq Z hk b none _ 0 (λr h=>hY r (hp.mem_iff.mpr h)) (λr e=>nomatch e)];show(aI.gr (kind π k) (λ_=>0) a none 0).map (·.1)=(aI.gr (kind π k) (λ_=>0) b none 0).map (·.1);rw[aI.jJ (kind π k) (λ_=>0) xK hp ha hb]
theorem jZ{π:Plan}(Z:ao π){k j:Nat}(hk:k<π.keys.length)(hj:j<π.sums.length){a b:List (List Cell)}(hp:a.Perm b)(hY:∀r∈a,aq π r) (ha:a.Pairwise λr r'=>¬ cF (kind π k r') (kind π k r)) (hb:b.Pairwise λr r'=>¬ cF (kind π k r') (kind π k r)):
  ((aM π k a none (zeros π)).map λe=>val j e.2)=(aM π k b none (zeros π)).map λe=>val j e.2:=by
 have e1:=KK Z hk hj a none (zeros π) 0 hY (λr e=>nomatch e) (QA π) (QN π);have e2:=KK Z hk hj b none (zeros π) 0 (λr h=>hY r (hp.mem_iff.mpr h)) (λr e=>nomatch e) (QA π) (QN π);rw[Zj]at e1 e2;have e3:(aM π k a none (zeros π)).map (λe=>(kind π k e.1,val j e.2))=(aM π k b none (zeros π)).map (λe=>(kind π k e.1,val j e.2)):=by
  rw[e1,e2];exact aI.jJ (kind π k) (give π j) xK hp ha hb
 have:=congrArg (List.map (·.2)) e3;rw[nK,nK]at this;exact this
noncomputable def whole(π:Plan):List (List Cell × List (Int × Int))->List (Int × Int)->List (Int × Int)
 |[],s=>s
 |e::es,s=>whole π es (List.zipWith KH s e.2)
theorem vd{π:Plan}{s m:List (Int × Int)}{n1 n2:Nat}(h1:s.length=π.sums.length)(h2:m.length=π.sums.length)(o1:∀x∈s,aF n1 x) (o2:∀x∈m,aF n2 x) {j:Nat} (hj:j<π.sums.length):val j (List.zipWith KH s m)=val j s+val j m:=by
 have g1:s[j]? =some (s.getD j (0,0)):=by rw[List.getD_eq_getElem?_getD,List.getElem?_eq_getElem (by lia)];rfl
 have g2:m[j]? =some (m.getD j (0,0)):=by rw[List.getD_eq_getElem?_getD,List.getElem?_eq_getElem (by lia)];rfl
 have g3:(List.zipWith KH s m).getD j (0,0)=KH (s.getD j (0,0)) (m.getD j (0,0)):=by
  rw[List.getD_eq_getElem?_getD,List.getElem?_zipWith,g1,g2];rfl
 unfold val;rw[g3];exact Ue (o1 _ (nF g1)) (o2 _ (nF g2))
theorem kO{s m:List (Int × Int)}{n1 n2:Nat}(o1:∀x∈s,aF n1 x) (o2:∀x∈m,aF n2 x):∀x∈List.zipWith KH s m,aF (n1+n2) x:=λx hx=>by
 obtain⟨a,ha,b,hb,rfl⟩:=Yj hx;exact xM (o1 a ha) (o2 b hb)
noncomputable def Zk(j:Nat):List (List Cell × List (Int × Int))->Int
 |[]=>0
 |e::es=>val j e.2+Zk j es
theorem Vo{π:Plan}{j n:Nat}(hj:j<π.sums.length):∀(es:List (List Cell × List (Int × Int)))(s:List (Int × Int))(m:Nat),s.length=π.sums.length->(∀x∈s,aF m x)->(∀e∈es,e.2.length=π.sums.length/\∀x∈e.2,aF n x)->
  val j (whole π es s)=val j s+Zk j es/\(whole π es s).length=π.sums.length/\∀x∈whole π es s,aF (m+es.length*n) x
 |[],s,m,hl,ho,_=>⟨by rw[whole,Zk,Int.add_zero],hl,λx hx=>by simpa using ho x hx⟩
 |e::es,s,m,hl,ho,he=>by
  obtain⟨e1,e2⟩:=he e nA;obtain⟨h1,h2,h3⟩:=Vo hj es (List.zipWith KH s e.2) (m+n) (by rw[List.length_zipWith];lia) (kO ho e2) (λe' h=>he e' (nz _ h));refine⟨?_,h2,λx hx=>?_⟩
  ·rw[whole,h1,vd hl e1 ho e2 hj,Zk];lia
  ·have:=h3 x hx;rw[nj,Nat.add_mul,Nat.one_mul,show m+(es.length*n+n)=m+n+es.length*n by lia];exact this
theorem Vp{π:Plan}{k j:Nat}:∀es:List (List Cell × List (Int × Int)),Zk j es=aI.sum2 (es.map λe=>(kind π k e.1,val j e.2))
 |[]=>rfl
 |e::es=>by rw[Zk,Vp (π:=π) (k:=k) es];rfl
theorem Vq{π:Plan}(Z:ao π){j:Nat}(hj:j<π.sums.length):∀(rows:List (List Cell))(s:List (Int × Int))(n:Nat),(∀r∈rows,aq π r)->s.length=π.sums.length->(∀x∈s,aF n x)->val j (rows.foldl (λl r=>JZ (Qt π.cols π.sums) r l) s)=val j s+aI.all (give π j) rows
 |[],s,n,_,_,_=>by rw[List.foldl_nil,aI.all,Int.add_zero]
 |r::rs,s,n,hY,hl,ho=>by
  have Y:=hY r nA;rw[List.foldl_cons,Vq Z hj rs _ (n+1) (λr' h=>hY r' (nz _ h)) (JB hl) (JV Z Y ho),aI.all];have:=Wn Z Y hl ho hj;show val j (JZ (bh π) r s)+_=_;rw[this];lia
theorem j0{π:Plan}(Z:ao π){k j:Nat}(hk:k<π.keys.length)(hj:j<π.sums.length){a b:List (List Cell)}(hp:a.Perm b)(hY:∀r∈a,aq π r):Zk j (aM π k a none (zeros π))=val j (total π b):=by
 rw[Vp (π:=π) (k:=k),KK Z hk hj a none (zeros π) 0 hY (λr e=>nomatch e) (QA π) (QN π),Zj];show aI.sum2 (aI.gr (kind π k) (give π j) a none 0)=_;rw[aI.jI,aI.xJ (give π j) hp];unfold total;rw[Vq Z hj b (zeros π) 0 (λr h=>hY r (hp.mem_iff.mpr h)) (QA π) (QN π),Zj,Int.zero_add]
theorem kP{pl pm:Int}(hm:pl<=pm):∀(is:List Nat)(r r':List Cell),(∀i∈is,∀u o,r.getD i (.txt "")=.au u o->o<=pl)->(∀i∈is,∀u o,r'.getD i (.txt "")=.au u o->o<=pl)->aV (is.map (VL pm r)) (is.map (VL pm r'))=aV (is.map (VL pl r)) (is.map (VL pl r'))
 |[],r,r',_,_=>rfl
 |i::is,r,r',h,h'=>by
  obtain⟨e1,e2⟩:=yw hm (h i nA) (h' i nA)
  replace e2:VL pm r i=VL pm r' i↔VL pl r i=VL pl r' i:=e2
  have ih:=kP hm is r r' (λi' hi=>h i' (nz _ hi)) (λi' hi=>h' i' (nz _ hi));rw[nM,nM,nM,nM,aV,aV,ih]
  by_cases z:VL pl r i=VL pl r' i
  ·rw[if_pos z,if_pos (e2.mpr z)]
  ·rw[if_neg z,if_neg (λy=>z (e2.mp y))];exact e1
theorem j4{L:List (List Rk)}(hn:L.Nodup){ps:List Nat}(h:QB L.length (Yu λi=>L.getD i []) ps) {M:List (List Rk)} (hM:M.Pairwise cF) (hm:∀x,x∈L↔x∈M):(ps.map λi=>L.getD i [])=M:=by
 have hp:=Kb (d:=[]) h.1;refine aI.uniq xK ?_ hM (λx=>hp.mem_iff.trans (hm x));refine List.pairwise_map.mpr ?_;have bi:=h.lt;have ML:=h.2;have p7:ps.Nodup:=h.1.nodup_iff.mpr List.nodup_range;have both:ps.Pairwise λa b=>aI.S (Yu λi=>L.getD i []) a b/\a≠b:=ML.and p7;refine both.imp_of_mem λ{a b} ha hb⟨s,ne⟩=>?_;have la:=bi a ha;have lb:=bi b hb;refine Classical.byContradiction λz=>?_;have z2:aV (L.getD a []) (L.getD b [])=false:=by simpa[cF]using z
 have e:=Z9 z2 s.1;rw[List.getD_eq_getElem?_getD,List.getD_eq_getElem?_getD,List.getElem?_eq_getElem la,List.getElem?_eq_getElem lb]at e;exact ne ((List.getElem_inj hn).mp e)
end Lw
namespace L2
open PySem PySem.Spec PyProof.Rows
theorem Kc{y:Str}{c:Addr}:∀(names:List (Str × NameKind))(n:Nat)(acc:List (Str × Addr)),(cellsFrom n names acc).lookup y=some c->(n<=c/\(y,NameKind.cell)∈names)\/((y,NameKind.cell)∉names/\acc.lookup y=some c)
 |[],_,_,e=>.inr ⟨(λz=>nomatch z),e⟩
 |(x,k)::r,n,acc,e=>by
  unfold cellsFrom at e
  split at e
  ·rename_i hk;have hk:k=.cell:=eq_of_beq hk;subst hk;rcases Kc r _ _ e with⟨h1,h2⟩|⟨h1,h2⟩
   ·exact .inl ⟨Nat.le_of_succ_le h1,nz _ h2⟩
   ·rw[List.lookup_cons]at h2
    split at h2
    ·rename_i hy;cases h2;rw[eq_of_beq hy];exact .inl ⟨ng _,nA⟩
    ·rename_i hy;refine .inr ⟨λz=>?_,h2⟩;rcases List.mem_cons.mp z with z|z
     ·cases z;rw[beq_self_eq_true]at hy;cases hy
     ·exact h1 z
  ·rename_i hk;rcases Kc r _ _ e with⟨h1,h2⟩|⟨h1,h2⟩
   ·exact .inl ⟨h1,nz _ h2⟩
   ·refine .inr ⟨λz=>?_,h2⟩;rcases List.mem_cons.mp z with z|z
    ·cases z;exact hk rfl
    ·exact h1 z
theorem Vr{y:Str}:∀(names:List (Str × NameKind))(n:Nat)(acc:List (Str × Addr)),((y,NameKind.cell)∈names\/∃c,acc.lookup y=some c)->∃c,(cellsFrom n names acc).lookup y=some c
 |[],_,_,h=>by
  rcases h with h|h
  ·cases h
  ·exact h
 |(x,k)::r,n,acc,h=>by
  unfold cellsFrom
  split
  ·rename_i hk;refine Vr r _ _ ?_;rcases h with h|⟨c,h⟩
   ·rcases List.mem_cons.mp h with z|z
    ·cases z;exact .inr ⟨n,by rw[List.lookup_cons,beq_self_eq_true]⟩
    ·exact .inl z
   ·refine .inr ?_;rw[List.lookup_cons]
    split
    ·exact⟨_,ae⟩
    ·exact⟨c,h⟩
  ·rename_i hk;refine Vr r _ _ ?_;rcases h with h|h
   ·rcases List.mem_cons.mp h with z|z
    ·cases z;exact absurd rfl hk
    ·exact .inl z
   ·exact .inr h
theorem j5{y z:Str}{c:Addr}:∀(names:List (Str × NameKind))(n:Nat)(acc:List (Str × Addr)),(∀y z c,acc.lookup y=some c->acc.lookup z=some c->y=z)->(∀y c,acc.lookup y=some c->c<n)->
  (cellsFrom n names acc).lookup y=some c->(cellsFrom n names acc).lookup z=some c->y=z
 |[],_,_,h,_,e1,e2=>h y z c e1 e2
 |(x,k)::r,n,acc,h,hl,e1,e2=>by
  unfold cellsFrom at e1 e2
  split at e1
  ·rename_i hk;rw[if_pos hk]at e2;refine j5 r (n+1) _ (λy z c h1 h2=>?_) (λy c h1=>?_) e1 e2
   ·rw[List.lookup_cons]at h1 h2
    split at h1
    ·rename_i q1;cases h1
     split at h2
     ·rename_i q2;rw[eq_of_beq q1,eq_of_beq q2]
     ·exact absurd (hl _ _ h2) (nU _)
    ·split at h2
     ·cases h2;exact absurd (hl _ _ h1) (nU _)
     ·exact h y z c h1 h2
   ·rw[List.lookup_cons]at h1
    split at h1
    ·cases h1;exact Nat.lt_succ_self _
    ·exact Nat.lt_succ_of_lt (hl _ _ h1)
  ·rename_i hk;rw[if_neg hk]at e2;exact j5 r n acc h hl e1 e2
theorem Yw{y:Str}{c:Addr}:∀(names:List (Str × NameKind))(h:Heap)(acc:List (Str × Addr)),(∀y c,acc.lookup y=some c->∃v,h.IsCell c v)->(cellsFrom h.objs.size names acc).lookup y=some c->∃v,(pushCells h names).IsCell c v
 |[],_,_,ha,e=>ha y c e
 |(x,k)::r,h,acc,ha,e=>by
  unfold cellsFrom at e;unfold pushCells
  split at e
  ·rename_i hk;rw[if_pos hk];have:=Yw (y:=y) (c:=c) r (h.push {cls:=.type "cell",data:=.cell none}) ((x,h.objs.size)::acc) (λy c e=>by
    rw[List.lookup_cons]at e
    split at e
    ·cases e;exact⟨none,_,Heap.get?_push_size _ rfl,ae⟩
    ·obtain⟨v,o,e1,e2⟩:=ha y c e;exact⟨v,o,Heap.get?_push_of_some _ e1,e2⟩)
   rw[Heap.size_push]at this;exact this e
  ·rename_i hk;rw[if_neg hk];exact Yw r h acc ha e
noncomputable def Ww(scope:Scope)(env:Env)(C:Addr):Env:=
 {scope:=relabel scope env,locals:=C,globals:=env.globals,cells:=cellsFrom (C+1) scope.names (Qw env.cells scope.names []),qual:=env.qual,func:=none,code:=env.code,frame:=env.frame,builtins:=env.builtins}
noncomputable abbrev QE(X:Cx)(NB:List Str)(scope:Scope)(s:Shared)(H:Hp)(ex:List Addr):Cx:=
 {X with N:=NB,s₀:=s,H₀:=H,env:=Ww scope X.env s.heap.objs.size,outer:=X.stack,ex:=ex,fn:=λy=>decide ((y,NameKind.cell)∈scope.names),pn:=[],xe:=λ_ _=>False}
structure bg(NB FR:List Str)(scope:Scope):Prop where
 kind:scope.kind=.function
 nd:(NB++FR).Nodup
 loc:∀y∈scope.names,y.2=.local->scope.names.lookup y.1=some .local
 r9:(scope.names.map (·.1)).Nodup
 fr:∀y∈FR,(y,NameKind.free)∈scope.names
noncomputable def Wx(sc outer:Scope):Bool:=sc.names.all λy=> !(y.2==.free)||outer.names.lookup y.1==some .cell||outer.names.lookup y.1==some .free
theorem U3{sc outer:Scope}(h:Wx sc outer=true):∀y∈sc.names,y.2=.free->outer.names.lookup y.1=some .cell\/outer.names.lookup y.1=some .free:=λy hy e=>by
 have q:=List.all_eq_true.mp h y hy;rw[e]at q;simpa using q
theorem U4{env:Env}{scope:Scope}{y:Str}(nd:(scope.names.map (·.1)).Nodup)(h:(y,NameKind.free)∈scope.names):(relabel scope env).names.lookup y=some .cell\/(relabel scope env).names.lookup y=some .free:=by
 have key:∀l:List (Str × NameKind),(l.map (·.1)).Nodup->(y,NameKind.free)∈l->(l.map (cw env)).lookup y=some .cell\/(l.map (cw env)).lookup y=some .free:=by
  intro l
  induction l with
  |nil=>intro _ h;cases h
  |cons z r ih=>
   intro nd h;rw[nM,List.nodup_cons]at nd;rw[nM];rcases List.mem_cons.mp h with h|h
   ·subst h;unfold cw
    split
    ·rw[List.lookup_cons,beq_self_eq_true];exact .inl rfl
    ·rw[List.lookup_cons,beq_self_eq_true];exact .inr rfl
   ·have Go:y≠z.1:=λq=>nd.1 (by rw[←q];exact List.mem_map.mpr ⟨_,h,ae⟩);rw[XA env Go];exact ih nd.2 h
 exact key scope.names nd h
theorem Yx{env:Env}{scope:Scope}{y:Str}(h:(relabel scope env).names.lookup y=some .cell\/(relabel scope env).names.lookup y=some .free):(y,NameKind.cell)∈scope.names\/(y,NameKind.free)∈scope.names:=by
 have key:∀l:List (Str × NameKind),((l.map (cw env)).lookup y=some .cell\/(l.map (cw env)).lookup y=some .free)->(y,NameKind.cell)∈l\/(y,NameKind.free)∈l:=by
  intro l
  induction l with
  |nil=>intro h;rcases h with h|h<;>simp at h
  |cons z r ih=>
   intro h;rw[nM]at h
   by_cases hn:y=z.1
   ·obtain⟨n,k⟩:=z;have hn:y=n:=hn;subst hn;cases k with
    |cell=>exact .inl nA
    |free=>exact .inr nA
    |_=>
     have e2:∀q:NameKind,(q==NameKind.free)=false->cw env (y,q)=(y,q):=λq hq=>by unfold cw;rw[if_neg (by rw[show((y,q).2==NameKind.free)=false from hq];simp)]
     rw[e2 _ rfl,List.lookup_cons,beq_self_eq_true]at h;rcases h with h|h<;>cases h
   ·rw[XA env hn]at h;rcases ih h with h|h
    ·exact .inl (nz _ h)
    ·exact .inr (nz _ h)
 exact key scope.names h
theorem Kd{M:Model}{A:Around}{E:Value->Shared->Prop}{s:Shared}{scope:Scope}{globals:Addr}{qual:Str}{env:Env}{cl:List (Str × Addr)}{Q:Env->Shared->Prop}
  (fV:∀y c,cl.lookup y=some c->∃v,s.heap.IsCell c v)
  (hQ:∀AT h',AT={scope:=scope,locals:=s.heap.objs.size,globals:=globals,cells:=cellsFrom (s.heap.objs.size+1) scope.names cl,qual:=qual,func:=none,code:=env.code,frame:=env.frame,builtins:=env.builtins}->
   h'.Ns s.heap.objs.size (λ_=>none)->(∀b o,s.heap.get? b=some o->h'.get? b=some o)->(∀y c,(cellsFrom (s.heap.objs.size+1) scope.names cl).lookup y=some c->∃v,h'.IsCell c v)->Q AT {s with heap:=h'}):
  wpAny M A (newFunctionEnv scope globals cl [] qual none .none (some env)) Q E s:=by
 simp only[newFunctionEnv,Option.isSome_some,if_true];refine wpAny_bind (wpAny_alloc ?_);refine wpAny_bind (wpAny_layCells _ (λname kind cells=>by cases l7:kind==NameKind.cell<;>simp[l7]) _ _ _ _ ?_);rw[show({s with heap:=s.heap.push {cls:=.type "dict",data:=.dict #[]}}:Shared).heap.objs.size=s.heap.objs.size+1 from Heap.size_push ..];refine wpAny_bind (wpAny_pure (wpAny_pure (hQ _ _ ae ?_ ?_ λy c e=>?_)))
 ·exact(Heap.Ns.new s.heap (.type "dict")).keeps (pushCells_keeps _ _)
 ·exact λb o e=>pushCells_keeps _ _ b o (Heap.get?_push_of_some _ e)
 ·have:=Yw (y:=y) (c:=c) scope.names (s.heap.push {cls:=.type "dict",data:=.dict #[]}) cl (λy c e=>by obtain⟨v,o,e1,e2⟩:=fV y c e;exact⟨v,o,Heap.get?_push_of_some _ e1,e2⟩);rw[Heap.size_push]at this;exact this e
structure bA(Y:Cx)(D:Addr)(fp:List Addr):Prop where
 dl:D≠Y.env.locals
 dx:D∈Y.ex
 dc:∀y c,Y.env.cells.lookup y=some c->c≠D
 df:D∉Y.fs
 pn:Y.pn=[]
 fp:∀b∈fp,b≠D/\b≠Y.env.locals/\b∉Y.fs/\b∈Y.ex/\(∀y c,Y.env.cells.lookup y=some c->c≠b)
section
variable {Y:Cx}{D:Addr}{fp:List Addr}{pl:List (Addr × Obj)}{σ:St}{H:Hp}{s:Shared}
theorem bA.Xr(B:bA Y D fp){ys:List Value}(hn:∀b∈fp,H b=none):∀b∈fp,VP Y [(D,Q5 ys)] H b:=λb hb=>by
 obtain⟨h1,h2,h3,h4,h5⟩:=B.fp b hb;refine⟨hn b hb,h2,h3,.inl h4,h5,λp hp=>?_⟩;rw[B.pn,List.nil_append]at hp;rw[List.mem_singleton.mp hp];exact h1.symm
theorem bA.append(B:bA Y D fp){ys:List Value}{y:Value}{A:Around}{E:Value->Shared->Prop}{Q:Value->Shared->Prop}(I:Inv Y ([(D,Q5 ys)]++pl) σ H s)(Ix:∀p∈pl,p.1≠D) (Ch:ys.length<=sizeLine)
  (h:∀v h',Inv Y ([(D,Q5 (ys++[y]))]++pl) σ H {s with heap:=h'}->(∀b o,b≠D->s.heap.get? b=some o->h'.get? b=some o)->Q v {s with heap:=h'}):
  wpAny (model Y.prog Y.w) A (call (.builtin "list.append") [.ref D,y]) Q E s:=by
 obtain⟨eD,nD,_,nf,_⟩:=I.pin (D,Q5 ys) (by simp);refine append_at (hsz:=by show ys.toArray.size<=sizeLine;rw[nQ];exact Ch) eD λcq Ty TD=>?_;have cM:∀b o,b≠D->s.heap.get? b=some o->cq.get? b=some o:=λb o hb e=>(Ty.2 b hb).trans e;have IE:Inv Y pl σ H s:=I.Q4 λp hp=>I.pin p (nu _ (nu _ hp));have cu:Inv Y pl σ H {s with heap:=cq}:=IE.turned (t':=s.toks) cM nD B.dl (.inl B.dx) B.dc (λp hp=>by rw[B.pn,List.nil_append]at hp;exact Ix p hp);have eL:({cls:=.type "list",data:=.seq (ys.toArray.push y) (ys.length+1)}:Obj)=Q5 (ys++[y]):=by
  show({cls:=.type "list",data:=.seq (ys.toArray.push y) (ys.length+1)}:Obj)={cls:=.type "list",data:=.seq (ys++[y]).toArray (ys++[y]).length};rw[m5,ni,List.push_toArray]
 refine h _ cq (cu.Q4 λp hp=>?_) cM;rcases List.mem_append.mp hp with z|z
 ·rw[List.mem_singleton.mp z];exact⟨by rw[←eL];exact TD,nD,B.dl,B.df,λv z=>nomatch z⟩
 ·exact cu.pin p (nu _ z)
end
structure Wk(σ τ:St):Prop where
 len:σ.length=τ.length
 at_:∀(i:Nat)(v:V),σ[i]? =some (some v)->τ[i]? =some (some v)
theorem Wk.ah{σ τ:St}(x:Option V)(h:Wk σ τ):Wk (none::σ) (x::τ):=⟨by simp[h.len],λi v e=>by
 cases i with
 |zero=>cases e
 |succ i=>exact h.at_ i v e⟩
theorem Wk.same{σ τ:St}(x:Option V)(h:Wk σ τ):Wk (x::σ) (x::τ):=⟨by simp[h.len],λi v e=>by
 cases i with
 |zero=>exact e
 |succ i=>exact h.at_ i v e⟩
theorem Wk.refl(σ:St):Wk σ σ:=⟨ae,λ_ _ h=>h⟩
theorem Wk.inv{σ τ:St}{Y:Cx}{pl:List (Addr × Obj)}{H:Hp}{s:Shared}(h:Wk σ τ)(I:Inv Y pl τ H s):Inv Y pl σ H s:=I.weak h.len h.at_
section
variable {X:Cx}
theorem KM{elt tg iter:Expr}{ifs:List Expr}{gs:List Comprehension}{scope:Scope}{pos:Pos}{NB FR:List Str}{fi:List Nat}{wi:TI}{pins:List (Addr × Obj)}{s:Shared}{σ:St}{H:Hp}{Q:VK}{G:It->Hp->List V->Prop}(I:Inv X pins σ H s)
  (S:bg NB FR scope) (ge:Wx scope X.env.scope=true) (cN:fi.map (λi=>X.N[i]?)=FR.map some) (hi:PI X tg iter wi) (h:wi σ H λJ H1=>∃fv:List V,fi.map (λi=>σ[i]?)=fv.map (λv=>some (some v))/\G J H1 fv)
  (loop:∀(it D:Addr)(fp:List Addr)(tn:Nat->Heap->Prop)(J:It)(fv:List V)(H2:Hp)(s3 s4:Shared),bA (QE X (NB++FR) scope s3 H2 (D::fp)) D fp->Turn X.prog X.w X.K tg J fp it tn->tn 0 s4.heap->(∀b∈fp,H2 b=none)->G J H2 fv->
   Inv (QE X (NB++FR) scope s3 H2 (D::fp)) [(D,Q5 [])] (List.replicate NB.length none++fv.map some) H2 s4->
   codeAny (model X.prog X.w) X.A (.compLoop (.ListComp elt (⟨tg,iter,ifs,0⟩::gs) scope pos) 0 (.ref it) (.ref D) (Ww scope X.env s3.heap.objs.size)) (λr s6=>r=.ok .next/\∃σ6 H5 vs ys,Inv (QE X (NB++FR) scope s3 H2 (D::fp)) [(D,Q5 ys)] σ6 H5 s6/\Vals vs ys/\vs.length<=sizeLine/\∀p,H5 p=none->Q (.ref p) (upd H5 p (.lst vs))) s4)
  (hs:∀x,foldedSetIterable iter X.env x=pure x:=by intro _;rfl):wpAny (model X.prog X.w) X.A (eval (.ListComp elt (⟨tg,iter,ifs,0⟩::gs) scope pos) X.env) (EP X pins σ Q) X.xe s:=by
 have cx:=U3 ge;have GE:∀y∈scope.names,y.2=.free->∃c,X.env.cells.lookup y.1=some c:=λy hy e=>I.ok.has y.1 (cx y hy e);have dL:∀y c,(Qw X.env.cells scope.names []).lookup y=some c->X.env.cells.lookup y=some c:=λy c e=>J4 scope.names [] GE (λz=>nomatch z) e;rw[eval_ListComp];refine wpAny_comprehension_free (use:=none) (cl:=Qw X.env.cells scope.names []) rfl hs (Jb GE) S.kind S.loc (ax (hi pins s σ H _ I h) λv s1 h1=>ax h1 λlP s2 h2=>?_);obtain⟨it,fp,tn,J,H2,e,I2,T,cn,f2,fv,Re,hG⟩:=h2;subst e;refine wpAny_newObj_type ?_;have Fk:∀b o,s2.heap.get? b=some o->(s2.heap.push {cls:=.type "list",data:=.seq ([]:List Value).toArray}).get? b=some o:=λb o e=>Heap.get?_push_of_some _ e;have I3:Inv X pins σ H2 {s2 with heap:=s2.heap.push {cls:=.type "list",data:=.seq ([]:List Value).toArray}}:=I2.kept (t':=s2.toks) Fk;have bT:tn 0 (s2.heap.push {cls:=.type "list",data:=.seq ([]:List Value).toArray}):=T.keep _ _ _ cn λb _ o e=>Fk b o e;have Fr:(s2.heap.push {cls:=.type "list",data:=.seq ([]:List Value).toArray}).get? s2.heap.objs.size=some (Q5 []):=Heap.get?_push_size _ rfl;have c9:H2 s2.heap.objs.size=none:=I2.aj.fresh (ng _);have ul:∀b o,s2.heap.get? b=some o->b≠s2.heap.objs.size:=λb o e=>Nat.ne_of_lt (Heap.lt_size e);have de:∀b∈fp,∃o,s2.heap.get? b=some o:=λb hb=>let ⟨o,e,_⟩:=T.obj _ _ cn b hb;⟨o,e⟩;have f8:X.s₀.heap.objs.size<=s2.heap.objs.size:=I2.sz;have SZ:s2.heap.objs.size≠X.env.locals:=Nat.ne_of_gt I2.lt;have IR:∀x c,X.env.cells.lookup x=some c->c≠s2.heap.objs.size:=λx c e=>let ⟨v,o,e1,_⟩:=I2.cell x c e;ul c o e1;have Tk:∀p∈X.pn++pins,p.1≠s2.heap.objs.size:=λp hp=>ul p.1 _ (I2.pin p hp).1;have P3:s2.heap.objs.size∉bc X.stack:=λz=>let ⟨o,e,_⟩:=(I2.stack.mem z).2;ul _ o e rfl;generalize gV:({s2 with heap:=s2.heap.push {cls:=.type "list",data:=.seq ([]:List Value).toArray}}:Shared)=s3 at I3 ⊢;have eM:s3.heap=s2.heap.push {cls:=.type "list",data:=.seq ([]:List Value).toArray}:=by rw[←gV]
 rw[←eM]at bT Fr Fk;generalize s2.heap.objs.size=D at Fr c9 ul f8 SZ IR Tk P3 ⊢;refine Kd (λy c e=>I3.cell y c (dL y c e)) λAT h4 FB iE ut cY=>?_;subst FB;have NE:∀b o,s3.heap.get? b=some o->b<s3.heap.objs.size:=λb o e=>Heap.lt_size e;have bY:∀b∈fp,b<s3.heap.objs.size:=λb hb=>let ⟨o,e⟩:=de b hb;NE b o (Fk b o e);have sK:D<s3.heap.objs.size:=NE D _ Fr;have BT:∀b∈fp,b≠D:=λb hb=>let ⟨o,e⟩:=de b hb;ul b o e;have ia:∀b o,X.base.get? b=some o->b∉D::fp:=λb o e hb=>by
  rcases List.mem_cons.mp hb with rfl|hb
  ·exact absurd (Nat.lt_of_lt_of_le (Heap.lt_size (I2.ok.bs b o e).1) f8) (nU _)
  ·obtain⟨_,_,_,f3,_⟩:=f2 b hb;rcases f3 with z|z
   ·exact I2.ok.bB b o e z
   ·exact absurd (Nat.lt_of_lt_of_le (Heap.lt_size (I2.ok.bs b o e).1) z) (nU _)
 have dg:∀b∈D::fp,b∉bc X.stack:=λb hb hf=>by
  rcases List.mem_cons.mp hb with rfl|hb
  ·exact P3 hf
  ·obtain⟨_,f1,ib,_⟩:=f2 b hb;rcases List.mem_cons.mp (I2.XJ b hf)with z|z
   ·exact f1 z
   ·exact ib z
 have pJ:∀y c,(Qw X.env.cells scope.names []).lookup y=some c->c<s3.heap.objs.size+1:=λy c e=>by
  obtain⟨v,o,ho,_⟩:=I3.cell y c (dL y c e);exact Nat.lt_succ_of_lt (NE c o ho)
 have own:∀y c,(cellsFrom (s3.heap.objs.size+1) scope.names (Qw X.env.cells scope.names [])).lookup y=some c->s3.heap.objs.size<c\/X.env.cells.lookup y=some c:=λy c e=>by
  rcases Kc _ _ _ e with⟨z,_⟩|⟨_,z⟩
  ·exact .inl z
  ·exact .inr (dL y c z)
 have ei:∀y c b,(cellsFrom (s3.heap.objs.size+1) scope.names (Qw X.env.cells scope.names [])).lookup y=some c->b∈D::fp->c≠b:=λy c b e hb=>by
  have MM:b<s3.heap.objs.size:=by
   rcases List.mem_cons.mp hb with rfl|hb
   ·exact sK
   ·exact bY b hb
  rcases own y c e with z|z
  ·exact Nat.ne_of_gt (Nat.lt_trans MM z)
  ·rcases List.mem_cons.mp hb with rfl|hb
   ·exact IR y c z
   ·exact(f2 b hb).2.2.2.2.1 y c z
 have FS:∀b∈D::fp,b<s3.heap.objs.size:=λb hb=>by
  rcases List.mem_cons.mp hb with rfl|hb
  ·exact sK
  ·exact bY b hb
 have ic:(QE X (NB++FR) scope s3 H2 (D::fp)).Ok:=by
  refine⟨I3.ok.mod,S.kind,I3.ok.glob,I3.ok.blt,ng _,λy z c h1 h2=>?_,λy hy=>?_,λy c hf h1=>?_,I3.ok.hd,I3.ok.frames,.inl rfl,λb hb=>⟨Nat.ne_of_lt (FS b hb),λy c e=>ei y c b e hb⟩,I3.bs,Nat.le_trans I3.ok.dR I3.sz,ia,dg,I3.stack,I3.Zy⟩
  ·exact j5 scope.names _ _ (λy z c e1 e2=>I3.ok.inj y z c (dL y c e1) (dL z c e2)) pJ h1 h2
  ·rcases Yx hy with z|z
   ·exact Vr _ _ _ (.inl z)
   ·exact Vr _ _ _ (.inr (Jy scope.names [] (.inr z)))
  ·have hm:(y,NameKind.cell)∈scope.names:=of_decide_eq_true hf;rcases Kc _ _ _ h1 with⟨z,_⟩|⟨z,_⟩
   ·exact Nat.le_of_succ_le z
   ·exact absurd hm z
 have u8:(List.replicate NB.length (none:Option V)++fv.map some).length=(NB++FR).length:=by
  have h1:=congrArg List.length Re;have h2:=congrArg List.length cN;simp only[m7]at h1 h2;rw[m5,m5,nG,m7];lia
 have rep:∀(j:Nat)(v:V),(List.replicate NB.length (none:Option V)++fv.map some)[j]? =some (some v)->∃k,j=NB.length+k/\fv[k]? =some v:=λj v z=>by
  rw[List.getElem?_append]at z
  split at z
  ·rw[List.getElem?_replicate]at z
   split at z<;>cases z
  ·rename_i hj;rw[nG]at hj z;refine⟨j-NB.length,by lia,?_⟩;rw[nE]at z;cases e:fv[j-NB.length]? with
   |none=>rw[e]at z;cases z
   |some y=>rw[e]at z;exact congrArg some (nh (nh z))
 have cO:∀(k:Nat)(v:V)(y:Str),fv[k]? =some v->FR[k]? =some y->∃i,X.N[i]? =some y/\σ[i]? =some (some v):=λk v y h1 h2=>by
  have a1:=congrArg (λl=>l[k]?) Re;have a2:=congrArg (λl=>l[k]?) cN;simp only[nE,h1,h2]at a1 a2;cases e:fi[k]? with
  |none=>rw[e]at a1;cases a1
  |some i=>
   rw[e]at a1 a2;exact⟨i,nh a2,nh a1⟩
 have IB:Inv (QE X (NB++FR) scope s3 H2 (D::fp)) [(D,Q5 [])] (List.replicate NB.length none++fv.map some) H2 {s3 with heap:=h4}:=by
  refine⟨ic,ae,I3.bare,Un.kept ut,⟨_,iE,λi y v h1 h2 h3=>?_⟩,cY,I3.aj.fresh (ng _),λy c h=>?_,λp hp=>?_,I3.aj.kept ut,u8⟩
  ·obtain⟨k,rfl,hk⟩:=rep i v h2;have hy:FR[k]? =some y:=by
    have h1:(NB++FR)[NB.length+k]? =some y:=h1;rw[List.getElem?_append_right (Nat.le_add_right _ _),Nat.add_sub_cancel_left]at h1;exact h1
   obtain⟨io,hN,hσ⟩:=cO k v y hk hy;have s0:(y,NameKind.free)∈scope.names:=S.fr y (nF hy);have MN:(y,NameKind.cell)∉scope.names:=λz=>by
    have key:∀l:List (Str × NameKind),(l.map (·.1)).Nodup->(y,NameKind.free)∈l->(y,NameKind.cell)∈l->False:=by
     intro l
     induction l with
     |nil=>intro _ h;cases h
     |cons q r ih=>
      intro nd h1 h2;rw[nM,List.nodup_cons]at nd;rcases List.mem_cons.mp h1 with h1|h1
      ·rcases List.mem_cons.mp h2 with h2|h2
       ·rw[←h1]at h2;cases h2
       ·exact nd.1 (by rw[←h1];exact List.mem_map.mpr ⟨_,h2,ae⟩)
      ·rcases List.mem_cons.mp h2 with h2|h2
       ·exact nd.1 (by rw[←h2];exact List.mem_map.mpr ⟨_,h1,ae⟩)
       ·exact ih nd.2 h1 h2
    exact key _ S.r9 s0 z
   obtain⟨m,_,hl⟩:=I3.loc;obtain⟨u,r,l⟩:=hl io y v hN hσ (.inr (cx _ s0 ae));refine⟨u,r,.inr ⟨U4 S.r9 s0,?_⟩⟩;obtain⟨c,di⟩:=Vr (y:=y) scope.names (s3.heap.objs.size+1) (Qw X.env.cells scope.names []) (.inr (Jy scope.names [] (.inr s0)));refine⟨c,di,?_⟩;rcases Kc _ _ _ di with⟨_,z⟩|⟨_,z⟩
   ·exact absurd z MN
   ·have Fa:=dL y c z;rcases l with⟨hk,_⟩|⟨_,c',Is,o,ho,hd⟩
    ·have e1:=cx _ s0 rfl;have hk:X.env.scope.names.lookup y=some .local:=hk;rcases e1 with e1|e1<;>(have e1:X.env.scope.names.lookup y=some _:=e1;rw[hk]at e1;cases e1)
    ·rw[Fa]at Is;cases Is;exact⟨o,ut _ _ ho,hd⟩
  ·rcases own y c h with z|z
   ·exact I3.aj.fresh (Nat.le_of_lt z)
   ·exact I3.aG y c z
  ·obtain rfl:p=(D,Q5 []):=by simpa using hp
   exact⟨ut _ _ Fr,c9,Nat.ne_of_lt sK,P3,λv z=>nomatch z⟩
 have B:bA (QE X (NB++FR) scope s3 H2 (D::fp)) D fp:=⟨Nat.ne_of_lt sK,nA,λy c e=>ei y c D e nA,P3,ae,λb hb=>⟨BT b hb,Nat.ne_of_lt (bY b hb),dg b (nz _ hb),nz _ hb,λy c e=>ei y c b e (nz _ hb)⟩⟩;have bN:tn 0 h4:=T.keep _ _ _ bT λb _ o e=>ut b o e;have dJ:∀b∈fp,H2 b=none:=λb hb=>(f2 b hb).1;have lp:=loop it D fp tn J fv H2 s3 {s3 with heap:=h4} B T bN dJ hG IB;have Gs:codeAny (model X.prog X.w) X.A (.compLoop (.ListComp elt (⟨tg,iter,ifs,0⟩::gs) scope pos) 0 (.ref it) (.ref D) (Ww scope X.env s3.heap.objs.size)) (compPost (model X.prog X.w) X.A X.xe none (EP X pins σ Q) (.ref D) s3.heap.objs.size) {s3 with heap:=h4}:=by
  refine codeAny_mono lp λr s6⟨hr,σ6,H5,vs,ys,I6,rv,Ch,qn⟩=>?_;subst hr;obtain⟨m6,ie,_⟩:=id I6.loc;refine⟨m6,ie,λh7 r6=>?_⟩;have bZ:∀b o,b≠s3.heap.objs.size->s6.heap.get? b=some o->h7.get? b=some o:=λb o hb e=>(r6.2 b hb).trans e;have dU:H5 s3.heap.objs.size=none:=I6.free;have ig:Un (bc X.stack) (D::fp) H2 H5 s3.heap h7:=by
   have u:=I6.base;refine⟨λb o e n hb hx=>bZ b o (Nat.ne_of_lt (Heap.lt_size e)) (u.keep b o e n hb hx),λb o e n hb hx=>?_,u.free,λb o e hx=>?_,u.Jr,u.ba,u.bb⟩
   ·obtain⟨sl,q⟩:=u.slot b o e n hb hx;exact⟨sl,bZ b _ (Nat.ne_of_lt (Heap.lt_size e)) q⟩
   ·obtain⟨o',q⟩:=u.there b o e hx;exact⟨o',bZ b _ (Nat.ne_of_lt (Heap.lt_size e)) q⟩
  have eP:aS X.prog X.w H5 h7:=λb u e=>(I6.aj b u e).Uz (λc w' bS q=>bZ c w' (by
   rintro rfl;rcases bS with rfl|bS
   ·rw[dU]at e;cases e
   ·rw[dU]at bS;cases bS) q) (λ_ q=>q) λ_ _ q=>q
  have I7:Inv X pins σ H5 {s6 with heap:=h7}:=I3.UA (s':={s6 with heap:=h7}) I6.os ig eP I6.bare λb hb=>by
   rcases List.mem_cons.mp hb with rfl|hb
   ·exact⟨.inr f8,SZ,IR,Tk⟩
   ·obtain⟨_,f1,_,f3,f4,f5⟩:=f2 b hb;exact⟨f3,f1,f4,f5⟩
  obtain⟨eD,nD,_⟩:=I6.pin (D,Q5 ys) (by simp);have dh:H5 D=none:=nD;have ij:h7.get? D=some (Q5 ys):=bZ D _ (Nat.ne_of_lt sK) eD;have ik:X.s₀.heap.get? D=none:=by
   cases q:X.s₀.heap.get? D with
   |none=>rfl
   |some o=>exact absurd (Nat.lt_of_lt_of_le (Heap.lt_size q) f8) (nU _)
  exact⟨.ref D,upd H5 D (.lst vs),I7.VY dh ik SZ IR Tk ⟨Ch,ys,ys.length,rv,ij⟩,ae,qn D dh⟩
 exact codeAny_compStart_list Gs (T.self _ 0 _ _ _ bN Gs)
end
theorem ve{n:Nat}{fv:List V}{σ:St}(hl:(List.replicate n (none:Option V)++fv.map some).length=σ.length)(h:σ.drop n=fv.map some):Wk (List.replicate n none++fv.map some) σ:=by
 refine⟨hl,λj v z=>?_⟩;rw[List.getElem?_append]at z
 split at z
 ·rw[List.getElem?_replicate]at z
  split at z<;>cases z
 ·rename_i hj;rw[nG]at hj z;have:=congrArg (λl=>l[j-n]?) h;simp only[List.getElem?_drop]at this;rw[show n+(j-n)=j by lia]at this;rw[this];exact z
section
variable {X:Cx}
theorem Ke{elt tg iter:Expr}{ifs:List Expr}{scope:Scope}{pos:Pos}{NB FR:List Str}{fi:List Nat}{wi:TI}{g:TG}{tt:TT}{te:TE}(hc:X.calm=true)(S:bg NB FR scope)(ge:Wx scope X.env.scope=true)(cN:fi.map (λi=>X.N[i]?)=FR.map some) (hi:PI X tg iter wi)
  (hg:∀s H ex,PG (QE X (NB++FR) scope s H ex) tg g) (ht:∀s H ex,iY (QE X (NB++FR) scope s H ex) ifs tt) (he:∀s H ex,PE (QE X (NB++FR) scope s H ex) elt te)
  (hs:∀x,foldedSetIterable iter X.env x=pure x:=by intro _;rfl):PE X (.ListComp elt [⟨tg,iter,ifs,0⟩] scope pos) (XV NB.length fi wi g tt te):=by
 intro pins s σ H Q I h;refine KM (G:=λJ H1 fv=>∃W:Nat->Nat->List V->Hp->Prop,(∃m,W 0 m [] H1)/\∀i m vs H,W i m vs H->
  (J.stop i H/\∀p,H p=none->Q (.ref p) (upd H p (.lst vs)))\/(J.go i H/\vs.length<sizeLine/\∃N:List V->Hp->Prop,(∀sB H',N sB H'->∃m',m'<m/\W (i+1) m' sB H')/\
  ∀x H',J.bw i H x H'->g x (List.replicate NB.length none++fv.map some) H' λσ2 H2=>σ2.drop NB.length=fv.map some/\tt σ2 H2 λb H3=>if b=true then te σ2 H3 λv H4=>N (vs++[v]) H4 else N vs H3)) I S ge cN hi h (λit D fp tn J fv H2 s3 s4 B T bN dJ hG IB=>?_) hs
 obtain⟨W,⟨m0,w0⟩,turn⟩:=hG;have Do:(QE X (NB++FR) scope s3 H2 (D::fp)).calm=true:=hc;refine J5 (λn s'=>∃i vs ys H',Inv (QE X (NB++FR) scope s3 H2 (D::fp)) [(D,Q5 ys)] (List.replicate NB.length none++fv.map some) H' s'/\Vals vs ys/\vs.length<=sizeLine/\tn i s'.heap/\(∀b∈fp,H' b=none)/\W i n vs H') ?_ m0 ⟨0,[],[],H2,IB,.nil,nR _,bN,dJ,w0⟩;rintro n s5 ⟨i,vs,ys,H5,I5,rv,Ch,No,ST,w5⟩;rcases turn i n vs H5 w5 with⟨stop,qn⟩|⟨go,bi,N,hN,step⟩
 ·refine wpAny_mono (T.done (QE X (NB++FR) scope s3 H2 (D::fp)) ae ae ae Do i _ s5 _ H5 (λ_ _=>False) I5 (B.Xr ST) No stop) (λr s6⟨hr,I6⟩=>?_) (λ_ _ z=>z.elim);subst hr;exact⟨ae,_,H5,vs,ys,I6,rv,Ch,qn⟩
 ·refine wpAny_mono (T.item (QE X (NB++FR) scope s3 H2 (D::fp)) ae ae ae Do i _ s5 _ H5 (λ_ _=>False) I5 (B.Xr ST) No go) (λr s6⟨u,hr,h6⟩=>?_) (λ_ _ z=>z.elim);subst hr;refine wpAny_mono h6 (λ_ s7⟨x,H7,I7,r7,y7,Gc,eQ⟩=>?_) (λ_ _ z=>z.elim);have eT:=I7.pinned (B.Xr eQ) (T.obj _ _ Gc);have u8:=I7.len;refine wpAny_mono (hg s3 H2 (D::fp) _ s7 _ H7 x u _ eT r7 (step x H7 y7)) (λ_ s8⟨σ8,H8,I8,sd,q8⟩=>?_) (λ_ _ z=>z.elim);refine wpAny_mono (ht s3 H2 (D::fp) _ s8 σ8 H8 _ I8 q8) (λok s9⟨H9,I9,q9⟩=>?_) (λ_ _ z=>z.elim);have wk:=ve (u8.trans I8.len.symm) sd;have cp:∀{σ':St}{H':Hp}{s':Shared}{fJ:List Value},Inv (QE X (NB++FR) scope s3 H2 (D::fp)) ([(D,Q5 fJ)]++Ju fp s7.heap) σ' H' s'->tn (i+1) s'.heap/\∀b∈fp,H' b=none:=λJ=>
   ⟨T.keep _ _ _ Gc λb hb o e=>(J.pin (b,o) (nu _ (nu _ (Qp hb e)))).1,λb hb=>by
    obtain⟨o,e,d⟩:=T.obj _ _ Gc b hb;exact(J.pin (b,o) (nu _ (nu _ (Qp hb e)))).2.1⟩
  cases ok with
  |false=>
   rw[if_neg (by decide)]at q9;rw[if_neg (by decide)];obtain⟨m',hm,w9⟩:=hN vs H9 q9;obtain⟨t9,f9⟩:=cp I9;exact⟨m',hm,i+1,vs,ys,H9,wk.inv I9.QL,rv,Ch,t9,f9,w9⟩
  |true=>
   rw[if_pos rfl]at q9;rw[if_pos rfl];refine wpAny_mono (he s3 H2 (D::fp) _ s9 σ8 H9 _ I9 q9) (λy LE⟨v,pi,Tl,Tm,il⟩=>?_) (λ_ _ z=>z.elim);have ip:=rv.length;obtain⟨m',hm,eU⟩:=hN (vs++[v]) pi il;refine B.append (A:=X.A) Tl (λp hp=>(B.fp p.1 (ZK hp).1).1) (by lia) λ_ cq cu cM=>?_;obtain⟨MO,MP⟩:=cp cu;exact⟨m',hm,i+1,vs++[v],ys++[y],pi,wk.inv cu.QL,rv.append (.cons Tm .nil),by rw[m5,ni];exact bi,MO,MP,eU⟩
end
theorem Ku(elt t1 i1 t2 i2:Expr)(f1 f2:List Expr)(scope:Scope)(pos:Pos)(it acc:Value)(env:Env):
  compTurn (.ListComp elt [⟨t1,i1,f1,0⟩,⟨t2,i2,f2,0⟩] scope pos) 0 it acc env=(do
   standAt i1.pos
   match←pyNext it with
   |none=>pure (.done .next)
   |some v=>
    letOwnedTupleGo t1 it v
    assign t1 env v
    let mut ok:=true
    for c in f1 do
     if ok then ok←isTrue c env (eval c env)
    if ok then
     let x←eval i2 env
     standAt i2.pos
     let x←foldedSetIterable i2 env x
     let _←runOwn (.compStart (.ListComp elt [⟨t1,i1,f1,0⟩,⟨t2,i2,f2,0⟩] scope pos) 1 (←holding [x] (pyIter x)) acc env) env
    again (.compLoop (.ListComp elt [⟨t1,i1,f1,0⟩,⟨t2,i2,f2,0⟩] scope pos) 0 it acc env)):=by rfl
theorem Kf(elt t1 i1 t2 i2:Expr)(f1 f2:List Expr)(scope:Scope)(pos:Pos)(it acc:Value)(env:Env):
  compTurn (.ListComp elt [⟨t1,i1,f1,0⟩,⟨t2,i2,f2,0⟩] scope pos) 1 it acc env=(do
   standAt i2.pos
   match←pyNext it with
   |none=>pure (.done .next)
   |some v=>
    letOwnedTupleGo t2 it v
    assign t2 env v
    let mut ok:=true
    for c in f2 do
     if ok then ok←isTrue c env (eval c env)
    if ok then
     (do let _←call (.builtin "list.append") [acc, ←eval elt env])
    again (.compLoop (.ListComp elt [⟨t1,i1,f1,0⟩,⟨t2,i2,f2,0⟩] scope pos) 1 it acc env)):=by rfl
section
variable {prog:Program}{w:World}{A:Around}{R:Result->Shared->Prop}{s:Shared}{elt t1 i1 t2 i2:Expr}{f2:List Expr}{scope:Scope}{pos:Pos}{it acc:Value}{env:Env}
theorem U5(hs:∀x,foldedSetIterable i2 env x=pure x) (I:Nat->Shared->Prop)
  (turn:∀n s,I n s->wpAny (model prog w) A (pyNext it) (λr s₁=>match r with
   |none=>R (.ok .next) s₁
   |some v=>wpAny (model prog w) A (letOwnedTupleGo t1 it v) (λ_ iX=>wpAny (model prog w) A (assign t1 env v) (λ_ s₂=>wpAny (model prog w) A (eval i2 env) (λx s₃=>wpAny (model prog w) A (pyIter x) (λAw s₄=>
     codeAny (model prog w) A (.compStart (.ListComp elt [⟨t1,i1,[],0⟩,⟨t2,i2,f2,0⟩] scope pos) 1 Aw acc env) (λr s₅=>r=.ok .next/\∃m,m<n/\I m s₅) s₄) (λ_ _=>False) s₃) (λ_ _=>False) s₂) (λ_ _=>False) iX) (λ_ _=>False) s₁) (λ_ _=>False) s)
  (n:Nat) (h:I n s):
  codeAny (model prog w) A (.compLoop (.ListComp elt [⟨t1,i1,[],0⟩,⟨t2,i2,f2,0⟩] scope pos) 0 it acc env) R s:=by
 refine codeAny_loop rfl I (λn s hI=>?_) n h;show wpAny _ A ((compTurn (.ListComp elt [⟨t1,i1,[],0⟩,⟨t2,i2,f2,0⟩] scope pos) 0 it acc env).onRaise (λx=>do noteFrame x env;theTreesLotGoes x)) _ _ s;refine wpAny_noted ?_;rw[Ku];refine wpAny_bind (wpAny_standAt (wpAny_bind (wpAny_mono (turn n s hI) (λr s₁ h₁=>?_) λ_ _ h'=>h'.elim)));cases r with
 |none=>exact wpAny_pure h₁
 |some v=>
  refine wpAny_bind (wpAny_mono h₁ (λ_ iX rZ=>?_) λ_ _ h'=>h'.elim);refine wpAny_bind (wpAny_mono rZ (λ_ s₂ h₂=>wpAny_bind (wpAny_tests_nil ?_)) λ_ _ h'=>h'.elim);rw[if_pos rfl];refine wpAny_bind (wpAny_mono h₂ (λx s₃ h₃=>wpAny_bind (wpAny_standAt (wpAny_bind (wpAny_of_eq (hs x) (wpAny_bind (wpAny_holding (wpAny_mono h₃ (λAw s₄ h₄=>?_) λ_ _ h'=>h'.elim))))))) λ_ _ h'=>h'.elim);refine wpAny_bind (wpAny_runOwn ?_);rw[Around.mark_none];refine codeAny_mono h₄ λr s₅⟨hr,hm⟩=>?_;subst hr;exact wpAny_pure ⟨ae,hm⟩
theorem Yy(I:Nat->Shared->Prop)
  (turn:∀n s,I n s->wpAny (model prog w) A (pyNext it) (λr s₁=>match r with
   |none=>R (.ok .next) s₁
   |some v=>wpAny (model prog w) A (letOwnedTupleGo t2 it v) (λ_ iX=>wpAny (model prog w) A (assign t2 env v) (λ_ s₂=>
     wpAny (model prog w) A (forIn f2 true λc r=>if r=true then do let ok←isTrue c env (eval c env);pure (ForInStep.yield ok)else pure (ForInStep.yield r)) (λok s₃=>
      if ok=true then wpAny (model prog w) A (eval elt env) (λx s₄=>
       wpAny (model prog w) A (call (.builtin "list.append") [acc,x]) (λ_ s₅=>∃m,m<n/\I m s₅) (λ_ _=>False) s₄) (λ_ _=>False) s₃
      else ∃m,m<n/\I m s₃) (λ_ _=>False) s₂) (λ_ _=>False) iX) (λ_ _=>False) s₁) (λ_ _=>False) s)
  (n:Nat) (h:I n s):
  codeAny (model prog w) A (.compLoop (.ListComp elt [⟨t1,i1,[],0⟩,⟨t2,i2,f2,0⟩] scope pos) 1 it acc env) R s:=by
 refine codeAny_loop rfl I (λn s hI=>?_) n h;show wpAny _ A ((compTurn (.ListComp elt [⟨t1,i1,[],0⟩,⟨t2,i2,f2,0⟩] scope pos) 1 it acc env).onRaise (λx=>do noteFrame x env;theTreesLotGoes x)) _ _ s;refine wpAny_noted ?_;rw[Kf];refine wpAny_bind (wpAny_standAt (wpAny_bind (wpAny_mono (turn n s hI) (λr s₁ h₁=>?_) λ_ _ h'=>h'.elim)));cases r with
 |none=>exact wpAny_pure h₁
 |some v=>
  refine wpAny_bind (wpAny_mono h₁ (λ_ iX rZ=>?_) λ_ _ h'=>h'.elim);refine wpAny_bind (wpAny_mono rZ (λ_ s₂ h₂=>wpAny_bind (wpAny_mono h₂ (λok s₃ h₃=>?_) λ_ _ h'=>h'.elim)) λ_ _ h'=>h'.elim);cases ok with
  |false=>exact wpAny_pure ⟨ae,h₃⟩
  |true=>
   exact wpAny_bind (wpAny_bind (wpAny_mono h₃ (λx s₄ h₄=>wpAny_bind (wpAny_mono h₄ (λ_ s₅ h₅=>wpAny_pure (wpAny_pure ⟨ae,h₅⟩)) λ_ _ h'=>h'.elim)) λ_ _ h'=>h'.elim))
theorem Yz(h0:codeAny (model prog w) A (.compLoop (.ListComp elt [⟨t1,i1,[],0⟩,⟨t2,i2,f2,0⟩] scope pos) 1 it acc env) R s)
  (h:wpAny (model prog w) A (pyIter it) (λDh s'=>codeAny (model prog w) A (.compLoop (.ListComp elt [⟨t1,i1,[],0⟩,⟨t2,i2,f2,0⟩] scope pos) 1 Dh acc env) R s') (λ_ _=>False) s):
  codeAny (model prog w) A (.compStart (.ListComp elt [⟨t1,i1,[],0⟩,⟨t2,i2,f2,0⟩] scope pos) 1 it acc env) R s:=by
 refine codeAny_of_tree ?_;show wpAny _ _ ((compStart (.ListComp elt [⟨t1,i1,[],0⟩,⟨t2,i2,f2,0⟩] scope pos) 1 it acc env).onRaise (λx=>do noteFrame x env;standAt theWindowsPlace)) _ _ s;refine wpAny_notedAt ?_;unfold compStart;show wpAny _ _ (ask>>=_) _ _ s;refine wpAny_bind (wpAny_askSetting (wpAny_ite ?_))
 split
 ·first
   |exact wpAny_bind (wpAny_pure (wpAny_pure (And.intro rfl h0)))
   |exact wpAny_pure (And.intro rfl h0)
 ·first
   |exact wpAny_bind (wpAny_rule (wpAny_bind (wpAny_standAt (wpAny_bind (wpAny_mono h (λDh s' h'=>wpAny_pure (And.intro rfl h')) λ_ _ x=>x.elim)))))
   |(refine wpAny_bind (wpAny_rule ?_);show wpAny _ _ (standAt i2.pos>>=_) _ _ s;exact wpAny_bind (wpAny_standAt (wpAny_bind (wpAny_mono h (λDh s' h'=>wpAny_pure (And.intro rfl h')) λ_ _ x=>x.elim))))
end
noncomputable def kQ(n:Nat)(fi:List Nat)(wi:TI)(g:TG)(lr:TI)(g2:TG)(tt:TT)(te:TE):TE:=λσ H Q=>wi σ H λJ H1=>∃fv:List V,fi.map (λi=>σ[i]?)=fv.map (λv=>some (some v))/\∃W:Nat->Nat->List V->Hp->Prop,(∃m,W 0 m [] H1)/\∀i m vs H,W i m vs H->
 (J.stop i H/\∀p,H p=none->Q (.ref p) (upd H p (.lst vs)))\/(J.go i H/\∃N:List V->Hp->Prop,(∀sB H',N sB H'->∃m',m'<m/\W (i+1) m' sB H')/\
  ∀x H',J.bw i H x H'->g x (List.replicate n none++fv.map some) H' λσ2 H2=>Wk (List.replicate n none++fv.map some) σ2/\lr σ2 H2 λJ2 H3=>∃W2:Nat->Nat->List V->Hp->Prop,(∃m,W2 0 m vs H3)/\∀i2 m2 cr H4,W2 i2 m2 cr H4->
   (J2.stop i2 H4/\N cr H4)\/(J2.go i2 H4/\cr.length<sizeLine/\∃N2:List V->Hp->Prop,(∀sB H',N2 sB H'->∃m',m'<m2/\W2 (i2+1) m' sB H')/\
    ∀x2 H5,J2.bw i2 H4 x2 H5->g2 x2 σ2 H5 λσ3 H6=>Wk σ2 σ3/\tt σ3 H6 λb H7=>if b=true then te σ3 H7 λv H8=>N2 (cr++[v]) H8 else N2 cr H7))
section
variable {X:Cx}
theorem j6{elt t1 i1 t2 i2:Expr}{f2:List Expr}{scope:Scope}{pos:Pos}{NB FR:List Str}{fi:List Nat}{wi lr:TI}{g g2:TG}{tt:TT}{te:TE}(hc:X.calm=true)(S:bg NB FR scope)(ge:Wx scope X.env.scope=true)(cN:fi.map (λi=>X.N[i]?)=FR.map some) (hi:PI X t1 i1 wi)
  (hg:∀s H ex,PG (QE X (NB++FR) scope s H ex) t1 g) (bP:∀s H ex,PI (QE X (NB++FR) scope s H ex) t2 i2 lr) (Ca:∀s H ex,PG (QE X (NB++FR) scope s H ex) t2 g2) (ht:∀s H ex,iY (QE X (NB++FR) scope s H ex) f2 tt) (he:∀s H ex,PE (QE X (NB++FR) scope s H ex) elt te)
  (hs:∀x,foldedSetIterable i1 X.env x=pure x:=by intro _;rfl) (LT:∀env x,foldedSetIterable i2 env x=pure x:=by intro _ _;rfl):PE X (.ListComp elt [⟨t1,i1,[],0⟩,⟨t2,i2,f2,0⟩] scope pos) (kQ NB.length fi wi g lr g2 tt te):=by
 intro pins s σ H Q I h;refine KM (G:=λJ H1 fv=>∃W:Nat->Nat->List V->Hp->Prop,(∃m,W 0 m [] H1)/\∀i m vs H,W i m vs H->
  (J.stop i H/\∀p,H p=none->Q (.ref p) (upd H p (.lst vs)))\/(J.go i H/\∃N:List V->Hp->Prop,(∀sB H',N sB H'->∃m',m'<m/\W (i+1) m' sB H')/\
  ∀x H',J.bw i H x H'->g x (List.replicate NB.length none++fv.map some) H' λσ2 H2=>Wk (List.replicate NB.length none++fv.map some) σ2/\lr σ2 H2 λJ2 H3=>∃W2:Nat->Nat->List V->Hp->Prop,(∃m,W2 0 m vs H3)/\∀i2 m2 cr H4,W2 i2 m2 cr H4->
   (J2.stop i2 H4/\N cr H4)\/(J2.go i2 H4/\cr.length<sizeLine/\∃N2:List V->Hp->Prop,(∀sB H',N2 sB H'->∃m',m'<m2/\W2 (i2+1) m' sB H')/\
    ∀x2 H5,J2.bw i2 H4 x2 H5->g2 x2 σ2 H5 λσ3 H6=>Wk σ2 σ3/\tt σ3 H6 λb H7=>if b=true then te σ3 H7 λv H8=>N2 (cr++[v]) H8 else N2 cr H7))) I S ge cN hi h (λit D fp tn J fv H2 s3 s4 B T bN dJ hG IB=>?_) hs
 obtain⟨W,⟨m0,w0⟩,turn⟩:=hG;have Do:(QE X (NB++FR) scope s3 H2 (D::fp)).calm=true:=hc;refine U5 (LT _) (λn s'=>∃i vs ys H',Inv (QE X (NB++FR) scope s3 H2 (D::fp)) [(D,Q5 ys)] (List.replicate NB.length none++fv.map some) H' s'/\Vals vs ys/\vs.length<=sizeLine/\tn i s'.heap/\(∀b∈fp,H' b=none)/\W i n vs H') ?_ m0 ⟨0,[],[],H2,IB,.nil,nR _,bN,dJ,w0⟩;rintro n s5 ⟨i,vs,ys,H5,I5,rv,Ch,No,ST,w5⟩;rcases turn i n vs H5 w5 with⟨stop,qn⟩|⟨go,N,hN,step⟩
 ·refine wpAny_mono (T.done (QE X (NB++FR) scope s3 H2 (D::fp)) ae ae ae Do i _ s5 _ H5 (λ_ _=>False) I5 (B.Xr ST) No stop) (λr s6⟨hr,I6⟩=>?_) (λ_ _ z=>z.elim);subst hr;exact⟨ae,_,H5,vs,ys,I6,rv,Ch,qn⟩
 ·refine wpAny_mono (T.item (QE X (NB++FR) scope s3 H2 (D::fp)) ae ae ae Do i _ s5 _ H5 (λ_ _=>False) I5 (B.Xr ST) No go) (λr s6⟨u,hr,h6⟩=>?_) (λ_ _ z=>z.elim);subst hr;refine wpAny_mono h6 (λ_ s7⟨x,H7,I7,r7,y7,Gc,eQ⟩=>?_) (λ_ _ z=>z.elim);have eT:=I7.pinned (B.Xr eQ) (T.obj _ _ Gc);refine wpAny_mono (hg s3 H2 (D::fp) _ s7 _ H7 x u _ eT r7 (step x H7 y7)) (λ_ s8⟨σ8,H8,I8,MQ,q8⟩=>?_) (λ_ _ z=>z.elim);have cp:∀{σ':St}{H':Hp}{s':Shared}{fJ:List Value},Inv (QE X (NB++FR) scope s3 H2 (D::fp)) ([(D,Q5 fJ)]++Ju fp s7.heap) σ' H' s'->tn (i+1) s'.heap/\∀b∈fp,H' b=none:=λJ=>
   ⟨T.keep _ _ _ Gc λb hb o e=>(J.pin (b,o) (nu _ (nu _ (Qp hb e)))).1,λb hb=>by
    obtain⟨o,e,d⟩:=T.obj _ _ Gc b hb;exact(J.pin (b,o) (nu _ (nu _ (Qp hb e)))).2.1⟩
  have MR:∀p∈Ju fp s7.heap,p.1≠D:=λp hp=>(B.fp p.1 (ZK hp).1).1;refine wpAny_mono (bP s3 H2 (D::fp) _ s8 σ8 H8 _ I8 q8) (λv2 s9 h9=>wpAny_mono h9 (λMS LE r8=>?_) λ_ _ z=>z.elim) (λ_ _ z=>z.elim);obtain⟨Aw,fO,Gu,J2,pi,e2,Tl,T2,tU,eV,W2,⟨MT,MU⟩,tV⟩:=r8;subst e2;have Gv:∀b∈fO,b≠D:=λb hb=>by
   have:=(eV b hb).2.2.2.2.2 (D,Q5 ys) (nu _ (ny _ (by simp)));exact λz=>this z.symm
  have fw:∀{H':Hp}{fJ:List Value},(∀b∈fO,H' b=none)->∀b∈fO,VP (QE X (NB++FR) scope s3 H2 (D::fp)) ([(D,Q5 fJ)]++Ju fp s7.heap) H' b:=λhn b hb=>by
   obtain⟨_,h2,h3,h4,h5,h6⟩:=eV b hb;refine⟨hn b hb,h2,h3,h4,h5,λp hp=>?_⟩;rcases List.mem_append.mp hp with z|z
   ·cases z
   ·rcases List.mem_append.mp z with z|z
    ·rw[List.mem_singleton.mp z];exact(Gv b hb).symm
    ·exact h6 p (nu _ (nu _ z))
  have inner:codeAny (model X.prog X.w) X.A (.compLoop (.ListComp elt [⟨t1,i1,[],0⟩,⟨t2,i2,f2,0⟩] scope pos) 1 (.ref Aw) (.ref D) (Ww scope X.env s3.heap.objs.size)) (λr s₅=>r=.ok .next/\∃m,m<n/\∃i vs ys H',Inv (QE X (NB++FR) scope s3 H2 (D::fp)) [(D,Q5 ys)] (List.replicate NB.length none++fv.map some) H' s₅/\Vals vs ys/\vs.length<=sizeLine/\tn i s₅.heap/\(∀b∈fp,H' b=none)/\W i m vs H') LE:=by
   refine Yy (λn2 s'=>∃j cr o3 H',Inv (QE X (NB++FR) scope s3 H2 (D::fp)) ([(D,Q5 o3)]++Ju fp s7.heap) σ8 H' s'/\Vals cr o3/\cr.length<=sizeLine/\Gu j s'.heap/\(∀b∈fO,H' b=none)/\W2 j n2 cr H') ?_ MT ⟨0,vs,ys,pi,Tl,rv,Ch,tU,λb hb=>(eV b hb).1,MU⟩;rintro n2 Gw ⟨j,cr,o3,dA,cu,dn,tW,tX,tY,eU⟩;rcases tV j n2 cr dA eU with⟨stop,qn⟩|⟨go,bi,N2,Gx,tZ⟩
   ·refine wpAny_mono (T2.done (QE X (NB++FR) scope s3 H2 (D::fp)) ae ae ae Do j _ Gw _ dA (λ_ _=>False) cu (fw tY) tX stop) (λr Ad⟨hr,Gy⟩=>?_) (λ_ _ z=>z.elim);subst hr;obtain⟨m',hm,MV⟩:=hN cr dA qn;obtain⟨MW,MX⟩:=cp Gy;exact⟨ae,m',hm,i+1,cr,o3,dA,MQ.inv Gy.QL,dn,tW,MW,MX,MV⟩
   ·refine wpAny_mono (T2.item (QE X (NB++FR) scope s3 H2 (D::fp)) ae ae ae Do j _ Gw _ dA (λ_ _=>False) cu (fw tY) tX go) (λr Ad⟨u2,hr,Gz⟩=>?_) (λ_ _ z=>z.elim);subst hr;refine wpAny_mono Gz (λ_ GD⟨x2,pU,MY,MZ,M0,o4,Di⟩=>?_) (λ_ _ z=>z.elim);have ua:=MY.pinned (fw Di) (T2.obj _ _ o4);rw[nH]at ua;refine wpAny_mono (Ca s3 H2 (D::fp) _ GD _ pU x2 u2 _ ua MZ (tZ x2 pU M0)) (λ_ M3⟨σ14,CI,M',ub,Na⟩=>?_) (λ_ _ z=>z.elim);refine wpAny_mono (ht s3 H2 (D::fp) _ M3 σ14 CI _ M' Na) (λok Nb⟨tj,GF,Ax⟩=>?_) (λ_ _ z=>z.elim);have uc:∀{σ':St}{H':Hp}{s':Shared}{fJ:List Value},Inv (QE X (NB++FR) scope s3 H2 (D::fp)) ([(D,Q5 fJ)]++(Ju fp s7.heap++Ju fO GD.heap)) σ' H' s'->(Gu (j+1) s'.heap/\∀b∈fO,H' b=none)/\Inv (QE X (NB++FR) scope s3 H2 (D::fp)) ([(D,Q5 fJ)]++Ju fp s7.heap) σ' H' s':=λJ=>
     ⟨⟨T2.keep _ _ _ o4 λb hb o e=>(J.pin (b,o) (nu _ (nu _ (nu _ (Qp hb e))))).1,λb hb=>by
      obtain⟨o,e,d⟩:=T2.obj _ _ o4 b hb;exact(J.pin (b,o) (nu _ (nu _ (nu _ (Qp hb e))))).2.1⟩,by rw[←nH]at J;exact J.QL⟩
    cases ok with
    |false=>
     rw[if_neg (by decide)]at Ax;rw[if_neg (by decide)];obtain⟨m',hm,Nc⟩:=Gx cr tj Ax;obtain⟨⟨Nd,Nf⟩,Ng⟩:=uc GF;exact⟨m',hm,j+1,cr,o3,tj,ub.inv Ng,dn,tW,Nd,Nf,Nc⟩
    |true=>
     rw[if_pos rfl]at Ax;rw[if_pos rfl];refine wpAny_mono (he s3 H2 (D::fp) _ Nb σ14 tj _ GF Ax) (λy s16⟨v,CJ,Nh,Dj,Ni⟩=>?_) (λ_ _ z=>z.elim);have ip:=dn.length;obtain⟨m',hm,Nj⟩:=Gx (cr++[v]) CJ Ni;refine B.append (A:=X.A) Nh (λp hp=>?_) (by lia) λ_ h17 Nk k17=>?_
     ·rcases List.mem_append.mp hp with z|z
      ·exact MR p z
      ·exact Gv p.1 (ZK z).1
     ·obtain⟨⟨Nl,Nm⟩,Nn⟩:=uc Nk;exact⟨m',hm,j+1,cr++[v],o3++[y],CJ,ub.inv Nn,dn.append (.cons Dj .nil),by rw[m5,ni];exact bi,Nl,Nm,Nj⟩
  exact Yz inner (T2.self _ 0 _ _ _ tU inner)
end
theorem j7(a d:Value):argsOk "max" ⟨[a],[(Str.ofString "default",d)]⟩:=by unfold argsOk;kernel_rfl
section
variable {prog:Program}{w:World}{A:Around}{R:Result->Shared->Prop}{I:Addr}{fp wr:List Addr}{G:Array GenState->Array GenState->Prop}{n:Nat}{P:Nat->Value->Prop}{Dl:Nat->Shared->Prop}
theorem vf(W:WalksS prog w A.in1 I fp wr G n P Dl)(bt:Nat->Nat->Bool)(o5:CmpOf prog w A.in1 .Gt P bt)(S:Addr)(rb:S∉fp)(q:Str)(d:Value):
  ∀(k j:Nat)(s:Shared)(vb:Value)(c:Nat),n-(j+1)=k->j+1<=n->Dl (j+1) s->P (argBest bt j) vb->s.heap.get? S=some {cls:=.type "list",data:=.seq #[vb,vb] c}->
  (∀v s',P (argBest bt (n-1)) v->Moved (S::wr) G s s'->R (.ok (.ret v)) s')->codeAny (model prog w) A (.builtin "max.loop" ⟨[.ref I,.none,.ref S],[(q,d)]⟩) R s:=by
 have Ay:S∉wr:=λz=>rb (W.sub _ z);have On:∀b∈wr,b∈S::wr:=λb z=>nz _ z;have nm:(toString "max"++toString ".loop":String)="max.loop":=by decide
 have nS:∀{b:Addr},b∉S::wr->S≠b:=λz e=>z (by rw[e];exact nA);intro k
 induction k with
 |zero=>
  intro j s vb c hk hj PP Az hS hR;have iH:j+1=n:=by lia
  refine codeAny_builtin F.entry_max_loop ?_;rw[Around.under_plainId F.plain_max_loop _];show wpAny _ _ (seqItems? (.ref S)>>=_) _ _ _;refine wpAny_bind (wpAny_seqItems hS ae ?_);show wpAny _ _ (tryCatch (pyNext (.ref I)) _>>=_) _ _ _;refine wpAny_bind (wpAny_tryCatch (W.done s _ _ (iH▸PP) λs' hm=>?_));have cT:=hm.heap S _ Ay hS;show wpAny _ _ (updateSeq S (λ_=> #[])>>=_) _ _ _;refine wpAny_bind (wpAny_updateSeq cT ae (wpAny_bind (wpAny_letGo (wpAny_pure ?_))));exact hR vb _ (by rw[←iH];exact Az) ((hm.mono On).then_heap (tk:=s'.toks) (ng _) λb o z e=>(Heap.get?_update_other _ _ (nS z)).trans e)
 |succ k ih=>
  intro j s vb c hk hj PP Az hS hR;have bi:j+1<n:=by lia
  refine codeAny_builtin F.entry_max_loop ?_;rw[Around.under_plainId F.plain_max_loop _];show wpAny _ _ (seqItems? (.ref S)>>=_) _ _ _;refine wpAny_bind (wpAny_seqItems hS ae ?_);show wpAny _ _ (tryCatch (pyNext (.ref I)) _>>=_) _ _ _;refine wpAny_bind (wpAny_tryCatch (W.item (j+1) s _ _ bi PP λv s' hP cU hm=>?_));have cT:=hm.heap S _ Ay hS;show wpAny _ _ (tryCatch (holding [v,v] (richCompare .Gt v vb>>=_)) _>>=_) _ _ _;refine wpAny_bind (wpAny_tryCatch (wpAny_holding (wpAny_bind (o5 (j+1) (argBest bt j) v vb _ _ _ hP Az (wpAny_bind (wpAny_holding (wpAny_truthy_bool (wpAny_bind (wpAny_letGo (wpAny_pure ?_))))))))));cases hb:bt (j+1) (argBest bt j)with
  |true=>
   simp only[if_true];refine wpAny_bind (wpAny_updateSeq cT ae (wpAny_bind (wpAny_letGo ?_)));rw[nm];refine wpAny_pure ⟨plainId_quiet F.plain_max_loop _,ih (j+1) _ v _ (by lia) bi (W.frame _ s' _ s'.toks cU (ng _) λb Dq o e=>(Heap.get?_update_other _ _ (λz:S=b=>rb (by rw[z];exact Dq))).trans e) (by simp only[argBest,hb,if_true];exact hP) (Heap.get?_update_self _ cT ae) λv' bM ue cV=>?_⟩;exact hR v' bM ue (Moved.trans W.gtrans ((hm.mono On).then_heap (ng _) λb o z e=>(Heap.get?_update_other _ _ (nS z)).trans e) cV)
  |false=>
   simp only[Bool.false_eq_true,if_false];refine wpAny_bind (wpAny_letGo ?_);rw[nm];exact wpAny_pure ⟨plainId_quiet F.plain_max_loop _,ih (j+1) _ vb c (by lia) bi cU (by simp only[argBest,hb,Bool.false_eq_true,if_false];exact Az) cT λv' bM ue cV=>hR v' bM ue (Moved.trans W.gtrans (hm.mono On) cV)⟩
theorem j8{x d:Value}{Q:Value->Shared->Prop}{E:Value->Shared->Prop}{s:Shared}
  (h:wpAny (model prog w) A.in1 (pyIter x) (λit s₂=>∃I fp wr G n P St bt,it=.ref I/\WalksS prog w A.in1 I fp wr G n P St/\St 0 s₂/\(∀b∈fp,b<s₂.heap.objs.size)/\CmpOf prog w A.in1 .Gt P bt/\
   (0<n->∀v s',P (argBest bt (n-1)) v->Moved wr G s₂ s'->Q v s')/\(n=0->∀s',Moved wr G s₂ s'->Q d s')) E s):
  wpAny (model prog w) A (call (.builtin "max") [x] [(Str.ofString "default",d)]) Q E s:=by
 have nm:(toString "max"++toString ".loop":String)="max.loop":=by decide
 refine kmk_tree F.kind_max F.plain_max F.entry_max (j7 _ _) ?_;show wpAny _ _ (Builtin.Builtins.bindParams "max" ["key","default"] 0 ⟨[],[(Str.ofString "default",d)]⟩>>=_) _ _ _;refine wpAny_bind (wpAny_of_eq (show Builtin.Builtins.bindParams "max" ["key","default"] 0 ⟨[],[(Str.ofString "default",d)]⟩=pure [none,some d]from ae) ?_);refine wpAny_bind (wpAny_pure (wpAny_bind (wpAny_mono h (λit s₂ h₂=>?_) λ_ _ e=>e)));obtain⟨I,fp,wr,G,n,P,Dl,bt,rfl,W,PP,Np,o5,hQ,Nq⟩:=h₂;refine wpAny_bind (wpAny_newObj_type ?_);have rb:s₂.heap.objs.size∉fp:=λz=>nU _ (Np _ z);have Ay:s₂.heap.objs.size∉wr:=λz=>rb (W.sub _ z);have On:∀b∈wr,b∈s₂.heap.objs.size::wr:=λb z=>nz _ z;rw[nm];have uf:=W.frame 0 s₂ (s₂.heap.push {cls:=.type "list",data:=.seq ([]:List Value).toArray}) s₂.toks PP (ng _) λb _ o e=>Heap.get?_push_of_some _ e;have sx:(s₂.heap.push {cls:=.type "list",data:=.seq ([]:List Value).toArray}).get? s₂.heap.objs.size=some {cls:=.type "list",data:=.seq ([]:List Value).toArray}:=Heap.get?_push_size _ rfl;refine wpAny_pure ⟨plainId_quiet F.plain_max_loop _,codeAny_builtin F.entry_max_loop ?_⟩;rw[Around.under_plainId F.plain_max_loop _];show wpAny _ _ (seqItems? (.ref _)>>=_) _ _ _;refine wpAny_bind (wpAny_seqItems sx ae ?_);show wpAny _ _ (tryCatch (pyNext (.ref I)) _>>=_) _ _ _
 by_cases hn:0<n
 ·refine wpAny_bind (wpAny_tryCatch (W.item 0 _ _ _ hn uf λv s' hP cU hm=>?_));have cT:=hm.heap _ _ Ay sx;show wpAny _ _ (updateSeq _ (λ_=> #[v,v])>>=_) _ _ _;refine wpAny_bind (wpAny_updateSeq cT ae ?_);rw[nm];refine wpAny_pure ⟨plainId_quiet F.plain_max_loop _,vf W bt o5 _ rb _ d _ 0 _ v _ rfl hn (W.frame _ s' _ s'.toks cU (ng _) λb Dq o e=>(Heap.get?_update_other _ _ (λz:_=b=>rb (by rw[z];exact Dq))).trans e) hP (Heap.get?_update_self _ cT ae) λv' bM ue cV=>?_⟩;refine hQ hn v' bM ue (Moved.drop_new (tk:=s₂.toks) (Moved.trans W.gtrans ((hm.mono On).then_heap (ng _) λb o z e=>(Heap.get?_update_other _ _ (λy:_=b=>z (by rw[←y];exact nA))).trans e) cV) (ng _))
 ·have h0:n=0:=by lia
  refine wpAny_bind (wpAny_tryCatch (W.done _ _ _ (h0▸uf) λs' hm=>?_));exact wpAny_bind (wpAny_rule (wpAny_pure (Nq h0 s' (Moved.drop_new (tk:=s₂.toks) (hm.mono On) (ng _)))))
end
noncomputable def yD(K:Frag)(ti td:TE):TE:=λσ H Q=>ti σ H λx H1=>td σ H1 λd H2=>∃(p:Addr)(ns:List Int)(i:Int),x=.ref p/\d=.int i/\aJ K H2 p (ns.map V.int)/\(ns=[]->Q (.int i) H2)/\∀m,m∈ns->(∀n∈ns,n<=m)->Q (.int m) H2
theorem vg{X:Cx}{e ed:Expr}{ti td:TE}{p oZ ce:Pos}(hc:X.calm=true)(hg:Gl X "max")(hm:X.mg "max"=none)(hi:PE X e ti)(hd:PE X ed td)
  (he:backTo ce (starEach [e] X.env)=(false,eval e X.env)::backTo ce (starEach [] X.env):=by rfl):PE X (.Call (.Name "max" p) [e] [⟨some "default",ed,oZ⟩] ce) (yD X.K ti td):=by
 intro pins s σ H Q I h;refine wpAny_Call_Name_kw (JL I hg hm boot_max ?_);refine callWith_kw ?_ he (by rw[he];rfl);rw[he];show wpAny _ _ (spliced ((false,eval e X.env)::[])) _ _ s;refine Calls.spliced_cons (ax (hi pins s σ H _ I h) λu s1⟨xv,H0,I0,r0,h0⟩=>Calls.spliced_nil ?_);show wpAny _ _ (evalAll [do let v←eval ed X.env;standAt ce;pure v]) _ _ s1;refine wpAny_evalAll_cons (wpAny_bind (ax (hd pins s1 σ H0 _ I0 h0) λud s2⟨dv,H2,I2,r2,q2⟩=>wpAny_bind (wpAny_standAt (wpAny_pure (wpAny_evalAll_nil ?_)))));obtain⟨l,ns,i,rfl,rfl,hq,q0,q⟩:=q2;show wpAny _ _ (call (.builtin "max") [u] [(Str.ofString "default",ud)]) _ _ s2;obtain rfl:u=Value.ref l:=r0;obtain⟨Nr,rfl⟩:=r2;obtain⟨ad,rv,pl,hl⟩:=I2.list hq;have o6:=pl.isList;have bi:l<s2.heap.objs.size:=by obtain⟨o,e,_⟩:=o6;exact Heap.lt_size e
 have hlen:=rv.length;rw[m7]at hlen;refine j8 (wpAny_pyIter_list o6 ?_);have I3:Inv X pins σ H2 {s2 with heap:=s2.heap.push {cls:=.type "list_iterator",data:=.fields #[.ref l,.int 0 0]}}:=I2.kept (t':=s2.toks) λb o e=>Heap.get?_push_of_some _ e;have fin:∀(s':Shared),Moved [s2.heap.objs.size] (λa b=>a=b) {s2 with heap:=s2.heap.push {cls:=.type "list_iterator",data:=.fields #[.ref l,.int 0 0]}} s'->Inv X pins σ H2 s':=λs' hm=>by
  obtain⟨f0,f1,f2,f3,f4,f5⟩:=I2.zM (ng _) (I2.aj.fresh (ng _));obtain⟨h',g',d',dC,rO⟩:=s';obtain rfl:g'=s2.gens:=hm.gens.symm;obtain rfl:d'=s2.drawn:=hm.drawn;obtain rfl:rO=s2.os:=hm.os;exact(I3.turned (h':=h') (t':=dC) (it:=s2.heap.objs.size) (λb o hb eo=>hm.heap b o (by simpa using hb) eo) f0 f1 f3 f4 f5:)
 refine⟨s2.heap.objs.size,_,_,_,_,_,_,_,ae,KB (A:=X.A.in1) (I2.ok.hd hc) _ l (Nat.ne_of_lt bi) ad.toArray,⟨⟨_,Heap.get?_push_size _ rfl,ae,ae⟩,o6.push _⟩,λb hb=>?_,CmpOf.ints_gt (λi=>ns.getD i 0) (q5 rv),λo7 v s' hv hm=>?_,λh0 s' hm=>?_⟩
 ·show b<(s2.heap.push _).objs.size;rw[Heap.size_push];rcases List.mem_cons.mp hb with rfl|hb
  ·exact Nat.lt_succ_self _
  ·rw[List.mem_singleton.mp hb];exact Nat.lt_succ_of_lt bi
 ·obtain⟨t,rfl⟩:=q5 rv _ _ hv;obtain⟨b1,b2⟩:=wq (λi=>ns.getD i 0) (ad.toArray.size-1);generalize argBest (λi j=>decide (ns.getD i 0>ns.getD j 0)) (ad.toArray.size-1)=j at b1 b2;rw[nQ]at b1 b2 o7;have hj:j<ns.length:=by lia
  refine⟨.int (ns.getD j 0),H2,fin s' hm,⟨t,ae⟩,q _ ?_ λn hn=>?_⟩
  ·have:ns.getD j 0=ns[j]:=by simp[List.getD,List.getElem?_eq_getElem hj]
   rw[this];exact List.getElem_mem hj
  ·obtain⟨i,hi,rfl⟩:=List.mem_iff_getElem.mp hn;have e:ns.getD i 0=ns[i]:=by simp[List.getD,List.getElem?_eq_getElem hi]
   rw[←e];exact b2 i (by lia)
 ·rw[nQ]at h0;have hn:ns=[]:=List.length_eq_zero_iff.mp (by lia);exact⟨.int i,H2,fin s' hm,⟨Nr,ae⟩,q0 hn⟩
end L2
namespace aB
open PySem PySem.SetTable
noncomputable def path(t:SetTable)(h:Int):Nat->Probe
 |0=>t.probeStart h
 |n+1=>t.advance (path t h n)
noncomputable def Small(m:Nat):Prop:=m=7\/m=31
noncomputable def ly(m:Nat):Nat->Nat->Nat
 |0,i=>i
 |d+1,i=>ly m d ((i*5+1) % (m+1))
theorem xQ:∀i,i<=7->∀e,e<=7->∃d,d<=7/\ly 7 d i=e:=by decide+kernel
theorem j9:∀i,i<=31->∀e,e<=31->∃d,d<=31/\ly 31 d i=e:=by decide+kernel
theorem za{m:Nat}(hm:Small m){i e:Nat}(hi:i<=m)(he:e<=m):∃d,d<=m/\ly m d i=e:=by
 rcases hm with rfl|rfl
 ·exact xQ i hi e he
 ·exact j9 i hi e he
noncomputable def run(t:SetTable)(i P:Nat):Probe:={j:=i,more:=runEnd t.mask i-i,i:=i,perturb:=P,dummy:=none}
theorem vh(m i:Nat):runEnd m i-i<=9:=by unfold runEnd;split<;>lia
theorem ZT{t:SetTable}{h:Int}{n i P:Nat}(e:path t h n=run t i P):∀k,k<=runEnd t.mask i-i->path t h (n+k)={run t i P with j:=i+k,more:=runEnd t.mask i-i-k}
 |0,_=>by rw[Nat.add_zero,e];rfl
 |k+1,hk=>by
  have ih:=ZT e k (by lia);show t.advance (path t h (n+k))=_;rw[ih];unfold advance;rw[if_pos (by show runEnd t.mask i-i-k>0;lia)];show({run t i P with j:=i+k+1,more:=runEnd t.mask i-i-k-1}:Probe)=_;rw[show i+k+1=i+(k+1) by lia,show runEnd t.mask i-i-k-1=runEnd t.mask i-i-(k+1) by lia]
theorem Vs{t:SetTable}{h:Int}{n i P:Nat}(e:path t h n=run t i P):path t h (n+(runEnd t.mask i-i)+1)=run t ((i*5+1+P/32) % (t.mask+1)) (P/32):=by
 have:=ZT e (runEnd t.mask i-i) (ng _);show t.advance (path t h (n+(runEnd t.mask i-i)))=_;rw[this];unfold advance;rw[if_neg (by show ¬ (runEnd t.mask i-i-(runEnd t.mask i-i)>0);lia)];rfl
theorem Xa{t:SetTable}{h:Int}:∀(d n i P:Nat),path t h n=run t i P->i<=t.mask->∃n' i',n'<=n+10*d/\path t h n'=run t i' (P/32^d)/\i'<=t.mask/\(P=0->i'=ly t.mask d i)
 |0,n,i,P,e,hi=>⟨n,i,by lia,by rw[Nat.pow_zero,Nat.div_one];exact e,hi,λ_=>rfl⟩
 |d+1,n,i,P,e,hi=>by
  have h1:=Vs e;have hr:=vh t.mask i;obtain⟨n',i',a,b,c,z⟩:=Xa d _ _ _ h1 (by have:=Nat.mod_lt (i*5+1+P/32) (show 0<t.mask+1 by lia);lia);refine⟨n',i',by lia,?_,c,λhp=>?_⟩
  ·rw[b,Nat.div_div_eq_div_mul,Nat.pow_succ,Nat.mul_comm]
  ·subst hp;rw[z (by rw[Nat.zero_div])];show ly t.mask d ((i*5+1+0/32) % (t.mask+1))=ly t.mask (d+1) i;rw[Nat.zero_div,Nat.add_zero];rfl
theorem zb(h:Int):bits h<2^64:=by
 unfold bits;have h1:=Int.emod_nonneg h (show(2^64:Int)≠0 by decide);have h2:=Int.emod_lt_of_pos h (show(0:Int)<2^64 by decide);lia
theorem xR{t:SetTable}(hm:Small t.mask)(h:Int){e:Nat}(he:e<=t.mask):∃n,n<10*turns t.mask/\(path t h n).j=e:=by
 have e0:path t h 0=run t (bits h % (t.mask+1)) (bits h):=rfl;have ug:bits h % (t.mask+1)<=t.mask:=by have:=Nat.mod_lt (bits h) (show 0<t.mask+1 by lia);lia
 obtain⟨n1,i1,a1,b1,c1,_⟩:=Xa 13 0 _ _ e0 ug;have hz:bits h/32^13=0:=Nat.div_eq_of_lt (Nat.lt_of_lt_of_le (zb h) (by decide));rw[hz]at b1;obtain⟨d,hd,Dt⟩:=za hm c1 he;obtain⟨n2,i2,a2,b2,c2,z2⟩:=Xa d n1 i1 0 b1 c1;refine⟨n2,?_,?_⟩
 ·unfold turns;lia
 ·rw[b2, ←Dt, ←z2 rfl];rfl
structure Ok(hs:List Int)(t:SetTable):Prop where
 mask:Small t.mask
 lC:t.dummies= #[]
 len:t.place.size=hs.length
 ups:t.place.toList.Pairwise (· < ·)
 le:∀x∈t.place.toList,x<=t.mask
 on:∀q∈hs.zip t.place.toList,∃n,(path t q.1 n).j=q.2/\∀m,m<n->(path t q.1 m).j∈t.place.toList
noncomputable def JC(hs:List Int)(t:SetTable):Prop:=hs.length*5<t.mask*3
variable {hs:List Int}{t:SetTable}
theorem Ok.up(o:Ok hs t):∀i j(hi:i<t.place.size)(hj:j<t.place.size),i<j->t.place[i]<t.place[j]:=λi j hi hj h=>by
 have:=List.pairwise_iff_getElem.mp o.ups i j (by simpa using hi) (by simpa using hj) h;simpa using this
theorem xT(f m:Nat)(led:Bool):Ok [] (SetTable.fresh f m led):=
 ⟨.inl rfl,ae,ae,List.Pairwise.nil,λx hx=>by simp[SetTable.fresh]at hx,λq hq=>by simp at hq⟩
theorem U6(f m:Nat)(led:Bool):JC [] (SetTable.fresh f m led):=by show 0*5<7*3;decide
theorem Wy{xs:Array Nat}{j:Nat}(up:∀i k(hi:i<xs.size)(hk:k<xs.size),i<k->xs[i]<xs[k]):∀(f lo hi:Nat),hi<=xs.size->lo<=hi->hi-lo<=f->(∀k(hk:k<xs.size),k<lo->xs[k]<j)->(∀k(hk:k<xs.size),hi<=k->j<=xs[k])->
  below.go xs j f lo hi<=xs.size/\(∀k(hk:k<xs.size),k<below.go xs j f lo hi->xs[k]<j)/\(∀k(hk:k<xs.size),below.go xs j f lo hi<=k->j<=xs[k])
 |0,lo,hi,h1,h2,h3,a,b=>by
  unfold below.go;exact⟨by lia,a,λk hk hl=>b k hk (by lia)⟩
 |f+1,lo,hi,h1,h2,h3,a,b=>by
  unfold below.go
  by_cases bi:lo<hi
  ·rw[if_pos bi];have hm:(lo+hi)/2<xs.size:=by lia
   have e:xs.getD ((lo+hi)/2) j=xs[(lo+hi)/2]:=by simp[Array.getD,hm]
   dsimp only;rw[e]
   by_cases hc:xs[(lo+hi)/2]<j
   ·rw[if_pos hc];refine Wy up f _ hi h1 (by lia) (by lia) (λk hk hl=>?_) b
    by_cases z:k=(lo+hi)/2
    ·subst z;exact hc
    ·exact Nat.lt_trans (up k _ hk hm (by lia)) hc
   ·rw[if_neg hc];refine Wy up f lo _ (by lia) (by lia) (by lia) a λk hk hl=>?_
    by_cases z:k=(lo+hi)/2
    ·subst z;lia
    ·have:=up _ k hm hk (by lia);lia
  ·rw[if_neg bi];exact⟨by lia,a,λk hk hl=>b k hk (by lia)⟩
theorem below_at(o:Ok hs t)(j:Nat):below t.place j<=t.place.size/\(∀k(hk:k<t.place.size),k<below t.place j->t.place[k]<j)/\(∀k(hk:k<t.place.size),below t.place j<=k->j<=t.place[k]):=
 Wy o.up _ 0 _ (ng _) (nR _) (by lia) (λk _ h=>by lia) (λk hk h=>by lia)
theorem JN(o:Ok hs t){i j:Nat}(h:t.place[i]? =some j):t.slot j=.live i:=by
 obtain⟨hi,e⟩:=Array.getElem?_eq_some_iff.mp h;obtain⟨b1,b2,b3⟩:=below_at o j;have:below t.place j=i:=by
  rcases Nat.lt_trichotomy (below t.place j) i with z|z|z
  ·have h1:=b3 _ (by lia) (ng _);have h2:=o.up (below t.place j) i (by lia) hi z;lia
  ·exact z
  ·have:=b2 i hi z;lia
 unfold slot;dsimp only;rw[this,h];simp
theorem U7(o:Ok hs t){j:Nat}(h:j∉t.place.toList):t.slot j=.empty:=by
 unfold slot;dsimp only;have h1:(t.place[below t.place j]? ==some j)=false:=by
  cases e:t.place[below t.place j]? with
  |none=>rfl
  |some x=>
   have:x∈t.place.toList:=Array.mem_toList_iff.mpr (Array.mem_of_getElem? e);have hx:x≠j:=λz=>h (z▸this);simp[hx]
 rw[h1];have h2:has t.dummies j=false:=by rw[o.lC];rfl
 rw[h2];simp
theorem zc(o:Ok hs t)(r:JC hs t):∃e,e<=t.mask/\e∉t.place.toList:=by
 have bi:t.place.toList.length<(List.range (t.mask+1)).length:=by
  have:=o.len;unfold JC at r;simp only[nO,List.length_range];lia
 have:∃e∈List.range (t.mask+1),e∉t.place.toList:=by
  refine Classical.byContradiction λhn=>?_;have Cl:∀e∈List.range (t.mask+1),e∈t.place.toList:=λe he=>Classical.byContradiction λz=>hn ⟨e,he,z⟩;have p7:(List.range (t.mask+1)).Nodup:=List.nodup_range;have:=List.Nodup.length_le_of_subset p7 Cl;lia
 obtain⟨e,he,hn⟩:=this;exact⟨e,by simpa using Nat.lt_succ_iff.mp (by simpa using he),hn⟩
theorem U8(o:Ok hs t)(r:JC hs t)(h:Int):∃N,N<10*turns t.mask/\(path t h N).j∉t.place.toList/\∀m,m<N->(path t h m).j∈t.place.toList:=by
 obtain⟨e,he,hn⟩:=zc o r;obtain⟨n,CU,Du⟩:=xR o.mask h he;have key:∀n,(path t h n).j∉t.place.toList->∃N,N<=n/\(path t h N).j∉t.place.toList/\∀m,m<N->(path t h m).j∈t.place.toList:=by
  intro n
  induction n using Nat.strongRecOn with
  |ind n ih=>
   intro hf
   by_cases hm:∃m,m<n/\(path t h m).j∉t.place.toList
   ·obtain⟨m,h1,h2⟩:=hm;obtain⟨N,a,b⟩:=ih m h1 h2;exact⟨N,by lia,b⟩
   ·exact⟨n,ng _,hf,λm d9=>Classical.byContradiction λz=>hm ⟨m,d9,z⟩⟩
 obtain⟨N,a,b⟩:=key n (by rw[Du];exact hn);exact⟨N,by lia,b⟩
theorem KN(t:SetTable)(h:Int):∀n,(path t h n).dummy=none
 |0=>rfl
 |n+1=>by
  have:=KN t h n;show(t.advance (path t h n)).dummy=none;unfold advance
  split
  ·exact this
  ·exact this
theorem Um(o:Ok hs t){hashAt:Nat->Int}{h:Int}{N:Nat}(hN:(path t h N).j∉t.place.toList)(bi:∀m,m<N->(path t h m).j∈t.place.toList):∀(d f n:Nat),n+d=N->d<f->
  (probe.go t hashAt h f (path t h n)=some (.empty (path t h N).j none)/\∀m,n<=m->m<N->∀i,t.place[i]? =some (path t h m).j->hashAt i≠h)\/
  ∃m i,n<=m/\m<N/\t.place[i]? =some (path t h m).j/\hashAt i=h/\probe.go t hashAt h f (path t h n)=some (.candidate (path t h m).j i (path t h (m+1)))/\∀m',n<=m'->m'<m->∀i,t.place[i]? =some (path t h m').j->hashAt i≠h
 |0,f,n,hd,hf=>by
  obtain⟨f,rfl⟩:∃f',f=f'+1:=⟨f-1,by lia⟩;have:n=N:=by lia
  subst this;refine .inl ⟨?_,λm h1 h2=>by lia⟩;unfold probe.go;rw[U7 o hN,KN]
 |d+1,f,n,hd,hf=>by
  obtain⟨f,rfl⟩:∃f',f=f'+1:=⟨f-1,by lia⟩;have iH:=bi n (by lia);obtain⟨i,hi,e⟩:=List.mem_iff_getElem.mp iH;have hp:t.place[i]? =some (path t h n).j:=by
   rw[nO]at hi;rw[Array.getElem?_eq_getElem hi];simpa using e
  have uniq:∀i',t.place[i']? =some (path t h n).j->i'=i:=λi' h'=>by
   have a1:=JN o h';rw[JN o hp]at a1;cases a1;rfl
  unfold probe.go;rw[JN o hp];dsimp only
  by_cases hc:hashAt i=h
  ·rw[if_pos (by rw[hc];exact beq_self_eq_true h)];exact .inr ⟨n,i,ng _,by lia,hp,hc,ae,λm' h1 h2=>by lia⟩
  ·rw[if_neg (by rw[beq_iff_eq];exact hc)];rcases Um o hN bi d f (n+1) (by lia) (by lia)with⟨r,q⟩|⟨m,i2,h1,h2,h3,h4,r,q⟩
   ·refine .inl ⟨r,λm h1 h2 i' h'=>?_⟩
    by_cases z:m=n
    ·subst z;rw[uniq i' h'];exact hc
    ·exact q m (by lia) h2 i' h'
   ·refine .inr ⟨m,i2,by lia,h2,h3,h4,r,λm' h1' fu i' h'=>?_⟩
    by_cases z:m'=n
    ·subst z;rw[uniq i' h'];exact hc
    ·exact q m' (by lia) fu i' h'
theorem Je{t t':SetTable}(e:t'.mask=t.mask)(h:Int):∀n,path t' h n=path t h n
 |0=>by show t'.probeStart h=t.probeStart h;unfold probeStart;rw[e]
 |n+1=>by
  show t'.advance (path t' h n)=t.advance (path t h n);rw[Je e h n];unfold advance;rw[e]
theorem yE(o:Ok hs t){h:Int}{N:Nat}(hN:(path t h N).j∉t.place.toList)(bi:∀m,m<N->(path t h m).j∈t.place.toList) (hle:(path t h N).j<=t.mask):
  (t.put (path t h N).j).1.place.toList=t.place.toList.take (below t.place (path t h N).j)++(path t h N).j::t.place.toList.drop (below t.place (path t h N).j)/\
  Ok (hs.take (below t.place (path t h N).j)++h::hs.drop (below t.place (path t h N).j)) (t.put (path t h N).j).1:=by
 obtain⟨b1,b2,b3⟩:=below_at o (path t h N).j;have ep:(t.put (path t h N).j).1.place.toList=t.place.toList.take (below t.place (path t h N).j)++(path t h N).j::t.place.toList.drop (below t.place (path t h N).j):=by
  unfold put;exact SetTable.toList_insertAt _ _ _
 have em:(t.put (path t h N).j).1.mask=t.mask:=rfl;have mem:∀x,x∈(t.put (path t h N).j).1.place.toList↔x=(path t h N).j\/x∈t.place.toList:=λx=>by
  rw[ep,List.mem_append,List.mem_cons];have:=List.take_append_drop (below t.place (path t h N).j) t.place.toList;constructor
  ·rintro(z|z|z)
   ·exact .inr (List.mem_of_mem_take z)
   ·exact .inl z
   ·exact .inr (List.mem_of_mem_drop z)
  ·rintro(z|z)
   ·exact .inr (.inl z)
   ·rw[←this]at z;rcases List.mem_append.mp z with z|z
    ·exact .inl z
    ·exact .inr (.inr z)
 have lo:∀x∈t.place.toList.take (below t.place (path t h N).j),x<(path t h N).j:=λx hx=>by
  obtain⟨i,hi,e⟩:=List.mem_iff_getElem.mp hx;rw[nB,nO]at hi;have:=b2 i (by lia) (by lia);rw[List.getElem_take]at e;rw[←e];simpa using this
 have hi:∀x∈t.place.toList.drop (below t.place (path t h N).j),(path t h N).j<x:=λx hx=>by
  have rN:=List.mem_of_mem_drop hx;obtain⟨i,hi,e⟩:=List.mem_iff_getElem.mp hx;rw[nC,nO]at hi;have:=b3 (below t.place (path t h N).j+i) (by lia) (by lia);rw[List.getElem_drop]at e;have h1:(path t h N).j<=x:=by rw[←e];simpa using this
  have h2:x≠(path t h N).j:=λz=>hN (z▸rN);lia
 refine⟨ep,o.mask,?_,?_,?_,λx hx=>?_,λq hq=>?_⟩
 ·unfold put;dsimp only;have:has t.dummies (path t h N).j=false:=by rw[o.lC];rfl
  rw[this];exact o.lC
 ·have h1:=congrArg List.length ep;rw[nO]at h1;have:=o.len;rw[h1];simp only[m5,nB,nj,nC,nO];lia
 ·rw[ep];refine List.pairwise_append.mpr ⟨o.ups.sublist (List.take_sublist _ _),List.pairwise_cons.mpr ⟨hi,o.ups.sublist (List.drop_sublist _ _)⟩,λa ha b hb=>?_⟩;rcases List.mem_cons.mp hb with rfl|hb
  ·exact lo a ha
  ·exact Nat.lt_trans (lo a ha) (hi b hb)
 ·rcases(mem x).mp hx with rfl|z
  ·exact hle
  ·exact o.le x z
 ·rw[ep,List.zip_append (by simp only[nB,nO];have:=o.len;lia),List.zip_cons_cons]at hq;have old:q∈hs.zip t.place.toList->∃n,(path (t.put (path t h N).j).1 q.1 n).j=q.2/\∀m,m<n->(path (t.put (path t h N).j).1 q.1 m).j∈(t.put (path t h N).j).1.place.toList:=λz=>by
   obtain⟨n,e1,e2⟩:=o.on q z;exact⟨n,by rw[Je em];exact e1,λm hm=>by rw[Je em];exact(mem _).mpr (.inr (e2 m hm))⟩
  have split:hs.zip t.place.toList=(hs.take (below t.place (path t h N).j)).zip (t.place.toList.take (below t.place (path t h N).j))++(hs.drop (below t.place (path t h N).j)).zip (t.place.toList.drop (below t.place (path t h N).j)):=by
   rw[←List.zip_append (by simp only[nB,nO];have:=o.len;lia),List.take_append_drop,List.take_append_drop]
  rcases List.mem_append.mp hq with z|z
  ·exact old (by rw[split];exact ny _ z)
  ·rcases List.mem_cons.mp z with rfl|z
   ·exact⟨N,by rw[Je em],λm hm=>by rw[Je em];exact(mem _).mpr (.inr (bi m hm))⟩
   ·exact old (by rw[split];exact nu _ z)
theorem zd(hm:Small t.mask)(h:Int):∀n,(path t h n).i<=t.mask/\(path t h n).j+(path t h n).more<=t.mask
 |0=>by
  have h1:bits h % (t.mask+1)<=t.mask:=by have:=Nat.mod_lt (bits h) (show 0<t.mask+1 by lia);lia
  refine⟨h1,?_⟩;show bits h % (t.mask+1)+(runEnd t.mask (bits h % (t.mask+1))-bits h % (t.mask+1))<=t.mask;unfold runEnd
  split<;>lia
 |n+1=>by
  obtain⟨h1,h2⟩:=zd hm h n;show(t.advance (path t h n)).i<=t.mask/\(t.advance (path t h n)).j+(t.advance (path t h n)).more<=t.mask;unfold advance
  split
  ·exact⟨h1,by show(path t h n).j+1+((path t h n).more-1)<=t.mask;lia⟩
  ·have h3:((path t h n).i*5+1+(path t h n).perturb/32) % (t.mask+1)<=t.mask:=by have:=Nat.mod_lt ((path t h n).i*5+1+(path t h n).perturb/32) (show 0<t.mask+1 by lia);lia
   refine⟨h3,?_⟩;show((path t h n).i*5+1+(path t h n).perturb/32) % (t.mask+1)+(runEnd t.mask (((path t h n).i*5+1+(path t h n).perturb/32) % (t.mask+1))-((path t h n).i*5+1+(path t h n).perturb/32) % (t.mask+1))<=t.mask;generalize ((path t h n).i*5+1+(path t h n).perturb/32) % (t.mask+1)=x at h3;unfold runEnd
   split<;>lia
end aB
namespace aB
open PySem PySem.SetTable
noncomputable def lp(m:Nat):Nat->Nat->Nat->Nat × Nat
 |0,i,P=>(i,P)
 |d+1,i,P=>lp m d ((i*5+1+P/32) % (m+1)) (P/32)
theorem kR(m:Nat):∀(a b i P:Nat),lp m (a+b) i P=lp m b (lp m a i P).1 (lp m a i P).2
 |0,b,i,P=>by rw[Nat.zero_add];rfl
 |a+1,b,i,P=>by rw[show a+1+b=(a+b)+1 by lia];exact kR m a b _ _
theorem kU(m:Nat):∀(d i P:Nat),(lp m d i P).2=P/32^d
 |0,i,P=>by show P=P/32^0;rw[Nat.pow_zero,Nat.div_one]
 |d+1,i,P=>by
  show(lp m d _ (P/32)).2=_;rw[kU m d,Nat.div_div_eq_div_mul,Nat.pow_succ,Nat.mul_comm]
theorem kW(m:Nat):∀(d i:Nat),(lp m d i 0).1=ly m d i
 |0,i=>rfl
 |d+1,i=>by
  show(lp m d ((i*5+1+0/32) % (m+1)) (0/32)).1=_;rw[Nat.zero_div,Nat.add_zero,kW m d];rfl
theorem yF(m:Nat):∀(d i P:Nat),i<=m->(lp m d i P).1<=m
 |0,i,P,h=>h
 |d+1,i,P,h=>yF m d _ _ (by have:=Nat.mod_lt (i*5+1+P/32) (show 0<m+1 by lia);lia)
noncomputable def lD(owner:Array (Option Nat))(j:Nat):Prop:=∃k,owner[j]? =some (some k)
theorem ze{owner:Array (Option Nat)}{j:Nat}(hj:j<owner.size)(h:(owner.getD j (some 0)).isNone=false):lD owner j:=by
 have e:owner[j]? =some owner[j]:=Array.getElem?_eq_getElem hj;have e2:owner.getD j (some 0)=owner[j]:=by simp[Array.getD,hj]
 rw[e2]at h;cases q:owner[j]with
 |none=>rw[q]at h;cases h
 |some k=>exact⟨k,by rw[e,q]⟩
theorem yG{owner:Array (Option Nat)}{j:Nat}(hj:j<owner.size)(h:(owner.getD j (some 0)).isNone=true):owner[j]? =some none:=by
 have e:owner[j]? =some owner[j]:=Array.getElem?_eq_getElem hj;have e2:owner.getD j (some 0)=owner[j]:=by simp[Array.getD,hj]
 rw[e2]at h;cases q:owner[j]with
 |none=>rw[e,q]
 |some k=>rw[q]at h;cases h
theorem Vt(m i:Nat):i<=runEnd m i:=by unfold runEnd;split<;>lia
theorem zf{m i:Nat}(h:i<=m):runEnd m i<=m:=by unfold runEnd;split<;>lia
variable {t:SetTable}{owner:Array (Option Nat)}
theorem Vu{h:Int}{j:Nat}(sz:owner.size=t.mask+1):∀(f n i P:Nat),path t h n=run t i P->i<=t.mask->(∀m,m<n->lD owner (path t h m).j)->layClean.free t.mask owner f i P=some j->
  (owner[j]? =some none/\j<=t.mask)/\∃n',(path t h n').j=j/\∀m,m<n'->lD owner (path t h m).j
 |0,n,i,P,e,hi,ho,hf=>by unfold layClean.free at hf;cases hf
 |f+1,n,i,P,e,hi,ho,hf=>by
  have hr:=Vt t.mask i;have fg:=zf hi;unfold layClean.free at hf;cases hc:(List.range (runEnd t.mask i+1-i)).find? (λk=>(owner.getD (i+k) (some 0)).isNone)with
  |some k=>
   rw[hc]at hf;cases hf;obtain⟨h1,h2,h3⟩:=List.find?_range_eq_some.mp hc;have hk:k<=runEnd t.mask i-i:=by have:=List.mem_range.mp h2;lia
   refine⟨⟨yG (by lia) h1,by lia⟩,n+k,by rw[ZT e k hk],λm hm=>?_⟩
   by_cases Dw:m<n
   ·exact ho m Dw
   ·obtain⟨d,rfl⟩:∃d,m=n+d:=⟨m-n,by lia⟩;rw[ZT e d (by lia)];have:=h3 d (by lia);exact ze (show i+d<owner.size by lia) (by simpa using this)
  |none=>
   rw[hc]at hf;have Cl:=List.find?_eq_none.mp hc;refine Vu sz f _ _ _ (Vs e) (by have:=Nat.mod_lt (i*5+1+P/32) (show 0<t.mask+1 by lia);lia) (λm hm=>?_) hf
   by_cases Dw:m<n
   ·exact ho m Dw
   ·obtain⟨d,rfl⟩:∃d,m=n+d:=⟨m-n,by lia⟩;rw[ZT e d (by lia)];exact ze (show i+d<owner.size by lia) ((Bool.not_eq_true _).mp (Cl d (List.mem_range.mpr (by lia))))
theorem Vv{mask:Nat}(sz:owner.size=mask+1):∀(f i P:Nat),i<=mask->layClean.free mask owner f i P=none->∀d,d<f->lD owner (lp mask d i P).1
 |0,i,P,hi,hf,d,hd=>by lia
 |f+1,i,P,hi,hf,d,hd=>by
  have hr:=Vt mask i;unfold layClean.free at hf;cases hc:(List.range (runEnd mask i+1-i)).find? (λk=>(owner.getD (i+k) (some 0)).isNone)with
  |some k=>rw[hc]at hf;cases hf
  |none=>
   rw[hc]at hf;have Cl:=List.find?_eq_none.mp hc;cases d with
   |zero=>
    exact ze (show i<owner.size by lia) ((Bool.not_eq_true _).mp (Cl 0 (List.mem_range.mpr (by lia))))
   |succ d=>exact Vv sz f _ _ (by have:=Nat.mod_lt (i*5+1+P/32) (show 0<mask+1 by lia);lia) hf d (by lia)
structure Lay(t:SetTable)(hs:List Int)(owner:Array (Option Nat))(k:Nat):Prop where
 sz:owner.size=t.mask+1
 lt:∀(j k':Nat),owner[j]? =some (some k')->k'<k
 one:∀(j j' k':Nat),owner[j]? =some (some k')->owner[j']? =some (some k')->j=j'
 all:∀(k':Nat),k'<k->∃j:Nat,owner[j]? =some (some k')
 on:∀(j k':Nat)(h:Int),owner[j]? =some (some k')->hs[k']? =some h->∃n,(path t h n).j=j/\∀m,m<n->lD owner (path t h m).j
variable {hs:List Int}
theorem Lay.hole{k:Nat}(L:Lay t hs owner k)(hk:k<=t.mask):∃e,e<=t.mask/\owner[e]? =some none:=by
 refine Classical.byContradiction λhn=>?_;have AA:∀e,e<=t.mask->lD owner e:=λe he=>by
  have o8:e<owner.size:=by rw[L.sz];lia
  have e1:owner[e]? =some owner[e]:=Array.getElem?_eq_getElem o8;cases q:owner[e]with
  |none=>exact absurd ⟨e,he,by rw[e1,q]⟩ hn
  |some k'=>exact⟨k',by rw[e1,q]⟩
 have f:∀e,∃k',e<=t.mask->owner[e]? =some (some k'):=λe=>by
  by_cases he:e<=t.mask
  ·obtain⟨k',q⟩:=AA e he;exact⟨k',λ_=>q⟩
  ·exact⟨0,λz=>absurd z he⟩
 obtain⟨g,hg⟩:=Classical.axiomOfChoice f;have nd:((List.range (t.mask+1)).map g).Nodup:=by
  rw[List.nodup_iff_pairwise_ne,List.pairwise_map];have base:(List.range (t.mask+1)).Pairwise (· ≠ ·):=List.nodup_range;refine List.Pairwise.imp_of_mem (λ{a b} ha hb iF z=>?_) base;have pI:a<=t.mask:=by have:=List.mem_range.mp ha;lia
  have cS:b<=t.mask:=by have:=List.mem_range.mp hb;lia
  have h1:=hg a pI;have h2:=hg b cS;rw[←z]at h2;exact iF (L.one _ _ _ h1 h2)
 have sub:∀x∈(List.range (t.mask+1)).map g,x∈List.range k:=λx hx=>by
  obtain⟨a,ha,rfl⟩:=List.mem_map.mp hx;exact List.mem_range.mpr (L.lt a _ (hg a (by have:=List.mem_range.mp ha;lia)))
 have:=List.Nodup.length_le_of_subset nd sub;rw[m7,List.length_range,List.length_range]at this;lia
theorem Lay.step{k:Nat}{h:Int}(hm:Small t.mask)(L:Lay t hs owner k)(hk:k<=t.mask)(hh:hs[k]? =some h):
  ∃j,layClean.free t.mask owner (turns t.mask) (bits h % (t.mask+1)) (bits h)=some j/\Lay t hs (owner.setIfInBounds j (some k)) (k+1):=by
 have ug:bits h % (t.mask+1)<=t.mask:=by have:=Nat.mod_lt (bits h) (show 0<t.mask+1 by lia);lia
 cases hf:layClean.free t.mask owner (turns t.mask) (bits h % (t.mask+1)) (bits h)with
 |none=>
  obtain⟨e,he,hn⟩:=L.hole hk;have hz:(lp t.mask 13 (bits h % (t.mask+1)) (bits h)).2=0:=by rw[kU];exact Nat.div_eq_of_lt (Nat.lt_of_lt_of_le (zb h) (by decide))
  obtain⟨d,hd,Dt⟩:=za hm (yF t.mask 13 _ (bits h) ug) he;obtain⟨k',q⟩:=Vv L.sz _ _ _ ug hf (13+d) (by unfold turns;lia);rw[kR,hz,kW,Dt,hn]at q;cases q
 |some j=>
  obtain⟨⟨q1,q2⟩,n,e1,e2⟩:=Vu (t:=t) (h:=h) L.sz _ 0 _ _ rfl ug (λm d9=>by lia) hf;have hj:j<owner.size:=by rw[L.sz];lia
  have get:∀x,(owner.setIfInBounds j (some k))[x]? =if x=j then some (some k)else owner[x]? :=λx=>by
   rw[Array.getElem?_setIfInBounds]
   by_cases z:j=x
   ·subst z;rw[if_pos rfl,if_pos hj,if_pos rfl]
   ·rw[if_neg z,if_neg (λw=>z w.symm)]
  have AA:∀x,lD owner x->lD (owner.setIfInBounds j (some k)) x:=λx⟨k',q⟩=>by
   by_cases z:x=j
   ·exact⟨k,by rw[get,if_pos z]⟩
   ·exact⟨k',by rw[get,if_neg z];exact q⟩
  refine⟨j,ae,by rw[Array.size_setIfInBounds];exact L.sz,λx k' q=>?_,λx y k' a b=>?_,λk' iI=>?_,λx k' h' q qh=>?_⟩
  ·rw[get]at q
   split at q
   ·cases q;lia
   ·have:=L.lt x k' q;lia
  ·rw[get]at a b
   split at a
   ·rename_i zx;cases a
    split at b
    ·rename_i zy;rw[zx,zy]
    ·have:=L.lt y k b;lia
   ·split at b
    ·cases b;have:=L.lt x k a;lia
    ·exact L.one x y k' a b
  ·by_cases z:k'=k
   ·exact⟨j,by rw[get,if_pos rfl,z]⟩
   ·obtain⟨x,q⟩:=L.all k' (by lia);refine⟨x,?_⟩;rw[get,if_neg λw=>?_]
    ·exact q
    ·rw[w,q1]at q;cases q
  ·rw[get]at q
   split at q
   ·rename_i zx;cases q;rw[hh]at qh;cases qh;exact⟨n,by rw[e1,zx],λm d9=>AA _ (e2 m d9)⟩
   ·obtain⟨n',a,b⟩:=L.on x k' h' q qh;exact⟨n',a,λm d9=>AA _ (b m d9)⟩
noncomputable def AB(mask:Nat)(acc:Option (Array (Option Nat) × Nat))(h:Int):Option (Array (Option Nat) × Nat):=do
 let (owner,k)←acc
 let j←layClean.free mask owner (turns mask) (bits h % (mask+1)) (bits h)
 pure (owner.setIfInBounds j (some k),k+1)
theorem Lay.fold(hm:Small t.mask)(hl:hs.length<=t.mask):∀(rest:List Int)(k:Nat)(owner:Array (Option Nat)),hs.drop k=rest->k+rest.length=hs.length->Lay t hs owner k->∃bJ,rest.foldl (AB t.mask) (some (owner,k))=some (bJ,hs.length)/\Lay t hs bJ hs.length
 |[],k,owner,hd,hk,L=>by
  have e:k=hs.length:=by simpa using hk
  subst e;exact⟨owner,ae,L⟩
 |h::rest,k,owner,hd,hk,L=>by
  rw[nj]at hk;have hh:hs[k]? =some h:=by
   have:=congrArg (λl=>l[0]?) hd;simpa using this
  have hr:hs.drop (k+1)=rest:=by
   have:=congrArg (λl=>l.drop 1) hd;simpa[List.drop_drop]using this
  obtain⟨j,e,L'⟩:=L.step hm (by lia) hh;obtain⟨bJ,e',Nt⟩:=Lay.fold hm hl rest (k+1) _ hr (by lia) L';refine⟨bJ,?_,Nt⟩;rw[List.foldl_cons];have:AB t.mask (some (owner,k)) h=some (owner.setIfInBounds j (some k),k+1):=by
   show((layClean.free t.mask owner (turns t.mask) (bits h % (t.mask+1)) (bits h)).bind λj=>some (owner.setIfInBounds j (some k),k+1))=_;rw[e];rfl
  rw[this];exact e'
theorem yH(hm:Small t.mask)(hs:Array Int)(hl:hs.size<=t.mask):∃owner,layClean t.mask hs=some owner/\Lay t hs.toList owner hs.size:=by
 have L0:Lay t hs.toList (Array.replicate (t.mask+1) none) 0:=by
  have no:∀j k',(Array.replicate (t.mask+1) (none:Option Nat))[j]? ≠some (some k'):=λj k' z=>by
   rw[Array.getElem?_replicate]at z
   split at z<;>cases z
  exact⟨by simp,λj k' z=>absurd z (no j k'),λj j' k' z=>absurd z (no j k'),λk' z=>by lia,λj k' h z=>absurd z (no j k')⟩
 obtain⟨owner,e,L⟩:=Lay.fold (t:=t) (hs:=hs.toList) hm (by simpa using hl) hs.toList 0 _ rfl (by simp) L0;refine⟨owner,?_,by simpa using L⟩;unfold layClean;rw[←Array.foldl_toList];have:hs.toList.foldl (AB t.mask) (some (Array.replicate (t.mask+1) none,0))=some (owner,hs.toList.length):=e;show(hs.toList.foldl (AB t.mask) (some (Array.replicate (t.mask+1) none,0))).map (·.1)=_;rw[this];rfl
theorem vi(m:Nat)(hm:Small m)(f mv:Nat)(led plain:Bool)(hs:Array Int)(hl:hs.size<=m):∃t' order,laid m f mv led plain hs=some (t',order)/\t'.mask=m/\t'.led=led/\order.toList.Perm (List.range hs.size)/\Ok (order.toList.map λk=>hs.getD k 0) t':=by
 obtain⟨owner,e,L⟩:=yH (t:={mask:=m,place:= #[],dummies:= #[],finger:=f,led,moves:=mv,plain}) hm hs hl;have e:layClean m hs=some owner:=e;have hsz:owner.size=m+1:=L.sz
 let live:=(List.range (m+1)).filterMap λj=>(owner.getD j none).map (j, ·)
 have mem:∀j k,(j,k)∈live↔owner[j]? =some (some k):=λj k=>by
  show(j,k)∈(List.range (m+1)).filterMap _↔_;rw[List.mem_filterMap];constructor
  ·rintro⟨a,ha,q⟩;have pI:=List.mem_range.mp ha;have e1:owner[a]? =some owner[a]:=Array.getElem?_eq_getElem (by lia);have e2:owner.getD a none=owner[a]'(by lia):=by simp[Array.getD,show a<owner.size by lia]
   rw[e2]at q;cases h:owner[a]'(by lia)with
   |none=>rw[h]at q;cases q
   |some k'=>
    rw[h]at q;cases q;rw[e1,h]
  ·intro q;obtain⟨hj,q'⟩:=Array.getElem?_eq_some_iff.mp q;refine⟨j,List.mem_range.mpr (by lia),?_⟩;have e2:owner.getD j none=owner[j]:=by simp[Array.getD,hj]
   rw[e2,q'];rfl
 have up:(live.map (·.1)).Pairwise (· < ·):=by
  rw[List.pairwise_map];show((List.range (m+1)).filterMap _).Pairwise _;rw[List.pairwise_filterMap];refine List.Pairwise.imp ?_ (List.pairwise_lt_range);intro a b iF x hx y hy;cases h1:owner.getD a none with
  |none=>rw[h1]at hx;cases hx
  |some k1=>
   cases h2:owner.getD b none with
   |none=>rw[h2]at hy;cases hy
   |some k2=>
    rw[h1]at hx;rw[h2]at hy;cases hx;cases hy;exact iF
 have Nu:(live.map (·.2)).Nodup:=by
  rw[List.nodup_iff_pairwise_ne,List.pairwise_map];have base:live.Pairwise λa b=>a.1<b.1:=List.pairwise_map.mp up;refine List.Pairwise.imp_of_mem (λ{a b} ha hb iF z=>?_) base;have h1:=(mem a.1 a.2).mp ha;have h2:=(mem b.1 b.2).mp hb;rw[←z]at h2;have:=L.one _ _ _ h1 h2;lia
 have pm:(live.map (·.2)).Perm (List.range hs.size):=by
  refine(List.perm_ext_iff_of_nodup Nu List.nodup_range).mpr λk=>?_;rw[List.mem_map,List.mem_range];constructor
  ·rintro⟨⟨j,k'⟩,h,rfl⟩;exact L.lt j k' ((mem j k').mp h)
  ·intro hk;obtain⟨j,q⟩:=L.all k hk;exact⟨(j,k),(mem j k).mpr q,ae⟩
 refine⟨{mask:=m,place:=(live.map (·.1)).toArray,dummies:= #[],finger:=f,led,moves:=mv,plain},(live.map (·.2)).toArray,?_,ae,ae,by simpa using pm,hm,ae,by simp,by simpa using up,λx hx=>?_,λq hq=>?_⟩
 ·show(layClean m hs).bind (λowner=>some _)=_;rw[e];rfl
 ·have hx:x∈live.map (·.1):=by simpa using hx
  obtain⟨⟨j,k⟩,h,rfl⟩:=List.mem_map.mp hx;obtain⟨hj,_⟩:=Array.getElem?_eq_some_iff.mp ((mem j k).mp h);show j<=m;lia
 ·have hq:q∈(live.map λa=>hs.getD a.2 0).zip (live.map (·.1)):=by
   have e1:List.map (λk=>hs.getD k 0) (live.map (·.2)).toArray.toList=live.map λa=>hs.getD a.2 0:=by simp
   rw[e1]at hq;simpa using hq
  rw[List.zip_map',List.mem_map]at hq;obtain⟨⟨j,k⟩,h,rfl⟩:=hq;have GG:=(mem j k).mp h;have hk:=L.lt j k GG;have iI:hs.toList[k]? =some (hs.getD k 0):=by simp[Array.getD,hk]
  obtain⟨n,a,b⟩:=L.on j k _ GG iI;refine⟨n,by rw[←a];rw[Je];rfl,λm' d9=>?_⟩;obtain⟨k2,q2⟩:=b m' d9;have:((path ({mask:=m,place:= #[],dummies:= #[],finger:=f,led,moves:=mv,plain}:SetTable) (hs.getD k 0) m').j,k2)∈live:=(mem _ _).mpr q2;rw[Je (t:={mask:=m,place:= #[],dummies:= #[],finger:=f,led,moves:=mv,plain}) (by rfl)];simp only;exact List.mem_map.mpr ⟨_,this,ae⟩
end aB
namespace L2
open PySem PySem.Spec PyProof.Rows PySem.SeqAt
mutual
inductive HD (h:Heap):Value->Dv->Prop where
 |int (i:Int) (t:Tok):HD h (.int i t) (.int i)
 |str (x:Str) (t:Tok):HD h (.str x t) (.str x)
 |tup {a:Addr} {o:Obj} {us:List Value} {n:Nat} {ds:List Dv} (e:h.get? a=some o) (c:o.cls=.type "tuple") (d:o.data=.seq us.toArray n) (t:bp h us ds):HD h (.ref a) (.tup ds)
inductive bp (h:Heap):List Value->List Dv->Prop where
 |nil:bp h [] []
 |cons {u:Value} {d:Dv} {us:List Value} {ds:List Dv} (a:HD h u d) (t:bp h us ds):bp h (u::us) (d::ds)
end
mutual
theorem HD.keep{h h':Heap}(k:∀b o,h.get? b=some o->o.cls=.type "tuple"->h'.get? b=some o):∀{u:Value}{d:Dv},HD h u d->HD h' u d
 |_,_,.int i t=>.int i t
 |_,_,.str x t=>.str x t
 |_,_,.tup e c d t=>.tup (k _ _ e c) c d (bp.keep k t)
theorem bp.keep{h h':Heap}(k:∀b o,h.get? b=some o->o.cls=.type "tuple"->h'.get? b=some o):∀{us:List Value}{ds:List Dv},bp h us ds->bp h' us ds
 |_,_,.nil=>.nil
 |_,_,.cons a t=>.cons (HD.keep k a) (bp.keep k t)
end
theorem bp.length{h:Heap}:∀{us:List Value}{ds:List Dv},bp h us ds->us.length=ds.length
 |_,_,.nil=>rfl
 |_,_,.cons _ t=>by rw[nj,nj,bp.length t]
theorem bp.at{h:Heap}:∀{us:List Value}{ds:List Dv},bp h us ds->∀{i:Nat}{u:Value},us[i]? =some u->∃d,ds[i]? =some d/\HD h u d
 |_,_,.nil,i,u,e=>by cases e
 |_,_,.cons a t,0,u,e=>by cases e;exact⟨_,ae,a⟩
 |_,_,.cons a t,i+1,u,e=>bp.at t (by simpa using e)
mutual
noncomputable def Dv.hk:Dv->Bool
 | .int _=>true
 | .str _=>true
 | .tup ds=>Dv.iJ ds
 |_=>false
noncomputable def Dv.iJ:List Dv->Bool
 |[]=>true
 |d::ds=>Dv.hk d&&Dv.iJ ds
end
mutual
theorem ag.hd{X:Cx}{pins:List (Addr × Obj)}{σ:St}{H:Hp}{s:Shared}(I:Inv X pins σ H s):∀{x:V}{d:Dv},ag H x d->d.hk=true->∀{u:Value},RelV x u->HD s.heap u d
 |_,_,.ah,h,_,_=>by cases h
 |_,_,.bl,h,_,_=>by cases h
 |_,_,.int,_,_,r=>by obtain⟨t,rfl⟩:=r;exact .int _ _
 |_,_,.str,_,_,r=>by obtain⟨t,rfl⟩:=r;exact .str _ _
 |_,_,.tup g t,h,_,r=>by
  cases r;obtain⟨ad,rv,⟨o,e,c,n,d⟩,_⟩:=I.tuple (.inl (.inl g));exact .tup e c d (af.hd I t (by unfold Dv.hk at h;exact h) rv)
theorem af.hd{X:Cx}{pins:List (Addr × Obj)}{σ:St}{H:Hp}{s:Shared}(I:Inv X pins σ H s):∀{xs:List V}{ds:List Dv},af H xs ds->Dv.iJ ds=true->∀{us:List Value},Vals xs us->bp s.heap us ds
 |_,_,.nil,_,_,r=>by cases r;exact .nil
 |_,_,.cons a t,h,_,r=>by
  unfold Dv.iJ at h;obtain⟨h1,h2⟩:=(Bool.and_eq_true _ _).mp h;cases r with
  |cons r1 r2=>exact .cons (ag.hd I a h1 r1) (af.hd I t h2 r2)
end
mutual
noncomputable def QM(w:World):Dv->Int
 | .int i=>A9 w (.inl i)
 | .str x=>A9 w (.inr x)
 | .tup ds=>reduceHash (Builtin.Tuple.tupleHashOf (U9 w ds))
 |_=>0
noncomputable def U9(w:World):List Dv->List Int
 |[]=>[]
 |d::ds=>QM w d::U9 w ds
end
theorem Kg(w:World):∀ds:List Dv,U9 w ds=ds.map (QM w)
 |[]=>rfl
 |d::ds=>by rw[nM, ←Kg w ds];rfl
theorem xU(w:World){ds:List Dv}{i:Nat}{d:Dv}(e:ds[i]? =some d):(U9 w ds)[i]? =some (QM w d):=by rw[Kg,nE,e];rfl
section
variable {prog:Program}{w:World}{E:Value->Shared->Prop}
theorem xV{A:Around}{s:Shared}{a:Addr}{o:Obj}{us:List Value}{n:Nat}{hs:List Int}{Q:Int->Shared->Prop}(hu:A.units<cLine)(ho:s.heap.get? a=some o)(hc:o.cls=.type "tuple")(hd:o.data=.seq us.toArray n)(hl:us.length=hs.length)
  (item:∀(B:Around)(i:Nat)(u:Value)(h:Int)(tk:Nat)(E':Value->Shared->Prop)(Q':Int->Shared->Prop),B.units<=A.units+1->us[i]? =some u->hs[i]? =some h->(∀dC,Q' h {s with toks:=dC})->wpAny (model prog w) B (pyHash u) Q' E' {s with toks:=tk})
  (h:∀tk,Q (reduceHash (Builtin.Tuple.tupleHashOf hs)) {s with toks:=tk}):wpAny (model prog w) A (pyHash (.ref a)) Q E s:=by
 have hT:s.TypeIs (.ref a) "tuple":=⟨o,ho,hc⟩;unfold pyHash
 first|unfold pyHashByItsType|skip
 first|refine wpAny_bind (wpAny_cRoomFor_or (.inr hu) ?_)|skip
 refine wpAny_bind (wpAny_specialOf hT F.slot_tuple_hash.lookup ?_);show wpAny _ _ (if(some (Value.builtin "tuple.__hash__")==some Value.none)=true then _ else _) Q E s;rw[if_neg (by rw[beq_builtin_none];exact Bool.false_ne_true)];refine wpAny_bind (wpAny_specialOf hT F.slot_tuple_hash.lookup ?_);show wpAny _ _ (callSpecialIfBoundUnlessNone? (.ref a) "__hash__" _>>=_) Q E s;refine wpAny_bind (wpAny_callSpecialIfBoundUnlessNone?_slot hT F.slot_tuple_hash (wpAny_call_entry F.slot_tuple_hash hT F.entry_tuple_hash ?_ (F.args_tuple_hash_1 _)));show wpAny _ _ (Builtin.Tuple.tupleItemsOf (.ref a)>>=_) _ _ s;refine wpAny_bind (wpAny_tupleItemsOf ho hd (wpAny_bind ?_));rw[←Array.forIn_toList];refine wpAny_forIn_list _ (λrest(b:Array Int) s'=>∃i,rest=us.drop i/\b.toList=hs.take i/\i<=us.length/\∃tk,s'={s with toks:=tk}) _ ?_ ?_ _ _ ⟨0,ae,ae,nR _,s.toks,ae⟩
 ·rintro x rest b s' ⟨i,hr,hb,hi,tk,rfl⟩;have bi:i<us.length:=by
   rcases Nat.lt_or_ge i us.length with z|z
   ·exact z
   ·rw[List.drop_of_length_le z]at hr;cases hr
  have hx:us[i]? =some x:=by
   have:=congrArg (λl=>l[0]?) hr;simpa using this.symm
  have bf:rest=us.drop (i+1):=by
   have:=congrArg (λl=>l.drop 1) hr;simpa[List.drop_drop]using this
  have hh:hs[i]? =some (hs[i]'(by lia)):=List.getElem?_eq_getElem (by lia);have nx:∀dC,∃j,rest=us.drop j/\(b.push (hs[i]'(by lia))).toList=hs.take j/\j<=us.length/\∃tk,({s with toks:=dC}:Shared)={s with toks:=tk}:=λdC=>⟨i+1,bf,by rw[Array.toList_push,hb,List.take_add_one,hh];rfl,by lia,dC,ae⟩;refine wpAny_bind (item _ i x _ tk _ _ (ng _) hx hh λdC=>?_)
  first
   |exact wpAny_pure (nx dC)
   |exact wpAny_bind (wpAny_pure (wpAny_pure (nx dC)))
 ·rintro b s' ⟨i,hr,hb,hi,tk,rfl⟩;have Nv:i=us.length:=by
   rcases Nat.lt_or_ge i us.length with z|z
   ·rw[List.drop_eq_getElem_cons z]at hr;cases hr
   ·lia
  have cS:b.toList=hs:=by rw[hb,Nv,hl,List.take_length]
  show wpAny _ _ (retInt (Builtin.Tuple.tupleHashOf b.toList)) _ _ _;rw[cS];refine wpAny_ret_mkInt ?_;show wpAny _ _ (if(decide (-(2:Int)^63<=Builtin.Tuple.tupleHashOf hs)&&decide (Builtin.Tuple.tupleHashOf hs<2^63))=true then _ else _) Q E _;unfold reduceHash at h
  by_cases hr:(decide (-(2:Int)^63<=Builtin.Tuple.tupleHashOf hs)&&decide (Builtin.Tuple.tupleHashOf hs<2^63))=true
  ·rw[if_pos hr];rw[if_pos hr]at h;exact wpAny_pure (h _)
  ·rw[if_neg hr];rw[if_neg hr]at h;exact wpAny_bind (wpAny_rule (wpAny_pure (h _)))
theorem HD.hash:∀(n:Nat){u:Value}{d:Dv}{s:Shared},d.depth<=n->HD s.heap u d->∀{A:Around}{E:Value->Shared->Prop}{Q:Int->Shared->Prop},A.units+n<cLine->(∀tk,Q (QM w d) {s with toks:=tk})->wpAny (model prog w) A (pyHash u) Q E s:=by
 intro n
 induction n with
 |zero=>
  intro u d s hn hu A E Q hA h;cases hu with
  |int i t=>exact(QI prog w).pyHash (k:=.inl i) (XH i t) (h _)
  |str x t=>exact(QI prog w).pyHash (k:=.inr x) (XI x t) (h _)
  |tup e c dd t=>unfold Dv.depth at hn;lia
 |succ n ih=>
  intro u d s hn hu A E Q hA h;cases hu with
  |int i t=>exact(QI prog w).pyHash (k:=.inl i) (XH i t) (h _)
  |str x t=>exact(QI prog w).pyHash (k:=.inr x) (XI x t) (h _)
  |@tup a o us m ds e c dd t=>
   have hl:=t.length;have fN:Dv.Qs ds<=n:=by have:=hn;unfold Dv.depth at this;lia
   have hlL:(U9 w ds).length=ds.length:=by rw[Kg,m7]
   refine xV (hs:=U9 w ds) (by lia) e c dd (by lia) (λB i u' h' tk E' Q' hB Nw Nx hq=>?_) λtk=>?_
   ·obtain⟨d',dE,hD⟩:=t.at Nw;have:=xU w dE;rw[Nx]at this;cases this;exact ih (s:={s with toks:=tk}) (Nat.le_trans (Dv.Q3 dE) fN) hD (by lia) λdC=>hq dC
   ·have:=h tk;unfold QM at this;exact this
theorem HD.quiet:∀(n:Nat){u:Value}{d:Dv}{s:Shared},d.depth<=n->HD s.heap u d->∀{A:Around}{E:Value->Shared->Prop}{Q:Bool->Shared->Prop},Q true s->wpAny (model prog w) A (eqIsQuiet n u) Q E s:=by
 intro n
 induction n with
 |zero=>
  intro u d s hn hu A E Q h;cases hu with
  |int i t=>rw[eqIsQuiet_byValue 0 rfl];exact wpAny_pure h
  |str x t=>rw[eqIsQuiet_byValue 0 rfl];exact wpAny_pure h
  |tup e c dd t=>unfold Dv.depth at hn;lia
 |succ n ih=>
  intro u d s hn hu A E Q h;cases hu with
  |int i t=>rw[eqIsQuiet_byValue _ rfl];exact wpAny_pure h
  |str x t=>rw[eqIsQuiet_byValue _ rfl];exact wpAny_pure h
  |@tup a o us m ds e c dd t=>
   have fN:Dv.Qs ds<=n:=by have:=hn;unfold Dv.depth at this;lia
   have hT:s.TypeIs (.ref a) "tuple":=⟨o,e,c⟩;unfold eqIsQuiet;refine wpAny_bind (wpAny_specialOf hT F.slot_tuple_eq.lookup ?_);show wpAny _ _ (isInstance (.ref a) (.type "tuple")>>=_) _ _ s;refine wpAny_bind (wpAny_isInstance hT isSubtype_tuple_tuple ?_);simp only[Bool.not_true,Bool.false_eq_true,if_false];refine wpAny_bind (wpAny_seqItems e dd (wpAny_bind ?_));show wpAny _ _ (forIn us.toArray _ _) _ _ s;rw[←Array.forIn_toList];refine wpAny_forIn_list _ (λrest r s'=>r.1=none/\s'=s/\∃es,Dv.Qs es<=n/\bp s.heap rest es) _ ?_ ?_ _ _ ⟨ae,ae,ds,fN,t⟩
   ·rintro v rest r s' ⟨hr,rfl,es,o9,ht⟩;cases ht with
    |@cons _ d0 _ ii hv ht=>
     unfold Dv.Qs at o9;refine wpAny_bind (ih (by lia) hv ?_);simp only[Bool.not_true,Bool.false_eq_true,if_false];exact wpAny_pure ⟨ae,ae,ii,by lia,ht⟩
   ·rintro⟨r1,r2⟩ s' ⟨hr,rfl,_⟩;simp only at hr;subst hr;exact wpAny_pure h
theorem HD.zg:∀(n:Nat){u:Value}{d:Dv}{s:Shared},d.depth<=n->HD s.heap u d->∀{A:Around}{E:Value->Shared->Prop}{Q:Bool->Shared->Prop},Q false s->wpAny (model prog w) A (ofAClassStatement n u) Q E s:=by
 intro n
 induction n with
 |zero=>
  intro u d s hn hu A E Q h;cases hu with
  |int i t=>unfold ofAClassStatement;exact wpAny_pure h
  |str x t=>unfold ofAClassStatement;exact wpAny_pure h
  |tup e c dd t=>unfold Dv.depth at hn;lia
 |succ n ih=>
  intro u d s hn hu A E Q h;cases hu with
  |int i t=>unfold ofAClassStatement;exact wpAny_pure h
  |str x t=>unfold ofAClassStatement;exact wpAny_pure h
  |@tup a o us m ds e c dd t=>
   have fN:Dv.Qs ds<=n:=by have:=hn;unfold Dv.depth at this;lia
   have hT:s.TypeIs (.ref a) "tuple":=⟨o,e,c⟩;unfold ofAClassStatement;refine wpAny_bind (wpAny_typeOf hT ?_);show wpAny _ _ (if("tuple"=="tuple")=true then _ else _) _ _ _;rw[if_pos (by decide)];refine wpAny_bind (wpAny_pure ?_);simp only[Bool.not_true,Bool.false_eq_true,if_false];refine wpAny_bind (wpAny_seqItems e dd (wpAny_bind ?_));rw[←Array.forIn_toList];refine wpAny_forIn_list _ (λrest r s'=>r.1=none/\s'=s/\∃es,Dv.Qs es<=n/\bp s.heap rest es) _ ?_ ?_ _ _ ⟨ae,ae,ds,fN,t⟩
   ·rintro v rest r s' ⟨hr,rfl,es,o9,ht⟩;cases ht with
    |@cons _ d0 _ ii hv ht=>
     unfold Dv.Qs at o9;refine wpAny_bind (ih (by lia) hv ?_);simp only[Bool.false_eq_true,if_false];exact wpAny_pure ⟨ae,ae,ii,by lia,ht⟩
   ·rintro⟨r1,r2⟩ s' ⟨hr,rfl,_⟩;simp only at hr;subst hr;exact wpAny_pure h
theorem HD.Ny:∀(n:Nat){u:Value}{d:Dv}{s:Shared},HD s.heap u d->∀{A:Around}{E:Value->Shared->Prop}{Q:Bool->Shared->Prop},(∀b,Q b s)->wpAny (model prog w) A (hashByValue n u) Q E s:=by
 intro n
 induction n with
 |zero=>
  intro u d s hu A E Q h;cases hu<;>(unfold hashByValue;exact wpAny_pure (h _))
 |succ n ih=>
  intro u d s hu A E Q h;cases hu with
  |int i t=>unfold hashByValue;exact wpAny_pure (h _)
  |str x t=>unfold hashByValue;exact wpAny_pure (h _)
  |@tup a o us m ds e c dd t=>
   have hT:s.TypeIs (.ref a) "tuple":=⟨o,e,c⟩;unfold hashByValue;refine wpAny_bind (wpAny_specialOf hT F.slot_tuple_hash.lookup ?_);show wpAny _ _ (seqItems? (.ref a)>>=_) _ _ s;refine wpAny_bind (wpAny_seqItems e dd (wpAny_bind ?_));show wpAny _ _ (forIn us.toArray _ _) _ _ s;rw[←Array.forIn_toList];refine wpAny_forIn_list _ (λrest r s'=>s'=s/\r.1=none/\∃es,bp s.heap rest es) _ ?_ ?_ _ _ ⟨ae,ae,ds,t⟩
   ·rintro v rest r s' ⟨rfl,hr,es,ht⟩;cases ht with
    |@cons _ d0 _ ii hv ht=>
     refine wpAny_bind (ih hv λb=>?_);cases b with
     |true=>exact wpAny_pure ⟨ae,ae,ii,ht⟩
     |false=>exact wpAny_pure (wpAny_pure (h _))
   ·rintro⟨r1,r2⟩ s' ⟨rfl,hr,_⟩;simp only at hr;subst hr;exact wpAny_pure (h _)
end
mutual
theorem Dv.yI:∀{d e:Dv},d.hk=true->e.hk=true->d.aC e=true->d=e
 | .int a,.int b,_,_,h=>by unfold Dv.aC at h;rw[eq_of_beq h]
 | .str a,.str b,_,_,h=>by unfold Dv.aC at h;rw[eq_of_beq h]
 | .tup ds,.tup es,h1,h2,h=>by
  unfold Dv.aC at h;unfold Dv.hk at h1 h2;rw[Dv.kX h1 h2 h]
 | .int _,.str _,_,_,h=>by unfold Dv.aC at h;cases h
 | .int _,.tup _,_,_,h=>by unfold Dv.aC at h;cases h
 | .str _,.int _,_,_,h=>by unfold Dv.aC at h;cases h
 | .str _,.tup _,_,_,h=>by unfold Dv.aC at h;cases h
 | .tup _,.int _,_,_,h=>by unfold Dv.aC at h;cases h
 | .tup _,.str _,_,_,h=>by unfold Dv.aC at h;cases h
 | .ah,_,h,_,_=>by unfold Dv.hk at h;cases h
 | .bl _,_,h,_,_=>by unfold Dv.hk at h;cases h
 | .int _,.ah,_,h,_=>by unfold Dv.hk at h;cases h
 | .int _,.bl _,_,h,_=>by unfold Dv.hk at h;cases h
 | .str _,.ah,_,h,_=>by unfold Dv.hk at h;cases h
 | .str _,.bl _,_,h,_=>by unfold Dv.hk at h;cases h
 | .tup _,.ah,_,h,_=>by unfold Dv.hk at h;cases h
 | .tup _,.bl _,_,h,_=>by unfold Dv.hk at h;cases h
theorem Dv.kX:∀{ds es:List Dv},Dv.iJ ds=true->Dv.iJ es=true->Dv.VI ds es=true->ds=es
 |[],[],_,_,_=>rfl
 |d::ds,e::es,h1,h2,h=>by
  unfold Dv.iJ at h1 h2;unfold Dv.VI at h;obtain⟨a1,a2⟩:=(Bool.and_eq_true _ _).mp h1;obtain⟨b1,b2⟩:=(Bool.and_eq_true _ _).mp h2;obtain⟨c1,c2⟩:=(Bool.and_eq_true _ _).mp h;rw[Dv.yI a1 b1 c1,Dv.kX a2 b2 c2]
 |[],_::_,_,_,h=>by unfold Dv.VI at h;cases h
 |_::_,[],_,_,h=>by unfold Dv.VI at h;cases h
end
theorem HD.eq:∀(n:Nat){u v:Value}{d e:Dv}{s:Shared},d.depth<=n->HD s.heap u d->HD s.heap v e->∀{A:Around},A.units+n<cLine->EqAt A s u v (d.aC e):=by
 have key:∀(N:Nat){u v:Value}{d e:Dv}{s:Shared},d.depth<=N->HD s.heap u d->HD s.heap v e->∀{A:Around},A.units+N<cLine->(∀n,N=n+1->∀{u v:Value}{d e:Dv},d.depth<=n->HD s.heap u d->HD s.heap v e->∀{A:Around},A.units+n<cLine->EqAt A s u v (d.aC e))->EqAt A s u v (d.aC e):=by
  intro N u v d e s hN hu hv A hA ih;cases hu with
  |int i t=>
   cases hv with
   |int j t2=>exact EqAt.int_int i t j t2
   |str y t2=>exact EqAt.int_str i t y t2
   |tup e2 c2 d2 _=>exact EqAt.int_tuple i t ⟨_,e2,c2,_,d2⟩ (by lia)
  |str x t=>
   cases hv with
   |int j t2=>exact EqAt.str_int x t j t2
   |str y t2=>exact EqAt.str_str x t y t2
   |tup e2 c2 d2 _=>exact EqAt.str_tuple x t ⟨_,e2,c2,_,d2⟩ (by lia)
  |@tup a o us m ds e1 c1 d1 t1=>
   cases hv with
   |int j t2=>exact EqAt.tuple_int j t2 ⟨_,e1,c1,_,d1⟩ (by lia)
   |str y t2=>exact EqAt.tuple_str y t2 ⟨_,e1,c1,_,d1⟩ (by lia)
   |@tup a2 o2 AD m2 es e2 c2 d2 t2=>
    have o7:∃n,N=n+1:=⟨N-1,by unfold Dv.depth at hN;lia⟩;obtain⟨n,rfl⟩:=o7;have fN:Dv.Qs ds<=n:=by have:=hN;unfold Dv.depth at this;lia
    have q1:=t1.length;have q2:=t2.length
    by_cases iF:a=a2
    ·subst iF;rw[e1]at e2;cases e2;rw[d1]at d2;injection d2 with h1 _;have:us=AD:=by simpa using congrArg Array.toList h1
     subst this;have inj:∀{us:List Value}{ds es:List Dv},bp s.heap us ds->bp s.heap us es->ds=es:=by
      have Dz:∀(n:Nat){u:Value}{d e:Dv},d.depth<=n->HD s.heap u d->HD s.heap u e->d=e:=by
       intro n
       induction n with
       |zero=>
        intro u d e hn h1 h2;cases h1 with
        |int i t=>cases h2;rfl
        |str x t=>cases h2;rfl
        |tup _ _ _ _=>unfold Dv.depth at hn;lia
       |succ n ih=>
        intro u d e hn h1 h2;cases h1 with
        |int i t=>cases h2;rfl
        |str x t=>cases h2;rfl
        |@tup b ob vs k fs g1 g2 g3 g4=>
         cases h2 with
         |@tup _ ob2 cr k2 uh f1 f2 f3 f4=>
          rw[g1]at f1;cases f1;rw[g3]at f3;injection f3 with z _;have:vs=cr:=by simpa using congrArg Array.toList z
          subst this;have hL:Dv.Qs fs<=n:=by unfold Dv.depth at hn;lia
          have go:∀{vs:List Value}{fs uh:List Dv},Dv.Qs fs<=n->bp s.heap vs fs->bp s.heap vs uh->fs=uh:=by
           intro vs
           induction vs with
           |nil=>intro fs uh _ a b;cases a;cases b;rfl
           |cons v vs DB=>
            intro fs uh hL a b;cases a with
            |cons a1 a2=>
             cases b with
             |cons b1 b2=>
              unfold Dv.Qs at hL;rw[ih (by lia) a1 b1,DB (by lia) a2 b2]
          rw[go hL g4 f4]
      intro us
      induction us with
      |nil=>intro ds es a b;cases a;cases b;rfl
      |cons v vs DB=>
       intro ds es a b;cases a with
       |cons a1 a2=>
        cases b with
        |cons b1 b2=>rw[Dz _ (ng _) a1 b1,DB a2 b2]
     rw[inj t1 t2,Dv.ZN];exact EqAt.same _
    ·have z:=RcAt.tuples (A:=A) (s:=s) (e:=λj=>((ds[j]?).getD .ah).aC ((es[j]?).getD .ah)) ⟨o,e1,c1,m,d1⟩ ⟨o2,e2,c2,m2,d2⟩ (by lia) λj h1 h2=>by
      rw[nQ]at h1 h2;obtain⟨x,k1,k2⟩:=t1.at (List.getElem?_eq_getElem h1);obtain⟨y,m1,Nz⟩:=t2.at (List.getElem?_eq_getElem h2);have g1:us.toArray[j]=us[j]:=by simp
      have g2:AD.toArray[j]=AD[j]:=by simp
      rw[g1,g2];show EqAt A.in1 s us[j] AD[j] (((ds[j]?).getD .ah).aC ((es[j]?).getD .ah));rw[k1,m1];exact ih n rfl (Nat.le_trans (Dv.Q3 k1) fN) k2 Nz (by show A.units+1+n<cLine;lia)
     rw[nQ,nQ,q1,q2]at z;rw[←Dv.Jj]at z;unfold Dv.aC;exact .of_refs iF z
 intro n
 induction n with
 |zero=>intro u v d e s hn hu hv A hA;exact key 0 hn hu hv hA λn z=>by lia
 |succ n ih=>intro u v d e s hn hu hv A hA;exact key (n+1) hn hu hv hA λm z=>by have:m=n:=(by lia);subst this;exact λ{u v d e} a b c{A} d'=>ih a b c d'
open PySem.SetTable (probe turns)
theorem Kh{hs:List Int}{t:SetTable}(o:aB.Ok hs t){ha:Nat->Int}{h:Int}{N n0:Nat}{p:SetTable.Probe}{r:Option SetTable.Met}(hN:(aB.path t h N).j∉t.place.toList)(bi:∀m,m<N->(aB.path t h m).j∈t.place.toList) (iK:N<10*turns t.mask) (ui:n0<=N) (hp:p=aB.path t h n0) (heq:t.probe ha h p=r):
  (r=some (.empty (aB.path t h N).j none)/\∀m,n0<=m->m<N->∀i,t.place[i]? =some (aB.path t h m).j->ha i≠h)\/
  ∃m i,n0<=m/\m<N/\t.place[i]? =some (aB.path t h m).j/\ha i=h/\r=some (.candidate (aB.path t h m).j i (aB.path t h (m+1)))/\∀m',n0<=m'->m'<m->∀i,t.place[i]? =some (aB.path t h m').j->ha i≠h:=by
 subst hp;subst heq;exact aB.Um o hN bi (N-n0) (10*turns t.mask) n0 (by lia) (by lia)
theorem qa{hs:List Int}{t:SetTable}(o:aB.Ok hs t){ha:Nat->Int}{h:Int}{N n0:Nat}(hN:(aB.path t h N).j∉t.place.toList)(bi:∀m,m<N->(aB.path t h m).j∈t.place.toList) (iK:N<10*turns t.mask) (ui:n0<=N):∃met,t.probe ha h (aB.path t h n0)=some met:=by
 rcases Kh o (ha:=ha) hN bi iK ui rfl rfl with⟨r,_⟩|⟨m,i,_,_,_,_,r,_⟩<;>exact⟨_,r⟩
section
variable {prog:Program}{w:World}{A:Around}{E:Value->Shared->Prop}{s:Shared}
theorem vj{x:Value}{d:Dv}{Q:Bool->Shared->Prop}(hx:HD s.heap x d)(hd:d.depth<=8)(l:List Value)(hl:∀y∈l,∃e,HD s.heap y e/\e.depth<=8) (h:Q false s):wpAny (model prog w) A (searchCouldBeSeen x l) Q E s:=by
 unfold searchCouldBeSeen;refine wpAny_bind ?_;refine wpAny_forIn_list _ (λrest r s'=>r.1=none/\s'=s/\∀y∈rest,∃e,HD s.heap y e/\e.depth<=8) _ ?_ ?_ _ _ ⟨ae,ae,hl⟩
 ·rintro y rest r s' ⟨hr,rfl,Cl⟩;have SB:∀y∈rest,∃e,HD s'.heap y e/\e.depth<=8:=λz hz=>Cl z (nz _ hz);obtain⟨e,hy,he⟩:=Cl y nA;dsimp only
  split<;>split
  all_goals first
   |exact wpAny_pure ⟨rfl,rfl,SB⟩
   |(refine wpAny_bind (HD.quiet 8 hd hx ?_)
     simp only[Bool.not_true,Bool.false_eq_true,if_false];refine wpAny_bind (HD.quiet 8 he hy ?_);simp only[Bool.not_true,Bool.false_eq_true,if_false];refine wpAny_bind (HD.zg 8 hd hx ?_);simp only[Bool.false_eq_true,if_false];refine wpAny_bind (HD.zg 8 he hy ?_);simp only[Bool.false_eq_true,if_false];exact wpAny_pure ⟨rfl,rfl,SB⟩)
 ·rintro⟨r1,r2⟩ s' ⟨hr,rfl,_⟩;simp only at hr;subst hr;exact wpAny_pure h
noncomputable abbrev ents(w:World)(es:List (Value × Dv)):List (Int × Value):=es.map λe=>(QM w e.2,e.1)
noncomputable abbrev hashes(w:World)(es:List (Value × Dv)):List Int:=es.map λe=>QM w e.2
structure bo(h:Heap)(e:Value × Dv):Prop where
 hd:HD h e.1 e.2
 dp:e.2.depth<=7
 hk:e.2.hk=true
 rf:∃b,e.1=.ref b
theorem qb{a:Addr}{o:Obj}{ep:Nat}{t:SetTable}{es:List (Value × Dv)}{x:Value}{d:Dv}(hu:A.units+8<cLine)(ho:s.heap.get? a=some o)(hd:o.data=.set (ents w es).toArray ep t)(ok:aB.Ok (hashes w es) t)(rm:aB.JC (hashes w es) t)(el:∀e∈es,bo s.heap e) (hx:bo s.heap (x,d))
  {N:Nat} (iK:N<10*turns t.mask) (hN:(aB.path t (QM w d) N).j∉t.place.toList) (bi:∀m,m<N->(aB.path t (QM w d) m).j∈t.place.toList) {Q:SetFound->Shared->Prop}:
  ∀(k n0 fuel:Nat)(fz:Option SetTable.Probe),N-n0=k->n0<=N->k<fuel->fz.getD (t.probeStart (QM w d))=aB.path t (QM w d) n0->(∀m,m<n0->∀(i:Nat) e,t.place[i]? =some (aB.path t (QM w d) m).j->es[i]? =some e->e.2≠d)->
   ((∃e∈es,e.2=d)->Q (.there none) s)->((∀e∈es,e.2≠d)->Q (.free (aB.path t (QM w d) N).j false) s)->wpAny (model prog w) A (setSearchFrom a x (QM w d) true fuel fz) Q E s:=by
 have hsz:(ents w es).toArray.size=es.length:=by rw[nQ,m7]
 have hlen:t.place.size=es.length:=by rw[ok.len,m7]
 have lE:t.fill=es.length:=by show t.place.size+t.dummies.size=_;rw[ok.lC,hlen];rfl
 have i7:es.length*5<t.mask*3:=by have:=rm;unfold aB.JC at this;rwa[m7]at this
 have hf:t.fits (ents w es).toArray.size=true:=by
  rw[hsz];simp only[SetTable.fits,Bool.and_eq_true,beq_iff_eq,decide_eq_true_eq];exact⟨hlen,by lia⟩
 have NA:t.gaveWay=false:=by
  unfold SetTable.gaveWay;rcases ok.mask with z|z<;>rw[z]<;>rfl
 intro k
 induction k using Nat.strongRecOn with
 |ind k ih=>
  intro n0 fuel fz hk ui hfu PP seen iH Ps;obtain⟨fuel,rfl⟩:∃f,fuel=f+1:=⟨fuel-1,by lia⟩;unfold setSearchFrom;refine wpAny_bind (wpAny_setState_of ho hd hf ?_);dsimp only;rw[NA];simp only[Bool.false_eq_true,if_false];rw[PP];have found:∀{e:Value × Dv},e∈es->e.2=d->∃m i,n0<=m/\m<N/\t.place[i]? =some (aB.path t (QM w d) m).j/\es[i]? =some e:=λ{e} he cW=>by
   obtain⟨i,hi,rfl⟩:=List.mem_iff_getElem.mp he;have Ix:t.place[i]? =some (t.place[i]'(by lia)):=Array.getElem?_eq_getElem (by lia);have hz:(QM w es[i].2,t.place[i]'(by lia))∈(hashes w es).zip t.place.toList:=by
    refine List.mem_iff_getElem.mpr ⟨i,by simp[List.length_zip];lia,?_⟩;simp
   obtain⟨m,e1,e2⟩:=ok.on _ hz;rw[cW]at e1 e2;have NC:m<N:=by
    rcases Nat.lt_trichotomy m N with z|z|z
    ·exact z
    ·subst z;exact absurd (by rw[e1];simp) hN
    ·exact absurd (e2 N z) hN
   refine⟨m,i,?_,NC,by rw[e1];exact Ix,List.getElem?_eq_getElem hi⟩;rcases Nat.lt_or_ge m n0 with z|z
   ·exact absurd cW (seen m z i _ (by rw[e1];exact Ix) (List.getElem?_eq_getElem hi))
   ·exact z
  have uniq:∀{i i' j:Nat},t.place[i]? =some j->t.place[i']? =some j->i=i':=λh1 h2=>by
   have:=aB.JN ok h1;rw[aB.JN ok h2]at this;cases this;rfl
  split
  ·rename_i met heq;rcases Kh ok hN bi iK ui rfl heq with⟨r,q⟩|⟨m,i,h1,h2,h3,h4,r,q⟩
   ·cases r;refine wpAny_pure (Ps λe he cW=>?_);obtain⟨m,i,h1,h2,h3,h4⟩:=found he cW;refine q m h1 h2 i h3 ?_;show((((ents w es).toArray)[i]?).map (·.1)).getD 0=QM w d;have:((ents w es).toArray)[i]? =some (QM w e.2,e.1):=by simp[h4]
    rw[this,cW];rfl
   ·cases r;have o6:i<es.length:=by
     have:=(Array.getElem?_eq_some_iff.mp h3).1;lia
    have pL:es[i]? =some es[i]:=List.getElem?_eq_getElem o6;have iL:((ents w es).toArray)[i]? =some (QM w es[i].2,es[i].1):=by simp[pL]
    have E1:=el es[i] (List.getElem_mem o6);obtain⟨b,hb⟩:=E1.rf;refine if iM:t.led=true then ?led else ?uj
    case' led=>
     rw[iM];simp only[Bool.not_true,Bool.false_eq_true,if_false]
    case' uj=>
     rw[(Bool.not_eq_true _).mp iM];simp only[Bool.not_false,if_true];refine wpAny_bind (vj hx.hd (by have:=hx.dp;lia) _ (λy hy=>by
      obtain⟨e,he,rfl⟩:=List.mem_map.mp hy;have rg:e∈ents w es:=by
       have:=(Array.mem_filter.mp (Array.mem_toList_iff.mp he)).1;simpa using this
      obtain⟨e0,h0,rfl⟩:=List.mem_map.mp rg;exact⟨e0.2,(el e0 h0).hd,by have:=(el e0 h0).dp;lia⟩) ?_)
     simp only[Bool.false_eq_true,if_false]
    all_goals
     rw[iL];dsimp only;refine wpAny_bind (wpAny_holding (HD.eq 7 E1.dp E1.hd hx.hd (by lia) prog w _ _ ?_));refine wpAny_bind (wpAny_setState_of ho hd hf ?_);dsimp only;cases hq:es[i].2.aC d with
     |true=>
      rw[Bool.true_and,if_pos rfl];exact wpAny_pure (iH ⟨es[i],List.getElem_mem o6,Dv.yI E1.hk hx.hk hq⟩)
     |false=>
      rw[Bool.true_and];simp only[Bool.false_eq_true,if_false];have ND:t.sameMemory t.moves t.mask=some true:=by unfold SetTable.sameMemory;rw[beq_self_eq_true];rfl
      rw[ND];dsimp only;rw[if_pos rfl,aB.JN ok h3];dsimp only;rw[iL];dsimp only;rw[hb];refine wpAny_bind (wpAny_isSame_ref_self (wpAny_bind (wpAny_pure ?_)));rw[if_pos rfl];dsimp only;refine ih (N-(m+1)) (by lia) (m+1) fuel _ rfl (by lia) (by lia) rfl (λm' d9 i' e' oq rg=>?_) iH Ps
      by_cases z1:m'<n0
      ·exact seen m' z1 i' e' oq rg
      ·by_cases z2:m'=m
       ·subst z2;obtain rfl:=uniq h3 oq;rw[pL]at rg;cases rg;intro z;rw[z,Dv.ZN]at hq;cases hq
       ·intro z;refine q m' (by lia) (by lia) i' oq ?_;show((((ents w es).toArray)[i']?).map (·.1)).getD 0=QM w d;have:((ents w es).toArray)[i']? =some (QM w e'.2,e'.1):=by simp[rg]
        rw[this,z];rfl
  ·rename_i heq;exact(heq _ (Classical.choose_spec (qa ok hN bi iK ui))).elim
end
open PySem.SetTable (probe turns below)
structure aY(w:World)(h:Heap)(a:Addr)(es:List (Value × Dv)):Prop where
 ex:∃o ep t,h.get? a=some o/\o.ExactSet/\o.data=.set (ents w es).toArray ep t/\aB.Ok (hashes w es) t/\aB.JC (hashes w es) t/\t.led= !w.params.followText "set-order"
 el:∀e∈es,bo h e
 nd:(es.map (·.2)).Nodup
theorem bo.keep{h h':Heap}{e:Value × Dv}(E:bo h e)(k:∀b o,h.get? b=some o->o.cls=.type "tuple"->h'.get? b=some o):bo h' e:=⟨E.hd.keep k,E.dp,E.hk,E.rf⟩
theorem aY.keep{w:World}{h h':Heap}{a:Addr}{es:List (Value × Dv)}(S:aY w h a es)(k:∀b o,h.get? b=some o->(o.cls=.type "tuple"\/b=a)->h'.get? b=some o):aY w h' a es:=by
 obtain⟨o,ep,t,ho,r⟩:=S.ex;exact⟨⟨o,ep,t,k a o ho (.inr ae),r⟩,λe he=>(S.el e he).keep λb o h1 h2=>k b o h1 (.inl h2),S.nd⟩
theorem Vw{α:Type}(order:List Nat)(l:List α)(d:α)(h:∀i∈order,i<l.length):order.filterMap (λi=>l.toArray[i]?)=order.map (λi=>l.getD i d):=by
 induction order with
 |nil=>rfl
 |cons i r ih=>
  have hi:=h i nA;have e:l.toArray[i]? =some (l.getD i d):=by simp[hi]
  rw[List.filterMap_cons,e,nM,ih λj hj=>h j (nz _ hj)]
theorem Vx{α:Type}(l:List α)(d:α){order:List Nat}(p:order.Perm (List.range l.length)):(order.map λi=>l.getD i d).Perm l:=by
 have h1:=p.map λi=>l.getD i d;have h2:(List.range l.length).map (λi=>l.getD i d)=l:=by
  apply List.ext_getElem (by simp);intro i h1 h2;simp[List.getD,List.getElem?_eq_getElem h2]
 rw[h2]at h1;exact h1
section
variable {prog:Program}{w:World}{A:Around}{E:Value->Shared->Prop}{s:Shared}
theorem xW{a:Addr}{es:List (Value × Dv)}{x:Value}{d:Dv}{Q:Bool->Shared->Prop}(hu:A.units+8<cLine)(S:aY w s.heap a es)(hx:bo s.heap (x,d))(hl:es.length<12)
  (hQ:∀b h' ii,Heap.SameBut a s.heap h'->aY w h' a ii->((∃e∈es,e.2=d)/\ii=es\/(∀e∈es,e.2≠d)/\ii.Perm (es++[(x,d)]))->Q b {s with heap:=h'}):
  wpAny (model prog w) A (setAddHashed a x (QM w d)) Q E s:=by
 obtain⟨o,ep,t,ho,hex,hd,ok,rm,led⟩:=S.ex;obtain⟨bx,DC⟩:=hx.rf;have DC:x=.ref bx:=DC;have hlen:t.place.size=es.length:=by rw[ok.len,m7]
 have lE:t.fill=es.length:=by show t.place.size+t.dummies.size=_;rw[ok.lC,hlen];rfl
 have i7:es.length*5<t.mask*3:=by have:=rm;unfold aB.JC at this;rwa[m7]at this
 have hsz:(ents w es).toArray.size=es.length:=by rw[nQ,m7]
 have hf:t.fits (ents w es).toArray.size=true:=by
  rw[hsz];simp only[SetTable.fits,Bool.and_eq_true,beq_iff_eq,decide_eq_true_eq];exact⟨hlen,by lia⟩
 have lF:∀{h':Heap},Heap.SameBut a s.heap h'->∀b o',s.heap.get? b=some o'->o'.cls=.type "tuple"->h'.get? b=some o':=λ{h'} sb b o' e c=>by
  refine(sb.2 b λz=>?_).trans e;rw[z,ho]at e;cases e;rw[hex.1]at c;injection c with c;exact absurd c (by decide)
 obtain⟨N,iK,hN,bi⟩:=aB.U8 ok rm (QM w d);unfold setAddHashed setAddHashedIn;refine wpAny_holding (wpAny_bind (wpAny_setState_of ho hd hf ?_));dsimp only;rw[show byScan x (ents w es).toArray=false by rw[DC];rfl];simp only[Bool.false_eq_true,if_false];refine wpAny_bind (qb hu ho hd ok rm S.el hx iK hN bi N 0 100000 none (by lia) (nR _) (by unfold turns at iK;rcases ok.mask with z|z<;>rw[z]at iK<;>lia) ae (λm hm=>by lia) (λiH=>?_) λPs=>?_)
 ·refine wpAny_pure ?_;have:=hQ false s.heap es (Heap.SameBut.refl _ _) S (.inl ⟨iH,ae⟩);exact this
 ·dsimp only;refine wpAny_bind (wpAny_setState_of ho hd hf ?_);dsimp only;obtain⟨AE,Op⟩:=aB.yE ok hN bi (by have:=(aB.zd ok.mask (QM w d) N).2;lia);have bl:=(aB.below_at ok (aB.path t (QM w d) N).j).1;have iL:SetTable.insertAt (ents w es).toArray (below t.place (aB.path t (QM w d) N).j) (QM w d,x)=(ents w (es.take (below t.place (aB.path t (QM w d) N).j)++(x,d)::es.drop (below t.place (aB.path t (QM w d) N).j))).toArray:=by
   apply Array.toList_inj.mp;rw[SetTable.toList_insertAt];simp[ents,List.map_take,List.map_drop]
  have NF:hashes w (es.take (below t.place (aB.path t (QM w d) N).j)++(x,d)::es.drop (below t.place (aB.path t (QM w d) N).j))=(hashes w es).take (below t.place (aB.path t (QM w d) N).j)++QM w d::(hashes w es).drop (below t.place (aB.path t (QM w d) N).j):=by
   simp[hashes,List.map_take,List.map_drop]
  have rh:(es.take (below t.place (aB.path t (QM w d) N).j)++(x,d)::es.drop (below t.place (aB.path t (QM w d) N).j)).Perm (es++[(x,d)]):=by
   refine List.perm_middle.trans ?_;rw[List.take_append_drop];exact(List.perm_append_singleton _ _).symm
  rw[show(t.put (aB.path t (QM w d) N).j).2=below t.place (aB.path t (QM w d) N).j from rfl,iL];rw[←NF]at Op;generalize es.take (below t.place (aB.path t (QM w d) N).j)++(x,d)::es.drop (below t.place (aB.path t (QM w d) N).j)=ci at Op rh ⊢;have bO:ci.length=es.length+1:=by rw[rh.length_eq,m5];rfl
  have GH:∀e∈ci,bo s.heap e:=λe he=>by
   rcases List.mem_append.mp (rh.mem_iff.mp he)with z|z
   ·exact S.el e z
   ·rw[List.mem_singleton.mp z];exact hx
  have GI:(ci.map (·.2)).Nodup:=by
   refine(rh.map (·.2)).nodup_iff.mpr ?_;rw[List.map_append,List.nodup_append];refine⟨S.nd,by simp,λy hy z hz=>?_⟩;obtain⟨e,he,rfl⟩:=List.mem_map.mp hy;have:z=d:=by simpa using hz
   rw[this];exact Ps e he
  generalize GJ:(t.put (aB.path t (QM w d) N).j).1=t1 at Op ⊢;have Ah:t1.mask=t.mask:=by rw[←GJ];rfl
  have i8:t1.led=t.led:=by rw[←GJ];rfl
  have any:∀t2:SetTable,t2.mask=t1.mask->t2.place=t1.place->t2.dummies=t1.dummies->t2.led=t1.led->wpAny (model prog w) A (do
    storeSet a (ents w ci).toArray t2
    if(!false&&t2.tooFull)=true then setRelay a (SetTable.grown ((ents w es).toArray.size+1))
    pure true) Q E s:=λt2 e1 e2 e3 eL=>by
   have sF:aB.Ok (hashes w ci) t2:=⟨by rw[e1];exact Op.mask,by rw[e3];exact Op.lC,by rw[e2];exact Op.len,by rw[e2];exact Op.ups,by rw[e2,e1];exact Op.le,λq hq=>by
    rw[e2]at hq ⊢;obtain⟨n,a1,a2⟩:=Op.on q hq;exact⟨n,by rw[aB.Je e1];exact a1,λm hm=>by rw[aB.Je e1];exact a2 m hm⟩⟩
   have lV:t2.place.size=ci.length:=by rw[sF.len,m7]
   have tT:t2.fill=ci.length:=by show t2.place.size+t2.dummies.size=_;rw[sF.lC,lV];rfl
   have n8:(ents w ci).toArray.size=ci.length:=by rw[nQ,m7]
   have ge1:(s.heap.update a (Obj.putSet (ents w ci).toArray t2)).get? a=some {o with data:=.set (ents w ci).toArray (ep+1) t2}:=by
    have:=Heap.get?_update_self (Obj.putSet (ents w ci).toArray t2) ho (by rw[putSet_of _ _ hd];rfl);rw[putSet_of _ _ hd]at this;exact this
   have uk:=Heap.SameBut.update s.heap a (Obj.putSet (ents w ci).toArray t2);have NG:t2.fits (ents w ci).toArray.size=true:=by
    rw[n8];simp only[SetTable.fits,Bool.and_eq_true,beq_iff_eq,decide_eq_true_eq];refine⟨lV,?_⟩;rw[tT,e1,Ah];lia
   refine wpAny_bind (wpAny_storeSet_of ho hd ?_ (by rw[n8,sizeLine_eq];lia))
   by_cases mt:t2.tooFull=true
   ·rw[if_pos (by rw[mt];rfl)];have h7:t.mask=7:=by
     rcases ok.mask with z|z
     ·exact z
     ·unfold SetTable.tooFull at mt;rw[tT,e1,Ah,z]at mt;have:=of_decide_eq_true mt;lia
    have h5:es.length=4:=by
     unfold SetTable.tooFull at mt;rw[tT,e1,Ah,h7]at mt;have:=of_decide_eq_true mt;lia
    obtain⟨t3,order,sJ,NH,iC,pd,NI⟩:=aB.vi 31 (.inr ae) t2.finger (t2.movedTo 31) t2.led t2.plain (hashes w ci).toArray (by rw[nQ,m7];lia);have c5:(hashes w ci).toArray.size=ci.length:=by rw[nQ,m7]
    rw[c5]at pd;have DD:∀i∈order.toList,i<ci.length:=λi hi=>by have:=pd.mem_iff.mp hi;simpa using this
    refine wpAny_bind ?_;unfold setRelay;refine wpAny_bind (wpAny_setState_of ge1 ae NG ?_);dsimp only;rw[hsz,h5];rw[if_neg (by rw[sizeLine_eq];decide)];have DE:t2.relaid ((ents w ci).toArray.map (·.1)) (SetTable.grown (4+1))=some (t3,order):=by
     have e0:(ents w ci).toArray.map (·.1)=(hashes w ci).toArray:=by simp[ents,hashes]
     rw[e0];exact sJ
    rw[DE];have e4:order.filterMap ((ents w ci).toArray[·]?)=(ents w (order.toList.map λi=>ci.getD i (x,d))).toArray:=by
     apply Array.toList_inj.mp;rw[Array.toList_filterMap,Vw order.toList (ents w ci) (QM w d,x) (λi hi=>by rw[m7];exact DD i hi)];simp only[ents,nK];refine List.map_congr_left λi hi=>?_;have cz:=DD i hi;simp[List.getD,nE,List.getElem?_eq_getElem cz]
    have ph:(order.toList.map λi=>ci.getD i (x,d)).Perm ci:=Vx ci (x,d) pd;have GK:(ents w (order.toList.map λi=>ci.getD i (x,d))).toArray.size=ci.length:=by rw[nQ,m7,ph.length_eq]
    refine wpAny_bind (wpAny_of_eq (a:=((ents w (order.toList.map λi=>ci.getD i (x,d))).toArray,t3)) ?_ ?_)
    ·show(if(_:Array (Int × Value)).size !=_ then _ else _)=_;rw[e4,GK,n8,bne_self_eq_false];rfl
    dsimp only;refine wpAny_storeSet_of ge1 rfl ?_ (by rw[GK,sizeLine_eq];lia);refine wpAny_pure ?_;have NJ:((s.heap.update a (Obj.putSet (ents w ci).toArray t2)).update a (Obj.putSet (ents w (order.toList.map λi=>ci.getD i (x,d))).toArray t3)).get? a=some {o with data:=.set (ents w (order.toList.map λi=>ci.getD i (x,d))).toArray (ep+1+1) t3}:=by
     have:=Heap.get?_update_self (Obj.putSet (ents w (order.toList.map λi=>ci.getD i (x,d))).toArray t3) ge1 (by rw[putSet_of _ _ rfl];rfl);rw[putSet_of _ _ rfl]at this;exact this
    have GL:=uk.trans (Heap.SameBut.update (s.heap.update a (Obj.putSet (ents w ci).toArray t2)) a (Obj.putSet (ents w (order.toList.map λi=>ci.getD i (x,d))).toArray t3));have eh:hashes w (order.toList.map λi=>ci.getD i (x,d))=order.toList.map λk=>(hashes w ci).toArray.getD k 0:=by
     simp only[hashes,nK];refine List.map_congr_left λi hi=>?_;have cz:=DD i hi;simp[List.getD,List.getElem?_eq_getElem cz]
    refine hQ true _ (order.toList.map λi=>ci.getD i (x,d)) GL ⟨⟨_,ep+1+1,t3,NJ,hex,ae,by rw[eh];exact NI,?_,by rw[iC,eL,i8,led]⟩,λe he=>(GH e (ph.mem_iff.mp he)).keep (lF GL),(ph.map (·.2)).nodup_iff.mpr GI⟩ (.inr ⟨Ps,ph.trans rh⟩);unfold aB.JC;rw[NH,m7,ph.length_eq];lia
   ·rw[if_neg (by rw[(Bool.not_eq_true _).mp mt];decide)];refine wpAny_pure ?_;refine hQ true _ ci uk ⟨⟨_,ep+1,t2,ge1,hex,ae,sF,?_,by rw[eL,i8,led]⟩,λe he=>(GH e he).keep (lF uk),GI⟩ (.inr ⟨Ps,rh⟩);unfold SetTable.tooFull at mt;unfold aB.JC;rw[m7];rw[tT]at mt;have:¬ (ci.length*5≥t2.mask*3):=λz=>mt (m9 z);lia
  cases Ix:t1.plain with
  |true=>
   simp only[if_true];refine wpAny_bind (HD.Ny 8 hx.hd λb=>?_);cases b with
   |true=>simp only[if_true];exact any t1 rfl rfl rfl rfl
   |false=>simp only[Bool.false_eq_true,if_false];exact any _ rfl rfl rfl rfl
  |false=>
   simp only[Bool.false_eq_true,if_false];refine wpAny_bind (wpAny_pure ?_);simp only[if_true];exact any t1 rfl rfl rfl rfl
end
open PySem PySem.Spec PyProof.Rows
noncomputable def isStar:Expr->Bool
 | .Starred .. =>true
 |_=>false
theorem YC{e:Expr}{es:List Expr}{env:Env}(h:isStar e=false):starEach (e::es) env=(false,eval e env)::starEach es env:=by
 cases e<;>first|rfl|cases h
open Builtin Builtin.Str
section
variable {X:Cx}
open Classical in
theorem YD{f:Nat->Str}:∀{n:Nat}{x:Str},(met f n).any (· ==x)=true↔∃i,i<n/\f i=x
 |0,x=>⟨λh=>by simp[met]at h,λ⟨i,h,_⟩=>absurd h (Nat.not_lt_zero _)⟩
 |n+1,x=>by
  show(UQ (met f n) (f n)).any (· ==x)=true↔_;rw[xh,Bool.or_eq_true,YD (n:=n),decide_eq_true_iff];constructor
  ·rintro(⟨i,hi,e⟩|e)
   ·exact⟨i,by lia,e⟩
   ·exact⟨n,by lia,e.symm⟩
  ·rintro⟨i,hi,e⟩
   by_cases h:i=n
   ·subst h;exact .inr e.symm
   ·exact .inl ⟨i,by lia,e⟩
theorem Uo{f:Nat->Str}:∀{n:Nat},(met f n).length=n↔∀i j,i<j->j<n->f i≠f j
 |0=>⟨λ_ i j _ h=>absurd h (Nat.not_lt_zero _),λ_=>rfl⟩
 |n+1=>by
  have hle:=kA f n;have ih:=Uo (f:=f) (n:=n);show(UQ (met f n) (f n)).length=n+1↔_;rw[YW]
  by_cases ha:(met f n).any (· ==f n)=true
  ·rw[if_pos ha];obtain⟨i,hi,e⟩:=YD.mp ha;exact⟨λz=>by lia,λz=>absurd e (z i n hi (by lia))⟩
  ·rw[if_neg ha];constructor
   ·intro z i j sw hj
    by_cases h:j=n
    ·subst h;exact λe=>ha (YD.mpr ⟨i,sw,e⟩)
    ·exact ih.mp (by lia) i j sw (by lia)
   ·intro z;rw[ih.mpr λi j sw hj=>z i j sw (by lia)]
end
noncomputable def vH(es:List (Value × Dv))(ds:List Dv):Prop:=∀d,(∃e∈es,e.2=d)↔d∈ds
structure Mv(wr:List Addr)(s s':Shared):Prop where
 heap:∀b o,b∉wr->s.heap.get? b=some o->s'.heap.get? b=some o
 gens:s'.gens=s.gens
 drawn:s'.drawn=s.drawn
 os:s'.os=s.os
theorem Mv.trans{wr:List Addr}{a b c:Shared}(h1:Mv wr a b)(h2:Mv wr b c):Mv wr a c:=⟨λx o hx e=>h2.heap x o hx (h1.heap x o hx e),h2.gens.trans h1.gens,h2.drawn.trans h1.drawn,h2.os.trans h1.os⟩
theorem Mv.of{wr GN:List Addr}{a b:Shared}(h:Moved wr (λx y=>x=y) a b) (hs:∀x∈wr,x∈GN):Mv GN a b:=⟨λx o hx e=>h.heap x o (λz=>hx (hs x z)) e,h.gens.symm,h.drawn,h.os⟩
noncomputable def yJ(items:Array Value)(ds:List Dv)(es:List (Value × Dv)):Prop:=∀e∈es,∃j:Nat,items[j]? =some e.1/\ds[j]? =some e.2
section
variable {prog:Program}{w:World}{A:Around}{R:Result->Shared->Prop}
theorem zh{I l S:Addr}{items:Array Value}{ds:List Dv}(hh:A.in1.handled=none)(hu:A.units+9<cLine)(NK:l≠I)(um:S≠I)(NL:S≠l)(cG:ds.length=items.size)(Gz:items.size<=12):
  ∀(m i:Nat)(s:Shared)(es:List (Value × Dv)),items.size-i=m->i<=items.size->s.heap.IsListIter I l i->s.heap.IsList l items->(∀(j:Nat)(v:Value)(d:Dv),items[j]? =some v->ds[j]? =some d->bo s.heap (v,d))->aY w s.heap S es->vH es (ds.take i)->es.length<=i->yJ items ds es->
   (∀s' ii,Mv [S,I] s s'->aY w s'.heap S ii->vH ii ds->ii.length<=items.size->yJ items ds ii->R (.ok (.ret .none)) s')->codeAny (model prog w) A (.builtin "set.update.loop" ⟨[.ref S,.ref I],[]⟩) R s:=by
 have W:=KB (prog:=prog) (w:=w) (A:=A.in1) hh I l NK items;intro m
 induction m with
 |zero=>
  intro i s es hk hi hit hl o8 hS hj hle s0 hR;obtain rfl:i=items.size:=by lia
  refine codeAny_builtin F.entry_set_update_loop ?_;rw[Around.under_plainId F.plain_set_update_loop _];show wpAny _ A.in1 (pyNext (.ref I)>>=_) _ _ s;refine wpAny_bind (W.done s _ _ ⟨hit,hl⟩ λs' hm=>?_);show wpAny _ A.in1 (ret Value.none) _ _ s';have kI:∀b o,b≠I->s.heap.get? b=some o->s'.heap.get? b=some o:=λb o hb e=>hm.heap b o (by simpa using hb) e;obtain⟨oI,eI,cI,_⟩:=id hit;refine wpAny_pure (hR s' es (Mv.of hm λb hb=>nz _ hb) (hS.keep λb o e c=>kI b o (λz=>?_) e) (by rw[←cG,List.take_length]at hj;exact hj) hle s0);rcases c with c|c
  ·rw[z,eI]at e;cases e;rw[cI]at c;injection c with c;exact absurd c (by decide)
  ·exact um (c.symm.trans z)
 |succ m ih=>
  intro i s es hk hi hit hl o8 hS hj hle s0 hR;have bi:i<items.size:=by lia
  refine codeAny_builtin F.entry_set_update_loop ?_;rw[Around.under_plainId F.plain_set_update_loop _];show wpAny _ A.in1 (pyNext (.ref I)>>=_) _ _ s;refine wpAny_bind (W.item i s _ _ bi ⟨hit,hl⟩ λv s' hP cU hm=>?_);have kI:∀b o,b≠I->s.heap.get? b=some o->s'.heap.get? b=some o:=λb o hb e=>hm.heap b o (by simpa using hb) e;obtain⟨oI,eI,cI,_⟩:=id hit;have nI:∀b o,s.heap.get? b=some o->o.cls=.type "tuple"->b≠I:=λb o e c z=>by
   rw[z,eI]at e;cases e;rw[cI]at c;injection c with c;exact absurd c (by decide)
  have AF:ds[i]? =some (ds[i]'(by lia)):=List.getElem?_eq_getElem (by lia);generalize ds[i]'(by lia)=d at AF;have cT:aY w s'.heap S es:=hS.keep λb o e c=>kI b o (c.elim (λc=>nI b o e c) λc=>by rw[c];exact um) e;have hE:bo s'.heap (v,d):=(o8 i v d hP AF).keep λb o e c=>kI b o (nI b o e c) e;show wpAny _ A.in1 (holding [v] (setAdd S v)>>=_) _ _ s';refine wpAny_bind (wpAny_holding ?_);unfold setAdd;refine wpAny_holding (wpAny_bind (HD.hash 7 hE.dp hE.hd (by show A.units+1+7<cLine;lia) λtk=>?_));refine xW (s:={s' with toks:=tk}) (by show A.units+1+8<cLine;lia) cT hE (by lia) λb h' ii sb sx fA=>?_;have DF:h'.IsListIter I l (i+1):=cU.1.at λo e=>(sb.2 I um.symm).trans e;have AC:h'.IsList l items:=cU.2.at λo e=>(sb.2 l NL.symm).trans e;obtain⟨oS,NM,tS,eS,xS,_⟩:=cT.ex;have kT:∀b o,s'.heap.get? b=some o->o.cls=.type "tuple"->h'.get? b=some o:=λb o e c=>by
   refine(sb.2 b λz=>?_).trans e;rw[z,eS]at e;cases e;rw[xS.1]at c;injection c with c;exact absurd c (by decide)
  have i6:vH ii (ds.take (i+1)):=λd'=>by
   rw[List.take_add_one,AF];show _↔d'∈ds.take i++[d];rw[List.mem_append,List.mem_singleton, ←hj d'];rcases fA with⟨⟨e0,NN,Aj⟩,rfl⟩|⟨eC,pm⟩
   ·exact⟨λz=>.inl z,λz=>z.elim id λz=>⟨e0,NN,Aj.trans z.symm⟩⟩
   ·constructor
    ·rintro⟨e,he,cW⟩;rcases List.mem_append.mp (pm.mem_iff.mp he)with z|z
     ·exact .inl ⟨e,z,cW⟩
     ·rw[List.mem_singleton.mp z]at cW;exact .inr cW.symm
    ·rintro(⟨e,he,cW⟩|z)
     ·exact⟨e,pm.mem_iff.mpr (ny _ he),cW⟩
     ·exact⟨(v,d),pm.mem_iff.mpr (nu _ (List.mem_singleton.mpr ae)),z.symm⟩
  have DG:ii.length<=i+1:=by
   rcases fA with⟨_,rfl⟩|⟨_,pm⟩
   ·lia
   ·rw[pm.length_eq,m5];show es.length+1<=i+1;lia
  have DH:yJ items ds ii:=λe he=>by
   rcases fA with⟨_,rfl⟩|⟨_,pm⟩
   ·exact s0 e he
   ·rcases List.mem_append.mp (pm.mem_iff.mp he)with z|z
    ·exact s0 e z
    ·rw[List.mem_singleton.mp z];exact⟨i,hP,AF⟩
  refine wpAny_pure ⟨plainId_quiet F.plain_set_update_loop _,ih (i+1) {s' with heap:=h',toks:=tk} ii (by lia) bi DF AC (λj v' d' a b=>((o8 j v' d' a b).keep λb o e c=>kI b o (nI b o e c) e).keep kT) sx i6 DG DH λbM DI cV DJ DK DM DO=>?_⟩;refine hR bM DI (Mv.trans (b:={s' with heap:=h',toks:=tk}) (Mv.trans (b:=s') (Mv.of hm λb hb=>nz _ hb) ⟨λb o hb e=>?_,ae,ae,ae⟩) cV) DJ DK DM DO;exact(sb.2 b λz=>hb (by rw[z];exact nA)).trans e
end
open PySem.SetTable (below)
theorem slot_set_iter:Slot "set" (Str.ofString "__iter__") "set.__iter__":=Slot.of (owner:="set") (n:="__iter__") (by rw[typeLookup_type,builtinLookup_eq_fast];kernel_rfl) (by decide+kernel) (by decide+kernel) (by decide+kernel) (Or.inl (by decide+kernel)) sub_set_self (by decide+kernel)
theorem Kv:entryFor table "set.__iter__"=some Builtin.«frozenset.__iter__»:=entryFor_alias (id':="frozenset.__iter__") (by rw[fastTable_eq_tree];kernel_rfl) (by first|kernel_rfl|decide+kernel) (by first|kernel_rfl|decide+kernel) (by rw[fastTable_eq_tree];kernel_rfl)
theorem Wz(a:Value):argsOk "set.__iter__" {pos:=[a]}:=by first|with_unfolding_all rfl|kernel_rfl
theorem Vy:isSubtype (.type "set_iterator") (.type "set_iterator")=pure true:=by rw[isSubtype_type];kernel_rfl
theorem Jf:Slot "set_iterator" (Str.ofString "__next__") "set_iterator.__next__":=Slot.of (owner:="set_iterator") (n:="__next__") (by rw[typeLookup_type,builtinLookup_eq_fast];kernel_rfl) (by decide+kernel) (by decide+kernel) (by decide+kernel) (Or.inl (by decide+kernel)) Vy (by decide+kernel)
theorem Zw:entryFor table "set_iterator.__next__"=some Builtin.«set_iterator.__next__»:=entryFor_of_tree (by kernel_rfl)
theorem ZU(a:Value):argsOk "set_iterator.__next__" {pos:=[a]}:=by first|with_unfolding_all rfl|kernel_rfl
theorem Xb{α:Type}:∀(l:List α)(i:Nat)(hi:i<l.length),(l[i]::l.eraseIdx i).Perm l
 |[],_,hi=>absurd hi (Nat.not_lt_zero _)
 |x::xs,0,_=>List.Perm.refl _
 |x::xs,i+1,hi=>by
  have cz:i<xs.length:=by simpa using hi
  exact(List.Perm.swap x xs[i] (xs.eraseIdx i)).trans ((Xb xs i cz).cons x)
theorem Vz{M:Model}{A:Around}{E:Value->Shared->Prop}{s:Shared}{src:Source}{n:Nat}{Q:Nat->Shared->Prop}(hn:n≠0)(h:∀i dr,i<n->Q i {s with drawn:=dr}):wpAny M A (choose src n) Q E s:=λΓ p hΓ=>by
 show Sem.wp M Γ (.choose src n .pure) _ _ p s;rw[Sem.wp_choose];exact⟨hn,wpAny_pure (M:=M) (A:=A) (E:=E) (Q:=Q) (h _ _ (Nat.mod_lt _ (Nat.pos_of_ne_zero hn))) Γ p hΓ⟩
theorem VA{M:Model}{A:Around}{E:Value->Shared->Prop}{α:Type}:∀(n:Nat)(xs:List α)(s:Shared)(Q:List α->Shared->Prop),xs.length<=n->(∀ys dr,ys.Perm xs->Q ys {s with drawn:=dr})->wpAny M A (drawOrder n xs) Q E s
 |0,xs,s,Q,hl,h=>by
  have:xs=[]:=List.length_eq_zero_iff.mp (by lia);subst this;unfold drawOrder;exact wpAny_pure (h [] s.drawn (List.Perm.refl _))
 |n+1,[],s,Q,hl,h=>by
  unfold drawOrder;exact wpAny_pure (h [] s.drawn (List.Perm.refl _))
 |n+1,x::xs,s,Q,hl,h=>by
  unfold drawOrder;refine wpAny_bind (Vz (by simp) λi dr hi=>?_);rw[List.getElem?_eq_getElem hi];dsimp only;have hp:((x::xs)[i]::(x::xs).eraseIdx i).Perm (x::xs):=Xb _ _ hi;refine wpAny_bind (VA n _ _ _ (by rw[List.length_eraseIdx_of_lt hi];simp at hl ⊢;lia) λys NO NP=>wpAny_pure (h _ NO ((NP.cons _).trans hp)))
theorem zi{α:Type}(next:Nat->Nat):∀(f k:Nat)(left:List α)(out:Array α),left.length<=f->(pickOrder.go next f k left out).toList.Perm (out.toList++left)
 |0,k,left,out,hl=>by
  have:left=[]:=List.length_eq_zero_iff.mp (by lia);subst this;unfold pickOrder.go;rw[nJ]
 |f+1,k,[],out,hl=>by
  unfold pickOrder.go;simp
 |f+1,k,x::xs,out,hl=>by
  have hi:next k % (x::xs).length<(x::xs).length:=Nat.mod_lt _ (by simp);unfold pickOrder.go;rw[List.getElem?_eq_getElem hi];dsimp only;have hp:((x::xs)[next k % (x::xs).length]::(x::xs).eraseIdx (next k % (x::xs).length)).Perm (x::xs):=Xb _ _ hi;refine(zi next f (k+1) _ _ (by rw[List.length_eraseIdx_of_lt hi];simp at hl ⊢;lia)).trans ?_;rw[Array.toList_push,nH];exact hp.append_left _
theorem VB{α:Type}(next:Nat->Nat)(xs:Array α):(pickOrder next xs).toList.Perm xs.toList:=by
 have:=zi next xs.size 0 xs.toList #[] (by simp);simpa[pickOrder]using this
section
variable {prog:Program}{w:World}{A:Around}{E:Value->Shared->Prop}{s:Shared}
theorem JO{M:Model}{a:Addr}{o:Obj}{vs:Array Value}{Q:Array Value->Shared->Prop}(ho:s.heap.get? a=some o)(hd:o.data=.fields vs)(h:Q vs s):wpAny M A (fieldsOf (.ref a)) Q E s:=by
 unfold fieldsOf;refine wpAny_bind (wpAny_load ho ?_);rw[hd];exact wpAny_pure h
noncomputable abbrev vk(first:Value)(i n ep:Int)(S:Addr):Obj:={cls:=.type "set_iterator",data:=.fields #[first,rawInt i,.ref S,rawInt n,rawInt ep]}
structure Goes(prog:Program)(w:World)(S:Addr)(n ep:Nat)(keep:Heap->Prop)(first:Nat->Value)(us:List Value):Prop where
 fr:∀h h',keep h->(∀b o,h.get? b=some o->(o.cls=.type "tuple"\/o.cls=.type "set")->h'.get? b=some o)->keep h'
 item:∀(A:Around)(s:Shared)(it:Addr)(i:Nat)(x:Value)(E:Value->Shared->Prop)(Q:Value->Shared->Prop),keep s.heap->s.heap.get? it=some (vk (first i) i n ep S)->us[i]? =some x->
  (∀h',h'.get? it=some (vk (first (i+1)) ((i+1:Nat):Int) n ep S)->Heap.SameBut it s.heap h'->Q x {s with heap:=h'})->wpAny (model prog w) A (Builtin.«set_iterator.__next__» ⟨[.ref it],[]⟩) (λfin s'=>∃v,fin=.done (.ret v)/\Q v s') E s
 done:∀(A:Around)(s:Shared)(it:Addr)(E:Value->Shared->Prop)(Q:PySem.Fin->Shared->Prop),A.handled=none->keep s.heap->s.heap.get? it=some (vk (first us.length) us.length n ep S)->
  (∀h' e k,(∀c o,c≠it->s.heap.get? c=some o->h'.get? c=some o)->(∃o,h'.get? e=some o/\o.cls=.type "StopIteration")->E (.ref e) {s with heap:=h',toks:=k})->wpAny (model prog w) A (Builtin.«set_iterator.__next__» ⟨[.ref it],[]⟩) Q E s
theorem WA{it:Addr}{o:Obj}{vs:Array Value}{Q:PySem.Fin->Shared->Prop}(hh:A.handled=none)(ho:s.heap.get? it=some {cls:=.type "set_iterator",data:=.fields vs})(h2:2<vs.size)
  (hE:∀h' e k,(∀c o,c≠it->s.heap.get? c=some o->h'.get? c=some o)->(∃o,h'.get? e=some o/\o.cls=.type "StopIteration")->E (.ref e) {s with heap:=h',toks:=k}):
  wpAny (model prog w) A (do setField (.ref it) 2 .none;raiseNew (←newExc (.type "StopIteration") [])) Q E s:=by
 refine wpAny_bind (wpAny_setField_rec ho h2 λh1 g1 uk=>?_)
 wp_walk
 refine wpAny_raiseNew_none hh ?_;refine hE _ _ _ (λc o hc e=>?_) ⟨_,Heap.get?_push_size _ rfl,ae⟩;exact Heap.get?_push_of_some _ (Heap.get?_push_of_some _ ((uk.2 c hc).trans e))
structure aR(h:Heap)(S:Addr)(es:Array (Int × Value))(ep:Nat)(t:SetTable):Prop where
 ex:∃o,h.get? S=some o/\o.cls=.type "set"/\o.data=.set es ep t
 ft:t.fits es.size=true
theorem aR.keep{h h':Heap}{S:Addr}{es:Array (Int × Value)}{ep:Nat}{t:SetTable}(a:aR h S es ep t)(k:∀b o,h.get? b=some o->(o.cls=.type "tuple"\/o.cls=.type "set")->h'.get? b=some o):aR h' S es ep t:=by
 obtain⟨o,e,c,d⟩:=a.ex;exact⟨⟨o,k S o e (.inr c),c,d⟩,a.ft⟩
noncomputable def slotAt(t:SetTable):Nat->Nat
 |0=>0
 |j+1=>t.place.getD j 0+1
theorem qc{hs:List Int}{t:SetTable}(ok:aB.Ok hs t){i:Nat}(hi:i<=t.place.size):below t.place (slotAt t i)=i:=by
 obtain⟨b1,b2,b3⟩:=aB.below_at ok (slotAt t i);rcases Nat.lt_trichotomy (below t.place (slotAt t i)) i with z|z|z
 ·have h1:=b3 (below t.place (slotAt t i)) (by lia) (ng _);cases i with
  |zero=>lia
  |succ j=>
   have hj:j<t.place.size:=by lia
   have e:slotAt t (j+1)=t.place[j]+1:=by simp[slotAt,Array.getD,hj]
   have h2:=b3 j hj (by lia);lia
 ·exact z
 ·have bP:i<t.place.size:=by lia
  have h1:=b2 i bP z;cases i with
  |zero=>
   have e:slotAt t 0=0:=rfl;lia
  |succ j=>
   have hj:j<t.place.size:=by lia
   have e:slotAt t (j+1)=t.place[j]+1:=by simp[slotAt,Array.getD,hj]
   rw[e]at h1;have:=ok.up j (j+1) hj bP (by lia);lia
theorem yK{hs:List Int}{S:Addr}{es:Array (Int × Value)}{ep i:Nat}{t:SetTable}{Q:Option (Value × Nat)->Shared->Prop}(ok:aB.Ok hs t)(hsz:t.place.size=es.size)(hb:w.params.followText "set-order"=false)(hp:(!t.plain&&decide (es.size>1))=false)(hl:t.led=true)(hk:aR s.heap S es ep t)(hi:i<=es.size)
  (h:Q ((es[i]?).map λe=>(e.2,slotAt t (i+1))) s):wpAny (model prog w) A (setNext S (slotAt t i) i ep) Q E s:=by
 obtain⟨o,eo,co,d0⟩:=hk.ex;unfold setNext;refine wpAny_bind (wpAny_setState_of eo d0 hk.ft ?_);dsimp only;unfold setsByText;refine wpAny_bind (wpAny_bind (wpAny_askSetting (wpAny_pure ?_)));show wpAny _ _ (if w.params.followText "set-order"=true then _ else _) _ _ _;rw[hb];simp only[Bool.false_eq_true,if_false];rw[if_neg (by show ¬ ((!t.plain&&decide (es.size>1))=true);rw[hp];decide)];refine wpAny_bind (wpAny_of_eq (a:=()) (by show(if(!t.led&& !es.isEmpty)=true then _ else _)=_;rw[hl];rfl) ?_);rw[qc ok (by lia)];refine wpAny_pure ?_
 by_cases bi:i<es.size
 ·have e1:es[i]? =some es[i]:=Array.getElem?_eq_getElem bi;have e2:t.place[i]? =some (t.place[i]'(by lia)):=Array.getElem?_eq_getElem (by lia);have e3:slotAt t (i+1)=t.place[i]'(by lia)+1:=by simp[slotAt,Array.getD,show i<t.place.size by lia]
  rw[e1]at h ⊢;rw[e2];rw[Option.map_some,e3]at h;exact h
 ·have e1:es[i]? =none:=Array.getElem?_eq_none (by lia);rw[e1]at h ⊢;exact h
theorem yL{hs:List Int}{S:Addr}{es:Array (Int × Value)}{ep:Nat}{t:SetTable}(ok:aB.Ok hs t)(hsz:t.place.size=es.size)(hb:w.params.followText "set-order"=false)(hp:(!t.plain&&decide (es.size>1))=false)(hl:t.led=true):
  Goes prog w S es.size ep (λh=>aR h S es ep t) (λi=>rawInt ((slotAt t i:Nat):Int)) (es.toList.map (·.2)) where
 fr:=λh h' a k=>a.keep k
 item:=λA s it i x E Q hk hit hx hQ=>by
  obtain⟨o,eo,co,d0⟩:=hk.ex;have hlen:i<es.size:=by
   have:=(List.getElem?_eq_some_iff.mp hx).1;simpa using this
  have DP:es[i]? =some es[i]:=Array.getElem?_eq_getElem hlen;have fI:es[i].2=x:=by
   have:=(List.getElem?_eq_some_iff.mp hx).2;simpa using this
  unfold Builtin.«set_iterator.__next__»;refine wpAny_bind (wpAny_of_eq (show slotArgs "__next__" 0 ⟨[.ref it],[]⟩=pure (.ref it,[])from ae) ?_);dsimp only;refine wpAny_bind (JO hit ae ?_);show wpAny _ _ (setEntries S>>=_) _ _ _;refine wpAny_bind (wpAny_setEntries_of eo d0 hk.ft ?_);rw[if_neg (by rw[bne_self_eq_false];decide)];show wpAny _ _ (setNext S ((slotAt t i:Nat):Int).toNat ((i:Nat):Int).toNat ((ep:Nat):Int).toNat>>=_) _ _ _;rw[nV,nV,nV];refine wpAny_bind (yK ok hsz hb hp hl hk (by lia) ?_);rw[DP];show wpAny _ _ (setField (.ref it) 0 _>>=_) _ _ _;refine wpAny_bind (wpAny_setField_rec hit (by simp) λh1 g1 s1=>wpAny_bind (wpAny_setField_rec g1 (by simp) λh2 g2 s2=>wpAny_pure ⟨_,ae,?_⟩));rw[fI];exact hQ h2 g2 (s1.trans s2)
 done:=λA s it E Q hh hk hit hE=>by
  obtain⟨o,eo,co,d0⟩:=hk.ex;have hlen:(es.toList.map (·.2)).length=es.size:=by simp
  rw[hlen]at hit;unfold Builtin.«set_iterator.__next__»;refine wpAny_bind (wpAny_of_eq (show slotArgs "__next__" 0 ⟨[.ref it],[]⟩=pure (.ref it,[])from ae) ?_);dsimp only;refine wpAny_bind (JO hit ae ?_);show wpAny _ _ (setEntries S>>=_) _ _ _;refine wpAny_bind (wpAny_setEntries_of eo d0 hk.ft ?_);rw[if_neg (by rw[bne_self_eq_false];decide)];show wpAny _ _ (setNext S ((slotAt t es.size:Nat):Int).toNat ((es.size:Nat):Int).toNat ((ep:Nat):Int).toNat>>=_) _ _ _;rw[nV,nV,nV];refine wpAny_bind (yK ok hsz hb hp hl hk (ng _) ?_);rw[Array.getElem?_eq_none (ng _)];exact WA (o:=o) hh hit (by simp) hE
theorem yM{S:Addr}{es:Array (Int × Value)}{ep:Nat}{t:SetTable}(hb:w.params.followText "set-order"=true):
  Goes prog w S es.size ep (λh=>aR h S es ep t) (λi=>rawInt ((0:Nat):Int)) ((pickOrder (w.params.setOrder S ep) es).toList.map (·.2)):=by
 have next:∀{A:Around}{s:Shared}{i:Nat}{E:Value->Shared->Prop}{Q:Option (Value × Nat)->Shared->Prop},aR s.heap S es ep t->Q (((pickOrder (w.params.setOrder S ep) es)[i]?).map λe=>(e.2,0)) s->wpAny (model prog w) A (setNext S 0 i ep) Q E s:=by
  intro A s i E Q hk h;obtain⟨o,eo,co,d0⟩:=hk.ex;unfold setNext;refine wpAny_bind (wpAny_setState_of eo d0 hk.ft ?_);dsimp only;unfold setsByText;refine wpAny_bind (wpAny_bind (wpAny_askSetting (wpAny_pure ?_)));show wpAny _ _ (if w.params.followText "set-order"=true then _ else _) _ _ _;rw[hb,if_pos rfl,if_neg (by rw[bne_self_eq_false];decide)];unfold setWalk;refine wpAny_bind (wpAny_bind (wpAny_setState_of eo d0 hk.ft ?_));dsimp only;unfold setsByText;refine wpAny_bind (wpAny_bind (wpAny_askSetting (wpAny_pure ?_)));show wpAny _ _ (if w.params.followText "set-order"=true then _ else _) _ _ _;rw[hb,if_pos rfl];refine wpAny_bind (wpAny_askSetting (wpAny_pure (wpAny_pure ?_)));exact h
 have Ix:(pickOrder (w.params.setOrder S ep) es).size=es.size:=by
  have:=(VB (w.params.setOrder S ep) es).length_eq;simpa using this
 refine⟨λh h' a k=>a.keep k,λA s it i x E Q hk hit hx hQ=>?_,λA s it E Q hh hk hit hE=>?_⟩
 ·obtain⟨o,eo,co,d0⟩:=hk.ex;have hlen:i<(pickOrder (w.params.setOrder S ep) es).size:=by
   have:=(List.getElem?_eq_some_iff.mp hx).1;simpa using this
  have DP:(pickOrder (w.params.setOrder S ep) es)[i]? =some (pickOrder (w.params.setOrder S ep) es)[i]:=Array.getElem?_eq_getElem hlen;have fI:(pickOrder (w.params.setOrder S ep) es)[i].2=x:=by
   have:=(List.getElem?_eq_some_iff.mp hx).2;simpa using this
  unfold Builtin.«set_iterator.__next__»;refine wpAny_bind (wpAny_of_eq (show slotArgs "__next__" 0 ⟨[.ref it],[]⟩=pure (.ref it,[])from ae) ?_);dsimp only;refine wpAny_bind (JO hit ae ?_);show wpAny _ _ (setEntries S>>=_) _ _ _;refine wpAny_bind (wpAny_setEntries_of eo d0 hk.ft ?_);rw[if_neg (by rw[bne_self_eq_false];decide)];show wpAny _ _ (setNext S ((0:Nat):Int).toNat ((i:Nat):Int).toNat ((ep:Nat):Int).toNat>>=_) _ _ _;rw[nV,nV,nV];refine wpAny_bind (next hk ?_);rw[DP];show wpAny _ _ (setField (.ref it) 0 _>>=_) _ _ _;refine wpAny_bind (wpAny_setField_rec hit (by simp) λh1 g1 s1=>wpAny_bind (wpAny_setField_rec g1 (by simp) λh2 g2 s2=>wpAny_pure ⟨_,ae,?_⟩));rw[fI];exact hQ h2 g2 (s1.trans s2)
 ·obtain⟨o,eo,co,d0⟩:=hk.ex;have hlen:((pickOrder (w.params.setOrder S ep) es).toList.map (·.2)).length=es.size:=by simp[Ix]
  rw[hlen]at hit;unfold Builtin.«set_iterator.__next__»;refine wpAny_bind (wpAny_of_eq (show slotArgs "__next__" 0 ⟨[.ref it],[]⟩=pure (.ref it,[])from ae) ?_);dsimp only;refine wpAny_bind (JO hit ae ?_);show wpAny _ _ (setEntries S>>=_) _ _ _;refine wpAny_bind (wpAny_setEntries_of eo d0 hk.ft ?_);rw[if_neg (by rw[bne_self_eq_false];decide)];show wpAny _ _ (setNext S ((0:Nat):Int).toNat ((es.size:Nat):Int).toNat ((ep:Nat):Int).toNat>>=_) _ _ _;rw[nV,nV,nV];refine wpAny_bind (next hk ?_);rw[Array.getElem?_eq_none (by lia)];exact WA (o:=o) hh hit (by simp) hE
theorem yN{S tp:Addr}{es:Array (Int × Value)}{ep:Nat}{t:SetTable}{ps:List Nat}(Id:ps.Perm (List.range es.size)):
  Goes prog w S es.size ep (λh=>aR h S es ep t/\∃o n,h.get? tp=some o/\o.cls=.type "tuple"/\o.data=.seq (ps.map λ(i:Nat)=>rawInt i).toArray n) (λ_=>.ref tp) (ps.map λp=>(es.getD p (0,Value.none)).2):=by
 have Ix:ps.length=es.size:=by have:=Id.length_eq;simpa using this
 refine⟨λh h' a k=>⟨a.1.keep k,let ⟨o,n,e,c,d⟩:=a.2;⟨o,n,k tp o e (.inl c),c,d⟩⟩,λA s it i x E Q hk hit hx hQ=>?_,λA s it E Q hh hk hit hE=>?_⟩
 ·obtain⟨hk,ot,nt,et,ct,dt⟩:=hk;obtain⟨o,eo,co,d0⟩:=hk.ex;have hi:i<ps.length:=by
   have:=(List.getElem?_eq_some_iff.mp hx).1;simpa using this
  have DQ:ps[i]<es.size:=by
   have:=Id.mem_iff.mp (List.getElem_mem hi);simpa using this
  have fI:(es[ps[i]]'DQ).2=x:=by
   have:=(List.getElem?_eq_some_iff.mp hx).2;rw[←this];simp[Array.getD,DQ]
  unfold Builtin.«set_iterator.__next__»;refine wpAny_bind (wpAny_of_eq (show slotArgs "__next__" 0 ⟨[.ref it],[]⟩=pure (.ref it,[])from ae) ?_);dsimp only;refine wpAny_bind (JO hit ae ?_);show wpAny _ _ (setEntries S>>=_) _ _ _;refine wpAny_bind (wpAny_setEntries_of eo d0 hk.ft ?_);rw[if_neg (by rw[bne_self_eq_false];decide)];show wpAny _ _ (seqItems? (.ref tp)>>=_) _ _ _;refine wpAny_bind (wpAny_seqItems et dt ?_);dsimp only;have AE:(ps.map λ(i:Nat)=>rawInt i).toArray[((i:Nat):Int).toNat]? =some (.int ((ps[i]:Nat):Int) 0):=by
   rw[nV];simp[List.getElem?_eq_getElem hi,rawInt]
  show wpAny _ _ (match(ps.map λ(i:Nat)=>rawInt i).toArray[((i:Nat):Int).toNat]? with|some (.int place _)=>_|some _=>_|none=>_) _ _ _;rw[AE];dsimp only;unfold setNextDrawn;rw[nV,nV];refine wpAny_bind (wpAny_bind (wpAny_setState_of eo d0 hk.ft ?_));dsimp only;rw[if_neg (by rw[bne_self_eq_false];decide),Array.getElem?_eq_getElem DQ];refine wpAny_pure (wpAny_bind (wpAny_setField_rec hit (by simp) λh1 g1 s1=>wpAny_pure ⟨_,ae,?_⟩));have q:=hQ h1 g1 s1;rw[←fI]at q;exact q
 ·obtain⟨hk,ot,nt,et,ct,dt⟩:=hk;obtain⟨o,eo,co,d0⟩:=hk.ex;rw[m7]at hit;unfold Builtin.«set_iterator.__next__»;refine wpAny_bind (wpAny_of_eq (show slotArgs "__next__" 0 ⟨[.ref it],[]⟩=pure (.ref it,[])from ae) ?_);dsimp only;refine wpAny_bind (JO hit ae ?_);show wpAny _ _ (setEntries S>>=_) _ _ _;refine wpAny_bind (wpAny_setEntries_of eo d0 hk.ft ?_);rw[if_neg (by rw[bne_self_eq_false];decide)];show wpAny _ _ (seqItems? (.ref tp)>>=_) _ _ _;refine wpAny_bind (wpAny_seqItems et dt ?_);dsimp only;have AE:(ps.map λ(i:Nat)=>rawInt i).toArray[((ps.length:Nat):Int).toNat]? =none:=by
   rw[nV];simp
  show wpAny _ _ (match(ps.map λ(i:Nat)=>rawInt i).toArray[((ps.length:Nat):Int).toNat]? with|some (.int place _)=>_|some _=>_|none=>_) _ _ _;rw[AE];dsimp only;refine wpAny_bind (wpAny_setField_rec hit (by simp) λh1 g1 s1=>?_);refine WA (s:={s with heap:=h1}) (o:=o) hh g1 (by simp) λh' e k hk he=>hE h' e k (λc o hc q=>hk c o hc ((s1.2 c hc).trans q)) he
theorem xX{S:Addr}{es:List (Value × Dv)}{Q:Value->Shared->Prop}(hS:aY w s.heap S es)
  (h:∀(us:List Value)(ep:Nat)(keep:Heap->Prop)(first:Nat->Value)(h':Heap)(dr:Drawn)(it:Addr),us.Perm (es.map (·.1))->Goes prog w S es.length ep keep first us->keep h'->h'.get? it=some (vk (first 0) ((0:Nat):Int) es.length ep S)->(∀b o,s.heap.get? b=some o->h'.get? b=some o)->s.heap.objs.size<=it->Q (.ref it) {s with heap:=h',drawn:=dr}):
  wpAny (model prog w) A (pyIter (.ref S)) Q E s:=by
 obtain⟨o,ep,t,ho,hex,hd,ok,rm,led⟩:=hS.ex;have hlen:t.place.size=es.length:=by rw[ok.len,m7]
 have lE:t.fill=es.length:=by show t.place.size+t.dummies.size=_;rw[ok.lC,hlen];rfl
 have i7:es.length*5<t.mask*3:=by have:=rm;unfold aB.JC at this;rwa[m7]at this
 have hsz:(ents w es).toArray.size=es.length:=by rw[nQ,m7]
 have hf:t.fits (ents w es).toArray.size=true:=by
  rw[hsz];simp only[SetTable.fits,Bool.and_eq_true,beq_iff_eq,decide_eq_true_eq];exact⟨hlen,by lia⟩
 have hm:t.mask<=31:=by rcases ok.mask with z|z<;>lia
 have ix:aR s.heap S (ents w es).toArray ep t:=⟨⟨o,ho,hex.1,hd⟩,hf⟩;have hT:s.TypeIs (.ref S) "set":=⟨o,ho,hex.1⟩;have uo:(ents w es).toArray.toList.map (·.2)=es.map (·.1):=by simp[ents]
 refine wpAny_pyIter_slot hT slot_set_iter (wpAny_call_entry slot_set_iter hT Kv ?_ (Wz _));unfold Builtin.«frozenset.__iter__»;refine wpAny_bind (wpAny_of_eq (show Builtin.Frozenset.slot0 "__iter__" ⟨[.ref S],[]⟩=pure S from ae) ?_);unfold Builtin.Frozenset.sizeOf;refine wpAny_bind (wpAny_bind (wpAny_setEntries_of ho hd hf (wpAny_pure ?_)));unfold setDrawn;refine wpAny_bind (wpAny_bind (wpAny_setState_of ho hd hf ?_));dsimp only;unfold setsByText;refine wpAny_bind (wpAny_bind (wpAny_askSetting (wpAny_pure (wpAny_pure ?_))));show wpAny _ _ (if(!w.params.followText "set-order"&&(!t.plain&&decide ((ents w es).toArray.size>1)))=true then _ else _) _ _ _;rw[hsz];have mk:∀(first:Value)(s1:Shared)(us:List Value)(keep:Heap->Prop)(fst:Nat->Value)(dr:Drawn),s1.drawn=dr->s1.gens=s.gens->s1.toks=s.toks->s1.os=s.os->first=fst 0->us.Perm (es.map (·.1))->Goes prog w S es.length ep keep fst us->keep s1.heap->(∀b o,s.heap.get? b=some o->s1.heap.get? b=some o)->s1.heap.get? S=some o->s.heap.objs.size<=s1.heap.objs.size->
   wpAny (model prog w) A.in1 (do ret (←newFields "set_iterator" [first,rawInt 0,.ref S,rawInt es.length,rawInt (←setEpoch S)])) (λfin s'=>∃v,fin=.done (.ret v)/\∃T' r,s'.TypeIs v T'/\typeLookup (.type T') "__next__"=pure (some r)/\Q v s') E s1:=by
  intro first s1 us keep fst dr e1 e2 e3 e4 ef pm G hk kp NQ hz;refine wpAny_bind (wpAny_setEpoch_of NQ hd hf ?_);unfold newFields;refine wpAny_bind (wpAny_newObj_type ?_);refine wpAny_pure ⟨_,ae,"set_iterator",_,⟨_,Heap.get?_push_size _ rfl,ae⟩,Jf.lookup,?_⟩;have:=h us ep keep fst (s1.heap.push (vk (fst 0) ((0:Nat):Int) es.length ep S)) dr s1.heap.objs.size pm G (G.fr _ _ hk λb o e _=>Heap.get?_push_of_some _ e) (Heap.get?_push_size _ ae) (λb o e=>Heap.get?_push_of_some _ (kp b o e)) hz;obtain⟨h1,g1,d1,t1,o1⟩:=s1;simp only at e1 e2 e3 e4;subst e1 e2 e3 e4 ef;exact this
 by_cases hc:(!w.params.followText "set-order"&&(!t.plain&&decide (es.length>1)))=true
 ·rw[if_pos hc];refine wpAny_bind (VA es.length (List.range es.length) s _ (by rw[List.length_range];exact ng _) λps dr Id=>?_);have Ix:=Id.length_eq;rw[List.length_range]at Ix;refine wpAny_bind (wpAny_newTuple ?_ (by rw[m7,Ix,sizeLine_eq];lia));have NR:(ps.map λp=>((ents w es).toArray.getD p (0,Value.none)).2).Perm (es.map (·.1)):=by
   have h1:=(Vx (ents w es) (0,Value.none) (order:=ps) (by rw[m7];exact Id)).map (·.2);rw[nK]at h1;have h2:(ents w es).map (·.2)=es.map (·.1):=by simp[ents]
   rw[h2]at h1;refine List.Perm.trans (List.Perm.of_eq ?_) h1;refine List.map_congr_left λp hp=>?_;simp[Array.getD,List.getD]
   split<;>simp_all
  have GA:=yN (prog:=prog) (w:=w) (S:=S) (tp:=s.heap.objs.size) (es:=(ents w es).toArray) (ep:=ep) (t:=t) (ps:=ps) (by rw[hsz];exact Id);rw[hsz]at GA;refine mk _ _ _ _ (λ_=>.ref s.heap.objs.size) dr rfl rfl rfl rfl rfl NR GA ⟨ix.keep λb o e _=>Heap.get?_push_of_some _ e,_,0,Heap.get?_push_size _ rfl,ae,ae⟩ (λb o e=>Heap.get?_push_of_some _ e) (Heap.get?_push_of_some _ ho) (by rw[Heap.size_push];exact Nat.le_succ _)
 ·rw[if_neg hc];refine wpAny_bind (wpAny_pure ?_)
  by_cases hb:w.params.followText "set-order"=true
  ·have GC:=yM (prog:=prog) (w:=w) (S:=S) (es:=(ents w es).toArray) (ep:=ep) (t:=t) hb;rw[hsz]at GC;refine mk _ s _ (λh=>aR h S (ents w es).toArray ep t) (λ_=>rawInt ((0:Nat):Int)) s.drawn rfl rfl rfl rfl rfl (((VB (w.params.setOrder S ep) (ents w es).toArray).map λe=>e.2).trans (List.Perm.of_eq uo)) GC ix (λ_ _ e=>e) ho (ng _)
  ·have cS:=(Bool.not_eq_true _).mp hb;have hp:(!t.plain&&decide (es.length>1))=false:=by
    rw[cS]at hc;cases q:(!t.plain&&decide (es.length>1))with
    |false=>rfl
    |true=>exact absurd (by rw[q];rfl) hc
   have GB:=yL (prog:=prog) (w:=w) (S:=S) (es:=(ents w es).toArray) (ep:=ep) (t:=t) ok (by rw[hsz];exact hlen) cS (by rw[hsz];exact hp) (by rw[led,cS];rfl);rw[hsz]at GB;exact mk _ s _ (λh=>aR h S (ents w es).toArray ep t) (λi=>rawInt ((slotAt t i:Nat):Int)) s.drawn rfl rfl rfl rfl rfl (List.Perm.of_eq uo) GB ix (λ_ _ e=>e) ho (ng _)
end
section
variable {prog:Program}{w:World}{A:Around}
theorem xY{E:Value->Shared->Prop}{s:Shared}(a:Value){Q₁:Value->Shared->Prop}(h:Q₁ (.ref s.heap.objs.size) {s with heap:=s.heap.push (YX (!w.params.followText "set-order"))}):
  codeAny (model prog w) A (.call (.builtin "set.__new__") ⟨[.type "set",a],[]⟩) (wants Q₁ E) s:=by
 refine codeAny_of_tree ?_;show wpAny _ _ (do checkBuiltinCall "set.__new__" ⟨[.type "set",a],[]⟩;again (.builtin "set.__new__" ⟨[.type "set",a],[]⟩)) _ _ _;refine wpAny_bind (wpAny_of_eq (F.newCall_set_1 a) (wpAny_pure ⟨plainId_quiet F.plain_set_new _,codeAny_builtin F.entry_set_new ?_⟩));rw[Around.under_plainId F.plain_set_new _];unfold Builtin.«set.__new__» Builtin.Frozenset.newClass;have On:=sub_set_self;obtain⟨hp,g,d,tk,os⟩:=s;dsimp only
 wp_walk
 refine wpAny_askSetting (wpAny_pure ?_);dsimp only;simp only[newObj];exact wpAny_bind (wpAny_alloc (wpAny_pure (wpAny_pure h)))
theorem qd{E:Value->Shared->Prop}{s:Shared}{a:Addr}{ad:Array Value}{ds:List Dv}{Q:Value->Shared->Prop}(hh:A.handled=none)(hu:A.units+64<cLine)(NS:s.heap.IsList a ad)(o8:∀(j:Nat)(v:Value)(d:Dv),ad[j]? =some v->ds[j]? =some d->bo s.heap (v,d)) (cG:ds.length=ad.size) (hb:ad.size<=12)
  (h:∀(h':Heap)(tk:Nat)(es:List (Value × Dv)),aY w h' s.heap.objs.size es->vH es ds->es.length<=ad.size->yJ ad ds es->(∀b o,b<s.heap.objs.size->s.heap.get? b=some o->h'.get? b=some o)->Q (.ref s.heap.objs.size) {s with heap:=h',toks:=tk}):
  wpAny (model prog w) A (call (.type "set") [.ref a]) Q E s:=by
 obtain⟨c,tl,NT⟩:=F.called_set.mro;have GO:=F.called_set.made;have On:=F.called_set.sub;refine wpAny_call (codeAny_of_tree ?_);show wpAny _ _ (callAny (.type "set") _) _ _ _;refine wpAny_pure ⟨Code.quiet_builtin _ (by decide+kernel),codeAny_builtin F.entry_type_call ?_⟩;rw[Around.under_plain (weight_type_call_type "set" [.ref a] []) rfl];have h1:=F.called_set.notType;have h2:=F.called_set.canCreate;have hct:=F.typeCall_set_1 (.ref a)
 repeat (any_goals (first|assumption|wp_step))
 refine codeAny_mono (xY (.ref a) (E:=E) (Q₁:=λobj s₁=>∃led:Bool,led=(!w.params.followText "set-order")/\obj=.ref s.heap.objs.size/\s₁={s with heap:=s.heap.push (YX led)}) ⟨_,ae,ae,ae⟩) λr s₁ hr=>?_;cases r with
 |error e=>exact hr
 |ok fl=>
  cases fl with
  |ret obj=>
   obtain⟨led,iM,rfl,rfl⟩:=hr;have hS:(s.heap.push (YX led)).get? s.heap.objs.size=some (YX led):=Heap.get?_push_size _ rfl;have hT:Shared.TypeIs {s with heap:=s.heap.push (YX led)} (.ref s.heap.objs.size) "set":=⟨_,hS,ae⟩;have hli:=F.called_set.init.lookup;have hbi:=F.called_set.init.bind (.ref s.heap.objs.size)
   repeat (any_goals (first|assumption|wp_step))
   refine codeAny_mono (codeAny_call_builtin (R:=wants (λr s₂=>r=.none/\∃h' tk es,s₂={s with heap:=h',toks:=tk}/\aY w h' s.heap.objs.size es/\vH es ds/\es.length<=ad.size/\yJ ad ds es/\(∀b o,b<s.heap.objs.size->s.heap.get? b=some o->h'.get? b=some o)) E) F.called_set.init.plain F.entry_set_init (check_set_init_1 hT ?_)) λr₂ s₂ DS=>?_
   ·obtain⟨⟨NU,uq,GP,pj⟩,pK,fV,nl,nX⟩:=NS;simp only at fV nX;subst fV;subst nX;have DT:(s.heap.push (YX led)).get? a=some {cls:=.type "list",dict:=uq,data:=.seq ad nl,slots:=pj}:=Heap.get?_push_of_some _ pK;have NV:=F.sub_list_set;have NW:=F.sub_list_frozenset;have Go:(Value.type "list"==Value.type "dict")=false:=by decide
    have bO:(s.heap.push (YX led)).IsList a ad:=⟨_,DT,ae,nl,ae⟩;unfold Builtin.«set.__init__» noKeywords Builtin.Frozenset.updateFrom;generalize NX:pyIter=PI
    wp_walk
    subst NX;refine wpAny_pyIter_list bO ?_;refine wpAny_bind (wpAny_runValue ?_);have GQ:a<s.heap.objs.size:=Heap.lt_size pK;have eM:A.in1.in1.in1.handled=none:=by simp[hh]
    have DW:a≠(s.heap.push (YX led)).objs.size:=by rw[Heap.size_push];exact Nat.ne_of_lt (Nat.lt_succ_of_lt GQ)
    have um:s.heap.objs.size≠(s.heap.push (YX led)).objs.size:=by rw[Heap.size_push];exact Nat.ne_of_lt (Nat.lt_succ_self _)
    have up:∀b o,s.heap.get? b=some o->((s.heap.push (YX led)).push {cls:=.type "list_iterator",data:=.fields #[.ref a,.int 0 0]}).get? b=some o:=λb o e=>Heap.get?_push_of_some _ (Heap.get?_push_of_some _ e);refine zh (I:=(s.heap.push (YX led)).objs.size) (l:=a) (S:=s.heap.objs.size) (ds:=ds) eM (by show A.units+1+1+9<cLine;lia) DW um (Nat.ne_of_gt GQ) cG hb (ad.size-0) 0 _ [] (by lia) (nR _) ⟨_,Heap.get?_push_size _ rfl,ae,ae⟩ (bO.push _) (λj v d a b=>(o8 j v d a b).keep λb o e _=>up b o e) ?hS0 (λd=>⟨λ⟨e,he,_⟩=>(nomatch he),λz=>by rw[List.take_zero]at z;cases z⟩) (ng _) (λe he=>nomatch he) λs' ii hm cT hj hle s0=>?hR
    case hS0=>
     have iD:((s.heap.push (YX led)).push {cls:=.type "list_iterator",data:=.fields #[.ref a,.int 0 0]}).get? s.heap.objs.size=some (YX led):=Heap.get?_push_of_some _ hS;exact⟨⟨_,0,_,iD,⟨ae,ae,ae⟩,ae,aB.xT 0 0 led,aB.U6 0 0 led,iM⟩,λe he=>(nomatch he),List.nodup_nil⟩
    case hR=>
     obtain⟨h',g',d',dC,rO⟩:=s';obtain rfl:g'=s.gens:=hm.gens;obtain rfl:d'=s.drawn:=hm.drawn;obtain rfl:rO=s.os:=hm.os;show wpAny _ _ _ _ _ _;refine wpAny_pure ?_;show wpAny _ _ (ret Value.none) _ _ _;refine wpAny_pure ⟨ae,h',dC,ii,ae,cT,hj,hle,s0,λb o hb e=>?_⟩;have AG:b≠s.heap.objs.size:=Nat.ne_of_lt hb;have dj:b≠(s.heap.push (YX led)).objs.size:=by rw[Heap.size_push];exact Nat.ne_of_lt (Nat.lt_succ_of_lt hb)
     exact hm.heap b o (by simp only[List.mem_cons,List.mem_singleton,List.not_mem_nil,or_false,not_or];exact⟨AG,dj⟩) (up b o e)
   ·cases r₂ with
    |error e=>exact DS
    |ok NY=>
     cases NY with
     |ret r=>
      obtain⟨rfl,h',tk,es,rfl,cT,hj,hle,s0,iI⟩:=DS
      repeat (any_goals (first|assumption|wp_step))
      exact h _ _ es cT hj hle s0 iI
     |_=>exact DS.elim
  |_=>exact hr.elim
end
theorem VC:typeLookup (.type "set") (Str.ofString "__len__")=pure (some (.builtin "set.__len__")):=by rw[typeLookup_type,builtinLookup_eq_fast];kernel_rfl
section
variable {prog:Program}{w:World}{A:Around}{E:Value->Shared->Prop}{s:Shared}{R:Result->Shared->Prop}{S it L:Addr}{n ep:Nat}{keep:Heap->Prop}{first:Nat->Value}{us:List Value}
theorem zj{h:Heap}{b:Addr}{o:Obj}{L:Addr}{acc:Array Value}{c:Nat}(e:h.get? b=some o)(hc:o.cls=.type "tuple"\/o.cls=.type "set")(eL:h.get? L=some (seqObj "list" acc c)):b≠L:=λz=>by
 rw[z,eL]at e;cases e;rcases hc with c|c<;>(injection c with c;exact absurd c (by decide))
theorem vm{h:Heap}{b:Addr}{o:Obj}{v:Value}{i n ep:Int}(e:h.get? b=some o)(hc:o.cls=.type "tuple"\/o.cls=.type "set")(eI:h.get? it=some (vk v i n ep S)):b≠it:=λz=>by
 rw[z,eI]at e;cases e;rcases hc with c|c<;>(injection c with c;exact absurd c (by decide))
theorem xZ(G:Goes prog w S n ep keep first us)(hh:A.handled=none)(Go:it≠L)(fq:us.length<=64)(res:Value):
  ∀(m i:Nat)(s:Shared)(acc:List Value)(c:Nat),us.length-i=m->i<=us.length->keep s.heap->s.heap.get? it=some (vk (first i) ((i:Nat):Int) n ep S)->s.heap.get? L=some (seqObj "list" acc.toArray c)->acc=us.take i->
   (∀s' c',Mv [it,L] s s'->s'.heap.get? L=some (seqObj "list" us.toArray c')->R (.ok (.ret res)) s')->codeAny (model prog w) A (.builtin "list.extend.loop" ⟨[.ref L,.ref it,res],[]⟩) R s:=by
 intro m
 induction m with
 |zero=>
  intro i s acc c hk hi kp hit hL lf hR;obtain rfl:i=us.length:=by lia
  have hT:s.TypeIs (.ref it) "set_iterator":=⟨_,hit,ae⟩;refine codeAny_builtin F.entry_extend_loop ?_;rw[Around.under_plainId F.plain_extend_loop _];show wpAny _ A.in1 (pyNext (.ref it)>>=_) _ _ s;refine wpAny_bind ?_;unfold pyNext;refine wpAny_bind (wpAny_attempt (wpAny_callSpecial?_slot (name:=Str.ofString "__next__") hT Jf (wpAny_call_entry Jf hT Zw (G.done _ s it _ _ hh kp hit λh' e k iI he=>?_) (ZU _))));obtain⟨o,ho,hc⟩:=he;refine wpAny_bind (wpAny_isInstance (T:="StopIteration") (b:=true) ⟨o,ho,hc⟩ isSubtype_stop (wpAny_pure ?_));have rj:=iI L _ Go.symm hL;rw[lf,List.take_length]at rj;exact wpAny_pure (hR _ c ⟨λb o hb e=>iI b o (λz=>hb (by rw[z];exact nA)) e,ae,ae,ae⟩ rj)
 |succ m ih=>
  intro i s acc c hk hi kp hit hL lf hR;have bi:i<us.length:=by lia
  have hx:us[i]? =some us[i]:=List.getElem?_eq_getElem bi;have hT:s.TypeIs (.ref it) "set_iterator":=⟨_,hit,ae⟩;refine codeAny_builtin F.entry_extend_loop ?_;rw[Around.under_plainId F.plain_extend_loop _];show wpAny _ A.in1 (pyNext (.ref it)>>=_) _ _ s;refine wpAny_bind ?_;unfold pyNext;refine wpAny_bind (wpAny_attempt (wpAny_callSpecial?_slot (name:=Str.ofString "__next__") hT Jf (wpAny_call_entry Jf hT Zw (G.item _ s it i us[i] _ _ kp hit hx λh' DX sb=>wpAny_pure ?_) (ZU _))));have lG:h'.get? L=some (seqObj "list" acc.toArray c):=(sb.2 L Go.symm).trans hL;have NZ:keep h':=G.fr _ _ kp λb o e hc=>(sb.2 b (vm e hc hit)).trans e;have gL:=get?_update_seq lG (·.push us[i]);rw[List.push_toArray]at gL;have Cg:acc.length<=64:=by rw[lf,nB];lia
  show wpAny _ _ (Builtin.List.listUpdate (.ref L) (·.push us[i])>>=_) _ _ _;refine wpAny_bind (listUpdate_at (s:={s with heap:=h'}) lG ae ?_ (by rw[nQ,sizeLine_eq];lia) (by rw[Array.size_push,nQ,sizeLine_eq];lia));refine wpAny_pure ⟨plainId_quiet F.plain_extend_loop _,ih (i+1) _ (acc++[us[i]]) _ (by lia) bi (G.fr _ _ NZ λb o e hc=>(Heap.get?_update_other _ _ (Ne.symm (zj e hc lG))).trans e) ((Heap.get?_update_other _ _ Go.symm).trans DX) gL (by rw[lf,List.take_add_one,hx];rfl) λs' c' hm rj=>hR s' c' (Mv.trans (b:={s with heap:=h'.update L (Obj.mapSeq (·.push us[i]))}) ⟨λb o hb e=>?_,ae,ae,ae⟩ hm) rj⟩;have h1:b≠it:=λz=>hb (by rw[z];exact nA);have h2:b≠L:=λz=>hb (by rw[z];simp);exact(Heap.get?_update_other _ _ (Ne.symm h2)).trans ((sb.2 b h1).trans e)
theorem YE{es:List (Value × Dv)}{Q:List Value->Shared->Prop}(hh:A.handled=none)(hS:aY w s.heap S es)(hl:es.length<=12)
  (h:∀us h' dr tk,us.Perm (es.map (·.1))->(∀b o,s.heap.get? b=some o->h'.get? b=some o)->Q us {s with heap:=h',drawn:=dr,toks:=tk}):wpAny (model prog w) A (collect (.ref S)) Q E s:=by
 obtain⟨oS,NM,tS,eS,xS,_⟩:=hS.ex;have DY:S<s.heap.objs.size:=Heap.lt_size eS;unfold collect;refine wpAny_bind (wpAny_runValue (codeAny_builtin F.entry_proto_collect ?_));rw[Around.under_plainId F.plain_proto_collect _];show wpAny _ A.in1 (newList []>>=λl=>again (.builtin "list.__iadd__" ⟨[l,.ref S],[]⟩)) _ _ s;refine wpAny_bind (wpAny_newObj_type (wpAny_pure ⟨plainId_quiet F.plain_list_iadd _,codeAny_builtin F.entry_list_iadd ?_⟩));rw[Around.under_plainId F.plain_list_iadd _];show wpAny _ A.in1 (Builtin.List.listExtendWith (.ref s.heap.objs.size) (.ref S) (.ref s.heap.objs.size)) _ _ _;have up:∀b o,s.heap.get? b=some o->(s.heap.push (seqObj "list" (List.toArray []) 0)).get? b=some o:=λb o e=>Heap.get?_push_of_some _ e;have oo:aY w (s.heap.push (seqObj "list" (List.toArray []) 0)) S es:=hS.keep λb o e _=>up b o e;have hT:Shared.TypeIs {s with heap:=s.heap.push (seqObj "list" (List.toArray []) 0)} (.ref S) "set":=⟨oS,up _ _ eS,xS.1⟩;have N0:(s.heap.push (seqObj "list" (List.toArray []) 0)).get? s.heap.objs.size=some (seqObj "list" (List.toArray []) 0):=Heap.get?_push_size _ rfl;unfold Builtin.List.listExtendWith;show wpAny _ _ _ _ _ {s with heap:=s.heap.push (seqObj "list" (List.toArray []) 0)};refine wpAny_bind (wpAny_typeOf hT ?_);have h1:Builtin.List.listSameRef (.ref s.heap.objs.size) (.ref S)=false:=by
  have:s.heap.objs.size≠S:=Nat.ne_of_gt DY;simp[Builtin.List.listSameRef,this]
 have h2:(Value.type "set"==Value.type "list")=false:=by decide
 have h3:(Value.type "set"==Value.type "tuple")=false:=by decide
 simp only[h1,h2,h3,Bool.or_false,Bool.false_eq_true,if_false];refine wpAny_bind (xX oo λus ep keep first h' dr it pm G kp hit ext fH=>?_);have DZ:Shared.TypeIs {s with heap:=h',drawn:=dr} (.ref S) "set":=⟨oS,ext _ _ (up _ _ eS),xS.1⟩;have lG:=ext _ _ N0;have Go:it≠s.heap.objs.size:=λz=>by
  rw[z,lG]at hit;have q:=congrArg (λo:Option Obj=>o.map (·.cls)) hit;injection q with q;injection q with q;exact absurd q (by decide)
 refine wpAny_bind (wpAny_holding ?_);unfold Builtin.List.listLengthHint;refine wpAny_bind (wpAny_specialOf DZ VC ?_);show wpAny _ _ (isInstance (.ref S) (.type "set")>>=_) _ _ _;refine wpAny_bind (wpAny_isInstance DZ sub_set_self ?_);simp only[Bool.not_true,Bool.false_eq_true,if_false];refine wpAny_bind (wpAny_typeOf DZ (wpAny_pure ?_));refine wpAny_bind (wpAny_rule (wpAny_bind ?_));have iG:us.length<=12:=by rw[pm.length_eq,m7];exact hl
 show wpAny _ _ (Builtin.List.listUpdate (.ref s.heap.objs.size) (·.push .none)>>=λ_=>Builtin.List.listUpdate (.ref s.heap.objs.size) (·.pop)) _ _ _;have g1:=get?_update_seq lG (·.push Value.none);have g2:=get?_update_seq g1 (·.pop);refine wpAny_bind (listUpdate_at (s:={s with heap:=h',drawn:=dr}) lG ae ?_ (by rw[sizeLine_eq];decide) (by rw[sizeLine_eq];decide));refine listUpdate_at g1 rfl ?_ (by rw[sizeLine_eq];decide) (by rw[sizeLine_eq];decide);have D5:∀b o,b≠s.heap.objs.size->h'.get? b=some o->((h'.update s.heap.objs.size (Obj.mapSeq (·.push Value.none))).update s.heap.objs.size (Obj.mapSeq (·.pop))).get? b=some o:=λb o hb e=>(Heap.get?_update_other _ _ (Ne.symm hb)).trans ((Heap.get?_update_other _ _ (Ne.symm hb)).trans e);refine wpAny_pure ⟨plainId_quiet F.plain_extend_loop _,xZ G hh Go (by lia) _ us.length 0 _ [] _ (by lia) (nR _) (G.fr _ _ kp λb o e hc=>D5 b o (zj e hc lG) e) (D5 it _ Go hit) g2 rfl λs' c' hm rj=>?_⟩;show wpAny _ _ (load s.heap.objs.size>>=_) _ _ s';refine wpAny_bind (wpAny_load rj ?_);show wpAny _ _ (pure us.toArray.toList) _ _ _;obtain⟨h2,N1,d2,nY,N3⟩:=s';obtain rfl:N1=s.gens:=hm.gens;obtain rfl:d2=dr:=hm.drawn;obtain rfl:N3=s.os:=hm.os;refine wpAny_pure (h us h2 d2 nY pm λb o e=>?_);have AG:b≠s.heap.objs.size:=Nat.ne_of_lt (Heap.lt_size e);have dj:b≠it:=Nat.ne_of_lt (Nat.lt_of_lt_of_le (Heap.lt_size e) (Nat.le_trans (by rw[Heap.size_push];exact Nat.le_succ _) fH));exact hm.heap b o (by simp only[List.mem_cons,List.not_mem_nil,or_false,not_or];exact⟨dj,AG⟩) (D5 b o AG (ext b o (up b o e)))
end
open PySem PySem.Spec PyProof.Rows PySem.W
section
variable {X:Cx}{pins:List (Addr × Obj)}{σ:St}{A:Around}{E:Value->Shared->Prop}{a:Addr}{vs:List V}{us:List Value}{H:Hp}{s:Shared}
theorem qe{n:Nat}{lt:Nat->Nat->Bool}{P:PySem.Fin->Shared->Prop}(I:Inv X pins σ H s)(ho:s.heap.get? a=some (seqObj "list" us.toArray n))(La:Lo X pins a)(hn:H a=none)(rv:Vals vs us)(fq:vs.length<64)(ord:2<=vs.length->aI.Ord lt)
  (asks:∀s',Inv X pins σ H s'->2<=vs.length->yA X A s' us lt)
  (h:∀ps s',QB vs.length lt ps->Inv X pins σ (upd H a (.lst (ps.map λi=>vs.getD i .ah))) s'->P (.done (.ret .none)) s'):
  wpAny (model X.prog X.w) A (Builtin.«list.sort» ⟨[.ref a],[]⟩) P E s:=by
 have iG:=rv.length;have g1:=get?_update_seq ho λ_=>(#[]:Array Value);generalize (if(#[]:Array Value).size==us.toArray.size then n else n+1)=e1 at g1;have I1:=I.loose (h':=s.heap.update a (Obj.mapSeq λ_=>(#[]:Array Value))) (t':=s.toks) La hn λc o hc q=>(Heap.get?_update_other _ _ (Ne.symm hc)).trans q;have I3:Inv X pins σ H {s with heap:=((s.heap.update a (Obj.mapSeq λ_=>(#[]:Array Value))).push (seqObj "tuple" us.toArray 0)).push (seqObj "list" #[] 0)}:=I1.kept (t':=s.toks) λb o e=>Heap.get?_push_of_some _ (Heap.get?_push_of_some _ e);have ga:(((s.heap.update a (Obj.mapSeq λ_=>(#[]:Array Value))).push (seqObj "tuple" us.toArray 0)).push (seqObj "list" #[] 0)).get? a=some (seqObj "list" #[] e1):=Heap.get?_push_of_some _ (Heap.get?_push_of_some _ g1);rw[list_sort_plain];refine wpAny_bind (listItems_at ho ae ?_);refine wpAny_bind (listUpdate_at ho ae ?_ (by rw[nQ,sizeLine_eq];lia) (nR _));refine wpAny_bind (seqEpoch_at g1 ae ?_);refine wpAny_bind (wpAny_newTuple ?_ (by show us.length<=_;rw[sizeLine_eq];lia));refine wpAny_bind (wpAny_newList ?_ (nR _));refine wpAny_holding ?_;show wpAny (model X.prog X.w) A _ P E {s with heap:=((s.heap.update a (Obj.mapSeq λ_=>(#[]:Array Value))).push (seqObj "tuple" us.toArray 0)).push (seqObj "list" #[] 0)};generalize ((s.heap.update a (Obj.mapSeq λ_=>(#[]:Array Value))).push (seqObj "tuple" us.toArray 0)).push (seqObj "list" #[] 0)=h3 at I3 ga ⊢;dsimp only;have fin:∀ps,QB vs.length lt ps->P (.done (.ret .none)) {s with heap:=h3.update a (Obj.mapSeq λ_=>List.toArray (ps.map λi=>us.getD i Value.none))}:=λps Id=>by
  have g2:=get?_update_seq ga λ_=>List.toArray (ps.map λi=>us.getD i Value.none);have I4:=I3.loose (h':=h3.update a (Obj.mapSeq λ_=>List.toArray (ps.map λi=>us.getD i Value.none))) (t':=s.toks) La hn λc o hc q=>(Heap.get?_update_other _ _ (Ne.symm hc)).trans q;have h0:X.s₀.heap.get? a=none:=by
   cases q:X.s₀.heap.get? a with
   |none=>rfl
   |some o=>exact absurd (Nat.lt_of_lt_of_le (Heap.lt_size q) La.s) (nU _)
  refine h ps _ Id (I4.VY hn h0 La.l La.c La.p ⟨?_,_,_,Ka rv ps λi hi=>Id.lt i hi,g2⟩);rw[m7,Id.len,sizeLine_eq];lia
 have hlen:∀{ps},QB vs.length lt ps->(List.toArray (ps.map λi=>us.getD i Value.none)).size=vs.length:=λId=>by rw[nQ,m7,Id.len]
 by_cases h2:us.toArray.size<2
 ·have fu:vs.length<2:=by rw[nQ]at h2;lia
  rw[if_pos h2,if_pos h2];refine wpAny_bind (wpAny_pure ?_);rw[StateT.run_pure];refine wpAny_bind (wpAny_pure ?_);dsimp only;have er:=kas_range (us.toArray.zip us.toArray);rw[show(us.toArray.zip us.toArray).size=us.length by simp]at er;have IO:=kat_snds (vs:=us) (ks:=us) rfl (st:=SortSt.mk' general' (us.toArray.zip us.toArray) #[] 7 none) (p:=List.toArray (List.range us.length)) er.symm;rw[IO];refine wpAny_bind (seqEpoch_at ga ae ?_);refine wpAny_bind (listUpdate_at ga ae ?_ (nR _) (by rw[nQ,m7,List.length_range,sizeLine_eq];lia));simp only[bne_self_eq_false,Bool.false_eq_true,if_false];have:=fin (List.range vs.length) (QB.uX fu);rw[iG]at this;exact wpAny_pure this
 ·have fu:2<=vs.length:=by rw[nQ]at h2;lia
  rw[if_neg h2,if_neg h2];obtain⟨κ,hκ,bi⟩:=asks _ I3 fu;refine wpAny_bind (hκ _ _ ?_);refine wpAny_bind (wpAny_mono (kat_run (Q:=λEQ s'=>s'={s with heap:=h3}/\∃p:Array Nat,arrOf EQ=p.map (kas_item (us.toArray.zip us.toArray))/\failedOf EQ=none/\QB vs.length lt p.toList) (G:=λp s'=>s'={s with heap:=h3}/\QB vs.length lt p.toList)
   ae (by lia) (by lia) (λp' EQ s' a1 a2 a3 a4=>⟨a4.1,p',a2,a3,a4.2⟩) ?_) ?_ λ_ _ z=>z)
  ·rw[←iG];exact aI.Sp.wp (N:=vs.length) (lt:=lt) (I:=λs'=>s'={s with heap:=h3}) (R:=λp=>QB vs.length lt p.toList) (λi j C s' hi hj hs hC=>by
    subst hs;exact bi i j C (by lia) (by lia) (hC _ ae)) (λp s' hp hs=>⟨hs,hp⟩) (aI.jU (ord fu) (by lia)) rfl
  ·rintro⟨⟨⟩,EQ⟩ s' ⟨rfl,p,C6,hf,hp⟩;dsimp only;have Ps:=kat_snds (vs:=us) (ks:=us) rfl C6;rw[Ps];refine wpAny_bind (seqEpoch_at ga ae ?_);refine wpAny_bind (listUpdate_at ga ae ?_ (nR _) (Nat.le_trans (Nat.le_of_eq (hlen hp)) (by rw[sizeLine_eq];lia)));rw[hf];simp only[bne_self_eq_false,Bool.false_eq_true,if_false];exact wpAny_pure (fin p.toList hp)
end
noncomputable def vn(w:World)(a:Addr)(ys:List V)(ds:List Dv):HO:=.ext λh=>∃es:List (Value × Dv),(∃o ep t,h.get? a=some o/\o.ExactSet/\o.data=.set (ents w es).toArray ep t/\aB.Ok (hashes w es) t/\aB.JC (hashes w es) t/\t.led= !w.params.followText "set-order")/\(es.map (·.2)).Nodup/\vH es ds/\es.length<=12/\∀e∈es,∃(j:Nat)(y:V),ys[j]? =some y/\RelV y e.1/\ds[j]? =some e.2
noncomputable def zk(ds:List Dv):Prop:=∀d∈ds,(∃es,d=.tup es)/\d.hk=true/\d.depth<=7
theorem zl{X:Cx}{pins:List (Addr × Obj)}{σ:St}{H:Hp}{s:Shared}{ys:List V}{ds:List Dv}(I:Inv X pins σ H s)(hD:af H ys ds)(hk:zk ds){j:Nat}{x:V}{d:Dv}{u:Value}(hx:ys[j]? =some x)(hd:ds[j]? =some d)(rx:RelV x u):bo s.heap (u,d):=by
 obtain⟨d',dE,dx⟩:=hD.J7 hx;rw[hd]at dE;cases dE;obtain⟨⟨es,rfl⟩,h1,h2⟩:=hk d (nF hd);refine⟨dx.hd I h1 rx,h2,h1,?_⟩;cases dx with
 |tup g t=>cases rx;exact⟨_,ae⟩
section
variable {X:Cx}
theorem qf(hc:X.calm=true)(hu:X.A.units+64<cLine):Xu X (.type "set") (λxs H Q=>∃(p:Addr)(ys:List V)(ds:List Dv),xs=[.ref p]/\aJ X.K H p ys/\af H ys ds/\zk ds/\ys.length<=12/\∀q,H q=none->Q (.ref q) (upd H q (vn X.w q ys ds))):=by
 intro pins s σ H xs us Q I r h;obtain⟨p,ys,ds,rfl,hq,hD,hk,hy,q⟩:=h;obtain⟨u,rfl,ru⟩:=vals1 r;obtain rfl:u=Value.ref p:=ru;obtain⟨ad,rv,pl,hl⟩:=I.list hq;have hlen:=rv.length;have nX:=hD.length;have hsz:ad.toArray.size=ys.length:=by rw[nQ,hlen]
 refine qd (ds:=ds) (I.ok.hd hc) hu pl.isList (λj v d hv hd=>?_) (by lia) (by lia) λh' tk es hS hj hle s0 iI=>?_
 ·have hv:ad[j]? =some v:=by simpa using hv
  obtain⟨x,hx,rx⟩:=Q7 rv hv;exact zl I hD hk hx hd rx
 ·have hn:=I.aj.fresh (ng s.heap.objs.size);refine⟨.ref s.heap.objs.size,upd H s.heap.objs.size (vn X.w s.heap.objs.size ys ds),?_,ae,q _ hn⟩;refine I.wv (ch:=[]) (λb hb=>by cases hb) (λb o _ e=>iI b o (Heap.lt_size e) e) (ng _) ?_;refine⟨⟨es,hS.ex,hS.nd,hj,by lia,λe he=>?_⟩,?_,λh1 h2⟨es,⟨o,ep,t,z,r⟩,r2⟩ kk=>⟨es,⟨o,ep,t,kk o z,r⟩,r2⟩⟩
  ·obtain⟨j,h1,h2⟩:=s0 e he;have h1:ad[j]? =some e.1:=by simpa using h1
   obtain⟨x,hx,rx⟩:=Q7 rv h1;exact⟨j,x,hx,rx,h2⟩
  ·obtain⟨o,ep,t,ho,_⟩:=hS.ex;exact⟨o,ho⟩
theorem VD(hc:X.calm=true)(hu:X.A.units+100<cLine):Xu X (.builtin "sorted") (λxs H Q=>∃(p:Addr)(ys:List V)(ds:List Dv),xs=[.ref p]/\H p=some (vn X.w p ys ds)/\af H ys ds/\zk ds/\
  (∀zs es,af H zs es->es.Nodup->(∀d,d∈es↔d∈ds)->zs.length<=12->∃lt,(2<=zs.length->aI.Ord lt)/\(2<=zs.length->Av H zs lt)/\∀ps,QB zs.length lt ps->∀q,H q=none->Q (.ref q) (upd H q (.lst (ps.map λi=>zs.getD i .ah))))):=by
 intro pins s σ H xs us0 Q I r h;obtain⟨p,ys,ds,rfl,hp,hD,hk,q⟩:=h;obtain⟨u,rfl,ru⟩:=vals1 r;obtain rfl:u=Value.ref p:=ru;obtain⟨⟨es,hex,p7,hj,hle,ur⟩,_⟩:=I.aj p _ hp;have hS:aY X.w s.heap p es:=⟨hex,λe he=>by
  obtain⟨j,y,h1,h2,h3⟩:=ur e he;exact zl I hD hk h1 h3 h2,p7⟩
 refine Calls.call_function_entry kind_sorted plain_sorted entry_sorted (args_sorted1 _) ?_;unfold Builtin.«sorted»;refine wpAny_bind (m:=checkCount "sorted" 1 1 _) (wpAny_pure ?_);refine wpAny_bind (YE (I.ok.hd hc) hS hle λus h' dr tk pm ext=>?_);have I1:Inv X pins σ H {s with heap:=h',drawn:=dr,toks:=tk}:=I.UA (s':={s with heap:=h',drawn:=dr,toks:=tk}) (ch:=[]) rfl (Un.kept ext) (I.aj.kept ext) I.bare λb hb=>nomatch hb;have iG:us.length=es.length:=by rw[pm.length_eq,m7]
 obtain⟨ii,pe,eu⟩:∃ii:List (Value × Dv),ii.Perm es/\us=ii.map (·.1):=by
  have key:∀(l m:List Value),l.Perm m->∀es:List (Value × Dv),m=es.map (·.1)->∃ii:List (Value × Dv),ii.Perm es/\l=ii.map (·.1):=by
   intro l m pm
   induction pm with
   |nil=>intro es e;exact⟨es,List.Perm.refl _,e⟩
   |cons x _ ih=>
    intro es e;cases es with
    |nil=>cases e
    |cons y es=>
     rw[nM]at e;injection e with e1 e2;obtain⟨ii,p1,p2⟩:=ih es e2;exact⟨y::ii,p1.cons y,by rw[nM, ←p2,e1]⟩
   |swap x y l=>
    intro es e
    match es,e with
    |a::b::es,e=>
     rw[nM,nM]at e;injection e with e1 e2;injection e2 with e2 e3;exact⟨b::a::es,List.Perm.swap _ _ _,by rw[nM,nM, ←e1, ←e2, ←e3]⟩
    |[_],e=>cases e
    |[],e=>cases e
   |trans _ _ N4 N5=>
    intro es e;obtain⟨cm,p1,e1⟩:=N5 es e;obtain⟨N6,p2,e2⟩:=N4 cm e1;exact⟨N6,p2.trans p1,e2⟩
  exact key us _ pm es rfl
 obtain⟨zs,N7⟩:∃zs,Vals zs us/\af H zs (ii.map (·.2)):=by
  have d9:∀e∈ii,∃(j:Nat)(y:V),ys[j]? =some y/\RelV y e.1/\ds[j]? =some e.2:=λe he=>ur e (pe.mem_iff.mp he);rw[eu];clear pe eu
  induction ii with
  |nil=>exact⟨[],.nil,.nil⟩
  |cons e ii ih=>
   obtain⟨zs,h1,h2⟩:=ih λe he=>d9 e (nz _ he);obtain⟨j,y,a1,a2,a3⟩:=d9 e nA;obtain⟨d',b1,b2⟩:=hD.J7 a1;rw[a3]at b1;cases b1;exact⟨y::zs,.cons a2 h1,.cons b2 h2⟩
 obtain⟨rv,dz⟩:=N7;have hzl:=rv.length;obtain⟨lt,ord,ask,done⟩:=q zs (ii.map (·.2)) dz ((pe.map (·.2)).nodup_iff.mpr p7) (λd=>by
  rw[←hj d,List.mem_map];exact⟨λ⟨e,he,cW⟩=>⟨e,pe.mem_iff.mp he,cW⟩,λ⟨e,he,cW⟩=>⟨e,pe.mem_iff.mpr he,cW⟩⟩) (by lia)
 refine wpAny_bind (wpAny_newList ?_ (by rw[sizeLine_eq];lia));have I2:Inv X pins σ H {s with heap:=h'.push (seqObj "list" us.toArray 0),drawn:=dr,toks:=tk}:=I1.kept (t':=tk) λb o e=>Heap.get?_push_of_some _ e;have lO:(h'.push (seqObj "list" us.toArray 0)).get? h'.objs.size=some (seqObj "list" us.toArray 0):=Heap.get?_push_size _ rfl;have La:Lo X pins h'.objs.size:=Lo.new I1 (ng _);have hn:H h'.objs.size=none:=I1.aj.fresh (ng _);show wpAny _ _ _ _ _ {s with heap:=h'.push (seqObj "list" us.toArray 0),drawn:=dr,toks:=tk};refine wpAny_bind (wpAny_holding (wpAny_call_entry slot_list_sort ⟨_,lO,ae⟩ entry_list_sort ?_ (args_list_sort _)));refine qe (A:=X.A.in1.in1) I2 lO La hn rv (by lia) ord (λs' J h2=>Gr _ _ _ _ _ zs us lt J (by show X.A.units+1+1+64<cLine;lia) rv h2 (ask h2)) λps s' Id J=>⟨_,ae,wpAny_pure ⟨_,ae,.ref h'.objs.size,_,J,ae,done ps Id _ hn⟩⟩
theorem zm{n:Nat}(hu:X.A.units+1+n<cLine):aU X (compareOp .NotEq) (λx y H Q=>∃a b xs ys ds es,x=.ref a/\y=.ref b/\aJ X.K H a xs/\aJ X.K H b ys/\af H xs ds/\af H ys es/\Dv.Qs ds<=n/\Q (.bl (!(Dv.VI ds es))) H):=by
 intro pins s σ H x y v u Q I rx ry h;obtain⟨a,b,xs,ys,ds,es,rfl,rfl,ha,hb,t,t2,hd,q⟩:=h;obtain rfl:v=Value.ref a:=rx;obtain rfl:u=Value.ref b:=ry;obtain⟨ad,r1,p1,_⟩:=I.list ha;obtain⟨bn,r2,p2,_⟩:=I.list hb;have l1:=r1.length;have l2:=r2.length;have m1:=t.length;have m2:=t2.length
 by_cases hl:ds.length=es.length
 ·refine SeqAt.RcNeAt.lists (e:=λj=>((ds[j]?).getD .ah).aC ((es[j]?).getD .ah)) p1.isList p2.isList (by rw[nQ,nQ];lia) (by lia) (Jn (pins:=pins) (σ:=σ) (H:=H) (n:=n) r1 r2 λj x y u v g1 g2 w1 w2=>?_) X.prog X.w X.xe _ ?_
  ·obtain⟨d1,k1,k2⟩:=t.J7 g1;obtain⟨e1,k3,k4⟩:=t2.J7 g2;show SeqAt.EqAt X.A.in1 s u v (((ds[j]?).getD .ah).aC ((es[j]?).getD .ah));rw[k1,k3];exact ag.at I n d1 e1 x y (Nat.le_trans (Dv.Q3 k1) hd) k2 k4 (by show X.A.units+1+n<cLine;lia) w1 w2
  ·have e:=Dv.Jj ds es;rw[hl,Nat.min_self,beq_self_eq_true,Bool.and_true]at e;refine⟨.bl _,H,I,?_,q⟩;rw[e];show Value.bool _=Value.bool _;rw[nQ, ←l1,m1,hl]
 ·have e:Dv.VI ds es=false:=by rw[Dv.Jj,beq_false_of_ne hl,Bool.and_false]
  rw[e]at q;refine SeqAt.RcNeAt.lists_lengths p1.isList p2.isList (by rw[nQ,nQ];simp;lia) (by lia) _ _ _ _ ?_;exact⟨.bl true,H,I,ae,q⟩
theorem Up{α:Type}:∀l:List α,(List.range l.length).filterMap (λi=>l[i]?)=l
 |[]=>rfl
 |x::xs=>by
  rw[nj,List.range_succ_eq_map,List.filterMap_cons];show x::_=_;rw[List.filterMap_map];exact congrArg (x:: ·) (Up xs)
theorem Uq{α β:Type}{f g:α->Option β}:∀{l:List α},(∀x∈l,f x=g x)->l.filterMap f=l.filterMap g
 |[],_=>rfl
 |x::xs,h=>by rw[List.filterMap_cons,List.filterMap_cons,h x nA,Uq λy hy=>h y (nz _ hy)]
theorem WB(ad:List Value):slicePick ad.toArray none none (some (-1))=ad.reverse.toArray:=by
 unfold slicePick;have h1:sliceBounds none none (some (-1)) ad.toArray.size=((ad.length:Int)-1, -1, -1):=by simp[sliceBounds]
 rw[h1];have h2:sliceRange ((ad.length:Int)-1) (-1) (-1)=(List.range ad.length).map λk=>ad.length-1-k:=by
  unfold sliceRange;have hc:(if(-1:Int)>0 then(if(ad.length:Int)-1< -1 then(-1-((ad.length:Int)-1)+ -1-1)/ -1 else 0)else(if(ad.length:Int)-1> -1 then((ad.length:Int)-1- -1- -1-1)/(- -1)else 0)).toNat=ad.length:=by
   rw[if_neg (by decide)]
   by_cases z:(ad.length:Int)-1> -1
   ·rw[if_pos z];have:((ad.length:Int)-1- -1- -1-1)/(- -1)=ad.length:=by
     rw[show((ad.length:Int)-1- -1- -1-1)=ad.length by lia,show(- -1:Int)=1 by decide,Int.ediv_one]
    rw[this];rfl
   ·rw[if_neg z];lia
  show((List.range _).map _)=_;rw[hc];refine List.map_congr_left λk hk=>?_;have:=List.mem_range.mp hk;lia
 show(((sliceRange ((ad.length:Int)-1) (-1) (-1)).filterMap (ad.toArray[·]?)).toArray)=_;rw[h2,List.filterMap_map]
 congr 1
 conv=>rhs;rw[←Up ad.reverse]
 rw[List.length_reverse];refine Uq λk hk=>?_;have:=List.mem_range.mp hk;show ad.toArray[ad.length-1-k]? =_;rw[List.getElem?_reverse this,List.getElem?_toArray]
theorem x3{xs:List V}{ad:List Value}(r:Vals xs ad):Vals xs.reverse ad.reverse:=by
 induction r with
 |nil=>exact .nil
 |cons a r ih=>
  rw[List.reverse_cons,List.reverse_cons];exact ih.append (.cons a .nil)
noncomputable def yO(K:Frag)(te:TE)(to:TO):TE:=λσ H Q=>te σ H λx H1=>to σ H1 λo H2=>∃a xs,o=some (-1)/\x=.ref a/\aJ K H2 a xs/\∀p,H2 p=none->Q (.ref p) (upd H2 p (.lst xs.reverse))
theorem x5{e st:Expr}{te:TE}{to:TO}{p2 pos:Pos}(he:PE X e te)(hs:PO X (some st) to):PE X (.Subscript e (.Slice none none (some st) p2) pos) (yO X.K te to):=by
 intro pins s σ H Q I h;refine Subscript_ (ax (he pins s σ H _ I h) λv s1⟨x,H1,I1,r1,q1⟩=>?_);refine wpAny_Slice ?_;rw[evalPart_none];refine wpAny_pure (wpAny_pure ?_);refine ax (hs pins s1 σ H1 _ I1 q1) λvs s2⟨o,H2,I2,pp,q2⟩=>?_;obtain⟨a,xs,rfl,rfl,hx,q⟩:=q2;have I3:Inv X pins σ H2 {s2 with heap:=s2.heap.push {cls:=.type "slice",data:=.fields #[.none,.none,vs]}}:=I2.kept (t':=s2.toks) λb ob q=>Heap.get?_push_of_some _ q;cases r1;obtain⟨ad,r,ht,hz⟩:=I3.list hx;have hlen:=r.length;refine tail_any (ops:=[.ref a,.ref s2.heap.objs.size]) ht.isList.typeIs slot_list_getitem.lookup ?_ (by with_unfolding_all rfl);refine wpAny_getItem_list_slice ht.isList (Heap.IsSliceOf.new ..) .none .none pp (by simp) ?_ (by rw[nQ];lia);rw[WB];refine⟨.ref _,_,I3.laid (t':=s2.toks) (o:=.lst xs.reverse) (λb ob q=>Heap.get?_push_of_some _ q) (ng _) ?_,ae,q _ (I3.aj.fresh (ng _))⟩;exact⟨by rw[List.length_reverse];exact hz,_,0,x3 r,Heap.get?_push_size _ rfl⟩
noncomputable def J0(n:Nat):List V:=(List.range n).map λi=>V.int (i:Nat)
theorem zn{n:Nat}{acc:Array Value}(h:ItemsOf (λi v=>∃t,v=Value.int ((0:Int)+i*1) t) acc n):Vals (J0 n) acc.toList:=by
 have key:∀(m k:Nat)(us:List Value),us.length=m->(∀(j:Nat)(v:Value),us[j]? =some v->∃t,v=Value.int ((k+j:Nat):Int) t)->Vals ((List.range' k m).map λi=>V.int (i:Nat)) us:=by
  intro m
  induction m with
  |zero=>intro k us hl _;rw[List.length_eq_zero_iff.mp hl];exact .nil
  |succ m ih=>
   intro k us hl hv;cases us with
   |nil=>cases hl
   |cons v us=>
    obtain⟨t,e⟩:=hv 0 v rfl;rw[List.range'_succ,nM];refine .cons ⟨t,e⟩ (ih (k+1) us (by simpa using hl) λj v hj=>?_);obtain⟨t2,e2⟩:=hv (j+1) v hj;exact⟨t2,by rw[e2,show k+(j+1)=k+1+j by lia]⟩
 unfold J0;rw[List.range_eq_range'];refine key n 0 acc.toList (by rw[nO];exact h.1) λj v hj=>?_;obtain⟨t,e⟩:=h.2 j v (by rw[←hj,Array.getElem?_toList]);exact⟨t,by rw[e];congr 1;lia⟩
noncomputable def N8(ta:TA):TE:=λσ H Q=>ta σ H λvs H1=>∃n:Nat,vs=[.int (n:Nat)]/\n<=1000/\∀l,H1 l=none->Q (.ref l) (upd H1 l (.lst (J0 n)))
theorem x6{e:Expr}{ta:TA}{p q pq ce:Pos}(hc:X.calm=true)(N9:Gl X "list")(CS:X.mg "list"=none)(hg:Gl X "range")(hm:X.mg "range"=none)(ha:PA X [e] ta)(h1:isStar e=false):
  PE X (.Call (.Name "list" q) [.Call (.Name "range" p) [e] [] pq] [] ce) (N8 ta):=by
 intro pins s σ H Q I h;refine wpAny_Call_Name_kw (JL I N9 CS boot_list ?_ (by decide) (by decide));refine PyProof.Rows.callWith_type1 ?_ (YC ae) rfl;rw[YC (e:=.Call (.Name "range" p) [e] [] pq) rfl];refine Calls.spliced_cons ?_;refine wpAny_Call_Name_kw (JL I hg hm boot_range ?_ (by decide) (by decide));refine PyProof.Rows.callWith_type1 (ax (ha pq pins s σ H _ I h) λus s1⟨vs,H1,I1,r1,n,e,hn,q⟩=>?_) (YC h1) rfl;subst e;obtain⟨u,rfl,ru⟩:=vals1 r1;obtain⟨t,rfl⟩:=ru;refine call_range_1 ?_;refine Calls.spliced_nil ?_;have g:IsRange (s1.heap.push {cls:=.type "range",data:=.fields #[.int 0 s1.toks,.int (n:Nat) t,.int 1 (s1.toks+1)]}) s1.heap.objs.size 0 (n:Nat) 1 s1.toks t (s1.toks+1):=IsRange.new ..;have up:∀b o,s1.heap.get? b=some o->(s1.heap.push {cls:=.type "range",data:=.fields #[.int 0 s1.toks,.int (n:Nat) t,.int 1 (s1.toks+1)]}).get? b=some o:=λb o e=>Heap.get?_push_of_some _ e;have hsz:s1.heap.objs.size<(s1.heap.push {cls:=.type "range",data:=.fields #[.int 0 s1.toks,.int (n:Nat) t,.int 1 (s1.toks+1)]}).objs.size:=Heap.lt_size g;generalize s1.heap.push {cls:=.type "range",data:=.fields #[.int 0 s1.toks,.int (n:Nat) t,.int 1 (s1.toks+1)]}=h2 at g up hsz;refine PySem.call_list_range (s:={s1 with heap:=h2,toks:=s1.toks+1+1}) (A:=X.A) (I1.ok.hd hc) g (small_one (by decide) (by decide) (by lia) (by lia)) (n:=n) (by rw[rangeSize_one];split<;>lia) (by lia) λh' tk acc c' hk hS lf=>?_;have rv:=zn lf;have s0:H1 h2.objs.size=none:=I1.aj.fresh (Nat.le_of_lt hsz);have hz:1000<=sizeLine:=by decide
 refine⟨.ref h2.objs.size,_,I1.laid (t':=tk) (λb o e=>hk b o (up b o e)) (Nat.le_of_lt hsz) (show QY X.prog X.w _ h' _ (.lst (J0 n))from⟨?_,acc.toList,c',rv,by rw[Array.toArray_toList];exact hS⟩),ae,q _ s0⟩;unfold J0;rw[m7,List.length_range];lia
end
end L2
namespace Lw
open PySem PySem.Spec PyProof.Rows L2 dZ
open Builtin Builtin.Str StrLaws
section
variable {P:Program}{w:World}{K:Frag}{mg:Str->Option Value}{base:Heap}{f:Addr}{fd:FuncData}{tk:Nat->Tok}
theorem XF{H:Hp}{q:Addr}(r:Rk){a b:Int}{x:Str}(h:r.dv=.tup [.int a,.int b,.str x]):ag (upd H q (.tup [.int a,.int b,.str x])) (.ref q) r.dv:=by
 rw[h];exact .tup Qb (.cons .int (.cons .int (.cons .str .nil)))
noncomputable def zo:Sp:=λvs H Q _=>∃(v:V)(c:Cell)(pl:Int),vs=[v,.int pl]/\ag H v c.dv/\Jh c/\(∀u o,c=.au u o->o<=pl)/\0<=pl/\pl<=18/\∀u H',Qi H H'->ag H' u (rk pl c).dv->Q u H'
theorem vo(F:aQ K "rank" "rank" jt f fd)(gi:Def P w K mg base 1 "is_pair" ["value"] ZP)(ml:Def P w K mg base 2 "cut" ["amount","places"] (xy K)):aw P w K mg base (aE P w) 3 f fd ["value","places"] zo:=by
 refine okN F wD (λvs H Q E h=>?_) (λbv A outer s H vs Q E hr h=>?_)
 ·obtain⟨v,c,pl,rfl,_⟩:=h;rfl
 ·obtain⟨v,c,pl,rfl,D,ok,hp,h0,N',k⟩:=h;have hz:1000<=sizeLine:=by decide
  refine⟨_,(Qk (Qy (Xw (Xf (gi.pe hr (by decide) ae Qm (Qa (pv 0) Qc))) (QV (Qa Qf (Qa (Qv Qj (ml.pe hr (by decide) ae Qm (Qa (pv 0) (Qa (pv 1) Qc))) Qf (λ_ _=>rfl)) (Qa QO Qc)))) (QV (Qa Qf (Qa Qf (Qa (pv 0) Qc))))))),?_⟩;cases c with
  |txt x=>
   obtain rfl:=kD D;refine⟨_,ae,.str x,.txt x,ae,D,_,ae,WF ?_⟩;exact⟨_,ae,Ae,λq hq=>k _ _ (Qi.new hq) (XF (.txt x) ae)⟩
  |au u o=>
   obtain⟨a,rfl,g⟩:=X3 D;refine⟨_,ae,.ref a,.au u o,ae,D,_,ae,zX ?_⟩;refine⟨_,ae,_,ae,a,u,o,pl,ae,ok.Af.au (by decide) g,h0,N',λq hq=>⟨q,_,0,_,ae,ae,.inl Qb,ae,?_⟩⟩;rw[ay.jq (hp u o ae)];exact⟨Ae,λq2 bG=>k _ _ ((Qi.new hq).trans (Qi.new bG)) (XF (.au _) ae)⟩
noncomputable def Ki:Sp:=λvs H Q _=>∃(v:V)(c:Cell),vs=[v]/\ag H v c.dv/\Jh c/\∀u H',Qi H H'->ag H' u (rk 9 c).dv->Q u H'
theorem VE(F:aQ K "_law_rank" "_law_rank" ZF f fd)(O:Own mg)(KT:Cd K):aw P w K mg base (aE P w) 1 f fd ["_law_part"] Ki:=by
 refine okN F Vb (λvs H Q E h=>?_) (λbv A outer s H vs Q E hr h=>?_)
 ·obtain⟨v,c,rfl,_⟩:=h;rfl
 ·obtain⟨v,c,rfl,D,ok,k⟩:=h;have hz:1000<=sizeLine:=by decide
  refine⟨_,(Qe (Xt (Xf (QW YT ae O.Fz boot_isinstance (Qa (pv 0) (Qa (qr (v:=V.ty "str") ae O.str boot_str ae) Qc)))) (Qk (Qy (QV (Qa Qf (Qa Qf (Qa (pv 0) Qc)))))) Js)
   (Qk (Qy (QV (Qa Qf (Qa (QF K2 (Qv Qj (pv 0) Qf (λ_ _=>rfl)) (Qu JQ ae O.int boot_int (Qa (QF ZX QO (QF ZA QO (QF ZL Qf (Qv Qj (pv 0) Qf (λ_ _=>rfl))))) Qc))) (Qa QO Qc))))))),?_⟩
  cases c with
  |txt x=>
   obtain rfl:=kD D;refine⟨_,ae,_,_,true,ae,ae,.inl ⟨_,D.ty,KT.ss⟩,_,ae,zX ?_⟩;exact⟨_,ae,Ae,λq hq=>k _ _ (Qi.new hq) (XF (.txt x) ae)⟩
  |au u o=>
   have b1:=ok.Af.Cu (by decide);obtain⟨a,rfl,g⟩:=X3 D;obtain⟨c1,c2,_⟩:=ok;refine⟨_,ae,_,_,false,ae,ae,.inl ⟨_,D.ty,KT.ts⟩,_,ae,WF ?_⟩;obtain⟨e1,e2,e3,e4⟩:=Wh (9-o).toNat (by lia);have t1:((10:Int)^(9-o).toNat).natAbs<2^2000:=big (Zd (m:=9-o) (by lia));refine⟨_,ae,a,_,0,_,ae,ae,.inl g,ae,_,ae,a,_,1,_,ae,ae,.inl g,ae,_,_,ae,ae,_,_,ae,ae,by lia,e4,by lia,_,_,ae,ae,e3,_,_,ae,e1,e2,_,_,ae,ae,⟨big b1,t1⟩,?_⟩;exact⟨Ae,λq hq=>k _ _ (Qi.new hq) (XF (.au _) ae)⟩
end
end Lw
namespace L2
open PySem PySem.Spec PyProof.Rows
section
variable {J:It}{n:Nat}{Ok:Hp->Prop}{item:Nat->Hp->V->Hp->Prop}
theorem zp{nn:Nat}{fi:List Nat}{fv:List V}{wi lr:TI}{g g2:TG}{tt:TT}{te:TE}{Q:VK}{σ:St}{H:Hp}(F:Fix J n Ok item)(Pv:Nat->List V->Hp->Prop)(h:∀R:It->Hp->Prop,(∀H1,Pv 0 [] H1->R J H1)->wi σ H R) (Re:fi.map (λi=>σ[i]?)=fv.map (λv=>some (some v))) (ho:∀i vs H,i<=n->Pv i vs H->Ok H)
  (hs:∀i v vs H H',i<n->Pv i vs H->item i H v H'->g v (List.replicate nn none++fv.map some) H' λσ2 H2=>Wk (List.replicate nn none++fv.map some) σ2/\lr σ2 H2 λJ2 H3=>∃W2:Nat->Nat->List V->Hp->Prop,(∃m,W2 0 m vs H3)/\∀i2 m2 cr H4,W2 i2 m2 cr H4->
   (J2.stop i2 H4/\Pv (i+1) cr H4)\/(J2.go i2 H4/\cr.length<sizeLine/\∃N2:List V->Hp->Prop,(∀sB H',N2 sB H'->∃m',m'<m2/\W2 (i2+1) m' sB H')/\
    ∀x2 H5,J2.bw i2 H4 x2 H5->g2 x2 σ2 H5 λσ3 H6=>Wk σ2 σ3/\tt σ3 H6 λb H7=>if b=true then te σ3 H7 λv H8=>N2 (cr++[v]) H8 else N2 cr H7))
  (hd:∀vs H,Pv n vs H->∀p,H p=none->Q (.ref p) (upd H p (.lst vs))):kQ nn fi wi g lr g2 tt te σ H Q:=by
 refine h _ λH1 h0=>⟨fv,Re,λi m vs H=>m=n-i/\i<=n/\Pv i vs H,⟨n,by simp,nR _,h0⟩,?_⟩;rintro i m vs H ⟨rfl,hi,p⟩;have ok:=ho i vs H hi p
 by_cases bi:i<n
 ·exact .inr ⟨F.go i H ok bi,Pv (i+1),λsB H' p'=>⟨n-(i+1),by lia,ae,bi,p'⟩,λx H' y=>hs i x vs H H' bi p (F.bw i H x H' ok bi y)⟩
 ·have e:i=n:=by lia
  subst e;exact .inl ⟨F.stop H ok,hd vs H p⟩
theorem x9{g2:TG}{tt:TT}{te:TE}{σ2:St}{H3:Hp}{vs:List V}{N:List V->Hp->Prop}(F:Fix J n Ok item)(Pw:Nat->List V->Hp->Prop)(h0:Pw 0 vs H3)(ho:∀j cr H,j<=n->Pw j cr H->Ok H/\cr.length<sizeLine)
  (hs:∀j x2 cr H H5,j<n->Pw j cr H->item j H x2 H5->g2 x2 σ2 H5 λσ3 H6=>Wk σ2 σ3/\tt σ3 H6 λb H7=>if b=true then te σ3 H7 λv H8=>Pw (j+1) (cr++[v]) H8 else Pw (j+1) cr H7) (hd:∀cr H,Pw n cr H->N cr H):
  ∃W2:Nat->Nat->List V->Hp->Prop,(∃m,W2 0 m vs H3)/\∀i2 m2 cr H4,W2 i2 m2 cr H4->
   (J.stop i2 H4/\N cr H4)\/(J.go i2 H4/\cr.length<sizeLine/\∃N2:List V->Hp->Prop,(∀sB H',N2 sB H'->∃m',m'<m2/\W2 (i2+1) m' sB H')/\
    ∀x2 H5,J.bw i2 H4 x2 H5->g2 x2 σ2 H5 λσ3 H6=>Wk σ2 σ3/\tt σ3 H6 λb H7=>if b=true then te σ3 H7 λv H8=>N2 (cr++[v]) H8 else N2 cr H7):=by
 refine⟨λi m vs H=>m=n-i/\i<=n/\Pw i vs H,⟨n,by simp,nR _,h0⟩,?_⟩;rintro i m cr H ⟨rfl,hi,p⟩;obtain⟨ok,hv⟩:=ho i cr H hi p
 by_cases bi:i<n
 ·exact .inr ⟨F.go i H ok bi,hv,Pw (i+1),λsB H' p'=>⟨n-(i+1),by lia,ae,bi,p'⟩,λx H' y=>hs i x cr H H' bi p (F.bw i H x H' ok bi y)⟩
 ·have e:i=n:=by lia
  subst e;exact .inl ⟨F.stop H ok,hd cr H p⟩
end
section
variable {X:Cx}{K0:Frag}{tg l:Expr}{tl:TE}
theorem Ur(hK:X.K=K0)(hl:PE X l tl):PI X tg l (k8 K0 tl):=hK▸JP hl
theorem zq(hK:X.K=K0)(hl:PE X l tl):PI X tg l (Fc K0 tl):=hK▸ZJ hl
end
noncomputable def bq(P:Addr)(H H':Hp):Prop:=∀b o,H b=some o->b≠P->H' b=some o
theorem bq.trans{P:Addr}{H H1 H2:Hp}(h:bq P H H1)(g:bq P H1 H2):bq P H H2:=λb o e n=>g b o (h b o e n) n
theorem bq.of{P:Addr}{H H':Hp}(S:Qi H H'):bq P H H':=λb o e _=>S b o e
theorem bq.Jr{P:Addr}{q:Str}{H H':Hp}(h:bq P H H')(T:Jx H P q):∀b ys,H b=some (.tup ys)->H' b=some (.tup ys):=λb ys e=>by
 refine h b _ e λz=>?_;obtain⟨ps,g,_⟩:=T;rw[z,g]at e;cases e
end L2
namespace Lw
open PySem PySem.Spec PyProof.Rows L2 dZ
open Builtin Builtin.Str StrLaws
section
variable {P:Program}{w:World}{K:Frag}{mg:Str->Option Value}{base:Heap}{f:Addr}{fd:FuncData}{tk:Nat->Tok}{c2 P2:Addr}
noncomputable abbrev kY:Str:="in_order.<locals>.<lambda>"
noncomputable def Xc(P2:Addr):Sp:=λvs H Q _=>∃(v rv:V)(π:Plan)(rows:List (List Cell)),vs=[v,rv]/\ag H v (ZH π)/\ao π/\π.keys.length<=10/\ag H rv (Zr rows)/\(∀r∈rows,aq π r)/\rows.length<=20/\Jx H P2 kY/\
 ∀u H' ps,bq P2 H H'->Jx H' P2 kY->QB rows.length (Yu λi=>aK 9 π (rows.getD i [])) ps->ag H' u (Zr (ps.map λi=>rows.getD i []))->Q u H'
structure GR(π:Plan)(rows:List (List Cell))(ns:List Int):Prop where
 lo:∀n∈ns,0<=n/\n<=2
 all:∀r∈rows,∀i∈aA π,∀u o,r.getD i (.txt "")=.au u o->o∈ns
theorem vq{K:Frag}{ti:TE}{σ:L2.St}{H:Hp}{Q:VK}(h:∀R:VK,(∀(p:Addr)(ns:List Int)(H1:Hp),aJ K H1 p (ns.map V.int)->(∀pl,(0=pl/\ns=[])\/(pl∈ns/\∀n∈ns,n<=pl)->Q (.int pl) H1)->R (.ref p) H1)->ti σ H R):yD K ti (tC (.int 0)) σ H Q:=
 h _ λp ns H1 hq rest=>⟨p,ns,0,ae,ae,hq,λe=>rest 0 (.inl ⟨ae,e⟩),λm h1 h2=>rest m (.inr ⟨h1,h2⟩)⟩
theorem XG{π:Plan}(Z:ao π){r:List Cell}(Y:aq π r){i j:Nat}(h:(aA π)[i]? =some j):r[j]? =some (r.getD j (.txt ""))/\Jh (r.getD j (.txt "")):=by
 obtain⟨c,hc,ok⟩:=Zo Z Y h;rw[List.getD_eq_getElem?_getD,hc];exact⟨ae,ok⟩
theorem zr{H:Hp}{xr:List V}{rows:List (List Cell)}(t:af H xr (rows.map Kl)){i:Nat}{v:V}(h:xr[i]? =some v):∃r,rows[i]? =some r/\ag H v (Kl r):=by
 obtain⟨d,hd,D⟩:=t.J7 h;rw[nE]at hd;cases e:rows[i]? with
 |none=>rw[e]at hd;cases hd
 |some r=>
  rw[e]at hd;exact⟨r,ae,by rw[nh hd];exact D⟩
theorem KO{H:Hp}{xr:List V}{rows:List (List Cell)}(t:af H xr (rows.map Kl)):∀(ps:List Nat),(∀i∈ps,i<rows.length)->af H (ps.map λi=>xr.getD i .ah) (ps.map (Kl∘λi=>rows.getD i []))
 |[],_=>.nil
 |i::ps,h=>by
  have hi:=h i nA;obtain⟨x,hx,D⟩:=t.get (i:=i) (d:=Kl rows[i]) (by rw[nE,List.getElem?_eq_getElem hi];rfl);refine .cons ?_ (KO t ps λj hj=>h j (nz _ hj));show ag H (xr.getD i .ah) (Kl (rows.getD i []));rw[List.getD_eq_getElem?_getD,List.getD_eq_getElem?_getD,hx,List.getElem?_eq_getElem hi];exact D
theorem YF(F:fZ K "in_order" "in_order" Q9 f fd (.ref c2))(L:bj mg base c2 P2)(O:Own mg)(OT:mg "tuple"=none)(dQ:mg "sorted"=none)(hU:Def P w K mg base 1 "spots_of" ["plan","names"] Z5)(gi:Def P w K mg base 1 "is_pair" ["value"] ZP)(mF:Def P w K mg base 3 "rank" ["value","places"] zo):
  aw P w K mg base (aE P w) 7 f fd ["plan","rows"] (Xc P2):=by
 refine FA F ZC (λvs H Q E h=>?_) (λA outer s H vs Q E hr h=>?_)
 ·obtain⟨v,rv,π,rows,rfl,_⟩:=h;rfl
 ·obtain⟨v,rv,π,rows,rfl,D,Z,oh,DR,Y,hl,T,k⟩:=h;have hz:1000<=sizeLine:=by decide
  refine⟨_,(Qe (Qz (i:=3) ZC.nd ae (Or.inr ae) (hU.pe hr (by decide) ae Qm (Qa (pv 0) (Qa (Qv Qj (pv 0) Qf (λ_ _=>rfl)) Qc))))
   (Qe (Qz (i:=2) ZC.nd ae (Or.inr ae) (vg ae ae O.max (j6 (NB:=[".0","row","at"]) (FR:=["spots"]) (fi:=[3]) ae ⟨ae,by decide+kernel,by decide+kernel,by decide+kernel,by decide+kernel⟩ ae ae (ZJ (pv 1)) (λ_ _ _=>(Qg (i:=1) (show([".0","row","at","spots"]:List Str).Nodup by decide+kernel) ae (Or.inl ae))) (λ_ _ _=>(Ur (K0:=K) ae (pv 3))) (λ_ _ _=>(Qg (i:=2) (show([".0","row","at","spots"]:List Str).Nodup by decide+kernel) ae (Or.inl ae))) (λ_ _ _=>(K5 (Xf (gi.pe hr (by decide) ae Qm (Qa (Qv Qj (pv 1) (pv 2) (λ_ _=>rfl)) Qc))))) (λ_ _ _=>(Qv Qj (Qv Qj (pv 1) (pv 2) (λ_ _=>rfl)) Qf (λ_ _=>rfl)))) Qf))
   (Qk (Qy (Qu Qo ae OT boot_tuple (Qa (Ui (x:="row") (own:=true) (FR:=["places","spots"]) (fi:=[2,3]) MH hr ae dQ (pv 1) L ae ae ae ae ae ae ⟨ae,by decide+kernel,λ_ _=>rfl,λ_=>rfl⟩ (by decide+kernel) ae (by decide+kernel) ae (λ_ _ _ _ _=>rfl) (λ_ _ _ _ _ _ fg=>(Ke (NB:=[".0","at"]) (FR:=["places","row"]) (fi:=[1,0]) ae ⟨ae,by decide+kernel,by decide+kernel,by decide+kernel,by decide+kernel⟩ ae ae (Ur (K0:=K) ae (pv 2)) (λ_ _ _=>(Qg (i:=1) (show([".0","at","places","row"]:List Str).Nodup by decide+kernel) ae (Or.inl ae))) (λ_ _ _=>QU) (λ_ _ _=>(mF.pe fg (by decide) ae Qm (Qa (Qv Qj (pv 3) (pv 1) (λ_ _=>rfl)) (Qa (pv 2) Qc))))))) Qc)))))),?_⟩
  obtain⟨a,ac,ak,as,L0⟩:=Ze D;obtain rfl:=L0.v;obtain⟨R,xr,rfl,gr,tr⟩:=ag.Za DR;have lx:=tr.length;rw[m7]at lx;have fh:(aA π).length=π.keys.length:=by unfold aA Qt;rw[m7]
  refine⟨_,ae,_,ae,a,_,1,_,ae,ae,.inl L0.a,ae,.ref a,.ref ak,π,π.keys,ae,D,L0.dk,(λy hy=>Ve Z hy),by lia,λq H1 S1 gq=>?_⟩;dsimp only[QD,JF,JK,Q6];refine vq λRR Oa=>?_;have GS:=S1 _ _ gr;have Ob:=tr.same S1;refine zp (fv:=[.ref q]) (zJ (K:=K) (a:=R) (xs:=xr)) (λi vs H2=>H2=H1/\∃ns:List Int,vs=ns.map V.int/\GR π (rows.take i) ns/\ns.length<=10*i) (λRr h=>⟨_,ae,R,ae,⟨_,.inl (.inl GS)⟩,h H1 ⟨ae,[],ae,⟨λn hn=>(nomatch hn),λr hr=>(nomatch hr)⟩,by simp⟩⟩) rfl ?_ ?_ ?_
  ·rintro i vs H2 hi ⟨rfl,_⟩;exact .inl (.inl GS)
  ·rintro i v vs H2 H3 hi ⟨rfl,ns,rfl,PL,uu⟩ ⟨rfl,hv⟩;obtain⟨r,d8,Dr⟩:=zr Ob hv;obtain⟨ra,rx,rfl,rl,uv⟩:=ag.Za Dr;have Yr:=Y r (nF d8);refine⟨Wk.same _ (Wk.ah _ (Wk.refl _)),_,ae,q,ae,⟨_,.inl (.inl gq)⟩,?_⟩;refine x9 (kz (K:=K) (a:=q) (xs:=(aA π).map λi=>V.int (i:Nat))) (λj cr H4=>H4=H3/\∃ns:List Int,cr=ns.map V.int/\GR π (rows.take i) ns/\(∀x∈(aA π).take j,∀u o,r.getD x (.txt "")=.au u o->o∈ns)/\ns.length<=10*i+j) ⟨ae,ns,ae,PL,λx hx=>(nomatch hx),uu⟩ ?_ ?_ ?_
   ·rintro j cr H4 hj ⟨rfl,uw,rfl,_,_,h2⟩;rw[m7]at hj ⊢;exact⟨.inl (.inl gq),by lia⟩
   ·rintro j x2 cr H4 H5 hj ⟨rfl,uw,rfl,rn,h3,h4⟩ ⟨rfl,hx⟩;rw[m7]at hj;rw[nE,List.getElem?_eq_getElem hj]at hx;obtain rfl:=nh hx;obtain⟨c1,Op⟩:=XG Z Yr (List.getElem?_eq_getElem hj);obtain⟨w1,fK,d7⟩:=uv.get (i:=(aA π)[j]) (d:=(r.getD (aA π)[j] (.txt "")).dv) (by rw[nE,c1];rfl);have ix:(aA π).take (j+1)=(aA π).take j++[(aA π)[j]]:=by rw[List.take_add_one,List.getElem?_eq_getElem hj];rfl
    refine⟨Wk.same _ (Wk.same _ (Wk.ah _ (Wk.refl _))),?_⟩;refine⟨_,ae,_,ae,ra,rx,_,_,ae,ae,.inl rl,QZ fK,w1,_,ae,d7,_,ae,?_⟩;cases ec:r.getD (aA π)[j] (.txt "")with
    |txt x=>
     refine WF ⟨ae,uw,ae,rn,λx hx u o e=>?_,by lia⟩;rw[ix]at hx;rcases List.mem_append.mp hx with z|z
     ·exact h3 x z u o e
     ·rw[List.mem_singleton.mp z,ec]at e;cases e
    |au u o=>
     rw[ec]at d7 Op;obtain⟨b,rfl,gb⟩:=X3 d7;obtain⟨o1,o2,_⟩:=Op;refine zX ⟨_,ae,_,ae,ra,rx,_,_,ae,ae,.inl rl,QZ fK,b,_,1,_,ae,ae,.inl gb,ae,ae,uw++[o],by simp,⟨λn hn=>?_,λr' bf i' cz u' o' e'=>ny _ (rn.all r' bf i' cz u' o' e')⟩,λx hx u' o' e'=>?_,by simp;lia⟩
     ·rcases List.mem_append.mp hn with z|z
      ·exact rn.lo n z
      ·rw[List.mem_singleton.mp z];exact⟨o1,o2⟩
     ·rw[ix]at hx;rcases List.mem_append.mp hx with z|z
      ·exact ny _ (h3 x z u' o' e')
      ·rw[List.mem_singleton.mp z,ec]at e';cases e';exact nu _ nA
   ·rintro cr H4 ⟨rfl,uw,rfl,rn,h3,h4⟩;refine⟨ae,uw,ae,⟨rn.lo,λr' bf i' cz u' o' e'=>?_⟩,?_⟩
    ·rw[List.take_add_one,d8]at bf;rcases List.mem_append.mp bf with z|z
     ·exact rn.all r' z i' cz u' o' e'
     ·rw[List.mem_singleton.mp z]at e';exact h3 i' (by rw[List.take_of_length_le (by rw[m7];lia)];exact cz) u' o' e'
    ·rw[m7]at h4;lia
  ·rintro vs H2 ⟨rfl,ns,rfl,PL,uu⟩ p hp;have Sp:=Qi.new (o:=.lst (ns.map V.int)) hp;refine Oa p ns _ (.inl (.inl Qb)) λpl Ix=>?_;rw[List.take_of_length_le (by lia)]at PL;have hb:0<=pl/\pl<=2/\∀r∈rows,∀i∈aA π,∀u o,r.getD i (.txt "")=.au u o->o<=pl:=by
    rcases Ix with⟨rfl,rfl⟩|⟨h1,h2⟩
    ·exact⟨by lia,by lia,λr hr i hi u o e=>nomatch PL.all r hr i hi u o e⟩
    ·exact⟨(PL.lo pl h1).1,(PL.lo pl h1).2,λr hr i hi u o e=>h2 o (PL.all r hr i hi u o e)⟩
   obtain⟨p0,p2,pa⟩:=hb;refine jy (n9 ?_);have S2:=S1.trans Sp;have g2:=Sp _ _ gq;generalize upd H2 p (.lst (ns.map V.int))=H3 at Sp S2 g2;refine⟨_,ae,R,xr,[.int pl,.ref q],ae,.inl (.inl (.inl (S2 _ _ gr))),by lia,ae,T.same S2,λc' H4 hc T4 B4=>?_⟩;have GU:bq P2 H H4:=(bq.of S2).trans B4;have kp:=GU.Jr T;have gR4:=kp _ _ gr;have GV:=tr.keep kp;have GW:H4 q=some (.lst ((Qt π.cols π.keys).map λi=>V.int (i:Nat))):=B4 _ _ g2 λe=>by
    obtain⟨ps,h1,_⟩:=T.same S2;rw[e,h1]at g2;cases g2
   refine⟨λi kv H5=>Qi H4 H5/\∀j v,kv[j]? =some v->∃l xs,v=.ref l/\H5 l=some (.lst xs)/\af H5 xs ((aK pl π (rows.getD j [])).map Rk.dv),⟨Qi.refl _,λj v e=>nomatch e⟩,?_,?_⟩
   ·rintro i kv H5 v hv bI ⟨S5,pw⟩;refine⟨S5 _ _ hc,?_⟩;obtain⟨r,d8,Dr⟩:=zr GV hv;obtain⟨ra,rx,rfl,rl,uv⟩:=ag.Za Dr;have Yr:=Y r (nF d8);have er:rows.getD i []=r:=by rw[List.getD_eq_getElem?_getD,d8];rfl
    refine QQ (fv:=[.int pl,.ref ra]) (kz (K:=K) (a:=q) (xs:=(aA π).map λi=>V.int (i:Nat))) ((aK pl π r).map Rk.dv) (by unfold aK;simp) (λRr h=>⟨_,ae,q,ae,⟨_,.inl (.inl (S5 _ _ GW))⟩,h H5 (Qi.refl _)⟩) rfl (λH6 S6=>.inl (.inl ((S5.trans S6) _ _ GW))) ?_ ?_ (by rw[m7];lia)
    ·rintro j x H6 H7 d Rr hd S6 ⟨rfl,hx⟩ kk;have hj:j<(aA π).length:=by
      have:=List.getElem?_eq_some_iff.mp hx;obtain⟨z,_⟩:=this;simpa using z
     rw[nE,List.getElem?_eq_getElem hj]at hx;obtain rfl:=nh hx;unfold aK at hd;rw[nK,nE,List.getElem?_eq_getElem hj]at hd;obtain rfl:=nh hd;obtain⟨c1,Op⟩:=XG Z Yr (List.getElem?_eq_getElem hj);obtain⟨w1,fK,d7⟩:=uv.get (i:=(aA π)[j]) (d:=(r.getD (aA π)[j] (.txt "")).dv) (by rw[nE,c1];rfl);have GX:=S5.trans S6;refine⟨ae,_,ae,_,ae,ra,rx,_,_,ae,ae,.inl (GX _ _ rl),QZ fK,_,ae,w1,_,pl,ae,d7.same GX,Op,λu o e=>pa r (nF d8) _ (List.getElem_mem hj) u o e,p0,by lia,λu H8 S8 D8=>kk u H8 S8 D8⟩
    ·rintro xs H6 p6 S6 t6 rp;have S7:=Qi.new (o:=.lst xs) rp;refine⟨(S5.trans S6).trans S7,λj v e=>?_⟩
     by_cases hj:j<kv.length
     ·rw[List.getElem?_append_left hj]at e;obtain⟨l,ys,h1,h2,h3⟩:=pw j v e;exact⟨l,ys,h1,(S6.trans S7) _ _ h2,h3.same (S6.trans S7)⟩
     ·rw[List.getElem?_append_right (by lia)]at e;have ej:j=kv.length:=by
       have:=(List.getElem?_eq_some_iff.mp e).1;simp at this;lia
      subst ej;rw[Nat.sub_self]at e;obtain rfl:=nh e;refine⟨p6,xs,ae,Qb,?_⟩;rw[bI,er];exact t6.same S7
   ·rintro kv H5 bI ⟨S5,pw⟩;refine⟨Yu λi=>aK pl π (rows.getD i []),λ_=>Uk _,λ_=>⟨λi=>(aK pl π (rows.getD i [])).map Rk.dv,λi v e=>?_,λi j _ _=>⟨by unfold aK;simp,Wu _ _⟩,λi j=>(Wt _ _).symm⟩,λps hs p5 D6=>?_⟩
    ·obtain⟨l,xs,h1,h2,h3⟩:=pw i v e;exact⟨l,xs,h1,h2,h3,Uj _⟩
    ·have S6:=Qi.new (o:=.lst (ps.map λi=>xr.getD i .ah)) D6;have elt:(Yu λi=>aK pl π (rows.getD i []))=Yu λi=>aK 9 π (rows.getD i []):=by
      funext i j
      have hh:∀i,∀x∈aA π,∀u o,(rows.getD i []).getD x (.txt "")=.au u o->o<=pl:=λi x hx u o e=>by
       by_cases hi:i<rows.length
       ·have e2:rows.getD i []=rows[i]:=by rw[List.getD_eq_getElem?_getD,List.getElem?_eq_getElem hi];rfl
        rw[e2]at e;exact pa _ (List.getElem_mem hi) x hx u o e
       ·have e2:rows.getD i []=[]:=by rw[List.getD_eq_getElem?_getD,List.getElem?_eq_none (by lia)];rfl
        rw[e2]at e;cases e
      exact(kP (by lia) (aA π) _ _ (hh i) (hh j)).symm
     rw[lx,elt]at hs;refine⟨p5,_,ae,.inl ⟨.inl (.inl Qb),λl hl=>?_⟩⟩;have S7:=Qi.new (o:=.tup (ps.map λi=>xr.getD i .ah)) hl;have B7:bq P2 H4 (upd (upd H5 p5 (.lst (ps.map λi=>xr.getD i .ah))) l (.tup (ps.map λi=>xr.getD i .ah))):=bq.of ((S5.trans S6).trans S7);refine k _ _ ps (GU.trans B7) (T4.same ((S5.trans S6).trans S7)) hs (.tup Qb ?_);rw[nK];exact KO (GV.same ((S5.trans S6).trans S7)) ps hs.lt
end
end Lw
namespace L2
open PySem PySem.Spec PyProof.Rows
theorem Zx{X:Cx}{K0:Frag}(hK:X.K=K0):Xu X (.type "tuple") (λxs H Q=>∃p ys,xs=[.ref p]/\((aJ K0 H p ys/\∀l,H l=none->Q (.ref l) (upd H l (.tup ys)))\/(aN K0 H p ys/\Q (.ref p) H))):=hK▸Qo
end L2
namespace Lw
open PySem PySem.Spec PyProof.Rows L2 dZ
open Builtin Builtin.Str StrLaws
noncomputable def Line(d:Dv):Prop:=∃x ds,d=.tup (.str x::ds)/\(x="foot"->∃y es,ds=.str y::es)
theorem Us(r:List Cell):Line (xB r):=⟨"row",_,ae,λe=>absurd e (by decide)⟩
theorem ka(l:List (Int × Int)):Line (yp l):=⟨"final",_,ae,λe=>absurd e (by decide)⟩
theorem VF{π:Plan}{r:List Cell}{s:List (List (Int × Int))}{n:Nat}:∀d∈Jv π r s n,Line d:=λd hd=>by
 unfold Jv at hd;obtain⟨i,_,rfl⟩:=List.mem_map.mp hd;exact⟨"foot",_,ae,λ_=>⟨_,_,ae⟩⟩
theorem zt{π:Plan}:∀(rows:List (List Cell))(p:Option (List Cell))(s:List (List (Int × Int))),∀d∈prog π rows p s,Line d:=by
 intro rows
 induction rows with
 |nil=>
  intro p s d hd;cases p with
  |none=>cases hd
  |some p=>exact VF d hd
 |cons r rs ih=>
  intro p s d hd;cases p with
  |none=>
   rw[prog]at hd;rcases List.mem_cons.mp hd with rfl|hd
   ·exact Us r
   ·exact ih _ _ d hd
  |some p=>
   rw[prog]at hd;rcases List.mem_append.mp hd with hd|hd
   ·exact VF d hd
   ·rcases List.mem_cons.mp hd with rfl|hd
    ·exact Us r
    ·exact ih _ _ d hd
theorem kc{π:Plan}{rows:List (List Cell)}:∀d∈Z6 π rows,Line d:=λd hd=>by
 unfold Z6 at hd;rcases List.mem_append.mp hd with hd|hd
 ·exact zt _ _ _ d hd
 ·rw[List.mem_singleton.mp hd];exact ka _
section
variable {P:Program}{w:World}{K:Frag}{mg:Str->Option Value}{base:Heap}{f:Addr}{fd:FuncData}{tk:Nat->Tok}
theorem vt{r:List V->Hp->VK->Prop}{te GY:TE}{σ:L2.St}{H:Hp}{Q:VK}(h:te σ H λv H1=>r [v] H1 λx H2=>GY σ H2 λy H3=>([x,y]:List V).length<=sizeLine/\∀l,H3 l=none->Q (.ref l) (upd H3 l (.tup [x,y]))):vT (JG (iT r (JG te YL)) (JG GY YL)) σ H Q:=h
theorem Oc{x:V}{ys:List V}:bW (x::ys) 0=some x:=QZ (j:=0) rfl
theorem Od{x y:V}{ys:List V}:bW (x::y::ys) 1=some y:=QZ (j:=1) rfl
theorem zu{w y:Str}{es:List Dv}:Zi w (.tup (.str "foot":: .str y::es))=(y==w):=by
 show(("foot":Str)==("foot":Str)&&y==w)=_;rw[beq_self_eq_true,Bool.true_and]
noncomputable def rA(π:Plan)(k:Nat)(e:List Cell × List (Int × Int)):Dv:=.tup [.tup ((kind π k e.1).map Rk.dv),JU e.2]
noncomputable def Xd:Sp:=λvs H Q _=>∃(v rv:V)(π:Plan)(rows:List (List Cell))(k:Nat),vs=[v,rv,.str (π.keys.getD k "")]/\ag H v (ZH π)/\ao π/\π.keys.Nodup/\k<π.keys.length/\π.keys.length<=10/\ag H rv (Zr rows)/\(∀r∈rows,aq π r)/\rows.length<=20/\
 ∀q H' xs,Qi H H'->H' q=some (.lst xs)->af H' xs ((aM π k rows none (zeros π)).map (rA π k))->Q (.ref q) H'
theorem VG(F:aQ K "_law_feet" "_law_feet" ZG f fd)(O:Own mg)(OT:mg "tuple"=none)(gh:Def P w K mg base 7 "breaks" ["plan","rows"] JW)(gg:Def P w K mg base 1 "_law_rank" ["_law_part"] Ki):
  aw P w K mg base (aE P w) 8 f fd ["_law_plan","_law_rows","_law_word_so"] Xd:=by
 refine okN F Xp (λvs H Q E h=>?_) (λbv A outer s H vs Q E hr h=>?_)
 ·obtain⟨v,rv,π,rows,k,rfl,_⟩:=h;rfl
 ·obtain⟨v,rv,π,rows,kk,rfl,D,Z,nd,GZ,oh,DR,Y,hl,k⟩:=h;have hz:1000<=sizeLine:=by decide
  refine⟨_,(Qe (X5 (NB:=[".0","_law_line"]) (FR:=["_law_word_so"]) (fi:=[2]) (iy:=3) ae ⟨ae,by decide+kernel,by decide+kernel,by decide+kernel,by decide+kernel,by decide+kernel⟩ ae ae (ZJ (gh.pe hr (by decide) ae Qm (Qa (pv 0) (Qa (pv 1) Qc)))) (λ_ _ _=>(Qg (i:=1) (show([".0","_law_line","_law_word_so"]:List Str).Nodup by decide+kernel) ae (Or.inl ae))) (λ_ _ _=>(K5 (PW.pt (qt (Ji zQ (Qv Qj (pv 1) Qf (λ_ _=>rfl)) QO (Jm _)) (VO (Ji zQ (Qv Qj (pv 1) Qf (λ_ _=>rfl)) (pv 2) (Jm _))))))) (λ_ _ _=>(pv 1)) Xp.nd ae (Or.inl ae) ae)
   (Qk (Qy (JH (NB:=[".0","_law_line"]) ae ⟨ae,by decide+kernel,by decide+kernel,by decide+kernel⟩ (JP (pv 3)) (λ_ _ _=>(Qg (i:=1) (show([".0","_law_line"]:List Str).Nodup by decide+kernel) ae (Or.inl ae))) (λ_ _ _=>QU) (λ_ _ _=>(QV (Qa (Qu (Zx (K0:=K) ae) ae OT boot_tuple (Qa (JH (NB:=[".0","_law_part"]) ae ⟨ae,by decide+kernel,by decide+kernel,by decide+kernel⟩ (zq (K0:=K) ae (Qv Qj (pv 1) Qf (λ_ _=>rfl))) (λ_ _ _=>(Qg (i:=1) (show([".0","_law_part"]:List Str).Nodup by decide+kernel) ae (Or.inl ae))) (λ_ _ _=>QU) (λ_ _ _=>(gg.pe hr (by decide) ae Qm (Qa (pv 1) Qc)))) Qc)) (Qa (Qv Qj (pv 1) Qf (λ_ _=>rfl)) Qc)))))))),?_⟩
  dsimp only[QD,JF,JK];refine JE ?_;refine⟨_,ae,_,ae,v,rv,π,rows,ae,D,Z,oh,DR,Y,hl,λu H1 S1 D1=>?_⟩;obtain⟨lp,lx,rfl,gl,tl⟩:=ag.Za D1;have ll:lx.length<=300:=by
   rw[tl.length];unfold Z6;have:=XD π rows none (Jq π);have e:rows.length*(π.keys.length+1)<=20*11:=Nat.mul_le_mul hl (by lia);rw[m5,ni];lia
  refine⟨lp,ae,⟨_,.inl (.inl gl)⟩,?_⟩;refine W7 (fv:=[.str (π.keys.getD kk "")]) (zJ (K:=K) (a:=lp) (xs:=lx)) (λi vs H2=>H2=H1/\af H1 vs (((Z6 π rows).take i).filter (Zi (π.keys.getD kk "")))) (λR h=>h H1 ⟨ae,.nil⟩) rfl ?_ ?_ ?_ (by lia)
  ·rintro i vs H2 hi ⟨rfl,t⟩;refine⟨.inl (.inl gl),?_⟩;rw[t.length];have:=List.length_filter_le (Zi (π.keys.getD kk "")) ((Z6 π rows).take i);rw[nB]at this;lia
  ·rintro i x vs H2 H3 hi ⟨rfl,t⟩ ⟨rfl,hx⟩;obtain⟨d,hd,Dd⟩:=tl.J7 hx;have et:(Z6 π rows).take (i+1)=(Z6 π rows).take i++[d]:=by rw[List.take_add_one,hd];rfl
   obtain⟨wd,ds,rfl,hf⟩:=kc d (nF hd);obtain⟨dp,dx,rfl,gd,td⟩:=ag.Za Dd;cases td with
   |cons h1 t1=>
   rename_i y0 ys;obtain rfl:=h1.Aa;refine⟨ae,_,ae,dp,_,0,.str wd,ae,ae,.inl gd,Oc,ae,_,ae,?_⟩
   by_cases ew:wd="foot"
   ·subst ew;obtain⟨y,es,rfl⟩:=hf rfl;cases t1 with
    |cons h2 t2=>
    rename_i y1 G0;obtain rfl:=h2.Aa;refine zX ⟨_,ae,dp,_,1,.str y,ae,ae,.inl gd,Od,_,ae,ae,_,ae,?_⟩
    by_cases ey:y=π.keys.getD kk ""
    ·rw[m9 (by rw[ey])];refine zX ⟨_,ae,ae,?_⟩;rw[et,List.filter_append,List.filter_cons,if_pos (by rw[zu,ey];exact beq_self_eq_true _)];exact t.append (.cons Dd .nil)
    ·rw[m8 (λe=>ey (by injection e))];refine WF ⟨ae,?_⟩;rw[et,List.filter_append,List.filter_cons,if_neg (by rw[zu];exact λz=>ey (eq_of_beq z))];simpa using t
   ·rw[m8 (λe=>ew (by injection e))];refine WF (WF ⟨ae,?_⟩);rw[et,List.filter_append,List.filter_cons,if_neg ?_]
    ·simpa using t
    ·cases ds with
     |nil=>simp[Zi]
     |cons e0 es=>cases e0<;>simp[Zi,ew]
  ·rintro vs H2 ⟨rfl,t⟩ p hp;rw[List.take_of_length_le (by rw[tl.length];lia),jO nd GZ rows]at t;have Sp:=Qi.new (o:=.lst vs) hp;have lg:vs.length=(aM π kk rows none (zeros π)).length:=by rw[t.length,m7]
   have lv:vs.length<=300:=by
    rw[t.length, ←jO nd GZ rows];exact Nat.le_trans (List.length_filter_le _ _) (by rw[←tl.length];exact ll)
   refine jz ?_;refine Zf (kz (K:=K) (a:=p) (xs:=vs)) ((aM π kk rows none (zeros π)).map (rA π kk)) (by rw[m7,lg]) (λR h=>⟨_,ae,p,ae,⟨_,.inl (.inl Qb)⟩,h _ (Qi.refl _)⟩) (λH3 S3=>.inl (.inl (S3 _ _ Qb))) ?_ ?_ (by lia)
   ·rintro i x H3 H4 d R hd S3 ⟨rfl,hx⟩ kd;obtain⟨d2,hd2,Dx⟩:=t.J7 hx;rw[nE]at hd hd2;cases eg:(aM π kk rows none (zeros π))[i]? with
    |none=>rw[eg]at hd;cases hd
    |some e=>
    rw[eg]at hd hd2;obtain rfl:=nh hd;obtain rfl:=nh hd2;have Ye:aq π e.1:=by
     rcases(KL Z rows none (zeros π) 0 Y (QA π) (QN π) e (nF eg)).2.2 with z|z
     ·exact Y _ z
     ·cases z
    have dN:=Sp.trans S3;obtain⟨fp,fx,rfl,gf,tf⟩:=ag.Za Dx;cases tf with
    |cons h0 t0=>cases t0 with
    |cons h1 t1=>cases t1 with
    |cons h2 t2=>cases t2 with
    |cons h3 t3=>cases t3 with
    |nil=>
    rename_i w0 w1 w2 w3;obtain⟨vp,vx,rfl,gv,tv⟩:=ag.Za h2;have G1:vx.length=((aA π).take (kk+1)).length:=by rw[tv.length];unfold Vi;rw[nB,nB,m7]
    have fh:(aA π).length=π.keys.length:=by unfold aA Qt;rw[m7]
    have lvk:vx.length<=10:=by rw[G1,nB];lia
    refine vt ?_;refine Zf (zJ (K:=K) (a:=vp) (xs:=vx)) ((kind π kk e.1).map Rk.dv) (by unfold kind aK;rw[m7, ←List.map_take,m7,G1]) (λR h=>⟨_,ae,fp,_,2,_,ae,ae,.inl (dN _ _ gf),ae,vp,ae,⟨_,.inl (.inl (dN _ _ gv))⟩,h H4 (Qi.refl _)⟩) (λH5 S5=>.inl (.inl ((dN.trans S5) _ _ gv))) ?_ ?_ (by lia)
    ·rintro j y H5 H6 d R hd S5 ⟨rfl,hy⟩ D';obtain⟨d3,iC,Dy⟩:=tv.J7 hy;unfold kind aK at hd;unfold Vi at iC;rw[←List.map_take,nK,nE]at hd;rw[←List.map_take,nE]at iC;cases es:((aA π).take (kk+1))[j]? with
     |none=>rw[es]at hd;cases hd
     |some sp=>
     rw[es]at hd;have cm:((Qt π.cols π.keys).take (kk+1))[j]? =some sp:=es;rw[cm]at iC;obtain rfl:=nh hd;obtain rfl:=nh iC;obtain⟨m,hm⟩:=List.getElem?_of_mem (List.mem_of_mem_take (nF es));obtain⟨c1,Op⟩:=XG Z Ye hm;have ec:jD e.1 sp=(e.1.getD sp (.txt "")).dv:=by unfold jD;rw[c1]
     rw[ec]at Dy;exact⟨_,ae,y,_,ae,Dy.same (dN.trans S5),Op,λu H7 S7 D7=>D' u H7 S7 D7⟩
    ·rintro ys H5 p5 S5 t5 D6;have S6:=Qi.new (o:=.lst ys) D6;refine⟨p5,ys,ae,.inl ⟨.inl (.inl Qb),λp6 rp=>?_⟩⟩;have S7:=Qi.new (o:=.tup ys) rp;have Ea:=(S5.trans S6).trans S7;refine⟨_,ae,fp,_,3,_,ae,ae,.inl ((dN.trans Ea) _ _ gf),ae,fe,λp8 cD=>?_⟩;have S8:=Qi.new (o:=.tup [.ref p6,w3]) cD;refine kd _ _ (Ea.trans S8) (.tup Qb (.cons (.tup (S8 _ _ Qb) ((t5.same S6).same (S7.trans S8))) (.cons (h3.same ((dN.trans Ea).trans S8)) .nil)))
   ·rintro xs H3 p3 S3 t3 lH;have S4:=Qi.new (o:=.lst xs) lH;exact k p3 _ xs (((S1.trans Sp).trans S3).trans S4) Qb (t3.same S4)
end
end Lw
namespace L2
open PySem PySem.Spec PyProof.Rows
open Builtin Builtin.Str
noncomputable abbrev J1(h:Heap)(z TI TO:Addr)(f0:Value)(b:Bool):Prop:=h.get? z=some {cls:=.type "zip",dict:=none,data:=.fields #[f0,.bool b,.bool false,.ref TI,.ref TO],slots:= #[]}
noncomputable def Out(f0:Value):Prop:=f0=.none\/∃T:Nat,f0=rawInt T
section
variable {prog:Program}{w:World}{A:Around}{E:Value->Shared->Prop}{s:Shared}{z TI TO i1 i2:Addr}{k n1 n2:Nat}{f1 f2:List Addr}{P1 P2:Nat->Value->Prop}{S1 S2:Nat->Heap->Prop}{a b f0:Value}{fl:Bool}
theorem qg{a:Addr}{Q:Option Obj->Shared->Prop}(ho:s.heap.get? a=none)(h:Q none s):wpAny (model prog w) A (loadIfAlive a) Q E s:=by
 have h':Q (s.heap.get? a) s:=by rw[ho];exact h
 exact λ_ _ _=>h'
theorem Ut{Q:Bool->Shared->Prop}(hz:J1 s.heap z TI TO f0 fl)(ho:Out f0)(h1:Q true s)(h2:∀h',J1 h' z TI TO f0 true->Heap.SameBut z s.heap h'->Q false {s with heap:=h'}):
  wpAny (model prog w) A (Builtin.SmallTypes.ownedTupleIsFree (.ref z)) Q E s:=by
 unfold Builtin.SmallTypes.ownedTupleIsFree;rcases ho with rfl|⟨T,rfl⟩
 ·exact wpAny_bind (wpAny_field hz ae (x:=.none) ae (wpAny_pure h1))
 ·refine wpAny_bind (wpAny_field hz ae (x:=rawInt T) ae ?_);show wpAny _ _ (loadIfAlive ((T:Int).toNat)>>=_) _ _ _;rw[nV];cases e:s.heap.get? T with
  |none=>
   refine wpAny_bind (qg e ?_);exact wpAny_pure h1
  |some o=>
   refine wpAny_bind (kdx_alive e ?_);show wpAny _ _ (field (.ref z) 1>>=_) _ _ _;refine wpAny_bind (wpAny_field hz ae (x:=.bool fl) ae ?_);cases fl with
   |true=>exact wpAny_pure (h2 _ hz (Heap.SameBut.refl _ _))
   |false=>exact wpAny_bind (wpAny_setField_rec hz (by simp) λh' Cc Oe=>wpAny_pure (h2 h' Cc Oe))
theorem zv{Q:Value->Shared->Prop}(D:dX z TI TO i1 i2)(D1:Draws prog w A i1 f1 n1 P1 S1)(C1:Off f1 z TO i2)(D2:Draws prog w A i2 f2 n2 P2 S2)(C2:Off f2 z TO i1)
  (hz:J1 s.heap z TI TO f0 fl) (ho:Out f0) (cQ:IsPair s.heap TI (.ref i1) (.ref i2)) (cy:IsPair s.heap TO a b) (h1:S1 k s.heap) (h2:S2 k s.heap) (hx:k<n1) (hy:k<n2)
  (hQ:∀x y h' tk lI rB,P1 k x->P2 k y->J1 h' z TI TO lI rB->Out lI->(∃a b,IsPair h' TO a b)->S1 (k+1) h'->S2 (k+1) h'->IsPair h' s.heap.objs.size x y->(∀c o,c≠z->c≠TO->c≠i1->c≠i2->s.heap.get? c=some o->h'.get? c=some o)->Q (.ref s.heap.objs.size) {s with heap:=h',toks:=tk}):
  wpAny (model prog w) A (Builtin.«zip.__next__» ⟨[.ref z],[]⟩) (λfin s'=>∃v,fin=.done (.ret v)/\Q v s') E s:=by
 show wpAny _ _ (field (.ref z) 2>>=_) _ _ _;refine wpAny_bind (wpAny_field hz ae (x:=.bool false) ae ?_);show wpAny _ _ (field (.ref z) 3>>=_) _ _ _;refine wpAny_bind (wpAny_field hz ae (x:=.ref TI) ae (wpAny_bind (wpAny_seqItems cQ ae ?_)));show wpAny _ _ (Builtin.SmallTypes.ownedTupleIsFree (.ref z)>>=_) _ _ _;refine wpAny_bind (Ut hz ho ?_ λh₁ Rs lm=>?_)
 ·simp only[if_true];refine wpAny_bind (wpAny_rule (wpAny_bind (wpAny_field hz ae (x:=.ref TO) ae (wpAny_bind (wpAny_setField_rec hz (by simp) λh₁ Rs lm=>?_)))))
  replace Rs:J1 h₁ z TI TO .ellipsis fl:=Rs;refine wpAny_bind ?_
  simp only[List.zipIdx_cons,List.zipIdx_nil,List.forIn_cons,List.forIn_nil];refine wpAny_bind (wpAny_bind (wpAny_onRaise ?_));show wpAny _ _ (Builtin.SmallTypes.nextOf (.ref i1)>>=_) _ _ _;refine wpAny_bind (D1.item k _ _ _ hx (Qx D1 h1 lm.extBut C1.z) λx h₂ nY px i3 li=>wpAny_pure ?_);have GM:IsPair h₂ TO a b:=li.extBut _ _ D.TOi1 (lm.extBut _ _ D.TOz cy);refine wpAny_bind (wpAny_seqItems GM ae (wpAny_bind (wpAny_updateSeq_pair GM λh₃ T0 re=>?_)))
  replace T0:IsPair h₃ TO x b:=T0;refine wpAny_bind (wpAny_letGo (wpAny_pure (wpAny_bind (wpAny_bind (wpAny_onRaise ?_)))))
  show wpAny _ _ (Builtin.SmallTypes.nextOf (.ref i2)>>=_) _ _ _;have e2:S2 k h₃:=Qx D2 (Qx D2 (Qx D2 h2 lm.extBut C2.z) li.extBut C2.i) re.extBut C2.o;refine wpAny_bind (D2.item k _ _ _ hy e2 λy h₄ dI py BQ b0=>wpAny_pure ?_);have eX:IsPair h₄ TO x b:=b0.extBut _ _ D.TOi2 T0;refine wpAny_bind (wpAny_seqItems eX ae (wpAny_bind (wpAny_updateSeq_pair eX λh₅ bF b7=>?_)))
  replace bF:IsPair h₅ TO x y:=bF;refine wpAny_bind (wpAny_letGo (wpAny_pure (wpAny_pure (wpAny_bind (wpAny_seqItems bF ae (wpAny_bind (wpAny_newTuple ?_)))))))
  have se:=lm.1;have LT:=li.1;have i4:=re.1;have BR:=b0.1;have BS:=b7.1;have hsz:h₅.objs.size=s.heap.objs.size:=BS.trans (BR.trans (i4.trans (LT.trans se)));have sf:J1 h₅ z TI TO .ellipsis fl:=b7.extBut _ _ D.TOz.symm (b0.extBut _ _ D.i2z.symm (re.extBut _ _ D.TOz.symm (li.extBut _ _ D.i1z.symm Rs)));have BU:∀c o,c≠z->c≠TO->c≠i1->c≠i2->s.heap.get? c=some o->h₅.get? c=some o:=λc o c1 c2 c3 c4 e=>b7.extBut _ _ c2 (b0.extBut _ _ c4 (re.extBut _ _ c2 (li.extBut _ _ c3 (lm.extBut _ _ c1 e))));have g1:S1 (k+1) h₅:=Qx D1 (Qx D1 (Qx D1 i3 re.extBut C1.o) b0.extBut C1.i) b7.extBut C1.o;have g2:S2 (k+1) h₅:=Qx D2 BQ b7.extBut C2.o;have eY:z<h₅.objs.size:=Heap.lt_size sf;show wpAny _ _ (Builtin.SmallTypes.ownedTupleHandOut (.ref z) (.ref h₅.objs.size)>>=_) _ _ _;refine wpAny_bind ?_;unfold Builtin.SmallTypes.ownedTupleHandOut;have BV:J1 (h₅.push {cls:=.type "tuple",data:=.seq #[x,y]}) z TI TO .ellipsis fl:=Heap.get?_push_of_some _ sf;refine wpAny_bind (wpAny_setField_rec BV (by simp) λh₇ nZ sg=>?_);replace nZ:J1 h₇ z TI TO (rawInt h₅.objs.size) fl:=nZ;refine wpAny_setField_rec nZ (by simp) λh₈ i5 sh=>?_;replace i5:J1 h₈ z TI TO (rawInt h₅.objs.size) false:=i5;have up:∀c o,c≠z->h₅.get? c=some o->h₈.get? c=some o:=λc o c1 e=>sh.extBut _ _ c1 (sg.extBut _ _ c1 (Heap.get?_push_of_some _ e));have si:IsPair h₈ h₅.objs.size x y:=sh.extBut _ _ (Nat.ne_of_gt eY) (sg.extBut _ _ (Nat.ne_of_gt eY) (Heap.get?_push_size _ ae));rw[hsz]at si;refine wpAny_pure ⟨_,ae,?_⟩;show Q (.ref h₅.objs.size) _;rw[hsz];exact hQ x y h₈ _ _ _ px py i5 (.inr ⟨_,ae⟩) ⟨_,_,up _ _ D.TOz bF⟩ (D1.frame _ _ _ g1 λb hb o q=>up _ _ (C1.z b hb) q) (D2.frame _ _ _ g2 λb hb o q=>up _ _ (C2.z b hb) q) si λc o c1 c2 c3 c4 e=>up c o c1 (BU c o c1 c2 c3 c4 e)
 ·simp only[Bool.false_eq_true,if_false];rw[←Array.forIn_toList];simp only[List.forIn_cons,List.forIn_nil];refine wpAny_bind (wpAny_bind (wpAny_bind (wpAny_holding ?_)));show wpAny _ _ (Builtin.SmallTypes.nextOf (.ref i1)>>=_) _ _ _;refine wpAny_bind (D1.item k _ _ _ hx (Qx D1 h1 lm.extBut C1.z) λx h₂ nY px i3 li=>wpAny_pure (wpAny_pure (wpAny_bind (wpAny_bind (wpAny_holding ?_)))));show wpAny _ _ (Builtin.SmallTypes.nextOf (.ref i2)>>=_) _ _ _;have e2:S2 k h₂:=Qx D2 (Qx D2 h2 lm.extBut C2.z) li.extBut C2.i;refine wpAny_bind (D2.item k _ _ _ hy e2 λy h₃ tk3 py Of re=>wpAny_pure (wpAny_pure (wpAny_pure (wpAny_bind (wpAny_newTuple (hsz:=by show 2<=sizeLine;decide) ?_)))));have se:=lm.1;have LT:=li.1;have i4:=re.1;have hsz:h₃.objs.size=s.heap.objs.size:=i4.trans (LT.trans se);have Og:J1 h₃ z TI TO f0 true:=re.extBut _ _ D.i2z.symm (li.extBut _ _ D.i1z.symm Rs);have Oh:∀c o,c≠z->c≠TO->c≠i1->c≠i2->s.heap.get? c=some o->h₃.get? c=some o:=λc o c1 c2 c3 c4 e=>re.extBut _ _ c4 (li.extBut _ _ c3 (lm.extBut _ _ c1 e));have g1:S1 (k+1) h₃:=Qx D1 i3 re.extBut C1.i;have hT:=Heap.get?_push_size h₃ (o:={cls:=.type "tuple",data:=.seq #[x,y]}) rfl;rw[hsz]at hT;refine wpAny_pure ⟨_,ae,?_⟩;show Q (.ref h₃.objs.size) _;rw[hsz];have up:∀c o,h₃.get? c=some o->(h₃.push {cls:=.type "tuple",data:=.seq #[x,y]}).get? c=some o:=λc o e=>Heap.get?_push_of_some _ e;exact hQ x y _ _ _ _ px py (up _ _ Og) ho ⟨a,b,up _ _ (re.extBut _ _ D.TOi2 (li.extBut _ _ D.TOi1 (lm.extBut _ _ D.TOz cy)))⟩ (D1.frame _ _ _ g1 λb hb o q=>up _ _ q) (D2.frame _ _ _ Of λb hb o q=>up _ _ q) hT λc o c1 c2 c3 c4 e=>up c o (Oh c o c1 c2 c3 c4 e)
theorem ke{Q:Fin->Shared->Prop}(D:dX z TI TO i1 i2)(D1:Draws prog w A i1 f1 n1 P1 S1)(C1:Off f1 z TO i2)(D2:Draws prog w A i2 f2 n2 P2 S2)(C2:Off f2 z TO i1)
  (hz:J1 s.heap z TI TO f0 fl) (ho:Out f0) (cQ:IsPair s.heap TI (.ref i1) (.ref i2)) (cy:IsPair s.heap TO a b) (h1:S1 k s.heap) (h2:S2 k s.heap) (hx:k=n1\/(k<n1/\k=n2))
  (hE:∀h' e tk,(∀c o,c≠z->c≠TO->c≠i1->c≠i2->s.heap.get? c=some o->h'.get? c=some o)->(∃o,h'.get? e=some o/\o.cls=.type "StopIteration")->E (.ref e) {s with heap:=h',toks:=tk}):
  wpAny (model prog w) A (Builtin.«zip.__next__» ⟨[.ref z],[]⟩) Q E s:=by
 show wpAny _ _ (field (.ref z) 2>>=_) _ _ _;refine wpAny_bind (wpAny_field hz ae (x:=.bool false) ae ?_);show wpAny _ _ (field (.ref z) 3>>=_) _ _ _;refine wpAny_bind (wpAny_field hz ae (x:=.ref TI) ae (wpAny_bind (wpAny_seqItems cQ ae ?_)));show wpAny _ _ (Builtin.SmallTypes.ownedTupleIsFree (.ref z)>>=_) _ _ _;refine wpAny_bind (Ut hz ho ?_ λh₁ Rs lm=>?_)
 ·simp only[if_true];refine wpAny_bind (wpAny_rule (wpAny_bind (wpAny_field hz ae (x:=.ref TO) ae (wpAny_bind (wpAny_setField_rec hz (by simp) λh₁ Rs lm=>?_)))))
  replace Rs:J1 h₁ z TI TO .ellipsis fl:=Rs;refine wpAny_bind ?_
  simp only[List.zipIdx_cons,List.zipIdx_nil,List.forIn_cons,List.forIn_nil];refine wpAny_bind (wpAny_bind (wpAny_onRaise ?_));show wpAny _ _ (Builtin.SmallTypes.nextOf (.ref i1)>>=_) _ _ _;rcases hx with e|⟨hx,e⟩
  ·refine wpAny_bind (D1.done _ _ _ (by rw[←e];exact Qx D1 h1 lm.extBut C1.z) λh₂ e li he=>?_);obtain⟨oe,cR,FB⟩:=he;have sj:J1 h₂ z TI TO .ellipsis fl:=li _ _ D.i1z.symm Rs;have n6:e≠z:=λx=>by subst x;rw[sj]at cR;cases cR;simp at FB
   exact wpAny_setField_rec sj (by simp) λh₃ _ re=>hE h₃ e _ (λc o c1 _ c3 _ x=>re.extBut _ _ c1 (li _ _ c3 (lm.extBut _ _ c1 x))) ⟨oe,re.extBut _ _ n6 cR,FB⟩
  ·refine wpAny_bind (D1.item k _ _ _ hx (Qx D1 h1 lm.extBut C1.z) λx h₂ nY px i3 li=>wpAny_pure ?_);have GM:IsPair h₂ TO a b:=li.extBut _ _ D.TOi1 (lm.extBut _ _ D.TOz cy);refine wpAny_bind (wpAny_seqItems GM ae (wpAny_bind (wpAny_updateSeq_pair GM λh₃ T0 re=>wpAny_bind (wpAny_letGo (wpAny_pure (wpAny_bind (wpAny_bind (wpAny_onRaise ?_))))))));show wpAny _ _ (Builtin.SmallTypes.nextOf (.ref i2)>>=_) _ _ _;have e2:S2 k h₃:=Qx D2 (Qx D2 (Qx D2 h2 lm.extBut C2.z) li.extBut C2.i) re.extBut C2.o;refine wpAny_bind (D2.done _ _ _ (by rw[←e];exact e2) λh₄ e b0 he=>?_);obtain⟨oe,cR,FB⟩:=he;have so:J1 h₄ z TI TO .ellipsis fl:=b0 _ _ D.i2z.symm (re.extBut _ _ D.TOz.symm (li.extBut _ _ D.i1z.symm Rs));have n6:e≠z:=λx=>by subst x;rw[so]at cR;cases cR;simp at FB
   exact wpAny_setField_rec so (by simp) λh₅ _ b7=>hE h₅ e _ (λc o c1 c2 c3 c4 x=>b7.extBut _ _ c1 (b0 _ _ c4 (re.extBut _ _ c2 (li.extBut _ _ c3 (lm.extBut _ _ c1 x))))) ⟨oe,b7.extBut _ _ n6 cR,FB⟩
 ·simp only[Bool.false_eq_true,if_false];rw[←Array.forIn_toList];simp only[List.forIn_cons,List.forIn_nil];refine wpAny_bind (wpAny_bind (wpAny_bind (wpAny_holding ?_)));show wpAny _ _ (Builtin.SmallTypes.nextOf (.ref i1)>>=_) _ _ _;rcases hx with e|⟨hx,e⟩
  ·exact wpAny_bind (D1.done _ _ _ (by rw[←e];exact Qx D1 h1 lm.extBut C1.z) λh₂ e li he=>hE h₂ e _ (λc o c1 _ c3 _ x=>li _ _ c3 (lm.extBut _ _ c1 x)) he)
  ·refine wpAny_bind (D1.item k _ _ _ hx (Qx D1 h1 lm.extBut C1.z) λx h₂ nY px i3 li=>wpAny_pure (wpAny_pure (wpAny_bind (wpAny_bind (wpAny_holding ?_)))));show wpAny _ _ (Builtin.SmallTypes.nextOf (.ref i2)>>=_) _ _ _;have e2:S2 k h₂:=Qx D2 (Qx D2 h2 lm.extBut C2.z) li.extBut C2.i;exact wpAny_bind (D2.done _ _ _ (by rw[←e];exact e2) λh₃ e re he=>hE h₃ e _ (λc o c1 c2 c3 c4 x=>re _ _ c4 (li.extBut _ _ c3 (lm.extBut _ _ c1 x))) he)
theorem zw{Q:Option Value->Shared->Prop}(D:dX z TI TO i1 i2)(D1:Draws prog w A.in1 i1 f1 n1 P1 S1)(C1:Off f1 z TO i2)(D2:Draws prog w A.in1 i2 f2 n2 P2 S2)(C2:Off f2 z TO i1)
  (hz:J1 s.heap z TI TO f0 fl) (ho:Out f0) (cQ:IsPair s.heap TI (.ref i1) (.ref i2)) (cy:IsPair s.heap TO a b) (h1:S1 k s.heap) (h2:S2 k s.heap) (hx:k<n1) (hy:k<n2)
  (hQ:∀x y h' tk lI rB,P1 k x->P2 k y->J1 h' z TI TO lI rB->Out lI->(∃a b,IsPair h' TO a b)->S1 (k+1) h'->S2 (k+1) h'->IsPair h' s.heap.objs.size x y->(∀c o,c≠z->c≠TO->c≠i1->c≠i2->s.heap.get? c=some o->h'.get? c=some o)->Q (some (.ref s.heap.objs.size)) {s with heap:=h',toks:=tk}):
  wpAny (model prog w) A (pyNext (.ref z)) Q E s:=by
 have hT:s.TypeIs (.ref z) "zip":=⟨_,hz,ae⟩;unfold pyNext;exact wpAny_bind (wpAny_attempt (wpAny_callSpecial?_slot (name:=Str.ofString "__next__") hT F.slot_zip_next (wpAny_call_entry F.slot_zip_next hT F.entry_zip_next (zv D D1 C1 D2 C2 hz ho cQ cy h1 h2 hx hy λx y h' tk lI rB a1 a2 a3 a9 a4 a5 a6 a7 a8=>wpAny_pure (hQ x y h' tk lI rB a1 a2 a3 a9 a4 a5 a6 a7 a8)) (F.args_zip_next_1 _))))
theorem kf{Q:Option Value->Shared->Prop}(D:dX z TI TO i1 i2)(D1:Draws prog w A.in1 i1 f1 n1 P1 S1)(C1:Off f1 z TO i2)(D2:Draws prog w A.in1 i2 f2 n2 P2 S2)(C2:Off f2 z TO i1)
  (hz:J1 s.heap z TI TO f0 fl) (ho:Out f0) (cQ:IsPair s.heap TI (.ref i1) (.ref i2)) (cy:IsPair s.heap TO a b) (h1:S1 k s.heap) (h2:S2 k s.heap) (hx:k=n1\/(k<n1/\k=n2))
  (hQ:∀h' tk,(∀c o,c≠z->c≠TO->c≠i1->c≠i2->s.heap.get? c=some o->h'.get? c=some o)->Q none {s with heap:=h',toks:=tk}):
  wpAny (model prog w) A (pyNext (.ref z)) Q E s:=by
 have hT:s.TypeIs (.ref z) "zip":=⟨_,hz,ae⟩;unfold pyNext;refine wpAny_bind (wpAny_attempt (wpAny_callSpecial?_slot (name:=Str.ofString "__next__") hT F.slot_zip_next (wpAny_call_entry F.slot_zip_next hT F.entry_zip_next (ke D D1 C1 D2 C2 hz ho cQ cy h1 h2 hx λh' e tk hk he=>?_) (F.args_zip_next_1 _))));obtain⟨o,ho,hc⟩:=he;refine wpAny_bind (wpAny_isInstance (T:="StopIteration") (b:=true) ⟨o,ho,hc⟩ isSubtype_stop ?_);exact wpAny_pure (hQ _ _ hk)
end
noncomputable def Oi(k1 k2:Sk)(z TI TO i1 i2 a1 a2:Addr)(i:Nat)(h:Heap):Prop:=(∃f0 fl,J1 h z TI TO f0 fl/\Out f0)/\IsPair h TI (.ref i1) (.ref i2)/\(∃a b,IsPair h TO a b)/\UN k1 h i1 a1 i/\UN k2 h i2 a2 i
theorem zA{P:Program}{w:World}{K:Frag}{x:Str}{pos:Pos}{z TI TO i1 i2:Addr}(D:dX z TI TO i1 i2)(k1 k2:Sk)(a1 a2:Addr):
  Turn P w K (.Name x pos) (sr k1 k2 a1 a2) [z,TI,TO,i1,i2] z (Oi k1 k2 z TI TO i1 i2 a1 a2) where
 mem:=by simp
 obj:=λi h st b hb=>by
  obtain⟨⟨f0,fl,hz,_⟩,hI,⟨a,c,hO⟩,g1,g2⟩:=st;simp only[List.mem_cons,List.not_mem_nil,or_false]at hb;rcases hb with rfl|rfl|rfl|rfl|rfl
  ·exact⟨_,hz,λv q=>nomatch (show Data.fields _=Data.cell v from q)⟩
  ·exact⟨_,hI,λv q=>nomatch (show Data.seq _ _=Data.cell v from q)⟩
  ·exact⟨_,hO,λv q=>nomatch (show Data.seq _ _=Data.cell v from q)⟩
  ·exact Zv g1
  ·exact Zv g2
 keep:=λi h h' st kk=>by
  obtain⟨⟨f0,fl,hz,ho⟩,hI,⟨a,c,hO⟩,g1,g2⟩:=st;exact⟨⟨f0,fl,kk _ (by simp) _ hz,ho⟩,kk _ (by simp) _ hI,⟨a,c,kk _ (by simp) _ hO⟩,J9 g1 λo=>kk _ (by simp) o,J9 g2 λo=>kk _ (by simp) o⟩
 item:=by
  intro X hP hw hK hc i pins s σ H E I hf st hg;subst hP hw hK;obtain⟨⟨f0,fl,hz,ho⟩,hI,⟨a,c,hO⟩,g1,g2⟩:=st;obtain⟨xs,ys,x,y,b9,bG,hx,hy⟩:=hg;obtain⟨im,iu,o1,_⟩:=I.sk (b9.q (K:=X.K));obtain⟨bn,dn,o2,_⟩:=I.sk (bG.q (K:=X.K));obtain⟨u1,su,BW⟩:=iu.get hx;obtain⟨u2,eZ,rW⟩:=dn.get hy;have l1:i<im.toArray.size:=by rw[nQ];exact(List.getElem?_eq_some_iff.mp su).1
  have l2:i<bn.toArray.size:=by rw[nQ];exact(List.getElem?_eq_some_iff.mp eZ).1
  have Hz:=(hf z (by simp)).1;have HO:=(hf TO (by simp)).1;have H1:=(hf i1 (by simp)).1;have H2:=(hf i2 (by simp)).1;have D1:=Kp (prog:=X.prog) (w:=X.w) (A:=X.A.in1) k1 (I.ok.hd hc) i1 a1 (Kq g1 o1) im.toArray;have D2:=Kp (prog:=X.prog) (w:=X.w) (A:=X.A.in1) k2 (I.ok.hd hc) i2 a2 (Kq g2 o2) bn.toArray;refine zw D D1 (Xo (TI:=TI) b9.some Hz HO H2 D.i1z D.TOi1.symm D.i12) D2 (Xo (TI:=TI) bG.some Hz HO H1 D.i2z D.TOi2.symm D.i12.symm) hz ho hI hO ⟨g1,o1⟩ ⟨g2,o2⟩ l1 l2 λv1 v2 h1 tk lI rB p1 p2 n8 BP BX q1 q2 hT hk=>⟨_,ae,wpAny_pure ?_⟩;obtain rfl:v1=u1:=nh (p1.symm.trans (by simpa using su));obtain rfl:v2=u2:=nh (p2.symm.trans (by simpa using eZ));have bi:∀b∈[z,TI,TO,i1,i2],b<s.heap.objs.size:=λb hb=>by
   simp only[List.mem_cons,List.not_mem_nil,or_false]at hb;rcases hb with rfl|rfl|rfl|rfl|rfl
   ·exact Heap.lt_size hz
   ·exact Heap.lt_size hI
   ·exact Heap.lt_size hO
   ·obtain⟨o,g,_⟩:=Zv g1;exact Heap.lt_size g
   ·obtain⟨o,g,_⟩:=Zv g2;exact Heap.lt_size g
  refine⟨.ref s.heap.objs.size,upd H s.heap.objs.size (.tup [x,y]),I.V4 (ch:=[z,TI,TO,i1,i2]) hf (λb o hb q=>?_) (ng _) ?_,ae,⟨_,I.aj.fresh (ng _),ae,λBY fJ e1 e2=>⟨x,y,by rw[I.W5 (e1.q (K:=X.K)) b9.q];exact hx,by rw[I.W5 (e2.q (K:=X.K)) bG.q];exact hy,ae⟩⟩,⟨⟨_,_,n8,BP⟩,hk _ _ D.TIz D.TITO D.TIi1 D.TIi2 hI,BX,q1.1,q2.1⟩,λb hb=>?_⟩
  ·simp only[List.mem_cons,List.not_mem_nil,or_false,not_or]at hb;exact hk b o hb.1 hb.2.2.1 hb.2.2.2.1 hb.2.2.2.2 q
  ·exact⟨by show 2<=sizeLine;decide,[v1,v2],.cons BW (.cons rW .nil),⟨_,hT,ae,_,ae,ae⟩⟩
  ·rw[Qh (Nat.ne_of_lt (bi b hb))];exact(hf b hb).1
 done:=by
  intro X hP hw hK hc i pins s σ H E I hf st hg;subst hP hw hK;obtain⟨⟨f0,fl,hz,ho⟩,hI,⟨a,c,hO⟩,g1,g2⟩:=st;obtain⟨xs,ys,b9,bG,hi⟩:=hg;obtain⟨im,iu,o1,_⟩:=I.sk (b9.q (K:=X.K));obtain⟨bn,dn,o2,_⟩:=I.sk (bG.q (K:=X.K));have e1:=iu.length;have e2:=dn.length;have Hz:=(hf z (by simp)).1;have HO:=(hf TO (by simp)).1;have H1:=(hf i1 (by simp)).1;have H2:=(hf i2 (by simp)).1;have D1:=Kp (prog:=X.prog) (w:=X.w) (A:=X.A.in1) k1 (I.ok.hd hc) i1 a1 (Kq g1 o1) im.toArray;have D2:=Kp (prog:=X.prog) (w:=X.w) (A:=X.A.in1) k2 (I.ok.hd hc) i2 a2 (Kq g2 o2) bn.toArray;refine kf D D1 (Xo (TI:=TI) b9.some Hz HO H2 D.i1z D.TOi1.symm D.i12) D2 (Xo (TI:=TI) bG.some Hz HO H1 D.i2z D.TOi2.symm D.i12.symm) hz ho hI hO (k:=i) ⟨g1,o1⟩ ⟨g2,o2⟩ (by rw[nQ,nQ];lia) λh' tk hk=>⟨ae,I.V3 (ch:=[z,TI,TO,i1,i2]) hf λb o hb q=>?_⟩;simp only[List.mem_cons,List.not_mem_nil,or_false,not_or]at hb;exact hk b o hb.1 hb.2.2.1 hb.2.2.2.1 hb.2.2.2.2 q
 self:=λA i s Q E st h=>by
  obtain⟨⟨f0,fl,hz,_⟩,_⟩:=st;have tz:s.TypeIs (.ref z) "zip":=⟨_,hz,ae⟩;exact wpAny_pyIter_slot tz F.slot_zip_iter (wpAny_call_entry F.slot_zip_iter tz F.entry_zip_iter (show wpAny _ _ (ret (.ref z)) _ _ s from wpAny_pure ⟨_,ae,"zip",_,tz,F.slot_zip_next.lookup,h⟩) (F.args_zip_iter_1 _))
section
variable {X:Cx}
theorem zB(k1 k2:Sk){x:Str}{tp:Pos}{a b:Expr}{ta:TA}{p pos:Pos}(hg:Gl X "zip")(hm:X.mg "zip"=none)(ha:PA X [a,b] ta)(hs:starEach [a,b] X.env=[(false,eval a X.env),(false,eval b X.env)]:=by rfl)(LT:starEach [b] X.env=[(false,eval b X.env)]:=by rfl):
  PI X (.Name x tp) (.Call (.Name "zip" p) [a,b] [] pos) (yh k1 k2 ta):=by
 intro pins s σ H R I h;refine Call_ (JL I hg hm boot_zip (PyProof.Rows.callWith_type1 (ax (ha pos pins s σ H _ I h) λus s1⟨vs,H1,I1,r1,a1,a2,e,⟨xs,b9⟩,⟨ys,bG⟩,q⟩=>?_) (by rw[hs,LT]) (by rw[LT];rfl)));subst e;obtain⟨v,w,rfl,rfl,rfl⟩:=vals2 r1;obtain⟨im,iu,o1,_⟩:=I1.sk (b9.q (K:=X.K));obtain⟨bn,dn,o2,_⟩:=I1.sk (bG.q (K:=X.K));refine W6 o1 o2 λh1 z TI TO i1 i2 D st nw hk=>?_;refine wpAny_pyIter_zip (s:={s1 with heap:=h1}) st.1 ?_;exact⟨_,[z,TI,TO,i1,i2],_,_,H1,ae,I1.kept (t':=s1.toks) hk,zA D k1 k2 a1 a2,⟨⟨_,_,st.1,.inl rfl⟩,st.2⟩,λb hb=>I1.zM (nw b hb) (I1.aj.fresh (nw b hb)),q⟩
end
end L2
namespace Lw
open PySem PySem.Spec PyProof.Rows L2 dZ
open Builtin Builtin.Str StrLaws
noncomputable def toD(r:List Rk):Dv:=.tup (r.map Rk.dv)
theorem ZV{n:Nat}:∀{ds:List Dv},(∀d∈ds,d.depth<=n)->Dv.Qs ds<=n
 |[],_=>by unfold Dv.Qs;lia
 |d::ds,h=>by
  have h1:=h d nA;have h2:=ZV (ds:=ds) λx hx=>h x (nz _ hx);unfold Dv.Qs;lia
theorem Kj{n:Nat}{ds:List Dv}(h:∀d∈ds,d.depth<=n):(Dv.tup ds).depth<=n+1:=by
 have:=ZV h;unfold Dv.depth;lia
theorem ZW(r:List Rk):(toD r).depth<=2:=Kj λd hd=>by
 obtain⟨x,_,rfl⟩:=List.mem_map.mp hd;cases x<;>simp[Rk.dv,Dv.depth,Dv.Qs]
theorem KP(L:List (List Rk)):Dv.Qs (L.map toD)<=8:=ZV λd hd=>by
 obtain⟨x,_,rfl⟩:=List.mem_map.mp hd;have:=ZW x;lia
theorem kZ(r:List Rk):(toD r).hk=true:=by
 unfold toD;rw[Dv.hk]
 induction r with
 |nil=>rfl
 |cons x xs ih=>
  rw[nM,Dv.iJ,ih];cases x<;>simp[Rk.dv,Dv.hk,Dv.iJ]
theorem vw{a b:List Rk}(h:toD a=toD b):a=b:=by
 have:=Yt a b;rw[Dv.tup.inj h,Dv.J8]at this;exact of_decide_eq_true this.symm
theorem Uu(L:List (List Rk)):∀(es:List Dv),(∀d∈es,d∈L.map toD)->∃M:List (List Rk),es=M.map toD
 |[],_=>⟨[],ae⟩
 |d::es,h=>by
  obtain⟨M,rfl⟩:=Uu L es λx hx=>h x (nz _ hx);obtain⟨r,_,rfl⟩:=List.mem_map.mp (h d nA);exact⟨r::M,ae⟩
theorem zC{r:List Rk}{M:List (List Rk)}(h:toD r∈M.map toD):r∈M:=by
 obtain⟨x,hx,e⟩:=List.mem_map.mp h;rw[←vw e];exact hx
theorem vz{H:Hp}{xs:List V}{π:Plan}{k:Nat}{es:List (List Cell × List (Int × Int))}(t:af H xs (es.map (rA π k))){i:Nat}{v:V}(h:xs[i]? =some v):
  ∃e p w b ys,es[i]? =some e/\v=.ref p/\H p=some (.tup [w,.ref b])/\ag H w (toD (kind π k e.1))/\H b=some (.tup ys)/\af H ys (e.2.map Kr):=by
 obtain⟨d,hd,D⟩:=t.J7 h;rw[nE]at hd;cases ee:es[i]? with
 |none=>rw[ee]at hd;cases hd
 |some e=>
  rw[ee]at hd;obtain rfl:=nh hd;obtain⟨p,fx,rfl,gf,tf⟩:=ag.Za D;cases tf with
  |cons h0 t0=>cases t0 with
  |cons h1 t1=>cases t1 with
  |nil=>
  obtain⟨b,ys,rfl,gb,tb⟩:=ag.Za h1;exact⟨e,p,_,b,ys,ae,ae,gf,h0,gb,tb⟩
section
variable {K:Frag}{σ:L2.St}{H:Hp}{Q:VK}
theorem YG{i:Nat}{q:Addr}{xs:List V}{π:Plan}{k:Nat}{es:List (List Cell × List (Int × Int))}(hσ:σ[i]? =some (some (.ref q)))(g:H q=some (.lst xs))(t:af H xs (es.map (rA π k)))(hl:xs.length<sizeLine)
  (kk:∀ys H' p,Qi H H'->af H' ys ((es.map λe=>kind π k e.1).map toD)->H' p=none->Q (.ref p) (upd H' p (.lst ys))):W3 [".0","_law_values","_law_total"] (k8 K (qo i)) (Bl K 2 (k7 (QD 1) (k7 (QD 2) E9))) yZ (qo 1) σ H Q:=by
 refine Zf (kz (K:=K) (a:=q) (xs:=xs)) ((es.map λe=>kind π k e.1).map toD) (by rw[m7,m7,t.length,m7]) (λR h=>⟨_,hσ,q,ae,⟨_,.inl (.inl g)⟩,h H (Qi.refl _)⟩) (λH1 S=>.inl (.inl (S _ _ g))) ?_ (λys H1 p S t hp=>kk ys H1 p S t hp) hl;rintro j v H1 H2 d R hd S ⟨rfl,hv⟩ kd;obtain⟨e,p,w,b,ys,ee,rfl,gp,dw,_⟩:=vz t hv;rw[nE,nE,ee]at hd;obtain rfl:=nh hd;refine⟨p,_,ae,.inl (.inl (S _ _ gp)),ae,_,_,ae,_,_,ae,ae,?_⟩;exact⟨_,ae,kd _ _ (Qi.refl _) (dw.same S)⟩
noncomputable abbrev G2:R2:=λx y H Q=>∃p xs i v,x=V.ref p/\y=V.int i/\Rd H p (HO.tup xs)/\bW xs i=some v/\Q v H
theorem same_none{a1 a2:Addr}{xs ys:List V}{l m:List (Int × Int)}{n:Nat}(g1:H a1=some (.tup xs))(t1:af H xs (l.map Kr))(g2:H a2=some (.tup ys))(t2:af H ys (m.map Kr))(hl:l.length=m.length)(AC:l.length<=100)(o1:∀p∈l,aF n p) (o2:∀p∈m,aF n p) (hn:n<=1000) (he:∀j,j<l.length->val j l=val j m)
  (kk:∀H' p,Qi H H'->H' p=none->Q (.ref p) (upd H' p (.lst []))):
  W3 [".0","_law_pair"] (λ_ H R=>R (sr .tp .tp a1 a2) H) (QD 1) (E7 (tB (VR (Xq K) [] E0 (JG (fR G2 (qo 1) (tC (V.int 0))) (JG (fR G2 (qo 1) (tC (V.int 1))) YL))))) (qo 1) σ H Q:=by
 have hz:1000<=sizeLine:=by decide
 have l1:=t1.length;have l2:=t2.length;rw[m7]at l1 l2;refine YV (u9 (k1:=.tp) (k2:=.tp) (a1:=a1) (a2:=a2) (xs:=xs) (ys:=ys)) (λi vs H1=>Qi H H1/\vs=[]) (λR h=>h H ⟨Qi.refl _,ae⟩) ?_ ?_ ?_ (by lia)
 ·rintro i vs H1 hi ⟨S,rfl⟩;exact⟨⟨.inl (S _ _ g1),.inl (S _ _ g2)⟩,nR _⟩
 ·rintro i v vs H1 H2 hi ⟨S,rfl⟩ ⟨p,x,y,hp,rfl,hx,hy,rfl⟩;have Sp:=Qi.new (o:=.tup [x,y]) hp;obtain⟨pp,b1,ou,rfl,ux⟩:=XE t1 hx;obtain⟨qq,b2,sO,rfl,AH⟩:=XE t2 hy;have S2:=S.trans Sp;have e1:=he i (by lia);unfold val at e1;rw[List.getD_eq_getElem?_getD,List.getD_eq_getElem?_getD,ou,sO]at e1;refine⟨_,ae,p,_,0,_,ae,ae,.inl Qb,ae,_,ae,p,_,1,_,ae,ae,.inl Qb,ae,b1,b2,_,_,_,_,ae,(o1 _ (nF ou)).au hn (S2 _ _ ux),(o2 _ (nF sO)).au hn (S2 _ _ AH),λH3 S3=>⟨_,ae,?_⟩⟩;rw[m9 (show pp.1*ay.az (18-pp.2)=qq.1*ay.az (18-qq.2)from e1)];exact WF ⟨S2.trans S3,ae⟩
 ·rintro vs H1 ⟨S,rfl⟩ p hp;exact kk H1 p S hp
theorem Uv{zs:List V}{N:List (List Rk)}(t:af H zs (N.map toD)):∀(ps:List Nat),(∀i∈ps,i<zs.length)->af H (ps.map λi=>zs.getD i .ah) ((ps.map λi=>N.getD i []).map toD)
 |[],_=>.nil
 |i::ps,h=>by
  have hi:=h i nA;have hl:=t.length;rw[m7]at hl;obtain⟨x,hx,D⟩:=t.get (i:=i) (d:=toD N[i]) (by rw[nE,List.getElem?_eq_getElem (by lia)];rfl);refine .cons ?_ (Uv t ps λj hj=>h j (nz _ hj));show ag H (zs.getD i .ah) (toD (N.getD i []));rw[List.getD_eq_getElem?_getD,List.getD_eq_getElem?_getD,hx,List.getElem?_eq_getElem (by lia)];exact D
noncomputable def yP(w:World)(xs:List V)(H:Hp)(Q:VK):Prop:=∃(p:Addr)(ys:List V)(ds:List Dv),xs=[.ref p]/\H p=some (vn w p ys ds)/\af H ys ds/\zk ds/\
 (∀zs es,af H zs es->es.Nodup->(∀d,d∈es↔d∈ds)->zs.length<=12->∃lt,(2<=zs.length->aI.Ord lt)/\(2<=zs.length->Av H zs lt)/\∀ps,QB zs.length lt ps->∀q,H q=none->Q (.ref q) (upd H q (.lst (ps.map λi=>zs.getD i .ah))))
theorem vA{w:World}{te:TE}(h:te σ H λv H1=>yP w [v] H1 Q):iT (λxs H Q=>∃(p:Addr)(ys:List V)(ds:List Dv),xs=[.ref p]/\H p=some (vn w p ys ds)/\af H ys ds/\zk ds/\
 (∀zs es,af H zs es->es.Nodup->(∀d,d∈es↔d∈ds)->zs.length<=12->∃lt,(2<=zs.length->aI.Ord lt)/\(2<=zs.length->Av H zs lt)/\∀ps,QB zs.length lt ps->∀q,H q=none->Q (.ref q) (upd H q (.lst (ps.map λi=>zs.getD i .ah))))) (JG te YL) σ H Q:=h
theorem zD{w:World}{p:Addr}{ys:List V}{L M:List (List Rk)}(Go:∀r∈L,r≠[]) (D:af H ys (L.map toD)) (g:H p=some (vn w p ys (L.map toD))) (hM:M.Pairwise cF) (hm:∀x,x∈M↔x∈L)
  (kk:∀q us,H q=none->af H us (M.map toD)->Q (.ref q) (upd H q (.lst us))):
  yP w [.ref p] H Q:=by
 refine⟨p,ys,L.map toD,ae,g,D,λd hd=>?_,λzs es t nd o9 hl=>?_⟩
 ·obtain⟨r,_,rfl⟩:=List.mem_map.mp hd;exact⟨⟨_,ae⟩,kZ r,Nat.le_trans (ZW r) (by lia)⟩
 ·obtain⟨N,rfl⟩:=Uu L es λd hd=>(o9 d).mp hd;have nN:N.Nodup:=(List.pairwise_map.mp nd).imp λ{a b} h e=>h (by rw[e]);have eN:∀x,x∈N↔x∈M:=λx=>by
   rw[hm x];exact⟨λh=>zC ((o9 _).mp (List.mem_map_of_mem h)),λh=>zC ((o9 _).mpr (List.mem_map_of_mem h))⟩
  have lN:zs.length=N.length:=by rw[t.length,m7]
  refine⟨Yu λi=>N.getD i [],λ_=>Uk _,λ_=>⟨λi=>(N.getD i []).map Rk.dv,λi v hv=>?_,λi j _ _=>Wu _ _,λi j=>(Wt _ _).symm⟩,λps hs q hq=>?_⟩
  ·obtain⟨d,hd,Oj⟩:=t.J7 hv;rw[nE]at hd;cases en:N[i]? with
   |none=>rw[en]at hd;cases hd
   |some r=>
    rw[en]at hd;obtain rfl:=nh hd;have er:N.getD i []=r:=by rw[List.getD_eq_getElem?_getD,en];rfl
    obtain⟨l,xs,rfl,gl,tl⟩:=ag.Za Oj;show ∃G3 xs,V.ref l=V.ref G3/\H G3=some (HO.tup xs)/\af H xs ((N.getD i []).map Rk.dv)/\Dv.Qs ((N.getD i []).map Rk.dv)<=8/\∃l0 ys,xs[0]? =some (V.ref l0)/\H l0=some (HO.tup ys);rw[er];refine⟨l,xs,ae,gl,tl,Uj r,?_⟩;have hr:=Go r ((hm r).mp ((eN r).mp (nF en)));cases r with
    |nil=>exact absurd rfl hr
    |cons x rs=>
     cases tl with
     |cons h0 t0=>
     have:∃ds,x.dv=.tup ds:=by cases x<;>exact⟨_,ae⟩
     obtain⟨ds,cG⟩:=this;rw[cG]at h0;obtain⟨l0,y0,rfl,g0,_⟩:=ag.Za h0;exact⟨l0,y0,ae,g0⟩
  ·refine kk q _ hq ?_;rw[lN]at hs;rw[←j4 nN hs hM eN];exact Uv t ps λi hi=>by have:=hs.lt i hi;lia
end
theorem zE{r:R2}{ta tb:TE}{t e:TS}{D:Ends}{σ:L2.St}{H:Hp}(h:ta σ H λx H1=>tb σ H1 λy H2=>r x y H2 λb H3=>∃k,b=.bl k/\if k=true then t D σ H3 else e D σ H3):Bk (vR (fR r ta tb)) t e D σ H:=h
theorem aF.mono{n m:Nat}{p:Int × Int}(h:aF n p)(hm:n<=m):aF m p:=by
 obtain⟨h1,h2,h3⟩:=h;refine⟨h1,h2,Nat.le_trans h3 ?_⟩;exact Nat.mul_le_mul_right _ hm
theorem WC(π:Plan)(k:Nat):∀(rows:List (List Cell))(p:Option (List Cell))(s:List (Int × Int)),(aM π k rows p s).length<=rows.length+(if p.isSome then 1 else 0)
 |[],none,s=>by rw[aM];simp
 |[],some p,s=>by rw[aM];simp
 |r::rs,none,s=>by
  rw[aM];have:=WC π k rs (some r) (JZ (bh π) r s);simp at this ⊢;lia
 |r::rs,some p,s=>by
  rw[aM];have h1:=WC π k rs (some r) (JZ (bh π) r (zeros π));have h2:=WC π k rs (some r) (JZ (bh π) r s)
  split
  ·simp at h1 ⊢;lia
  ·simp at h2 ⊢;lia
theorem KQ(π:Plan):∀(es:List (List Cell × List (Int × Int)))(e:List Cell × List (Int × Int))(s:List (Int × Int)),whole π (es++[e]) s=List.zipWith KH (whole π es s) e.2
 |[],e,s=>rfl
 |x::es,e,s=>by
  rw[List.cons_append,whole,whole,KQ π es e]
theorem WD{π:Plan}{n:Nat}:∀(es:List (List Cell × List (Int × Int)))(s:List (Int × Int))(m:Nat),s.length=π.sums.length->(∀x∈s,aF m x)->(∀e∈es,e.2.length=π.sums.length/\∀x∈e.2,aF n x)->(whole π es s).length=π.sums.length/\∀x∈whole π es s,aF (m+es.length*n) x
 |[],s,m,hl,ho,_=>⟨hl,λx hx=>by simpa using ho x hx⟩
 |e::es,s,m,hl,ho,he=>by
  obtain⟨h1,h2⟩:=he e nA;obtain⟨a1,a2⟩:=WD es (List.zipWith KH s e.2) (m+n) (by rw[List.length_zipWith,hl,h1,Nat.min_self]) (kO ho h2) λx hx=>he x (nz _ hx);refine⟨a1,λx hx=>(a2 x hx).mono ?_⟩;rw[nj,Nat.succ_mul];lia
theorem KR(rows:List (List Cell)):(Zr rows).depth<=8:=by
 have h:(Zr rows).depth<=2+1:=Kj λd hd=>by
  obtain⟨r,_,rfl⟩:=List.mem_map.mp hd;refine Kj (n:=1) λd hd=>?_;obtain⟨c,_,rfl⟩:=List.mem_map.mp hd;cases c<;>simp[Cell.dv,Dv.depth,Dv.Qs]
 lia
structure Ol(π:Plan)(k:Nat)(rows:List (List Cell))(ci cm:List (List Cell × List (Int × Int))):Prop where
 kd:(ci.map λe=>kind π k e.1)=cm.map λe=>kind π k e.1
 up:(ci.map λe=>kind π k e.1).Pairwise cF
 mm:∀x,x∈(ci.map λe=>kind π k e.1)↔x∈rows.map (kind π k)
 l1:∀e∈ci,e.2.length=π.sums.length/\∀x∈e.2,aF 12 x
 l2:∀e∈cm,e.2.length=π.sums.length/\∀x∈e.2,aF 12 x
 sm:∀j,j<π.sums.length->(ci.map λe=>val j e.2)=cm.map λe=>val j e.2
 wh:∀j,j<π.sums.length->Zk j ci=val j (total π rows)
 n1:ci.length<=12
theorem yQ{π:Plan}(Z:ao π){k:Nat}(hk:k<π.keys.length){rows mixed:List (List Cell)}(Y:∀r∈rows,aq π r) (hl:rows.length<=12) (pm:mixed.Perm rows) {ps qs:List Nat} (h1:QB rows.length (Yu λi=>aK 9 π (rows.getD i [])) ps) (h2:QB mixed.length (Yu λi=>aK 9 π (mixed.getD i [])) qs):
  Ol π k rows (aM π k (ps.map λi=>rows.getD i []) none (zeros π)) (aM π k (qs.map λi=>mixed.getD i []) none (zeros π)):=by
 have pA:=Kb (d:=[]) h1.1;have pB:=(Kb (d:=[]) h2.1).trans pm;have G9:=pA.trans pB.symm;have YA:∀r∈ps.map λi=>rows.getD i [],aq π r:=λr hr=>Y r (pA.mem_iff.mp hr);have YB:∀r∈qs.map λi=>mixed.getD i [],aq π r:=λr hr=>Y r (pB.mem_iff.mp hr);have uA:=Ul h1 k;have uB:=Ul h2 k;obtain⟨k1,k2⟩:=xP Z hk YA uA;have lA:=pA.length_eq;have lB:=pB.length_eq;refine⟨U2 Z hk G9 YA uA uB,k1,λx=>?_,λe he=>?_,λe he=>?_,λj hj=>jZ Z hk hj G9 YA uA uB,λj hj=>j0 Z hk hj pA YA,?_⟩
 ·rw[k2 x];exact(pA.map (kind π k)).mem_iff
 ·obtain⟨a1,a2,_⟩:=KL Z _ none (zeros π) 0 YA (QA π) (QN π) e he;exact⟨a1,λx hx=>(a2 x hx).mono (by lia)⟩
 ·obtain⟨a1,a2,_⟩:=KL Z _ none (zeros π) 0 YB (QA π) (QN π) e he;exact⟨a1,λx hx=>(a2 x hx).mono (by lia)⟩
 ·have:=WC π k (ps.map λi=>rows.getD i []) none (zeros π);rw[Option.isSome_none,if_neg (by decide)]at this;lia
theorem Jg{P:Addr}{q:Str}{H H':Hp}(h:bq P H H')(T:Jx H P q){b:Addr}{o:HO}(e:H b=some o)(n:∀ps,o≠ .br ps):H' b=some o:=by
 refine h b _ e λz=>?_;obtain⟨ps,g,_⟩:=T;rw[z,g]at e;cases e;exact n _ rfl
structure Lp(H:Hp)(π:Plan)(rows mixed:List (List Cell))(pv rv:V)(a ac ak as mx rq P2:Addr)(ym yr:List V):Prop where
 dp:ag H pv (ZH π)
 pa:aH H pv π a ac ak as
 dr:ag H rv (Zr rows)
 gm:H mx=some (.lst ym)
 tm:af H ym (mixed.map Kl)
 gr:H rq=some (.lst yr)
 tr:af H yr (rows.map λr=>Dv.tup ((aK 9 π r).map Rk.dv))
 tb:Jx H P2 kY
theorem Lp.but{H H':Hp}{π:Plan}{rows mixed:List (List Cell)}{pv rv:V}{a ac ak as mx rq P2:Addr}{ym yr:List V}(h:Lp H π rows mixed pv rv a ac ak as mx rq P2 ym yr)(B:bq P2 H H')(T:Jx H' P2 kY):Lp H' π rows mixed pv rv a ac ak as mx rq P2 ym yr:=
 have kp:=B.Jr h.tb
 ⟨h.dp.keep kp,⟨h.pa.v,kp _ _ h.pa.a,kp _ _ h.pa.c,kp _ _ h.pa.k,kp _ _ h.pa.s⟩,h.dr.keep kp,Jg B h.tb h.gm (λ_ z=>nomatch z),h.tm.keep kp,Jg B h.tb h.gr (λ_ z=>nomatch z),h.tr.keep kp,T⟩
theorem Lp.same{H H':Hp}{π:Plan}{rows mixed:List (List Cell)}{pv rv:V}{a ac ak as mx rq P2:Addr}{ym yr:List V}(h:Lp H π rows mixed pv rv a ac ak as mx rq P2 ym yr)(S:Qi H H'):Lp H' π rows mixed pv rv a ac ak as mx rq P2 ym yr:=h.but (bq.of S) (h.tb.same S)
structure Lf(H:Hp)(π:Plan)(k:Nat)(rows mixed:List (List Cell))(pv rv:V)(a ac ak as mx rq P2 tp q1 q2:Addr)(ym yr tx d5 d6:List V)(ci cm:List (List Cell × List (Int × Int))):Prop where
 lp:Lp H π rows mixed pv rv a ac ak as mx rq P2 ym yr
 gt:H tp=some (.tup tx)
 tt:af H tx ((total π rows).map Kr)
 g1:H q1=some (.lst d5)
 t1:af H d5 (ci.map (rA π k))
 g2:H q2=some (.lst d6)
 t2:af H d6 (cm.map (rA π k))
theorem Lf.same{H H':Hp}{π:Plan}{k:Nat}{rows mixed:List (List Cell)}{pv rv:V}{a ac ak as mx rq P2 tp q1 q2:Addr}{ym yr tx d5 d6:List V}{ci cm:List (List Cell × List (Int × Int))}(h:Lf H π k rows mixed pv rv a ac ak as mx rq P2 tp q1 q2 ym yr tx d5 d6 ci cm)(S:Qi H H'):Lf H' π k rows mixed pv rv a ac ak as mx rq P2 tp q1 q2 ym yr tx d5 d6 ci cm:=
 ⟨h.lp.same S,S _ _ h.gt,h.tt.same S,S _ _ h.g1,h.t1.same S,S _ _ h.g2,h.t2.same S⟩
noncomputable abbrev Eb:List Str:=["_law_script","_law_town","_law_plan","_law_rows","_law_columns","_law_keys","_law_sums","_law_size","_law_at","_law_due","_law_mixed","_law_turn","_law_final","_law_word_so","_law_one","_law_two","_law_whole","_law_first","_law_second","_law_unlike","_law_ranks"]
section
variable {P:Program}{w:World}{K:Frag}{mg:Str->Option Value}{base:Heap}{f:Addr}{fd:FuncData}{ca Pa P2:Addr}
theorem yR(O:Own mg)(OT:mg "tuple"=none)(OE:mg "enumerate"=none)(dQ:mg "sorted"=none)(OS:mg "set"=none)(OZ:mg "zip"=none)(gh:Def P w K mg base 7 "breaks" ["plan","rows"] JW)(hW:Def P w K mg base 7 "in_order" ["plan","rows"] (Xc P2))(hV:Def P w K mg base 8 "_law_feet" ["_law_plan","_law_rows","_law_word_so"] Xd)
  (gC:Def P w K mg base 4 "same" ["one","other"] (Xq K)) (h8:Def P w K mg base 1 "_law_plus" ["_law_one","_law_two"] KI) {A:Around} {outer:List Env} {s:Shared} {H:Hp} {E:XK} (hr:JC 9 (A.deeper (envOfC "law" (Qd JD) s.heap.objs.size f (.ref ca)))):
  ∃u2,bL (qk (aE P w) P w K mg base Eb "law" (Qd JD) f (.ref ca) A outer s H E).dG ((Qr JD).drop 9) u2/\
   ∀(D:Ends)(H3:Hp)(π:Plan)(rows mixed:List (List Cell))(pv rv:V)(a ac ak as mx rq:Addr)(ym yr:List V)(y0 y1 y4 y7 y8 y9 AI:Option V),Lp H3 π rows mixed pv rv a ac ak as mx rq P2 ym yr->ao π->π.keys.Nodup->π.keys.length<=10->rows.length<=12->(∀r∈rows,aq π r)->mixed.Perm rows->(∀H',D.rt (.bl true) H')->
    u2 D [y0,y1,some pv,some rv,y4,some (.ref ak),some (.ref as),y7,y8,y9,some (.ref mx),AI,none,none,none,none,none,none,none,none,some (.ref rq)] H3:=by
 have hz:1000<=sizeLine:=by decide
 have G':(A.deeper (envOfC "law" (Qd JD) s.heap.objs.size f (.ref ca))).units+1+8<cLine:=by have:=hr.units;lia
 have Ec:(A.deeper (envOfC "law" (Qd JD) s.heap.objs.size f (.ref ca))).units+64<cLine:=by have:=hr.units;lia
 have uy:(A.deeper (envOfC "law" (Qd JD) s.heap.objs.size f (.ref ca))).units+100<cLine:=by have:=hr.un;lia
 refine⟨_,(Qe (Qz (i:=12) Q2.nd ae (Or.inl ae) (Qv Qj (Qv Qj (gh.pe hr (by decide) ae Qm (Qa (pv 2) (Qa (pv 3) Qc))) (zP YI Qf) (λ_ _=>rfl)) Qf (λ_ _=>rfl)))
   (Qe (Xh PassesOwn.never ae (K6 .tp ae OE (Qa (pv 5) Qc)) (JX ae (Ql (Qg (i:=8) Q2.nd ae (Or.inr ae)) (Ql (Qg (i:=13) Q2.nd ae (Or.inl ae)) Q8))) (Qe (Qz (i:=14) Q2.nd ae (Or.inl ae) (hV.pe hr (by decide) ae Qm (Qa (pv 2) (Qa (hW.pe hr (by decide) ae Qm (Qa (pv 2) (Qa (pv 3) Qc))) (Qa (pv 13) Qc)))))
   (Qe (Qz (i:=15) Q2.nd ae (Or.inl ae) (hV.pe hr (by decide) ae Qm (Qa (pv 2) (Qa (hW.pe hr (by decide) ae Qm (Qa (pv 2) (Qa (Qu Qo ae OT boot_tuple (Qa (pv 10) Qc)) Qc))) (Qa (pv 13) Qc)))))
   (Qe (Xt (Ji (zm (n:=8) G') (JH (NB:=[".0","_law_values","_law_total"]) ae ⟨ae,by decide+kernel,by decide+kernel,by decide+kernel⟩ (JP (pv 14)) (λ_ _ _=>(Wd (K0:=K) (n:=2) ae ae (Ql (Qg (i:=1) (show([".0","_law_values","_law_total"]:List Str).Nodup by decide+kernel) ae (Or.inl ae) (Or.inr ae)) (Ql (Qg (i:=2) (show([".0","_law_values","_law_total"]:List Str).Nodup by decide+kernel) ae (Or.inl ae) (Or.inr ae)) Q8)))) (λ_ _ _=>QU) (λ_ _ _=>(pv 1))) (QW (VD ae uy) ae dQ boot_sorted (Qa (Qu (qf ae Ec) ae OS boot_set (Qa (JM (NB:=[".0","_law_rank_here"]) (FR:=["_law_at"]) (fi:=[8]) ae ⟨ae,by decide+kernel,by decide+kernel,by decide+kernel,by decide+kernel,by decide+kernel⟩ ae ae (JP (pv 20)) (λ_ _ _=>(Qg (i:=1) (show([".0","_law_rank_here","_law_at"]:List Str).Nodup by decide+kernel) ae (Or.inl ae))) (λ_ _ _=>QU) (λ_ _ _=>(Xy jn (pv 1) KW (ZZ (QF Xi (pv 2) Qf))))) Qc)) Qc)) (Jm _)) (Qk (Qy UB)) Js)
   (Qe (Xt (Ji (zm (n:=8) G') (JH (NB:=[".0","_law_values","_law_total"]) ae ⟨ae,by decide+kernel,by decide+kernel,by decide+kernel⟩ (JP (pv 14)) (λ_ _ _=>(Wd (K0:=K) (n:=2) ae ae (Ql (Qg (i:=1) (show([".0","_law_values","_law_total"]:List Str).Nodup by decide+kernel) ae (Or.inl ae) (Or.inr ae)) (Ql (Qg (i:=2) (show([".0","_law_values","_law_total"]:List Str).Nodup by decide+kernel) ae (Or.inl ae) (Or.inr ae)) Q8)))) (λ_ _ _=>QU) (λ_ _ _=>(pv 1))) (JH (NB:=[".0","_law_values","_law_total"]) ae ⟨ae,by decide+kernel,by decide+kernel,by decide+kernel⟩ (JP (pv 15)) (λ_ _ _=>(Wd (K0:=K) (n:=2) ae ae (Ql (Qg (i:=1) (show([".0","_law_values","_law_total"]:List Str).Nodup by decide+kernel) ae (Or.inl ae) (Or.inr ae)) (Ql (Qg (i:=2) (show([".0","_law_values","_law_total"]:List Str).Nodup by decide+kernel) ae (Or.inl ae) (Or.inr ae)) Q8)))) (λ_ _ _=>QU) (λ_ _ _=>(pv 1))) (Jm _)) (Qk (Qy UB)) Js)
   (Qe (Qz (i:=16) Q2.nd ae (Or.inl ae) (Qu Qo ae OT boot_tuple (Qa (JH (NB:=[".0","_law_name"]) ae ⟨ae,by decide+kernel,by decide+kernel,by decide+kernel⟩ (ZJ (pv 6)) (λ_ _ _=>(Qg (i:=1) (show([".0","_law_name"]:List Str).Nodup by decide+kernel) ae (Or.inl ae))) (λ_ _ _=>QU) (λ_ _ _=>(QV (Qa Qf (Qa Qf Qc))))) Qc)))
   (Qe (Xh PassesOwn.never ae (V5 .ls .ls ae OZ (Qa (pv 14) (Qa (pv 15) Qc))) (JX ae (Ql (Qg (i:=17) Q2.nd ae (Or.inl ae)) (Ql (Qg (i:=18) Q2.nd ae (Or.inl ae)) Q8))) (Qe (Xt (Ji (ja (n:=1) (yb hr)) (JH (NB:=[".0","_law_pair"]) ae ⟨ae,by decide+kernel,by decide+kernel,by decide+kernel⟩ (zB .tp .tp ae OZ (Qa (Qv Qj (pv 17) Qf (λ_ _=>rfl)) (Qa (Qv Qj (pv 18) Qf (λ_ _=>rfl)) Qc))) (λ_ _ _=>(Qg (i:=1) (show([".0","_law_pair"]:List Str).Nodup by decide+kernel) ae (Or.inl ae))) (λ_ _ _=>(K5 (qu (Xf (gC.pe hr (by decide) ae Qm (Qa (Qv Qj (pv 1) Qf (λ_ _=>rfl)) (Qa (Qv Qj (pv 1) Qf (λ_ _=>rfl)) Qc))))))) (λ_ _ _=>(pv 1))) (XN Qc) (Jm _)) (Qk (Qy UB)) Js)
   (Qk (Qz (i:=16) Q2.nd ae (Or.inl ae) (h8.pe hr (by decide) ae Qm (Qa (pv 16) (Qa (Qv Qj (pv 17) Qf (λ_ _=>rfl)) Qc)))))))
   (Qe (z7 (NB:=[".0","_law_pair"]) (iy:=19) ae ⟨ae,by decide+kernel,by decide+kernel,by decide+kernel⟩ (zB .tp .tp ae OZ (Qa (pv 16) (Qa (pv 12) Qc))) (λ_ _ _=>(Qg (i:=1) (show([".0","_law_pair"]:List Str).Nodup by decide+kernel) ae (Or.inl ae))) (λ_ _ _=>(K5 (qu (Xf (gC.pe hr (by decide) ae Qm (Qa (Qv Qj (pv 1) Qf (λ_ _=>rfl)) (Qa (Qv Qj (pv 1) Qf (λ_ _=>rfl)) Qc))))))) (λ_ _ _=>(pv 1)) Q2.nd ae (Or.inl ae) ae)
   (Qk (Xt (PW.pt (qt (Ji (jb (n:=8) (wA hr)) (pv 3) (QV Qc) (Jm _)) (VO (Ji (ja (n:=1) (yb hr)) (pv 19) (XN Qc) (Jm _))))) (Qk (Qy UB)) Js))))))))))
   (Qk (Qy UB)))),?_⟩
 intro D H3 π rows mixed pv rv a ac ak as mx rq ym yr y0 y1 y4 y7 y8 y9 AI LP Z nd hk fM Y pm k;dsimp only[QD,JF,JK];refine⟨_,ae,_,ae,pv,rv,π,rows,ae,LP.dp,Z,hk,LP.dr,Y,by lia,λu H4 S4 D4=>?_⟩;obtain⟨lp,lx,rfl,gl,tl⟩:=ag.Za D4;have uz:(Z6 π rows)[(prog π rows none (Jq π)).length]? =some (yp (total π rows)):=by
  unfold Z6;rw[List.getElem?_append_right (ng _),Nat.sub_self];rfl
 obtain⟨fv,Re,Df⟩:=tl.get uz;have Hf:lx.length=(prog π rows none (Jq π)).length+1:=by rw[tl.length];unfold Z6;rw[m5];rfl
 obtain⟨fp,fx,rfl,gf,tf⟩:=ag.Za Df;cases tf with
 |cons h0 t0=>cases t0 with
 |cons h1 t1=>cases t1 with
 |nil=>
 obtain⟨tp,tx,rfl,gt,tt⟩:=ag.Za h1;refine⟨1,ae,lp,lx, -1,_,ae,ae,.inl gl,kG Re Hf,fp,_,1,_,ae,ae,.inl gf,ae,?_⟩;have Ed:=LP.same S4;clear S4 D4 tl uz Re Hf gl Df gf h0 h1;dsimp only[QD,JF,JK,List.set_cons_succ,List.set_cons_zero];have Hg:(π.keys.map V.str).length=π.keys.length:=m7 ..;refine⟨_,ae,ak,ae,⟨_,.inl (.inl Ed.pa.k)⟩,?_⟩;refine ZB (BZ (k:=.tp) (K:=K) (a:=ak) (xs:=π.keys.map V.str)) (λi σ H5=>∃x8 AJ AK AL AM iN iO uC,σ=[y0,y1,some pv,some rv,y4,some (.ref ak),some (.ref as),y7,x8,y9,some (.ref mx),AI,some (.ref tp),AJ,AK,AL,AM,iN,iO,uC,some (.ref rq)]/\Lp H5 π rows mixed pv rv a ac ak as mx rq P2 ym yr/\H5 tp=some (.tup tx)/\af H5 tx ((total π rows).map Kr)) ⟨_,_,_,_,_,_,_,_,ae,Ed,gt,tt⟩ ?_ ?_ ?_
 ·rintro i σ H5 hi ⟨x8,AJ,AK,AL,AM,iN,iO,uC,rfl,uD,AN,AO⟩;exact .inl (.inl uD.pa.k)
 ·rintro i v σ H5 H6 hi ⟨x8,AJ,AK,AL,AM,iN,iO,uC,rfl,uD,AN,AO⟩ ⟨p,x,hp,rfl,hx,rfl⟩;obtain⟨y,hy,rfl⟩:=Y0 hx;have Ee:i<π.keys.length:=by lia
  obtain rfl:π.keys.getD i ""=y:=by rw[List.getD_eq_getElem?_getD,hy];rfl
  have Sp:=Qi.new (o:=.tup [.int (i:Nat),.str (π.keys.getD i "")]) hp;refine⟨p,_,ae,.inl (.inl Qb),ae,_,_,ae,_,_,ae,ae,?_⟩;have lJ:=uD.same Sp;have Ef:=Sp _ _ AN;have Eg:=AO.same Sp;generalize upd H5 p (.tup [.int (i:Nat),.str (π.keys.getD i "")])=H6 at lJ Ef Eg;clear uD AN AO Sp Ed gt tt LP;dsimp only[QD,JF,JK,List.set_cons_succ,List.set_cons_zero];refine⟨_,ae,_,ae,_,ae,pv,rv,π,rows,ae,lJ.dp,Z,hk,lJ.dr,Y,by lia,lJ.tb,λu1 H7 AQ B7 T7 uE D7=>?_⟩;have Eh:=lJ.but B7 T7;have Hh:=B7.Jr lJ.tb _ _ Ef;have Hi:=Eg.keep (B7.Jr lJ.tb);have pA:=Kb (d:=[]) uE.1;refine⟨_,ae,pv,u1,π,_,i,ae,Eh.dp,Z,nd,Ee,hk,D7,λr hr=>Y r (pA.mem_iff.mp hr),by rw[pA.length_eq];lia,λq1 H8 d5 S8 g1 t1=>?_⟩;have AR:=Eh.same S8;have Hj:=S8 _ _ Hh;have Ho:=Hi.same S8;dsimp only[QD,JF,JK,List.set_cons_succ,List.set_cons_zero];refine⟨_,ae,_,ae,_,ae,mx,ym,ae,.inl ⟨.inl (.inl AR.gm),λl hl=>?_⟩⟩;have Sl:=Qi.new (o:=.tup ym) hl;have Dm:=JA AR.tm hl;have iP:=AR.same Sl;have Ei:=Sl _ _ Hj;have Ej:=Ho.same Sl;have oK:=Sl _ _ g1;have AS:=t1.same Sl;generalize upd H8 l (.tup ym)=H9 at iP Ei Ej oK AS Dm;have CS:=pm.length_eq;refine⟨pv,.ref l,π,mixed,ae,iP.dp,Z,hk,Dm,λr hr=>Y r (pm.mem_iff.mp hr),by lia,iP.tb,λu2 Ha Om Ba Ta Ek Da=>?_⟩;have El:=iP.but Ba Ta;have Ht:=Ba.Jr iP.tb _ _ Ei;have Hu:=Ej.keep (Ba.Jr iP.tb);have Hv:=Jg Ba iP.tb oK (λ_ z=>nomatch z);have Em:=AS.keep (Ba.Jr iP.tb);have pB:=(Kb (d:=[]) Ek.1).trans pm;refine⟨_,ae,pv,u2,π,_,i,ae,El.dp,Z,nd,Ee,hk,Da,λr hr=>Y r (pB.mem_iff.mp hr),by rw[pB.length_eq];lia,λq2 Hb d6 Sb g2 t2=>?_⟩;have TW:=yQ Z Ee Y fM pm uE Ek;generalize aM π i (AQ.map λi=>rows.getD i []) none (zeros π)=ci at t1 AS Em TW;generalize aM π i (Om.map λi=>mixed.getD i []) none (zeros π)=cm at t2 TW;have LF:Lf Hb π i rows mixed pv rv a ac ak as mx rq P2 tp q1 q2 ym yr tx d5 d6 ci cm:=⟨El.same Sb,Sb _ _ Ht,Hu.same Sb,Sb _ _ Hv,Em.same Sb,g2,t2⟩;clear lJ Ef Eg Eh Hh Hi AR Hj Ho iP Ei Ej oK AS El Ht Hu Hv Em g1 t1 g2 t2 Sb Sl S8 B7 Ba T7 Ta D7 Da Dm pA pB uE Ek;dsimp only[QD,JF,JK,List.set_cons_succ,List.set_cons_zero];have lx1:d5.length=ci.length:=by rw[LF.t1.length,m7]
  have lx2:d6.length=cm.length:=by rw[LF.t2.length,m7]
  have Oo:ci.length=cm.length:=by have:=congrArg List.length TW.kd;simpa using this
  have n1:=TW.n1;refine zE (YG (i:=14) ae LF.g1 LF.t1 (by lia) λrC Hc p1 Sc tc rD=>?_);have S1:=Sc.trans (Qi.new (o:=.lst rC) rD);have En:upd Hc p1 (.lst rC) p1=some (.lst rC):=Qb;have Eo:=tc.same (Qi.new (o:=.lst rC) rD);have pC:=LF.same S1;generalize upd Hc p1 (.lst rC)=Hd at S1 En Eo pC;refine vA (n9 ?_);have Hw:yr.length=rows.length:=by rw[pC.lp.tr.length,m7]
  refine QQ (fv:=[.int (i:Nat)]) (kz (K:=K) (a:=rq) (xs:=yr)) ((rows.map (kind π i)).map toD) (by rw[m7,m7,Hw]) (λR h=>⟨_,ae,rq,ae,⟨_,.inl (.inl pC.lp.gr)⟩,h Hd (Qi.refl _)⟩) rfl (λH2 S2=>.inl (.inl (S2 _ _ pC.lp.gr))) ?_ ?_ (by lia)
  ·rintro j v H2 H3 d R hd S2 ⟨rfl,hv⟩ kd;obtain⟨d2,hd2,Dd⟩:=pC.lp.tr.J7 hv;rw[nE]at hd2;rw[nE,nE]at hd;cases er:rows[j]? with
   |none=>rw[er]at hd2;cases hd2
   |some r=>
   rw[er]at hd hd2;obtain rfl:=nh hd;obtain rfl:=nh hd2;refine⟨ae,_,ae,_,ae,_,_,ae,ae,_,ae,?_⟩;have e1:((i:Nat):Int)+1=((i+1:Nat):Int):=by lia
   rw[e1];refine kB.yn (Dd.same S2) λu H7 S7 DU=>kd _ _ S7 ?_;show ag H7 u (.tup (((aK 9 π r).take (i+1)).map Rk.dv));rw[List.map_take];exact DU
  ·rintro ys He pe Se te Hx;have Oq:ys.length<=12:=by rw[te.length,m7,m7];lia
   have Sf:=Qi.new (o:=.lst ys) Hx;refine⟨pe,ys,_,ae,.inl (.inl Qb),te.same Sf,λd hd=>?_,Oq,λqs Hy=>?_⟩
   ·obtain⟨r,_,rfl⟩:=List.mem_map.mp hd;exact⟨⟨_,ae⟩,kZ r,Nat.le_trans (ZW r) (by lia)⟩
   have Sg:=Qi.new (o:=vn w qs ys ((rows.map (kind π i)).map toD)) Hy;refine zD (λr hr=>?_) ((te.same Sf).same Sg) Qb TW.up TW.mm λqz us HA HB=>?_
   ·obtain⟨rw_,_,rfl⟩:=List.mem_map.mp hr;have fh:(aA π).length=π.keys.length:=by unfold aA Qt;rw[m7]
    intro z;have:=congrArg List.length z;unfold kind aK at this;rw[nB,m7,fh,List.length_nil]at this;lia
   have Sh:=Qi.new (o:=.lst us) HA;have S2:=(((Se.trans Sf).trans Sg).trans Sh);have uF:=pC.same S2;refine⟨p1,qz,rC,us,_,_,ae,ae,.inl (.inl (S2 _ _ En)),.inl (.inl Qb),Eo.same S2,HB.same Sh,KP _,?_⟩;rw[Dv.J8];refine⟨false,ae,WF ?_⟩;generalize upd _ qz (.lst us)=Hk at uF;clear S1 En Eo pC LF S2 Sh Sg Sf Se te Sc tc rD HB HA Hy Hx;dsimp only[QD,JF,JK,Q6,List.set_cons_succ,List.set_cons_zero];refine zE (YG (i:=14) ae uF.g1 uF.t1 (by lia) λrE Hl p3 Sl tl lH=>?_);have S3:=Sl.trans (Qi.new (o:=.lst rE) lH);have Ep:upd Hl p3 (.lst rE) p3=some (.lst rE):=Qb;have Er:=tl.same (Qi.new (o:=.lst rE) lH);have uG:=uF.same S3;generalize upd Hl p3 (.lst rE)=Hm at S3 Ep Er uG;refine YG (i:=15) rfl uG.g2 uG.t2 (by lia) λEs Hn p4 Sn tn rF=>?_;have S4:=Qi.new (o:=.lst Es) rF;have uH:=uG.same (Sn.trans S4);refine⟨p3,p4,rE,Es,_,_,ae,ae,.inl (.inl ((Sn.trans S4) _ _ Ep)),.inl (.inl Qb),Er.same (Sn.trans S4),tn.same S4,KP _,?_⟩;rw[TW.kd,Dv.J8];refine⟨false,ae,WF ?_⟩;generalize upd Hn p4 (.lst Es)=Hq at uH;clear S3 Ep Er uG uF S4 Sn tn Sl tl lH rF;dsimp only[QD,JF,JK,Q6,List.set_cons_succ,List.set_cons_zero];have lsm:(π.sums.map V.str).length=π.sums.length:=m7 ..;have z2:=Z.lu;have z3:π.keys.length+π.sums.length=(π.keys++π.sums).length:=(m5 ..).symm;refine n9 ?_;refine Zf (zJ (K:=K) (a:=as) (xs:=π.sums.map V.str)) ((zeros π).map Kr) (by unfold zeros;simp) (λR h=>⟨_,ae,as,ae,⟨_,.inl (.inl uH.lp.pa.s)⟩,h Hq (Qi.refl _)⟩) (λH1 S=>.inl (.inl (S _ _ uH.lp.pa.s))) ?_ ?_ (by lia)
   ·rintro j v H1 H2 d R hd S ⟨rfl,hv⟩ kk;refine⟨fe,λp hp=>kk _ _ (Qi.new hp) ?_⟩;have:d=Kr (0,0):=by
     unfold zeros at hd;rw[nE,nE]at hd;cases e:π.sums[j]? with
     |none=>rw[e]at hd;cases hd
     |some y=>rw[e]at hd;exact(nh hd).symm
    rw[this];exact .tup Qb (.cons .int (.cons .int .nil))
   rintro wx Hr pr Sr tr HC;have Sw:=Qi.new (o:=.lst wx) HC;refine⟨pr,wx,ae,.inl ⟨.inl (.inl Qb),λwp HE=>?_⟩⟩;have Sx:=Qi.new (o:=.tup wx) HE;have AU:=uH.same ((Sr.trans Sw).trans Sx);have gw:upd (upd Hr pr (.lst wx)) wp (.tup wx) wp=some (.tup wx):=Qb;have tw:=(tr.same Sw).same Sx;generalize upd (upd Hr pr (.lst wx)) wp (.tup wx)=Hs at AU gw tw;clear uH Sr tr HC Sw Sx HE;dsimp only[QD,JF,JK,Q6,List.set_cons_succ,List.set_cons_zero];refine⟨_,ae,_,ae,q1,q2,ae,⟨_,.inl AU.g1⟩,⟨_,.inl AU.g2⟩,?_⟩;refine ZB (u9 (k1:=.ls) (k2:=.ls) (a1:=q1) (a2:=q2) (xs:=d5) (ys:=d6)) (λj σ H1=>∃wp wx iN iO,σ=[y0,y1,some pv,some rv,y4,some (.ref ak),some (.ref as),y7,some (.int (i:Nat)),y9,some (.ref mx),AI,some (.ref tp),some (.str (π.keys.getD i "")),some (.ref q1),some (.ref q2),some (.ref wp),iN,iO,uC,some (.ref rq)]/\Lf H1 π i rows mixed pv rv a ac ak as mx rq P2 tp q1 q2 ym yr tx d5 d6 ci cm/\H1 wp=some (.tup wx)/\af H1 wx ((whole π (ci.take j) (zeros π)).map Kr)) ⟨wp,wx,_,_,ae,AU,gw,tw⟩ ?_ ?_ ?_
   ·rintro j σ H1 hj ⟨wp,wx,iN,iO,rfl,fB,uI,uJ⟩;exact⟨.inl fB.g1,.inl fB.g2⟩
   ·rintro j v σ H1 H2 hj ⟨wp,wx,iN,iO,rfl,fB,uI,uJ⟩ ⟨p,x,y,hp,rfl,hx,hy,rfl⟩;obtain⟨e,AV,w1,b1,G0,Et,rfl,HF,d7,ux,AW⟩:=vz fB.t1 hx;obtain⟨e',fO,w2,b2,o3,i0,rfl,Ot,FG,AH,Ou⟩:=vz fB.t2 hy;have Sp:=Qi.new (o:=.tup [.ref AV,.ref fO]) hp;refine⟨p,_,ae,.inl (.inl Qb),ae,_,_,ae,_,_,ae,ae,?_⟩;generalize upd H1 p (.tup [.ref AV,.ref fO])=H7 at Sp;dsimp only[QD,JF,JK,Q6,List.set_cons_succ,List.set_cons_zero];refine zE (Y3 ?_);refine⟨_,ae,AV,_,1,_,ae,ae,.inl (Sp _ _ HF),ae,_,ae,fO,_,1,_,ae,ae,.inl (Sp _ _ Ot),ae,b1,b2,ae,⟨_,.inl (Sp _ _ ux)⟩,⟨_,.inl (Sp _ _ AH)⟩,?_⟩;obtain⟨m1,o1⟩:=TW.l1 e (nF Et);obtain⟨m2,o2⟩:=TW.l2 e' (nF i0);refine same_none (n:=12) (Sp _ _ ux) (AW.same Sp) (Sp _ _ AH) (Ou.same Sp) (by lia) (by lia) o1 o2 (by lia) (λjj Ov=>?_) λH8 p8 S8 cD=>?_
    ·have:=congrArg (λl=>l[j]?) (TW.sm jj (by lia));simp only[nE,Et,i0]at this;exact nh this
    have S9:=Qi.new (o:=.lst []) cD;refine⟨pQ,λp9 iz=>?_⟩;have Pi:=Qi.new (o:=.lst []) iz;refine⟨p8,p9,[],[],false,ae,ae,.inl (.inl (Pi _ _ Qb)),.inl (.inl Qb),.inl ⟨.nil,ae⟩,false,ae,WF ?_⟩;have SA:=((Sp.trans S8).trans S9).trans Pi;generalize upd (upd H8 p8 (.lst [])) p9 (.lst [])=dA at SA;have uK:=fB.same SA;dsimp only[QD,JF,JK,Q6,List.set_cons_succ,List.set_cons_zero];have hje:j<ci.length:=by lia
    obtain⟨lw,ow⟩:=WD (ci.take j) (zeros π) 0 (QA π) (QN π) λx hx=>TW.l1 x (List.mem_of_mem_take hx);have Eu:(ci.take j).length*12<=144:=by rw[nB];lia
    refine⟨_,ae,_,ae,AV,_,1,_,ae,ae,.inl (SA _ _ HF),ae,wp,b1,wx,G0,_,_,144,ae,SA _ _ uI,uJ.same SA,SA _ _ ux,AW.same SA,by lia,λx hx=>(ow x hx).mono (by lia),λx hx=>(o1 x hx).mono (by lia),by lia,by lia,λu Cr pS pV=>?_⟩;obtain⟨Ow,HG,rfl,Ox,Oy⟩:=ag.Za pV;refine⟨Ow,HG,_,_,ae,uK.same pS,Ox,?_⟩;rw[List.take_add_one,Et];show af Cr HG ((whole π (ci.take j++[e]) (zeros π)).map Kr);rw[KQ];exact Oy
   ·rintro σ H1 ⟨wp,wx,iN,iO,rfl,fB,uI,uJ⟩;rw[List.take_of_length_le (by lia)]at uJ;obtain⟨lw,ow⟩:=WD ci (zeros π) 0 (QA π) (QN π) TW.l1;have Eu:ci.length*12<=144:=by lia
    dsimp only[QD,JF,JK,Q6,List.set_cons_succ,List.set_cons_zero];refine Y3 ?_;refine⟨_,ae,_,ae,wp,tp,ae,⟨_,.inl uI⟩,⟨_,.inl fB.gt⟩,?_⟩;have lt:=Vf π rows;refine same_none (n:=144) uI uJ fB.gt fB.tt (by lia) (by lia) (λx hx=>(ow x hx).mono (by lia)) (λx hx=>(Y5 Z rows Y x hx).mono (by lia)) (by lia) (λjj Ov=>?_) λH8 p8 S8 cD=>?_
    ·obtain⟨v1,_⟩:=Vo (n:=12) (j:=jj) (π:=π) (by lia) ci (zeros π) 0 (QA π) (QN π) TW.l1;rw[v1,Zj,Int.zero_add];exact TW.wh jj (by lia)
    have S9:=Qi.new (o:=.lst []) cD;have uK:=fB.same (S8.trans S9);have gu:upd H8 p8 (.lst []) p8=some (.lst []):=Qb;generalize upd H8 p8 (.lst [])=H9 at uK gu;refine⟨_,ae,pQ,λp9 iz=>?_⟩;have Pi:=Qi.new (o:=.tup []) iz;refine⟨Zr rows,.tup [],uK.lp.dr.same Pi,.tup Qb .nil,KR rows,_,ae,?_⟩;have uL:=uK.same Pi;have HH:=Pi _ _ gu;generalize upd H9 p9 (.tup [])=pi at uL HH;refine iW (λ_=>?_) (λ_=>WF ⟨_,_,_,_,_,_,_,_,ae,uL.lp,uL.gt,uL.tt⟩);refine⟨_,ae,pQ,λOz Ew=>?_⟩;have fL:=Qi.new (o:=.lst []) Ew;have Ex:=uL.same fL;exact⟨p8,Oz,[],[],false,ae,ae,.inl (.inl (fL _ _ HH)),.inl (.inl Qb),.inl ⟨.nil,ae⟩,false,ae,WF ⟨_,_,_,_,_,_,_,_,ae,Ex.lp,Ex.gt,Ex.tt⟩⟩
 ·rintro σ H5 ⟨x8,AJ,AK,AL,AM,iN,iO,uC,rfl,uD,AN,AO⟩;exact k _
theorem zF{H H':Hp}{a t r P:Addr}{q:Str}{ns:List Int}{c:Int}(B:aW K H a t r ns c)(h:bq P H H')(T:Jx H P q):aW K H' a t r ns c:=by
 obtain⟨rs,W⟩:=B.tw;refine⟨?_,⟨rs,Jg h T W.tw (λ_ z=>nomatch z),Jg h T W.rt (λ_ z=>nomatch z),W.vs,W.c0,W.ln,W.ne⟩,B.nat,B.iZ,B.ln⟩;rcases B.sq with(z|⟨o,z⟩)|z
 ·exact .inl (.inl (Jg h T z λ_ y=>nomatch y))
 ·exact .inl (.inr ⟨o,Jg h T z λ_ y=>nomatch y⟩)
 ·exact .inr z
theorem Kk{H H':Hp}{a t r P:Addr}{q:Str}{ns:List Int}{c:Int}(B:aW K H a t r ns c)(A:L2.Apart t r H H')(T:Jx H P q):Jx H' P q:=by
 obtain⟨ps,h1,h2,h3⟩:=T;exact⟨ps,B.keep A h1 (λ_ z=>nomatch z),h2,λp cv z=>let ⟨b,z1,z2⟩:=h3 p cv z;⟨b,z1,B.keep A z2 λ_ z=>nomatch z⟩⟩
theorem vB{H H':Hp}{P P2:Addr}{q q2:Str}(h:bq P H H')(T:Jx H P q)(ne:P2≠P)(T2:Jx H P2 q2):Jx H' P2 q2:=by
 obtain⟨ps,h1,h2,h3⟩:=T2;exact⟨ps,h P2 _ h1 ne,h2,λp cv z=>let ⟨b,z1,z2⟩:=h3 p cv z;⟨b,z1,Jg h T z2 λ_ z=>nomatch z⟩⟩
structure Lg(H:Hp)(π:Plan)(rows:List (List Cell))(pv rv:V)(a ac ak as rq P2:Addr)(yr:List V):Prop where
 dp:ag H pv (ZH π)
 pa:aH H pv π a ac ak as
 dr:ag H rv (Zr rows)
 gr:H rq=some (.lst yr)
 tr:af H yr (rows.map λr=>Dv.tup ((aK 9 π r).map Rk.dv))
 tb:Jx H P2 kY
section
variable {H H':Hp}{π:Plan}{rows:List (List Cell)}{pv rv:V}{a ac ak as rq P2:Addr}{yr:List V}
theorem Lg.but(h:Lg H π rows pv rv a ac ak as rq P2 yr)(B:bq P2 H H')(T:Jx H' P2 kY):Lg H' π rows pv rv a ac ak as rq P2 yr:=
 have kp:=B.Jr h.tb
 ⟨h.dp.keep kp,⟨h.pa.v,kp _ _ h.pa.a,kp _ _ h.pa.c,kp _ _ h.pa.k,kp _ _ h.pa.s⟩,h.dr.keep kp,Jg B h.tb h.gr (λ_ z=>nomatch z),h.tr.keep kp,T⟩
theorem Lg.same(h:Lg H π rows pv rv a ac ak as rq P2 yr)(S:Qi H H'):Lg H' π rows pv rv a ac ak as rq P2 yr:=h.but (bq.of S) (h.tb.same S)
theorem Lg.drawn{b t r:Addr}{ns:List Int}{c:Int}(h:Lg H π rows pv rv a ac ak as rq P2 yr)(B:aW K H b t r ns c)(A:L2.Apart t r H H'):Lg H' π rows pv rv a ac ak as rq P2 yr:=
 have kp:=B.Jr A
 ⟨h.dp.keep kp,⟨h.pa.v,kp _ _ h.pa.a,kp _ _ h.pa.c,kp _ _ h.pa.k,kp _ _ h.pa.s⟩,h.dr.keep kp,B.keep A h.gr (λ_ z=>nomatch z),h.tr.keep kp,Kk B A h.tb⟩
theorem Lg.lp{mixed:List (List Cell)}{mx:Addr}{ym:List V}(h:Lg H π rows pv rv a ac ak as rq P2 yr)(gm:H mx=some (.lst ym))(tm:af H ym (mixed.map Kl)):Lp H π rows mixed pv rv a ac ak as mx rq P2 ym yr:=⟨h.dp,h.pa,h.dr,gm,tm,h.gr,h.tr,h.tb⟩
end
theorem VH{H:Hp}:∀{xs:List V}{ds:List Dv},af H xs ds->af H xs.reverse ds.reverse
 |[],[],.nil=>.nil
 |x::xs,d::ds,.cons h t=>by
  rw[List.reverse_cons,List.reverse_cons];exact(VH t).append (.cons h .nil)
theorem yS(xs:List V)(d:Nat):WE xs (some (d:Int)) none=xs.drop d:=by
 unfold WE;rw[HT.J3,HT.KU]
 by_cases h:d<=xs.length
 ·rw[Nat.min_eq_left h,List.take_of_length_le (by rw[nC];lia)]
 ·rw[Nat.min_eq_right (by lia),List.drop_of_length_le (ng _),List.drop_of_length_le (by lia),List.take_nil]
theorem yT(xs:List V)(d:Nat):WE xs none (some (d:Int))=xs.take d:=by
 unfold WE;rw[HT.J3,HT.KU,List.drop_zero,Nat.sub_zero]
 by_cases h:d<=xs.length
 ·rw[Nat.min_eq_left h]
 ·rw[Nat.min_eq_right (by lia),List.take_of_length_le (ng _),List.take_of_length_le (by lia)]
theorem yU(O:Own mg)(OT:mg "tuple"=none)(OL:mg "list"=none)(OE:mg "enumerate"=none)(dQ:mg "sorted"=none)(OS:mg "set"=none)(OZ:mg "zip"=none)(gh:Def P w K mg base 7 "breaks" ["plan","rows"] JW)(hW:Def P w K mg base 7 "in_order" ["plan","rows"] (Xc P2))(hV:Def P w K mg base 8 "_law_feet" ["_law_plan","_law_rows","_law_word_so"] Xd)
  (gC:Def P w K mg base 4 "same" ["one","other"] (Xq K)) (h8:Def P w K mg base 1 "_law_plus" ["_law_one","_law_two"] KI) (hJ:Def P w K mg base 1 "_law_draw" ["_law_script","_law_town","_law_many"] (Xk K)) {A:Around} {outer:List Env} {s:Shared} {H:Hp} {E:XK} (hr:JC 9 (A.deeper (envOfC "law" (Qd JD) s.heap.objs.size f (.ref ca)))):
  ∃u2,bL (qk (aE P w) P w K mg base Eb "law" (Qd JD) f (.ref ca) A outer s H E).dG ((Qr JD).drop 5) u2/\
   ∀(D:Ends)(H3:Hp)(π:Plan)(rows:List (List Cell))(pv rv:V)(a ac ak as rq b t r dq:Addr)(ns:List Int)(c:Int)(yr xd:List V)(Ey:List Nat)(y4 y7 y8:Option V),Lg H3 π rows pv rv a ac ak as rq P2 yr->aW K H3 b t r ns c->c<=5000->H3 dq=some (.lst xd)->af H3 xd ((Ey.map λi=>rows.getD i []).map Kl)->QB rows.length (Yv λi=>aK 9 π (rows.getD i [])) Ey->ao π->π.keys.Nodup->π.keys.length<=10->rows.length<=12->(∀r∈rows,aq π r)->(∀H',D.rt (.bl true) H')->
    u2 D [some (.ref b),some (.ref t),some pv,some rv,y4,some (.ref ak),some (.ref as),y7,y8,some (.ref dq),none,none,none,none,none,none,none,none,none,none,some (.ref rq)] H3:=by
 have hz:1000<=sizeLine:=by decide
 obtain⟨u3,eZ,h2⟩:=yR (P:=P) (w:=w) (K:=K) (base:=base) (f:=f) (outer:=outer) (H:=H) (E:=E) O OT OE dQ OS OZ gh hW hV gC h8 hr;refine⟨_,(Qe (Xt (Ji (jb (n:=8) (wA hr)) (hW.pe hr (by decide) ae Qm (Qa (pv 2) (Qa (pv 3) Qc))) (Qu Qo ae OT boot_tuple (Qa (pv 9) Qc)) (Jm _)) (Qk (Qy UB)) Js)
   (Qe (vO (i:=10) (j:=11) ae Q2.nd ae ae (by decide) ae ae (Qa (Qu WS ae OL boot_list (Qa (pv 3) Qc)) (Qa (hJ.pe hr (by decide) ae Qm (Qa (pv 0) (Qa (pv 1) (Qa Qf Qc)))) Qc)) ae)
   (Qe (Qz (i:=10) Q2.nd ae (Or.inl ae) (QF vY (Xy qJ (pv 10) (ZZ (pv 11)) KW) (Xy qJ (pv 10) KW (ZZ (pv 11)))))
   (Qe (Xt (Ji zQ (hJ.pe hr (by decide) ae Qm (Qa (pv 0) (Qa (pv 1) (Qa Qf Qc)))) Qf (Jm _)) (Qk (Qz (i:=10) Q2.nd ae (Or.inl ae) (x5 (pv 10) (ZZ (zP YI Qf))))) Js)
   eZ)))),?_⟩
 intro D H3 π rows pv rv a ac ak as rq b t r dq ns c yr xd Ey y4 y7 y8 G B hc gd td OA Z nd hk fM Y k;dsimp only[QD,JF,JK];refine zE ?_;refine⟨_,ae,_,ae,pv,rv,π,rows,ae,G.dp,Z,hk,G.dr,Y,by lia,G.tb,λu H4 AQ B4 T4 uE D4=>?_⟩;obtain rfl:=w8 uE OA;have G4:=G.but B4 T4;have HI:=zF B B4 G.tb;have HJ:=Jg B4 G.tb gd (λ_ z=>nomatch z);have HK:=td.keep (B4.Jr G.tb);refine⟨_,ae,dq,xd,ae,.inl ⟨.inl (.inl HJ),λl hl=>?_⟩⟩;have Sl:=Qi.new (o:=.tup xd) hl;refine⟨_,_,D4.same Sl,JA HK hl,KR _,false,?_,WF ?_⟩
 ·show V.bl (!(Dv.aC _ _))=_;rw[show Dv.aC (Zr (AQ.map λi=>rows.getD i [])) (.tup ((AQ.map λi=>rows.getD i []).map Kl))=true from Dv.ZN _];rfl
 have G5:=G4.same Sl;have Ez:=HI.same Sl;generalize upd H4 l (.tup xd)=H5 at G5 Ez;clear G4 HI HJ HK D4 Sl G B gd td B4 T4;obtain⟨R,xr,rfl,gR,tR⟩:=ag.Za G5.dr;have HL:xr.length=rows.length:=by rw[tR.length,m7]
 refine⟨_,ae,R,xr,ae,.inr (.inl (.inl gR)),λmx HM=>?_⟩;have S6:=Qi.new (o:=.lst xr) HM;have G6:=G5.same S6;have rG:=Ez.same S6;have EA:upd H5 mx (.lst xr) mx=some (.lst xr):=Qb;have EB:=tR.same S6;generalize upd H5 mx (.lst xr)=H6 at G6 rG EA EB;refine rG.draw rfl rfl (λR h=>h) (by decide) (by decide) (by lia) λd H7 hd AX A7=>?_;have G7:=G6.drawn rG A7;have EC:=rG.keep A7 EA (λ_ z=>nomatch z);have HN:=EB.keep (rG.Jr A7);refine⟨_,_,ae,?_⟩;clear G5 Ez gR tR G6 rG EA EB A7 S6 HM;dsimp only[QD,JF,JK,Q6,List.set_cons_succ,List.set_cons_zero];refine⟨_,ae,_,ae,_,ae,mx,xr,ae,.inl (.inl EC),λp1 rD=>?_⟩;rw[yS];have S8:=Qi.new (o:=.lst (xr.drop d)) rD;have G8:=G7.same S8;have ED:=AX.same S8;have EE:=S8 _ _ EC;have EF:upd H7 p1 (.lst (xr.drop d)) p1=some (.lst (xr.drop d)):=Qb;have AY:=HN.same S8;generalize upd H7 p1 (.lst (xr.drop d))=H8 at G8 ED EE EF AY;refine⟨_,ae,_,ae,_,ae,mx,xr,ae,.inl (.inl EE),λp2 lV=>?_⟩;rw[yT];have S9:=Qi.new (o:=.lst (xr.take d)) lV;have HQ:upd H8 p2 (.lst (xr.take d)) p2=some (.lst (xr.take d)):=Qb;refine⟨p1,p2,xr.drop d,xr.take d,ae,ae,S9 _ _ EF,HQ,by rw[nC,nB];lia,λp3 lH=>?_⟩;have Sa:=Qi.new (o:=.lst (xr.drop d++xr.take d)) lH;have Ga:=G8.same (S9.trans Sa);have uM:=ED.same (S9.trans Sa);have EG:upd (upd H8 p2 (.lst (xr.take d))) p3 (.lst (xr.drop d++xr.take d)) p3=some (.lst (xr.drop d++xr.take d)):=Qb;have uN:=((AY.drop d).append (AY.take d)).same (S9.trans Sa);rw[←List.map_drop, ←List.map_take, ←List.map_append]at uN;have EH:(rows.drop d++rows.take d).Perm rows:=by
  have:=List.perm_append_comm (l₁:=rows.drop d) (l₂:=rows.take d);rwa[List.take_append_drop]at this
 generalize upd (upd H8 p2 (.lst (xr.take d))) p3 (.lst (xr.drop d++xr.take d))=Ha at Ga uM EG uN;generalize xr.drop d++xr.take d=ym at EG uN;generalize rows.drop d++rows.take d=mixed at uN EH;clear S8 G8 ED EE EF AY S9 HQ Sa G7 AX EC HN rD lV lH;dsimp only[QD,JF,JK,Q6,List.set_cons_succ,List.set_cons_zero];refine zE (uM.draw ae ae (λR h=>h) (by decide) (by decide) (by lia) λd2 Hb hd2 Bgb Ab=>?_);have Gb:=Ga.drawn uM Ab;have HR:=uM.keep Ab EG (λ_ z=>nomatch z);have HS:=uN.keep (uM.Jr Ab);refine⟨ae,_,ae,iW (λ_=>?_) (λ_=>?_)⟩
 ·refine⟨_,ae,1,ae,_,ae,p3,ym,ae,ae,.inl (.inl HR),λp4 rF=>?_⟩;have Sc:=Qi.new (o:=.lst ym.reverse) rF;refine h2 D _ π rows mixed.reverse pv (.ref R) a ac ak as p4 rq ym.reverse yr _ _ _ _ _ _ _ ((Gb.same Sc).lp Qb ?_) Z nd hk fM Y (mixed.reverse_perm.trans EH) k;rw[List.map_reverse];exact(VH HS).same Sc
 ·exact h2 D Hb π rows mixed pv (.ref R) a ac ak as p3 rq ym yr _ _ _ _ _ _ _ (Gb.lp HR HS) Z nd hk fM Y EH k
end
noncomputable abbrev HU:Str:="law.<locals>.<lambda>"
section
variable {P:Program}{w:World}{K:Frag}{mg:Str->Option Value}{base:Heap}{f:Addr}{fd:FuncData}{ca Pa P2:Addr}
theorem yV(O:Own mg)(OT:mg "tuple"=none)(OL:mg "list"=none)(OE:mg "enumerate"=none)(dQ:mg "sorted"=none)(OS:mg "set"=none)(OZ:mg "zip"=none)(L:bj mg base ca Pa)(ne:P2≠Pa)(gh:Def P w K mg base 7 "breaks" ["plan","rows"] JW)(hW:Def P w K mg base 7 "in_order" ["plan","rows"] (Xc P2))(hV:Def P w K mg base 8 "_law_feet" ["_law_plan","_law_rows","_law_word_so"] Xd)
  (gC:Def P w K mg base 4 "same" ["one","other"] (Xq K)) (h8:Def P w K mg base 1 "_law_plus" ["_law_one","_law_two"] KI) (hJ:Def P w K mg base 1 "_law_draw" ["_law_script","_law_town","_law_many"] (Xk K)) (gg:Def P w K mg base 1 "_law_rank" ["_law_part"] Ki) {A:Around} {outer:List Env} {s:Shared} {H:Hp} {E:XK} (hr:JC 9 (A.deeper (envOfC "law" (Qd JD) s.heap.objs.size f (.ref ca)))):
  ∃u2,bL (qk (aE P w) P w K mg base Eb "law" (Qd JD) f (.ref ca) A outer s H E).dG ((Qr JD).drop 3) u2/\
   ∀(D:Ends)(H3:Hp)(π:Plan)(rows:List (List Cell))(pv rv:V)(a ac ak as b t r:Addr)(ns:List Int)(c:Int)(y7:Option V),ag H3 pv (ZH π)->aH H3 pv π a ac ak as->ag H3 rv (Zr rows)->Jx H3 P2 kY->Jx H3 Pa HU->aW K H3 b t r ns c->c<=5000->ao π->π.keys.Nodup->π.keys.length<=10->rows.length<=12->(∀r∈rows,aq π r)->(∀H',D.rt (.bl true) H')->
    u2 D [some (.ref b),some (.ref t),some pv,some rv,some (.ref ac),some (.ref ak),some (.ref as),y7,none,none,none,none,none,none,none,none,none,none,none,none,none] H3:=by
 have hz:1000<=sizeLine:=by decide
 obtain⟨u3,eZ,h2⟩:=yU (P:=P) (w:=w) (K:=K) (base:=base) (f:=f) (outer:=outer) (H:=H) (E:=E) O OT OL OE dQ OS OZ gh hW hV gC h8 hJ hr;refine⟨_,(Qe (Qz (i:=20) Q2.nd ae (Or.inr ae) (Ke (NB:=[".0","_law_row"]) (FR:=["_law_columns","_law_keys"]) (fi:=[4,5]) ae ⟨ae,by decide+kernel,by decide+kernel,by decide+kernel,by decide+kernel⟩ ae ae (ZJ (pv 3)) (λ_ _ _=>(Qg (i:=1) (show([".0","_law_row","_law_columns","_law_keys"]:List Str).Nodup by decide+kernel) ae (Or.inr ae))) (λ_ _ _=>QU) (λ_ _ _=>(Qu (Zx (K0:=K) ae) ae OT boot_tuple (Qa (Ke (NB:=[".0","_law_name"]) (FR:=["_law_columns","_law_row"]) (fi:=[2,1]) ae ⟨ae,by decide+kernel,by decide+kernel,by decide+kernel,by decide+kernel⟩ ae ae (zq (K0:=K) ae (pv 3)) (λ_ _ _=>(Qg (i:=1) (show([".0","_law_name","_law_columns","_law_row"]:List Str).Nodup by decide+kernel) ae (Or.inl ae))) (λ_ _ _=>QU) (λ_ _ _=>(gg.pe hr (by decide) ae Qm (Qa (Qv Qj (pv 3) (kE (K0:=K) ae plainAttrs_tuple slot_tuple_index type_tuple_index KC (pv 2) (Qa (pv 1) Qc)) (λ_ _=>rfl)) Qc)))) Qc)))))
   (Qe (X5 (NB:=[".0","_law_at"]) (FR:=["_law_rows"]) (fi:=[3]) (iy:=9) ae ⟨ae,by decide+kernel,by decide+kernel,by decide+kernel,by decide+kernel,by decide+kernel⟩ ae ae (JP (Ui (x:="_law_at") (own:=false) (FR:=["_law_ranks"]) (fi:=[20]) Gr hr ae dQ (x6 ae ae OL ae O.range (Qa (QW Q0 ae O.len boot_len (Qa (pv 3) Qc)) Qc) ae) L ae ae ae ae ae ae ⟨ae,by decide+kernel,λ_ _=>rfl,λ_=>rfl⟩ (by decide+kernel) ae (by decide+kernel) ae (λ_ _ _ _ _=>rfl) (λ_ _ _ _ _ _ fg=>(QV (Qa (Qv K7 (pv 1) (pv 0) (λ_ _=>rfl)) (Qa (pv 0) Qc)))))) (λ_ _ _=>(Qg (i:=1) (show([".0","_law_at","_law_rows"]:List Str).Nodup by decide+kernel) ae (Or.inl ae))) (λ_ _ _=>QU) (λ_ _ _=>(Qv Qj (pv 2) (pv 1) (λ_ _=>rfl))) Q2.nd ae (Or.inl ae) ae)
   eZ)),?_⟩
 intro D H3 π rows pv rv a ac ak as b t r ns c y7 dp pa dr tb tl B hc Z nd hk fM Y k;obtain⟨R,xr,rfl,gR,tR⟩:=ag.Za dr;have HL:xr.length=rows.length:=by rw[tR.length,m7]
 have Hg:(π.keys.map V.str).length=π.keys.length:=m7 ..;have fh:(aA π).length=π.keys.length:=by unfold aA Qt;rw[m7]
 dsimp only[QD,JF,JK];refine QQ (fv:=[.ref ac,.ref ak]) (zJ (K:=K) (a:=R) (xs:=xr)) (rows.map λr=>Dv.tup ((aK 9 π r).map Rk.dv)) (by rw[m7,HL]) (λR' h=>⟨_,ae,R,ae,⟨_,.inl (.inl gR)⟩,h H3 (Qi.refl _)⟩) rfl (λH1 S=>.inl (.inl (S _ _ gR))) ?_ ?_ (by lia)
 ·rintro i v H1 H2 d R' hd S1 ⟨rfl,hv⟩ kd;obtain⟨row,bH,EI⟩:=zr tR hv;obtain⟨ra,rx,rfl,rl,uv⟩:=ag.Za EI;have Yr:=Y row (nF bH);rw[nE,bH]at hd;obtain rfl:=nh hd;refine⟨ae,n9 ?_⟩;refine QQ (fv:=[.ref ac,.ref ra]) (zJ (K:=K) (a:=ak) (xs:=π.keys.map V.str)) ((aK 9 π row).map Rk.dv) (by unfold aK;rw[m7,m7,fh,Hg]) (λR' h=>⟨_,ae,ak,ae,⟨_,.inl (.inl (S1 _ _ pa.k))⟩,h H2 (Qi.refl _)⟩) rfl (λH3 S=>.inl (.inl ((S1.trans S) _ _ pa.k))) ?_ ?_ (by lia)
  ·rintro j y H4 H5 d R'' hd S4 ⟨rfl,hy⟩ D';have S5:=S1.trans S4;obtain⟨nm,ff,rfl⟩:=Y0 hy;obtain⟨e1,e2⟩:=X4 (Ve Z (nF ff));have HV:(aA π)[j]? =some (Vc π.cols nm):=by unfold aA Qt;rw[nE,ff];rfl
   unfold aK at hd;rw[nK,nE,HV]at hd;obtain rfl:=nh hd;obtain⟨c1,Op⟩:=XG Z Yr HV;obtain⟨w1,fK,d7⟩:=uv.get (i:=Vc π.cols nm) (d:=(row.getD (Vc π.cols nm) (.txt "")).dv) (by rw[nE,c1];rfl);refine⟨ae,_,ae,_,ae,(.inr (.inr (.inr (.inr ⟨ae,_,S5 _ _ pa.c⟩)))),_,ae,ac,π.cols,nm,_,ae,ae,.inl (S5 _ _ pa.c),e1,e2,?_⟩;exact⟨ra,rx,_,w1,ae,ae,.inl (S5 _ _ rl),QZ fK,w1,_,ae,d7.same S5,Op,λu H7 S7 D7=>D' u H7 S7 D7⟩
  ·rintro ys H4 p4 S4 t4 rF;have S6:=Qi.new (o:=.lst ys) rF;exact⟨p4,ys,ae,.inl ⟨.inl (.inl Qb),λp6 rp=>kd _ _ ((S4.trans S6).trans (Qi.new rp)) (JA (t4.same S6) rp)⟩⟩
 rintro yr H4 rq S4 t4 EJ;have S5:=S4.trans (Qi.new (o:=.lst yr) EJ);have gq:upd H4 rq (.lst yr) rq=some (.lst yr):=Qb;have tq:=t4.same (Qi.new (o:=.lst yr) EJ);generalize upd H4 rq (.lst yr)=H5 at S5 gq tq;dsimp only[QD,JF,JK,List.set_cons_succ,List.set_cons_zero];have G5:Lg H5 π rows pv (.ref R) a ac ak as rq P2 yr:=⟨dp.same S5,pa.same S5,dr.same S5,gq,tq,tb.same S5⟩;have B5:=B.same S5;have lK:=tl.same S5;have Hw:yr.length=rows.length:=by rw[tq.length,m7]
 obtain⟨_,_,eR,EK,EL⟩:=ag.Za G5.dr;cases eR;clear dp pa dr tb tl B S4 t4 EJ S5 gq tq;refine JE ?_;refine⟨_,ae,R,_,ae,.inr (.inl (.inl EK)),rows.length,by rw[EL.length,m7],by lia,λnl uu=>?_⟩;have S6:=Qi.new (o:=.lst (J0 rows.length)) uu;have OB:(J0 rows.length).length=rows.length:=by unfold J0;rw[m7,List.length_range]
 have nv:∀i v,(J0 rows.length)[i]? =some v->v=.int (i:Nat)/\i<rows.length:=λi v h=>by
  unfold J0 at h;rw[nE]at h
  by_cases hi:i<rows.length
  ·rw[List.getElem?_range hi]at h;exact⟨(nh h).symm,hi⟩
  ·rw[List.getElem?_eq_none (by rw[List.length_range];lia)]at h;cases h
 refine⟨nl,J0 rows.length,[.ref rq],ae,.inr (.inl (.inl Qb)),by lia,ae,lK.same S6,λc' H7 Is T7 B7=>?_⟩;have Bt:bq Pa H5 H7:=(bq.of S6).trans B7;have G7:Lg H7 π rows pv (.ref R) a ac ak as rq P2 yr:=
  have kp:=Bt.Jr lK
  ⟨G5.dp.keep kp,⟨G5.pa.v,kp _ _ G5.pa.a,kp _ _ G5.pa.c,kp _ _ G5.pa.k,kp _ _ G5.pa.s⟩,G5.dr.keep kp,Jg Bt lK G5.gr (λ_ z=>nomatch z),G5.tr.keep kp,vB Bt lK ne G5.tb⟩
 have AX:=zF B5 Bt lK;have OC:=Bt.Jr lK _ _ EK;have OD:=EL.keep (Bt.Jr lK);clear B7 S6 uu Bt lK B5 G5 EK EL;refine⟨λi kv H8=>Qi H7 H8/\∀j v,kv[j]? =some v->∃l w0,v=.ref l/\H8 l=some (.tup [w0,.int (j:Nat)])/\ag H8 w0 (.tup ((aK 9 π (rows.getD j [])).map Rk.dv)),⟨Qi.refl _,λj v e=>nomatch e⟩,?_,?_⟩
 ·rintro i kv H8 v hv bI ⟨S8,pw⟩;refine⟨S8 _ _ Is,?_⟩;obtain⟨rfl,hi⟩:=nv i v hv;obtain⟨w0,EM,EN⟩:=G7.tr.get (i:=i) (d:=.tup ((aK 9 π (rows.getD i [])).map Rk.dv)) (by rw[nE,List.getElem?_eq_getElem hi,List.getD_eq_getElem?_getD,List.getElem?_eq_getElem hi];rfl);refine⟨_,ae,_,ae,rq,yr,_,w0,ae,ae,.inl (S8 _ _ G7.gr),QZ EM,_,ae,fe,λp9 iz=>?_⟩;have S9:=Qi.new (o:=.tup [w0,.int (i:Nat)]) iz;refine⟨S8.trans S9,λj v e=>?_⟩
  by_cases hj:j<kv.length
  ·rw[List.getElem?_append_left hj]at e;obtain⟨l,w2,h1,h3,h4⟩:=pw j v e;exact⟨l,w2,h1,S9 _ _ h3,h4.same S9⟩
  ·rw[List.getElem?_append_right (by lia)]at e;have ej:j=kv.length:=by
    have:=(List.getElem?_eq_some_iff.mp e).1;simp at this;lia
   subst ej;rw[Nat.sub_self]at e;obtain rfl:=nh e;rw[bI];exact⟨p9,w0,ae,Qb,EN.same (S8.trans S9)⟩
 ·rintro kv H8 bI ⟨S8,pw⟩;refine⟨Yv λi=>aK 9 π (rows.getD i []),λ_=>vc _,λ_=>⟨λi=>[.tup ((aK 9 π (rows.getD i [])).map Rk.dv),.int (i:Nat)],λi v e=>?_,λi j _ _=>?_,λi j=>rfl⟩,λps hs p9 iz=>?_⟩
  ·obtain⟨l,w0,rfl,h3,h4⟩:=pw i v e;obtain⟨l0,y0,rfl,g0,t0⟩:=ag.Za h4;refine⟨l,_,ae,h3,.cons h4 (.cons .int .nil),?_,l0,y0,ae,g0⟩;refine ZV λd hd=>?_;rcases List.mem_cons.mp hd with rfl|hd
   ·have:=ZW (aK 9 π (rows.getD i []));unfold toD at this;lia
   ·rw[List.mem_singleton.mp hd];simp[Dv.depth]
  ·have:=Wu (aK 9 π (rows.getD i [])) (aK 9 π (rows.getD j []));show Dv.Vn [Dv.tup ((aK 9 π (rows.getD i [])).map Rk.dv),.int (i:Nat)] [Dv.tup ((aK 9 π (rows.getD j [])).map Rk.dv),.int (j:Nat)];generalize aK 9 π (rows.getD i [])=x at this ⊢;generalize aK 9 π (rows.getD j [])=y at this ⊢;simp[Dv.Vn,Dv.cE];exact λ_=>this
  ·rw[OB]at hs;have S9:=Qi.new (o:=.lst (ps.map λi=>(J0 rows.length).getD i .ah)) iz;have lps:=hs.len;refine⟨p9,ae,⟨_,.inl (.inl Qb)⟩,?_⟩;have iA:=S8.trans S9;have g9:upd H8 p9 (.lst (ps.map λi=>(J0 rows.length).getD i .ah)) p9=some (.lst (ps.map λi=>(J0 rows.length).getD i .ah)):=Qb;generalize upd H8 p9 (.lst (ps.map λi=>(J0 rows.length).getD i .ah))=H9 at iA g9;refine QQ (fv:=[.ref R]) (kz (K:=K) (a:=p9) (xs:=ps.map λi=>(J0 rows.length).getD i .ah)) ((ps.map λi=>rows.getD i []).map Kl) (by rw[m7,m7,m7]) (λR' h=>h H9 (Qi.refl _)) rfl (λH1 S=>.inl (.inl (S _ _ g9))) ?_ ?_ (by rw[m7];lia)
   ·rintro j v pi dA d R' hd Pi ⟨rfl,hv⟩ kd;rw[nE]at hv;rw[nE,nE]at hd;cases ej:ps[j]? with
    |none=>rw[ej]at hv;cases hv
    |some m=>
    rw[ej]at hv hd;have hm:=hs.lt m (nF ej);have em:(J0 rows.length).getD m .ah=.int (m:Nat):=by
     unfold J0;rw[List.getD_eq_getElem?_getD,nE,List.getElem?_range hm];rfl
    obtain rfl:=nh hd;obtain rfl:=(nh hv).symm.trans em;obtain⟨w0,EM,EN⟩:=OD.get (i:=m) (d:=Kl (rows.getD m [])) (by rw[nE,List.getElem?_eq_getElem hm,List.getD_eq_getElem?_getD,List.getElem?_eq_getElem hm];rfl);exact⟨ae,_,ae,_,ae,R,_,_,w0,ae,ae,.inl ((iA.trans Pi) _ _ OC),QZ EM,kd _ _ (Qi.refl _) (EN.same (iA.trans Pi))⟩
   ·rintro xd Hb dq Sb tb OF;have Sc:=Qi.new (o:=.lst xd) OF;have HW:=(iA.trans Sb).trans Sc;exact h2 D _ π rows pv (.ref R) a ac ak as rq b t r dq ns c yr xd ps _ _ _ (G7.same HW) (AX.same HW) hc Qb (tb.same Sc) hs Z nd hk fM Y k
end
end Lw
namespace L2
open PySem PySem.Spec PyProof.Rows
noncomputable def kg(P P2:Addr)(H:Hp):Prop:=H P=some (.br #[])/\H P2=some (.br #[])/\∀b,b≠P->b≠P2->H b=none\/∃o xs,H b=some (.bK o (.lst xs))
theorem qi{Pr:Program}{w:World}{K:Frag}{mg mb:Str->Option Value}{CX:fE}{k:Nat}{fa a c P c2 P2:Addr}{fd:FuncData}{x:Str}{sp:Sp}{s₁:Shared}{vs:List Value}{ns:List Int}
  (KX:K.In s₁.heap) (nL:VZ K=true) (nT:noTabs K=true) (iE:s₁.heap.Ns mainGlobals mg) (hb:s₁.heap.Ns builtinsNs mb) (OG:∀x:Str,x≠"__name__"->mb x=bootBuiltins x) (EO:s₁.heap.NoLimit) (hg:s₁.gens= #[])
  (hC:CodeHd s₁.heap c P) (hP:s₁.heap.get? P=some (tabObj #[])) (AZ:CodeHd s₁.heap c2 P2) (fP:s₁.heap.get? P2=some (tabObj #[])) (A0:P≠P2) (OH:∃bm ob,mg "__builtins__"=some (.ref bm)/\bm≠builtinsNs/\s₁.heap.get? bm=some ob/\ob.cls=.type "module"/\ob.dict=some builtinsNs/\ob.data=.plain)
  (ha:s₁.heap.get? a=some {cls:=.type "list",data:=.seq vs.toArray}) (hi:IntsAre vs ns) (hl:ns.length<=sizeLine) (hr:JC k callerA)
  (F:∀base:Heap,K.In base->base.Ns mainGlobals mg->bj mg base c P->bj mg base c2 P2->aw Pr w K mg base CX k fa fd [x] sp) (ck:∀(s:Shared)(u:Value),BindsTo s fd ⟨[u],[]⟩ [(x,u)])
  (cZ:∀H:Hp,kg P P2 H->(∃o,H a=some (.bK o (.lst (ns.map V.int))))->sp [.ref a] H (λv _=>v=.bl true) λ_ _ _=>False)
  (ER:∀H e s',CX [] H s₁ (λ_ _ _=>False) e s'->False):
  codeAny (model Pr w) callerA (.call (.ref fa) ⟨[.ref a],[]⟩) (λr s'=>r=.ok (.ret (.bool true))/\OldK s₁.heap s'.heap/\s'.os=s₁.os/\AllBare s'.gens) s₁:=by
 have rv:=WW hi;have OI:=hi.length;have OJ:P≠a:=λz=>by rw[z,ha]at hP;cases hP
 have ES:P2≠a:=λz=>by rw[z,ha]at fP;cases fP
 have HX:∀p:Addr,s₁.heap.get? p=some (tabObj #[])->K.lookup p=none:=λp hp=>by
  cases q:K.lookup p with
  |none=>rfl
  |some o=>
   have e:=KX p o q;rw[hp]at e;cases e;have z:=List.all_eq_true.mp nT (p,_) (mem_of_lookupK q);exact absurd (show false=true from z) Bool.false_ne_true
 have OK:=HX P hP;have ET:=HX P2 fP;have core:∀H:Hp,kg P P2 H->(∃o,H a=some (.bK o (.lst (ns.map V.int))))->aS Pr w H s₁.heap->(∀b,H b≠none->b=a\/b=P\/b=P2)->(H a≠none->K.lookup a=none)->
   codeAny (model Pr w) callerA (.call (.ref fa) ⟨[.ref a],[]⟩) (λr s'=>r=.ok (.ret (.bool true))/\OldK s₁.heap s'.heap/\s'.os=s₁.os/\AllBare s'.gens) s₁:=by
  intro H hO hS aj hA hK;have FM:∀{b:Addr}{o:Obj},s₁.heap.get? b=some o->H b=none->(zH s₁.heap H).get? b=some o:=λe n=>zK e n;have HY:∀{b:Addr}{o:Obj},s₁.heap.get? b=some o->(∀vs n,o.data≠ .seq vs n)->(o.cls≠ .none)->H b=none:=λ{b o} e d1 d2=>by
   cases q:H b with
   |none=>rfl
   |some u=>
    rcases hA b (by rw[q];simp)with z|z|z
    ·subst z;rw[ha]at e;cases e;exact absurd rfl (d1 _ _)
    ·subst z;rw[hP]at e;cases e;exact absurd rfl d2
    ·subst z;rw[fP]at e;cases e;exact absurd rfl d2
  have rP:∀{b:Addr}{o:Obj}{es:Array DictEntry}{ep:Nat},s₁.heap.get? b=some o->o.data=.dict es ep->H b=none:=λ{b o es ep} e d=>by
   cases q:H b with
   |none=>rfl
   |some u=>
    rcases hA b (by rw[q];simp)with z|z|z
    ·subst z;rw[ha]at e;cases e;cases d
    ·subst z;rw[hP]at e;cases e;cases d
    ·subst z;rw[fP]at e;cases e;cases d
  have A4:∀{b:Addr}{m:Str->Option Value},s₁.heap.Ns b m->(zH s₁.heap H).Ns b m:=λ{b m}⟨o,es,ep,e,d,r⟩=>⟨o,es,ep,FM e (rP e d),d,r⟩;have HZ:K.In (zH s₁.heap H):=λb o e=>FM (KX b o e) (by
   cases q:H b with
   |none=>rfl
   |some u=>
    rcases hA b (by rw[q];simp)with z|z|z
    ·subst z;rw[hK (by rw[q];simp)]at e;cases e
    ·subst z;rw[OK]at e;cases e
    ·subst z;rw[ET]at e;cases e)
  have hM:Mod K mg (zH s₁.heap H):=⟨HZ,A4 iE,⟨mb,A4 hb,OG⟩,let ⟨mc,h1,h2⟩:=EO;⟨mc,A4 h1,h2⟩⟩;have e0:fS Pr w K mg (zH s₁.heap H) callerA [] s₁ H:=⟨ae,hM,λb o e=>k6 e,Nat.le_of_eq (ql _ _),trivial,λb hb=>absurd (show b∈([]:List Addr)from hb) (by simp),aj,.of_eq hg⟩;have LL:∀c P:Addr,CodeHd s₁.heap c P->bj mg (zH s₁.heap H) c P:=λc P hC=>by
   obtain⟨o,sB,file,tf,flags,tg,OM,text,tt,e1,r1,r2,r⟩:=hC;obtain⟨bm,ob,b1,b2,b3,b4,b5,b6⟩:=OH;exact⟨⟨o,sB,file,tf,flags,tg,OM,text,tt,FM e1 (HY e1 (λvs n z=>by rw[r2]at z;cases z) λz=>by rw[r1]at z;cases z),r1,r2,r⟩,
    ⟨bm,ob,b1,b2,FM b3 (HY b3 (λvs n z=>by rw[b6]at z;cases z) λz=>by rw[b4]at z;cases z),b4,b5,b6⟩⟩
  refine codeAny_mono ((F _ HZ (A4 iE) (LL c P hC) (LL c2 P2 AZ)).run callerA [] s₁ H ⟨[.ref a],[]⟩ [.ref a] [.ref a] _ _ hr e0 (ck s₁ (.ref a)) (.cons ae .nil) (cZ H hO hS)) λr s' h=>?_;cases r with
  |error e=>exact(ER H e s' h).elim
  |ok fl=>
   cases fl with
   |next=>exact False.elim h
   |brk=>exact False.elim h
   |cont=>exact False.elim h
   |ret u=>
    obtain⟨v,H',os,bare,un,uO,r',q⟩:=h;have q':v=.bl true:=q;subst q';obtain rfl:u=Value.bool true:=r';have iQ:∀p,H p=some (.br #[])->∃ps,s'.heap.get? p=some (tabObj ps):=λp hp=>by
     obtain⟨more,e⟩:=un.bb p #[] hp;exact⟨_,uO p _ e⟩
    have keep:∀b o,b≠P->b≠P2->s₁.heap.get? b=some o->s'.heap.get? b=some o:=λb o fW cX e=>by
     cases q:H b with
     |none=>exact un.keep b o e q (by intro z;exact absurd (show b∈([]:List Addr)from z) (by simp)) (by simp)
     |some u=>
      rcases hO.2.2 b fW cX with z|⟨ob,xs,z⟩
      ·rw[q]at z;cases z
      ·have z2:=un.ba b ob _ z;obtain⟨e1,_⟩:=aj b _ z;obtain⟨e2,_⟩:=uO b _ z2;rw[e]at e1;cases e1;exact e2
    refine⟨ae,⟨λb o e=>?_,λb o e=>?_⟩,os,bare⟩
    ·by_cases fW:b=P
     ·subst fW;rw[hP]at e;cases e;obtain⟨ps,e2⟩:=iQ _ hO.1;exact .inr (.inl ⟨(hC.tab hP).isCodeTable,ae, #[],ps,ae,by rw[Array.empty_append];exact e2⟩)
     ·by_cases cX:b=P2
      ·subst cX;rw[fP]at e;cases e;obtain⟨ps,e2⟩:=iQ _ hO.2.1;exact .inr (.inl ⟨(AZ.tab fP).isCodeTable,ae, #[],ps,ae,by rw[Array.empty_append];exact e2⟩)
      ·exact .inl (keep b o fW cX e)
    ·by_cases fW:b=P
     ·subst fW;obtain⟨ps,e2⟩:=iQ _ hO.1;exact⟨_,e2⟩
     ·by_cases cX:b=P2
      ·subst cX;obtain⟨ps,e2⟩:=iQ _ hO.2.1;exact⟨_,e2⟩
      ·exact⟨o,keep b o fW cX e⟩
 cases hk:K.lookup a with
 |some o=>
  have e:=KX a o hk;rw[ha]at e;cases e;exact absurd rfl (UK nL hk)
 |none=>
  refine core (λb=>if b=a then some (.bK {cls:=.type "list",data:=.seq vs.toArray} (.lst (ns.map V.int)))else if b=P then some (.br #[])else if b=P2 then some (.br #[])else none) ⟨?_,?_,λb hb dj=>?_⟩ ⟨{cls:=.type "list",data:=.seq vs.toArray},if_pos rfl⟩ (λb u z=>?_) (λb z=>?_) λ_=>hk
  ·show(if P=a then _ else if P=P then _ else _)=_;rw[if_neg OJ,if_pos rfl]
  ·show(if P2=a then _ else if P2=P then _ else if P2=P2 then _ else _)=_;rw[if_neg ES,if_neg (Ne.symm A0),if_pos rfl]
  ·by_cases h1:b=a
   ·exact .inr ⟨_,_,if_pos h1⟩
   ·exact .inl (by show(if b=a then _ else if b=P then _ else if b=P2 then _ else _)=_;rw[if_neg h1,if_neg hb,if_neg dj])
  ·by_cases h1:b=a
   ·have z':=(if_pos h1).symm.trans z;cases z';subst h1;exact⟨ha,by rw[m7];exact hl,vs,_,rv,ha⟩
   ·have z1:=(if_neg h1).symm.trans z
    by_cases hb:b=P
    ·subst hb;have z':=(if_pos ae).symm.trans z1;cases z';exact hP
    ·have z2:=(if_neg hb).symm.trans z1
     by_cases dj:b=P2
     ·subst dj;have z':=(if_pos ae).symm.trans z2;cases z';exact fP
     ·have z':=(if_neg dj).symm.trans z2;cases z'
  ·by_cases h1:b=a
   ·exact .inl h1
   ·by_cases hb:b=P
    ·exact .inr (.inl hb)
    ·by_cases dj:b=P2
     ·exact .inr (.inr dj)
     ·exact absurd ((if_neg h1).trans ((if_neg hb).trans (if_neg dj))) z
theorem zG{l:PySem.W.OpenLaw}{n k:Nat}{q:Program}{loose:List Str}{XP:(Str->Option Value)->Heap->Prop}{YP:World->Heap->Prop}{d d':DefRec}{K:Params->Frag}{CX:World->fE}{sp:World->Addr->Addr->Sp}{x y:Str}{dy:DefRec}
  (hn:l.most=some n) (Du:n<=sizeLine) (BE:d.params.defaults=[]) (hr:JC k callerA)
  (hY:∀(w:World)(h:Heap),YP w h->(K w.params).In h) (nL:∀w:World,VZ (K w.params)=true) (nT:∀w:World,noTabs (K w.params)=true) (lZ:(recsOf q).find? (λe=>e.name==d.name)=some d')
  (uP:(recsOf q).find? (λe=>e.name==y)=some dy) (hT:∀w:World,∃c P c2 P2,tabIn (K w.params) d.name=some (c,P)/\tabIn (K w.params) y=some (c2,P2)/\P≠P2)
  (F:∀(w:World)(mg:Str->Option Value)(fa:Addr)(h:Heap),(K w.params).In h->h.Ns mainGlobals mg->mg d.name=some (.ref fa)->
   ∃fd:FuncData,(∀(s:Shared)(u:Value),BindsTo s fd ⟨[u],[]⟩ [(x,u)])/\
    ∀(base:Heap)(c P c2 P2:Addr),tabIn (K w.params) d.name=some (c,P)->tabIn (K w.params) y=some (c2,P2)->(K w.params).In base->base.Ns mainGlobals mg->bj mg base c P->bj mg base c2 P2->aw l.prog w (K w.params) mg base (CX w) k fa fd [x] (sp w P P2))
  (cZ:∀(w:World)(H:Hp)(a P P2:Addr)(ns:List Int),ns.length<=n->P≠P2->kg P P2 H->(∃o,H a=some (.bK o (.lst (ns.map V.int))))->sp w P P2 [.ref a] H (λv _=>v=.bl true) λ_ _ _=>False)
  (ER:∀(w:World)(H:Hp)(s:Shared)(e:Value)(s':Shared),CX w [] H s (λ_ _ _=>False) e s'->False):
  PySem.W.WalkO q loose XP YP l.row.toRowW d [] (λf vs=>PySem.call f vs):=by
 refine Fq.VX hn BE λw s₀ s₁ mg mb fa o pm cd doc a vs ns G Y ho hd dF rS lX hints hlen hg=>?_;have KX:=hY w _ Y;obtain⟨fd,hb,hF⟩:=F w mg fa _ KX G.T.g rS;obtain⟨c,P,c2,P2,ht,A6,A0⟩:=hT w;obtain⟨hC,hP⟩:=tab_of G.T KX lZ ht;obtain⟨AZ,fP⟩:=tab_of G.T KX uP A6;exact qi (c:=c) (P:=P) (c2:=c2) (P2:=P2) (sp:=sp w P P2) KX (nL w) (nT w) G.T.g G.T.b G.T.builtins G.T.nolimit hg hC hP AZ fP A0 G.T.bmain lX hints (Nat.le_trans hlen Du) hr (λbase kb nb L1 L2=>hF base c P c2 P2 ht A6 kb nb L1 L2) hb (λH hO hS=>cZ w H a P P2 ns hlen A0 hO hS) λH e s'=>ER w H s₁ e s'
end L2
namespace Lw
open PySem PySem.Spec PyProof.Rows L2 dZ
open Builtin Builtin.Str StrLaws
noncomputable def vC(Pa P2:Addr):Sp:=λvs H Q _=>∃(a:Addr)(ns:List Int),vs=[.ref a]/\ns.length<=63/\Pa≠P2/\kg Pa P2 H/\(∃o,H a=some (.bK o (.lst (ns.map V.int))))/\∀H',Q (.bl true) H'
theorem qj{ys:List Str}(h:L2.many ys=ys.length):ys.Nodup:=by
 have:=Uo.mp h;refine List.pairwise_iff_getElem.mpr λi j hi hj sw e=>this i j sw hj ?_;rw[List.getD_eq_getElem?_getD,List.getD_eq_getElem?_getD,List.getElem?_eq_getElem hi,List.getElem?_eq_getElem hj];exact e
theorem Uw{H:Hp}{P:Addr}{q:Str}(h:H P=some (.br #[])):Jx H P q:=⟨#[],h,trivial,λp cv z=>nomatch z⟩
section
variable {P:Program}{w:World}{K:Frag}{mg:Str->Option Value}{base:Heap}{f:Addr}{fd:FuncData}{ca Pa P2:Addr}
theorem yW(F:fZ K "law" "law" JD f fd (.ref ca))(O:Own mg)(OT:mg "tuple"=none)(OL:mg "list"=none)(OE:mg "enumerate"=none)(dQ:mg "sorted"=none)(OS:mg "set"=none)(OZ:mg "zip"=none)(L:bj mg base ca Pa)(gK:Def P w K mg base 1 "_law_begun" [] V0)(gG:Def P w K mg base 2 "_law_a_plan" ["_law_script","_law_town"] (Yn K))(gh:Def P w K mg base 7 "breaks" ["plan","rows"] JW)(hW:Def P w K mg base 7 "in_order" ["plan","rows"] (Xc P2))(hV:Def P w K mg base 8 "_law_feet" ["_law_plan","_law_rows","_law_word_so"] Xd)
  (gC:Def P w K mg base 4 "same" ["one","other"] (Xq K)) (h8:Def P w K mg base 1 "_law_plus" ["_law_one","_law_two"] KI) (hJ:Def P w K mg base 1 "_law_draw" ["_law_script","_law_town","_law_many"] (Xk K)) (gg:Def P w K mg base 1 "_law_rank" ["_law_part"] Ki):
  aw P w K mg base (aE P w) 10 f fd ["_law_script"] (vC Pa P2):=by
 refine FA F Q2 (λvs H Q E h=>?_) (λA outer s H vs Q E hr h=>?_)
 ·obtain⟨a,ns,rfl,_⟩:=h;rfl
 ·obtain⟨b,ns,rfl,sH,Go,hO,⟨oa,EU⟩,k⟩:=h;have hz:1000<=sizeLine:=by decide
  obtain⟨u2,eZ,h2⟩:=yV (P:=P) (w:=w) (K:=K) (base:=base) (f:=f) (outer:=outer) (H:=H) (E:=E) O OT OL OE dQ OS OZ L (Ne.symm Go) gh hW hV gC h8 hJ gg hr;refine⟨_,(Qe (Qz (i:=1) Q2.nd ae (Or.inl ae) (gK.Lm hr (by decide) ae Qm))
   (Qe (Kw (gG.pe hr (by decide) ae Qm (Qa (pv 0) (Qa (pv 1) Qc))) (JX ae (Ql (Qg (i:=2) Q2.nd ae (Or.inl ae)) (Ql (Qg (i:=3) Q2.nd ae (Or.inr ae)) Q8))))
   (Qe (Kw (pv 2) (JX ae (Ql (Qg (i:=4) Q2.nd ae (Or.inr ae)) (Ql (Qg (i:=5) Q2.nd ae (Or.inr ae)) (Ql (Qg (i:=6) Q2.nd ae (Or.inl ae)) (Ql (Qg (i:=7) Q2.nd ae (Or.inl ae)) Q8))))))
   eZ))),?_⟩
  refine⟨ae,λt r H1 ht CV T1 S1=>?_⟩;have B1:aW K H1 b t r ns 0:=⟨.inl (.inr ⟨oa,S1 _ _ EU⟩),⟨[],T1⟩,(λz=>by rw[←z,EU]at ht;cases ht),(λz=>by rw[←z,EU]at CV;cases CV),sH⟩;have AW:=(Uw (q:=kY) hO.2.1).same S1;have ON:=(Uw (q:=HU) hO.1).same S1;dsimp only[QD,JF,JK];refine⟨_,ae,_,ae,b,t,r,ns,0,ae,B1,by lia,λv H3 π rows c3 B3 Gq A3 D3 Z hk fM Y=>?_⟩;have OO:=Kk B1 A3 AW;have OP:=Kk B1 A3 ON;obtain⟨q,xs,rfl,gq,tq⟩:=ag.Za D3;cases tq with
  |@cons pv _ _ _ Dp tq=>
  cases tq with
  |@cons rv _ _ _ DR tq=>
  cases tq;refine⟨q,_,ae,.inl (.inl gq),ae,_,_,ae,_,_,ae,ae,?_⟩;obtain⟨a,ac,ak,as,L0⟩:=Ze Dp;obtain rfl:=L0.v;refine⟨_,ae,a,_,ae,.inl (.inl L0.a),ae,_,_,ae,_,_,ae,_,_,ae,_,_,ae,ae,?_⟩;exact h2 _ H3 π rows (.ref a) rv a ac ak as b t r ns c3 _ Dp L0 DR OO OP B3 (by lia) Z (qj Z.my) hk fM Y k
end
end Lw
namespace L2
open PySem PySem.Spec PyProof.Rows
section
variable {P:Program}{w:World}{K:Frag}{mg:Str->Option Value}{base h:Heap}{x:Str}{st:Stmt}{k:Nat}{sp:Sp}{p1 p2 p3 p4:Str}
theorem ar.d0(D:ar K x st)(X:K.In h)(G:h.Ns mainGlobals mg)(aj:∀f fd,aQ K x x st f fd->aw P w K mg base (aE P w) k f fd [] sp)
  (hb:∀(kV doc pm:Value)(an:Option Addr)(bv ct:Value),bindArgs (fnOf x x (QP st) (Qr st) (Qd st) .none kV doc pm an bv ct) ⟨[],[]⟩=pure []):Def P w K mg base k x [] sp:=
 D.def X G aj λkV doc pm an bv ct us hl=>match us,hl with|[],_=>hb kV doc pm an bv ct
theorem ar.d1(D:ar K x st)(X:K.In h)(G:h.Ns mainGlobals mg)(aj:∀f fd,aQ K x x st f fd->aw P w K mg base (aE P w) k f fd [p1] sp)
  (hb:∀(kV doc pm:Value)(an:Option Addr)(bv ct:Value)(u1:Value),bindArgs (fnOf x x (QP st) (Qr st) (Qd st) .none kV doc pm an bv ct) ⟨[u1],[]⟩=pure [(p1,u1)]):Def P w K mg base k x [p1] sp:=
 D.def X G aj λkV doc pm an bv ct us hl=>match us,hl with|[u1],_=>hb kV doc pm an bv ct u1
theorem ar.d2(D:ar K x st)(X:K.In h)(G:h.Ns mainGlobals mg)(aj:∀f fd,aQ K x x st f fd->aw P w K mg base (aE P w) k f fd [p1,p2] sp)
  (hb:∀(kV doc pm:Value)(an:Option Addr)(bv ct:Value)(u1 u2:Value),bindArgs (fnOf x x (QP st) (Qr st) (Qd st) .none kV doc pm an bv ct) ⟨[u1,u2],[]⟩=pure [(p1,u1),(p2,u2)]):Def P w K mg base k x [p1,p2] sp:=
 D.def X G aj λkV doc pm an bv ct us hl=>match us,hl with|[u1,u2],_=>hb kV doc pm an bv ct u1 u2
theorem ar.d3(D:ar K x st)(X:K.In h)(G:h.Ns mainGlobals mg)(aj:∀f fd,aQ K x x st f fd->aw P w K mg base (aE P w) k f fd [p1,p2,p3] sp)
  (hb:∀(kV doc pm:Value)(an:Option Addr)(bv ct:Value)(u1 u2 u3:Value),bindArgs (fnOf x x (QP st) (Qr st) (Qd st) .none kV doc pm an bv ct) ⟨[u1,u2,u3],[]⟩=pure [(p1,u1),(p2,u2),(p3,u3)]):Def P w K mg base k x [p1,p2,p3] sp:=
 D.def X G aj λkV doc pm an bv ct us hl=>match us,hl with|[u1,u2,u3],_=>hb kV doc pm an bv ct u1 u2 u3
theorem ar.d4(D:ar K x st)(X:K.In h)(G:h.Ns mainGlobals mg)(aj:∀f fd,aQ K x x st f fd->aw P w K mg base (aE P w) k f fd [p1,p2,p3,p4] sp)
  (hb:∀(kV doc pm:Value)(an:Option Addr)(bv ct:Value)(u1 u2 u3 u4:Value),bindArgs (fnOf x x (QP st) (Qr st) (Qd st) .none kV doc pm an bv ct) ⟨[u1,u2,u3,u4],[]⟩=pure [(p1,u1),(p2,u2),(p3,u3),(p4,u4)]):Def P w K mg base k x [p1,p2,p3,p4] sp:=
 D.def X G aj λkV doc pm an bv ct us hl=>match us,hl with|[u1,u2,u3,u4],_=>hb kV doc pm an bv ct u1 u2 u3 u4
end
theorem OQ{P:Program}{w:World}{K:Frag}{mg:Str->Option Value}{base h:Heap}{x p1 p2:Str}{st:Stmt}{k:Nat}{sp:Sp}{f c:Addr}{oc:Value}{od an:Option Addr}{IN:Array (Option Value)}{kV doc pm ct:Value}(a:nsIn K mainGlobals x=some (some (.ref f)))
  (l:K.lookup f=some ⟨oc,od,.func (fnOf x x (QP st) (Qr st) (Qd st) .none kV doc pm an (.ref c) ct),IN⟩) (cd:codeIn K (.ref c) x=true) (kp:keepIn K (.ref f)=true) (X:K.In h) (G:h.Ns mainGlobals mg)
  (aj:fZ K x x st f (fnOf x x (QP st) (Qr st) (Qd st) .none kV doc pm an (.ref c) ct) (.ref c)->aw P w K mg base (aE P w) k f (fnOf x x (QP st) (Qr st) (Qd st) .none kV doc pm an (.ref c) ct) [p1,p2] sp)
  (hb:∀(kV doc pm:Value)(an:Option Addr)(bv ct:Value)(u1 u2:Value),bindArgs (fnOf x x (QP st) (Qr st) (Qd st) .none kV doc pm an bv ct) ⟨[u1,u2],[]⟩=pure [(p1,u1),(p2,u2)]):Def P w K mg base k x [p1,p2] sp:=by
 have F:aQ K x x st f (fnOf x x (QP st) (Qr st) (Qd st) .none kV doc pm an (.ref c) ct):=⟨⟨oc,od,kV,doc,pm,an,.ref c,ct,IN,ae,l,cd⟩,kp⟩;exact⟨f,_,mg_of X G a,kp,F.binds λkV doc pm an bv ct us hl=>match us,hl with|[u1,u2],_=>hb kV doc pm an bv ct u1 u2,aj ⟨oc,od,kV,doc,pm,an,ct,IN,ae,l,cd⟩⟩
end L2
namespace Lw
open PySem PySem.Spec PyProof.Rows L2 dZ
theorem all_mk{l:PySem.W.OpenLaw}{w:World}{K:Frag}{h:Heap}{mg:Str->Option Value}{fa fl ca fo c2:Addr}{oc kV doc pm ct rX OR EV OU OV:Value}{od an rY OW:Option Addr}{IN eK:Array (Option Value)}(X:K.In h)(G:h.Ns mainGlobals mg)(OX:mg "law"=some (.ref fa))
  (mn:ar K "ten_to" K8)
  (gE:ar K "quotient_cut" JI)
  (mQ:ar K "cut" wC)
  (gX:ar K "lined_up" Z1)
  (mG:ar K "same" s_same)
  (mC:ar K "added" Ya)
  (me:ar K "is_pair" XY)
  (gY:ar K "spots_of" Z2)
  (mf:ar K "no_sums" X0)
  (gZ:ar K "with_row" Z3)
  (mh:ar K "sums_of" X1)
  (g6:ar K "is_alike" Z4)
  (gH:ar K "unlike_from" JS)
  (mH:ar K "feet" js)
  (mq:ar K "breaks" Wa)
  (mI:ar K "rank" jt)
  (gO:ar K "_law_draw" ZD)
  (gM:ar K "_law_begun" Zc)
  (gI:ar K "_law_a_plan" JT)
  (gP:ar K "_law_plus" ZE)
  (gQ:ar K "_law_rank" ZF)
  (gS:ar K "_law_feet" ZG)
  (mr:nsIn K mainGlobals "tuple"=some none)
  (mD:nsIn K mainGlobals "list"=some none)
  (mi:nsIn K mainGlobals "sorted"=some none)
  (mJ:nsIn K mainGlobals "set"=some none)
  (gN:nsIn K mainGlobals "enumerate"=some none)
  (mK:nsIn K mainGlobals "zip"=some none)
  (mj:kitOne K (.type "str") (.type "str")=some true)
  (gT:kitOne K (.type "str") (.type "tuple")=some false)
  (gU:kitOne K (.type "tuple") (.type "str")=some false)
  (gJ:kitOne K (.type "tuple") (.type "tuple")=some true)
  (mR:nsIn K mainGlobals "len"=some none)
  (mE:nsIn K mainGlobals "range"=some none)
  (mS:nsIn K mainGlobals "abs"=some none)
  (mT:nsIn K mainGlobals "max"=some none)
  (mU:nsIn K mainGlobals "int"=some none)
  (mV:nsIn K mainGlobals "isinstance"=some none)
  (mL:nsIn K mainGlobals "bool"=some none)
  (mW:nsIn K mainGlobals "ValueError"=some none)
  (g8:nsIn K mainGlobals "reversed"=some none)
  (mw:nsIn K mainGlobals "divmod"=some none)
  (mX:nsIn K mainGlobals "str"=some none)
  (mY:nsIn K mainGlobals "sum"=some none)
  (mM:nsIn K mainGlobals "in_order"=some (some (.ref fo)))
  (mN:K.lookup fo=some ⟨rX,rY,.func (fnOf "in_order" "in_order" (QP Q9) (Qr Q9) (Qd Q9) .none OR EV OU OW (.ref c2) OV),eK⟩)
  (mZ:codeIn K (.ref c2) "in_order"=true)
  (p_ord:keepIn K (.ref fo)=true)
  (mO:nsIn K mainGlobals "law"=some (some (.ref fl)))
  (mP:K.lookup fl=some ⟨oc,od,.func (fnOf "law" "law" (QP JD) (Qr JD) (Qd JD) .none kV doc pm an (.ref ca) ct),IN⟩)
  (m4:codeIn K (.ref ca) "law"=true)
  :∃fd:FuncData,(∀(s:Shared)(v:Value),BindsTo s fd ⟨[v],[]⟩ [("_law_script",v)])/\∀(base:Heap)(c P d P2:Addr),tabIn K "law"=some (c,P)->tabIn K "in_order"=some (d,P2)->K.In base->base.Ns mainGlobals mg->bj mg base c P->bj mg base d P2->aw l.prog w K mg base (aE l.prog w) 10 fa fd ["_law_script"] (vC P P2):=by
 have e:=OX.symm.trans (mg_of X G mO);cases e;have O:Own mg:=⟨mg_none_of X G mR,mg_none_of X G mE,mg_none_of X G mS,mg_none_of X G mT,mg_none_of X G mU,mg_none_of X G mV,mg_none_of X G mL,mg_none_of X G mW,mg_none_of X G g8,mg_none_of X G mw,mg_none_of X G mX,mg_none_of X G mY⟩;have KT:Cd K:=⟨mj,gT,gU,gJ⟩;have OT:mg "tuple"=none:=mg_none_of X G mr;have OL:mg "list"=none:=mg_none_of X G mD;have dQ:mg "sorted"=none:=mg_none_of X G mi;have OS:mg "set"=none:=mg_none_of X G mJ;have OE:mg "enumerate"=none:=mg_none_of X G gN;have OZ:mg "zip"=none:=mg_none_of X G mK;refine⟨fnOf "law" "law" (QP JD) (Qr JD) (Qd JD) .none kV doc pm an (.ref ca) ct,λs v=>.of_eq rfl,λbase c' P d P2 ht A6 kb nb L LO=>?_⟩;obtain rfl:c'=ca:=by
  have z:tabIn K "law"=some (c',P):=ht;unfold tabIn at z;simp only[mO,mP]at z
  split at z
  ·split at z
   ·cases z;rfl
   ·cases z
  ·cases z
 obtain rfl:d=c2:=by
  have z:tabIn K "in_order"=some (d,P2):=A6;unfold tabIn at z;simp only[mM,mN]at z
  split at z
  ·split at z
   ·cases z;rfl
   ·cases z
  ·cases z
 have ma:Def l.prog w K mg base 1 "ten_to" ["many"] (wE):=mn.d1 X G (λf fd F=>ju F O) λ_ _ _ _ _ _ _=>rfl;have gD:Def l.prog w K mg base 1 "quotient_cut" ["number","by"] (jv):=gE.d2 X G (λf fd F=>X2 F O) λ_ _ _ _ _ _ _ _=>rfl;have ml:Def l.prog w K mg base 2 "cut" ["amount","places"] (xy K):=mQ.d2 X G (λf fd F=>yl F O ma gD) λ_ _ _ _ _ _ _ _=>rfl;have gj:Def l.prog w K mg base 3 "lined_up" ["one","other"] (Wc K):=gX.d2 X G (λf fd F=>Yg F O ml) λ_ _ _ _ _ _ _ _=>rfl;have gC:Def l.prog w K mg base 4 "same" ["one","other"] (Xq K):=mG.d2 X G (λf fd F=>wI F gj) λ_ _ _ _ _ _ _ _=>rfl;have mz:Def l.prog w K mg base 4 "added" ["one","other"] (wH K λx y=>x+y):=mC.d2 X G (λf fd F=>xz F gj) λ_ _ _ _ _ _ _ _=>rfl;have gi:Def l.prog w K mg base 1 "is_pair" ["value"] (ZP):=me.d1 X G (λf fd F=>UT F O OT KT) λ_ _ _ _ _ _ _=>rfl;have hU:Def l.prog w K mg base 1 "spots_of" ["plan","names"] (Z5):=gY.d2 X G (λf fd F=>Yh F) λ_ _ _ _ _ _ _ _=>rfl;have gA:Def l.prog w K mg base 1 "no_sums" ["plan"] (xA):=mf.d1 X G (λf fd F=>UU F OT) λ_ _ _ _ _ _ _=>rfl;have gB:Def l.prog w K mg base 5 "with_row" ["plan","amounts","row"] (Y4 K):=gZ.d3 X G (λf fd F=>Yi F OT OZ hU mz) λ_ _ _ _ _ _ _ _ _=>rfl;have md:Def l.prog w K mg base 6 "sums_of" ["plan","rows"] (jB):=mh.d2 X G (λf fd F=>UW F gA gB) λ_ _ _ _ _ _ _ _=>rfl;have gW:Def l.prog w K mg base 5 "is_alike" ["one","other"] (Yk):=g6.d2 X G (λf fd F=>Yl F gi gC) λ_ _ _ _ _ _ _ _=>rfl;have gF:Def l.prog w K mg base 6 "unlike_from" ["plan","one","other"] (We):=gH.d3 X G (λf fd F=>Ks F O OE hU gW) λ_ _ _ _ _ _ _ _ _=>rfl;have mB:Def l.prog w K mg base 2 "feet" ["plan","row","since","first"] (jE):=mH.d4 X G (λf fd F=>wM F O OT hU) λ_ _ _ _ _ _ _ _ _ _=>rfl;have gh:Def l.prog w K mg base 7 "breaks" ["plan","rows"] (JW):=mq.d2 X G (λf fd F=>jF F O OT OE gA gB md gF mB) λ_ _ _ _ _ _ _ _=>rfl;have mF:Def l.prog w K mg base 3 "rank" ["value","places"] (zo):=mI.d2 X G (λf fd F=>vo F gi ml) λ_ _ _ _ _ _ _ _=>rfl;have hW:Def l.prog w K mg base 7 "in_order" ["plan","rows"] (Xc P2):=OQ mM mN mZ p_ord X G (λF=>YF F LO O OT dQ hU gi mF) λ_ _ _ _ _ _ _ _=>rfl;have hJ:Def l.prog w K mg base 1 "_law_draw" ["_law_script","_law_town","_law_many"] (Xk K):=gO.d3 X G (λf fd F=>Vj F O) λ_ _ _ _ _ _ _ _ _=>rfl;have gK:Def l.prog w K mg base 1 "_law_begun" [] (V0):=gM.d0 X G (λf fd F=>Wg F) λ_ _ _ _ _ _=>rfl;have gG:Def l.prog w K mg base 2 "_law_a_plan" ["_law_script","_law_town"] (Yn K):=gI.d2 X G (λf fd F=>Kt F O OT hJ) λ_ _ _ _ _ _ _ _=>rfl;have h8:Def l.prog w K mg base 1 "_law_plus" ["_law_one","_law_two"] (KI):=gP.d2 X G (λf fd F=>Vk F O OT OZ) λ_ _ _ _ _ _ _ _=>rfl;have gg:Def l.prog w K mg base 1 "_law_rank" ["_law_part"] (Ki):=gQ.d1 X G (λf fd F=>VE F O KT) λ_ _ _ _ _ _ _=>rfl;have hV:Def l.prog w K mg base 8 "_law_feet" ["_law_plan","_law_rows","_law_word_so"] (Xd):=gS.d3 X G (λf fd F=>VG F O OT gh gg) λ_ _ _ _ _ _ _ _ _=>rfl;exact yW (P:=l.prog) (w:=w) (base:=base) ⟨oc,od,kV,doc,pm,an,ct,IN,ae,mP,m4⟩ O OT OL OE dQ OS OZ L gK gG gh hW hV gC h8 hJ gg
theorem yX{P:Program}{w:World}{H:Hp}{s:Shared}{e:Value}{s':Shared}(z:aE P w [] H s (λ_ _ _=>False) e s'):False:=by
 obtain⟨_,_,_,_,_,_,_,_,_,_,_,_,_,_,h⟩:=z;exact h
theorem vD{K:Frag}{fl c P fo d P2:Addr}{oc kV doc pm ct rX OY O0 EW ph O1 O2:Value}{od an rY O3 O4 O5:Option Addr}{IN eK EX EY:Array (Option Value)}{vs us:Array Value}(a:nsIn K mainGlobals "law"=some (some (.ref fl)))
  (l:K.lookup fl=some ⟨oc,od,.func (fnOf "law" "law" (QP JD) (Qr JD) (Qd JD) .none kV doc pm an (.ref c) ct),IN⟩) (lc:K.lookup c=some ⟨rX,rY,.fields vs,eK⟩) (hv:(vs[11]? :Option Value)=some (.ref P))
  (a2:nsIn K mainGlobals "in_order"=some (some (.ref fo))) (l2:K.lookup fo=some ⟨OY,O3,.func (fnOf "in_order" "in_order" (QP Q9) (Qr Q9) (Qd Q9) .none O0 EW ph O4 (.ref d) O1),EX⟩) (ld:K.lookup d=some ⟨O2,O5,.fields us,EY⟩) (hu:(us[11]? :Option Value)=some (.ref P2)) (ne:(P==P2)=false):
  ∃c P c2 P2,tabIn K "law"=some (c,P)/\tabIn K "in_order"=some (c2,P2)/\P≠P2:=⟨c,P,d,P2,kw a l rfl lc hv,kw a2 l2 rfl ld hu,λe=>by rw[e,beq_self_eq_true]at ne;cases ne⟩
end Lw
namespace PySem.W.Fast
theorem tw3021365406584587360:True:=trivial
theorem tw17889624639292487808:True:=trivial
theorem tw6405026483969078528:True:=trivial
theorem tw12415970059420416352:True:=trivial
theorem tw13511266556193594208:True:=trivial
theorem tw6809030430723479456:True:=trivial
theorem tw16822796131375604737:True:=trivial
theorem tw14887902205754518689:True:=trivial
theorem tw17724370613508237569:True:=trivial
theorem tw17853720070835053857:True:=trivial
theorem tw9502435468853731681:True:=trivial
theorem tw16127373251070812226:True:=trivial
theorem tw9118044639936601282:True:=trivial
theorem tw9829012526762989858:True:=trivial
theorem tw1517774748866758946:True:=trivial
theorem tw10678555082830434082:True:=trivial
theorem tw11268034448445884675:True:=trivial
theorem tw11285976268570783267:True:=trivial
theorem tw6592943118183995716:True:=trivial
theorem tw8381293657722862916:True:=trivial
theorem tw13255061341668607492:True:=trivial
theorem tw10115235409748556389:True:=trivial
theorem tw2251646487784694629:True:=trivial
theorem tw3170782252329717637:True:=trivial
theorem tw6393792981743713350:True:=trivial
theorem tw531717522751947014:True:=trivial
theorem tw11792989251555584550:True:=trivial
theorem tw9451949425811131014:True:=trivial
theorem tw2485973687786977383:True:=trivial
theorem tw1941174124451333287:True:=trivial
theorem tw12905030099181892807:True:=trivial
theorem tw652122893255122535:True:=trivial
theorem tw4507845084771387303:True:=trivial
theorem tw4897201761299006439:True:=trivial
theorem tw11499559154230535592:True:=trivial
theorem tw11048154336357770856:True:=trivial
theorem tw2628292296829572904:True:=trivial
theorem tw11481185932507459689:True:=trivial
theorem tw3114640740207389865:True:=trivial
theorem tw9460244724615361961:True:=trivial
theorem tw15726556301371734505:True:=trivial
theorem tw17232616955956520809:True:=trivial
theorem tw12381648121933884393:True:=trivial
theorem tw9903954291200598090:True:=trivial
theorem tw17816069558407456970:True:=trivial
theorem tw9269626502281176266:True:=trivial
theorem tw2798942014056906154:True:=trivial
theorem tw657789309041990154:True:=trivial
theorem tw3016704590487420778:True:=trivial
theorem tw12673041449062531018:True:=trivial
theorem tw3337842831633653835:True:=trivial
theorem tw4540641559011223851:True:=trivial
theorem tw232331905905943979:True:=trivial
theorem tw7085963411305627660:True:=trivial
theorem tw9524962681514282284:True:=trivial
theorem tw8732166971642221292:True:=trivial
theorem tw12534638200694078284:True:=trivial
theorem tw655962105334884236:True:=trivial
theorem tw11993364550979720108:True:=trivial
theorem tw7969898127891846060:True:=trivial
theorem tw7607180240255647789:True:=trivial
theorem tw7325884984881149325:True:=trivial
theorem tw11241844851935896237:True:=trivial
theorem tw3266105562040904461:True:=trivial
theorem tw15984468992856878029:True:=trivial
theorem tw15271703572418257134:True:=trivial
theorem tw1169566139861141806:True:=trivial
theorem tw11927938246066891214:True:=trivial
theorem tw2660238922924570510:True:=trivial
theorem tw5629058853529057487:True:=trivial
theorem tw3937875688025820783:True:=trivial
theorem tw6962629034403357551:True:=trivial
theorem tw16601440988875160463:True:=trivial
theorem tw2974320491152674896:True:=trivial
theorem tw7024501491309253008:True:=trivial
theorem tw10413314706909230576:True:=trivial
theorem tw2428317792285270864:True:=trivial
theorem tw11013782540196089041:True:=trivial
theorem tw17463392949474125105:True:=trivial
theorem tw11992810781095654737:True:=trivial
theorem tw14462844988587666129:True:=trivial
theorem tw3491244218923831089:True:=trivial
theorem tw6849128757917365105:True:=trivial
theorem tw17846214690101795761:True:=trivial
theorem tw888543241842024466:True:=trivial
theorem tw16269640844083087634:True:=trivial
theorem tw13614390718474476850:True:=trivial
theorem tw8249426966346343058:True:=trivial
theorem tw3929188305908930322:True:=trivial
theorem tw18222309158696107379:True:=trivial
theorem tw5902212358624273363:True:=trivial
theorem tw17221847896329920564:True:=trivial
theorem tw15399731691204610228:True:=trivial
theorem tw11941849550942798132:True:=trivial
theorem tw11093266947999418740:True:=trivial
theorem tw15421568642292430484:True:=trivial
theorem tw5983599335768032084:True:=trivial
theorem tw2603884817661581429:True:=trivial
theorem tw6683592728876821749:True:=trivial
theorem tw3977518805761016597:True:=trivial
theorem tw13041945693841089365:True:=trivial
theorem tw4202814148066090869:True:=trivial
theorem tw447449443662558101:True:=trivial
theorem tw18028617777996856470:True:=trivial
theorem tw11610042173921294486:True:=trivial
theorem tw9083596213664916822:True:=trivial
theorem tw8286893020628993654:True:=trivial
theorem tw9927737330984516598:True:=trivial
theorem tw4579938570575074551:True:=trivial
theorem tw8958663341597574584:True:=trivial
theorem tw14626742959129962040:True:=trivial
theorem tw16057812601897511993:True:=trivial
theorem tw150848745855911001:True:=trivial
theorem tw15432158634529910969:True:=trivial
theorem tw1893754973503508057:True:=trivial
theorem tw9500408724494917209:True:=trivial
theorem tw17055648175509166202:True:=trivial
theorem tw9410870805092332858:True:=trivial
theorem tw17513580649093948922:True:=trivial
theorem tw6944459199168659130:True:=trivial
theorem tw4776355544248913658:True:=trivial
theorem tw16335192084195205946:True:=trivial
theorem tw6445329810176896954:True:=trivial
theorem tw16804734022464594843:True:=trivial
theorem tw11764214205420217243:True:=trivial
theorem tw2373205159297023292:True:=trivial
theorem tw9502094355013292476:True:=trivial
theorem tw14596770460385328764:True:=trivial
theorem tw2296051434367482524:True:=trivial
theorem tw4788323536806327132:True:=trivial
theorem tw2238181741157797373:True:=trivial
theorem tw5854250203167462077:True:=trivial
theorem tw11288374823656755933:True:=trivial
theorem tw14733673427820597085:True:=trivial
theorem tw13022977966539621373:True:=trivial
theorem tw18407739112458280318:True:=trivial
theorem tw14341380484867132926:True:=trivial
theorem tw14111416731308791390:True:=trivial
theorem tw13334610283061575743:True:=trivial
theorem tw11270016346305802367:True:=trivial
theorem tw9764026428858495487:True:=trivial
theorem tw1814989367636646431:True:=trivial
theorem tw2012800586614081151:True:=trivial
theorem tw11787944528998066911:True:=trivial
theorem tw3177904148604946175:True:=trivial
theorem tw10378064293036215199:True:=trivial
theorem tw5940759392153696435:True:=trivial
end PySem.W.Fast
open PySem PySem.W PyProof.Rows
theorem PySem.Challenge.cw_boxmoves_k35_whole_sums_of_breaks_holds : PySem.Challenge.rw_boxmoves_k35_whole_sums_of_breaks.Holds := by
 w_on;o_law;k_head;(case hw=>w_witness2)
 k_fill
 refine L2.zG (l:=PySem.Challenge.rw_boxmoves_k35_whole_sums_of_breaks) (n:=63) (k:=10) (x:="_law_script") (y:="in_order") (CX:=λw=>L2.aE PySem.Challenge.rw_boxmoves_k35_whole_sums_of_breaks.prog w) (sp:=λ_ P P2=>Lw.vC P P2) rfl (by decide) rfl ⟨ae,by decide,by decide⟩ (λw h Y=>km_in_of Y) ?nL ?nT rfl rfl ?hT ?F (λw H a P P2 ns hl Go hO hS=>⟨a,ns,ae,hl,Go,hO,hS,λ_=>rfl⟩) (λw H s e s' z=>Lw.yX z)
 case nL=>intro w;kernel_rfl
 case nT=>intro w;kernel_rfl
 case hT=>
  intro w;refine' Lw.vD ?a ?l ?lc ?hv ?a2 ?l2 ?ld ?hu ?ne
  (case a=>k_is);(case l=>k_is);(case lc=>k_is);(case hv=>exact rfl);(case a2=>k_is);(case l2=>k_is);(case ld=>k_is);(case hu=>exact rfl);(case ne=>exact rfl)
 case F=>
  intro w mg fa h KX G rS;refine' Lw.all_mk KX G rS ?mn ?gE ?mQ ?gX ?mG ?mC ?me ?gY ?mf ?gZ ?mh ?g6 ?gH ?mH ?mq ?mI ?gO ?gM ?gI ?gP ?gQ ?gS ?mr ?mD ?mi ?mJ ?gN ?mK ?mj ?gT ?gU ?gJ ?mR ?mE ?mS ?mT ?mU ?mV ?mL ?mW ?g8 ?mw ?mX ?mY ?mM ?mN ?mZ ?p_ord ?mO ?mP ?m4
  (case mn=>(refine' L2.Qq ?a ?l ?c ?k;(case a=>k_is);(case l=>k_is);(case c=>k_is);(case k=>k_is)))
  (case gE=>(refine' L2.Qq ?a ?l ?c ?k;(case a=>k_is);(case l=>k_is);(case c=>k_is);(case k=>k_is)))
  (case mQ=>(refine' L2.Qq ?a ?l ?c ?k;(case a=>k_is);(case l=>k_is);(case c=>k_is);(case k=>k_is)))
  (case gX=>(refine' L2.Qq ?a ?l ?c ?k;(case a=>k_is);(case l=>k_is);(case c=>k_is);(case k=>k_is)))
  (case mG=>(refine' L2.Qq ?a ?l ?c ?k;(case a=>k_is);(case l=>k_is);(case c=>k_is);(case k=>k_is)))
  (case mC=>(refine' L2.Qq ?a ?l ?c ?k;(case a=>k_is);(case l=>k_is);(case c=>k_is);(case k=>k_is)))
  (case me=>(refine' L2.Qq ?a ?l ?c ?k;(case a=>k_is);(case l=>k_is);(case c=>k_is);(case k=>k_is)))
  (case gY=>(refine' L2.Qq ?a ?l ?c ?k;(case a=>k_is);(case l=>k_is);(case c=>k_is);(case k=>k_is)))
  (case mf=>(refine' L2.Qq ?a ?l ?c ?k;(case a=>k_is);(case l=>k_is);(case c=>k_is);(case k=>k_is)))
  (case gZ=>(refine' L2.Qq ?a ?l ?c ?k;(case a=>k_is);(case l=>k_is);(case c=>k_is);(case k=>k_is)))
  (case mh=>(refine' L2.Qq ?a ?l ?c ?k;(case a=>k_is);(case l=>k_is);(case c=>k_is);(case k=>k_is)))
  (case g6=>(refine' L2.Qq ?a ?l ?c ?k;(case a=>k_is);(case l=>k_is);(case c=>k_is);(case k=>k_is)))
  (case gH=>(refine' L2.Qq ?a ?l ?c ?k;(case a=>k_is);(case l=>k_is);(case c=>k_is);(case k=>k_is)))
  (case mH=>(refine' L2.Qq ?a ?l ?c ?k;(case a=>k_is);(case l=>k_is);(case c=>k_is);(case k=>k_is)))
  (case mq=>(refine' L2.Qq ?a ?l ?c ?k;(case a=>k_is);(case l=>k_is);(case c=>k_is);(case k=>k_is)))
  (case mI=>(refine' L2.Qq ?a ?l ?c ?k;(case a=>k_is);(case l=>k_is);(case c=>k_is);(case k=>k_is)))
  (case gO=>(refine' L2.Qq ?a ?l ?c ?k;(case a=>k_is);(case l=>k_is);(case c=>k_is);(case k=>k_is)))
  (case gM=>(refine' L2.Qq ?a ?l ?c ?k;(case a=>k_is);(case l=>k_is);(case c=>k_is);(case k=>k_is)))
  (case gI=>(refine' L2.Qq ?a ?l ?c ?k;(case a=>k_is);(case l=>k_is);(case c=>k_is);(case k=>k_is)))
  (case gP=>(refine' L2.Qq ?a ?l ?c ?k;(case a=>k_is);(case l=>k_is);(case c=>k_is);(case k=>k_is)))
  (case gQ=>(refine' L2.Qq ?a ?l ?c ?k;(case a=>k_is);(case l=>k_is);(case c=>k_is);(case k=>k_is)))
  (case gS=>(refine' L2.Qq ?a ?l ?c ?k;(case a=>k_is);(case l=>k_is);(case c=>k_is);(case k=>k_is)))
  (case mr=>k_is)
  (case mD=>k_is)
  (case mi=>k_is)
  (case mJ=>k_is)
  (case gN=>k_is)
  (case mK=>k_is)
  (case mR=>k_is)
  (case mE=>k_is)
  (case mS=>k_is)
  (case mT=>k_is)
  (case mU=>k_is)
  (case mV=>k_is)
  (case mL=>k_is)
  (case mW=>k_is)
  (case g8=>k_is)
  (case mw=>k_is)
  (case mX=>k_is)
  (case mY=>k_is)
  (case mM=>k_is)
  (case mN=>k_is)
  (case mZ=>k_is)
  (case p_ord=>k_is)
  (case mO=>k_is)
  (case mP=>k_is)
  (case m4=>k_is)
  (case mj=>kit_is)
  (case gT=>kit_is)
  (case gU=>kit_is)
  (case gJ=>kit_is)
