import PyProof.Rows.All
import Wide.All
import OpenK.AllK
import Wide.FinOn
import Lean
import PyProof.EqAt
import PyProof.EqKinds
import PyProof.TupleCall
import PyProof.NeKinds
import PyProof.WalksMore
import PyProof.Rows.SetFrom
import PyProof.FString5
import PyProof.FactsLen
import PySem.Challenge.RW_boxmoves_k31_whole_one_box
set_option Elab.async false
set_option linter.all false
set_option maxRecDepth 100000
theorem uM{α:Type}{a b:List α}:(a++b).length=a.length+b.length:=List.length_append
theorem uN{α β:Type}{l:List α}(f:α->β):(l.map f).length=l.length:=List.length_map f
theorem uO{p:Prop}[Decidable p](h:¬p):decide p=false:=decide_eq_false h
theorem uP{p:Prop}[Decidable p](h:p):decide p=true:=decide_eq_true h
theorem uQ(n:Nat):n<=n:=Nat.le_refl n
theorem uR{α:Type}{a b:α}(h:some a=some b):a=b:=Option.some.inj h
theorem uS{α:Type}{a:α}:[a].length=1:=rfl
theorem uT{α:Type}{a:α}{l:List α}:(a::l).length=l.length+1:=rfl
theorem uU{α:Type}{a:α}(l:List α){m:List α}(h:a∈m):a∈l++m:=List.mem_append_right l h
theorem uV{α:Type}{a:α}{l:List α}(m:List α)(h:a∈l):a∈l++m:=List.mem_append_left m h
theorem uW{α:Type}(b:α){a:α}{l:List α}(h:a∈l):a∈b::l:=List.mem_cons_of_mem b h
theorem uX{α:Type}{a:α}{l:List α}:a∈a::l:=List.mem_cons_self
theorem uY{α:Type}{i:Nat}{l:List α}:(l.take i).length=min i l.length:=List.length_take
theorem uZ{α:Type}{i:Nat}{l:List α}:(l.drop i).length=l.length-i:=List.length_drop
theorem u0{α:Type}{l:List α}:l.reverse.length=l.length:=List.length_reverse
theorem u5{α β:Type}{f:α->β}{l:List α}{i:Nat}:(l.map f)[i]?=Option.map f l[i]?:=List.getElem?_map
theorem u6{α:Type}{l:List α}{i:Nat}{a:α}(h:l[i]?=some a):a∈l:=List.mem_of_getElem? h
theorem tj{α:Type}{n:Nat}{a:α}:(List.replicate n a).length=n:=List.length_replicate
theorem tm{α β:Type}{l m:List α}{f:α->β}:(l++m).map f=l.map f++m.map f:=List.map_append
theorem tq{α:Type}(a b c:List α):a++b++c=a++(b++c):=List.append_assoc a b c
theorem tD{α:Type}{a:α}{l m:List α}:a::l++m=a::(l++m):=rfl
theorem tE{α:Type}(l:List α):[]++l=l:=rfl
theorem tF{α:Type}(l:List α):l++[]=l:=List.append_nil l
theorem tG{α β γ:Type}{g:β->γ}{f:α->β}{l:List α}:(l.map f).map g=l.map (g∘f):=List.map_map
theorem tH{α β:Type}{f:α->β}{a:α}{l:List α}:(a::l).map f=f a::l.map f:=rfl
theorem tI{α:Type}{a:Array α}:a.toList.length=a.size:=Array.length_toList
theorem tJ{α:Type}{l:List α}:l.toArray.size=l.length:=List.size_toArray
theorem tK(n:Nat):0<=n:=Nat.zero_le n
theorem tL(n:Nat):¬n<n:=Nat.lt_irrefl n
theorem tM(n:Nat):(n:Int).toNat=n:=rfl
open PySem.W (InitBack KitX any_some bind_fn callWith_K callWith_K0 callWith_KW cellsFrom_some codeIn codeRec_of emptyDict eq_bytes excIn findIn findObj_own fnOf funFrames_hide get_value handedIn hasDictIn hideAll hideAll_get hideAll_none hideAll_size instObj isFn isNs_of_in kIn_of keepIn ki_setAt ki_setBack kia_one kitOne kitx_bool kitx_dict kitx_float kitx_int kitx_list kitx_none kitx_own kitx_str kitx_tuple lookIn looks_clsIn looks_findIn make_core makesIn makes_of mem_of_lookupK methodCall_KW methodObj method_fn mg_none_of mg_of mroIn ne_bytes nsIn nsMap_none_of_in of_hideAll osa_open plainGet plainGet_of plainOver set_plain specialIn tail_of_in takerIn takesIn truthy_bytes typeIn)
open PySem.F (args_dict_get_3 args_tuple_add_2 entry_dict_get entry_tuple_add excBase_ValueError plainAttrs_dict plainAttrs_list plainAttrs_str slot_dict_get slot_list_extend slot_list_pop slot_str_find slot_str_join slot_str_startswith slot_str_strip slot_str_zfill slot_tuple_add type_dict_get type_list_extend type_list_pop type_str_find type_str_join type_str_startswith type_str_strip type_str_zfill)
namespace L2
open PySem PySem.Spec PyProof.Rows
noncomputable abbrev Key:=Sum Int Str
noncomputable def xt:Key->Value->Bool
 | .inl k,v=>Value.isInt k v
 | .inr x,v=>Value.isStrOf x v
noncomputable def QcX(w:World):Key->Int
 | .inl k=>hashInt k
 | .inr x=>hashStr w x
theorem Ji:∀{k:Key}{v:Value},xt k v=true->(∃i t,k=Sum.inl i/\v=Value.int i t)\/(∃x t,k=Sum.inr x/\v=Value.str x t)
 | .inl i,v,h=>by
  obtain⟨t,e⟩:=Value.isInt_shape (k:=i) (v:=v) h;exact .inl ⟨i,t,rfl,e⟩
 | .inr x,v,h=>by
  obtain⟨t,e⟩:=Value.isStrOf_shape (x:=x) (v:=v) h;exact .inr ⟨x,t,rfl,e⟩
theorem kl(i:Int)(t:Tok):xt (.inl i) (.int i t)=true:=by simp[xt,Value.isInt]
theorem km(x:Str)(t:Tok):xt (.inr x) (.str x t)=true:=by simp[xt,Value.isStrOf]
theorem QcY(a b:Int):decide ((Sum.inl a:Key)=Sum.inl b)=(a==b):=by
 by_cases e:a=b
 ·subst e;simp
 ·have h:¬ (Sum.inl a:Key)=Sum.inl b:=fun q=>e (Sum.inl.inj q);rw[uO h];exact(beq_eq_false_iff_ne.mpr e).symm
theorem QcZ(a b:Str):decide ((Sum.inr a:Key)=Sum.inr b)=decide (a=b):=by
 by_cases e:a=b
 ·subst e;simp
 ·have h:¬ (Sum.inr a:Key)=Sum.inr b:=fun q=>e (Sum.inr.inj q);rw[uO h,uO e]
theorem Qc0(a:Int)(b:Str):decide ((Sum.inl a:Key)=Sum.inr b)=false:=uO (fun q=>nomatch q)
theorem Qc1(a:Str)(b:Int):decide ((Sum.inr a:Key)=Sum.inl b)=false:=uO (fun q=>nomatch q)
noncomputable def Ja(prog:Program)(w:World):PySem.KeyKind prog w Key where
 is:=xt
 hash:=QcX w
 inj:=fun v a b ha hb=>by
  rcases Ji ha with⟨i,t,rfl,rfl⟩|⟨x,t,rfl,rfl⟩
  ·rcases Ji hb with⟨j,u,rfl,e⟩|⟨y,u,rfl,e⟩
   ·injection e with e1 _;rw[e1]
   ·exact nomatch e
  ·rcases Ji hb with⟨j,u,rfl,e⟩|⟨y,u,rfl,e⟩
   ·exact nomatch e
   ·injection e with e1 _;rw[e1]
 byValue:=fun k v h=>by
  rcases Ji h with⟨i,t,rfl,rfl⟩|⟨x,t,rfl,rfl⟩<;>rfl
 pyHash:=fun hv h=>by
  rcases Ji hv with⟨i,t,rfl,rfl⟩|⟨x,t,rfl,rfl⟩
  ·exact wpAny_pyHash_int h
  ·exact wpAny_pyHash_str h
 eqBool:=fun hu hv h=>by
  rcases Ji hu with⟨i,t,rfl,rfl⟩|⟨x,t,rfl,rfl⟩
  ·rcases Ji hv with⟨j,u,rfl,rfl⟩|⟨y,u,rfl,rfl⟩
   ·rw[QcY]at h;exact wpAny_eqBool_int h
   ·rw[Qc0]at h;exact SeqAt.EqAt.int_str i t y u _ _ _ _ h
  ·rcases Ji hv with⟨j,u,rfl,rfl⟩|⟨y,u,rfl,rfl⟩
   ·rw[Qc1]at h;exact SeqAt.EqAt.str_int x t j u _ _ _ _ h
   ·rw[QcZ]at h;exact wpAny_eqBool_str h
 «strs»:=fun k x t v h=>by
  rcases Ji h with⟨i,u,rfl,e⟩|⟨y,u,rfl,e⟩
  ·exact nomatch e
  ·injection e with e1 _;subst e1;cases v<;>rfl
theorem jo(prog:Program)(w:World)(i:Int)(t:Tok):(Ja prog w).is (.inl i) (.int i t)=true:=kl i t
theorem JH(prog:Program)(w:World)(x:Str)(t:Tok):(Ja prog w).is (.inr x) (.str x t)=true:=km x t
inductive V where
 |non|bl (b:Bool)|int (i:Int)|str (x:Str)|byt (b:Array UInt8)|flt (b:UInt64)|ref (a:Addr)|ty (n:String)
 deriving DecidableEq
noncomputable def RelV:V->Value->Prop
 | .non,u=>u=Value.none
 | .bl b,u=>u=Value.bool b
 | .int i,u=>∃t,u=Value.int i t
 | .str x,u=>∃t,u=Value.str x t
 | .byt b,u=>∃t,u=Value.bytes b t
 | .flt b,u=>∃t,u=Value.float b t
 | .ref a,u=>u=Value.ref a
 | .ty n,u=>u=Value.type n
noncomputable abbrev Vals:List V->List Value->Prop:=Paired RelV
theorem Vals.length{xs:List V}{us:List Value}(r:Vals xs us):xs.length=us.length:=Paired.length r
theorem Vals.get:∀{xs:List V}{us:List Value}{i:Nat}{x:V},Vals xs us->xs[i]? =some x->∃u,us[i]? =some u/\RelV x u
 |_,_,_,_,.nil,e=>by simp at e
 |_,_,0,_,.cons r _,e=>by simp at e;subst e;exact⟨_,rfl,r⟩
 |_,_,i+1,x,.cons _ t,e=>by
  obtain⟨u,h1,h2⟩:=Vals.get (i:=i) (x:=x) t (by simpa using e);exact⟨u,by simpa using h1,h2⟩
theorem Vals.set{x:V}{u:Value}(r:RelV x u):∀{xs:List V}{us:List Value}(i:Nat),Vals xs us->Vals (xs.set i x) (us.set i u)
 |_,_,_,.nil=>.nil
 |_,_,0,.cons _ t=>.cons r t
 |_,_,i+1,.cons q t=>.cons q (Vals.set r i t)
theorem Vals.append:∀{xs ys:List V}{us ws:List Value},Vals xs us->Vals ys ws->Vals (xs++ys) (us++ws)
 |_,_,_,_,.nil,s=>s
 |_,_,_,_,.cons r t,s=>.cons r (Vals.append t s)
theorem Vals.take:∀{xs:List V}{us:List Value}(n:Nat),Vals xs us->Vals (xs.take n) (us.take n)
 |_,_,0,_=>.nil
 |_,_,_+1,.nil=>.nil
 |_,_,n+1,.cons r t=>.cons r (Vals.take n t)
theorem Vals.drop:∀{xs:List V}{us:List Value}(n:Nat),Vals xs us->Vals (xs.drop n) (us.drop n)
 |_,_,0,r=>r
 |_,_,_+1,.nil=>.nil
 |_,_,n+1,.cons _ t=>Vals.drop n t
noncomputable def YI:Option V->Option Value->Prop
 |some v,some u=>RelV v u
 |none,none=>True
 |_,_=>False
noncomputable def KV{κ:Type}:List (κ × V)->List (κ × Value)->Prop:=Paired fun(p:κ × V)(q:κ × Value)=>p.1=q.1/\RelV p.2 q.2
noncomputable def kV:Key->V
 | .inl i=>.int i
 | .inr x=>.str x
inductive HO where
 |lst (xs:List V)
 |tup (xs:List V)
 |dK (kvs:List (Key × V))|dT (kvs:List (List Key × V))
 |set (S:Int->Bool) (n:Nat)
 |ins (C dx:Addr) (fs:List (Str × V))
 |own (x:Addr)
 |xd (fs:List (Str × V))
 |met (f x:Addr)
 |rng (lo hi:Int)
 |frz (o:Obj) (u:HO)
 |tbl (ps:Array Value)
 |ext (φ:Heap->Prop)
noncomputable abbrev Hp:=Addr->Option HO
noncomputable def upd(H:Hp)(a:Addr)(o:HO):Hp:=fun b=>if b=a then some o else H b
theorem Qd{H:Hp}{a:Addr}{o:HO}:upd H a o a=some o:=by unfold upd;rw[if_pos rfl]
theorem Ql{H:Hp}{a b:Addr}{o:HO}(h:b≠a):upd H a o b=H b:=by unfold upd;rw[if_neg h]
theorem Qbh{H:Hp}{a b:Addr}{o u:HO}(h:H a=some o)(h':H b=some u)(d:o≠u):a≠b:=by
 intro e;subst e;rw[h]at h';exact d (uR h')
theorem Qv{H:Hp}{a b:Addr}{o:HO}(h:H a=some o)(h':H b=none):a≠b:=by
 intro e;subst e;rw[h]at h';cases h'
noncomputable def WB(h:Heap)(a:Addr)(items:Array Value):Prop:=∃o,h.get? a=some o/\o.cls=.type "tuple"/\∃n,o.data=.seq items n/\o.dict=none
theorem WB.tup{h:Heap}{a:Addr}{items:Array Value}(p:WB h a items):IsTup h a items:=let ⟨o,h1,h2,n,h3,_⟩:=p;⟨o,h1,h2,n,h3⟩
theorem WB.new(h:Heap)(items:Array Value):WB (h.push {cls:=.type "tuple",data:=.seq items}) h.objs.size items:=⟨_,Heap.get?_push_size _ rfl,rfl,_,rfl,rfl⟩
section
variable (P:Program)(w:World)
noncomputable def Jw(H:Hp)(h:Heap)(a:Addr):HO->Prop
 | .lst xs=>xs.length<=sizeLine/\∃(its:List Value)(n:Nat),Vals xs its/\h.get? a=some {cls:=.type "list",data:=.seq its.toArray n}
 | .tup xs=>xs.length<=sizeLine/\∃its:List Value,Vals xs its/\WB h a its.toArray
 | .dK kvs=>kvs.length<=sizeLine/\(a==sysModules)=false/\∃vs,KV kvs vs/\h.DictOf (Ja P w) a vs
 | .dT kvs=>kvs.length<=sizeLine/\(a==sysModules)=false/\∃xs:List (List Key × Addr × Value),
   Paired (fun(p:List Key × V)(q:List Key × Addr × Value)=>p.1=q.1/\H q.2.1=some (.tup (p.1.map kV))/\RelV p.2 q.2.2) kvs xs/\
   ∃o es ep,h.get? a=some o/\o.ExactDict/\o.data=.dict es ep/\es.toList=xs.map (entryOfKey (tupleKind (Ja P w)))/\(xs.map (·.1)).Nodup
 | .set S n=>h.SetOf (intKind P w) a S n
 | .ins C dx fs=>H dx=some (.own a)/\fs.length<=1000/\dx≠a/\h.get? a=some (instObj C dx)/\
   ∃mA,h.Ns1 dx mA/\(∀f,YI (fs.lookup f) (mA f))/\PySem.Within mA (fs.map (·.1))
 | .own _=>∃o,h.get? a=some o
 | .xd fs=>∃mA,h.Ns1 a mA/\∀f,YI (fs.lookup f) (mA f)
 | .rng lo hi=>∃t u v,h.get? a=some {cls:=.type "range",data:=.fields #[.int lo t,.int hi u,.int 1 v]}
 | .frz o u=>h.get? a=some o/\Jw H h a u
 | .tbl ps=>h.get? a=some {cls:=.none,data:=.fields ps}
 | .met f x=>h.get? a=some (methodObj (.ref f) (.ref x))
 | .ext φ=>φ h/\(∃o,h.get? a=some o)/\∀h1 h2:Heap,φ h1->(∀o,h1.get? a=some o->h2.get? a=some o)->φ h2
noncomputable def HOk(H:Hp)(h:Heap):Prop:=∀a o,H a=some o->Jw P w H h a o
end
section
variable {P:Program}{w:World}{H H':Hp}{h h':Heap}{a:Addr}{o:HO}
theorem Jw.lt(x:Jw P w H h a o):a<h.objs.size:=by
 cases o with
 |lst xs=>obtain⟨_,_,_,_,e⟩:=x;exact Heap.lt_size e
 |tup xs=>obtain⟨_,_,_,p⟩:=x;exact p.tup.lt
 |dK kvs=>obtain⟨_,_,_,_,o,_,_,e,_⟩:=x;exact Heap.lt_size e
 |dT kvs=>obtain⟨_,_,_,_,o,_,_,e,_⟩:=x;exact Heap.lt_size e
 |set S n=>obtain⟨o,_,_,_,e,_⟩:=x;exact Heap.lt_size e
 |ins C dx fs=>obtain⟨_,_,_,e,_⟩:=x;exact Heap.lt_size e
 |own y=>obtain⟨_,e⟩:=x;exact Heap.lt_size e
 |xd fs=>obtain⟨_,⟨_,_,_,e,_⟩,_⟩:=x;exact Heap.lt_size e
 |rng lo hi=>obtain⟨_,_,_,e⟩:=x;exact Heap.lt_size e
 |frz ob u=>obtain⟨e,_⟩:=x;exact Heap.lt_size e
 |tbl ps=>exact Heap.lt_size (show h.get? a=some _ from x)
 |met f y=>exact Heap.lt_size (show h.get? a=some _ from x)
 |ext φ=>obtain⟨_,⟨_,e⟩,_⟩:=x;exact Heap.lt_size e
theorem Paired.Qer{α β:Type}{F G:α->β->Prop}:∀{l₁:List α}{l₂:List β},Paired F l₁ l₂->(∀a b,F a b->G a b)->Paired G l₁ l₂
 |_,_,.nil,_=>.nil
 |_,_,.cons r t,f=>.cons (f _ _ r) (Paired.Qer t f)
theorem Jw.kn(x:Jw P w H h a o)(k:∀b u,(b=a\/H b=some (.own a))->h.get? b=some u->h'.get? b=some u)
  (ho:∀b,H b=some (.own a)->H' b=some (.own a)) (ht:∀b xs,H b=some (.tup xs)->H' b=some (.tup xs)):Jw P w H' h' a o:=by
 induction o with
 |lst xs=>obtain⟨z,its,n,r,e⟩:=x;exact⟨z,its,n,r,k _ _ (.inl rfl) e⟩
 |tup xs=>obtain⟨z,its,r,ob,e,c⟩:=x;exact⟨z,its,r,ob,k _ _ (.inl rfl) e,c⟩
 |dK kvs=>obtain⟨z,y,vs,r,ob,es,ep,e,c⟩:=x;exact⟨z,y,vs,r,ob,es,ep,k _ _ (.inl rfl) e,c⟩
 |dT kvs=>
  obtain⟨z,y,xs,r,ob,es,ep,e,c⟩:=x;exact⟨z,y,xs,Paired.Qer r fun p q z=>⟨z.1,ht _ _ z.2.1,z.2.2⟩,ob,es,ep,k _ _ (.inl rfl) e,c⟩
 |set S n=>obtain⟨ob,es,ep,t,e,c⟩:=x;exact⟨ob,es,ep,t,k _ _ (.inl rfl) e,c⟩
 |ins C dx fs=>
  obtain⟨d,z,ne,e,mA,⟨od,es,ep,e2,c⟩,r⟩:=x;exact⟨ho _ d,z,ne,k _ _ (.inl rfl) e,mA,⟨od,es,ep,k _ _ (.inr d) e2,c⟩,r⟩
 |own y=>obtain⟨ob,e⟩:=x;exact⟨ob,k _ _ (.inl rfl) e⟩
 |xd fs=>obtain⟨mA,⟨od,es,ep,e,c⟩,r⟩:=x;exact⟨mA,⟨od,es,ep,k _ _ (.inl rfl) e,c⟩,r⟩
 |rng lo hi=>obtain⟨t,u,v,e⟩:=x;exact⟨t,u,v,k _ _ (.inl rfl) e⟩
 |frz ob u ih=>obtain⟨e,q⟩:=x;exact⟨k _ _ (.inl rfl) e,ih q⟩
 |tbl ps=>
  have e:h.get? a=some {cls:=.none,data:=.fields ps}:=x;show h'.get? a=some {cls:=.none,data:=.fields ps};exact k a _ (.inl rfl) e
 |met f y=>
  have e:h.get? a=some (methodObj (.ref f) (.ref y)):=x;show h'.get? a=some (methodObj (.ref f) (.ref y));exact k a _ (.inl rfl) e
 |ext φ=>obtain⟨p,⟨o,e⟩,st⟩:=x;exact⟨st _ _ p fun o q=>k _ _ (.inl rfl) q,⟨o,k _ _ (.inl rfl) e⟩,st⟩
theorem HOk.lt(x:HOk P w H h)(e:H a=some o):a<h.objs.size:=(x a o e).lt
theorem HOk.fresh(x:HOk P w H h)(e:h.objs.size<=a):H a=none:=by
 cases q:H a with
 |none=>rfl
 |some u=>exact absurd (Nat.lt_of_lt_of_le (x.lt q) e) (tL _)
theorem HOk.kept(x:HOk P w H h)(k:∀b u,h.get? b=some u->h'.get? b=some u):HOk P w H h':=fun a o e=>
 (x a o e).kn (fun b u _ q=>k b u q) (fun _ q=>q) fun _ _ q=>q
theorem HOk.laid(x:HOk P w H h)(k:∀b u,h.get? b=some u->h'.get? b=some u) (hp:h.objs.size<=a) (new:Jw P w (upd H a o) h' a o):HOk P w (upd H a o) h':=fun b u e=>by
 have hn:=x.fresh hp
 by_cases hb:b=a
 ·subst hb;rw[Qd]at e;cases e;exact new
 ·rw[Ql hb]at e;exact(x b u e).kn (fun c v _ q=>k c v q) (fun c q=>by rw[Ql (Qv q hn)];exact q) fun c xs q=>by rw[Ql (Qv q hn)];exact q
end
noncomputable def Rd(H:Hp)(a:Addr)(u:HO):Prop:=H a=some u\/∃o,H a=some (.frz o u)
theorem Rd.ok{P:Program}{w:World}{H:Hp}{h:Heap}{a:Addr}{u:HO}(r:Rd H a u)(x:HOk P w H h):Jw P w H h a u:=by
 rcases r with r|⟨o,r⟩
 ·exact x a u r
 ·obtain⟨_,q⟩:=x a _ r;exact q
noncomputable def Mut:Option HO->Prop
 |some (.lst _)=>True
 |some (.dK _)=>True
 |some (.dT _)=>True
 |some (.set _ _)=>True
 |some (.ins _ _ _)=>True
 |some (.ext _)=>True
 |_=>False
section
variable {P:Program}{w:World}{H:Hp}{h h':Heap}{x e:Addr}{o':HO}
theorem HOk.write(ok:HOk P w H h)(mu:Mut (H x))(he:e=x\/H e=some (.own x))(k:∀b u,b≠e->h.get? b=some u->h'.get? b=some u) (heo:∃u,h'.get? e=some u)
  (new:Jw P w (upd H x o') h' x o'):HOk P w (upd H x o') h':=fun b u q=>by
 have nown:∀c y,H c=some (.own y)->c≠x:=fun c y r z=>by subst z;rw[r]at mu;exact mu
 have ntup:∀c xs,H c=some (.tup xs)->c≠x:=fun c xs r z=>by subst z;rw[r]at mu;exact mu
 by_cases hb:b=x
 ·subst hb;rw[Qd]at q;cases q;exact new
 ·rw[Ql hb]at q
  by_cases hbe:b=e
  ·have q':H b=some (.own x):=by
    rcases he with z|z
    ·exact absurd (hbe.trans z) hb
    ·rw[hbe];exact z
   rw[q]at q';cases q';obtain⟨v,hv⟩:=heo;exact⟨v,by rw[hbe];exact hv⟩
  ·refine(ok b u q).kn (fun c v hc r=>k c v ?_ r) (fun c r=>by rw[Ql (nown c b r)];exact r) fun c xs r=>by rw[Ql (ntup c xs r)];exact r
   rcases hc with rfl|hc
   ·exact hbe
   ·rintro rfl;rcases he with z|z
    ·exact nown c b hc z
    ·rw[hc]at z;cases z;exact hb rfl
end
structure Un(fs ex:List Addr)(H H':Hp)(h h':Heap):Prop where
 keep:∀b o,h.get? b=some o->H b=none->b∉fs->b∉ex->h'.get? b=some o
 slot:∀b o,h.get? b=some o->H b=none->b∈fs->b∉ex->∃sl,h'.get? b=some {o with slots:=sl}
 free:∀b o,h.get? b=some o->H b=none->b∉ex->H' b=none
 there:∀b o,h.get? b=some o->b∉ex->∃o',h'.get? b=some o'
 WK:∀b xs,H b=some (.tup xs)->H' b=some (.tup xs)
 frzs:∀b o u,H b=some (.frz o u)->H' b=some (.frz o u)
 tbls:∀b ps,H b=some (.tbl ps)->∃more,H' b=some (.tbl (ps++more))
section
variable {fs fs' ex ex':List Addr}{H H1 H2:Hp}{h h1 h2 h':Heap}{a x e:Addr}{o:HO}
theorem Un.any(u:Un fs ex H H1 h h1){b:Addr}{ob:Obj}(q:h.get? b=some ob)(n:H b=none)(hx:b∉ex):∃sl,h1.get? b=some {ob with slots:=sl}:=by
 by_cases hb:b∈fs
 ·exact u.slot b ob q n hb hx
 ·exact⟨ob.slots,u.keep b ob q n hb hx⟩
theorem Un.kept(k:∀b u,h.get? b=some u->h'.get? b=some u):Un fs ex H H h h':=
 ⟨fun b ob q _ _ _=>k b ob q,fun b ob q _ _ _=>⟨ob.slots,k b ob q⟩,fun _ _ _ n _=>n,fun b ob q _=>⟨ob,k b ob q⟩,fun _ _ q=>q,fun _ _ _ q=>q,fun _ ps q=>⟨#[],by rw[q];simp⟩⟩
theorem Un.refl:Un fs ex H H h h:=Un.kept fun _ _ q=>q
theorem Un.laid(k:∀b u,h.get? b=some u->h'.get? b=some u) (hp:h.objs.size<=a) (hn:H a=none):Un fs ex H (upd H a o) h h' where
 keep:=fun b u q _ _ _=>k b u q
 slot:=fun b u q _ _ _=>⟨u.slots,k b u q⟩
 free:=fun b u q n _=>by rw[Ql (Nat.ne_of_lt (Nat.lt_of_lt_of_le (Heap.lt_size q) hp))];exact n
 there:=fun b u q _=>⟨u,k b u q⟩
 WK:=fun b xs q=>by rw[Ql (Qv q hn)];exact q
 frzs:=fun b u xs q=>by rw[Ql (Qv q hn)];exact q
 tbls:=fun b ps q=>⟨#[],by rw[Ql (Qv q hn),q];simp⟩
theorem Un.write(mu:Mut (H x))(he:e=x\/H e=some (.own x))(k:∀b u,b≠e->h.get? b=some u->h'.get? b=some u) (heo:∃u,h'.get? e=some u):Un fs ex H (upd H x o) h h':=by
 have hx:∀b,H b=none->b≠x:=fun b n z=>by subst z;rw[n]at mu;exact mu
 have hb:∀b,H b=none->b≠e:=fun b n z=>by
  subst z;rcases he with r|r
  ·exact hx b n r
  ·rw[n]at r;cases r
 have hm:∀b u,H b=some u->¬ Mut (some u)->b≠x:=fun b u q nm z=>by subst z;rw[q]at mu;exact nm mu
 refine⟨fun b u q n _ _=>k b u (hb b n) q,fun b u q n _ _=>⟨u.slots,k b u (hb b n) q⟩,fun b u q n _=>by rw[Ql (hx b n)];exact n,fun b u q _=>?_,
  fun b xs q=>by rw[Ql (hm b _ q fun z=>z)];exact q,fun b u xs q=>by rw[Ql (hm b _ q fun z=>z)];exact q,fun b ps q=>⟨#[],by rw[Ql (hm b _ q fun z=>z),q];simp⟩⟩
 by_cases hbe:b=e
 ·subst hbe;exact heo
 ·exact⟨u,k b u hbe q⟩
end
noncomputable def trk(h:Heap)(H:Hp):List Addr:=(List.range h.objs.size).filter fun a=>(H a).isSome
noncomputable def ya(h:Heap)(H:Hp):Heap:=hideAll h (trk h H)
theorem ko(h:Heap)(H:Hp):(ya h H).objs.size=h.objs.size:=hideAll_size _ _
theorem yb{h:Heap}{H:Hp}{b:Addr}{o:Obj}(e:h.get? b=some o)(n:H b=none):(ya h H).get? b=some o:=
 hideAll_get _ e fun hm=>by
  have q:(H b).isSome=true:=(List.mem_filter.mp hm).2;rw[n]at q;simp at q
theorem Qbi{h:Heap}{H:Hp}{b:Addr}{o:Obj}(e:(ya h H).get? b=some o):h.get? b=some o/\H b=none:=by
 have e':h.get? b=some o:=of_hideAll (trk h H) e;refine⟨e',?_⟩;cases q:H b with
 |none=>rfl
 |some x=>
  have hm:b∈trk h H:=List.mem_filter.mpr ⟨List.mem_range.mpr (Heap.lt_size e'),by simp[q]⟩;have z:(ya h H).get? b=none:=hideAll_none (trk h H) hm;rw[z]at e;cases e
structure Mod(K:PySem.W.Frag)(mg:Str->Option Value)(base:Heap):Prop where
 kin:K.In base
 glob:base.Ns mainGlobals mg
 blt:∃mb,base.Ns builtinsNs mb/\∀x:Str,x≠"__name__"->mb x=bootBuiltins x
 nolimit:base.NoLimit
structure Cx where
 prog:Program
 w:World
 K:PySem.W.Frag
 mg:Str->Option Value
 base:Heap
 A:Around
 N:List Str
 s₀:Shared
 H₀:Hp
 env:Env
 outer:List Env
 stack:List Env
 ex:List Addr
 fn:Str->Bool
 calm:Bool
 pn:List (Addr × Obj)
 xe:Value->Shared->Prop
noncomputable def frs(l:List Env):List Addr:=l.filterMap (·.frame)
noncomputable abbrev Cx.fs(X:Cx):List Addr:=frs X.outer
noncomputable def Vis(sc:Scope)(x:Str):Prop:=sc.names.lookup x=some .local\/sc.names.lookup x=some .cell\/sc.names.lookup x=some .free
noncomputable def Loc(sc:Scope)(x:Str):Prop:=sc.names.lookup x=some .local\/sc.names.lookup x=some .cell
noncomputable def Look(env:Env)(h:Heap)(m:Str->Option Value)(x:Str)(u:Value):Prop:=
 (env.kindOf x=some .local/\m x=some u)\/((env.kindOf x=some .cell\/env.kindOf x=some .free)/\∃c,env.cells.lookup x=some c/\h.IsCell c (some u))
structure Cx.Ok(X:Cx):Prop where
 mod:Mod X.K X.mg X.base
 kind:X.env.scope.kind=.function
 glob:X.env.globals=mainGlobals
 blt:X.env.builtins=builtinsNs
 above:X.s₀.heap.objs.size<=X.env.locals
 inj:∀x y c,X.env.cells.lookup x=some c->X.env.cells.lookup y=some c->x=y
 has:∀x,(X.env.kindOf x=some .cell\/X.env.kindOf x=some .free)->∃c,X.env.cells.lookup x=some c
 cab:∀x c,X.fn x=true->X.env.cells.lookup x=some c->X.s₀.heap.objs.size<=c
 hd:X.calm=true->X.A.handled=none
 frames:X.A.frames=some X.stack
 stk:X.stack=X.outer\/(X.stack=X.env::X.outer/\X.env.frame=some X.env.locals)
 exf:∀b∈X.ex,b≠X.env.locals/\∀x c,X.env.cells.lookup x=some c->c≠b
 bs:∀b o,X.base.get? b=some o->X.s₀.heap.get? b=some o/\X.H₀ b=none
 bsz:X.base.objs.size<=X.s₀.heap.objs.size
 noex:∀b o,X.base.get? b=some o->b∉X.ex
 exfs:∀b∈X.ex,b∉X.fs
 ki:X.s₀.heap.FunFrames X.base X.outer
 frf:∀b∈X.fs,X.H₀ b=none
structure Inv(X:Cx)(pins:List (Addr × Obj))(σ:List (Option V))(H:Hp)(s:Shared):Prop where
 ok:X.Ok
 os:s.os=X.s₀.os
 bare:AllBare s.gens
 base:Un X.fs X.ex X.H₀ H X.s₀.heap s.heap
 loc:∃m,s.heap.Ns X.env.locals m/\∀(i:Nat)(x:Str)(v:V),X.N[i]? =some x->σ[i]? =some (some v)->Vis X.env.scope x->∃u,RelV v u/\Look X.env s.heap m x u
 cell:∀x c,X.env.cells.lookup x=some c->∃v,s.heap.IsCell c v
 free:H X.env.locals=none
 freeC:∀x c,X.env.cells.lookup x=some c->H c=none
 pin:∀p∈X.pn++pins,s.heap.get? p.1=some p.2/\H p.1=none/\p.1≠X.env.locals/\p.1∉X.fs/\∀v,p.2.data≠ .cell v
 hok:HOk X.prog X.w H s.heap
 len:σ.length=X.N.length
section
variable {X:Cx}{pins:List (Addr × Obj)}{σ:List (Option V)}{H H':Hp}{s:Shared}{h':Heap}
theorem Cx.Ok.QfF(ok:X.Ok){b:Addr}{o:Obj}(e:X.base.get? b=some o):b∉X.fs:=fun hb=>by
 have:=(ok.ki.mem hb).1;rw[e]at this;cases this
theorem Inv.bs(I:Inv X pins σ H s):∀b o,X.base.get? b=some o->s.heap.get? b=some o/\H b=none:=fun b o e=>
 ⟨I.base.keep b o (I.ok.bs b o e).1 (I.ok.bs b o e).2 (I.ok.QfF e) (I.ok.noex b o e),I.base.free b o (I.ok.bs b o e).1 (I.ok.bs b o e).2 (I.ok.noex b o e)⟩
theorem Inv.bk(I:Inv X pins σ H s):∀b o,X.base.get? b=some o->s.heap.get? b=some o:=fun b o e=>(I.bs b o e).1
theorem Inv.mod(I:Inv X pins σ H s):Mod X.K X.mg X.base:=I.ok.mod
theorem Inv.kIn(I:Inv X pins σ H s):X.K.In s.heap:=I.ok.mod.kin.keeps I.bk
theorem Inv.lt(I:Inv X pins σ H s):X.env.locals<s.heap.objs.size:=let ⟨_,hn,_⟩:=I.loc;hn.lt
theorem Inv.sz(I:Inv X pins σ H s):X.s₀.heap.objs.size<=s.heap.objs.size:=Nat.le_trans I.ok.above (Nat.le_of_lt I.lt)
theorem Inv.QfG(I:Inv X pins σ H s){a:Addr}(h:s.heap.objs.size<=a):a∉X.fs:=fun hb=>by
 obtain⟨_,o,ho,_⟩:=I.ok.ki.mem hb;exact absurd (Nat.lt_of_lt_of_le (Heap.lt_size ho) (Nat.le_trans I.sz h)) (tL _)
theorem Inv.cne(I:Inv X pins σ H s):∀x c,X.env.cells.lookup x=some c->c≠X.env.locals:=fun x c e z=>by
 obtain⟨v,o,ho,hd⟩:=I.cell x c e;obtain⟨m,⟨o',es,ep,ho',hd',_⟩,_⟩:=I.loc;rw[z,ho']at ho;cases ho;rw[hd']at hd;cases hd
theorem Inv.ki(I:Inv X pins σ H s):s.heap.FunFrames X.base X.outer:=by
 have all:∀(l:List Env),(∀b∈frs l,b∈X.fs)->X.s₀.heap.FunFrames X.base l->s.heap.FunFrames X.base l:=by
  intro l
  induction l with
  |nil=>intro _ _;trivial
  |cons env r ih=>
   intro hs hl;obtain⟨hk,⟨L,o,hf,hn,ho,hd⟩,hr⟩:=hl;have hL:L∈X.fs:=hs L (by unfold frs;rw[List.filterMap_cons,hf];exact uX);obtain⟨sl,e⟩:=I.base.slot L o ho (I.ok.frf L hL) hL fun z=>I.ok.exfs L z hL;exact⟨hk,⟨L,_,hf,hn,e,hd⟩,ih (fun b hb=>hs b (by unfold frs;rw[List.filterMap_cons,hf];exact uW _ hb)) hr⟩
 exact all X.outer (fun _ hb=>hb) I.ok.ki
theorem Inv.stack(I:Inv X pins σ H s):s.heap.FunFrames X.base X.stack:=by
 rcases I.ok.stk with e|⟨e,hf⟩
 ·rw[e];exact I.ki
 ·rw[e];obtain⟨m,hn,_⟩:=I.loc;refine .cons (by rw[I.ok.kind];decide) hf hn ?_ I.ki;exact Heap.get?_none_of_le (Nat.le_trans I.ok.bsz I.ok.above)
theorem Inv.Yp(I:Inv X pins σ H s):∀b∈frs X.stack,b∈X.env.locals::X.fs:=fun b hb=>by
 rcases I.ok.stk with e|⟨e,hf⟩
 ·rw[e]at hb;exact uW _ hb
 ·rw[e]at hb;unfold frs at hb;rw[List.filterMap_cons,hf]at hb;exact hb
theorem Inv.W9(I:Inv X pins σ H s):∀b∈frs X.stack,H b=none:=fun b hb=>by
 rcases List.mem_cons.mp (I.Yp b hb)with e|hb
 ·rw[e];exact I.free
 ·obtain⟨_,o,ho,_⟩:=I.ok.ki.mem hb;exact I.base.free b o ho (I.ok.frf b hb) fun z=>I.ok.exfs b z hb
theorem Inv.step{g':Array GenState}{t':Nat}{d':Drawn}{ch:List Addr}(I:Inv X pins σ H s)
  (hch:∀b∈ch,(b∈X.ex\/X.s₀.heap.objs.size<=b)/\b≠X.env.locals/\(∀x c,X.env.cells.lookup x=some c->c≠b)/\∀p∈X.pn++pins,p.1≠b)
  (keep:∀b o,b≠X.env.locals->b∉X.fs->b∉ch->s.heap.get? b=some o->H b=none->h'.get? b=some o)
  (slot:∀b o,b≠X.env.locals->b∈X.fs->b∉ch->s.heap.get? b=some o->H b=none->∃sl,h'.get? b=some {o with slots:=sl}) (free:∀b o,b∉ch->s.heap.get? b=some o->H b=none->H' b=none)
  (there:∀b o,b∉ch->s.heap.get? b=some o->∃o',h'.get? b=some o')
  (WK:∀b xs,H b=some (.tup xs)->H' b=some (.tup xs)) (frzs:∀b o u,H b=some (.frz o u)->H' b=some (.frz o u)) (tbls:∀b ps,H b=some (.tbl ps)->∃more,H' b=some (.tbl (ps++more)))
  (ns:∀m,s.heap.Ns X.env.locals m->h'.Ns X.env.locals m) (hok:HOk X.prog X.w H' h') (hg:AllBare g'):
  Inv X pins σ H' {s with heap:=h',gens:=g',drawn:=d',toks:=t'}:=by
 have neL:∀b o,X.s₀.heap.get? b=some o->b≠X.env.locals:=fun b o e=>Nat.ne_of_lt (Nat.lt_of_lt_of_le (Heap.lt_size e) I.ok.above);have neC:∀b o,X.s₀.heap.get? b=some o->b∉X.ex->b∉ch:=fun b o e hx hb=>by
  rcases(hch b hb).1 with z|z
  ·exact hx z
  ·exact absurd (Nat.lt_of_lt_of_le (Heap.lt_size e) z) (tL _)
 have cellK:∀x c,X.env.cells.lookup x=some c->∀v,s.heap.IsCell c v->h'.IsCell c v:=fun x c e v⟨o,ho,hd⟩=>by
  have nch:c∉ch:=fun z=>(hch c z).2.2.1 x c e rfl
  by_cases hc:c∈X.fs
  ·obtain⟨sl,q⟩:=slot c o (I.cne x c e) hc nch ho (I.freeC x c e);exact⟨_,q,hd⟩
  ·exact⟨o,keep c o (I.cne x c e) hc nch ho (I.freeC x c e),hd⟩
 refine⟨I.ok,I.os,hg,⟨fun b o e n hb hx=>?_,fun b o e n hb hx=>?_,fun b o e n hx=>?_,fun b o e hx=>?_,fun b xs e=>WK b xs (I.base.WK b xs e),fun b o xs e=>frzs b o xs (I.base.frzs b o xs e),fun b ps e=>?_⟩,?_,fun x c e=>?_,?_,fun x c e=>?_,fun p hp=>?_,hok,I.len⟩
 ·exact keep b o (neL b o e) hb (neC b o e hx) (I.base.keep b o e n hb hx) (I.base.free b o e n hx)
 ·obtain⟨sl,e1⟩:=I.base.slot b o e n hb hx;obtain⟨sl',e2⟩:=slot b _ (neL b o e) hb (neC b o e hx) e1 (I.base.free b o e n hx);exact⟨sl',e2⟩
 ·obtain⟨o',e1⟩:=I.base.there b o e hx;exact free b o' (neC b o e hx) e1 (I.base.free b o e n hx)
 ·obtain⟨o',e1⟩:=I.base.there b o e hx;exact there b o' (neC b o e hx) e1
 ·obtain⟨m1,e1⟩:=I.base.tbls b ps e;obtain⟨m2,e2⟩:=tbls b _ e1;exact⟨m1++m2,by rw[e2,Array.append_assoc]⟩
 ·obtain⟨m,hn,hl⟩:=I.loc;refine⟨m,ns m hn,fun i x v e1 e2 e3=>?_⟩;obtain⟨u,r,l⟩:=hl i x v e1 e2 e3;refine⟨u,r,?_⟩;rcases l with l|⟨k,c,e,z⟩
  ·exact .inl l
  ·exact .inr ⟨k,c,e,cellK x c e _ z⟩
 ·obtain⟨v,z⟩:=I.cell x c e;exact⟨v,cellK x c e v z⟩
 ·obtain⟨m,⟨o,_,_,ho,_⟩,_⟩:=I.loc;exact free _ o (fun z=>(hch _ z).2.1 rfl) ho I.free
 ·obtain⟨v,o,ho,hd⟩:=I.cell x c e;exact free c o (fun z=>(hch c z).2.2.1 x c e rfl) ho (I.freeC x c e)
 ·obtain⟨e,n,ne,nf,d⟩:=I.pin p hp;have nch:p.1∉ch:=fun z=>(hch p.1 z).2.2.2 p hp rfl;exact⟨keep p.1 p.2 ne nf nch e n,free p.1 p.2 nch e n,ne,nf,d⟩
theorem Inv.un{t':Nat}(I:Inv X pins σ H s)(u:Un X.fs [] H H' s.heap h')(hok:HOk X.prog X.w H' h'):Inv X pins σ H' {s with heap:=h',toks:=t'}:=by
 obtain⟨m,⟨o,es,ep,ho,r⟩,_⟩:=id I.loc;obtain⟨sl,hL⟩:=u.any ho I.free (by simp);exact I.step (g':=s.gens) (d':=s.drawn) (ch:=[]) (fun _ z=>nomatch z) (fun b o _ hb _ e n=>u.keep b o e n hb (by simp)) (fun b o _ hb _ e n=>u.slot b o e n hb (by simp)) (fun b o _ e n=>u.free b o e n (by simp)) (fun b o _ e=>u.there b o e (by simp)) u.WK u.frzs u.tbls (fun m' hm=>by
  obtain⟨o',es',ep',ho',r'⟩:=hm;rw[ho]at ho';cases ho';exact⟨_,es',ep',hL,r'⟩) hok I.bare
theorem Inv.call{g':Array GenState}{t':Nat}{d':Drawn}{ch:List Addr}(I:Inv X pins σ H s)(u:Un (frs X.stack) ch H H' s.heap h')(hok:HOk X.prog X.w H' h')(hg:AllBare g')
  (hch:∀b∈ch,(b∈X.ex\/X.s₀.heap.objs.size<=b)/\b≠X.env.locals/\(∀x c,X.env.cells.lookup x=some c->c≠b)/\∀p∈X.pn++pins,p.1≠b):
  Inv X pins σ H' {s with heap:=h',gens:=g',drawn:=d',toks:=t'}:=by
 obtain⟨m,⟨o,es,ep,ho,r⟩,_⟩:=id I.loc;obtain⟨sl,hL⟩:=u.any ho I.free fun z=>(hch _ z).2.1 rfl;exact I.step (ch:=ch) hch (fun b o hL hb hc e n=>u.keep b o e n (fun z=>(List.mem_cons.mp (I.Yp b z)).elim hL hb) hc) (fun b o _ _ hc e n=>u.any e n hc) (fun b o hc e n=>u.free b o e n hc) (fun b o hc e=>u.there b o e hc) u.WK u.frzs u.tbls (fun m' hm=>by
  obtain⟨o',es',ep',ho',r'⟩:=hm;rw[ho]at ho';cases ho';exact⟨_,es',ep',hL,r'⟩) hok hg
theorem Inv.turned{t':Nat}{it:Addr}(I:Inv X pins σ H s)(k:∀b o,b≠it->s.heap.get? b=some o->h'.get? b=some o) (hn:H it=none) (hL:it≠X.env.locals)
  (h1:it∈X.ex\/X.s₀.heap.objs.size<=it) (h2:∀x c,X.env.cells.lookup x=some c->c≠it) (h3:∀p∈X.pn++pins,p.1≠it):Inv X pins σ H {s with heap:=h',toks:=t'}:=by
 have nit:∀b u,H b=some u->b≠it:=fun b u e z=>by rw[z,hn]at e;cases e
 refine I.step (g':=s.gens) (d':=s.drawn) (ch:=[it]) (fun b hb=>?_) (fun b o _ _ hc e _=>k b o (fun z=>hc (by simp[z])) e) (fun b o _ _ hc e _=>⟨o.slots,k b o (fun z=>hc (by simp[z])) e⟩) (fun _ _ _ _ n=>n)
  (fun b o hc e=>⟨o,k b o (fun z=>hc (by simp[z])) e⟩) (fun _ _ e=>e) (fun _ _ _ e=>e) (fun b ps e=>⟨#[],by rw[e];simp⟩) (fun m hm=>?_) (fun b u e=>?_) I.bare
 ·have e:b=it:=by simpa using hb
  subst e;exact⟨h1,hL,h2,h3⟩
 ·obtain⟨o,es,ep,ho,r⟩:=hm;exact⟨o,es,ep,k _ o (Ne.symm hL) ho,r⟩
 ·refine(I.hok b u e).kn (fun c v hc q=>k c v ?_ q) (fun _ q=>q) fun _ _ q=>q;rcases hc with z|z
  ·rw[z];exact nit b u e
  ·exact nit c _ z
theorem Inv.tok(I:Inv X pins σ H s)(t:Nat):Inv X pins σ H {s with toks:=t}:=I.un (h':=s.heap) (t':=t) Un.refl I.hok
theorem Inv.kept{t':Nat}(I:Inv X pins σ H s)(k:∀b u,s.heap.get? b=some u->h'.get? b=some u):Inv X pins σ H {s with heap:=h',toks:=t'}:=I.un (Un.kept k) (I.hok.kept k)
theorem Inv.laid{a:Addr}{o:HO}{t':Nat}(I:Inv X pins σ H s)(k:∀b u,s.heap.get? b=some u->h'.get? b=some u) (hp:s.heap.objs.size<=a) (new:Jw X.prog X.w (upd H a o) h' a o):
  Inv X pins σ (upd H a o) {s with heap:=h',toks:=t'}:=I.un (Un.laid k hp (I.hok.fresh hp)) (I.hok.laid k hp new)
theorem Inv.write{x e:Addr}{o:HO}{t':Nat}(I:Inv X pins σ H s)(mu:Mut (H x))(he:e=x\/H e=some (.own x))(k:∀b u,b≠e->s.heap.get? b=some u->h'.get? b=some u) (heo:∃u,h'.get? e=some u)
  (new:Jw X.prog X.w (upd H x o) h' x o):Inv X pins σ (upd H x o) {s with heap:=h',toks:=t'}:=I.un (Un.write mu he k heo) (I.hok.write mu he k heo new)
theorem Inv.weak{σ':List (Option V)}(I:Inv X pins σ H s)(hl:σ'.length=σ.length)(w:∀(i:Nat) v,σ'[i]? =some (some v)->σ[i]? =some (some v)):Inv X pins σ' H s:=
 ⟨I.ok,I.os,I.bare,I.base,let ⟨m,hn,hl'⟩:=I.loc;⟨m,hn,fun i x v e1 e2 e3=>hl' i x v e1 (w i v e2) e3⟩,I.cell,I.free,I.freeC,I.pin,I.hok,hl.trans I.len⟩
theorem Inv.Xv{pins':List (Addr × Obj)}(I:Inv X pins σ H s)(h:∀p∈pins',s.heap.get? p.1=some p.2/\H p.1=none/\p.1≠X.env.locals/\p.1∉X.fs/\∀v,p.2.data≠ .cell v):Inv X pins' σ H s:=
 ⟨I.ok,I.os,I.bare,I.base,I.loc,I.cell,I.free,I.freeC,fun p hp=>(List.mem_append.mp hp).elim (fun z=>I.pin p (uV _ z)) (h p),I.hok,I.len⟩
theorem zq{N:List Str}(hN:N.Nodup){i j:Nat}{x:Str}(a:N[i]? =some x)(b:N[j]? =some x):i=j:=by
 obtain⟨h1,e1⟩:=List.getElem?_eq_some_iff.mp a;obtain⟨h2,e2⟩:=List.getElem?_eq_some_iff.mp b;exact(List.getElem_inj hN).mp (e1.trans e2.symm)
theorem U4{M:Model}{A:Around}{E:Value->Shared->Prop}{i:Nat}{x:Str}{v:V}{u:Value}{Q:Unit->Shared->Prop}(I:Inv X pins σ H s)(hN:X.N.Nodup)(hi:X.N[i]? =some x)(hx:Loc X.env.scope x)(r:RelV v u)
  (h:∀s',Inv X pins (σ.set i (some v)) H s'->(∃a,Heap.SameBut a s.heap s'.heap/\(a=X.env.locals\/X.env.cells.lookup x=some a))->Q () s') (hf:X.fn x=true\/X.env.scope.names.lookup x=some .local:=by first|exact .inl rfl|exact .inr rfl|assumption):wpAny M A (storeName X.env x u) Q E s:=by
 obtain⟨m,hn,hl⟩:=id I.loc;have hcls:(X.env.scope.kind==.class||(X.env.scope.kind==.module&&X.env.locals !=X.env.globals))=false:=by rw[I.ok.kind];rfl
 have hiσ:i<σ.length:=by rw[I.len];exact(List.getElem?_eq_some_iff.mp hi).1
 have cne:=I.cne;have tracked:∀{a:Addr}{h':Heap},(∃o,s.heap.get? a=some o/\H a=none)->Heap.SameBut a s.heap h'->HOk X.prog X.w H h':=fun{a h'} ha hs b ob e=>by
  obtain⟨_,_,hfree⟩:=ha;refine(I.hok b ob e).kn (fun c w' hc q=>(hs.2 c ?_).trans q) (fun _ q=>q) fun _ _ q=>q;rintro rfl;rcases hc with rfl|hc
  ·rw[hfree]at e;cases e
  ·rw[hfree]at hc;cases hc
 rcases hx with hk|hk
 ·refine wpAny_storeName_local hk hn (fun h' hn' hs=>?_) hcls;obtain⟨oL,_,_,hoL,_⟩:=id hn;refine h _ ⟨I.ok,I.os,I.bare,⟨fun b o e n hb hx=>?_,fun b o e n hb hx=>?_,I.base.free,fun b o e hx=>?_,I.base.WK,I.base.frzs,I.base.tbls⟩,⟨_,hn',fun j y v' e1 e2 e3=>?_⟩,fun y c e=>?_,I.free,I.freeC,fun p hp=>?_,tracked ⟨oL,hoL,I.free⟩ hs,by simpa using I.len⟩ ⟨_,hs,.inl rfl⟩
  ·exact(hs.2 b (Nat.ne_of_lt (Nat.lt_of_lt_of_le (Heap.lt_size e) I.ok.above))).trans (I.base.keep b o e n hb hx)
  ·obtain⟨sl,e1⟩:=I.base.slot b o e n hb hx;exact⟨sl,(hs.2 b (Nat.ne_of_lt (Nat.lt_of_lt_of_le (Heap.lt_size e) I.ok.above))).trans e1⟩
  ·obtain⟨o',e1⟩:=I.base.there b o e hx;exact⟨o',(hs.2 b (Nat.ne_of_lt (Nat.lt_of_lt_of_le (Heap.lt_size e) I.ok.above))).trans e1⟩
  ·by_cases hj:j=i
   ·subst hj;rw[hi]at e1;cases e1;rw[List.getElem?_set_self hiσ]at e2;cases e2;exact⟨u,r,.inl ⟨hk,by simp⟩⟩
   ·rw[List.getElem?_set_ne (Ne.symm hj)]at e2;obtain⟨u',r',q⟩:=hl j y v' e1 e2 e3;refine⟨u',r',?_⟩;rcases q with⟨k,e⟩|⟨k,c,e,z⟩
    ·refine .inl ⟨k,?_⟩;have:y≠x:=fun e=>hj (zq hN e1 (e▸hi));simp[this,e]
    ·exact .inr ⟨k,c,e,z.sameBut hs (cne y c e)⟩
  ·obtain⟨w',z⟩:=I.cell y c e;exact⟨w',z.sameBut hs (cne y c e)⟩
  ·obtain⟨e,n,ne,nf,d⟩:=I.pin p hp;exact⟨(hs.2 p.1 ne).trans e,n,ne,nf,d⟩
 ·have hfn:X.fn x=true:=by
   rcases hf with z|z
   ·exact z
   ·rw[z]at hk;cases hk
  obtain⟨c,hc⟩:=I.ok.has x (.inl hk);obtain⟨w',z⟩:=I.cell x c hc;refine wpAny_storeName_cell I.ok.kind hk hc z (fun h' hc' hs=>?_);obtain⟨oc,hoc,hocd⟩:=id z;refine h {s with heap:=h'} ⟨I.ok,I.os,I.bare,⟨fun b o e n hb hx=>?_,fun b o e n hb hx=>?_,I.base.free,fun b o e hx=>?_,I.base.WK,I.base.frzs,I.base.tbls⟩,⟨m,hn.sameBut hs (Ne.symm (cne x c hc)),fun j y v' e1 e2 e3=>?_⟩,fun y c' e=>?_,I.free,I.freeC,fun p hp=>?_,tracked ⟨oc,hoc,I.freeC x c hc⟩ hs,by simpa using I.len⟩ ⟨c,hs,.inr hc⟩
  ·exact(hs.2 b (Nat.ne_of_lt (Nat.lt_of_lt_of_le (Heap.lt_size e) (I.ok.cab x c hfn hc)))).trans (I.base.keep b o e n hb hx)
  ·obtain⟨sl,e1⟩:=I.base.slot b o e n hb hx;exact⟨sl,(hs.2 b (Nat.ne_of_lt (Nat.lt_of_lt_of_le (Heap.lt_size e) (I.ok.cab x c hfn hc)))).trans e1⟩
  ·obtain⟨o',e1⟩:=I.base.there b o e hx;exact⟨o',(hs.2 b (Nat.ne_of_lt (Nat.lt_of_lt_of_le (Heap.lt_size e) (I.ok.cab x c hfn hc)))).trans e1⟩
  ·by_cases hj:j=i
   ·subst hj;rw[hi]at e1;cases e1;rw[List.getElem?_set_self hiσ]at e2;cases e2;exact⟨u,r,.inr ⟨.inl hk,c,hc,hc'⟩⟩
   ·rw[List.getElem?_set_ne (Ne.symm hj)]at e2;obtain⟨u',r',q⟩:=hl j y v' e1 e2 e3;refine⟨u',r',?_⟩;rcases q with q|⟨k,c',e,z'⟩
    ·exact .inl q
    ·refine .inr ⟨k,c',e,z'.sameBut hs ?_⟩;rintro rfl;exact hj (zq hN e1 (I.ok.inj _ _ _ e hc▸hi))
  ·by_cases hcc:c'=c
   ·subst hcc;exact⟨_,hc'⟩
   ·obtain⟨w2,z2⟩:=I.cell y c' e;exact⟨w2,z2.sameBut hs hcc⟩
  ·obtain⟨e,n,ne,nf,d⟩:=I.pin p hp;refine⟨(hs.2 p.1 ?_).trans e,n,ne,nf,d⟩;intro q;rw[q,hoc]at e;have q':oc=p.2:=uR e;exact d w' (by rw[←q'];exact hocd)
theorem Ks{M:Model}{A:Around}{E:Value->Shared->Prop}{i:Nat}{x:Str}{v:V}{u:Value}{Q:Unit->Shared->Prop}(I:Inv X pins σ H s)(hN:X.N.Nodup)(hi:X.N[i]? =some x)(hx:Loc X.env.scope x)(r:RelV v u)
  (h:∀s',Inv X pins (σ.set i (some v)) H s'->Q () s') (hf:X.fn x=true\/X.env.scope.names.lookup x=some .local:=by first|exact .inl rfl|exact .inr rfl|assumption):wpAny M A (storeName X.env x u) Q E s:=
 U4 I hN hi hx r (fun s' I' _=>h s' I') hf
theorem Inv.yc{s':Shared}{ch:List Addr}(I:Inv X pins σ H s)(ho:s'.os=s.os)(u:Un (frs X.stack) ch H H' s.heap s'.heap)(hok:HOk X.prog X.w H' s'.heap)(hg:AllBare s'.gens)
  (hch:∀b∈ch,(b∈X.ex\/X.s₀.heap.objs.size<=b)/\b≠X.env.locals/\(∀x c,X.env.cells.lookup x=some c->c≠b)/\∀p∈X.pn++pins,p.1≠b):Inv X pins σ H' s':=by
 obtain⟨h',g',d',t',o'⟩:=s';have e:o'=s.os:=ho;subst e;exact I.call (g':=g') (t':=t') (d':=d') u hok hg hch
end
noncomputable abbrev XK:=Value->Option Addr->Hp->Prop
noncomputable abbrev St:=List (Option V)
noncomputable abbrev VK:=V->Hp->Prop
noncomputable abbrev TE:=St->Hp->VK->Prop
noncomputable abbrev TT:=St->Hp->(Bool->Hp->Prop)->Prop
noncomputable abbrev TA:=St->Hp->(List V->Hp->Prop)->Prop
structure Ends where
 nx:St->Hp->Prop
 rt:VK
 bk:St->Hp->Prop:=fun _ _=>False
 ct:St->Hp->Prop:=fun _ _=>False
noncomputable abbrev TS:=Ends->St->Hp->Prop
noncomputable def EP(X:Cx)(pins:List (Addr × Obj))(σ:St)(Q:VK)(u:Value)(s':Shared):Prop:=∃v H',Inv X pins σ H' s'/\RelV v u/\Q v H'
noncomputable def TP(X:Cx)(pins:List (Addr × Obj))(σ:St)(Q:Bool->Hp->Prop)(b:Bool)(s':Shared):Prop:=∃H',Inv X pins σ H' s'/\Q b H'
noncomputable def AP(X:Cx)(pins:List (Addr × Obj))(σ:St)(Q:List V->Hp->Prop)(us:List Value)(s':Shared):Prop:=∃vs H',Inv X pins σ H' s'/\Vals vs us/\Q vs H'
noncomputable def SP(X:Cx)(pins:List (Addr × Obj))(D:Ends)(f:Flow)(s':Shared):Prop:=
 match f with
 | .next=>∃σ' H',Inv X pins σ' H' s'/\D.nx σ' H'
 | .brk=>∃σ' H',Inv X pins σ' H' s'/\D.bk σ' H'
 | .cont=>∃σ' H',Inv X pins σ' H' s'/\D.ct σ' H'
 | .ret u=>∃v σ' H',Inv X pins σ' H' s'/\RelV v u/\D.rt v H'
noncomputable def PE(X:Cx)(e:Expr)(t:TE):Prop:=
 ∀(pins:List (Addr × Obj))(s:Shared)(σ:St)(H:Hp)(Q:VK),Inv X pins σ H s->t σ H Q->wpAny (model X.prog X.w) X.A (eval e X.env) (EP X pins σ Q) X.xe s
noncomputable def PT(X:Cx)(e:Expr)(t:TT):Prop:=
 ∀(pins:List (Addr × Obj))(s:Shared)(σ:St)(H:Hp)(Q:Bool->Hp->Prop),Inv X pins σ H s->t σ H Q->wpAny (model X.prog X.w) X.A (isTrue e X.env (eval e X.env)) (TP X pins σ Q) X.xe s
noncomputable def PW(X:Cx)(e:Expr)(t:TT):Prop:=
 ∀(whole:Sem Value)(pins:List (Addr × Obj))(s:Shared)(σ:St)(H:Hp)(Q:Bool->Hp->Prop),Inv X pins σ H s->t σ H Q->wpAny (model X.prog X.w) X.A (isTrue e X.env whole) (TP X pins σ Q) X.xe s
theorem PW.pt{X:Cx}{e:Expr}{t:TT}(h:PW X e t):PT X e t:=h _
noncomputable def PA(X:Cx)(es:List Expr)(t:TA):Prop:=
 ∀(pos:Pos)(pins:List (Addr × Obj))(s:Shared)(σ:St)(H:Hp)(Q:List V->Hp->Prop),Inv X pins σ H s->t σ H Q->wpAny (model X.prog X.w) X.A (spliced (backTo pos (starEach es X.env))) (AP X pins σ Q) X.xe s
noncomputable def PS(X:Cx)(st:Stmt)(t:TS):Prop:=
 ∀(pins:List (Addr × Obj))(s:Shared)(σ:St)(H:Hp)(D:Ends),Inv X pins σ H s->t D σ H->wpAny (model X.prog X.w) X.A (exec st X.env) (SP X pins D) X.xe s
noncomputable def PSs(X:Cx)(st:List Stmt)(t:TS):Prop:=
 ∀(pins:List (Addr × Obj))(s:Shared)(σ:St)(H:Hp)(D:Ends),Inv X pins σ H s->t D σ H->wpAny (model X.prog X.w) X.A (execs st X.env) (SP X pins D) X.xe s
theorem thn{α:Type}{t:Sem α}{Q Q':α->Shared->Prop}{M:Model}{A:Around}{E:Value->Shared->Prop}{s:Shared}(h:wpAny M A t Q E s)(hQ:∀a s,Q a s->Q' a s):wpAny M A t Q' E s:=wpAny_mono h hQ fun _ _ x=>x
section
variable {X:Cx}
noncomputable def Kt(i:Nat):TE:=fun σ H Q=>∃v,σ[i]? =some (some v)/\Q v H
noncomputable def tC(v:V):TE:=fun _ H Q=>Q v H
theorem Qc2{i:Nat}{x:Str}{pos:Pos}(hN:X.N[i]? =some x)(hv:Vis X.env.scope x)(hd:(x==("__debug__":Str))=false:=by decide)(hcd:(x==("__classdict__":Str))=false:=by decide):PE X (.Name x pos) (Kt i):=by
 intro pins s σ H Q I h;obtain⟨v,e,h⟩:=h;obtain⟨m,hn,hl⟩:=I.loc;obtain⟨u,r,l⟩:=hl i x v hN e hv;have fin:EP X pins σ Q u s:=⟨v,H,I,r,h⟩;rcases l with⟨hk,hm⟩|⟨hk,c,hc,hcell⟩
 ·exact wpAny_Name (wpAny_loadName_local I.ok.kind hk hn hm fin) hd
 ·rcases hk with hk|hk
  ·exact wpAny_Name (wpAny_loadName_cell I.ok.kind hk hc hcell fin) hd
  ·exact wpAny_Name (wpAny_loadName_free I.ok.kind hk hc hcell fin hcd) hd
theorem Qg{i j pos}:PE X (.Constant (.int i) j pos) (tC (.int i)):=fun _ _ _ H _ I h=>wpAny_Constant_int ⟨.int i,H,I.tok _,⟨_,rfl⟩,h⟩
theorem WQ{b j pos}:PE X (.Constant (.bool b) j pos) (tC (.bl b)):=fun _ _ _ H _ I h=>Constant_bool ⟨.bl b,H,I,rfl,h⟩
theorem Zu{j pos}:PE X (.Constant .none j pos) (tC .non):=fun _ _ _ H _ I h=>Constant_none ⟨.non,H,I,rfl,h⟩
theorem Qk{x j pos}:PE X (.Constant (.str x) j pos) (tC (.str x)):=fun _ _ _ H _ I h=>Calls.Constant_str ⟨.str x,H,I.tok _,⟨_,rfl⟩,h⟩
noncomputable def Gl(X:Cx)(x:Str):Prop:=X.env.kindOf x=some .globalImplicit
theorem Va{E:Value->Shared->Prop}{pins:List (Addr × Obj)}{s:Shared}{σ:St}{H:Hp}{x:Str}{u:Value}{pos:Pos}{Q:Value->Shared->Prop}(I:Inv X pins σ H s)(hg:Gl X x)(hm:X.mg x=some u)(h:Q u s)
  (hd:(x==("__debug__":Str))=false:=by decide):wpAny (model X.prog X.w) X.A (eval (.Name x pos) X.env) Q E s:=
 Calls.Name_function_global I.ok.kind hg (Calls.loadGlobal_global (by rw[I.ok.glob];exact I.mod.glob.keeps I.bk) hm h) hd
theorem ZV{E:Value->Shared->Prop}{pins:List (Addr × Obj)}{s:Shared}{σ:St}{H:Hp}{x:Str}{u:Value}{pos:Pos}{Q:Value->Shared->Prop}(I:Inv X pins σ H s)(hg:Gl X x)(hm:X.mg x=none)(hv:bootBuiltins x=some u)(h:Q u s)
  (hn:x≠"__name__":=by decide) (hd:(x==("__debug__":Str))=false:=by decide):wpAny (model X.prog X.w) X.A (eval (.Name x pos) X.env) Q E s:=by
 obtain⟨mb,h1,h2⟩:=I.mod.blt;exact Calls.Name_function_global I.ok.kind hg (Calls.loadGlobal_builtin (by rw[I.ok.glob];exact I.mod.glob.keeps I.bk) hm (by rw[I.ok.blt];exact h1.keeps I.bk) ((h2 x hn).trans hv) h) hd
theorem QG{x:Str}{v:V}{u:Value}{pos:Pos}(hg:Gl X x)(hm:X.mg x=some u)(r:RelV v u)(hd:(x==("__debug__":Str))=false:=by decide):PE X (.Name x pos) (tC v):=
 fun _ _ _ H _ I h=>Va I hg hm ⟨v,H,I,r,h⟩ hd
theorem Vb{x:Str}{v:V}{u:Value}{pos:Pos}(hg:Gl X x)(hm:X.mg x=none)(hv:bootBuiltins x=some u)(r:RelV v u)(hn:x≠"__name__":=by decide)(hd:(x==("__debug__":Str))=false:=by decide):PE X (.Name x pos) (tC v):=
 fun _ _ _ H _ I h=>ZV I hg hm hv ⟨v,H,I,r,h⟩ hn hd
variable {a b:Expr}{ta tb:TE}{pos:Pos}
noncomputable def PC(X:Cx)(op:CmpOp)(a b:Expr)(t:TE):Prop:=
 ∀(pins:List (Addr × Obj))(s:Shared)(σ:St)(H:Hp)(Q:VK),Inv X pins σ H s->t σ H Q->
  wpAny (model X.prog X.w) X.A (eval a X.env) (fun v s₁=>wpAny (model X.prog X.w) X.A (eval b X.env) (fun u s₂=>wpAny (model X.prog X.w) X.A (compareOp op v u) (EP X pins σ Q) X.xe s₂) X.xe s₁) X.xe s
theorem yd(b:Expr){op:CmpOp}(h:op≠ .In)(h2:op≠ .NotIn):behindInMarks op b=false:=by
 have e1:(op==CmpOp.In)=false:=by cases op<;>first|rfl|exact absurd rfl h
 have e2:(op==CmpOp.NotIn)=false:=by cases op<;>first|rfl|exact absurd rfl h2
 cases b<;>simp[behindInMarks,e1,e2]
noncomputable def QfH(ta:TE):TE:=fun σ H Q=>ta σ H fun x H1=>Q (.bl (decide (x=.non))) H1
theorem RelV.ye{x:V}{v:Value}(r:RelV x v):(v==Value.none)=decide (x=.non):=by
 cases x with
 |non=>cases r;rfl
 |bl _=>cases r;rfl
 |int _=>obtain⟨t,rfl⟩:=r;rfl
 |str _=>obtain⟨t,rfl⟩:=r;rfl
 |byt _=>obtain⟨t,rfl⟩:=r;rfl
 |flt _=>obtain⟨t,rfl⟩:=r;rfl
 |ref _=>cases r;rfl
 |ty _=>cases r;rfl
theorem Ku{j pos'}(ha:PE X a ta):PC X .Is a (.Constant .none j pos') (QfH ta):=by
 intro pins s σ H Q I h;refine thn (ha pins s σ H _ I h) fun v s1⟨x,H1,I1,r1,q1⟩=>?_;exact Constant_none (is_none_gen ⟨.bl _,H1,I1,by rw[r1.ye];rfl,q1⟩)
noncomputable def tB(t:TE):TT:=fun σ H Q=>t σ H fun x H1=>∃c,x=.bl c/\Q c H1
theorem Xp{op:CmpOp}{t:TE}(h:PC X op a b t)(h1:behindInMarks op b=false:=by first|exact yd _ (by decide) (by decide)|rfl):PT X (.Compare a [op] [b] pos) (tB t):=by
 intro pins s σ H Q I hw;refine wpAny_isTrue_Compare1 (thn (h pins s σ H _ I hw) fun v s1 h1=>thn h1 fun u s2 h2=>thn h2 fun c s3⟨x,H1,I1,r1,q1⟩=>?_) h1;obtain⟨d,rfl,q⟩:=q1;cases r1;exact wpAny_truthy_bool ⟨H1,I1,q⟩
theorem X7{e:Expr}{t:TE}(h:PE X e t)(he:∀whole,isTrue e X.env whole=(do let v←whole;standAt e.pos;holding [v] (truthy v)):=by intro _;rfl):PT X e (tB t):=by
 intro pins s σ H Q I hw;refine isTrue_plain (thn (h pins s σ H _ I hw) fun v s1⟨x,H1,I1,r1,q1⟩=>?_) (he _);obtain⟨d,rfl,q⟩:=q1;cases r1;exact wpAny_truthy_bool ⟨H1,I1,q⟩
variable {tA tB':TT}{rest:List Expr}
noncomputable def QfI(t u:TT):TT:=fun σ H Q=>t σ H fun c H1=>if c=true then u σ H1 Q else Q false H1
noncomputable def tOr(t u:TT):TT:=fun σ H Q=>t σ H fun c H1=>if c=true then Q true H1 else u σ H1 Q
noncomputable def QfJ(t:TT):TT:=fun σ H Q=>t σ H fun c H1=>Q (!c) H1
theorem JX(ha:PT X a tA):PW X (.BoolOp .And [a] pos) tA:=by
 intro wh pins s σ H Q I h;refine isTrue_and (thn (ha pins s σ H Q I h) fun c s1 e=>?_);cases c with
 |true=>exact isTrue_and_nil e
 |false=>exact e
theorem J7(ha:PT X a tA):PW X (.BoolOp .Or [a] pos) tA:=by
 intro wh pins s σ H Q I h;refine isTrue_or (thn (ha pins s σ H Q I h) fun c s1 e=>?_);cases c with
 |false=>exact isTrue_or_nil e
 |true=>exact e
theorem Zi(ha:PT X a tA)(hb:PW X (.BoolOp .And (b::rest) pos) tB'):PW X (.BoolOp .And (a::b::rest) pos) (QfI tA tB'):=by
 intro wh pins s σ H Q I h;refine isTrue_and (thn (ha pins s σ H _ I h) fun c s1⟨H1,I1,q1⟩=>?_);cases c with
 |true=>exact hb wh pins s1 σ H1 Q I1 q1
 |false=>exact⟨H1,I1,q1⟩
theorem Z3(ha:PT X a tA)(hb:PW X (.BoolOp .Or (b::rest) pos) tB'):PW X (.BoolOp .Or (a::b::rest) pos) (tOr tA tB'):=by
 intro wh pins s σ H Q I h;refine isTrue_or (thn (ha pins s σ H _ I h) fun c s1⟨H1,I1,q1⟩=>?_);cases c with
 |true=>exact⟨H1,I1,q1⟩
 |false=>exact hb wh pins s1 σ H1 Q I1 q1
theorem Vc(ha:PT X a tA):PT X (.UnaryOp .Not a pos) (QfJ tA):=by
 intro pins s σ H Q I h;exact isTrue_not (ha pins s σ H (fun c H1=>Q (!c) H1) I h)
noncomputable def Qc3(ta tb:TE):TE:=fun σ H Q=>ta σ H fun x H1=>∃c,x=.bl c/\if c=true then tb σ H1 Q else Q (.bl false) H1
noncomputable def Qes(ta:TE):TE:=fun σ H Q=>ta σ H fun x H1=>∃c,x=.bl c/\Q (.bl (!c)) H1
theorem U5{op}{t:TE}(h:PE X a t):PE X (.BoolOp op [a] pos) t:=fun pins s σ H Q I hw=>BoolOp_one (h pins s σ H Q I hw)
theorem U6(ha:PE X a ta)(hb:PE X (.BoolOp .And (b::rest) pos) tb):PE X (.BoolOp .And (a::b::rest) pos) (Qc3 ta tb):=by
 intro pins s σ H Q I h;refine BoolOp_and (thn (ha pins s σ H _ I h) fun v s1⟨x,H1,I1,r1,q1⟩=>?_);obtain⟨c,rfl,q1⟩:=q1;cases r1;refine wpAny_truthy_bool ?_;cases c with
 |true=>exact hb pins s1 σ H1 Q I1 q1
 |false=>exact⟨.bl false,H1,I1,rfl,q1⟩
theorem Qc4(ha:PE X a ta):PE X (.UnaryOp .Not a pos) (Qes ta):=by
 intro pins s σ H Q I h;refine UnaryOp_ (thn (ha pins s σ H _ I h) fun v s1⟨x,H1,I1,r1,q1⟩=>?_);obtain⟨c,rfl,q1⟩:=q1;cases r1;exact not_of (wpAny_truthy_bool ⟨.bl (!c),H1,I1,rfl,q1⟩)
noncomputable def tIf(t:TT)(ta tb:TE):TE:=fun σ H Q=>t σ H fun c H1=>if c=true then ta σ H1 Q else tb σ H1 Q
theorem Jj{c:Expr}(hc:PT X c tA)(ha:PE X a ta)(hb:PE X b tb):PE X (.IfExp c a b pos) (tIf tA ta tb):=by
 intro pins s σ H Q I h;refine wpAny_IfExp (thn (hc pins s σ H _ I h) fun d s1⟨H1,I1,q1⟩=>?_);cases d with
 |true=>exact ha pins s1 σ H1 Q I1 q1
 |false=>exact hb pins s1 σ H1 Q I1 q1
end
noncomputable def SqL(K:PySem.W.Frag)(H:Hp)(a:Addr)(xs:List V):Prop:=
 Rd H a (.lst xs)\/
  ∃(o:Obj)(its:Array Value)(n:Nat),K.lookup a=some o/\o.cls=.type "list"/\o.dict=none/\o.data=.seq its n/\its.size<=sizeLine/\Vals xs its.toList
noncomputable def SqT(K:PySem.W.Frag)(H:Hp)(a:Addr)(xs:List V):Prop:=
 Rd H a (.tup xs)\/
  ∃(o:Obj)(its:Array Value)(n:Nat),K.lookup a=some o/\o.cls=.type "tuple"/\o.data=.seq its n/\its.size<=sizeLine/\Vals xs its.toList
noncomputable def QfK:Value->Option V
 | .none=>some .non
 | .bool b=>some (.bl b)
 | .int i _=>some (.int i)
 | .str x _=>some (.str x)
 | .bytes b _=>some (.byt b)
 | .float b _=>some (.flt b)
 | .ref a=>some (.ref a)
 | .type n=>some (.ty n)
 |_=>none
theorem RelV.abs{x:V}{u:Value}(r:RelV x u):QfK u=some x:=by
 cases x with
 |non=>cases r;rfl
 |bl _=>cases r;rfl
 |int _=>obtain⟨t,rfl⟩:=r;rfl
 |str _=>obtain⟨t,rfl⟩:=r;rfl
 |byt _=>obtain⟨t,rfl⟩:=r;rfl
 |flt _=>obtain⟨t,rfl⟩:=r;rfl
 |ref _=>cases r;rfl
 |ty _=>cases r;rfl
theorem RelV.inj{x y:V}{u:Value}(r:RelV x u)(q:RelV y u):x=y:=uR (r.abs.symm.trans q.abs)
theorem Vals.inj:∀{xs ys:List V}{us:List Value},Vals xs us->Vals ys us->xs=ys
 |_,_,_,.nil,.nil=>rfl
 |_,_,_,.cons r t,.cons r' t'=>by rw[r.inj r',Vals.inj t t']
section
variable {X:Cx}{pins:List (Addr × Obj)}{σ:St}{H:Hp}{s:Shared}{a:Addr}{xs ys:List V}
theorem SqL.of{K:PySem.W.Frag}(h:H a=some (.lst xs)):SqL K H a xs:=.inl (.inl h)
theorem SqT.of{K:PySem.W.Frag}(h:H a=some (.tup xs)):SqT K H a xs:=.inl (.inl h)
theorem Inv.list(I:Inv X pins σ H s)(h:SqL X.K H a xs):∃its:List Value,Vals xs its/\PlainL s.heap a its.toArray/\xs.length<=sizeLine:=by
 rcases h with h|⟨o,its,n,hk,hc,hd,hs,hz,r⟩
 ·obtain⟨z,its,n,r,e⟩:=h.ok I.hok;exact⟨its,r,⟨_,n,e,rfl,rfl,rfl⟩,z⟩
 ·refine⟨its.toList,r,⟨o,n,I.kIn a o hk,hc,hd,by simpa using hs⟩,?_⟩;have e:=r.length;simp only[tI]at e;omega
theorem Inv.tuple(I:Inv X pins σ H s)(h:SqT X.K H a xs):∃its:List Value,Vals xs its/\IsTup s.heap a its.toArray/\xs.length<=sizeLine:=by
 rcases h with h|⟨o,its,n,hk,hc,hs,hz,r⟩
 ·obtain⟨z,its,r,p⟩:=h.ok I.hok;exact⟨its,r,p.tup,z⟩
 ·refine⟨its.toList,r,⟨o,I.kIn a o hk,hc,n,by simpa using hs⟩,?_⟩;have e:=r.length;simp only[tI]at e;omega
theorem Inv.yf(I:Inv X pins σ H s)(h:SqL X.K H a xs)(h':SqL X.K H a ys):xs=ys:=by
 obtain⟨its,r,⟨o,n,e,_,_,d⟩,_⟩:=I.list h;obtain⟨its',r',⟨o',n',e',_,_,d'⟩,_⟩:=I.list h';rw[e]at e';cases e';rw[d]at d';injection d' with d1 _;have:its=its':=by simpa using congrArg Array.toList d1
 subst this;exact r.inj r'
theorem Inv.Vd(I:Inv X pins σ H s)(h:SqT X.K H a xs)(h':SqT X.K H a ys):xs=ys:=by
 obtain⟨its,r,⟨o,e,_,n,d⟩,_⟩:=I.tuple h;obtain⟨its',r',⟨o',e',_,n',d'⟩,_⟩:=I.tuple h';rw[e]at e';cases e';rw[d]at d';injection d' with d1 _;have:its=its':=by simpa using congrArg Array.toList d1
 subst this;exact r.inj r'
end
noncomputable abbrev Cx.v8(X:Cx)(E:Value->Shared->Prop):Cx:={X with xe:=E}
noncomputable abbrev Cx.nox(X:Cx):Cx:=X.v8 fun _ _=>False
theorem Cx.Ok.v8{X:Cx}(ok:X.Ok)(E:Value->Shared->Prop):(X.v8 E).Ok:=
 ⟨ok.mod,ok.kind,ok.glob,ok.blt,ok.above,ok.inj,ok.has,ok.cab,ok.hd,ok.frames,ok.stk,ok.exf,ok.bs,ok.bsz,ok.noex,ok.exfs,ok.ki,ok.frf⟩
theorem Cx.Ok.WC{X:Cx}{E:Value->Shared->Prop}(ok:(X.v8 E).Ok):X.Ok:=
 ⟨ok.mod,ok.kind,ok.glob,ok.blt,ok.above,ok.inj,ok.has,ok.cab,ok.hd,ok.frames,ok.stk,ok.exf,ok.bs,ok.bsz,ok.noex,ok.exfs,ok.ki,ok.frf⟩
section
variable {X:Cx}{pins:List (Addr × Obj)}{σ:St}{H:Hp}{s:Shared}{E:Value->Shared->Prop}
theorem Inv.v8(I:Inv X pins σ H s)(E:Value->Shared->Prop):Inv (X.v8 E) pins σ H s:=⟨I.ok.v8 E,I.os,I.bare,I.base,I.loc,I.cell,I.free,I.freeC,I.pin,I.hok,I.len⟩
theorem Inv.WC(I:Inv (X.v8 E) pins σ H s):Inv X pins σ H s:=⟨I.ok.WC,I.os,I.bare,I.base,I.loc,I.cell,I.free,I.freeC,I.pin,I.hok,I.len⟩
theorem SP.WC{D:Ends}{f:Flow}{s':Shared}(h:SP (X.v8 E) pins D f s'):SP X pins D f s':=by
 cases f with
 |next=>obtain⟨σ',H',I,q⟩:=h;exact⟨σ',H',I.WC,q⟩
 |brk=>obtain⟨σ',H',I,q⟩:=h;exact⟨σ',H',I.WC,q⟩
 |cont=>obtain⟨σ',H',I,q⟩:=h;exact⟨σ',H',I.WC,q⟩
 |ret u=>obtain⟨v,σ',H',I,r,q⟩:=h;exact⟨v,σ',H',I.WC,r,q⟩
theorem PSs.nox{st:List Stmt}{t:TS}(h:PSs X.nox st t):PSs X st t:=fun pins s σ H D I hw=>
 wpAny_mono (h pins s σ H D (I.v8 _) hw) (fun _ _ q=>q.WC) fun _ _ z=>False.elim z
end
section
variable {X:Cx}{st:Stmt}{rest:List Stmt}{t u:TS}{e:Expr}{te:TE}{pos:Pos}
noncomputable def Js:TS:=fun D σ H=>D.nx σ H
noncomputable def Xu(t u:TS):TS:=fun D σ H=>t {D with nx:=u D} σ H
theorem Qu:PSs X [] Js:=fun _ _ σ H _ I h=>wpAny_execs_nil ⟨σ,H,I,h⟩
theorem Qc(h1:PS X st t)(h2:PSs X rest u):PSs X (st::rest) (Xu t u):=by
 intro pins s σ H D I h;refine wpAny_execs_cons (thn (h1 pins s σ H {D with nx:=u D} I h) fun f s1 q=>?_);cases f with
 |next=>
  obtain⟨σ',H',I',q⟩:=q;exact h2 pins s1 σ' H' D I' q
 |ret v=>exact q
 |brk=>exact q
 |cont=>exact q
theorem Qf(h1:PS X st t):PSs X [st] t:=by
 intro pins s σ H D I h;refine wpAny_execs_cons (thn (h1 pins s σ H D I h) fun f s1 q=>?_);cases f with
 |next=>exact wpAny_execs_nil q
 |ret v=>exact q
 |brk=>exact q
 |cont=>exact q
theorem Inv.quiet{pins:List (Addr × Obj)}{σ:St}{H:Hp}{s:Shared}(I:Inv X pins σ H s):interactive X.env=false:=by simp[interactive,I.ok.kind]
noncomputable def Qet(te:TE):TS:=fun D σ H=>te σ H fun _ H1=>D.nx σ H1
theorem Jb(he:PE X e te)(hs:swapsWith e none pos.line X.env=pure false:=by rfl):PS X (.Expr e pos) (Qet te):=by
 intro pins s σ H D I h;exact wpAny_Expr_any (thn (he pins s σ H _ I h) fun v s1⟨x,H1,I1,r1,q1⟩=>⟨σ,H1,I1,q1⟩) I.quiet hs
noncomputable def QcR(te:TE):TS:=fun D σ H=>te σ H D.rt
theorem Qn(he:PE X e te):PS X (.Return (some e) pos) (QcR te):=by
 intro pins s σ H D I h;exact wpAny_Return_some (thn (he pins s σ H _ I h) fun v s1⟨x,H1,I1,r1,q1⟩=>⟨x,σ,H1,I1,r1,q1⟩)
noncomputable def Qeg(c:TT)(t u:TS):TS:=fun D σ H=>c σ H fun b H1=>if b=true then t D σ H1 else u D σ H1
theorem QM{c:Expr}{a b:List Stmt}{tc:TT}(hc:PT X c tc)(ha:PSs X a t)(hb:PSs X b u):PS X (.If c a b pos) (Qeg tc t u):=by
 intro pins s σ H D I h;refine wpAny_If (thn (hc pins s σ H _ I h) fun d s1⟨H1,I1,q1⟩=>?_);cases d with
 |true=>exact ha pins s1 σ H1 D I1 q1
 |false=>exact hb pins s1 σ H1 D I1 q1
end
noncomputable abbrev TG:=V->St->Hp->(St->Hp->Prop)->Prop
noncomputable abbrev TGs:=List V->St->Hp->(St->Hp->Prop)->Prop
noncomputable def PG(X:Cx)(target:Expr)(t:TG):Prop:=
 ∀(pins:List (Addr × Obj))(s:Shared)(σ:St)(H:Hp)(v:V)(u:Value)(Q:St->Hp->Prop),Inv X pins σ H s->RelV v u->t v σ H Q->
  wpAny (model X.prog X.w) X.A (assign target X.env u) (fun _ s'=>∃σ' H',Inv X pins σ' H' s'/\Q σ' H') X.xe s
noncomputable def PGs(X:Cx)(ts:List Expr)(t:TGs):Prop:=
 ∀(pins:List (Addr × Obj))(s:Shared)(σ:St)(H:Hp)(vs:List V)(us:List Value)(Q:St->Hp->Prop),Inv X pins σ H s->Vals vs us->t vs σ H Q->
  wpAny (model X.prog X.w) X.A (assignInOrder ((assignEach ts X.env).map (·.2)) us) (fun _ s'=>∃σ' H',Inv X pins σ' H' s'/\Q σ' H') X.xe s
noncomputable abbrev Qeu:=V->V->V->Hp->(Hp->Prop)->Prop
noncomputable def Qfk(X:Cx)(t:Qeu):Prop:=
 ∀(pins:List (Addr × Obj))(s:Shared)(σ:St)(H:Hp)(o i v:V)(ov iv u:Value)(Q:Hp->Prop),Inv X pins σ H s->RelV o ov->RelV i iv->RelV v u->t o i v H Q->
  wpAny (model X.prog X.w) X.A (setItem ov iv u) (fun _ s'=>∃H',Inv X pins σ H' s'/\Q H') X.xe s
noncomputable abbrev TIp:=V->V->Hp->VK->Prop
noncomputable def PIp(X:Cx)(op:Operator)(t:TIp):Prop:=
 ∀(pins:List (Addr × Obj))(s:Shared)(σ:St)(H:Hp)(x y:V)(v u:Value)(Q:VK),Inv X pins σ H s->RelV x v->RelV y u->t x y H Q->
  wpAny (model X.prog X.w) X.A (inplaceOp op v u) (EP X pins σ Q) X.xe s
section
variable {X:Cx}{pos:Pos}
noncomputable def QV(i:Nat):TG:=fun v σ H Q=>Q (σ.set i (some v)) H
theorem Qi{i:Nat}{x:Str}(hN:X.N.Nodup)(hi:X.N[i]? =some x)(hx:Loc X.env.scope x)(hf:X.fn x=true\/X.env.scope.names.lookup x=some .local:=by first|exact .inl rfl|exact .inr rfl|assumption):PG X (.Name x pos) (QV i):=by
 intro pins s σ H v u Q I r h;exact wpAny_assign_Name (Ks I hN hi hx r (fun s' I'=>⟨_,H,I',h⟩) hf)
noncomputable def Qeh:TGs:=fun vs σ H Q=>vs=[]/\Q σ H
noncomputable def jp(t:TG)(u:TGs):TGs:=fun vs σ H Q=>∃v r,vs=v::r/\t v σ H fun σ' H'=>u r σ' H' Q
theorem QA:PGs X [] Qeh:=by
 intro pins s σ H vs us Q I r h;obtain⟨e,h⟩:=h;subst e;cases r;exact assignInOrder_nil ⟨σ,H,I,h⟩
theorem Qh{e:Expr}{es:List Expr}{t:TG}{u:TGs}(h1:PG X e t)(h2:PGs X es u)
  (hs:(assignEach (e::es) X.env).map (·.2)=assign e X.env::(assignEach es X.env).map (·.2):=by rfl):PGs X (e::es) (jp t u):=by
 intro pins s σ H vs us Q I r h;obtain⟨v,vr,e1,h⟩:=h;subst e1;cases r with
 |cons r rr=>
  rw[hs];refine assignInOrder_cons (thn (h1 pins s σ H _ _ _ I r h) fun _ s1⟨σ1,H1,I1,q1⟩=>?_);exact h2 pins s1 σ1 H1 _ _ Q I1 rr q1
noncomputable def Qc5(K:PySem.W.Frag)(n:Nat)(t:TGs):TG:=fun v σ H Q=>∃a xs,v=.ref a/\SqT K H a xs/\xs.length=n/\t xs σ H Q
theorem QN{es:List Expr}{k:Nat}{t:TGs}{n:Nat}(hc:X.calm=true)(h:PGs X es t)
  (hn:(assignEach es X.env).length=n:=by rfl) (hst:(assignEach es X.env).findIdx? (·.1)=none:=by rfl):PG X (.Tuple es k pos) (Qc5 X.K n t):=by
 intro pins s σ H v u Q I r hw;obtain⟨a,xs,e1,hq,hl,hw⟩:=hw;subst e1;cases r;obtain⟨its,rv,ht,hz⟩:=I.tuple hq;refine assign_Tuple_tuple (I.ok.hd hc) ht (by simp[hn, ←hl,rv.length]) hst fun h' hx=>?_;have I1:Inv X pins σ H {s with heap:=h'}:=I.kept (t':=s.toks) fun b o e=>hx b o (Nat.ne_of_lt (Heap.lt_size e)) e;exact h pins _ σ H xs _ Q I1 (by simpa using rv) hw
noncomputable def QfL(to ti:TE)(t:Qeu):TG:=fun v σ H Q=>to σ H fun o H1=>ti σ H1 fun i H2=>t o i v H2 fun H3=>Q σ H3
theorem Qc6{o i:Expr}{to ti:TE}{t:Qeu}(ho:PE X o to)(hi:PE X i ti)(hs:Qfk X t)
  (ha:∀v,assign (.Subscript o i pos) X.env v=(do
   let ov←holding [v] (eval o X.env)
   let iv←holding [v,ov] (eval i X.env)
   standAt pos
   holding [v,ov,iv] (setItem ov iv v)
   release [v,ov,iv] []):=by intro _;rfl):PG X (.Subscript o i pos) (QfL to ti t):=by
 intro pins s σ H v u Q I r h;rw[ha];refine wpAny_bind (wpAny_holding (thn (ho pins s σ H _ I h) fun ov s1⟨x,H1,I1,r1,q1⟩=>?_));refine wpAny_bind (wpAny_holding (thn (hi pins s1 σ H1 _ I1 q1) fun iv s2⟨y,H2,I2,r2,q2⟩=>?_));refine wpAny_bind (wpAny_standAt (wpAny_bind (wpAny_holding (thn (hs pins s2 σ H2 x y v ov iv u _ I2 r1 r2 r q2) fun _ s3⟨H3,I3,q3⟩=>?_))));exact wpAny_release ⟨σ,H3,I3,q3⟩
noncomputable def Z2(te:TE)(g:TG):TS:=fun D σ H=>te σ H fun x H1=>g x σ H1 D.nx
theorem Q0{tg e:Expr}{te:TE}{g:TG}(he:PE X e te)(hg:PG X tg g)(hs:swapsWithSole [tg] e pos.line X.env=pure false:=by rfl)(hw:swappedStores [tg] e X.env=pure none:=by rfl)
  (h1:(assignEach [tg] X.env).map (·.2)=[assign tg X.env]:=by rfl):PS X (.Assign [tg] e pos) (Z2 te g):=by
 intro pins s σ H D I h;refine wpAny_Assign_stores (thn (he pins s σ H _ I h) fun v s1⟨x,H1,I1,r1,q1⟩=>?_) hs hw;rw[h1];exact thn (hg pins s1 σ H1 x v _ I1 r1 q1) fun _ s2 q=>q
theorem Qt{i:Nat}{x:Str}{e:Expr}{te:TE}{pos':Pos}(hN:X.N.Nodup)(hi:X.N[i]? =some x)(hx:Loc X.env.scope x)(he:PE X e te)(hs:swapsWith e (some (.Name x pos')) pos.line X.env=pure false:=by rfl)(hf:X.fn x=true\/X.env.scope.names.lookup x=some .local:=by first|exact .inl rfl|exact .inr rfl|assumption):
  PS X (.Assign [.Name x pos'] e pos) (Z2 te (QV i)):=by
 intro pins s σ H D I h;refine wpAny_Assign_Name (thn (he pins s σ H _ I h) fun v s1⟨y,H1,I1,r1,q1⟩=>?_) hs;exact Ks I1 hN hi hx r1 (fun s2 I2=>⟨_,H1,I2,q1⟩) hf
noncomputable def Qev(i j:Nat)(ta:TA):TS:=fun D σ H=>ta σ H fun vs H1=>∃v w,vs=[v,w]/\D.nx ((σ.set i (some v)).set j (some w)) H1
theorem U7{i j:Nat}{x y:Str}{a b:Expr}{ta:TA}{px py pt:Pos}{kt k2 pt2}(hc:X.calm=true)(hN:X.N.Nodup)(hi:X.N[i]? =some x)(hj:X.N[j]? =some y)(hij:i≠j)
  (hx:X.env.scope.names.lookup x=some .local) (hy:X.env.scope.names.lookup y=some .local) (ha:PA X [a,b] ta)
  (hw:swappedStores [.Tuple [.Name x px,.Name y py] kt pt] (.Tuple [a,b] k2 pt2) X.env=pure (some [x,y]))
  (hs:swapsWithSole [.Tuple [.Name x px,.Name y py] kt pt] (.Tuple [a,b] k2 pt2) pos.line X.env=pure false:=by rfl):
  PS X (.Assign [.Tuple [.Name x px,.Name y py] kt pt] (.Tuple [a,b] k2 pt2) pos) (Qev i j ta):=by
 intro pins s σ H D I h;rw[exec_Assign_arm];refine wpAny_bind (wpAny_standAt ?_);rw[hs];refine wpAny_bind (wpAny_pure ?_);rw[if_neg (by decide)];refine wpAny_bind (Tuple_ (thn (ha _ pins s σ H _ I h) fun us s1⟨vs,H1,I1,r1,q1⟩=>?_));obtain⟨v,w,e1,q1⟩:=q1;subst e1;obtain⟨u1,u2,rfl,rv,rw'⟩:∃u1 u2,us=[u1,u2]/\RelV v u1/\RelV w u2:=by
  cases r1 with
  |cons p q=>
   cases q with
   |cons p' q'=>
    cases q';exact⟨_,_,rfl,p,p'⟩
 refine wpAny_newObj_type ?_ (by show 2<=sizeLine;decide);have I2:Inv X pins σ H1 {s1 with heap:=s1.heap.push {cls:=.type "tuple",data:=.seq [u1,u2].toArray}}:=I1.kept (t':=s1.toks) fun b o e=>Heap.get?_push_of_some _ e;rw[hw];refine wpAny_bind (wpAny_pure ?_);show wpAny (model X.prog X.w) X.A (do rule "assign.swapped-stores";let items←unpackItems (.ref s1.heap.objs.size) 2 none;assignInOrder [fun v=>bindName X.env y v,fun v=>bindName X.env x v] items.reverse;pure Flow.next) _ _ _;refine wpAny_bind (wpAny_rule (wpAny_bind (unpackItems_tuple (items:= #[u1,u2]) (I.ok.hd hc) (IsTup.new s1.heap _) fun h' hx'=>?_)));have I3:=I2.kept (h':=h') (t':=s1.toks) fun b o e=>hx' b o (Nat.ne_of_lt (Heap.lt_size e)) e;show wpAny _ _ (assignInOrder [fun v=>bindName X.env y v,fun v=>bindName X.env x v] [u2,u1]>>=fun _=>pure Flow.next) _ _ _;refine wpAny_bind (assignInOrder_cons (wpAny_bindName (Ks I3 hN hj (.inl hy) rw' (fun s2 I4=>?_) (.inr hy))));refine assignInOrder_cons (wpAny_bindName (Ks I4 hN hi (.inl hx) rv (fun s3 I5=>assignInOrder_nil (wpAny_pure ?_)) (.inr hx)));rw[List.set_comm _ _ (Ne.symm hij)]at I5;exact⟨_,H1,I5,q1⟩
noncomputable def QfM(i:Nat)(te:TE)(ti:TIp):TS:=fun D σ H=>∃x,σ[i]? =some (some x)/\te σ H fun y H1=>ti x y H1 fun z H2=>D.nx (σ.set i (some z)) H2
theorem Kv{i:Nat}{x:Str}{e:Expr}{te:TE}{op:Operator}{ti:TIp}{pos':Pos}(hN:X.N.Nodup)(hi:X.N[i]? =some x)(hx:Loc X.env.scope x)(he:PE X e te)(ho:PIp X op ti)(hf:X.fn x=true\/X.env.scope.names.lookup x=some .local:=by first|exact .inl rfl|exact .inr rfl|assumption):
  PS X (.AugAssign (.Name x pos') op e pos) (QfM i te ti):=by
 intro pins s σ H D I h;obtain⟨v,e1,h⟩:=h;obtain⟨m,hn,hl⟩:=I.loc;have vis:Vis X.env.scope x:=by rcases hx with k|k;exact .inl k;exact .inr (.inl k)
 obtain⟨u,r,l⟩:=hl i x v hi e1 vis;refine wpAny_AugAssign_Name ?_;have go:wpAny (model X.prog X.w) X.A (eval e X.env) (fun w s₂=>wpAny (model X.prog X.w) X.A (inplaceOp op u w) (fun r s₃=>wpAny (model X.prog X.w) X.A (storeName X.env x r) (fun _=>SP X pins D .next) X.xe s₃) X.xe s₂) X.xe s:=by
  refine thn (he pins s σ H _ I h) fun w s1⟨y,H1,I1,r1,q1⟩=>?_;refine thn (ho pins s1 σ H1 v y u w _ I1 r r1 q1) fun z s2⟨zv,H2,I2,r2,q2⟩=>?_;exact Ks I2 hN hi hx r2 (fun s3 I3=>⟨_,H2,I3,q2⟩) hf
 rcases l with⟨hk,hm⟩|⟨hk,c,hc,hcell⟩
 ·exact wpAny_loadName_local I.ok.kind hk hn hm go
 ·rcases hk with hk|hk
  ·exact wpAny_loadName_cell I.ok.kind hk hc hcell go
  ·rcases hx with k|k
   ·have:X.env.scope.names.lookup x=some .free:=hk;rw[k]at this;cases this
   ·have:X.env.scope.names.lookup x=some .free:=hk;rw[k]at this;cases this
noncomputable def ipI(f:Int->Int->Int):TIp:=fun x y H Q=>∃i j,x=.int i/\y=.int j/\Q (.int (f i j)) H
theorem WD:PIp X .Add (ipI fun i j=>i+j):=by
 intro pins s σ H x y v u Q I r1 r2 h;obtain⟨i,j,e1,e2,q⟩:=h;subst e1;subst e2;obtain⟨t,rfl⟩:=r1;obtain⟨t',rfl⟩:=r2;exact iadd_int ⟨.int _,H,I.tok _,⟨_,rfl⟩,q⟩
end
section
variable {X:Cx}{pos:Pos}
noncomputable def Qc7(c:TT)(tb:TS):TS:=fun D σ H=>∃W:Nat->St->Hp->Prop,(∃m,W m σ H)/\∀m σ H,W m σ H->
 c σ H fun b H1=>if b=true then ∃N:St->Hp->Prop,(∀σ' H',N σ' H'->∃m',m'<m/\W m' σ' H')/\tb {D with nx:=N,ct:=N,bk:=D.nx} σ H1 else D.nx σ H1
theorem Z4{c:Expr}{body:List Stmt}{tc:TT}{tb:TS}(hp:PassesOwn (model X.prog X.w) X.A X.env X.xe)(hc:PT X c tc)(hb:PSs X body tb):PS X (.While c body [] pos) (Qc7 tc tb):=by
 intro pins s σ H D I h;obtain⟨W,⟨m0,w0⟩,turn⟩:=h;refine wpAny_While (codeAny_whileLoop (fun n s'=>∃σ' H',Inv X pins σ' H' s'/\W n σ' H') ?_ m0 ⟨σ,H,I,w0⟩);rintro n s1 ⟨σ1,H1,I1,w1⟩;refine wpAny_passesOwn hp (thn (hc pins s1 σ1 H1 _ I1 (turn n σ1 H1 w1)) fun b s2⟨H2,I2,q2⟩=>?_);cases b with
 |true=>
  obtain⟨N,hN,q2⟩:=q2;rw[if_pos rfl];refine wpAny_passesOwn hp (thn (hb pins s2 σ1 H2 _ I2 q2) fun f s3 q3=>?_);cases f with
  |next=>
   obtain⟨σ3,H3,I3,n3⟩:=q3;obtain⟨m',hm,w3⟩:=hN σ3 H3 n3;exact⟨m',hm,σ3,H3,I3,w3⟩
  |cont=>
   obtain⟨σ3,H3,I3,n3⟩:=q3;obtain⟨m',hm,w3⟩:=hN σ3 H3 n3;exact⟨m',hm,σ3,H3,I3,w3⟩
  |brk=>exact q3
  |ret v=>exact q3
 |false=>
  rw[if_neg Bool.false_ne_true];exact wpAny_execs_nil ⟨σ1,H2,I2,q2⟩
end
structure It where
 go:Nat->Hp->Prop
 yld:Nat->Hp->V->Hp->Prop
 stop:Nat->Hp->Prop
noncomputable def kq(X:Cx)(pins:List (Addr × Obj))(H:Hp)(b:Addr):Prop:=
 H b=none/\b≠X.env.locals/\b∉X.fs/\(b∈X.ex\/X.s₀.heap.objs.size<=b)/\(∀x c,X.env.cells.lookup x=some c->c≠b)/\∀p∈X.pn++pins,p.1≠b
theorem Inv.kj{X:Cx}{pins:List (Addr × Obj)}{σ:St}{H H':Hp}{s:Shared}{b:Addr}(I:Inv X pins σ H s)(hb:s.heap.objs.size<=b)(hn:H' b=none):kq X pins H' b:=by
 refine⟨hn,Nat.ne_of_gt (Nat.lt_of_lt_of_le I.lt hb),I.QfG hb,.inr (Nat.le_trans I.sz hb),fun x c e z=>?_,fun p hp z=>?_⟩
 ·obtain⟨v,q⟩:=I.cell x c e;exact absurd (Nat.lt_of_lt_of_le q.lt (by rw[z];exact hb)) (tL _)
 ·exact absurd (Nat.lt_of_lt_of_le (Heap.lt_size (I.pin p hp).1) (by rw[z];exact hb)) (tL _)
structure Turn(P:Program)(w:World)(K:PySem.W.Frag)(tg:Expr)(J:It)(fp:List Addr)(it:Addr)(tn:Nat->Heap->Prop):Prop where
 mem:it∈fp
 obj:∀i h,tn i h->∀b∈fp,∃o,h.get? b=some o/\∀v,o.data≠ .cell v
 keep:∀i h h',tn i h->(∀b∈fp,∀o,h.get? b=some o->h'.get? b=some o)->tn i h'
 item:∀(X:Cx),X.prog=P->X.w=w->X.K=K->X.calm=true->∀(i:Nat)(pins:List (Addr × Obj))(s:Shared)(σ:St)(H:Hp)(E:Value->Shared->Prop),Inv X pins σ H s->(∀b∈fp,kq X pins H b)->tn i s.heap->J.go i H->
  wpAny (model P w) X.A (pyNext (.ref it)) (fun r s1=>∃u,r=some u/\
   wpAny (model P w) X.A (letOwnedTupleGo tg (.ref it) u) (fun _ s2=>∃x H',Inv X pins σ H' s2/\RelV x u/\J.yld i H x H'/\tn (i+1) s2.heap/\∀b∈fp,H' b=none) E s1) E s
 done:∀(X:Cx),X.prog=P->X.w=w->X.K=K->X.calm=true->∀(i:Nat)(pins:List (Addr × Obj))(s:Shared)(σ:St)(H:Hp)(E:Value->Shared->Prop),Inv X pins σ H s->(∀b∈fp,kq X pins H b)->tn i s.heap->J.stop i H->
  wpAny (model P w) X.A (pyNext (.ref it)) (fun r s1=>r=none/\Inv X pins σ H s1) E s
 self:∀(A:Around)(i:Nat)(s:Shared)(Q:Value->Shared->Prop)(E:Value->Shared->Prop),tn i s.heap->Q (.ref it) s->wpAny (model P w) A (pyIter (.ref it)) Q E s
noncomputable abbrev TI:=St->Hp->(It->Hp->Prop)->Prop
noncomputable def PIE(X:Cx)(pins:List (Addr × Obj))(σ:St)(tg:Expr)(R:It->Hp->Prop)(itv:Value)(s2:Shared):Prop:=
 ∃(it:Addr)(fp:List Addr)(tn:Nat->Heap->Prop)(J:It)(H':Hp),itv=.ref it/\Inv X pins σ H' s2/\Turn X.prog X.w X.K tg J fp it tn/\tn 0 s2.heap/\(∀b∈fp,kq X pins H' b)/\R J H'
noncomputable def PI(X:Cx)(tg iter:Expr)(wi:TI):Prop:=
 ∀(pins:List (Addr × Obj))(s:Shared)(σ:St)(H:Hp)(R:It->Hp->Prop),Inv X pins σ H s->wi σ H R->
  wpAny (model X.prog X.w) X.A (eval iter X.env) (fun v s1=>wpAny (model X.prog X.w) X.A (pyIter v) (PIE X pins σ tg R) X.xe s1) X.xe s
theorem xu{M:Model}{A:Around}{E:Value->Shared->Prop}{s:Shared}{tg:Expr}{it:Addr}{u:Value}{o:Obj}{n:String}{vs:Array Value}{Q:Unit->Shared->Prop}(ho:s.heap.get? it=some o)(hc:o.cls=.type n)(hd:o.data=.fields vs)
  (hn:["enumerate","zip","dict_itemiterator","dict_reverseitemiterator","odict_iterator","itertools.zip_longest","itertools.pairwise"].contains n=false) (hQ:Q () s):wpAny M A (letOwnedTupleGo tg (.ref it) u) Q E s:=by
 unfold letOwnedTupleGo;cases tg<;>first
  |exact wpAny_pure hQ
  |(cases u<;>first
    |exact wpAny_pure hQ
    |(refine wpAny_bind (wpAny_load ho ?_)
      rw[hc,hd];show wpAny M A (if(["enumerate","zip","dict_itemiterator","dict_reverseitemiterator","odict_iterator","itertools.zip_longest","itertools.pairwise"].contains n&&vs[0]? ==some (rawInt _))=true then _ else _) Q E s;rw[if_neg (by intro h;rw[hn,Bool.false_and]at h;cases h)];exact wpAny_pure hQ))
noncomputable def Itl(K:PySem.W.Frag)(a:Addr):It:=
 ⟨fun i H=>∃xs x,SqL K H a xs/\xs[i]? =some x,fun i H x H'=>H'=H/\∀xs,SqL K H a xs->xs[i]? =some x,fun i H=>∃xs,SqL K H a xs/\xs.length<=i⟩
noncomputable def Itt(K:PySem.W.Frag)(a:Addr):It:=
 ⟨fun i H=>∃xs x,SqT K H a xs/\xs[i]? =some x,fun i H x H'=>H'=H/\∀xs,SqT K H a xs->xs[i]? =some x,fun i H=>∃xs,SqT K H a xs/\xs.length<=i⟩
noncomputable def Itr(lo:Int)(n:Nat):It:=⟨fun i _=>i<n,fun i H x H'=>H'=H/\x=.int (lo+i),fun i _=>n<=i⟩
theorem ku{P:Program}{w:World}{K:PySem.W.Frag}{tg:Expr}(a it:Addr):Turn P w K tg (Itl K a) [it] it (fun i h=>h.IsListIter it a i) where
 mem:=by simp
 obj:=fun i h st b hb=>by
  have e:b=it:=by simpa using hb
  subst e;obtain⟨o,e,c,d⟩:=st;exact⟨o,e,fun v z=>by rw[d]at z;cases z⟩
 keep:=fun i h h' st k=>st.at fun o e=>k it (by simp) o e
 item:=by
  intro X hP hw hK hc i pins s σ H E I hf st hg;subst hP hw hK;obtain⟨xs,x,hq,hx⟩:=hg;obtain⟨its,rv,p,hz⟩:=I.list hq;obtain⟨u,hu,ru⟩:=rv.get hx;obtain⟨f0,f1,f2,f3,f4,f5⟩:=hf it (by simp);refine wpAny_pyNext_list_item st p.isList (x:=u) (by simpa using hu) fun h' st' sb=>?_;have I1:Inv X pins σ H {s with heap:=h'}:=I.turned (t':=s.toks) (fun b o hb e=>(sb.2 b hb).trans e) f0 f1 f3 f4 f5;obtain⟨o,e,c,d⟩:=id st';exact⟨u,rfl,xu (s:={s with heap:=h'}) e c d (by decide) ⟨x,H,I1,ru,⟨rfl,fun ys hy=>by rw[I.yf hy hq];exact hx⟩,st',fun b hb=>(hf b hb).1⟩⟩
 done:=by
  intro X hP hw hK hc i pins s σ H E I hf st hg;subst hP hw hK;obtain⟨xs,hq,hx⟩:=hg;obtain⟨its,rv,p,hz⟩:=I.list hq;obtain⟨f0,f1,f2,f3,f4,f5⟩:=hf it (by simp);have hl:=rv.length;exact wpAny_pyNext_list_end (I.ok.hd hc) st p.isList (by simp;omega) fun h' eb=>⟨rfl,I.turned (t':=s.toks) (fun b o hb e=>eb b o hb e) f0 f1 f3 f4 f5⟩
 self:=fun _ _ _ _ _ st h=>wpAny_pyIter_listiter st h
theorem xv{P:Program}{w:World}{K:PySem.W.Frag}{tg:Expr}(a it:Addr):Turn P w K tg (Itt K a) [it] it (fun i h=>h.IsTupleIter it a i) where
 mem:=by simp
 obj:=fun i h st b hb=>by
  have e:b=it:=by simpa using hb
  subst e;obtain⟨o,e,c,d⟩:=st;exact⟨o,e,fun v z=>by rw[d]at z;cases z⟩
 keep:=fun i h h' st k=>st.at fun o e=>k it (by simp) o e
 item:=by
  intro X hP hw hK hc i pins s σ H E I hf st hg;subst hP hw hK;obtain⟨xs,x,hq,hx⟩:=hg;obtain⟨its,rv,p,hz⟩:=I.tuple hq;obtain⟨u,hu,ru⟩:=rv.get hx;obtain⟨f0,f1,f2,f3,f4,f5⟩:=hf it (by simp);refine wpAny_pyNext_tuple_item st (show s.heap.IsTuple a its.toArray from p) (x:=u) (by simpa using hu) fun h' st' sb=>?_;have I1:Inv X pins σ H {s with heap:=h'}:=I.turned (t':=s.toks) (fun b o hb e=>(sb.2 b hb).trans e) f0 f1 f3 f4 f5;obtain⟨o,e,c,d⟩:=id st';exact⟨u,rfl,xu (s:={s with heap:=h'}) e c d (by decide) ⟨x,H,I1,ru,⟨rfl,fun ys hy=>by rw[I.Vd hy hq];exact hx⟩,st',fun b hb=>(hf b hb).1⟩⟩
 done:=by
  intro X hP hw hK hc i pins s σ H E I hf st hg;subst hP hw hK;obtain⟨xs,hq,hx⟩:=hg;obtain⟨its,rv,p,hz⟩:=I.tuple hq;obtain⟨f0,f1,f2,f3,f4,f5⟩:=hf it (by simp);have hl:=rv.length;exact wpAny_pyNext_tuple_end (I.ok.hd hc) st (show s.heap.IsTuple a its.toArray from p) (by simp;omega) fun h' eb=>⟨rfl,I.turned (t':=s.toks) (fun b o hb e=>eb b o hb e) f0 f1 f3 f4 f5⟩
 self:=fun _ _ _ _ _ st h=>wpAny_pyIter_tupleiter st h
theorem xw{P:Program}{w:World}{K:PySem.W.Frag}{tg:Expr}(it:Addr)(lo:Int)(n:Nat):Turn P w K tg (Itr lo n) [it] it (fun i h=>IsRangeIter h it (lo+(i:Nat)*1) ((n:Int)-(i:Nat)) 1) where
 mem:=by simp
 obj:=fun i h st b hb=>by
  have e:b=it:=by simpa using hb
  subst e;exact⟨_,st,fun v z=>by
   have z':Data.fields _=Data.cell v:=z;cases z'⟩
 keep:=fun i h h' st k=>k it (by simp) _ st
 item:=by
  intro X hP hw hK hc i pins s σ H E I hf st hg;subst hP hw hK;obtain⟨f0,f1,f2,f3,f4,f5⟩:=hf it (by simp);have W:=Walks.range (prog:=X.prog) (w:=X.w) (I.ok.hd hc) it lo 1 n;refine W.item i s _ _ hg st fun v h' tk hv st' kk=>?_;obtain⟨t,rfl⟩:=hv;have I1:Inv X pins σ H {s with heap:=h',toks:=tk}:=I.turned (fun b o hb e=>kk b o (by simpa using hb) e) f0 f1 f3 f4 f5;refine⟨_,rfl,xu (s:={s with heap:=h',toks:=tk}) (n:="range_iterator") st' rfl rfl (by decide) ⟨.int (lo+i),H,I1,⟨t,?_⟩,⟨rfl,rfl⟩,st',fun b hb=>(hf b hb).1⟩⟩;rw[Int.mul_one]
 done:=by
  intro X hP hw hK hc i pins s σ H E I hf st hg;subst hP hw hK;obtain⟨f0,f1,f2,f3,f4,f5⟩:=hf it (by simp);exact wpAny_pyNext_range_end (I.ok.hd hc) st (by have:n<=i:=hg;omega) fun h' eb=>⟨rfl,I.turned (t':=s.toks) (fun b o hb e=>eb b o hb e) f0 f1 f3 f4 f5⟩
 self:=fun _ _ _ _ _ st h=>wpAny_pyIter_rangeiter st h
section
variable {X:Cx}{tg:Expr}
noncomputable def Qbj(K:PySem.W.Frag)(tl:TE):TI:=fun σ H R=>tl σ H fun x H1=>∃a,x=.ref a/\(∃xs,SqL K H1 a xs)/\R (Itl K a) H1
noncomputable def Qfl(K:PySem.W.Frag)(tl:TE):TI:=fun σ H R=>tl σ H fun x H1=>∃a,x=.ref a/\(∃xs,SqT K H1 a xs)/\R (Itt K a) H1
theorem K4{l:Expr}{tl:TE}(hl:PE X l tl):PI X tg l (Qbj X.K tl):=by
 intro pins s σ H R I h;refine thn (hl pins s σ H _ I h) fun v s1⟨x,H1,I1,r1,q1⟩=>?_;obtain⟨a,e,⟨xs,hq⟩,q⟩:=q1;subst e;cases r1;obtain⟨its,rv,p,hz⟩:=I1.list hq;refine wpAny_pyIter_list p.isList ?_;refine⟨s1.heap.objs.size,[s1.heap.objs.size],_,_,H1,rfl,I1.kept (t':=s1.toks) fun b o e=>Heap.get?_push_of_some _ e,ku a _,⟨_,Heap.get?_push_size _ rfl,rfl,rfl⟩,fun b hb=>?_,q⟩;have e:b=s1.heap.objs.size:=by simpa using hb
 subst e;exact I1.kj (uQ _) (I1.hok.fresh (uQ _))
theorem U8{l:Expr}{tl:TE}(hl:PE X l tl):PI X tg l (Qfl X.K tl):=by
 intro pins s σ H R I h;refine thn (hl pins s σ H _ I h) fun v s1⟨x,H1,I1,r1,q1⟩=>?_;obtain⟨a,e,⟨xs,hq⟩,q⟩:=q1;subst e;cases r1;obtain⟨its,rv,p,hz⟩:=I1.tuple hq;refine wpAny_pyIter_tuple (show s1.heap.IsTuple a its.toArray from p) ?_;refine⟨s1.heap.objs.size,[s1.heap.objs.size],_,_,H1,rfl,I1.kept (t':=s1.toks) fun b o e=>Heap.get?_push_of_some _ e,xv a _,⟨_,Heap.get?_push_size _ rfl,rfl,rfl⟩,fun b hb=>?_,q⟩;have e:b=s1.heap.objs.size:=by simpa using hb
 subst e;exact I1.kj (uQ _) (I1.hok.fresh (uQ _))
theorem yg{pins:List (Addr × Obj)}{σ:St}{H:Hp}{s:Shared}{R:It->Hp->Prop}{E:Value->Shared->Prop}{lo hi:Int}{t u v:Tok}{tk:Nat}(I:Inv X pins σ H s)(h1: -(2^62)<=lo)(h2:lo<2^62)(h3: -(2^62)<=hi)(h4:hi<2^62)
  (q:R (Itr lo (hi-lo).toNat) H):wpAny (model X.prog X.w) X.A (pyIter (.ref s.heap.objs.size)) (PIE X pins σ tg R) E {s with heap:=s.heap.push {cls:=.type "range",data:=.fields #[.int lo t,.int hi u,.int 1 v]},toks:=tk}:=by
 refine wpAny_pyIter_range (IsRange.new ..) (small_one h1 h2 h3 h4) ?_;have I1:Inv X pins σ H {s with heap:=s.heap.push {cls:=.type "range",data:=.fields #[.int lo t,.int hi u,.int 1 v]},toks:=tk}:=I.kept fun b o e=>Heap.get?_push_of_some _ e;refine⟨(s.heap.push {cls:=.type "range",data:=.fields #[.int lo t,.int hi u,.int 1 v]}).objs.size,[(s.heap.push {cls:=.type "range",data:=.fields #[.int lo t,.int hi u,.int 1 v]}).objs.size],_,_,H,rfl,
  I1.kept (t':=tk) fun b o e=>Heap.get?_push_of_some _ e,xw _ lo (hi-lo).toNat,?_,fun b hb=>?_,q⟩
 ·have e1:lo+((0:Nat):Int)*1=lo:=by simp
  have e2:(((hi-lo).toNat:Nat):Int)-((0:Nat):Int)=Builtin.Range.rangeSize lo hi 1:=by rw[rangeSize_one];split<;>omega
  show IsRangeIter _ _ (lo+((0:Nat):Int)*1) ((((hi-lo).toNat:Nat):Int)-((0:Nat):Int)) 1;rw[e1,e2];exact Heap.get?_push_size _ rfl
 ·have e:b=(s.heap.push {cls:=.type "range",data:=.fields #[.int lo t,.int hi u,.int 1 v]}).objs.size:=by simpa using hb
  subst e;exact I1.kj (uQ _) (I1.hok.fresh (uQ _))
noncomputable def Qew(ta:TA):TI:=fun σ H R=>ta σ H fun vs H1=>∃j:Int,vs=[.int j]/\ -(2^62)<=j/\j<2^62/\R (Itr 0 j.toNat) H1
theorem Xw{a:Expr}{ta:TA}{p pos:Pos}(hg:Gl X "range")(hm:X.mg "range"=none)(ha:PA X [a] ta)(hs:starEach [a] X.env=[(false,eval a X.env)]:=by rfl):PI X tg (.Call (.Name "range" p) [a] [] pos) (Qew ta):=by
 intro pins s σ H R I h;refine Call_ (ZV I hg hm boot_range (PyProof.Rows.callWith_type1 (thn (ha pos pins s σ H _ I h) fun us s1⟨vs,H1,I1,r1,q1⟩=>?_) hs rfl));obtain⟨j,e,q1,q2,q⟩:=q1;subst e;cases r1 with
 |cons r rr=>
  cases rr;obtain⟨t,rfl⟩:=r;exact call_range_1 (yg I1 (by omega) (by omega) q1 q2 (by simpa using q))
noncomputable def Qfm(wi:TI)(g:TG)(tb:TS):TS:=fun D σ H=>wi σ H fun J H1=>∃W:Nat->Nat->St->Hp->Prop,(∃m,W 0 m σ H1)/\∀i m σ H,W i m σ H->
 (J.stop i H/\D.nx σ H)\/(J.go i H/\∃N:St->Hp->Prop,(∀σ' H',N σ' H'->∃m',m'<m/\W (i+1) m' σ' H')/\∀x H',J.yld i H x H'->g x σ H' fun σ2 H2=>tb {D with nx:=N,ct:=N,bk:=D.nx} σ2 H2)
noncomputable def Ve(fp:List Addr)(h:Heap):List (Addr × Obj):=fp.filterMap fun b=>(h.get? b).map fun o=>(b,o)
theorem JL{fp:List Addr}{h:Heap}{b:Addr}{o:Obj}(hb:b∈fp)(e:h.get? b=some o):(b,o)∈Ve fp h:=List.mem_filterMap.mpr ⟨b,hb,by rw[e];rfl⟩
theorem ky{fp:List Addr}{h:Heap}{p:Addr × Obj}(hp:p∈Ve fp h):p.1∈fp/\h.get? p.1=some p.2:=by
 obtain⟨b,hb,e⟩:=List.mem_filterMap.mp hp;cases q:h.get? b with
 |none=>rw[q]at e;cases e
 |some o=>
  rw[q]at e;have e':(b,o)=p:=uR e;subst e';exact⟨hb,q⟩
theorem Inv.pinned{pins:List (Addr × Obj)}{σ:St}{H:Hp}{s:Shared}{fp:List Addr}(I:Inv X pins σ H s)(hf:∀b∈fp,kq X pins H b) (ho:∀b∈fp,∃o,s.heap.get? b=some o/\∀v,o.data≠ .cell v):Inv X (pins++Ve fp s.heap) σ H s:=
 I.Xv fun p hp=>(List.mem_append.mp hp).elim (fun z=>I.pin p (uU _ z)) fun z=>by
  obtain⟨hb,e⟩:=ky z;obtain⟨f0,f1,f2,_⟩:=hf p.1 hb;obtain⟨o,e',d⟩:=ho p.1 hb;rw[e]at e';cases e';exact⟨e,f0,f1,f2,d⟩
theorem Inv.Zn{pins pl:List (Addr × Obj)}{σ:St}{H:Hp}{s:Shared}(I:Inv X (pins++pl) σ H s):Inv X pins σ H s:=I.Xv fun p hp=>I.pin p (uU _ (uV _ hp))
theorem Xq{iter:Expr}{body:List Stmt}{wi:TI}{g:TG}{tb:TS}{pos:Pos}(hp:PassesOwn (model X.prog X.w) X.A X.env X.xe)(hc:X.calm=true)(hi:PI X tg iter wi)(hg:PG X tg g)(hb:PSs X body tb)
  (hs:∀x,foldedSetIterable iter X.env x=pure x:=by intro _;rfl):PS X (.For tg iter body [] pos) (Qfm wi g tb):=by
 intro pins s σ H D I h;refine wpAny_For (thn (hi pins s σ H _ I h) fun v s1 h1=>thn h1 fun itv s2 h2=>?_) hs;obtain⟨it,fp,tn,J,H2,e,I2,T,st2,f2,W,⟨m0,w0⟩,turn⟩:=h2;subst e;have stat:∀{H':Hp},(∀b∈fp,H' b=none)->∀b∈fp,kq X pins H' b:=fun hn b hb=>⟨hn b hb,(f2 b hb).2⟩;refine codeAny_forLoop_any (fun n s'=>∃i σ' H',Inv X pins σ' H' s'/\tn i s'.heap/\(∀b∈fp,H' b=none)/\W i n σ' H') ?_ m0 ⟨0,σ,H2,I2,st2,fun b hb=>(f2 b hb).1,w0⟩;rintro n s3 ⟨i,σ3,H3,I3,st3,fr3,w3⟩;rcases turn i n σ3 H3 w3 with⟨stop,qn⟩|⟨go,N,hN,step⟩
 ·refine wpAny_passesOwn hp (thn (T.done X rfl rfl rfl hc i pins s3 σ3 H3 X.xe I3 (stat fr3) st3 stop) fun r s4⟨hr,I4⟩=>?_);subst hr;exact wpAny_execs_nil ⟨σ3,H3,I4,qn⟩
 ·refine wpAny_passesOwn hp (thn (T.item X rfl rfl rfl hc i pins s3 σ3 H3 X.xe I3 (stat fr3) st3 go) fun r s4⟨u,hr,h4⟩=>?_);subst hr;refine wpAny_passesOwn hp (thn h4 fun _ s5⟨x,H5,I5,r5,y5,st5,fr5⟩=>?_);have I5':=I5.pinned (stat fr5) (T.obj _ _ st5);refine wpAny_passesOwn hp (thn (hg _ s5 σ3 H5 x u _ I5' r5 (step x H5 y5)) fun _ s6⟨σ6,H6,I6,q6⟩=>?_);refine wpAny_passesOwn hp (thn (hb _ s6 σ6 H6 _ I6 q6) fun f s7 q7=>?_);have again:∀{σ7:St}{H7:Hp},Inv X (pins++Ve fp s5.heap) σ7 H7 s7->N σ7 H7->∃m,m<n/\∃i σ' H',Inv X pins σ' H' s7/\tn i s7.heap/\(∀b∈fp,H' b=none)/\W i m σ' H':=fun{σ7 H7} I7 n7=>by
   obtain⟨m',hm,w7⟩:=hN σ7 H7 n7;refine⟨m',hm,i+1,σ7,H7,I7.Zn,T.keep _ _ _ st5 fun b hb o e=>(I7.pin (b,o) (uU _ (uU _ (JL hb e)))).1,fun b hb=>?_,w7⟩;obtain⟨o,e,d⟩:=T.obj _ _ st5 b hb;exact(I7.pin (b,o) (uU _ (uU _ (JL hb e)))).2.1
  cases f with
  |next=>obtain⟨σ7,H7,I7,n7⟩:=q7;exact again I7 n7
  |cont=>obtain⟨σ7,H7,I7,n7⟩:=q7;exact again I7 n7
  |brk=>obtain⟨σ7,H7,I7,q7⟩:=q7;exact⟨σ7,H7,I7.Zn,q7⟩
  |ret v=>obtain⟨x7,σ7,H7,I7,r7,q7⟩:=q7;exact⟨x7,σ7,H7,I7.Zn,r7,q7⟩
end
theorem yh{K:PySem.W.Frag}{a:Addr}{xs:List V}{g:TG}{tb:TS}{D:Ends}{σ:St}{H:Hp}(Pv:Nat->St->Hp->Prop)(h0:Pv 0 σ H)(hl:∀i σ H,i<=xs.length->Pv i σ H->SqL K H a xs)
  (hs:∀i x σ H,xs[i]? =some x->Pv i σ H->g x σ H fun σ2 H2=>tb {D with nx:=Pv (i+1),ct:=Pv (i+1),bk:=D.nx} σ2 H2) (hd:∀σ H,Pv xs.length σ H->D.nx σ H):
  ∃W:Nat->Nat->St->Hp->Prop,(∃m,W 0 m σ H)/\∀i m σ H,W i m σ H->
   ((Itl K a).stop i H/\D.nx σ H)\/((Itl K a).go i H/\∃N:St->Hp->Prop,(∀σ' H',N σ' H'->∃m',m'<m/\W (i+1) m' σ' H')/\∀x H',(Itl K a).yld i H x H'->g x σ H' fun σ2 H2=>tb {D with nx:=N,ct:=N,bk:=D.nx} σ2 H2):=by
 refine⟨fun i m σ H=>m=xs.length-i/\i<=xs.length/\Pv i σ H,⟨xs.length,by simp,tK _,h0⟩,?_⟩;rintro i m σ H ⟨rfl,hi,p⟩;have q:=hl i σ H hi p
 by_cases hlt:i<xs.length
 ·refine .inr ⟨⟨xs,xs[i],q,by simp[hlt]⟩,Pv (i+1),fun σ' H' p'=>⟨xs.length-(i+1),by omega,rfl,hlt,p'⟩,fun x H' y=>?_⟩;obtain⟨e,y⟩:=y;subst e;exact hs i x σ _ (y xs q) p
 ·have e:i=xs.length:=by omega
  subst e;exact .inl ⟨⟨xs,q,uQ _⟩,hd σ H p⟩
theorem Qbk{K:PySem.W.Frag}{a:Addr}{xs:List V}{g:TG}{tb:TS}{D:Ends}{σ:St}{H:Hp}(Pv:Nat->St->Hp->Prop)(h0:Pv 0 σ H)(hl:∀i σ H,i<=xs.length->Pv i σ H->SqT K H a xs)
  (hs:∀i x σ H,xs[i]? =some x->Pv i σ H->g x σ H fun σ2 H2=>tb {D with nx:=Pv (i+1),ct:=Pv (i+1),bk:=D.nx} σ2 H2) (hd:∀σ H,Pv xs.length σ H->D.nx σ H):
  ∃W:Nat->Nat->St->Hp->Prop,(∃m,W 0 m σ H)/\∀i m σ H,W i m σ H->
   ((Itt K a).stop i H/\D.nx σ H)\/((Itt K a).go i H/\∃N:St->Hp->Prop,(∀σ' H',N σ' H'->∃m',m'<m/\W (i+1) m' σ' H')/\∀x H',(Itt K a).yld i H x H'->g x σ H' fun σ2 H2=>tb {D with nx:=N,ct:=N,bk:=D.nx} σ2 H2):=by
 refine⟨fun i m σ H=>m=xs.length-i/\i<=xs.length/\Pv i σ H,⟨xs.length,by simp,tK _,h0⟩,?_⟩;rintro i m σ H ⟨rfl,hi,p⟩;have q:=hl i σ H hi p
 by_cases hlt:i<xs.length
 ·refine .inr ⟨⟨xs,xs[i],q,by simp[hlt]⟩,Pv (i+1),fun σ' H' p'=>⟨xs.length-(i+1),by omega,rfl,hlt,p'⟩,fun x H' y=>?_⟩;obtain⟨e,y⟩:=y;subst e;exact hs i x σ _ (y xs q) p
 ·have e:i=xs.length:=by omega
  subst e;exact .inl ⟨⟨xs,q,uQ _⟩,hd σ H p⟩
theorem U9{lo:Int}{n:Nat}{g:TG}{tb:TS}{D:Ends}{σ:St}{H:Hp}(Pv:Nat->St->Hp->Prop)(h0:Pv 0 σ H)
  (hs:∀i σ H,i<n->Pv i σ H->g (.int (lo+i)) σ H fun σ2 H2=>tb {D with nx:=Pv (i+1),ct:=Pv (i+1),bk:=D.nx} σ2 H2) (hd:∀σ H,Pv n σ H->D.nx σ H):
  ∃W:Nat->Nat->St->Hp->Prop,(∃m,W 0 m σ H)/\∀i m σ H,W i m σ H->
   ((Itr lo n).stop i H/\D.nx σ H)\/((Itr lo n).go i H/\∃N:St->Hp->Prop,(∀σ' H',N σ' H'->∃m',m'<m/\W (i+1) m' σ' H')/\∀x H',(Itr lo n).yld i H x H'->g x σ H' fun σ2 H2=>tb {D with nx:=N,ct:=N,bk:=D.nx} σ2 H2):=by
 refine⟨fun i m σ H=>m=n-i/\i<=n/\Pv i σ H,⟨n,by simp,tK _,h0⟩,?_⟩;rintro i m σ H ⟨rfl,hi,p⟩
 by_cases hlt:i<n
 ·refine .inr ⟨hlt,Pv (i+1),fun σ' H' p'=>⟨n-(i+1),by omega,rfl,hlt,p'⟩,fun x H' y=>?_⟩;obtain⟨e,y⟩:=y;subst e y;exact hs i σ _ hlt p
 ·have e:i=n:=by omega
  subst e;exact .inl ⟨uQ _,hd σ H p⟩
noncomputable abbrev R2:=V->V->Hp->VK->Prop
noncomputable def OpR(X:Cx)(f:Value->Value->Sem Value)(r:R2):Prop:=
 ∀(pins:List (Addr × Obj))(s:Shared)(σ:St)(H:Hp)(x y:V)(v u:Value)(Q:VK),Inv X pins σ H s->RelV x v->RelV y u->r x y H Q->
  wpAny (model X.prog X.w) X.A (f v u) (EP X pins σ Q) X.xe s
noncomputable def UnR(X:Cx)(f:Value->Sem Value)(r:V->Hp->VK->Prop):Prop:=
 ∀(pins:List (Addr × Obj))(s:Shared)(σ:St)(H:Hp)(x:V)(v:Value)(Q:VK),Inv X pins σ H s->RelV x v->r x H Q->
  wpAny (model X.prog X.w) X.A (f v) (EP X pins σ Q) X.xe s
noncomputable def K5(X:Cx)(f:Value)(r:List V->Hp->VK->Prop):Prop:=
 ∀(pins:List (Addr × Obj))(s:Shared)(σ:St)(H:Hp)(xs:List V)(us:List Value)(Q:VK),Inv X pins σ H s->Vals xs us->r xs H Q->
  wpAny (model X.prog X.w) X.A (call f us) (EP X pins σ Q) X.xe s
noncomputable def QfN(X:Cx)(r:V->Hp->(Bool->Hp->Prop)->Prop):Prop:=
 ∀(pins:List (Addr × Obj))(s:Shared)(σ:St)(H:Hp)(x:V)(v:Value)(Q:Bool->Hp->Prop),Inv X pins σ H s->RelV x v->r x H Q->
  wpAny (model X.prog X.w) X.A (truthy v) (TP X pins σ Q) X.xe s
noncomputable def tOp(r:R2)(ta tb:TE):TE:=fun σ H Q=>ta σ H fun x H1=>tb σ H1 fun y H2=>r x y H2 Q
noncomputable def tUn(r:V->Hp->VK->Prop)(ta:TE):TE:=fun σ H Q=>ta σ H fun x H1=>r x H1 Q
noncomputable def rI(C:Int->Int->Prop)(g:Int->Int->V):R2:=fun x y H Q=>∃i j,x=.int i/\y=.int j/\C i j/\Q (g i j) H
noncomputable def rI0(g:Int->Int->V):R2:=fun x y H Q=>∃i j,x=.int i/\y=.int j/\Q (g i j) H
noncomputable def rU(g:Int->V):V->Hp->VK->Prop:=fun x H Q=>∃i,x=.int i/\Q (g i) H
section
variable {X:Cx}{a b c:Expr}{ta tb tc:TE}{pos:Pos}
theorem Qex(ha:PE X a ta)(hb:PE X b tb){pins:List (Addr × Obj)}{s:Shared}{σ:St}{H:Hp}{R:V->V->Hp->Prop}(I:Inv X pins σ H s)
  (h:ta σ H fun x H1=>tb σ H1 fun y H2=>R x y H2) {Q:Value->Shared->Prop} {f:Value->Value->Sem Value}
  (hf:∀v u s2 x y H2,Inv X pins σ H2 s2->RelV x v->RelV y u->R x y H2->wpAny (model X.prog X.w) X.A (f v u) Q X.xe s2):
  wpAny (model X.prog X.w) X.A (eval a X.env) (fun v s₁=>wpAny (model X.prog X.w) X.A (eval b X.env) (fun u s₂=>wpAny (model X.prog X.w) X.A (f v u) Q X.xe s₂) X.xe s₁) X.xe s:=by
 refine thn (ha pins s σ H _ I h) fun v s1⟨x,H1,I1,r1,q1⟩=>?_;refine thn (hb pins s1 σ H1 _ I1 q1) fun u s2⟨y,H2,I2,r2,q2⟩=>?_;exact hf v u s2 x y H2 I2 r1 r2 q2
theorem QC{op:Operator}{r:R2}(ho:OpR X (binaryOp op) r)(ha:PE X a ta)(hb:PE X b tb):PE X (.BinOp a op b pos) (tOp r ta tb):=by
 intro pins s σ H Q I h;exact wpAny_BinOp (Qex ha hb I h fun v u s2 x y H2 I2 rx ry q=>ho pins s2 σ H2 x y v u Q I2 rx ry q)
theorem Vf{op:UnaryOp}{r:V->Hp->VK->Prop}(ho:UnR X (unaryOp op) r)(ha:PE X a ta):PE X (.UnaryOp op a pos) (tUn r ta):=by
 intro pins s σ H Q I h;exact UnaryOp_ (thn (ha pins s σ H _ I h) fun v s1⟨x,H1,I1,r1,q1⟩=>ho pins s1 σ H1 x v Q I1 r1 q1)
theorem opI{f:Value->Value->Sem Value}{C:Int->Int->Prop}{g:Int->Int->Int}
  (rule:∀(i j:Int)(t u:Tok)(s:Shared)(Q:Value->Shared->Prop)(E:Value->Shared->Prop),C i j->Q (.int (g i j) s.toks) {s with toks:=s.toks+1}->wpAny (model X.prog X.w) X.A (f (.int i t) (.int j u)) Q E s):
  OpR X f (rI C fun i j=>.int (g i j)):=by
 intro pins s σ H x y v u Q I rx ry h;obtain⟨i,j,rfl,rfl,hc,q⟩:=h;obtain⟨t,rfl⟩:=rx;obtain⟨t',rfl⟩:=ry;exact rule i j t t' s _ _ hc ⟨.int (g i j),H,I.tok _,⟨_,rfl⟩,q⟩
theorem Qfn{f:Value->Value->Sem Value}{g:Int->Int->Int}
  (rule:∀(i j:Int)(t u:Tok)(s:Shared)(Q:Value->Shared->Prop)(E:Value->Shared->Prop),Q (.int (g i j) s.toks) {s with toks:=s.toks+1}->wpAny (model X.prog X.w) X.A (f (.int i t) (.int j u)) Q E s):
  OpR X f (rI0 fun i j=>.int (g i j)):=by
 intro pins s σ H x y v u Q I rx ry h;obtain⟨i,j,rfl,rfl,q⟩:=h;obtain⟨t,rfl⟩:=rx;obtain⟨t',rfl⟩:=ry;exact rule i j t t' s _ _ ⟨.int (g i j),H,I.tok _,⟨_,rfl⟩,q⟩
theorem Qei{f:Value->Value->Sem Value}{g:Int->Int->Bool}
  (rule:∀(i j:Int)(t u:Tok)(s:Shared)(Q:Value->Shared->Prop)(E:Value->Shared->Prop),Q (.bool (g i j)) s->wpAny (model X.prog X.w) X.A (f (.int i t) (.int j u)) Q E s):
  OpR X f (rI0 fun i j=>.bl (g i j)):=by
 intro pins s σ H x y v u Q I rx ry h;obtain⟨i,j,rfl,rfl,q⟩:=h;obtain⟨t,rfl⟩:=rx;obtain⟨t',rfl⟩:=ry;exact rule i j t t' s _ _ ⟨.bl (g i j),H,I,rfl,q⟩
noncomputable def Qfo(i j:Int):Prop:=0<j/\j<1073741824
noncomputable def QfO(i j:Int):Prop:=0<=j/\j<=1000000/\i.natAbs<2^64
noncomputable def Qey(i j:Int):Prop:=(-(2^64)<i/\i<2^64)\/(-(2^64)<j/\j<2^64)
theorem Qey.ok{i j:Int}(h:Qey i j):IntMulOk i j:=by
 rcases h with⟨h1,h2⟩|⟨h1,h2⟩
 ·exact .of_left (intBits_le_64 h1 h2)
 ·exact .of_right (intBits_le_64 h1 h2)
theorem Jd:OpR X (binaryOp .Add) (rI0 fun i j=>.int (i+j)):=Qfn fun _ _ _ _ _ _ _ q=>add_int q
theorem Vg:OpR X (binaryOp .Sub) (rI0 fun i j=>.int (i-j)):=Qfn fun _ _ _ _ _ _ _ q=>sub_int q
theorem WE:OpR X (binaryOp .Mult) (rI Qey fun i j=>.int (i*j)):=opI fun _ _ _ _ _ _ _ hc q=>mul_int q hc.ok
theorem jq:OpR X (binaryOp .FloorDiv) (rI Qfo fun i j=>.int (i/j)):=opI fun i j _ _ _ _ _ hc q=>by
 have h1:(0:Int)<j:=hc.1;have h2:j<1073741824:=hc.2;exact floordiv_int (by omega) (by rw[Int.fdiv_eq_ediv_of_nonneg i (by omega)];exact q) (.inl (PyProof.noPylong_small (by omega)))
theorem Vh:OpR X (binaryOp .Mod) (rI (fun _ j=>0<j) fun i j=>.int (i % j)):=opI fun i j _ _ _ _ _ hc q=>by
 have h1:(0:Int)<j:=hc;exact mod_int' (by omega) (by rw[Int.fmod_eq_emod_of_nonneg i (by omega)];exact q)
theorem QaV:OpR X (binaryOp .Pow) (rI QfO fun i j=>.int (i^j.toNat)):=opI fun _ _ _ _ _ _ _ hc q=>pow_int_small hc.1 hc.2.1 hc.2.2 q
theorem unI{f:Value->Sem Value}{g:Int->Int}
  (rule:∀(i:Int)(t:Tok)(s:Shared)(Q:Value->Shared->Prop)(E:Value->Shared->Prop),Q (.int (g i) s.toks) {s with toks:=s.toks+1}->wpAny (model X.prog X.w) X.A (f (.int i t)) Q E s):
  UnR X f (rU fun i=>.int (g i)):=by
 intro pins s σ H x v Q I rx h;obtain⟨i,rfl,q⟩:=h;obtain⟨t,rfl⟩:=rx;exact rule i t s _ _ ⟨.int (g i),H,I.tok _,⟨_,rfl⟩,q⟩
theorem Xx:UnR X (unaryOp .USub) (rU fun i=>.int (-i)):=unI fun _ _ _ _ _ q=>neg_int q
end
noncomputable def Qfp:V->V->Bool
 | .non,.non=>true| .non,.int _=>true| .int _,.non=>true| .non,.bl _=>true| .bl _,.non=>true| .non,.str _=>true| .str _,.non=>true
 | .int _,.int _=>true| .bl _,.bl _=>true| .str _,.str _=>true| .byt _,.byt _=>true
 | .int _,.str _=>true| .str _,.int _=>true| .bl _,.str _=>true| .str _,.bl _=>true
 |_,_=>false
noncomputable def rEq:R2:=fun x y H Q=>Qfp x y=true/\Q (.bl (decide (x=y))) H
noncomputable def rNe:R2:=fun x y H Q=>Qfp x y=true/\Q (.bl (!decide (x=y))) H
theorem kz{i j:Int}:decide (V.int i=V.int j)=(i==j):=by
 rw[Bool.eq_iff_iff];simp
theorem QaW{i j:Bool}:decide (V.bl i=V.bl j)=(i==j):=by
 rw[Bool.eq_iff_iff];simp
theorem YJ{i j:Str}:decide (V.str i=V.str j)=(i==j):=by
 rw[Bool.eq_iff_iff];simp
theorem kA{i j:Array UInt8}:decide (V.byt i=V.byt j)=(i.toList==j.toList):=by
 rw[Bool.eq_iff_iff];cases i;cases j;simp
section
variable {X:Cx}{a b c:Expr}{ta tb tc:TE}{pos:Pos}
theorem Q1{pins:List (Addr × Obj)}{σ:St}{H:Hp}{s:Shared}{Q:VK}{k k':Bool}(I:Inv X pins σ H s)(q:Q (.bl k) H)(e:k=k'):EP X pins σ Q (.bool k') s:=by
 subst e;exact⟨.bl k,H,I,rfl,q⟩
theorem Jc:OpR X (compareOp .Eq) rEq:=by
 intro pins s σ H x y v u Q I rx ry h;obtain⟨hs,q⟩:=h;cases x with
 |non=>
  cases rx;cases y with
  |non=>cases ry;exact PySem.EqNone.eq_none_none (Q1 I q (by simp))
  |bl j=>cases ry;exact PySem.EqNone.eq_none_bool (Q1 I q (by simp))
  |int j=>obtain⟨t',rfl⟩:=ry;exact PySem.EqNone.eq_none_int (Q1 I q (by simp))
  |str j=>obtain⟨t',rfl⟩:=ry;exact PySem.EqNone.eq_none_str (Q1 I q (by simp))
  |_=>exact absurd (show false=true from hs) Bool.false_ne_true
 |bl i=>
  cases rx;cases y with
  |non=>cases ry;exact PySem.EqNone.eq_bool_none (Q1 I q (by simp))
  |bl j=>cases ry;exact eq_bool (Q1 I q QaW)
  |str j=>obtain⟨t',rfl⟩:=ry;exact PySem.EqMixed.eq_bool_str (Q1 I q (by simp))
  |_=>exact absurd (show false=true from hs) Bool.false_ne_true
 |int i=>
  obtain⟨t,rfl⟩:=rx;cases y with
  |non=>cases ry;exact PySem.EqNone.eq_int_none (Q1 I q (by simp))
  |int j=>obtain⟨t',rfl⟩:=ry;exact eq_int (Q1 I q kz)
  |str j=>obtain⟨t',rfl⟩:=ry;exact PySem.EqMixed.eq_int_str (Q1 I q (by simp))
  |_=>exact absurd (show false=true from hs) Bool.false_ne_true
 |str i=>
  obtain⟨t,rfl⟩:=rx;cases y with
  |non=>cases ry;exact PySem.EqNone.eq_str_none (Q1 I q (by simp))
  |bl j=>cases ry;exact PySem.EqMixed.eq_str_bool (Q1 I q (by simp))
  |int j=>obtain⟨t',rfl⟩:=ry;exact PySem.EqMixed.eq_str_int (Q1 I q (by simp))
  |str j=>obtain⟨t',rfl⟩:=ry;exact eq_str (Q1 I q YJ)
  |_=>exact absurd (show false=true from hs) Bool.false_ne_true
 |byt i=>
  obtain⟨t,rfl⟩:=rx;cases y with
  |byt j=>obtain⟨t',rfl⟩:=ry;exact eq_bytes (Q1 I q kA)
  |_=>exact absurd (show false=true from hs) Bool.false_ne_true
 |_=>cases y<;>exact absurd (show false=true from hs) Bool.false_ne_true
theorem Z5:OpR X (compareOp .NotEq) rNe:=by
 intro pins s σ H x y v u Q I rx ry h;obtain⟨hs,q⟩:=h;cases x with
 |non=>
  cases rx;cases y with
  |non=>cases ry;exact PySem.EqNone.ne_none_none (Q1 I q (by simp))
  |bl j=>cases ry;exact PySem.EqNone.ne_none_bool (Q1 I q (by simp))
  |int j=>obtain⟨t',rfl⟩:=ry;exact PySem.EqNone.ne_none_int (Q1 I q (by simp))
  |str j=>obtain⟨t',rfl⟩:=ry;exact PySem.EqNone.ne_none_str (Q1 I q (by simp))
  |_=>exact absurd (show false=true from hs) Bool.false_ne_true
 |bl i=>
  cases rx;cases y with
  |non=>cases ry;exact PySem.EqNone.ne_bool_none (Q1 I q (by simp))
  |bl j=>cases ry;exact ne_bool (Q1 I q (congrArg not QaW))
  |str j=>obtain⟨t',rfl⟩:=ry;exact PySem.EqMixed.ne_bool_str (Q1 I q (by simp))
  |_=>exact absurd (show false=true from hs) Bool.false_ne_true
 |int i=>
  obtain⟨t,rfl⟩:=rx;cases y with
  |non=>cases ry;exact PySem.EqNone.ne_int_none (Q1 I q (by simp))
  |int j=>obtain⟨t',rfl⟩:=ry;exact ne_int (Q1 I q (congrArg not kz))
  |str j=>obtain⟨t',rfl⟩:=ry;exact PySem.EqMixed.ne_int_str (Q1 I q (by simp))
  |_=>exact absurd (show false=true from hs) Bool.false_ne_true
 |str i=>
  obtain⟨t,rfl⟩:=rx;cases y with
  |non=>cases ry;exact PySem.EqNone.ne_str_none (Q1 I q (by simp))
  |bl j=>cases ry;exact PySem.EqMixed.ne_str_bool (Q1 I q (by simp))
  |int j=>obtain⟨t',rfl⟩:=ry;exact PySem.EqMixed.ne_str_int (Q1 I q (by simp))
  |str j=>obtain⟨t',rfl⟩:=ry;exact ne_str (Q1 I q (congrArg not YJ))
  |_=>exact absurd (show false=true from hs) Bool.false_ne_true
 |byt i=>
  obtain⟨t,rfl⟩:=rx;cases y with
  |byt j=>obtain⟨t',rfl⟩:=ry;exact ne_bytes (Q1 I q (congrArg not kA))
  |_=>exact absurd (show false=true from hs) Bool.false_ne_true
 |_=>cases y<;>exact absurd (show false=true from hs) Bool.false_ne_true
theorem Kw:OpR X (compareOp .Lt) (rI0 fun i j=>.bl (decide (i<j))):=Qei fun _ _ _ _ _ _ _ q=>lt_int q
theorem Qc8:OpR X (compareOp .LtE) (rI0 fun i j=>.bl (decide (i<=j))):=Qei fun _ _ _ _ _ _ _ q=>le_int q
theorem YK:OpR X (compareOp .Gt) (rI0 fun i j=>.bl (decide (j<i))):=Qei fun _ _ _ _ _ _ _ q=>gt_int q
theorem yj:OpR X (compareOp .GtE) (rI0 fun i j=>.bl (decide (j<=i))):=Qei fun _ _ _ _ _ _ _ q=>ge_int q
theorem Zv:OpR X (compareOp .In) (fun x y H Q=>∃i j,x=.str i/\y=.str j/\Q (.bl (!(Builtin.Str.occurrences j i 0 j.length 1).isEmpty)) H):=by
 intro pins s σ H x y v u Q I rx ry h;obtain⟨i,j,rfl,rfl,q⟩:=h;obtain⟨t,rfl⟩:=rx;obtain⟨t',rfl⟩:=ry;exact in_str (Q1 I q rfl)
theorem J8:OpR X (compareOp .NotIn) (fun x y H Q=>∃i j,x=.str i/\y=.str j/\Q (.bl (!(!(Builtin.Str.occurrences j i 0 j.length 1).isEmpty))) H):=by
 intro pins s σ H x y v u Q I rx ry h;obtain⟨i,j,rfl,rfl,q⟩:=h;obtain⟨t,rfl⟩:=rx;obtain⟨t',rfl⟩:=ry;exact notIn_str (Q1 I q rfl)
theorem Qm(b:Expr){op:CmpOp}(h:op≠ .In:=by decide)(h2:op≠ .NotIn:=by decide):behindInMarks op b=false:=by
 have e1:(op==CmpOp.In)=false:=by cases op<;>first|rfl|exact absurd rfl h
 have e2:(op==CmpOp.NotIn)=false:=by cases op<;>first|rfl|exact absurd rfl h2
 cases b<;>simp[behindInMarks,e1,e2]
theorem Zd{op:CmpOp}{r:R2}(ho:OpR X (compareOp op) r)(ha:PE X a ta)(hb:PE X b tb)(hm:behindInMarks op b=false):PE X (.Compare a [op] [b] pos) (tOp r ta tb):=by
 intro pins s σ H Q I h;exact wpAny_Compare1 (Qex ha hb I h fun v u s2 x y H2 I2 rx ry q=>ho pins s2 σ H2 x y v u Q I2 rx ry q) hm
noncomputable def kB(t:TE):TT:=fun σ H Q=>t σ H fun x H'=>∃k,x=.bl k/\Q k H'
theorem Qj{op:CmpOp}{r:R2}(ho:OpR X (compareOp op) r)(ha:PE X a ta)(hb:PE X b tb)(hm:behindInMarks op b=false):PT X (.Compare a [op] [b] pos) (kB (tOp r ta tb)):=by
 intro pins s σ H Q I h;refine wpAny_isTrue_Compare1 (thn (ha pins s σ H _ I h) fun v s1⟨x,H1,I1,r1,q1⟩=>thn (hb pins s1 σ H1 _ I1 q1) fun u s2⟨y,H2,I2,r2,q2⟩=>
  thn (ho pins s2 σ H2 x y v u _ I2 r1 r2 q2) fun c s3⟨z,H3,I3,r3,k,e,q3⟩=>?_) hm
 subst e;cases r3;exact wpAny_truthy_bool ⟨H3,I3,q3⟩
noncomputable def Qc9(r r':R2)(ta tb tc:TE):TE:=fun σ H Q=>ta σ H fun x H1=>tb σ H1 fun y H2=>r x y H2 fun z H3=>∃k,z=.bl k/\
 (if k=true then tc σ H3 fun w' H4=>r' y w' H4 Q else Q (.bl false) H3)
theorem yk{op op':CmpOp}{r r':R2}(ho:OpR X (compareOp op) r)(ho':OpR X (compareOp op') r')(ha:PE X a ta)(hb:PE X b tb)(hc:PE X c tc)
  (hm:lastMarks [op,op'] [b,c]=false:=by with_unfolding_all rfl):PT X (.Compare a [op,op'] [b,c] pos) (kB (Qc9 r r' ta tb tc)):=by
 intro pins s σ H Q I h;refine isTrue_chain (thn (ha pins s σ H _ I h) fun v s1⟨x,H1,I1,r1,q1⟩=>test_link (thn (hb pins s1 σ H1 _ I1 q1) fun u s2⟨y,H2,I2,r2,q2⟩=>
  thn (ho pins s2 σ H2 x y v u _ I2 r1 r2 q2) fun d s3⟨z,H3,I3,r3,k,e,q3⟩=>?_)) hm
 subst e;cases r3;refine wpAny_truthy_bool ?_;cases k with
 |false=>
  obtain⟨k',e',q'⟩:=q3;cases e';exact ite_ff ⟨H3,I3,q'⟩
 |true=>
  refine ite_tt (test_last (thn (hc pins s3 σ H3 _ I3 q3) fun w' s4⟨z',H4,I4,r4,q4⟩=>thn (ho' pins s4 σ H4 y z' u w' _ I4 r2 r4 q4) fun d' s5⟨z2,H5,I5,r5,k2,e2,q5⟩=>?_));subst e2;cases r5;exact wpAny_truthy_bool ⟨H5,I5,q5⟩
noncomputable def Qej(K:PySem.W.Frag)(x:V)(H:Hp)(k:Bool):Prop:=
 match x with
 | .non=>k=false
 | .bl b=>k=b
 | .int i=>k=(i !=0)
 | .str y=>y.length<=sizeLine/\k=((y.length:Int) !=0)
 | .byt y=>y.size<=sizeLine/\k=((y.size:Int) !=0)
 | .ref p=>(∃xs,SqL K H p xs/\k= !xs.isEmpty)\/(∃xs,SqT K H p xs/\k= !xs.isEmpty)\/∃kvs,H p=some (.dK kvs)/\k= !kvs.isEmpty
 |_=>False
theorem xx{κ:Type}{kvs:List (κ × V)}{vs:List (κ × Value)}(r:KV kvs vs):(!vs.isEmpty)= !kvs.isEmpty:=by
 cases r<;>rfl
theorem Yq{xs:List V}{its:List Value}(r:Vals xs its):(!its.toArray.isEmpty)= !xs.isEmpty:=by
 cases r<;>simp
theorem ZW:(sizeLine:Nat)<2^63:=by rw[sizeLine_eq];decide
theorem Qda:QfN X (fun x H Q=>∃k,Qej X.K x H k/\Q k H):=by
 intro pins s σ H x v Q I rx h;obtain⟨k,e,q⟩:=h;have hl:=ZW;have hs:sizeLine=16777216:=sizeLine_eq;cases x with
 |non=>
  cases rx;have e':k=false:=e;subst e';exact truthy_none ⟨H,I,q⟩
 |bl b=>
  cases rx;have e':k=b:=e;subst e';exact wpAny_truthy_bool ⟨H,I,q⟩
 |int i=>
  obtain⟨t,rfl⟩:=rx;have e':k=(i !=0):=e;subst e';exact PySem.P.truthy_int ⟨H,I,q⟩
 |str y=>
  obtain⟨t,rfl⟩:=rx;obtain⟨hy,e'⟩:y.length<=sizeLine/\k=((y.length:Int) !=0):=e;subst e';exact PySem.P.truthy_str (by omega) ⟨H,I.tok _,q⟩
 |byt y=>
  obtain⟨t,rfl⟩:=rx;obtain⟨hy,e'⟩:y.size<=sizeLine/\k=((y.size:Int) !=0):=e;subst e';exact truthy_bytes (by omega) ⟨H,I.tok _,q⟩
 |ref p=>
  cases rx;have e':(∃xs,SqL X.K H p xs/\k= !xs.isEmpty)\/(∃xs,SqT X.K H p xs/\k= !xs.isEmpty)\/∃kvs,H p=some (.dK kvs)/\k= !kvs.isEmpty:=e;rcases e' with⟨xs,hx,e'⟩|⟨xs,hx,e'⟩|⟨kvs,hx,e'⟩
  ·subst e';obtain⟨its,r,pl,hz⟩:=I.list hx;have hlen:=r.length;exact wpAny_truthy_list pl.isList (by simp only[tJ];omega) ⟨H,I.tok _,by rw[Yq r];exact q⟩
  ·subst e';obtain⟨its,r,pl,hz⟩:=I.tuple hx;have hlen:=r.length;exact truthy_tuple pl (by simp only[tJ];omega) ⟨H,I.tok _,by rw[Yq r];exact q⟩
  ·subst e';obtain⟨hz,hS,vs,r,m⟩:kvs.length<=sizeLine/\(p==sysModules)=false/\∃vs,KV kvs vs/\s.heap.DictOf (Ja X.prog X.w) p vs:=I.hok p _ hx;have hlen:kvs.length=vs.length:=Paired.length r;exact wpAny_truthy_dict hS m (by omega) ⟨H,I.tok _,by rw[xx r];exact q⟩
 |_=>exact(show False from e).elim
theorem Jr(ha:PE X a ta)(he:∀whole,isTrue a X.env whole=(do let v←whole;standAt a.pos;holding [v] (truthy v))):
  PT X a (fun σ H Q=>ta σ H fun x H'=>∃k,Qej X.K x H' k/\Q k H'):=by
 intro pins s σ H Q I h;exact isTrue_plain (thn (ha pins s σ H _ I h) fun v s1⟨x,H1,I1,r1,q1⟩=>Qda pins s1 σ H1 x v Q I1 r1 q1) (he _)
theorem Q3:OpR X (binaryOp .Add) (fun x y H Q=>∃i j,x=.str i/\y=.str j/\i.length+j.length<=sizeLine/\Q (.str (i++j)) H):=by
 intro pins s σ H x y v u Q I rx ry h;obtain⟨i,j,rfl,rfl,hz,q⟩:=h;obtain⟨t,rfl⟩:=rx;obtain⟨t',rfl⟩:=ry;exact add_str (fun t' tk=>⟨.str (i++j),H,I.tok _,⟨_,rfl⟩,q⟩) hz
theorem vals1{x:V}{us:List Value}(r:Vals [x] us):∃u,us=[u]/\RelV x u:=by
 cases r with
 |cons r1 r2=>cases r2;exact⟨_,rfl,r1⟩
theorem vals2{x y:V}{us:List Value}(r:Vals [x,y] us):∃u w',us=[u,w']/\RelV x u/\RelV y w':=by
 cases r with
 |cons r1 r2=>
  cases r2 with
  |cons r3 r4=>cases r4;exact⟨_,_,rfl,r1,r3⟩
theorem Ky:K5 X (.builtin "abs") (fun xs H Q=>∃i,xs=[.int i]/\Q (.int (if i<0 then-i else i)) H):=by
 intro pins s σ H xs us Q I r h;obtain⟨i,rfl,q⟩:=h;obtain⟨u,rfl,t,rfl⟩:=vals1 r;exact call_abs_int fun u tk=>⟨.int (if i<0 then-i else i),H,I.tok _,⟨_,rfl⟩,q⟩
theorem kC(hc:X.calm=true):K5 X (.builtin "max") (fun xs H Q=>∃i j,xs=[.int i,.int j]/\Q (.int (if j>i then j else i)) H):=by
 intro pins s σ H xs us Q I r h;obtain⟨i,j,rfl,q⟩:=h;obtain⟨u,w',rfl,⟨t,rfl⟩,⟨t',rfl⟩⟩:=vals2 r;refine max_two_ints (I.ok.hd hc) fun h' tk k=>⟨_,H,I.kept k,?_,q⟩
 by_cases hj:j>i
 ·rw[if_pos hj,if_pos hj];exact⟨_,rfl⟩
 ·rw[if_neg hj,if_neg hj];exact⟨_,rfl⟩
theorem WF:K5 X (.type "str") (fun xs H Q=>∃i,xs=[.int i]/\i.natAbs.log2<1920/\Q (.str (toString i)) H):=by
 intro pins s σ H xs us Q I r h;obtain⟨i,rfl,hz,q⟩:=h;obtain⟨u,rfl,t,rfl⟩:=vals1 r;exact PySem.P.str_of_int hz ⟨.str _,H,I.tok _,⟨_,rfl⟩,q⟩
theorem jr:K5 X (.builtin "divmod") (fun xs H Q=>∃i j,xs=[.int i,.int j]/\Qfo i j/\∀p,H p=none->Q (.ref p) (upd H p (.tup [.int (i/j),.int (i % j)]))):=by
 intro pins s σ H xs us Q I r h;obtain⟨i,j,rfl,⟨h1,h2⟩,q⟩:=h;obtain⟨u,w',rfl,⟨t,rfl⟩,⟨t',rfl⟩⟩:=vals2 r;refine divmod_int (by omega) ?_ (.inl (PyProof.noPylong_small (by omega)));rw[Int.fdiv_eq_ediv_of_nonneg i (by omega),Int.fmod_eq_emod_of_nonneg i (by omega)];have hn:H s.heap.objs.size=none:=I.hok.fresh (uQ _);refine⟨.ref s.heap.objs.size,_,?_,rfl,q _ hn⟩;refine I.laid (fun b o e=>Heap.get?_push_of_some _ e) (uQ _) ⟨by simp only[uT,List.length_nil];rw[sizeLine_eq];decide,[.int (i/j) s.toks,.int (i % j) (s.toks+1)],.cons ⟨_,rfl⟩ (.cons ⟨_,rfl⟩ .nil),?_⟩;exact⟨_,Heap.get?_push_size s.heap rfl,rfl,0,rfl,rfl⟩
end
structure ObjM(h:Heap)(x dx C:Addr)(mA:Str->Option Value):Prop where
 obj:h.get? x=some (instObj C dx)
 ns:h.Ns1 dx mA
 ne:dx≠x
theorem kD{h:Heap}{dx:Addr}{mA:Str->Option Value}(n:h.Ns1 dx mA):∃od,h.get? dx=some od/\∀name,lookIn name od=some (mA name):=by
 obtain⟨o,es,ep,ho,hd,hk,_,hm⟩:=n;refine⟨o,ho,fun name=>?_⟩;have e:=hm name;unfold nsFind findBy at e;rw[←Array.find?_toList]at e;unfold lookIn;rw[hd];dsimp only
 split
 ·rename_i y q;rw[q]at e;exact congrArg some e
 ·rename_i q;rw[q]at e;have a:es.toList.any (·.refKey)=false:=by
   rw[List.any_eq_false];intro y hy;obtain⟨z,t,hkey⟩:=hk y (Array.mem_toList_iff.mp hy);simp[DictEntry.refKey,hkey]
  have a':¬ es.toList.any (·.refKey)=true:=by rw[a];exact Bool.false_ne_true
  rw[if_neg a'];exact congrArg some e
theorem ObjM.look{h:Heap}{x dx C:Addr}{mA:Str->Option Value}(I:ObjM h x dx C mA):∃od,PySem.W.InstAt h x (instObj C dx) C (some od)/\∀name,lookIn name od=some (mA name):=
 let ⟨od,ho,hl⟩:=kD I.ns
 ⟨od,⟨I.obj,rfl,rfl,ho⟩,hl⟩
section
variable {prog:Program}{w:World}{A:Around}{E:Value->Shared->Prop}{s:Shared}{K:PySem.W.Frag}{x dx C f:Addr}{mA:Str->Option Value}{name:Str}{v:Value}
theorem get_map{expr:Bool}{Q:Value->Shared->Prop}(X:K.In s.heap)(I:ObjM s.heap x dx C mA)(hg:plainGet K C name=true)(hh:hasDictIn K C=true)
  (ha:findIn K (.ref C) name=some none) (hv:mA name=some v) (hv':handedIn v=true) (h:Q v {s with toks:=s.toks+1}):
  wpAny (model prog w) A (getAttr (.ref x) name expr) Q E s:=by
 obtain⟨od,J,hl⟩:=I.look;exact get_value X J (plainGet_of hg).1 (findObj_own hh ha rfl (by rw[hl,hv])) hv' h
theorem yl{pl:Sem Bool}{Q:Value × List Value->Shared->Prop}(X:K.In s.heap)(I:ObjM s.heap x dx C mA)(hg:plainGet K C name=true)
  (hf:findIn K (.ref C) name=some (some (.ref f))) (ht:isFn K (.ref f)=true) (hv:mA name=none) (h:Q (.ref f,[.ref x]) s):
  wpAny (model prog w) A (getMethod (.ref x) name pl) Q E s:=by
 obtain⟨od,J,hl⟩:=I.look;exact method_fn X J (plainGet_of hg).1 (plainGet_of hg).2 hf (beq_iff_eq.mp ht) (by show(lookIn name od).map (·.isSome)=some false;rw[hl,hv];rfl) h
theorem Qbl{ns:List Str}{Q:Unit->Shared->Prop}(X:K.In s.heap)(I:ObjM s.heap x dx C mA)
  (hs:findIn K (.ref C) "__setattr__"=some (some (.builtin "object.__setattr__"))) (hp:plainOver K C=true) (ht:takerIn K C name=some none) (hh:hasDictIn K C=true)
  (hw:PySem.Within mA ns) (hsz:ns.length<=sizeLine)
  (h:∀h',ObjM h' x dx C (fun y=>if y=name then some v else mA y)->Heap.SameBut dx s.heap h'->Q () {s with heap:=h',toks:=s.toks+2}):
  wpAny (model prog w) A (setAttr (.ref x) name v) Q E s:=by
 obtain⟨od,J,hl⟩:=I.look;refine set_plain X J hs (osa_open (s:={s with toks:=s.toks+1}) (r:=none) X J hp ht fun b=>?_);obtain⟨cd,hc,hd'⟩:=any_some hh;have hx:s.heap.get? x=some ⟨.ref C,some dx,.plain, #[]⟩:=I.obj;refine wpAny_bind (wpAny_pure (wpAny_bind (wpAny_bind (wpAny_loadPart hx (wpAny_bind (PySem.W.Looks.here (s:={s with toks:=s.toks+1}) (looks_clsIn X hc) ?_))))));rw[hd'];refine wpAny_pure (a:=some dx) (wpAny_bind (wpAny_pure (wpAny_bind ?_)));refine wpAny_nsSet1 (s:={s with toks:=s.toks+1}) I.ns fun h' hn2 hs2=>?_;obtain⟨oD,esD,epD,hoD,hdD,hcD⟩:=hn2.count (PySem.Within.cons name v hw);refine wpAny_bind (wpAny_lookBehind hoD (by rw[hdD];exact pastItsLine_dict (Nat.le_trans hcD (by rw[uT];omega))) ?_);exact wpAny_pure (h _ ⟨(hs2.2 _ (Ne.symm I.ne)).trans I.obj,hn2,I.ne⟩ hs2)
theorem ym{R:Result->Shared->Prop}{vs:List Value}{kw:List (Str × Value)}(X:K.In s.heap)(hm:makesIn K C=true)
  (hi:findIn K (.ref C) "__init__"=some (some (.ref f))) (hf:typeIn K (.ref f)=some (.type "function"))
  (h:codeAny (model prog w) (A.under (.builtin "type.__call__" ⟨.ref C::vs,kw⟩)) (.call (.ref f) ⟨.ref (s.heap.objs.size+1)::vs,kw⟩) (InitBack (s.heap.objs.size+1) R)
   {s with heap:=(s.heap.push emptyDict).push (instObj C s.heap.objs.size)}):
  codeAny (model prog w) A (.call (.ref C) ⟨vs,kw⟩) R s:=by
 obtain⟨hh,g,d,t,os⟩:=s;exact make_core (makes_of X hm) (looks_findIn X hi) (fun self=>bind_fn X self hf) (.inl rfl) h
end
noncomputable def Zj(f:Str)(v:V):List (Str × V)->List (Str × V)
 |[]=>[(f,v)]
 |(g,x)::r=>if g=f then(g,v)::r else(g,x)::Zj f v r
theorem Qs(f g:Str)(v:V):∀fs:List (Str × V),(Zj f v fs).lookup g=if g=f then some v else fs.lookup g
 |[]=>by
  show List.lookup g [(f,v)]=_
  by_cases h:g=f
  ·have hb:(g==f)=true:=beq_iff_eq.mpr h;simp only[List.lookup,hb,if_pos h]
  ·have hb:(g==f)=false:=beq_eq_false_iff_ne.mpr h;simp only[List.lookup,hb,if_neg h]
 |(k,x)::r=>by
  have ih:=Qs f g v r;rw[show Zj f v ((k,x)::r)=(if k=f then(k,v)::r else(k,x)::Zj f v r)from rfl]
  by_cases hk:k=f
  ·rw[if_pos hk]
   by_cases h:g=k
   ·have hb:(g==k)=true:=beq_iff_eq.mpr h;simp only[List.lookup,hb,if_pos (h.trans hk)]
   ·have hb:(g==k)=false:=beq_eq_false_iff_ne.mpr h;simp only[List.lookup,hb,if_neg (fun e:g=f=>h (e.trans hk.symm))]
  ·rw[if_neg hk]
   by_cases h:g=k
   ·have hb:(g==k)=true:=beq_iff_eq.mpr h;simp only[List.lookup,hb,if_neg (fun e:g=f=>hk (h.symm.trans e))]
   ·have hb:(g==k)=false:=beq_eq_false_iff_ne.mpr h;simp only[List.lookup,hb];exact ih
theorem Vi(f:Str)(v:V):∀fs:List (Str × V),f∈(Zj f v fs).map (·.1)/\∀g,g∈fs.map (·.1)->g∈(Zj f v fs).map (·.1)
 |[]=>⟨by simp[Zj],fun g h=>by simp at h⟩
 |(k,x)::r=>by
  obtain⟨i1,i2⟩:=Vi f v r;rw[show Zj f v ((k,x)::r)=(if k=f then(k,v)::r else(k,x)::Zj f v r)from rfl]
  by_cases hk:k=f
  ·rw[if_pos hk];subst hk;exact⟨by simp,fun g h=>by simpa using h⟩
  ·rw[if_neg hk];refine⟨?_,fun g h=>?_⟩
   ·rw[tH];exact uW _ i1
   ·rw[tH]at h ⊢;rcases List.mem_cons.mp h with e|e
    ·exact List.mem_cons.mpr (.inl e)
    ·exact uW _ (i2 g e)
theorem QW(f:Str)(v:V):∀fs:List (Str × V),(Zj f v fs).length<=fs.length+1
 |[]=>by simp[Zj]
 |(k,x)::r=>by
  have ih:=QW f v r;rw[show Zj f v ((k,x)::r)=(if k=f then(k,v)::r else(k,x)::Zj f v r)from rfl]
  by_cases hk:k=f
  ·rw[if_pos hk,uT,uT];omega
  ·rw[if_neg hk,uT,uT];omega
theorem YI.some_of{v:V}{o:Option Value}(r:YI (some v) o):∃u,o=some u/\RelV v u:=by
 cases o with
 |none=>exact(show False from r).elim
 |some u=>exact⟨u,rfl,r⟩
theorem YI.none_of{o:Option Value}(r:YI none o):o=none:=by
 cases o with
 |none=>rfl
 |some u=>exact(show False from r).elim
theorem kF{v:V}{u:Value}(r:RelV v u):handedIn u=true:=by
 cases v with
 |non=>cases(show u=Value.none from r);rfl
 |bl b=>cases(show u=Value.bool b from r);rfl
 |int i=>obtain⟨t,e⟩:=(show ∃t,u=Value.int i t from r);cases e;rfl
 |str x=>obtain⟨t,e⟩:=(show ∃t,u=Value.str x t from r);cases e;rfl
 |byt b=>obtain⟨t,e⟩:=(show ∃t,u=Value.bytes b t from r);cases e;rfl
 |flt b=>obtain⟨t,e⟩:=(show ∃t,u=Value.float b t from r);cases e;rfl
 |ref a=>cases(show u=Value.ref a from r);rfl
 |ty n=>cases(show u=Value.type n from r);rfl
section
variable {P:Program}{w:World}{H H':Hp}{h h':Heap}{a C dx:Addr}{fs fs':List (Str × V)}
theorem YL(hok:HOk P w H h)(e:H a=some (.ins C dx fs)):∃mA,ObjM h a dx C mA/\(∀f,YI (fs.lookup f) (mA f))/\PySem.Within mA (fs.map (·.1))/\fs.length<=1000/\H dx=some (.own a):=by
 obtain⟨d,z,ne,ob,mA,n,r,q⟩:=(show Jw P w H h a (.ins C dx fs)from hok a _ e);exact⟨mA,⟨ob,n,ne⟩,r,q,z,d⟩
end
structure Cls(K:PySem.W.Frag)(C:Addr):Prop where
 pg:plainGet K C Str.empty=true
 hd:hasDictIn K C=true
 po:plainOver K C=true
 sa:findIn K (.ref C) "__setattr__"=some (some (.builtin "object.__setattr__"))
theorem Cls.get{K:PySem.W.Frag}{C:Addr}(c:Cls K C)(f:Str):plainGet K C f=true:=c.pg
noncomputable def X8(K:PySem.W.Frag)(C:Addr)(f:Str):Prop:=findIn K (.ref C) f=some none
theorem X8.Qez{K:PySem.W.Frag}{C:Addr}{f:Str}(n:X8 K C f):takerIn K C f=some none:=by
 unfold takerIn;rw[show findIn K (.ref C) f=some none from n];rfl
structure Meth(K:PySem.W.Frag)(C:Addr)(m:Str)(f:Addr):Prop where
 at_:findIn K (.ref C) m=some (some (.ref f))
 fn:isFn K (.ref f)=true
 kp:keepIn K (.ref f)=true
section
variable {X:Cx}{pins:List (Addr × Obj)}{σ:St}{H:Hp}{s:Shared}{a C dx:Addr}{fs:List (Str × V)}{f:Str}{v:V}{A:Around}{E:Value->Shared->Prop}
theorem xy{b:Bool}{Q:Value->Shared->Prop}(I:Inv X pins σ H s)(e:H a=some (.ins C dx fs))(c:Cls X.K C)(n:X8 X.K C f)(l:fs.lookup f=some v)
  (h:∀u s',Inv X pins σ H s'->RelV v u->Q u s'):wpAny (model X.prog X.w) A (getAttr (.ref a) f b) Q E s:=by
 obtain⟨mA,O,r,_,_,_⟩:=YL I.hok e;obtain⟨u,hu,ru⟩:=YI.some_of (v:=v) (o:=mA f) (by rw[←l];exact r f);exact get_map I.kIn O (c.get f) c.hd n hu (kF ru) (h u _ (I.tok _) ru)
theorem K6{m:Str}{g:Addr}{pl:Sem Bool}{Q:Value × List Value->Shared->Prop}(I:Inv X pins σ H s)(e:H a=some (.ins C dx fs))(c:Cls X.K C)(k:Meth X.K C m g)(l:fs.lookup m=none)
  (h:Q (.ref g,[.ref a]) s):wpAny (model X.prog X.w) A (getMethod (.ref a) m pl) Q E s:=by
 obtain⟨mA,O,r,_,_,_⟩:=YL I.hok e;have hn:mA m=none:=YI.none_of (by rw[←l];exact r m);exact yl I.kIn O (c.get m) k.at_ k.fn hn h
theorem xz{y:V}{u:Value}{Q:Unit->Shared->Prop}(I:Inv X pins σ H s)(e:H a=some (.ins C dx fs))(c:Cls X.K C)(n:X8 X.K C f)(hl:fs.length<1000)(ry:RelV y u)
  (h:∀s',Inv X pins σ (upd H a (.ins C dx (Zj f y fs))) s'->Q () s'):wpAny (model X.prog X.w) A (setAttr (.ref a) f u) Q E s:=by
 obtain⟨mA,O,r,wi,_,ho⟩:=YL I.hok e;have hz:(fs.map (·.1)).length<=sizeLine:=by rw[uN,sizeLine_eq];omega
 refine Qbl I.kIn O c.sa c.po n.Qez c.hd wi hz fun h' O' sb=>h _ ?_;have hd:∃o,h'.get? dx=some o:=let ⟨o,_,_,e',_⟩:=O'.ns;⟨o,e'⟩;refine I.write (x:=a) (e:=dx) (by rw[e];exact True.intro) (.inr ho) (fun b q hb z=>(sb.2 b hb).trans z) hd ?_;refine⟨by rw[Ql O.ne];exact ho,?_,O.ne,O'.obj,_,O'.ns,fun g=>?_,fun g hg=>?_⟩
 ·have:=QW f y fs;omega
 ·show YI ((Zj f y fs).lookup g) (if g=f then some u else mA g);rw[Qs]
  by_cases q:g=f
  ·rw[if_pos q,if_pos q];exact ry
  ·rw[if_neg q,if_neg q];exact r g
 ·by_cases q:g=f
  ·rw[q];exact(Vi f y fs).1
  ·refine(Vi f y fs).2 g (wi g fun z=>hg ?_);show(if g=f then some u else mA g)=none;rw[if_neg q];exact z
theorem Inv.made(I:Inv X pins σ H s):Inv X pins σ (upd (upd H s.heap.objs.size (.own (s.heap.objs.size+1))) (s.heap.objs.size+1) (.ins C s.heap.objs.size []))
  {s with heap:=(s.heap.push emptyDict).push (instObj C s.heap.objs.size)}:=by
 have e1:(s.heap.push emptyDict).get? s.heap.objs.size=some emptyDict:=Heap.get?_push_size s.heap rfl;have e2:((s.heap.push emptyDict).push (instObj C s.heap.objs.size)).get? (s.heap.objs.size+1)=some (instObj C s.heap.objs.size):=by
  have:=Heap.get?_push_size (s.heap.push emptyDict) (o:=instObj C s.heap.objs.size) rfl;rwa[Heap.size_push]at this
 have e3:(s.heap.push emptyDict).Ns s.heap.objs.size (fun _=>none):=⟨emptyDict, #[],_,e1,rfl,(fun e he=>absurd he (by simp)),fun _=>rfl⟩;have I1:=I.laid (a:=s.heap.objs.size) (o:=.own (s.heap.objs.size+1)) (h':=s.heap.push emptyDict) (t':=s.toks) (fun b u q=>Heap.get?_push_of_some _ q) (uQ _) ⟨_,e1⟩;refine I1.laid (a:=s.heap.objs.size+1) (o:=.ins C s.heap.objs.size []) (t':=s.toks) (fun b u q=>Heap.get?_push_of_some _ q) (Nat.le_of_eq (Heap.size_push _ _)) ?_;have ne:s.heap.objs.size≠s.heap.objs.size+1:=Nat.ne_of_lt (Nat.lt_succ_self _);refine⟨by rw[Ql ne,Qd],tK _,ne,e2,fun _=>none,(Heap.Ns1.of_empty e3).at fun o q=>Heap.get?_push_of_some _ q,fun _=>True.intro,fun y hy=>absurd rfl hy⟩
theorem Qbm{prog:Program}{w:World}{env:Env}{e:Expr}{f:Str}{pos:Pos}{s:Shared}{Q:Value->Shared->Prop}(hb:attributeBase e f env (eval e env)=eval e env)
  (h:wpAny (model prog w) A (eval e env) (fun o s₁=>wpAny (model prog w) A (getAttr o f true) Q E s₁) E s):wpAny (model prog w) A (eval (.Attribute e f pos) env) Q E s:=
 Attribute_any_ h (by rw[arm_eval_Attribute,hb])
end
noncomputable def QfP(K:PySem.W.Frag)(ta:TE)(f:Str):TE:=fun σ H Q=>ta σ H fun x H1=>∃a C dx fs v,x=.ref a/\H1 a=some (.ins C dx fs)/\Cls K C/\X8 K C f/\fs.lookup f=some v/\Q v H1
noncomputable def QfQ(K:PySem.W.Frag)(ta tv:TE)(f:Str):TS:=fun D σ H=>tv σ H fun y H1=>ta σ H1 fun x H2=>∃a C dx fs,x=.ref a/\H2 a=some (.ins C dx fs)/\Cls K C/\X8 K C f/\fs.length<1000/\
 D.nx σ (upd H2 a (.ins C dx (Zj f y fs)))
section
variable {X:Cx}{o e value:Expr}{f:Str}{pos pos' tpos:Pos}{ta tv:TE}
theorem Xy(he:PE X e ta)(hb:attributeBase e f X.env (eval e X.env)=eval e X.env):PE X (.Attribute e f pos) (QfP X.K ta f):=by
 intro pins s σ H Q I h;refine Qbm hb (thn (he pins s σ H _ I h) fun u s1⟨x,H1,I1,rx,a,C,dx,fs,v,ex,ea,c,n,l,q⟩=>?_);subst ex;obtain rfl:u=Value.ref a:=rx;exact xy I1 ea c n l fun u' s2 I2 ru=>⟨v,H1,I2,ru,q⟩
theorem Yr(ha:PE X o ta)(hv:PE X value tv)(hs:swapsWith value (some (.Attribute o f pos')) pos.line X.env=pure false):PS X (.Assign [.Attribute o f pos'] value pos) (QfQ X.K ta tv f):=by
 intro pins s σ H D I h;refine plainObj_wpAny_Assign_Attribute (thn (hv pins s σ H _ I h) fun u s1⟨y,H1,I1,ry,q⟩=>thn (ha pins s1 σ H1 _ I1 q) fun ov s2⟨x,H2,I2,rx,a,C,dx,fs,ex,ea,c,n,l,q2⟩=>?_) hs;subst ex;obtain rfl:ov=Value.ref a:=rx;exact xz I2 ea c n l ry fun s3 I3=>⟨σ,_,I3,q2⟩
end
section
variable {X:Cx}{pins:List (Addr × Obj)}{σ:St}{H:Hp}{s:Shared}{A:Around}{E:Value->Shared->Prop}{Q:Value->Shared->Prop}{c:Value}{b:Bool}
inductive TyOf (K:PySem.W.Frag) (H:Hp):V->Value->Prop where
 |non:TyOf K H .non (.type "NoneType")
 |bl (x:Bool):TyOf K H (.bl x) (.type "bool")
 |int (i:Int):TyOf K H (.int i) (.type "int")
 |str (x:Str):TyOf K H (.str x) (.type "str")
 |flt (x:UInt64):TyOf K H (.flt x) (.type "float")
 |lst {a:Addr} {xs:List V} (e:H a=some (.lst xs)):TyOf K H (.ref a) (.type "list")
 |frz {a:Addr} {o:Obj} {xs:List V} (e:H a=some (.frz o (.lst xs))):TyOf K H (.ref a) (.type "list")
 |tup {a:Addr} {xs:List V} (e:H a=some (.tup xs)):TyOf K H (.ref a) (.type "tuple")
 |dK {a:Addr} {kvs:List (Key × V)} (e:H a=some (.dK kvs)):TyOf K H (.ref a) (.type "dict")
 |dT {a:Addr} {kvs:List (List Key × V)} (e:H a=some (.dT kvs)):TyOf K H (.ref a) (.type "dict")
 |ins {a C dx:Addr} {fs:List (Str × V)} (e:H a=some (.ins C dx fs)) (cl:Cls K C) (ha:findIn K (.ref C) "__class__"=some (some (.builtin "object.__class__")))
   (hn:specialIn K (.builtin "object.__class__") "__get__"=some (some (.builtin "getset_descriptor.__get__"))) (htk:takesIn K (.builtin "object.__class__")=some true)
   (hm:mroIn K C (.type "object")=some true):TyOf K H (.ref a) (.ref C)
theorem kG{x:V}{u t:Value}(I:Inv X pins σ H s)(rx:RelV x u)(ty:TyOf X.K H x t)(e:kitOne X.K t c=some b)(h:∀tk,Q (.bool b) {s with toks:=tk}):
  wpAny (model X.prog X.w) A (call (.builtin "isinstance") [u,c]) Q E s:=by
 cases ty with
 |non=>cases(show u=Value.none from rx);exact kia_one kitx_none I.kIn True.intro e (fun z=>nomatch z) h
 |bl y=>cases(show u=Value.bool y from rx);exact kia_one kitx_bool I.kIn True.intro e (fun z=>nomatch z) h
 |int i=>obtain⟨t,q⟩:=(show ∃t,u=Value.int i t from rx);cases q;exact kia_one kitx_int I.kIn True.intro e (fun z=>nomatch z) h
 |str y=>obtain⟨t,q⟩:=(show ∃t,u=Value.str y t from rx);cases q;exact kia_one kitx_str I.kIn True.intro e (fun z=>nomatch z) h
 |flt y=>obtain⟨t,q⟩:=(show ∃t,u=Value.float y t from rx);cases q;exact kia_one kitx_float I.kIn True.intro e (fun z=>nomatch z) h
 |@lst a xs ea=>
  cases(show u=Value.ref a from rx);obtain⟨_,_,n,_,h1⟩:=(show Jw X.prog X.w H s.heap a (.lst xs)from I.hok a _ ea);exact kia_one kitx_list I.kIn ⟨_,h1,rfl⟩ e (fun z=>nomatch z) h
 |@frz a ob xs ea=>
  cases(show u=Value.ref a from rx);obtain⟨_,_,_,n,_,h1⟩:=(show Jw X.prog X.w H s.heap a (.frz ob (.lst xs))from I.hok a _ ea);exact kia_one kitx_list I.kIn ⟨_,h1,rfl⟩ e (fun z=>nomatch z) h
 |@tup a xs ea=>
  cases(show u=Value.ref a from rx);obtain⟨_,_,_,p⟩:=(show Jw X.prog X.w H s.heap a (.tup xs)from I.hok a _ ea);obtain⟨o,h1,h2,_⟩:=p;exact kia_one kitx_tuple I.kIn ⟨o,h1,h2⟩ e (fun z=>nomatch z) h
 |@dK a kvs ea=>
  cases(show u=Value.ref a from rx);obtain⟨_,_,vs,_,p⟩:=(show Jw X.prog X.w H s.heap a (.dK kvs)from I.hok a _ ea);obtain⟨o,es,ep,h1,h2,_⟩:=p;exact kia_one kitx_dict I.kIn ⟨o,h1,h2.1⟩ e (fun z=>nomatch z) h
 |@dT a kvs ea=>
  cases(show u=Value.ref a from rx);obtain⟨_,_,xs,_,o,es,ep,h1,h2,_⟩:=(show Jw X.prog X.w H s.heap a (.dT kvs)from I.hok a _ ea);exact kia_one kitx_dict I.kIn ⟨o,h1,h2.1⟩ e (fun z=>nomatch z) h
 |@ins a C dx fs ea cl ha hn htk hm=>
  cases(show u=Value.ref a from rx);obtain⟨mA,O,_⟩:=YL I.hok ea;obtain⟨od,J,_⟩:=O.look;exact kia_one (kitx_own (cl.get _) cl.hd ha hn htk hm) I.kIn J e (fun z=>nomatch z) h
end
structure Room(k:Nat)(A:Around):Prop where
 hd:A.handled=none
 dp:A.depth+3*k+5<recursionLimit
 un:A.units+16*k+200<cLine
theorem Room.mono{j k:Nat}{A:Around}(r:Room k A)(h:j<=k):Room j A:=⟨r.hd,by have:=r.dp;omega,by have:=r.un;omega⟩
theorem Room.deeper{k:Nat}{A:Around}(r:Room (k+1) A)(env:Env):Room k (A.deeper env):=
 ⟨r.hd,by have:=r.dp;show A.depth+1+3*k+5<_;omega,by have:=r.un;show A.units+3+16*k+200<_;omega⟩
theorem xA{A:Around}{C:Addr}{us:List Value}{kw:List (Str × Value)}:(A.under (.builtin "type.__call__" ⟨.ref C::us,kw⟩)).depth=A.depth+1:=by
 first|rfl|simp[Around.under,Code.weight,Code.isCreation,Code.isGuard,Code.isCaller,Code.frames,Code.isFrame,guardIds]
theorem xB{A:Around}{C:Addr}{us:List Value}{kw:List (Str × Value)}:(A.under (.builtin "type.__call__" ⟨.ref C::us,kw⟩)).units=A.units+1:=by
 first|rfl|simp[Around.under,Code.cUnits,Code.frames,Code.isFrame]
theorem Room.make{k:Nat}{A:Around}(r:Room (k+1) A)(C:Addr)(us:List Value)(kw:List (Str × Value)):Room k (A.under (.builtin "type.__call__" ⟨.ref C::us,kw⟩)):=
 ⟨r.hd,by have:=r.dp;rw[xA];omega,by have:=r.un;rw[xB];omega⟩
theorem Room.depth{k:Nat}{A:Around}(r:Room k A):A.depth<recursionLimit:=by have:=r.dp;omega
theorem Room.units{k:Nat}{A:Around}(r:Room k A):A.units+64<cLine:=by have:=r.un;omega
noncomputable def WV:TA:=fun _ H Q=>Q [] H
noncomputable def Jn(ta:TE)(tr:TA):TA:=fun σ H Q=>ta σ H fun x H1=>tr σ H1 fun xs H2=>Q (x::xs) H2
section
variable {X:Cx}{e:Expr}{es:List Expr}{te:TE}{t:TA}{pos:Pos}
theorem Qb:PA X [] WV:=fun _ _ _ _ H Q I h=>Calls.spliced_nil ⟨[],H,I,.nil,h⟩
theorem Qa(ha:PE X e te)(hr:PA X es t)(hs:starEach (e::es) X.env=(false,eval e X.env)::starEach es X.env:=by rfl):PA X (e::es) (Jn te t):=by
 intro pos pins s σ H Q I h;rw[hs];show wpAny _ _ (spliced ((false,eval e X.env)::backTo pos (starEach es X.env))) _ _ s;refine Calls.spliced_cons (thn (ha pins s σ H _ I h) fun u s1⟨x,H1,I1,r1,q1⟩=>?_);exact thn (hr pos pins s1 σ H1 _ I1 q1) fun us s2⟨xs,H2,I2,r2,q2⟩=>⟨x::xs,H2,I2,.cons r1 r2,q2⟩
noncomputable def Qdb(t:TA):TE:=fun σ H Q=>t σ H fun xs H1=>xs.length<=sizeLine/\∀p,H1 p=none->Q (.ref p) (upd H1 p (.tup xs))
noncomputable def Qdc(t:TA):TE:=fun σ H Q=>t σ H fun xs H1=>xs.length<=sizeLine/\∀p,H1 p=none->Q (.ref p) (upd H1 p (.lst xs))
theorem QI{x1}(h:PA X es t):PE X (.Tuple es x1 pos) (Qdb t):=by
 intro pins s σ H Q I hq;refine wpAny_Tuple_spliced (thn (h pos pins s σ H _ I hq) fun us s1⟨xs,H1,I1,r,z,q⟩=>⟨by rw[←r.length];exact z,?_⟩);have hf:H1 s1.heap.objs.size=none:=I1.hok.fresh (uQ _);refine⟨.ref s1.heap.objs.size,upd H1 s1.heap.objs.size (.tup xs),I1.laid (t':=s1.toks) (fun b u e=>Heap.get?_push_of_some _ e) (uQ _) ?_,rfl,q _ hf⟩;exact⟨z,us,r,⟨_,Heap.get?_push_size _ rfl,rfl,_,rfl,rfl⟩⟩
theorem X9(h:PA X es t):PE X (.List es pos) (Qdc t):=by
 intro pins s σ H Q I hq;refine wpAny_List_spliced (thn (h pos pins s σ H _ I hq) fun us s1⟨xs,H1,I1,r,z,q⟩=>⟨by rw[←r.length];exact z,?_⟩);have hf:H1 s1.heap.objs.size=none:=I1.hok.fresh (uQ _);refine⟨.ref s1.heap.objs.size,upd H1 s1.heap.objs.size (.lst xs),I1.laid (t':=s1.toks) (fun b u e=>Heap.get?_push_of_some _ e) (uQ _) ?_,rfl,q _ hf⟩;exact⟨z,us,0,r,Heap.get?_push_size _ rfl⟩
end
noncomputable abbrev Sp:=List V->Hp->VK->XK->Prop
noncomputable abbrev CXT:=List Env->Hp->Shared->XK->Value->Shared->Prop
structure Env0(P:Program)(w:World)(K:PySem.W.Frag)(mg:Str->Option Value)(base:Heap)(A:Around)(outer:List Env)(s:Shared)(H:Hp):Prop where
 frames:A.frames=some outer
 mod:Mod K mg base
 bs:∀b o,base.get? b=some o->s.heap.get? b=some o/\H b=none
 bsz:base.objs.size<=s.heap.objs.size
 ki:s.heap.FunFrames base outer
 frf:∀b∈frs outer,H b=none
 hok:HOk P w H s.heap
 bare:AllBare s.gens
noncomputable def CE(outer:List Env)(P:Program)(w:World)(H:Hp)(s:Shared)(Q:VK)(u:Value)(s':Shared):Prop:=
 ∃v H',s'.os=s.os/\AllBare s'.gens/\Un (frs outer) [] H H' s.heap s'.heap/\HOk P w H' s'.heap/\RelV v u/\Q v H'
noncomputable def CR(CX:CXT)(outer:List Env)(P:Program)(w:World)(H:Hp)(s:Shared)(Q:VK)(E:XK)(r:Result)(s':Shared):Prop:=
 match r with
 | .ok (.ret u)=>CE outer P w H s Q u s'
 | .ok _=>False
 | .error e=>CX outer H s E e s'
structure FnOk(P:Program)(w:World)(K:PySem.W.Frag)(mg:Str->Option Value)(base:Heap)(CX:CXT)(k:Nat)(f:Addr)(fd:FuncData)(ps:List Str)(sp:Sp):Prop where
 len:∀vs H Q E,sp vs H Q E->vs.length=ps.length
 run:∀(A:Around)(outer:List Env)(s:Shared)(H:Hp)(args:Args)(us:List Value)(vs:List V)(Q:VK)(E:XK),Room k A->Env0 P w K mg base A outer s H->BindsTo s fd args (ps.zip us)->Vals vs us->sp vs H Q E->
  codeAny (model P w) A (.call (.ref f) args) (CR CX outer P w H s Q E) s
theorem Env0.make{P:Program}{w:World}{K:PySem.W.Frag}{mg:Str->Option Value}{base:Heap}{A:Around}{outer:List Env}{s:Shared}{H:Hp}(e:Env0 P w K mg base A outer s H)(C:Addr)(us:List Value)(kw:List (Str × Value)):
  Env0 P w K mg base (A.under (.builtin "type.__call__" ⟨.ref C::us,kw⟩)) outer s H:=⟨by first|exact e.frames|(simpa[Around.under,Code.envs,Code.isFrame,pushEnvs]using e.frames),e.mod,e.bs,e.bsz,e.ki,e.frf,e.hok,e.bare⟩
section
variable {X:Cx}{pins:List (Addr × Obj)}{σ:St}{H:Hp}{s s':Shared}
theorem Inv.QeA(I:Inv X pins σ H s):Env0 X.prog X.w X.K X.mg X.base X.A X.stack s H:=
 ⟨I.ok.frames,I.ok.mod,I.bs,Nat.le_trans I.ok.bsz I.sz,I.stack,I.W9,I.hok,I.bare⟩
theorem Inv.after{Q:VK}{u:Value}(I:Inv X pins σ H s)(h:CE X.stack X.prog X.w H s Q u s'):EP X pins σ Q u s':=by
 obtain⟨v,H',os,bare,un,hok,r,q⟩:=h;obtain⟨hh,g,d,t,os'⟩:=s';obtain rfl:os'=s.os:=os;exact⟨v,H',I.call (h':=hh) (g':=g) (d':=d) (t':=t) (ch:=[]) un hok bare (fun b z=>absurd z (by simp)),r,q⟩
end
noncomputable def V8(sp:Sp)(dvs:List V)(E:XK)(t:TA):TE:=fun σ H Q=>t σ H fun vs H1=>sp (vs++dvs) H1 Q E
noncomputable def yn(C:Addr)(m:Str)(sp:Sp)(dvs:List V)(E:XK)(ta:TE)(t:TA):TE:=fun σ H Q=>ta σ H fun x H1=>∃a dx fs,x=.ref a/\H1 a=some (.ins C dx fs)/\fs.lookup m=none/\
 t σ H1 fun vs H2=>sp (x::(vs++dvs)) H2 Q E
noncomputable def Qdd(C:Addr)(sp:Sp)(dvs:List V)(E:XK)(t:TA):TE:=fun σ H Q=>t σ H fun vs H1=>∀x dx,H1 x=none->H1 dx=none->dx≠x->
 sp (.ref x::(vs++dvs)) (upd (upd H1 dx (.own x)) x (.ins C dx [])) (fun v H2=>v=.non/\Q (.ref x) H2) E
noncomputable def Binds(K:PySem.W.Frag)(fd:FuncData)(ps:List Str)(ds:List Value):Prop:=
 ∀(s:Shared)(us:List Value),K.In s.heap->(us++ds).length=ps.length->BindsTo s fd ⟨us,[]⟩ (ps.zip (us++ds))
theorem Binds.all{K:PySem.W.Frag}{fd:FuncData}{ps:List Str}(h:∀us:List Value,us.length=ps.length->bindArgs fd ⟨us,[]⟩=pure (ps.zip us)):Binds K fd ps []:=fun s us _ hl=>by
 rw[tF]at hl ⊢;exact .of_eq (h us hl)
noncomputable def Passes(CX:CXT)(X:Cx)(E:XK):Prop:=∀(pins:List (Addr × Obj))(σ:St)(H:Hp)(s:Shared)(e:Value)(s':Shared),Inv X pins σ H s->CX X.stack H s E e s'->X.xe e s'
section
variable {X:Cx}{CX:CXT}{k:Nat}{f C:Addr}{fd:FuncData}{ps:List Str}{sp:Sp}{dvs:List V}{ds:List Value}{E:XK}{x m:Str}{p pos apos:Pos}{e o:Expr}{es:List Expr}{ta:TE}{t:TA}
theorem zr{pins:List (Addr × Obj)}{σ:St}{H:Hp}{s:Shared}{Q:VK}{us:List Value}{vs:List V}(F:FnOk X.prog X.w X.K X.mg X.base CX k f fd ps sp)(hr:Room k X.A)(hb:Binds X.K fd ps ds)(hd:Vals dvs ds)(hx:Passes CX X E)
  (I:Inv X pins σ H s) (r:Vals vs us) (h:sp (vs++dvs) H Q E):wpAny (model X.prog X.w) X.A (call (.ref f) us) (EP X pins σ Q) X.xe s:=by
 have r2:Vals (vs++dvs) (us++ds):=r.append hd;have hl:(us++ds).length=ps.length:=by rw[←r2.length];exact F.len _ _ _ _ h
 refine wpAny_call (codeAny_mono (F.run X.A X.stack s H ⟨us,[]⟩ (us++ds) (vs++dvs) Q E hr I.QeA (hb s us I.kIn hl) r2 h) fun r s' hq=>?_);cases r with
 |error e=>exact hx pins σ H s e s' I hq
 |ok fl=>
  cases fl with
  |ret u=>exact I.after hq
  |next=>exact False.elim hq
  |brk=>exact False.elim hq
  |cont=>exact False.elim hq
theorem Qbn(F:FnOk X.prog X.w X.K X.mg X.base CX k f fd ps sp)(hr:Room k X.A)(hg:Gl X x)(hm:X.mg x=some (.ref f))(hk:keepIn X.K (.ref f)=true)(hb:Binds X.K fd ps ds)(hd:Vals dvs ds)(hx:Passes CX X E)
  (ha:PA X (e::es) t) (hdb:(x==("__debug__":Str))=false:=by decide) (he:starEach (e::es) X.env=(false,eval e X.env)::starEach es X.env:=by rfl) (hpl:(backTo pos (starEach es X.env)).any (·.1)=false:=by rfl):
  PE X (.Call (.Name x p) (e::es) [] pos) (V8 sp dvs E t):=by
 intro pins s σ H Q I h;refine wpAny_Call_Name_kw (Va I hg hm ?_ hdb);refine callWith_K (h₀:=X.base) I.ok.mod.kin hk (thn (ha pos pins s σ H _ I h) fun us s1⟨vs,H1,I1,r,q⟩=>⟨I1.kIn,?_⟩) he hpl;exact zr F hr hb hd hx I1 r q
theorem yo(F:FnOk X.prog X.w X.K X.mg X.base CX k f fd ps sp)(hr:Room k X.A)(hg:Gl X x)(hm:X.mg x=some (.ref f))(hk:keepIn X.K (.ref f)=true)(hb:Binds X.K fd ps ds)(hd:Vals dvs ds)(hx:Passes CX X E)
  (hdb:(x==("__debug__":Str))=false:=by decide):PE X (.Call (.Name x p) [] [] pos) (V8 sp dvs E WV):=by
 intro pins s σ H Q I h;refine wpAny_Call_Name_kw (Va I hg hm ?_ hdb);exact callWith_K0 I.kIn hk (zr (us:=[]) F hr hb hd hx I .nil h)
theorem Qbo{pl:Sem Bool}(he:PE X o ta)(c:Cls X.K C)(hm:Meth X.K C m f)(F:FnOk X.prog X.w X.K X.mg X.base CX k f fd ps sp)(hr:Room k X.A)(hb:Binds X.K fd ps ds)(hd:Vals dvs ds)(hx:Passes CX X E)(ha:PA X (e::es) t)
  (hst:starEach (e::es) X.env=(false,eval e X.env)::starEach es X.env:=by rfl) (hpl:(backTo pos (starEach es X.env)).any (·.1)=false:=by rfl)
  (ht:eval (.Call (.Attribute o m apos) (e::es) [] pos) X.env=(do
   let ov←eval o X.env
   standAt apos.atName
   let (f,first)←holding [ov] (getMethod ov m pl)
   callWith pos f first (backTo pos (starEach (e::es) X.env)) (backToKw pos (keywordEach [] X.env))):=by rfl):
  PE X (.Call (.Attribute o m apos) (e::es) [] pos) (yn C m sp dvs E ta t):=by
 intro pins s σ H Q I h;refine methodCall_KW (pl:=pl) (thn (he pins s σ H _ I h) fun u s1⟨x,H1,I1,rx,a,dx,fs,ex,ea,l,q⟩=>?_) ht;subst ex;obtain rfl:u=Value.ref a:=rx;refine K6 I1 ea c hm l ?_;refine callWith_K (first:=[.ref a]) (h₀:=X.base) I.ok.mod.kin hm.kp (thn (ha pos pins s1 σ H1 _ I1 q) fun us s2⟨vs,H2,I2,r,q2⟩=>⟨I2.kIn,?_⟩) hst hpl;exact zr (us:=.ref a::us) (vs:=.ref a::vs) F hr hb hd hx I2 (.cons rfl r) q2
theorem yp{pl:Sem Bool}(he:PE X o ta)(c:Cls X.K C)(hm:Meth X.K C m f)(F:FnOk X.prog X.w X.K X.mg X.base CX k f fd ps sp)(hr:Room k X.A)(hb:Binds X.K fd ps ds)(hd:Vals dvs ds)(hx:Passes CX X E)
  (ht:eval (.Call (.Attribute o m apos) [] [] pos) X.env=(do
   let ov←eval o X.env
   standAt apos.atName
   let (f,first)←holding [ov] (getMethod ov m pl)
   callWith pos f first (backTo pos (starEach [] X.env)) (backToKw pos (keywordEach [] X.env))):=by rfl):
  PE X (.Call (.Attribute o m apos) [] [] pos) (yn C m sp dvs E ta WV):=by
 intro pins s σ H Q I h;refine methodCall_KW (pl:=pl) (thn (he pins s σ H _ I h) fun u s1⟨x,H1,I1,rx,a,dx,fs,ex,ea,l,q⟩=>?_) ht;subst ex;obtain rfl:u=Value.ref a:=rx;refine K6 I1 ea c hm l ?_;exact callWith_K0 (first:=[.ref a]) I1.kIn hm.kp (zr (us:=[.ref a]) (vs:=[.ref a]) F hr hb hd hx I1 (.cons rfl .nil) q)
structure Mk(K:PySem.W.Frag)(C f:Addr):Prop where
 makes:makesIn K C=true
 init:findIn K (.ref C) "__init__"=some (some (.ref f))
 fn:isFn K (.ref f)=true
 kp:keepIn K (.ref C)=true
theorem yq{pins:List (Addr × Obj)}{σ:St}{H:Hp}{s:Shared}{Q:VK}{us:List Value}{vs:List V}(M:Mk X.K C f)(F:FnOk X.prog X.w X.K X.mg X.base CX k f fd ps sp)(hr:Room (k+1) X.A)(hb:Binds X.K fd ps ds)(hd:Vals dvs ds)
  (hx:Passes CX X E) (I:Inv X pins σ H s) (r:Vals vs us)
  (h:∀x dx,H x=none->H dx=none->dx≠x->sp (.ref x::(vs++dvs)) (upd (upd H dx (.own x)) x (.ins C dx [])) (fun v H2=>v=.non/\Q (.ref x) H2) E):
  wpAny (model X.prog X.w) X.A (call (.ref C) us) (EP X pins σ Q) X.xe s:=by
 have hq:=h (s.heap.objs.size+1) s.heap.objs.size (I.hok.fresh (Nat.le_succ _)) (I.hok.fresh (uQ _)) (Nat.ne_of_lt (Nat.lt_succ_self _));have I2:=Inv.made (C:=C) I;have r2:Vals (V.ref (s.heap.objs.size+1)::(vs++dvs)) (Value.ref (s.heap.objs.size+1)::(us++ds)):=.cons rfl (r.append hd);have hl:(Value.ref (s.heap.objs.size+1)::us++ds).length=ps.length:=by
  have e:=r2.length;rw[F.len _ _ _ _ hq]at e;exact e.symm
 refine wpAny_call (ym (f:=f) I.kIn M.makes M.init (beq_iff_eq.mp M.fn) (codeAny_mono (F.run _ X.stack _ _ ⟨Value.ref (s.heap.objs.size+1)::us,[]⟩ (Value.ref (s.heap.objs.size+1)::(us++ds)) _ _ E (hr.make C us [])
  (I2.QeA.make C us []) (hb _ (Value.ref (s.heap.objs.size+1)::us) I2.kIn hl) r2 hq) fun r s' hq'=>?_))
 cases r with
 |error e=>exact hx pins σ _ _ e s' I2 hq'
 |ok fl=>
  cases fl with
  |ret u=>
   obtain⟨v,H',I3,rv,ev,q3⟩:=I2.after hq';subst ev;exact⟨rv,⟨V.ref (s.heap.objs.size+1),H',I3,rfl,q3⟩⟩
  |next=>exact False.elim hq'
  |brk=>exact False.elim hq'
  |cont=>exact False.elim hq'
theorem Qbp(M:Mk X.K C f)(F:FnOk X.prog X.w X.K X.mg X.base CX k f fd ps sp)(hr:Room (k+1) X.A)(hg:Gl X x)(hm:X.mg x=some (.ref C))(hb:Binds X.K fd ps ds)(hd:Vals dvs ds)(hx:Passes CX X E)
  (ha:PA X (e::es) t) (hdb:(x==("__debug__":Str))=false:=by decide) (he:starEach (e::es) X.env=(false,eval e X.env)::starEach es X.env:=by rfl) (hpl:(backTo pos (starEach es X.env)).any (·.1)=false:=by rfl):
  PE X (.Call (.Name x p) (e::es) [] pos) (Qdd C sp dvs E t):=by
 intro pins s σ H Q I h;refine wpAny_Call_Name_kw (Va I hg hm ?_ hdb);refine callWith_K (h₀:=X.base) I.ok.mod.kin M.kp (thn (ha pos pins s σ H _ I h) fun us s1⟨vs,H1,I1,r,q⟩=>⟨I1.kIn,?_⟩) he hpl;exact yq M F hr hb hd hx I1 r q
end
noncomputable def PK(X:Cx)(kws:List Keyword)(t:TA):Prop:=
 ∀(pos:Pos)(pins:List (Addr × Obj))(s:Shared)(σ:St)(H:Hp)(Q:List V->Hp->Prop),Inv X pins σ H s->t σ H Q->wpAny (model X.prog X.w) X.A (evalAll ((backToKw pos (keywordEach kws X.env)).map (·.2))) (AP X pins σ Q) X.xe s
section
variable {X:Cx}{CX:CXT}{k:Nat}{f C:Addr}{fd:FuncData}{ps ks:List Str}{sp:Sp}{E:XK}{x m:Str}{p pos apos kpos:Pos}{e o:Expr}{es:List Expr}{kws:List Keyword}{te ta:TE}{t tk:TA}{nm:Option Str}
theorem Qde:PK X [] WV:=fun _ _ _ _ H Q I h=>wpAny_evalAll_nil ⟨[],H,I,.nil,h⟩
theorem Qbq(ha:PE X e te)(hr:PK X kws t):PK X (⟨nm,e,kpos⟩::kws) (Jn te t):=by
 intro pos pins s σ H Q I h;show wpAny _ _ (evalAll ((do let v←eval e X.env;standAt pos;pure v)::(backToKw pos (keywordEach kws X.env)).map (·.2))) _ _ s;refine wpAny_evalAll_cons (wpAny_bind (thn (ha pins s σ H _ I h) fun u s1⟨x,H1,I1,r1,q1⟩=>wpAny_bind (wpAny_standAt (wpAny_pure ?_))));exact thn (hr pos pins s1 σ H1 _ I1 q1) fun us s2⟨xs,H2,I2,r2,q2⟩=>⟨x::xs,H2,I2,.cons r1 r2,q2⟩
structure KBinds(K:PySem.W.Frag)(fd:FuncData)(ps ks:List Str)(g:List Value->List Value->List Value)(gV:List V->List V->List V):Prop where
 to:∀(s:Shared)(us ws:List Value),K.In s.heap->(g us ws).length=ps.length->BindsTo s fd ⟨us,ks.zip ws⟩ (ps.zip (g us ws))
 rel:∀{vs:List V}{us:List Value}{zs:List V}{ws:List Value},Vals vs us->Vals zs ws->Vals (gV vs zs) (g us ws)
variable {g:List Value->List Value->List Value}{gV:List V->List V->List V}
theorem Qbr{pins:List (Addr × Obj)}{σ:St}{H:Hp}{s:Shared}{Q:VK}{us ws:List Value}{vs zs:List V}(F:FnOk X.prog X.w X.K X.mg X.base CX k f fd ps sp)(hr:Room k X.A)(hb:KBinds X.K fd ps ks g gV)(hx:Passes CX X E)
  (I:Inv X pins σ H s) (r:Vals vs us) (rz:Vals zs ws) (h:sp (gV vs zs) H Q E):wpAny (model X.prog X.w) X.A (call (.ref f) us (ks.zip ws)) (EP X pins σ Q) X.xe s:=by
 have r2:=hb.rel r rz;have hl:(g us ws).length=ps.length:=by rw[←r2.length];exact F.len _ _ _ _ h
 refine wpAny_call (codeAny_mono (F.run X.A X.stack s H ⟨us,ks.zip ws⟩ (g us ws) (gV vs zs) Q E hr I.QeA (hb.to s us ws I.kIn hl) r2 h) fun r s' hq=>?_);cases r with
 |error e=>exact hx pins σ H s e s' I hq
 |ok fl=>
  cases fl with
  |ret u=>exact I.after hq
  |next=>exact False.elim hq
  |brk=>exact False.elim hq
  |cont=>exact False.elim hq
end
structure FnScope(N P:List Str)(sc:Scope):Prop where
 kind:sc.kind=.function
 co:sc.isCoroutine=false
 gen:sc.isGenerator=false
 nd:N.Nodup
 pre:N.take P.length=P
 par:∀x∈P,sc.names.lookup x=some .local\/sc.names.lookup x=some .cell
 nofree:∀y∈sc.names,y.2≠ .free
theorem qa{kindOf:Str->Option NameKind}{x:Str}:∀{binds:List (Str × Value)}{m:Str->Option Value},(∀v,(x,v)∉binds)->bindL kindOf binds m x=m x
 |[],_,_=>rfl
 |(n,v)::r,m,h=>by
  unfold bindL;rw[qa fun w hw=>h w (uW _ hw)]
  split
  ·have:x≠n:=by rintro rfl;exact h v uX
   simp[this]
  ·rfl
theorem qb{kindOf:Str->Option NameKind}{x:Str}:∀{binds:List (Str × Value)}{m:Str->Option Value},(∀v,(x,v)∉binds)->bindC kindOf binds m x=m x
 |[],_,_=>rfl
 |(n,v)::r,m,h=>by
  unfold bindC;rw[qb fun w hw=>h w (uW _ hw)]
  split
  ·rfl
  ·have:x≠n:=by rintro rfl;exact h v uX
   simp[this]
theorem qc{kindOf:Str->Option NameKind}{x:Str}{v:Value}:∀{P:List Str}{vs:List Value}{i:Nat}{m:Str->Option Value},P.Nodup->P[i]? =some x->vs[i]? =some v->kindOf x=some .local->
  bindL kindOf (P.zip vs) m x=some v
 |[],_,_,_,_,h,_,_=>by simp at h
 |_::_,[],_,_,_,_,h,_=>by simp at h
 |p::P,w::vs,0,m,nd,h1,h2,hk=>by
  simp at h1 h2;subst h1;subst h2;show bindL kindOf ((p,w)::P.zip vs) m p=_;unfold bindL;rw[qa fun v hv=>(List.nodup_cons.mp nd).1 (List.of_mem_zip hv).1,if_pos hk];simp
 |p::P,w::vs,i+1,m,nd,h1,h2,hk=>by
  show bindL kindOf ((p,w)::P.zip vs) m x=_;unfold bindL;exact qc (i:=i) (List.nodup_cons.mp nd).2 (by simpa using h1) (by simpa using h2) hk
theorem qd{kindOf:Str->Option NameKind}{x:Str}{v:Value}:∀{P:List Str}{vs:List Value}{i:Nat}{m:Str->Option Value},P.Nodup->P[i]? =some x->vs[i]? =some v->kindOf x≠some .local->
  bindC kindOf (P.zip vs) m x=some v
 |[],_,_,_,_,h,_,_=>by simp at h
 |_::_,[],_,_,_,_,h,_=>by simp at h
 |p::P,w::vs,0,m,nd,h1,h2,hk=>by
  simp at h1 h2;subst h1;subst h2;show bindC kindOf ((p,w)::P.zip vs) m p=_;unfold bindC;rw[qb fun v hv=>(List.nodup_cons.mp nd).1 (List.of_mem_zip hv).1,if_neg hk];simp
 |p::P,w::vs,i+1,m,nd,h1,h2,hk=>by
  show bindC kindOf ((p,w)::P.zip vs) m x=_;unfold bindC;exact qd (i:=i) (List.nodup_cons.mp nd).2 (by simpa using h1) (by simpa using h2) hk
noncomputable def start(N:List Str)(vs:List V):St:=vs.map some++List.replicate (N.length-vs.length) none
noncomputable def qe(CX:CXT)(P:Program)(w:World)(K:PySem.W.Frag)(mg:Str->Option Value)(base:Heap)(N:List Str)(qual:Str)(scope:Scope)(f:Addr)(cd:Value)(A:Around)(outer:List Env)(s:Shared)(H:Hp)(E:XK):Cx where
 prog:=P
 w:=w
 K:=K
 mg:=mg
 base:=base
 A:=A.deeper (envOfC qual scope s.heap.objs.size f cd)
 N:=N
 s₀:=s
 H₀:=H
 env:=envOfC qual scope s.heap.objs.size f cd
 outer:=outer
 stack:=envOfC qual scope s.heap.objs.size f cd::outer
 ex:=[]
 calm:=true
 fn:=fun _=>true
 pn:=[]
 xe:=fun e s'=>wpAny (model P w) (A.deeper (envOfC qual scope s.heap.objs.size f cd)) (leaving (envOfC qual scope s.heap.objs.size f cd) e) (fun _ s''=>CX outer H s E e s'') (fun e' s''=>CX outer H s E e' s'') s'
theorem WW{sc:Scope}{n:Nat}{x:Str}(h:sc.names.lookup x=some .cell):∃c,(cellsFrom n sc.names []).lookup x=some c:=by
 have q:=cellsFrom_some sc.names n [] (.inl h);exact Option.isSome_iff_exists.mp q
theorem kH{CX:CXT}{P:Program}{w:World}{K:PySem.W.Frag}{mg:Str->Option Value}{base:Heap}{N ps:List Str}{qual:Str}{scope:Scope}{f:Addr}{cd:Value}{A:Around}{outer:List Env}{s s1:Shared}{H:Hp}{E:XK}{us:List Value}{vs:List V}
  (S:FnScope N ps scope) (hd:A.handled=none) (e0:Env0 P w K mg base A outer s H) (hl:vs.length=ps.length) (r:Vals vs us)
  (x:InCallC s s.heap.objs.size (bindL (envOfC qual scope s.heap.objs.size f cd).kindOf (ps.zip us) fun _=>none) (cellsFrom (s.heap.objs.size+1) scope.names []) (bindC (envOfC qual scope s.heap.objs.size f cd).kindOf (ps.zip us) fun _=>none) s1):
  Inv (qe CX P w K mg base N qual scope f cd A outer s H E) [] (start N vs) H s1:=by
 have hpl:ps.length<=N.length:=by have:=congrArg List.length S.pre;rw[uY]at this;omega
 obtain⟨h1,tk,rfl,hk⟩:=x.done;have noA:∀b:Addr,b∉(qe CX P w K mg base N qual scope f cd A outer s H E).ex:=fun b z=>absurd (show b∈([]:List Addr)from z) (by simp);refine⟨⟨e0.mod,S.kind,rfl,rfl,uQ _,fun y z c h1 h2=>?_,fun y hy=>?_,fun y c _ h=>?_,fun _=>hd,Around.frames_deeper e0.frames,.inr ⟨rfl,rfl⟩,fun b z=>absurd z (noA b),e0.bs,e0.bsz,fun b _ _=>noA b,fun b z=>absurd z (noA b),e0.ki,e0.frf⟩,
  rfl,e0.bare,Un.kept hk,⟨_,x.toInCall.ns,fun i y v h1 h2 h3=>?_⟩,fun y c h=>⟨_,x.cell y c h⟩,e0.hok.fresh (uQ _),fun y c h=>?_,fun p hp=>absurd (show p∈([]:List (Addr × Obj))from hp) (by simp),e0.hok.kept hk,?_⟩
 ·exact name_of_addr x.apart (PySem.mem_of_lookup h1) (PySem.mem_of_lookup h2)
 ·have hy:scope.names.lookup y=some .cell\/scope.names.lookup y=some .free:=hy;rcases hy with hy|hy
  ·exact WW hy
  ·exact absurd rfl (S.nofree _ (PySem.mem_of_lookup hy))
 ·exact Nat.le_of_lt (x.above y c (PySem.mem_of_lookup h))
 ·have hi:i<vs.length:=by
   unfold start at h2
   by_cases hi:i<vs.length
   ·exact hi
   ·rw[List.getElem?_append_right (by simpa using hi)]at h2;rw[List.getElem?_replicate]at h2
    split at h2<;>cases h2
  have ha:vs[i]? =some v:=by
   unfold start at h2;rw[List.getElem?_append_left (by simpa using hi),u5]at h2;cases e:vs[i]? with
   |none=>rw[e]at h2;cases h2
   |some a=>rw[e]at h2;cases h2;rfl
  obtain⟨u,hu,rv⟩:=r.get ha;have hp:ps[i]? =some y:=by
   rw[←S.pre,List.getElem?_take_of_lt (by omega)];exact h1
  have ndP:ps.Nodup:=by rw[←S.pre];exact S.nd.sublist (List.take_sublist _ _)
  refine⟨u,rv,?_⟩;rcases S.par y (u6 hp)with k|k
  ·exact .inl ⟨k,qc ndP hp hu k⟩
  ·obtain⟨c,e⟩:=WW (n:=s.heap.objs.size+1) k;refine .inr ⟨.inl k,c,e,?_⟩;have q:=x.cell y c e;rw[qd ndP hp hu (by show scope.names.lookup y≠_;rw[k];decide)]at q;exact q
 ·exact e0.hok.fresh (Nat.le_of_lt (x.above y c (PySem.mem_of_lookup h)))
 ·unfold start;show _=N.length;rw[uM,uN,tj];omega
theorem Qdf{CX:CXT}{P:Program}{w:World}{K:PySem.W.Frag}{mg:Str->Option Value}{base:Heap}{k:Nat}{f:Addr}{name qual:Str}{params:Arguments}{body:List Stmt}{scope:Scope}{dV kV doc pm cdv ct oc:Value}{an od:Option Addr}
  {osl:Array (Option Value)} {N ps:List Str} {sp:Sp} (lk:K.lookup f=some ⟨oc,od,.func (fnOf name qual params body scope dV kV doc pm an cdv ct),osl⟩) (hcd:codeIn K cdv qual=true) (S:FnScope N ps scope)
  (len:∀vs H Q E,sp vs H Q E->vs.length=ps.length)
  (hbody:∀(A:Around)(outer:List Env)(s:Shared)(H:Hp)(vs:List V)(Q:VK)(E:XK),Room k (A.deeper (envOfC qual scope s.heap.objs.size f cdv))->sp vs H Q E->
   ∃t,PSs (qe CX P w K mg base N qual scope f cdv A outer s H E) body t/\t {nx:=fun _ H'=>Q .non H',rt:=Q} (start N vs) H):
  FnOk P w K mg base CX (k+1) f (fnOf name qual params body scope dV kV doc pm an cdv ct) ps sp:=by
 refine⟨len,fun A outer s H args us vs Q E hr e0 hb r hsp=>?_⟩;have hl:=len _ _ _ _ hsp;have KX:K.In s.heap:=e0.mod.kin.keeps fun b o e=>(e0.bs b o e).1;have lim:s.heap.NoLimit:=e0.mod.nolimit.keeps fun b o e=>(e0.bs b o e).1;have hkind:∀y∈ps.zip us,scope.names.lookup y.1=some .local\/(scope.names.lookup y.1=some .cell/\((cellsFrom (s.heap.objs.size+1) scope.names []).lookup y.1).isSome=true):=fun⟨n,v⟩ hy=>by
  rcases S.par n (List.of_mem_zip hy).1 with q|q
  ·exact .inl q
  ·exact .inr ⟨q,cellsFrom_some _ _ _ (.inl q)⟩
 refine codeAny_call_function hr.depth (KX _ _ lk) rfl S.co S.gen rfl (codeRec_of KX hcd) (hb _ _ _ _ ?_);refine wpAny_newFunctionEnv_cells S.kind hkind fun env he s1 x=>?_;subst he;refine⟨lim.keeps x.toInCall.keep,codeAny_func ?_⟩;obtain⟨t,ht,hq⟩:=hbody A outer s H vs Q E (hr.deeper _) hsp;have I:Inv (qe CX P w K mg base N qual scope f cdv A outer s H E) [] (start N vs) H s1:=kH S hr.hd e0 hl r x;refine wpAny_mono (ht [] s1 (start N vs) H _ I hq) (fun fl s' hs=>?_) fun e s' hs=>hs;have fin:∀{σ':St}{H':Hp}{v:V}{u:Value},Inv (qe CX P w K mg base N qual scope f cdv A outer s H E) [] σ' H' s'->RelV v u->Q v H'->CE outer P w H s Q u s':=
  fun{σ' H' v u} J rv q=>⟨v,H',J.os,J.bare,J.base,J.hok,rv,q⟩
 cases fl with
 |ret u=>
  obtain⟨v,σ',H',J,rv,q⟩:=hs;exact fin J rv q
 |next=>
  obtain⟨σ',H',J,q⟩:=hs;exact fin (v:=V.non) (u:=Value.none) J rfl q
 |brk=>
  obtain⟨_,_,_,q⟩:=hs;exact False.elim q
 |cont=>
  obtain⟨_,_,_,q⟩:=hs;exact False.elim q
section
variable {X:Cx}{x:Str}{p pos:Pos}{e:Expr}{es:List Expr}{t:TA}{id T:String}{r:List V->Hp->VK->Prop}
noncomputable def tCB(r:List V->Hp->VK->Prop)(t:TA):TE:=fun σ H Q=>t σ H fun vs H1=>r vs H1 Q
theorem Qr(hc:K5 X (.builtin id) r)(hg:Gl X x)(hm:X.mg x=none)(hv:bootBuiltins x=some (.builtin id))(ha:PA X (e::es) t)(hn:x≠"__name__":=by decide)(hdb:(x==("__debug__":Str))=false:=by decide)
  (he:starEach (e::es) X.env=(false,eval e X.env)::starEach es X.env:=by rfl) (hpl:(backTo pos (starEach es X.env)).any (·.1)=false:=by rfl):PE X (.Call (.Name x p) (e::es) [] pos) (tCB r t):=by
 intro pins s σ H Q I h;refine wpAny_Call_Name_kw (ZV I hg hm hv ?_ hn hdb);exact PyProof.Rows.callWith_builtin1 (thn (ha pos pins s σ H _ I h) fun us s1⟨vs,H1,I1,r1,q1⟩=>hc pins s1 σ H1 vs us Q I1 r1 q1) he hpl
theorem Xz(hc:K5 X (.type T) r)(hg:Gl X x)(hm:X.mg x=none)(hv:bootBuiltins x=some (.type T))(ha:PA X (e::es) t)(hn:x≠"__name__":=by decide)(hdb:(x==("__debug__":Str))=false:=by decide)
  (he:starEach (e::es) X.env=(false,eval e X.env)::starEach es X.env:=by rfl) (hpl:(backTo pos (starEach es X.env)).any (·.1)=false:=by rfl):PE X (.Call (.Name x p) (e::es) [] pos) (tCB r t):=by
 intro pins s σ H Q I h;refine wpAny_Call_Name_kw (ZV I hg hm hv ?_ hn hdb);exact PyProof.Rows.callWith_type1 (thn (ha pos pins s σ H _ I h) fun us s1⟨vs,H1,I1,r1,q1⟩=>hc pins s1 σ H1 vs us Q I1 r1 q1) he hpl
end
end L2
namespace HT
open PySem PyProof.Rows
section
open PySem.SeqAt
open PySem.AutoSeq1 (wpAny_loadPart')
open PySem.MeetsSeq PySem.MeetsSeq2 PySem.MeetsSeq3
end
section
variable {prog:Program}{w:World}{A:Around}{E:Value->Shared->Prop}{s:Shared}
theorem Qbs{t b:Addr}{vs ws:List Value}{Q:Value->Shared->Prop}(ht:IsTup s.heap t vs.toArray)(hb:IsTup s.heap b ws.toArray)(hv:vs≠[])
  (h1:ws=[]->Q (.ref t) s) (h2:ws≠[]->Q (.ref s.heap.objs.size) {s with heap:=s.heap.push {cls:=.type "tuple",data:=.seq (vs++ws).toArray}})
  (hsz:vs.length+ws.length<=sizeLine):wpAny (model prog w) A (binaryOp .Add (.ref t) (.ref b)) Q E s:=by
 obtain⟨⟨cls,dd,data,sl⟩,ho,hc,n,hd⟩:=id ht;obtain⟨⟨cls2,dd2,data2,sl2⟩,ho2,hc2,n2,hd2⟩:=id hb;simp only at hc hd hc2 hd2;subst hc hd hc2 hd2;have e:vs.toArray++ws.toArray=(vs++ws).toArray:=by simp
 by_cases hw:ws=[]
 ·exact concat_meets ⟨_,ho,rfl⟩ ⟨_,ho2,rfl⟩ noFill_tuple_add seq_tuple_add slot_tuple_add entry_tuple_add (args_tuple_add_2 _ _)
   (tuple_addW1 t b vs.toArray ws.toArray n n2 dd dd2 sl sl2 (by simpa using hv) (by simp[hw])) ⟨ho,ho2,h1 hw⟩
 ·refine concat_meets ⟨_,ho,rfl⟩ ⟨_,ho2,rfl⟩ noFill_tuple_add seq_tuple_add slot_tuple_add entry_tuple_add (args_tuple_add_2 _ _)
   (tuple_addW2 t b vs.toArray ws.toArray n n2 dd dd2 sl sl2 (by simpa using hv) (by simpa using hw) (by rw[tJ,tJ];exact hsz)) ⟨ho,ho2,?_⟩
  rw[e];exact h2 hw
noncomputable def sIx(n d:Nat):Option Int->Nat
 |none=>d
 |some v=>if v<0 then(v+(n:Int)).toNat else min v.toNat n
theorem zt(n d:Nat):sIx n d none=d:=rfl
theorem Z6(n d k:Nat):sIx n d (some (k:Int))=min k n:=by
 show(if(k:Int)<0 then((k:Int)+(n:Int)).toNat else min (k:Int).toNat n)=min k n;rw[if_neg (by omega),tM]
theorem Qdg(n d:Nat)(hd:d<=n)(o:Option Int):sIx n d o<=n:=by
 cases o with
 |none=>exact hd
 |some v=>
  show(if v<0 then(v+(n:Int)).toNat else min v.toNat n)<=n
  by_cases hv:v<0
  ·rw[if_pos hv];omega
  ·rw[if_neg hv];exact Nat.min_le_right _ _
theorem kI(v:Int)(n d:Nat):(if v<0 then max (v+(n:Int)) 0 else min v (n:Int))=((sIx n d (some v):Nat):Int):=by
 show(if v<0 then max (v+(n:Int)) 0 else min v (n:Int))=(((if v<0 then(v+(n:Int)).toNat else min v.toNat n):Nat):Int)
 by_cases hv:v<0
 ·simp only[if_pos hv];omega
 ·simp only[if_neg hv];omega
theorem xC(lo hi:Option Int)(n:Nat):Builtin.Slice.sliceAdjust lo hi 1 (n:Int)=(((sIx n 0 lo:Nat):Int),((sIx n n hi:Nat):Int)):=by
 have h1:¬ ((1:Int)<0):=by omega
 unfold Builtin.Slice.sliceAdjust;simp only[h1,if_false];refine Prod.ext ?_ ?_
 ·cases lo with
  |none=>rfl
  |some v=>exact kI v n 0
 ·cases hi with
  |none=>rfl
  |some v=>exact kI v n n
theorem xD(i j:Nat):Builtin.Slice.slicePlaces (i:Int) (j:Int) 1=j-i:=by
 unfold Builtin.Slice.slicePlaces;have h1:(1:Int)>0:=by omega
 simp only[h1,if_true,Int.ediv_one]
 split<;>omega
theorem Ys{v:Value}{o:Option Int}{Q:Option Int->Shared->Prop}(p:IsPart v o)(h:Q o s):wpAny (model prog w) A (Builtin.Slice.slicePartIndex v) Q E s:=by
 cases p with
 |none=>exact slicePart_none h
 |int i t=>exact slicePart_int h
theorem Xr{sl:Addr}{vl vu:Value}{lo hi:Option Int}{n:Nat}{Q:Int × Int × Nat->Shared->Prop}(hs:s.heap.IsSliceOf sl vl vu .none)(pl:IsPart vl lo)(pu:IsPart vu hi)
  (h:Q (((sIx n 0 lo:Nat):Int),1,sIx n n hi-sIx n 0 lo) s):wpAny (model prog w) A (Builtin.Slice.sliceApplied (.ref sl) (pure (n:Int))) Q E s:=by
 obtain⟨os,hos,hcs,hds⟩:=id hs;unfold Builtin.Slice.sliceApplied Builtin.Slice.sliceFields;refine wpAny_bind (wpAny_bind (wpAny_field hos hds (x:=vl) rfl (wpAny_bind (wpAny_field hos hds (x:=vu) rfl (wpAny_bind (wpAny_field hos hds (x:=.none) rfl (wpAny_pure ?_)))))));refine wpAny_bind (slicePart_none ?_);show wpAny _ _ (if((1:Int)==0)=true then _ else _) _ _ s;rw[if_neg (by decide)];refine wpAny_bind (Ys pl (wpAny_bind (Ys pu (wpAny_bind (wpAny_pure ?_)))));show wpAny _ _ (match Builtin.Slice.sliceAdjust lo hi 1 (n:Int)with|(lo,hi)=>pure (lo,(1:Int),Builtin.Slice.slicePlaces lo hi 1)) _ _ s;rw[xC lo hi n];show wpAny _ _ (pure (((sIx n 0 lo:Nat):Int),(1:Int),Builtin.Slice.slicePlaces ((sIx n 0 lo:Nat):Int) ((sIx n n hi:Nat):Int) 1)) _ _ s;rw[xD];exact wpAny_pure h
theorem yr(xs:Array Value)(i k:Nat):((List.range k).filterMap fun(m:Nat)=>xs[((i:Int)+(m:Int)*1).toNat]?).toArray=((xs.toList.drop i).take k).toArray:=by
 have e:(fun(m:Nat)=>xs[((i:Int)+(m:Int)*1).toNat]?)=fun m=>xs[i+m]? :=by
  funext m
  have:((i:Int)+(m:Int)*1).toNat=i+m:=by omega
  rw[this]
 rw[e];have:=pick_run xs i k;rw[List.filterMap_map]at this;have e2:((fun x=>xs[x]?)∘fun x=>i+x)=fun m=>xs[i+m]? :=rfl;rw[e2]at this;rw[this]
theorem K7{t sl:Addr}{items:Array Value}{vl vu:Value}{lo hi:Option Int}{Q:Value->Shared->Prop}(ht:IsTup s.heap t items)(hs:s.heap.IsSliceOf sl vl vu .none)(pl:IsPart vl lo)(pu:IsPart vu hi)
  (hw:¬ (sIx items.size 0 lo=0/\sIx items.size items.size hi=items.size))
  (h:Q (.ref s.heap.objs.size) {s with heap:=s.heap.push {cls:=.type "tuple",data:=.seq ((items.toList.drop (sIx items.size 0 lo)).take (sIx items.size items.size hi-sIx items.size 0 lo)).toArray}})
  (hsz:items.size<=sizeLine):wpAny (model prog w) A (getItem (.ref t) (.ref sl)) Q E s:=by
 have htake:sizeOk (.seq ((items.toList.drop (sIx items.size 0 lo)).take (sIx items.size items.size hi-sIx items.size 0 lo)).toArray):=by
  show((items.toList.drop (sIx items.size 0 lo)).take (sIx items.size items.size hi-sIx items.size 0 lo)).toArray.size<=sizeLine;rw[tJ,uY,uZ,tI];omega
 have hj:sIx items.size items.size hi<=items.size:=Qdg _ _ (uQ _) hi;obtain⟨os,hos,hcs,hds⟩:=id hs;have hTs:s.TypeIs (.ref sl) "slice":=⟨os,hos,hcs⟩;unfold getItem
 try with_reducible refine wpAny_holding ?_
 first|refine wpAny_bind (wpAny_pure ?_)|skip
 refine wpAny_bind (wpAny_sequenceKey ht.typeIs (by decide) ?_);refine wpAny_bind (wpAny_callSpecial?_slot (name:=Str.ofString "__getitem__") ht.typeIs PyProof.Rows.slot_tuple_getitem
  (wpAny_call_entry PyProof.Rows.slot_tuple_getitem ht.typeIs entry_tuple_getitem ?_ (args_tuple_getitem _ _)))
 show wpAny _ _ (Builtin.Tuple.tupleItemsOf (.ref t)>>=_) _ _ s;refine wpAny_bind (tupleItemsOf_ ht ?_);refine wpAny_bind (wpAny_typeOf hTs ?_);rw[if_pos (by decide)];refine wpAny_bind (Xr hs pl pu ?_);have hno:¬ ((((sIx items.size 0 lo:Nat):Int)==0&&(1:Int)==1&&(sIx items.size items.size hi-sIx items.size 0 lo)==items.size)=true):=by
  intro q;rw[Bool.and_eq_true,Bool.and_eq_true]at q;have q1:((sIx items.size 0 lo:Nat):Int)=0:=eq_of_beq q.1.1;have q2:sIx items.size items.size hi-sIx items.size 0 lo=items.size:=eq_of_beq q.2;exact hw ⟨by omega,by omega⟩
 show wpAny _ _ (if(((sIx items.size 0 lo:Nat):Int)==0&&(1:Int)==1&&(sIx items.size items.size hi-sIx items.size 0 lo)==items.size)=true then _ else _) _ _ s;rw[if_neg hno,yr]
 first
  |exact wpAny_bind (m:=Builtin.Tuple.tupleExact _) (wpAny_newObj_type (wpAny_pure ⟨_,rfl,wpAny_pure h⟩) htake)
  |exact wpAny_bind (m:=Builtin.Tuple.tupleExact _) (wpAny_newObj_type (wpAny_bind (wpAny_pure (wpAny_pure ⟨_,rfl,wpAny_pure h⟩))) htake)
  |exact wpAny_bind (wpAny_bind (m:=Builtin.Tuple.tupleExact _) (wpAny_newObj_type (wpAny_pure (wpAny_pure ⟨_,rfl,wpAny_pure h⟩)) htake))
  |exact wpAny_bind (wpAny_bind (m:=Builtin.Tuple.tupleExact _) (wpAny_newObj_type (wpAny_pure ⟨_,rfl,wpAny_pure h⟩) htake))
end
end HT
namespace L2
open PySem PySem.Spec PyProof.Rows
noncomputable abbrev TO:=St->Hp->(Option Int->Hp->Prop)->Prop
noncomputable def PO(X:Cx)(e:Option Expr)(t:TO):Prop:=
 ∀(pins:List (Addr × Obj))(s:Shared)(σ:St)(H:Hp)(Q:Option Int->Hp->Prop),Inv X pins σ H s->t σ H Q->
  wpAny (model X.prog X.w) X.A (evalPart e X.env) (fun u s'=>∃o H',Inv X pins σ H' s'/\IsPart u o/\Q o H') X.xe s
noncomputable def js:TO:=fun _ H Q=>Q none H
noncomputable def Qbt(t:TE):TO:=fun σ H Q=>t σ H fun x H1=>∃i,x=.int i/\Q (some i) H1
section
variable {X:Cx}{e:Expr}{te:TE}{lo hi:Option Expr}{tl th:TO}{pos p2:Pos}
theorem JY:PO X none js:=by
 intro pins s σ H Q I h;rw[evalPart_none];exact wpAny_pure ⟨none,H,I,.none,h⟩
theorem QX(h:PE X e te):PO X (some e) (Qbt te):=by
 intro pins s σ H Q I hw;rw[evalPart_some];refine thn (h pins s σ H _ I hw) fun u s1⟨x,H1,I1,r1,q1⟩=>?_;obtain⟨i,rfl,q⟩:=q1;obtain⟨t,rfl⟩:=r1;exact⟨some i,H1,I1,.int i t,q⟩
noncomputable def SlR(X:Cx)(r:V->Option Int->Option Int->Hp->VK->Prop):Prop:=
 ∀(pins:List (Addr × Obj))(s:Shared)(σ:St)(H:Hp)(x:V)(v vl vu:Value)(lo hi:Option Int)(sl:Addr)(Q:VK),Inv X pins σ H s->RelV x v->s.heap.IsSliceOf sl vl vu .none->IsPart vl lo->IsPart vu hi->r x lo hi H Q->
  ∃T id,typeLookup (.type T) "__getitem__"=pure (some (.builtin id))/\s.TypeIs v T/\wpAny (model X.prog X.w) X.A (getItem v (.ref sl)) (EP X pins σ Q) X.xe s
noncomputable def tSl(r:V->Option Int->Option Int->Hp->VK->Prop)(te:TE)(tl th:TO):TE:=fun σ H Q=>te σ H fun x H1=>tl σ H1 fun l H2=>th σ H2 fun u H3=>r x l u H3 Q
theorem QZ{r:V->Option Int->Option Int->Hp->VK->Prop}(hr:SlR X r)(he:PE X e te)(hl:PO X lo tl)(hu:PO X hi th):PE X (.Subscript e (.Slice lo hi none p2) pos) (tSl r te tl th):=by
 intro pins s σ H Q I h;refine Subscript_ (thn (he pins s σ H _ I h) fun v s1⟨x,H1,I1,r1,q1⟩=>?_);refine wpAny_Slice (thn (hl pins s1 σ H1 _ I1 q1) fun vl s2⟨l,H2,I2,pl,q2⟩=>thn (hu pins s2 σ H2 _ I2 q2) fun vu s3⟨u,H3,I3,pu,q3⟩=>?_);rw[evalPart_none];refine wpAny_pure ?_;have I4:Inv X pins σ H3 {s3 with heap:=s3.heap.push {cls:=.type "slice",data:=.fields #[vl,vu,.none]}}:=I3.kept (t':=s3.toks) fun b ob q=>Heap.get?_push_of_some _ q;obtain⟨T,id,hT,ht,hg⟩:=hr pins {s3 with heap:=s3.heap.push {cls:=.type "slice",data:=.fields #[vl,vu,.none]}} σ H3 x v vl vu l u s3.heap.objs.size Q I4 r1 (Heap.IsSliceOf.new ..) pl pu q3;show wpAny (model X.prog X.w) X.A (subscriptTail e (.Slice lo hi none p2) v (.ref s3.heap.objs.size)) (EP X pins σ Q) X.xe {s3 with heap:=s3.heap.push {cls:=.type "slice",data:=.fields #[vl,vu,.none]}};exact tail_any (ops:=[.ref s3.heap.objs.size,v]) ht hT hg (by with_unfolding_all rfl)
noncomputable def U2(xs:List V)(lo hi:Option Int):List V:=(xs.drop (HT.sIx xs.length 0 lo)).take (HT.sIx xs.length xs.length hi-HT.sIx xs.length 0 lo)
theorem Vj(xs:List V)(lo hi:Option Int):(U2 xs lo hi).length<=xs.length:=by
 unfold U2;rw[uY,uZ];omega
noncomputable def QfR(K:PySem.W.Frag):V->Option Int->Option Int->Hp->VK->Prop:=fun x lo hi H Q=>∃a xs,x=.ref a/\SqT K H a xs/\
 ¬ (HT.sIx xs.length 0 lo=0/\HT.sIx xs.length xs.length hi=xs.length)/\∀p,H p=none->Q (.ref p) (upd H p (.tup (U2 xs lo hi)))
theorem QaX:SlR X (QfR X.K):=by
 intro pins s σ H x v vl vu lo hi sl Q I rx hs pl pu h;obtain⟨a,xs,rfl,hx,hw,q⟩:=h;cases rx;obtain⟨its,r,ht,hz⟩:=I.tuple hx;have hlen:its.toArray.size=xs.length:=by rw[tJ];exact r.length.symm
 refine⟨"tuple",_,PyProof.Rows.slot_tuple_getitem.lookup,ht.typeIs,?_⟩;refine HT.K7 ht hs pl pu (by rw[hlen];exact hw) ?_ (by rw[hlen];exact hz);rw[hlen];refine⟨.ref s.heap.objs.size,_,I.laid (t':=s.toks) (o:=.tup (U2 xs lo hi)) (fun b ob q=>Heap.get?_push_of_some _ q) (uQ _) ?_,rfl,q _ (I.hok.fresh (uQ _))⟩;exact⟨Nat.le_trans (Vj xs lo hi) hz,_,(r.drop (HT.sIx xs.length 0 lo)).take (HT.sIx xs.length xs.length hi-HT.sIx xs.length 0 lo),WB.new _ _⟩
noncomputable def QeB(K:PySem.W.Frag):R2:=fun x y H Q=>∃a b xs ys,x=.ref a/\y=.ref b/\SqT K H a xs/\SqT K H b ys/\xs≠[]/\xs.length+ys.length<=sizeLine/\
 (ys=[]->Q (.ref a) H)/\(ys≠[]->∀p,H p=none->Q (.ref p) (upd H p (.tup (xs++ys))))
theorem Vals.YM{xs:List V}{us:List Value}(r:Vals xs us):us=[]↔xs=[]:=by
 cases r with
 |nil=>simp
 |cons _ _=>simp
theorem Qbu:OpR X (binaryOp .Add) (QeB X.K):=by
 intro pins s σ H x y v u Q I rx ry h;obtain⟨a,b,xs,ys,rfl,rfl,ha,hb,hx,hz,q1,q2⟩:=h;cases rx;cases ry;obtain⟨its,r1,p1,_⟩:=I.tuple ha;obtain⟨its2,r2,p2,_⟩:=I.tuple hb;refine HT.Qbs p1 p2 (fun z=>hx (r1.YM.mp z)) (fun z=>⟨.ref a,H,I,rfl,q1 (r2.YM.mp z)⟩) (fun z=>?_) (by rw[←r1.length, ←r2.length];exact hz);refine⟨.ref s.heap.objs.size,_,I.laid (t':=s.toks) (o:=.tup (xs++ys)) (fun b ob q=>Heap.get?_push_of_some _ q) (uQ _) ?_,rfl,q2 (fun w=>z (r2.YM.mpr w)) _ (I.hok.fresh (uQ _))⟩;exact⟨by rw[uM];exact hz,_,r1.append r2,WB.new _ _⟩
end
noncomputable def ixN(n:Nat)(i:Int):Option Nat:=if 0<=i then(if i<n then some i.toNat else none)else if-(n:Int)<=i then some (i+n).toNat else none
noncomputable def atI{α:Type}(xs:List α)(i:Int):Option α:=(ixN xs.length i).bind fun j=>xs[j]?
theorem kJ{n:Nat}{i:Int}{j:Nat}(h:ixN n i=some j):seqIndex? i n=some j/\j<n/\ -(n:Int)<=i/\i<n:=by
 unfold ixN at h
 by_cases h0:0<=i
 ·rw[if_pos h0]at h
  by_cases h1:i<n
  ·rw[if_pos h1]at h;have e:i.toNat=j:=uR h;exact⟨by rw[seqIndex_of h0 h1,e],by omega,by omega,h1⟩
  ·rw[if_neg h1]at h;cases h
 ·rw[if_neg h0]at h
  by_cases h1: -(n:Int)<=i
  ·rw[if_pos h1]at h;have e:(i+n).toNat=j:=uR h;exact⟨by rw[seqIndex_neg (by omega) h1,e],by omega,h1,by omega⟩
  ·rw[if_neg h1]at h;cases h
theorem jt{α:Type}{xs:List α}{i:Int}{v:α}(h:atI xs i=some v):∃j,seqIndex? i xs.length=some j/\xs[j]? =some v/\j<xs.length/\ -(xs.length:Int)<=i/\i<xs.length:=by
 unfold atI at h;cases e:ixN xs.length i with
 |none=>rw[e]at h;cases h
 |some j=>
  rw[e]at h;obtain⟨h1,h2,h3,h4⟩:=kJ e;exact⟨j,h1,h,h2,h3,h4⟩
theorem JI{α:Type}{xs:List α}{j:Nat}{v:α}(h:xs[j]? =some v):atI xs (j:Int)=some v:=by
 have hj:j<xs.length:=(List.getElem?_eq_some_iff.mp h).1;have e:ixN xs.length (j:Int)=some j:=by
  unfold ixN;rw[if_pos (by omega),if_pos (by omega)];simp
 unfold atI;rw[e];exact h
theorem YN{α:Type}(xs:List α)(v:α):atI (xs++[v]) (-1)=some v:=by
 have hl:(xs++[v]).length=xs.length+1:=by simp
 have e:ixN (xs++[v]).length (-1)=some xs.length:=by
  unfold ixN;rw[hl,if_neg (by decide),if_pos (by omega)]
  congr 1
  omega
 unfold atI;rw[e];show(xs++[v])[xs.length]? =some v;simp
noncomputable def kK(b:Expr):Prop:=∀o i,subscripted b false o i=operate [o,i] (getItem o i)
noncomputable def IxR(X:Cx)(r:R2):Prop:=
 ∀(value slice:Expr)(pins:List (Addr × Obj))(s:Shared)(σ:St)(H:Hp)(x y:V)(v u:Value)(Q:VK),Inv X pins σ H s->RelV x v->RelV y u->r x y H Q->
  subscripted slice false v u=operate [v,u] (getItem v u)->wpAny (model X.prog X.w) X.A (subscriptTail value slice v u) (EP X pins σ Q) X.xe s
noncomputable def MtR(X:Cx)(id:String)(r:V->List V->Hp->VK->Prop):Prop:=
 ∀(pins:List (Addr × Obj))(s:Shared)(σ:St)(H:Hp)(x:V)(xs:List V)(v:Value)(us:List Value)(Q:VK),Inv X pins σ H s->RelV x v->Vals xs us->r x xs H Q->
  wpAny (model X.prog X.w) X.A (call (.builtin id) (v::us)) (EP X pins σ Q) X.xe s
section
variable {X:Cx}{a b:Expr}{ta tb:TE}{pos:Pos}
theorem Qw{r:R2}(hr:IxR X r)(ha:PE X a ta)(hb:PE X b tb)(hs:kK b):PE X (.Subscript a b pos) (tOp r ta tb):=by
 intro pins s σ H Q I h;exact Subscript_ (Qex ha hb I h fun v u s2 x y H2 I2 rx ry q=>hr a b pins s2 σ H2 x y v u Q I2 rx ry q (hs _ _))
noncomputable def Qek(K:PySem.W.Frag):R2:=fun x y H Q=>∃p xs i v,x=.ref p/\y=.int i/\SqL K H p xs/\atI xs i=some v/\Q v H
noncomputable def QeC(K:PySem.W.Frag):R2:=fun x y H Q=>∃p xs i v,x=.ref p/\y=.int i/\SqT K H p xs/\atI xs i=some v/\Q v H
noncomputable def QfS:R2:=fun x y H Q=>∃z i c,x=.str z/\y=.int i/\z.length<=sizeLine/\atI z.cps.toList i=some c/\Q (.str ⟨#[c]⟩) H
theorem Je:IxR X (Qek X.K):=by
 intro value slice pins s σ H x y v u Q I rx ry h hs;obtain⟨p,xs,i,z,rfl,rfl,hq,he,q⟩:=h;cases rx;obtain⟨t,rfl⟩:=ry;obtain⟨its,r,pl,hz⟩:=I.list hq;obtain⟨j,h1,h2,h3,h4,h5⟩:=jt he;obtain⟨w,ew,rw'⟩:=r.get h2;have hl:=r.length;have hn:=ZW;have fin:EP X pins σ Q w s:=⟨z,H,I,rw',q⟩
 by_cases h0:0<=i
 ·have hj:i.toNat=j:=by
   rw[seqIndex_of h0 h5]at h1;exact uR h1
  exact item_listR pl.isList h0 (by omega) (by rw[hj];simpa using ew) fin hs
 ·have hj:(i+(its.toArray.size:Int)).toNat=j:=by
   rw[seqIndex_neg (by omega) h4]at h1;rw[tJ, ←hl];exact uR h1
  exact subscriptTail_builtinR (x:=w) pl.isList.typeIs slot_list_getitem.lookup
   (wpAny_getItem_list_neg (Q:=fun r s'=>r=w/\EP X pins σ Q r s') pl.isList (by omega) (by rw[tJ]<;>omega) (by omega) (by rw[hj];simpa using ew) ⟨rfl,fin⟩) hs
theorem JV:IxR X (QeC X.K):=by
 intro value slice pins s σ H x y v u Q I rx ry h hs;obtain⟨p,xs,i,z,rfl,rfl,hq,he,q⟩:=h;cases rx;obtain⟨t,rfl⟩:=ry;obtain⟨its,r,pl,hz⟩:=I.tuple hq;obtain⟨j,h1,h2,h3,h4,h5⟩:=jt he;obtain⟨w,ew,rw'⟩:=r.get h2;have hl:=r.length;have hn:=ZW;have fin:EP X pins σ Q w s:=⟨z,H,I,rw',q⟩;exact subscriptTail_builtinR (x:=w) pl.typeIs slot_tuple_getitem.lookup
  (getItem_tuple (j:=j) (Q:=fun r s'=>r=w/\EP X pins σ Q r s') pl (by omega) (by omega) (by rw[tJ, ←hl];exact h1) (by simpa using ew) ⟨rfl,fin⟩) hs
theorem XA:IxR X QfS:=by
 intro value slice pins s σ H x y v u Q I rx ry h hs;obtain⟨z,i,c,rfl,rfl,hz,he,q⟩:=h;obtain⟨t,rfl⟩:=rx;obtain⟨t',rfl⟩:=ry;obtain⟨j,h1,h2,h3,h4,h5⟩:=jt he;have hl:z.cps.toList.length=z.length:=by simp[Str.length]
 rw[hl]at h1 h4 h5;have hn:=ZW;exact tail_any (typeIs_str s z t) slot_str_getitem.lookup (getItem_str (c:=c) (by
  have e1:decide (i< -(2^63:Int))=false:=uO (by omega);have e2:decide (i≥2^63)=false:=uO (by omega);rw[e1,e2,Bool.or_false]) (by rw[h1];simpa using h2) ⟨.str ⟨#[c]⟩,H,I.tok _,⟨_,rfl⟩,q⟩) hs
theorem xE(its:List Value)(n j:Nat)(u:Value):Obj.mapSeq (·.setIfInBounds j u) {cls:=.type "list",data:=.seq its.toArray n}={cls:=.type "list",data:=.seq (its.set j u).toArray n}:=by
 simp[Obj.mapSeq]
theorem Inv.lst{pins:List (Addr × Obj)}{σ:St}{H:Hp}{s:Shared}{p:Addr}{xs:List V}(I:Inv X pins σ H s)(h:H p=some (.lst xs)):
  ∃(its:List Value)(n:Nat),Vals xs its/\s.heap.get? p=some {cls:=.type "list",data:=.seq its.toArray n}/\xs.length<=sizeLine:=by
 obtain⟨z,its,n,r,e⟩:=I.hok p _ h;exact⟨its,n,r,e,z⟩
theorem Inv.Qdh{pins:List (Addr × Obj)}{σ:St}{H:Hp}{s:Shared}{p:Addr}{xs ys:List V}{its its':List Value}{n n':Nat}{f:Obj->Obj}(I:Inv X pins σ H s)(h:H p=some (.lst xs))
  (ho:s.heap.get? p=some {cls:=.type "list",data:=.seq its.toArray n}) (hf:f {cls:=.type "list",data:=.seq its.toArray n}={cls:=.type "list",data:=.seq its'.toArray n'}) (r:Vals ys its') (hz:ys.length<=sizeLine) (t:Nat):
  Inv X pins σ (upd H p (.lst ys)) {s with heap:=s.heap.update p f,toks:=t}:=by
 have e:(s.heap.update p f).get? p=some {cls:=.type "list",data:=.seq its'.toArray n'}:=by
  rw[Heap.get?_update_self f ho (by rw[hf]<;>rfl),hf]
 refine I.write (x:=p) (e:=p) (by rw[h];trivial) (.inl rfl) (fun b u hb q=>(Heap.get?_update_other _ _ (Ne.symm hb)).trans q) ⟨_,e⟩ ?_;exact⟨hz,its',n',r,e⟩
noncomputable def QeD:V->V->V->Hp->(Hp->Prop)->Prop:=fun o i v H Q=>∃p xs k j,o=.ref p/\i=.int k/\H p=some (.lst xs)/\ixN xs.length k=some j/\Q (upd H p (.lst (xs.set j v)))
theorem set_list:Qfk X QeD:=by
 intro pins s σ H o i v ov iv u Q I ro ri rv h;obtain⟨p,xs,k,j,rfl,rfl,hp,hj,q⟩:=h;cases ro;obtain⟨t,rfl⟩:=ri;obtain⟨its,n,r,ho,hz⟩:=I.lst hp;obtain⟨h1,h2,h3,h4⟩:=kJ hj;have hl:=r.length;have hn:=ZW;have I':Inv X pins σ (upd H p (.lst (xs.set j v))) {s with heap:=s.heap.update p (Obj.mapSeq (·.setIfInBounds j u))}:=
  I.Qdh hp ho (xE its n j u) (r.set rv j) (by rw[List.length_set];exact hz) s.toks
 by_cases h0:0<=k
 ·have hk:k.toNat=j:=by
   rw[seqIndex_of h0 h4]at h1;exact uR h1
  exact ki_setAt ho h0 (by omega) (by rw[tJ, ←hl];exact h4) (by rw[hk];exact⟨_,I',q⟩)
 ·have hk:(k+(its.toArray.size:Int)).toNat=j:=by
   rw[seqIndex_neg (by omega) h3]at h1;rw[tJ, ←hl];exact uR h1
  exact ki_setBack ho (by omega) (by rw[tJ, ←hl];exact h3) (by omega) (by rw[hk];exact⟨_,I',q⟩)
theorem qf(lo hi:Option Int)(n:Nat):(sliceBounds lo hi none n).1=((HT.sIx n 0 lo:Nat):Int)/\(sliceBounds lo hi none n).2.1=((HT.sIx n n hi:Nat):Int)/\(sliceBounds lo hi none n).2.2=1:=by
 refine⟨?_,?_,rfl⟩
 ·cases lo with
  |none=>simp[sliceBounds,HT.sIx]
  |some i=>
   simp only[sliceBounds,HT.sIx,Option.getD_none,show(1:Int)>0 by decide,if_true]
   by_cases h:i<0
   ·simp only[h,if_true]<;>omega
   ·simp only[h,if_false]<;>omega
 ·cases hi with
  |none=>simp[sliceBounds,HT.sIx]
  |some i=>
   simp only[sliceBounds,HT.sIx,Option.getD_none,show(1:Int)>0 by decide,if_true]
   by_cases h:i<0
   ·simp only[h,if_true]<;>omega
   ·simp only[h,if_false]<;>omega
theorem YO(its:List Value)(lo hi:Option Int):slicePick its.toArray lo hi none=((its.drop (HT.sIx its.length 0 lo)).take (HT.sIx its.length its.length hi-HT.sIx its.length 0 lo)).toArray:=by
 obtain⟨h1,h2,h3⟩:=qf lo hi its.toArray.size;unfold slicePick;rw[h1,h2,h3];simp only[sliceRange_one,pick_run,tJ]<;>rfl
noncomputable def QeE(K:PySem.W.Frag):V->Option Int->Option Int->Hp->VK->Prop:=fun x lo hi H Q=>∃a xs,x=.ref a/\SqL K H a xs/\∀p,H p=none->Q (.ref p) (upd H p (.lst (U2 xs lo hi)))
theorem ju:SlR X (QeE X.K):=by
 intro pins s σ H x v vl vu lo hi sl Q I rx hs pl pu h;obtain⟨a,xs,rfl,hx,q⟩:=h;cases rx;obtain⟨its,r,ht,hz⟩:=I.list hx;have hlen:=r.length;refine⟨"list",_,slot_list_getitem.lookup,ht.isList.typeIs,?_⟩;refine wpAny_getItem_list_slice ht.isList hs pl pu .none (by simp) ?_ (by rw[tJ]<;>omega);rw[YO, ←hlen];refine⟨.ref s.heap.objs.size,_,I.laid (t':=s.toks) (o:=.lst (U2 xs lo hi)) (fun b ob q=>Heap.get?_push_of_some _ q) (uQ _) ?_,rfl,q _ (I.hok.fresh (uQ _))⟩;exact⟨Nat.le_trans (Vj xs lo hi) hz,_,0,(r.drop (HT.sIx xs.length 0 lo)).take (HT.sIx xs.length xs.length hi-HT.sIx xs.length 0 lo),Heap.get?_push_size _ rfl⟩
noncomputable def YQ:V->Bool
 | .non=>true
 | .bl _=>true
 | .int _=>true
 | .str _=>true
 |_=>false
noncomputable def eqV:V->V->Bool
 | .non,.non=>true
 | .bl a,.bl b=>a==b
 | .bl a,.int b=>(if a then 1 else 0)==b
 | .int a,.bl b=>a==(if b then 1 else 0)
 | .int a,.int b=>a==b
 | .str a,.str b=>a==b
 |_,_=>false
theorem Qdi{A:Around}{s:Shared}{y x:V}{u v:Value}(ry:RelV y u)(rx:RelV x v)(fy:YQ y=true)(fx:YQ x=true):SeqAt.EqAt A s u v (eqV y x):=by
 cases y with
 |non=>
  cases ry;cases x with
  |non=>cases rx;exact SeqAt.EqAt.same _
  |bl b=>cases rx;exact SeqAt.EqAt.none_bool b
  |int b=>obtain⟨t,rfl⟩:=rx;exact SeqAt.EqAt.none_int b t
  |str b=>obtain⟨t,rfl⟩:=rx;exact SeqAt.EqAt.none_str b t
  |_=>exact absurd (show false=true from fx) Bool.false_ne_true
 |bl a=>
  cases ry;cases x with
  |non=>cases rx;exact SeqAt.EqAt.bool_none a
  |bl b=>cases rx;exact SeqAt.EqAt.bool_bool a b
  |int b=>obtain⟨t,rfl⟩:=rx;exact SeqAt.EqAt.bool_int a b t
  |str b=>obtain⟨t,rfl⟩:=rx;exact SeqAt.EqAt.bool_str a b t
  |_=>exact absurd (show false=true from fx) Bool.false_ne_true
 |int a=>
  obtain⟨t',rfl⟩:=ry;cases x with
  |non=>cases rx;exact SeqAt.EqAt.int_none a t'
  |bl b=>cases rx;exact SeqAt.EqAt.int_bool a t' b
  |int b=>obtain⟨t,rfl⟩:=rx;exact SeqAt.EqAt.int_int a t' b t
  |str b=>obtain⟨t,rfl⟩:=rx;exact SeqAt.EqAt.int_str a t' b t
  |_=>exact absurd (show false=true from fx) Bool.false_ne_true
 |str a=>
  obtain⟨t',rfl⟩:=ry;cases x with
  |non=>cases rx;exact SeqAt.EqAt.str_none a t'
  |bl b=>cases rx;exact SeqAt.EqAt.str_bool a t' b
  |int b=>obtain⟨t,rfl⟩:=rx;exact SeqAt.EqAt.str_int a t' b t
  |str b=>obtain⟨t,rfl⟩:=rx;exact SeqAt.EqAt.str_str a t' b t
  |_=>exact absurd (show false=true from fx) Bool.false_ne_true
 |_=>exact absurd (show false=true from fy) Bool.false_ne_true
noncomputable def eqU(x:V)(u:Value):Bool:=match u with
 | .none=>eqV .non x
 | .bool b=>eqV (.bl b) x
 | .int i _=>eqV (.int i) x
 | .str z _=>eqV (.str z) x
 |_=>false
theorem QaY{x y:V}{u:Value}(r:RelV y u)(f:YQ y=true):eqU x u=eqV y x:=by
 cases y with
 |non=>cases r;rfl
 |bl b=>cases r;rfl
 |int i=>obtain⟨t,rfl⟩:=r;rfl
 |str z=>obtain⟨t,rfl⟩:=r;rfl
 |_=>exact absurd (show false=true from f) Bool.false_ne_true
theorem Vk{x:V}:∀{xs:List V}{us:List Value},Vals xs us->xs.all YQ=true->us.any (eqU x)=xs.any fun y=>eqV y x
 |_,_,.nil,_=>rfl
 |y::xs,u::us,.cons r t,f=>by
  rw[List.all_cons,Bool.and_eq_true]at f;rw[List.any_cons,List.any_cons,QaY r f.1,Vk t f.2]
theorem Kz{A:Around}{s:Shared}{x:V}{v:Value}(rx:RelV x v)(fx:YQ x=true):∀{xs:List V}{us:List Value},Vals xs us->xs.all YQ=true->∀u∈us,SeqAt.EqAt A s u v (eqU x u)
 |_,_,.nil,_=>fun u hu=>by cases hu
 |y::xs,u::us,.cons r t,f=>fun u' hu=>by
  rw[List.all_cons,Bool.and_eq_true]at f;rcases List.mem_cons.mp hu with rfl|hu
  ·rw[QaY r f.1];exact Qdi r rx f.1 fx
  ·exact Kz rx fx t f.2 u' hu
noncomputable def inV(x:V)(xs:List V):Bool:=xs.any fun y=>eqV y x
noncomputable def rIn(K:PySem.W.Frag)(neg:Bool):R2:=fun x y H Q=>∃p xs,y=.ref p/\(SqL K H p xs\/SqT K H p xs)/\YQ x=true/\xs.all YQ=true/\Q (.bl (if neg then !inV x xs else inV x xs)) H
theorem kL:OpR X (compareOp .In) (rIn X.K false):=by
 intro pins s σ H x y v u Q I rx ry h;obtain⟨p,xs,rfl,hq,fx,fs,q⟩:=h;cases ry;rcases hq with hq|hq
 ·obtain⟨its,r,pl,hz⟩:=I.list hq;refine SeqAt.in_listAt (eqU x) pl.isList (fun w hw=>Kz rx fx r fs w (by simpa using hw)) ⟨.bl _,H,I,rfl,?_⟩;rw[show its.toArray.any (eqU x)=its.any (eqU x) by simp,Vk r fs];exact q
 ·obtain⟨its,r,pl,hz⟩:=I.tuple hq;refine SeqAt.in_tupleAt (eqU x) pl (fun w hw=>Kz rx fx r fs w (by simpa using hw)) ⟨.bl _,H,I,rfl,?_⟩;rw[show its.toArray.any (eqU x)=its.any (eqU x) by simp,Vk r fs];exact q
theorem XB:OpR X (compareOp .NotIn) (rIn X.K true):=by
 intro pins s σ H x y v u Q I rx ry h;obtain⟨p,xs,rfl,hq,fx,fs,q⟩:=h;cases ry;rcases hq with hq|hq
 ·obtain⟨its,r,pl,hz⟩:=I.list hq;refine SeqAt.notIn_listAt (eqU x) pl.isList (fun w hw=>Kz rx fx r fs w (by simpa using hw)) ⟨.bl _,H,I,rfl,?_⟩;rw[show its.toArray.any (eqU x)=its.any (eqU x) by simp,Vk r fs];exact q
 ·obtain⟨its,r,pl,hz⟩:=I.tuple hq;refine SeqAt.notIn_tupleAt (eqU x) pl (fun w hw=>Kz rx fx r fs w (by simpa using hw)) ⟨.bl _,H,I,rfl,?_⟩;rw[show its.toArray.any (eqU x)=its.any (eqU x) by simp,Vk r fs];exact q
theorem QF:K5 X (.builtin "len") (fun xs H Q=>∃p ys,xs=[.ref p]/\(SqL X.K H p ys\/SqT X.K H p ys)/\Q (.int ys.length) H):=by
 intro pins s σ H xs us Q I r h;obtain⟨p,ys,rfl,hq,q⟩:=h;obtain⟨u,rfl,rx⟩:=vals1 r;cases rx;have hn:=ZW;rcases hq with hq|hq
 ·obtain⟨its,r',pl,hz⟩:=I.list hq;have hlen:=r'.length;exact Calls.call_len_list pl.isList (by simp only[tJ]<;>omega) ⟨.int ys.length,H,I.tok _,⟨s.toks+1,by rw[tJ,hlen]⟩,q⟩
 ·obtain⟨its,r',pl,hz⟩:=I.tuple hq;have hlen:=r'.length;exact len_tuple pl (by simp only[tJ]<;>omega) ⟨.int ys.length,H,I.tok _,⟨s.toks+1,by rw[tJ,hlen]⟩,q⟩
theorem Q2:K5 X (.builtin "len") (fun xs H Q=>∃z,xs=[.str z]/\z.length<=sizeLine/\Q (.int z.length) H):=by
 intro pins s σ H xs us Q I r h;obtain⟨z,rfl,hz,q⟩:=h;obtain⟨u,rfl,t,rfl⟩:=vals1 r;have hn:=ZW;exact len_str (by omega) ⟨.int z.length,H,I.tok _,⟨_,rfl⟩,q⟩
theorem YR:K5 X (.type "tuple") (fun xs H Q=>∃p ys,xs=[.ref p]/\((SqL X.K H p ys/\∀l,H l=none->Q (.ref l) (upd H l (.tup ys)))\/(SqT X.K H p ys/\Q (.ref p) H))):=by
 intro pins s σ H xs us Q I r h;obtain⟨p,ys,rfl,h⟩:=h;obtain⟨u,rfl,rx⟩:=vals1 r;cases rx;rcases h with⟨hq,q⟩|⟨hq,q⟩
 ·obtain⟨its,r',pl,hz⟩:=I.list hq;have hlen:=r'.length;refine call_tuple_list pl.isList (fun h' kp=>?_) (by simp only[tJ]<;>omega);have I1:Inv X pins σ H {s with heap:=h'}:=I.kept (t':=s.toks) kp;have I2:Inv X pins σ (upd H h'.objs.size (.tup ys)) {s with heap:=h'.push {cls:=.type "tuple",data:=.seq its.toArray}}:=
   I1.laid (t':=s.toks) (fun b o e=>Heap.get?_push_of_some _ e) (uQ _) (show Jw X.prog X.w _ _ _ (.tup ys)from⟨hz,its,r',WB.new _ _⟩)
  exact⟨.ref h'.objs.size,_,I2,rfl,q _ (I1.hok.fresh (uQ _))⟩
 ·obtain⟨its,r',pl,hz⟩:=I.tuple hq;exact call_tuple_same pl ⟨.ref p,H,I,rfl,q⟩
noncomputable def tyV(K:PySem.W.Frag)(T:String)(x:V)(H:Hp):Prop:=match x with
 | .str _=>T="str"
 | .int _=>T="int"
 | .ref p=>(T="list"/\∃xs,SqL K H p xs)\/(T="tuple"/\∃o,K.lookup p=some o/\o.cls=.type "tuple"/\o.dict=none)\/
   (T="dict"/\((∃kvs,H p=some (.dK kvs))\/∃kvs,H p=some (.dT kvs)))\/(T="set"/\∃S n,H p=some (.set S n))\/(T="tuple"/\∃xs,H p=some (.tup xs))
 |_=>False
theorem QaZ{pins:List (Addr × Obj)}{σ:St}{H:Hp}{s:Shared}{T:String}{x:V}{v:Value}(I:Inv X pins σ H s)(r:RelV x v)(ty:tyV X.K T x H):
  s.TypeIs v T/\∀a,v=.ref a->∃ob,s.heap.get? a=some ob/\ob.dict=none:=by
 cases x with
 |str z=>
  obtain⟨t,rfl⟩:=r;cases(show T="str" from ty);exact⟨typeIs_str s z t,fun _ e=>nomatch e⟩
 |int i=>
  obtain⟨t,rfl⟩:=r;cases(show T="int" from ty);exact⟨typeIs_int s i t,fun _ e=>nomatch e⟩
 |ref p=>
  cases r;rcases ty with⟨rfl,xs,hq⟩|⟨rfl,o,hk,hc,hd⟩|⟨rfl,hk⟩|⟨rfl,S,n,hk⟩|⟨rfl,xs,hk⟩
  ·obtain⟨its,_,pl,_⟩:=I.list hq;refine⟨pl.isList.typeIs,fun a e=>?_⟩;cases e;obtain⟨o,n,e,c,hd,_⟩:=pl;exact⟨o,e,hd⟩
  ·refine⟨⟨o,I.kIn p o hk,hc⟩,fun a e=>?_⟩;cases e;exact⟨o,I.kIn _ o hk,hd⟩
  ·have z:∃o,s.heap.get? p=some o/\o.ExactDict:=by
    rcases hk with⟨kvs,hk⟩|⟨kvs,hk⟩
    ·obtain⟨_,_,_,_,o,_,_,e,ex,_⟩:=I.hok p _ hk;exact⟨o,e,ex⟩
    ·obtain⟨_,_,_,_,o,_,_,e,ex,_⟩:=I.hok p _ hk;exact⟨o,e,ex⟩
   obtain⟨o,e,ex⟩:=z;refine⟨⟨o,e,ex.1⟩,fun a e2=>?_⟩;cases e2;exact⟨o,e,ex.2.1⟩
  ·obtain⟨o,_,_,_,e,ex,_⟩:=I.hok p _ hk;refine⟨⟨o,e,ex.1⟩,fun a e2=>?_⟩;cases e2;exact⟨o,e,ex.2.1⟩
  ·obtain⟨_,its,_,o,h1,h2,n,h3,h4⟩:=(show Jw X.prog X.w H s.heap p (.tup xs)from I.hok p _ hk);exact⟨⟨o,h1,h2⟩,fun a e=>by cases e;exact⟨o,h1,h4⟩⟩
 |_=>exact False.elim ty
noncomputable def QfT(K:PySem.W.Frag)(T:String)(r:V->List V->Hp->VK->Prop)(to:TE):TE:=fun σ H Q=>to σ H fun x H1=>tyV K T x H1/\r x [] H1 Q
noncomputable def tBM(K:PySem.W.Frag)(T:String)(r:V->List V->Hp->VK->Prop)(to:TE)(t:TA):TE:=fun σ H Q=>to σ H fun x H1=>tyV K T x H1/\t σ H1 fun xs H2=>r x xs H2 Q
variable {o e:Expr}{es:List Expr}{to:TE}{t:TA}{name:Str}{apos cpos:Pos}{T id:String}{r:V->List V->Hp->VK->Prop}
theorem zu(pa:PlainAttrs T)(slot:Slot T name id)(hty:typeOf (.builtin id)=pure (.type "method_descriptor"))(hm:MtR X id r)(ho:PE X o to)
  (hbase:attributeBase o name X.env (eval o X.env)=eval o X.env:=by rfl) (hline:(apos.endLine==cpos.line)=true:=by rfl):PE X (.Call (.Attribute o name apos) [] [] cpos) (QfT X.K T r to):=by
 intro pins s σ H Q I h;refine wpAny_Call_method0_late hbase hline (thn (ho pins s σ H _ I h) fun v s1⟨x,H1,I1,r1,ty,q1⟩=>?_);obtain⟨h1,h2⟩:=QaZ I1 r1 ty;exact⟨T,id,pa,slot,hty,h1,h2,Calls.callWith_builtin rfl (PySem.evalArgs_none (hm pins s1 σ H1 x [] v [] Q I1 r1 .nil q1))⟩
theorem JO(pa:PlainAttrs T)(slot:Slot T name id)(hty:typeOf (.builtin id)=pure (.type "method_descriptor"))(hm:MtR X id r)(ho:PE X o to)(ha:PA X (e::es) t)
  (hbase:attributeBase o name X.env (eval o X.env)=eval o X.env:=by rfl)
  (hfew:((backTo cpos (starEach (e::es) X.env)).all (fun x=> !x.1)&&(backToKw cpos (keywordEach [] X.env)).all (fun x=>x.1.isSome)
   &&decide ((e::es).length+([]:List Keyword).length+(if([]:List Keyword).isEmpty then 0 else 1)<30))=true:=by rfl)
  (hline:(apos.endLine==cpos.line)=true:=by rfl) (hs:starEach (e::es) X.env=(false,eval e X.env)::starEach es X.env:=by rfl) (hplain:(backTo cpos (starEach es X.env)).any (·.1)=false:=by rfl):
  PE X (.Call (.Attribute o name apos) (e::es) [] cpos) (tBM X.K T r to t):=by
 intro pins s σ H Q I h;refine wpAny_Call_method_late hbase hfew hline rfl (thn (ho pins s σ H _ I h) fun v s1⟨x,H1,I1,r1,ty,q1⟩=>?_);obtain⟨h1,h2⟩:=QaZ I1 r1 ty;refine⟨T,id,pa,slot,hty,h1,h2,?_⟩;have hA:=ha cpos pins s1 σ H1 _ I1 q1;rw[hs]at hA ⊢;refine Calls.callWith_builtin (by show(false||(backTo cpos (starEach es X.env)).any (·.1))=false;rw[hplain]<;>rfl) (Calls.evalArgs_plain ?_);exact thn hA fun us s2⟨vs,H2,I2,r2,q2⟩=>hm pins s2 σ H2 x vs v us Q I2 r1 r2 q2
end
noncomputable def MtM(X:Cx)(id:String)(r:V->List V->Hp->VK->Prop):Prop:=
 ∀(pins:List (Addr × Obj))(s:Shared)(σ:St)(H:Hp)(x:V)(xs:List V)(v:Value)(us:List Value)(Q:VK),Inv X pins σ H s->RelV x v->Vals xs us->r x xs H Q->
  wpAny (model X.prog X.w) X.A (call (.builtin id) (v::us)) (EP X pins σ Q) X.xe s
theorem Vals.one:∀{x:V}{us:List Value},Vals [x] us->∃u,us=[u]/\RelV x u
 |_,_,.cons r .nil=>⟨_,rfl,r⟩
theorem Vals.zero:∀{us:List Value},Vals [] us->us=[]
 |_,.nil=>rfl
theorem Vals.dropLast{xs:List V}{us:List Value}(h:Vals xs us):Vals xs.dropLast us.dropLast:=by
 induction h with
 |nil=>exact .nil
 |cons r t ih=>
  cases t with
  |nil=>exact .nil
  |cons q t'=>exact .cons r ih
theorem Vals.rep{xs:List V}{us:List Value}(h:Vals xs us):∀k:Nat,Vals (List.replicate k xs).flatten (List.replicate k us).flatten
 |0=>.nil
 |k+1=>by
  rw[List.replicate_succ,List.replicate_succ,List.flatten_cons,List.flatten_cons];exact Vals.append h (Vals.rep h k)
theorem xF{α:Type}(l:List α):l.eraseIdx (l.length-1)=l.dropLast:=by
 induction l with
 |nil=>rfl
 |cons a r ih=>
  cases r with
  |nil=>rfl
  |cons b r=>
   have e:(a::b::r).length-1=((b::r).length-1)+1:=by
    have h1:(a::b::r).length=r.length+2:=rfl;have h2:(b::r).length=r.length+1:=rfl;omega
   rw[e,List.eraseIdx_cons_succ,ih]
   all_goals rfl
theorem foldl_rep(its:List Value):∀(k:Nat)(acc:List Value),
  List.foldl (fun x1 x2=>x1++x2) acc.toArray (List.replicate k its.toArray)=(acc++(List.replicate k its).flatten).toArray
 |0,acc=>by simp
 |k+1,acc=>by
  have e:acc.toArray++its.toArray=(acc++its).toArray:=by simp
  have e2:(acc++its)++(List.replicate k its).flatten=acc++(List.replicate (k+1) its).flatten:=by
   rw[List.replicate_succ,List.flatten_cons,tq]
  rw[←e2, ←foldl_rep its k (acc++its), ←e,List.replicate_succ,List.foldl_cons]
section
variable {X:Cx}{pins:List (Addr × Obj)}{σ:St}{H:Hp}{s:Shared}{l b:Addr}{xs ys zs:List V}
theorem Inv.QeF{its its':List Value}{n:Nat}{f:Array Value->Array Value}{t':Nat}(I:Inv X pins σ H s)(hH:H l=some (.lst xs))
  (e:s.heap.get? l=some {cls:=.type "list",data:=.seq its.toArray n}) (hf:f its.toArray=its'.toArray) (hv:Vals ys its') (hz:ys.length<=sizeLine):
  Inv X pins σ (upd H l (.lst ys)) {s with heap:=s.heap.update l (Obj.mapSeq f),toks:=t'}:=by
 have q:=PySem.IsL.update e f;rw[hf]at q;refine I.write (x:=l) (e:=l) (by rw[hH];exact trivial) (.inl rfl) (fun b' u hb hu=>(Heap.get?_update_other s.heap (Obj.mapSeq f) (Ne.symm hb)).trans hu) ⟨_,q⟩ ?_;exact⟨hz,its',_,hv,q⟩
theorem Inv.QfU{its:List Value}{t':Nat}(I:Inv X pins σ H s)(hv:Vals ys its)(hz:ys.length<=sizeLine):
  Inv X pins σ (upd H s.heap.objs.size (.lst ys)) {s with heap:=s.heap.push {cls:=.type "list",data:=.seq its.toArray},toks:=t'}:=
 I.laid (fun _ _ q=>Heap.get?_push_of_some _ q) (uQ _) ⟨hz,its,0,hv,Heap.get?_push_size _ rfl⟩
theorem Inv.fresh(I:Inv X pins σ H s):H s.heap.objs.size=none:=I.hok.fresh (uQ _)
theorem Inv.QcS(I:Inv X pins σ H s)(hH:H l=some (.lst xs)):xs.length<=sizeLine/\∃(its:List Value)(n:Nat),Vals xs its/\xs.length=its.length/\s.heap.get? l=some {cls:=.type "list",data:=.seq its.toArray n}:=by
 obtain⟨z,its,n,r,e⟩:=I.hok l _ hH;exact⟨z,its,n,r,r.length,e⟩
theorem zx{n:Nat}(h:n<=sizeLine):Builtin.List.listTooLong n=false:=by
 unfold Builtin.List.listTooLong;exact uO (by omega)
end
section
variable {X:Cx}
noncomputable def Qbv:V->List V->Hp->VK->Prop:=fun x vs H Q=>∃l xs y,x=.ref l/\vs=[y]/\H l=some (.lst xs)/\xs.length<sizeLine/\Q .non (upd H l (.lst (xs++[y])))
theorem JC:MtM X "list.append" Qbv:=by
 intro pins s σ H x vs v us Q I rx rv h;obtain⟨l,xs,y,rfl,rfl,hH,hz,q⟩:=h;cases rx;obtain⟨u,rfl,ru⟩:=rv.one;obtain⟨z,its,n,r,hl,e⟩:=I.QcS hH;refine call_meets F.slot_list_append ⟨_,e,rfl⟩ F.entry_list_append (F.args_list_append_2 _ _) (PySem.list_append l its.toArray n u (by rw[tJ];omega)) ⟨e,?_⟩;refine⟨.non,_,I.QeF (its':=its++[u]) hH e (by simp) (r.append (.cons ru .nil)) ?_,rfl,q⟩;rw[uM,uS];omega
noncomputable def Qbw:V->List V->Hp->VK->Prop:=fun x vs H Q=>∃l b xs zs,x=.ref l/\vs=[.ref b]/\H l=some (.lst xs)/\H b=some (.lst zs)/\xs.length+zs.length<=sizeLine/\Q .non (upd H l (.lst (xs++zs)))
theorem KA:MtM X "list.extend" Qbw:=by
 intro pins s σ H x vs v us Q I rx rv h;obtain⟨l,b,xs,zs,rfl,rfl,hH,hB,hz,q⟩:=h;cases rx;obtain⟨u,rfl,ru⟩:=rv.one;cases ru;obtain⟨z,its,n,r,hl,e⟩:=I.QcS hH;obtain⟨z2,its2,n2,r2,hl2,e2⟩:=I.QcS hB;have hsz:its.toArray.size+its2.toArray.size<=sizeLine:=by rw[tJ,tJ];omega
 have hlong:¬ (!its.toArray.isEmpty&&Builtin.List.listTooLong (its.toArray.size+its2.toArray.size))=true:=by
  rw[zx hsz,Bool.and_false];exact Bool.false_ne_true
 refine call_meets F.slot_list_extend ⟨_,e,rfl⟩ F.entry_list_extend (F.args_list_extend_2 _ _)
  (AutoSeq1.list_extend_list_list_0 l its.toArray n b its2.toArray n2 hlong (by rw[tJ];omega) (by omega)) ⟨e,e2,?_⟩
 refine⟨.non,_,I.QeF (its':=its++its2) hH e (by simp) (r.append r2) ?_,rfl,q⟩;rw[uM];omega
noncomputable def QfV:V->List V->Hp->VK->Prop:=fun x vs H Q=>∃l xs y,x=.ref l/\vs=[]/\H l=some (.lst xs)/\xs[xs.length-1]? =some y/\Q y (upd H l (.lst xs.dropLast))
theorem zy:MtM X "list.pop" QfV:=by
 intro pins s σ H x vs v us Q I rx rv h;obtain⟨l,xs,y,rfl,rfl,hH,hy,q⟩:=h;cases rx;have hus:=rv.zero;subst hus;obtain⟨z,its,n,r,hl,e⟩:=I.QcS hH;obtain⟨u,hu,ru⟩:=r.get hy;have hy':its.toArray[its.toArray.size-1]? =some u:=by
  show its.toArray[its.length-1]? =some u;rw[←Array.getElem?_toList, ←hl];exact hu
 refine call_meets F.slot_list_pop ⟨_,e,rfl⟩ F.entry_list_pop (F.args_list_pop_1 _) (MeetsSeq.list_pop_last l its.toArray n u hy' (by rw[tJ];omega)) ⟨e,?_⟩;refine⟨y,_,I.QeF (its':=its.dropLast) hH e ?_ r.dropLast ?_,ru,q⟩
 ·show its.toArray.eraseIdxIfInBounds (its.toArray.size-1)=its.dropLast.toArray;rw[tJ,List.eraseIdxIfInBounds_toArray,xF]
 ·rw[List.length_dropLast];omega
noncomputable def QfW:R2:=fun x y H Q=>∃l k xs,x=.ref l/\y=.int k/\H l=some (.lst xs)/\ -(2^63)<=k/\k<2^63/\xs.length*k.toNat<=sizeLine/\
 ∀p,H p=none->Q (.ref p) (upd H p (.lst (List.replicate k.toNat xs).flatten))
theorem len_rep{α:Type}(xs:List α)(k:Nat):(List.replicate k xs).flatten.length=k*xs.length:=by
 induction k with
 |zero=>simp
 |succ k ih=>rw[List.replicate_succ,List.flatten_cons,uM,ih,Nat.succ_mul,Nat.add_comm]
theorem Qdj:OpR X (binaryOp .Mult) QfW:=by
 intro pins s σ H x y v u Q I rx ry h;obtain⟨l,k,xs,rfl,rfl,hH,h1,h2,hz,q⟩:=h;cases rx;obtain⟨t,rfl⟩:=ry;obtain⟨z,its,n,r,hl,e⟩:=I.QcS hH;have hlen:its.toArray.size*k.toNat<=sizeLine:=by rw[tJ, ←hl];exact hz
 have hcap:¬ its.toArray.size*k.toNat>(2^63-1)/8:=by
  have:(sizeLine:Nat)<=(2^63-1)/8:=by decide
  omega
 have hfit:¬ (!Builtin.List.listFitsIndex k)=true:=by
  rw[fitsIndex_both h1 h2];exact Bool.false_ne_true
 have hlong:¬ Builtin.List.listTooLong (its.toArray.size*k.toNat)=true:=by
  rw[zx hlen];exact Bool.false_ne_true
 have hnew:List.foldl (fun x1 x2=>x1++x2) #[] (List.replicate (if its.toArray.isEmpty=true then 0 else k.toNat) its.toArray)=(List.replicate k.toNat its).flatten.toArray:=by
  have f0:∀m:Nat,List.foldl (fun x1 x2=>x1++x2) #[] (List.replicate m its.toArray)=(List.replicate m its).flatten.toArray:=fun m=>by
   have:=foldl_rep its m [];rw[tE]at this;exact this
  rw[f0];cases its with
  |nil=>simp
  |cons a r'=>rw[if_neg (by simp)]
 refine wpAny_binaryOp_repeat_ref (T:="list") (U:="int") (by decide) ⟨_,e,rfl⟩ (fun s'=>typeIs_int s' k t) noFill_list_mul F.fills_int_mul F.slot_int_rmul repeat_list F.slot_int_index.lookup
  (call_meets F.slot_int_rmul (typeIs_int s k t) F.entry_int_rmul (F.args_int_rmul_2 _ _) (int___rmul___int_list k t l its.toArray n)
   ⟨e,rfl,⟨_,e,rfl⟩,call_meets F.slot_list_mul ⟨_,e,rfl⟩ F.entry_list_mul (F.args_list_mul_2 _ _) (AutoListH.list___mul___list_int_3 l its.toArray n k t hfit hcap hlong) ⟨e,?_⟩⟩)
 rw[hnew];exact⟨.ref _,_,I.QfU (t':=s.toks) (r.rep k.toNat) (by rw[len_rep,Nat.mul_comm];exact hz),rfl,q _ I.fresh⟩
end
section
variable {κ:Type}[DecidableEq κ]
noncomputable def WR(kvs:List (κ × V))(k:κ):Option V:=(kvs.find? fun kv=>decide (kv.1=k)).map (·.2)
noncomputable def putK(kvs:List (κ × V))(k:κ)(v:V):List (κ × V):=
 if(kvs.any fun kv=>decide (kv.1=k))=true then kvs.map (fun kv=>if kv.1=k then(kv.1,v)else kv)else kvs++[(k,v)]
theorem KC{p:κ × V}{r:List (κ × V)}{k:κ}(e:p.1=k):WR (p::r) k=some p.2:=by simp[WR,List.find?_cons,e]
theorem WX{p:κ × V}{r:List (κ × V)}{k:κ}(e:¬ p.1=k):WR (p::r) k=WR r k:=by simp[WR,List.find?_cons,e]
theorem zA(k:κ):∀kvs:List (κ × V),(kvs.any fun kv=>decide (kv.1=k))=(WR kvs k).isSome
 |[]=>rfl
 |p::r=>by
  rw[List.any_cons]
  by_cases e:p.1=k
  ·simp only[KC e,uP e,Bool.true_or,Option.isSome_some]
  ·rw[WX e,uO e,Bool.false_or];exact zA k r
theorem Kg(kvs:List (κ × V))(k:κ)(v:V):(putK kvs k v).length<=kvs.length+1:=by
 unfold putK
 split
 ·rw[uN];omega
 ·rw[uM,uT,List.length_nil];omega
theorem YI.Vl{o:Option V}{u:Option Value}(r:YI o u):o.isSome=u.isSome:=by
 cases o with
 |none=>cases u with
  |none=>rfl
  |some _=>exact(show False from r).elim
 |some _=>cases u with
  |none=>exact(show False from r).elim
  |some _=>rfl
theorem YI.getD{o:Option V}{u:Option Value}{d:V}{d':Value}(r:YI o u)(rd:RelV d d'):RelV (o.getD d) (u.getD d'):=by
 cases o with
 |none=>cases u with
  |none=>exact rd
  |some _=>exact(show False from r).elim
 |some _=>cases u with
  |none=>exact(show False from r).elim
  |some _=>exact r
theorem KV.val{kvs:List (κ × V)}{vs:List (κ × Value)}(r:KV kvs vs)(k:κ):YI (WR kvs k) (valueAt vs k):=by
 unfold KV at r
 induction r with
 |nil=>exact True.intro
 |@cons p q ps qs h t ih=>
  obtain⟨h1,h2⟩:=h
  by_cases e:p.1=k
  ·have e':q.1=k:=h1.symm.trans e;have b:valueAt (q::qs) k=some q.2:=by simp[valueAt,List.find?_cons,e']
   rw[KC e,b];exact h2
  ·have e':¬ q.1=k:=fun z=>e (h1.trans z);have b:valueAt (q::qs) k=valueAt qs k:=by simp[valueAt,List.find?_cons,e']
   rw[WX e,b];exact ih
theorem KV.any{kvs:List (κ × V)}{vs:List (κ × Value)}(r:KV kvs vs)(k:κ):(kvs.any fun kv=>decide (kv.1=k))=vs.any fun kv=>decide (kv.1=k):=by
 unfold KV at r
 induction r with
 |nil=>rfl
 |cons h t ih=>rw[List.any_cons,List.any_cons,ih,h.1]
theorem KV.QeG{kvs:List (κ × V)}{vs:List (κ × Value)}(r:KV kvs vs)(k:κ){y:V}{u:Value}(ry:RelV y u):
  KV (kvs.map fun kv=>if kv.1=k then(kv.1,y)else kv) (vs.map fun kv=>if kv.1=k then(kv.1,u)else kv):=by
 unfold KV at r ⊢
 induction r with
 |nil=>exact .nil
 |@cons p q ps qs h t ih=>
  rw[tH,tH];refine .cons ?_ ih;obtain⟨h1,h2⟩:=h
  by_cases e:p.1=k
  ·rw[if_pos e,if_pos (h1.symm.trans e)];exact⟨h1,ry⟩
  ·rw[if_neg e,if_neg (fun z=>e (h1.trans z))];exact⟨h1,h2⟩
theorem KV.put{kvs:List (κ × V)}{vs:List (κ × Value)}(r:KV kvs vs)(k:κ){y:V}{u:Value}(ry:RelV y u):KV (putK kvs k y) (stored vs k u):=by
 unfold putK stored;rw[r.any k]
 by_cases e:(vs.any fun kv=>decide (kv.1=k))=true
 ·rw[if_pos e,if_pos e];exact r.QeG k ry
 ·rw[if_neg e,if_neg e];exact Paired.snoc r ⟨rfl,ry⟩
theorem KV.length{kvs:List (κ × V)}{vs:List (κ × Value)}(r:KV kvs vs):kvs.length=vs.length:=Paired.length r
end
theorem qg{P:Program}{w:World}{k:Key}{u:Value}(r:RelV (kV k) u):(Ja P w).is k u=true:=by
 cases k with
 |inl i=>obtain⟨t,e⟩:=(show ∃t,u=Value.int i t from r);subst e;exact jo P w i t
 |inr x=>obtain⟨t,e⟩:=(show ∃t,u=Value.str x t from r);subst e;exact JH P w x t
theorem qh{P:Program}{w:World}:∀{ks:List Key}{us:List Value},Vals (ks.map kV) us->ItemsAre (Ja P w) ks us
 |[],_,r=>by rw[List.map_nil]at r;cases r;exact .nil
 |k::ks,_,r=>by
  rw[tH]at r;cases r with
  |cons h t=>exact .cons (qg h) (qh t)
noncomputable abbrev KT(H:Hp):List (List Key × V)->List (List Key × Addr × Value)->Prop:=Paired fun p q=>p.1=q.1/\H q.2.1=some (.tup (p.1.map kV))/\RelV p.2 q.2.2
theorem KT.val{H:Hp}{kvs:List (List Key × V)}{xs:List (List Key × Addr × Value)}(r:KT H kvs xs)(k:List Key):YI (WR kvs k) ((atKey xs k).map (·.2)):=by
 induction r with
 |nil=>exact True.intro
 |@cons p q ps qs h t ih=>
  obtain⟨h1,_,h2⟩:=h
  by_cases e:p.1=k
  ·have e':q.1=k:=h1.symm.trans e;have b:atKey (q::qs) k=some q.2:=by simp[atKey,List.find?_cons,e']
   rw[KC e,b];exact h2
  ·have e':¬ q.1=k:=fun z=>e (h1.trans z);have b:atKey (q::qs) k=atKey qs k:=by simp[atKey,List.find?_cons,e']
   rw[WX e,b];exact ih
theorem KT.QeG{H:Hp}{kvs:List (List Key × V)}{xs:List (List Key × Addr × Value)}(r:KT H kvs xs)(k:List Key){y:V}{u:Value}(ry:RelV y u):
  KT H (kvs.map fun kv=>if kv.1=k then(kv.1,y)else kv) (xs.map (putAt k u)):=by
 induction r with
 |nil=>exact .nil
 |@cons p q ps qs h t ih=>
  rw[tH,tH];refine .cons ?_ ih;obtain⟨h1,h2,h3⟩:=h;unfold putAt
  by_cases e:p.1=k
  ·rw[if_pos e,if_pos (h1.symm.trans e)];exact⟨h1,h2,ry⟩
  ·rw[if_neg e,if_neg (fun z=>e (h1.trans z))];exact⟨h1,h2,h3⟩
theorem KT.put{H:Hp}{kvs:List (List Key × V)}{xs:List (List Key × Addr × Value)}(r:KT H kvs xs)(k:List Key){b:Addr}{y:V}{u:Value}(hb:H b=some (.tup (k.map kV)))(ry:RelV y u):
  KT H (putK kvs k y) (storedH xs k b u):=by
 have e:(kvs.any fun kv=>decide (kv.1=k))=(atKey xs k).isSome:=by
  rw[zA,(r.val k).Vl,Option.isSome_map]
 unfold putK storedH;rw[e]
 by_cases q:(atKey xs k).isSome=true
 ·rw[if_pos q,if_pos q];exact r.QeG k ry
 ·rw[if_neg q,if_neg q];exact Paired.snoc r ⟨rfl,hb,ry⟩
theorem KT.keeps{H H':Hp}{kvs:List (List Key × V)}{xs:List (List Key × Addr × Value)}(r:KT H kvs xs)(ht:∀b ys,H b=some (.tup ys)->H' b=some (.tup ys)):KT H' kvs xs:=
 Paired.Qer r fun _ _ z=>⟨z.1,ht _ _ z.2.1,z.2.2⟩
section
variable {P:Program}{w:World}{H:Hp}{h:Heap}{a:Addr}
theorem Qdk{u:HO}(ok:HOk P w H h)(e:Rd H a u):Jw P w H h a u:=e.ok ok
theorem kM{kvs:List (Key × V)}(ok:HOk P w H h)(e:Rd H a (.dK kvs)):kvs.length<=sizeLine/\(a==sysModules)=false/\∃vs,KV kvs vs/\h.DictOf (Ja P w) a vs:=
 show Jw P w H h a (.dK kvs)from Qdk ok e
theorem Qdl{kvs:List (Key × V)}(ok:HOk P w H h)(e:H a=some (.dK kvs)):kvs.length<=sizeLine/\(a==sysModules)=false/\∃vs,KV kvs vs/\h.DictOf (Ja P w) a vs:=kM ok (.inl e)
theorem zB{ks:List Key}(ok:HOk P w H h)(e:H a=some (.tup (ks.map kV))):(tupleKind (Ja P w)).is h ks a:=by
 obtain⟨_,its,r,o,h1,h2,n,h3,_⟩:=(show Jw P w H h a (.tup (ks.map kV))from ok a _ e);exact⟨o,its.toArray,n,h1,h2,h3,by simpa using qh r⟩
theorem kN{kvs:List (List Key × V)}(ok:HOk P w H h)(e:Rd H a (.dT kvs)):kvs.length<=sizeLine/\(a==sysModules)=false/\
  ∃xs,KT H kvs xs/\h.DictOfH (tupleKind (Ja P w)) a xs:=by
 obtain⟨z,y,xs,r,o,es,ep,h1,h2,h3,h4,h5⟩:=(show Jw P w H h a (.dT kvs)from Qdk ok e);refine⟨z,y,xs,r,o,es,ep,h1,h2,h3,h4,fun x hx=>?_,h5⟩;have all:∀{l:List (List Key × V)}{m:List (List Key × Addr × Value)},KT H l m->∀x∈m,(tupleKind (Ja P w)).is h x.1 x.2.1:=by
  intro l m q
  induction q with
  |nil=>intro x hx;exact nomatch hx
  |@cons p q ps qs hq t ih=>
   intro x hx;rcases List.mem_cons.mp hx with e|hx
   ·subst e;exact zB ok (by rw[←hq.1];exact hq.2.1)
   ·exact ih x hx
 exact all r x hx
theorem QeH{kvs:List (List Key × V)}(ok:HOk P w H h)(e:H a=some (.dT kvs)):kvs.length<=sizeLine/\(a==sysModules)=false/\
  ∃xs,KT H kvs xs/\h.DictOfH (tupleKind (Ja P w)) a xs:=kN ok (.inl e)
end
noncomputable def zC(H:Hp)(a:Addr)(y:V)(r:Option V):Prop:=
 (∃kvs k,Rd H a (.dK kvs)/\y=kV k/\r=WR kvs k)\/∃kvs k b,Rd H a (.dT kvs)/\y=.ref b/\H b=some (.tup (k.map kV))/\r=WR kvs k
noncomputable def Qa0(H:Hp)(a:Addr)(y v:V)(H':Hp):Prop:=
 (∃kvs k,H a=some (.dK kvs)/\y=kV k/\kvs.length<sizeLine/\H'=upd H a (.dK (putK kvs k v)))\/
 ∃kvs k b,H a=some (.dT kvs)/\y=.ref b/\H b=some (.tup (k.map kV))/\kvs.length<sizeLine/\H'=upd H a (.dT (putK kvs k v))
theorem zC.k{H:Hp}{a:Addr}{kvs:List (Key × V)}{k:Key}(e:H a=some (.dK kvs)):zC H a (kV k) (WR kvs k):=.inl ⟨kvs,k,.inl e,rfl,rfl⟩
theorem Qa0.k{H:Hp}{a:Addr}{kvs:List (Key × V)}{k:Key}{v:V}(e:H a=some (.dK kvs))(hl:kvs.length<sizeLine):Qa0 H a (kV k) v (upd H a (.dK (putK kvs k v))):=.inl ⟨kvs,k,e,rfl,hl,rfl⟩
section
variable {X:Cx}{pins:List (Addr × Obj)}{σ:St}{H:Hp}{s:Shared}{a:Addr}{y v:V}{u r:Value}{o:Option V}{A:Around}{E:Value->Shared->Prop}
theorem Inv.big(I:Inv X pins σ H s):sysModules<s.heap.objs.size:=by
 have h:mainGlobals<s.heap.objs.size:=(I.mod.glob.keeps I.bk).lt;exact Nat.lt_trans (by decide) h
theorem kO{Q:Value->Shared->Prop}(hu:A.units+1<cLine)(I:Inv X pins σ H s)(g:zC H a y (some v))(ry:RelV y u)(h:∀w' s',Inv X pins σ H s'->RelV v w'->Q w' s'):
  wpAny (model X.prog X.w) A (getItem (.ref a) u) Q E s:=by
 rcases g with⟨kvs,k,e,ey,l⟩|⟨kvs,k,b,e,ey,eb,l⟩
 ·subst ey;obtain⟨z,hd,vs,rel,dd⟩:=kM I.hok e;obtain⟨w',hw,rw'⟩:=YI.some_of (v:=v) (o:=valueAt vs k) (by rw[l];exact rel.val k);exact wpAny_getItem_of (qg ry) dd.mapOf hw (h w' _ (I.tok _) rw')
 ·subst ey;cases(show u=Value.ref b from ry);obtain⟨z,hd,xs,rel,dd⟩:=kN I.hok e;obtain⟨w',hw,rw'⟩:=YI.some_of (v:=v) (o:=(atKey xs k).map (·.2)) (by rw[l];exact rel.val k);obtain⟨p,hp,hp2⟩:=Option.map_eq_some_iff.mp hw;refine wpAny_getItem_heap (tupleKind_room_in1 hu) (zB I.hok eb) dd hp ?_;rw[hp2];exact h w' _ (I.tok _) rw'
theorem jv{h':Heap}{t':Nat}{ob:HO}(I:Inv X pins σ H s)(mu:Mut (H a))(hs:Heap.SameBut a s.heap h')(he:∃q,h'.get? a=some q) (new:Jw X.prog X.w (upd H a ob) h' a ob):
  Inv X pins σ (upd H a ob) {s with heap:=h',toks:=t'}:=
 I.write (x:=a) (e:=a) mu (.inl rfl) (fun b q hb z=>(hs.2 b hb).trans z) he new
theorem Qa1{P:Program}{w:World}{H':Hp}{h':Heap}{kvs:List (Key × V)}{vs:List (Key × Value)}(z:kvs.length<=sizeLine)(hd:(a==sysModules)=false)(rel:KV kvs vs)(dd:h'.DictOf (Ja P w) a vs):
  Jw P w H' h' a (.dK kvs):=⟨z,hd,vs,rel,dd⟩
theorem kP{H':Hp}{Q:Unit->Shared->Prop}(hu:A.units+1<cLine)(I:Inv X pins σ H s)(g:Qa0 H a y v H')(ry:RelV y u)(rv:RelV v r)(h:∀s',Inv X pins σ H' s'->Q () s'):
  wpAny (model X.prog X.w) A (setItem (.ref a) u r) Q E s:=by
 rcases g with⟨kvs,k,e,ey,l,eH⟩|⟨kvs,k,b,e,ey,eb,l,eH⟩
 ·subst ey eH;obtain⟨z,hd,vs,rel,dd⟩:=Qdl I.hok e;have hz:vs.length<=sizeLine:=by rw[←rel.length];exact z
  have hl:(putK kvs k v).length<=sizeLine:=by have:=Kg kvs k v;omega
  refine wpAny_setItem_pairs (hsz:=hz) (qg ry) dd fun h' dd' hs=>h _ ?_;have he:∃q,h'.get? a=some q:=let ⟨q,_,_,hq,_⟩:=dd';⟨q,hq⟩;exact jv I (by rw[e];exact True.intro) hs he (Qa1 hl hd (rel.put k rv) dd')
 ·subst ey eH;cases(show u=Value.ref b from ry);obtain⟨z,hd,xs,rel,dd⟩:=QeH I.hok e;have hz:xs.length<=sizeLine:=by rw[←Paired.length rel];exact z
  have hl:(putK kvs k v).length<=sizeLine:=by have:=Kg kvs k v;omega
  refine wpAny_setItem_heap (hsz:=hz) (tupleKind_room_in1 hu) (zB I.hok eb) dd fun h' dd' hs=>h _ ?_;obtain⟨q,es,ep,hq,h2,h3,h4,_,h5⟩:=dd';refine jv I (by rw[e];exact True.intro) hs ⟨q,hq⟩ ⟨hl,hd,_,(rel.put k eb rv).keeps fun c ys ec=>?_,q,es,ep,hq,h2,h3,h4,h5⟩;rw[Ql (Qbh ec e (fun z=>nomatch z))];exact ec
end
noncomputable def Qel(i:Expr):Prop:=∀ov iv,subscripted i false ov iv=operate [ov,iv] (getItem ov iv)
theorem kR{prog:Program}{w:World}{A:Around}{E:Value->Shared->Prop}{s:Shared}{env:Env}{value slice:Expr}{pos:Pos}{T id:String}{Q:Value->Shared->Prop}
  (hl:typeLookup (.type T) "__getitem__"=pure (some (.builtin id))) (hs:Qel slice)
  (h:wpAny (model prog w) A (eval value env) (fun o s₁=>wpAny (model prog w) A (eval slice env) (fun i s₂=>s₂.TypeIs o T/\wpAny (model prog w) A (getItem o i) Q E s₂) E s₁) E s):
  wpAny (model prog w) A (eval (.Subscript value slice pos) env) Q E s:=by
 refine Subscript_ (wpAny_mono h (fun o s₁ h₁=>wpAny_mono h₁ (fun i s₂ h₂=>?_) fun _ _ x=>x) fun _ _ x=>x);obtain⟨hT,h₂⟩:=h₂;unfold subscriptTail;refine wpAny_bind ?_;rw[getitemInPython_of_ne hT.not_modules];refine wpAny_bind (wpAny_specialOf hT hl ?_);have fin:wpAny (model prog w) A (subscripted slice false o i) (fun r s₃=>wpAny (model prog w) A (letTemporaryGo value o r>>=fun _=>pure r) Q E s₃) E s₂:=by
  rw[hs o i];exact wpAny_operating (wpAny_mono h₂ (fun r s₃ h₃=>wpAny_bind (wpAny_letTemporaryGo (wpAny_pure h₃))) fun _ _ x=>x)
 first
  |exact wpAny_pure (wpAny_bind fin)
  |exact wpAny_bind (wpAny_pure (wpAny_bind fin))
  |exact wpAny_bind fin
theorem jw{X:Cx}{pins:List (Addr × Obj)}{σ:St}{H:Hp}{s:Shared}{a:Addr}{y:V}{o:Option V}(I:Inv X pins σ H s)(g:zC H a y o):s.TypeIs (.ref a) "dict":=by
 rcases g with⟨kvs,k,e,_,_⟩|⟨kvs,k,b,e,_,_,_⟩
 ·obtain⟨_,_,vs,_,dd⟩:=kM I.hok e;exact dd.typeIs
 ·obtain⟨_,_,xs,_,dd⟩:=kN I.hok e;exact dd.typeIs
noncomputable def Qdm(td ty:TE):TE:=fun σ H Q=>td σ H fun x H1=>ty σ H1 fun y H2=>∃a v,x=.ref a/\zC H2 a y (some v)/\Q v H2
noncomputable def QeI(td ty tv:TE):TS:=fun D σ H=>tv σ H fun v H1=>td σ H1 fun x H2=>ty σ H2 fun y H3=>∃a H4,x=.ref a/\Qa0 H3 a y v H4/\D.nx σ H4
section
variable {X:Cx}{o i e value:Expr}{pos pos' tpos:Pos}{td ty tv:TE}
theorem K8(hu:X.A.units+1<cLine)(ho:PE X o td)(hi:PE X i ty)(hs:Qel i):PE X (.Subscript o i pos) (Qdm td ty):=by
 intro pins s σ H Q I h;refine kR PySem.F.slot_dict_getitem.lookup hs (thn (ho pins s σ H _ I h) fun u s1⟨x,H1,I1,rx,q1⟩=>thn (hi pins s1 σ H1 _ I1 q1) fun iv s2⟨y,H2,I2,ry,a,v,ex,g,q2⟩=>?_);subst ex;obtain rfl:u=Value.ref a:=rx;exact⟨jw I2 g,kO hu I2 g ry fun w' s3 I3 rw'=>⟨v,H2,I3,rw',q2⟩⟩
theorem kS(hu:X.A.units+1<cLine)(ho:PE X o td)(hi:PE X i ty)(hv:PE X value tv)(hs:swapsWith value (some (.Subscript o i pos')) pos.line X.env=pure false):
  PS X (.Assign [.Subscript o i pos'] value pos) (QeI td ty tv):=by
 intro pins s σ H D I h;refine wpAny_Assign_Subscript (thn (hv pins s σ H _ I h) fun r s1⟨v,H1,I1,rv,q1⟩=>thn (ho pins s1 σ H1 _ I1 q1) fun u s2⟨x,H2,I2,rx,q2⟩=>thn (hi pins s2 σ H2 _ I2 q2) fun iv s3⟨y,H3,I3,ry,a,H4,ex,g,q3⟩=>?_) hs;subst ex;obtain rfl:u=Value.ref a:=rx;exact kP hu I3 g ry rv fun s4 I4=>⟨σ,H4,I4,q3⟩
end
theorem zD{P:Program}{w:World}{H:Hp}(h:Heap)(hb:sysModules<h.objs.size):Jw P w H (h.push {cls:=.type "dict",data:=.dict #[]}) h.objs.size (.dK []):=
 ⟨tK _,beq_eq_false_iff_ne.mpr (Ne.symm (Nat.ne_of_lt hb)),[],.nil,Heap.DictOf.new h⟩
noncomputable def Qa2:TE:=fun _ H Q=>∀p,H p=none->Q (.ref p) (upd H p (.dK []))
section
variable {X:Cx}{pos:Pos}
theorem yt:PE X (.Dict [] [] pos) Qa2:=fun pins s σ H Q I h=>
 wpAny_Dict_empty ⟨.ref s.heap.objs.size,_,I.laid (a:=s.heap.objs.size) (o:=.dK []) (t':=s.toks) (fun _ _ q=>Heap.get?_push_of_some _ q) (uQ _) (zD s.heap I.big),rfl,h _ (I.hok.fresh (uQ _))⟩
end
noncomputable def kT:List (TE × TE)->St->Hp->(List (V × V)->Hp->Prop)->Prop
 |[],_,H,Q=>Q [] H
 |(tk,tv)::r,σ,H,Q=>tk σ H fun x H1=>tv σ H1 fun y H2=>kT r σ H2 fun ps H3=>Q ((x,y)::ps) H3
noncomputable abbrev VV:List (V × V)->List (Value × Value)->Prop:=Paired fun p q=>RelV p.1 q.1/\RelV p.2 q.2
noncomputable def PPs(X:Cx)(pos:Pos)(keys:List (Option Expr))(values:List Expr)(trs:List (TE × TE)):Prop:=
 ∀(pins:List (Addr × Obj))(s:Shared)(σ:St)(H:Hp)(Q:List (V × V)->Hp->Prop),Inv X pins σ H s->kT trs σ H Q->
  wpAny (model X.prog X.w) X.A (evalPairs (pairTrees keys values X.env pos)) (fun vs s'=>∃ps H',Inv X pins σ H' s'/\VV ps vs/\Q ps H') X.xe s
theorem kU{X:Cx}{pos:Pos}:PPs X pos [] [] []:=fun pins s σ H Q I h=>pairTrees_nil_walk ⟨[],H,I,.nil,h⟩
theorem YS{X:Cx}{pos:Pos}{k v:Expr}{ks:List (Option Expr)}{vs:List Expr}{tk tv:TE}{trs:List (TE × TE)}(hk:PE X k tk)(hv:PE X v tv)(hr:PPs X pos ks vs trs):
  PPs X pos (some k::ks) (v::vs) ((tk,tv)::trs):=fun pins s σ H Q I h=>
 pairTrees_cons_walk (thn (hk pins s σ H _ I h) fun u s1⟨x,H1,I1,rx,q1⟩=>thn (hv pins s1 σ H1 _ I1 q1) fun w2 s2⟨y,H2,I2,ry,q2⟩=>
  thn (hr pins s2 σ H2 _ I2 q2) fun ws s3⟨ps,H3,I3,rel,q3⟩=>⟨(x,y)::ps,H3,I3,.cons ⟨rx,ry⟩ rel,q3⟩)
noncomputable def KE(kvs more:List (Key × V)):List (Key × V):=more.foldl (fun acc kv=>putK acc kv.1 kv.2) kvs
theorem KV.merge:∀{more:List (Key × V)}{rs:List (Key × Value)}{kvs:List (Key × V)}{vs:List (Key × Value)},KV more rs->KV kvs vs->KV (KE kvs more) (merged vs rs):=by
 intro more rs kvs vs r;unfold KV at r
 induction r generalizing kvs vs with
 |nil=>intro q;exact q
 |@cons p q ps qs h t ih=>
  intro r0;have e:KV (putK kvs p.1 p.2) (stored vs q.1 q.2):=by
   have:=r0.put p.1 h.2;rw[←h.1];exact this
  exact ih e
theorem KF:∀(more kvs:List (Key × V)),(KE kvs more).length<=kvs.length+more.length
 |[],kvs=>by show kvs.length<=kvs.length+0;omega
 |p::r,kvs=>by
  have h1:=KF r (putK kvs p.1 p.2);have h2:=Kg kvs p.1 p.2;show(KE (putK kvs p.1 p.2) r).length<=_;rw[uT];omega
theorem Yt{P:Program}{w:World}:∀{kvs:List (Key × V)}{ws:List (Value × Value)},VV (kvs.map fun kv=>(kV kv.1,kv.2)) ws->∃rs,Carries (Ja P w) ws rs/\KV kvs rs
 |[],_,r=>by rw[List.map_nil]at r;cases r;exact⟨[],True.intro,.nil⟩
 |p::kvs,_,r=>by
  rw[tH]at r;cases r with
  |@cons a b as bs h t=>
   obtain⟨rs,c,q⟩:=Yt (P:=P) (w:=w) t;obtain⟨b1,b2⟩:=b;exact⟨(p.1,b2)::rs,⟨qg h.1,rfl,c⟩,.cons ⟨rfl,h.2⟩ q⟩
noncomputable def yu(trs:List (TE × TE)):TE:=fun σ H Q=>∀p,H p=none->kT trs σ (upd H p (.dK [])) fun ps H2=>H2 p=some (.dK [])/\∃kvs:List (Key × V),ps=kvs.map (fun kv=>(kV kv.1,kv.2))/\kvs.length<=15/\Q (.ref p) (upd H2 p (.dK (KE [] kvs)))
theorem kW{X:Cx}{pos:Pos}{keys:List (Option Expr)}{values:List Expr}{trs:List (TE × TE)}(h:PPs X pos keys values trs)(hall:keys.all (·.isSome)=true)(hl:keys.length=values.length)(h0:keys≠[])
  (h15:keys.length<=15):PE X (.Dict keys values pos) (yu trs):=by
 intro pins s σ H Q I q;have hn:=I.hok.fresh (uQ s.heap.objs.size);have I1:=I.laid (a:=s.heap.objs.size) (o:=.dK []) (h':=s.heap.push {cls:=.type "dict",data:=.dict #[]}) (t':=s.toks) (fun _ _ q=>Heap.get?_push_of_some _ q) (uQ _) (zD s.heap I.big);refine wpAny_Dict_walk (knd:=Ja X.prog X.w) hall hl h0 h15 (thn (h pins _ σ _ _ I1 (q _ hn)) fun ws s2⟨ps,H2,I2,rel,e,kvs,ep,lk,q2⟩=>?_);subst ep;obtain⟨rs,c,rk⟩:=Yt (P:=X.prog) (w:=X.w) rel;obtain⟨z,hd,vs0,r0,dd⟩:=Qdl I2.hok e;cases r0;refine⟨rs,c,dd,fun h' dd' hs=>⟨.ref s.heap.objs.size,_,?_,rfl,q2⟩⟩;have hz:(KE [] kvs).length<=sizeLine:=by
  have h1:=KF kvs [];rw[List.length_nil]at h1;rw[sizeLine_eq];omega
 have he:∃q,h'.get? s.heap.objs.size=some q:=let ⟨q,_,_,hq,_⟩:=dd';⟨q,hq⟩;exact jv I2 (by rw[e];exact True.intro) hs he (Qa1 hz hd (rk.merge .nil) dd')
structure M2(X:Cx)(o:Expr)(m:Str)(apos:Pos)(e f:Expr)(cpos:Pos):Prop where
 base:attributeBase o m X.env (eval o X.env)=eval o X.env
 few:((backTo cpos (starEach [e,f] X.env)).all (fun x=> !x.1)&&(backToKw cpos (keywordEach [] X.env)).all (fun x=>x.1.isSome)
  &&decide (([e,f]:List Expr).length+([]:List Keyword).length+(if([]:List Keyword).isEmpty then 0 else 1)<30))=true
 line:(apos.endLine==cpos.line)=true
 trees:backTo cpos (starEach [e,f] X.env)=[(false,eval e X.env),(false,eval f X.env)]
noncomputable def IsD(H:Hp)(a:Addr):Prop:=(∃kvs,Rd H a (.dK kvs))\/∃kvs,Rd H a (.dT kvs)
theorem Qdn{X:Cx}{pins:List (Addr × Obj)}{σ:St}{H:Hp}{s:Shared}{a:Addr}(I:Inv X pins σ H s)(d:IsD H a):
  s.TypeIs (.ref a) "dict"/\(∀b,Value.ref a=.ref b->∃ob,s.heap.get? b=some ob/\ob.dict=none)/\(a==sysModules)=false:=by
 rcases d with⟨kvs,e⟩|⟨kvs,e⟩
 ·obtain⟨_,hd,vs,_,dd⟩:=kM I.hok e;refine⟨dd.typeIs,fun b q=>?_,hd⟩;cases q;obtain⟨ob,_,_,h1,h2,_⟩:=dd;exact⟨ob,h1,h2.2.1⟩
 ·obtain⟨_,hd,xs,_,dd⟩:=kN I.hok e;refine⟨dd.typeIs,fun b q=>?_,hd⟩;cases q;obtain⟨ob,_,_,h1,h2,_⟩:=dd;exact⟨ob,h1,h2.2.1⟩
section
variable {X:Cx}{pins:List (Addr × Obj)}{σ:St}{H:Hp}{s:Shared}{a:Addr}{y d:V}{u r:Value}{o:Option V}{A:Around}{E:Value->Shared->Prop}
theorem Qdo{Q:Value->Shared->Prop}(hu:A.units+1<cLine)(I:Inv X pins σ H s)(g:zC H a y o)(ry:RelV y u)(rd:RelV d r)(h:∀w' s',Inv X pins σ H s'->RelV (o.getD d) w'->Q w' s'):
  wpAny (model X.prog X.w) A (call (.builtin "dict.get") [.ref a,u,r]) Q E s:=by
 rcases g with⟨kvs,k,e,ey,l⟩|⟨kvs,k,b,e,ey,eb,l⟩
 ·subst ey;obtain⟨z,hd,vs,rel,dd⟩:=kM I.hok e;refine call_meetsIn slot_dict_get dd.typeIs entry_dict_get (args_dict_get_3 _ _ _) (meets_dict_get_default (Ja X.prog X.w) a (qg ry) hd r) ⟨_,dd.mapOf,h _ _ (I.tok _) ?_⟩;rw[l];exact(rel.val k).getD rd
 ·subst ey;cases(show u=Value.ref b from ry);obtain⟨z,hd,xs,rel,dd⟩:=kN I.hok e;refine call_meetsIn slot_dict_get dd.typeIs entry_dict_get (args_dict_get_3 _ _ _) (meetsH_dict_get_default (tupleKind (Ja X.prog X.w)) a b hd r) ⟨tupleKind_room_in1 hu,k,xs,zB I.hok eb,dd,h _ _ (I.tok _) ?_⟩;rw[l];exact(rel.val k).getD rd
end
noncomputable def Qdp(td ty tx:TE):TE:=fun σ H Q=>td σ H fun x H1=>∃a,x=.ref a/\IsD H1 a/\ty σ H1 fun y H2=>tx σ H2 fun z H3=>∃o,zC H3 a y o/\Q (o.getD z) H3
section
variable {X:Cx}{o e f:Expr}{apos cpos:Pos}{td ty tx:TE}
theorem yw(hu:X.A.units+1<cLine)(ho:PE X o td)(he:PE X e ty)(hf:PE X f tx)(m:M2 X o "get" apos e f cpos):PE X (.Call (.Attribute o "get" apos) [e,f] [] cpos) (Qdp td ty tx):=by
 intro pins s σ H Q I h;refine wpAny_Call_method m.base m.few m.line plainAttrs_dict slot_dict_get type_dict_get (thn (ho pins s σ H _ I h) fun u s1⟨x,H1,I1,rx,a,ex,d,q1⟩=>?_);subst ex;obtain rfl:u=Value.ref a:=rx;obtain⟨t1,t2,_⟩:=Qdn I1 d;refine⟨t1,t2,?_⟩;rw[m.trees];refine Calls.callWith_builtin rfl (Calls.evalArgs_plain (Calls.spliced_cons (thn (he pins s1 σ H1 _ I1 q1) fun iv s2⟨y,H2,I2,ry,q2⟩=>
  Calls.spliced_cons (thn (hf pins s2 σ H2 _ I2 q2) fun fv s3⟨z,H3,I3,rz,ov,g,q3⟩=>Calls.spliced_nil ?_))))
 exact Qdo hu I3 g ry rz fun w' s4 I4 rw'=>⟨_,H3,I4,rw',q3⟩
end
end L2
namespace Att
open PySem PySem.W PySem.Calls PyProof.Rows
theorem Vm{P:Params}{h:Heap}:∀(ns:List Int)(vs:List Value),WellAll P h vs (ns.map WData.int)->IntsAre vs ns:=by
 intro ns
 induction ns with
 |nil=>
  intro vs w;rw[List.map_nil]at w;cases w;exact .nil
 |cons n ns ih=>
  intro vs w;rw[tH]at w;cases w with
  |cons a b=>
   cases a;exact .cons _ _ (ih _ b)
theorem kX{l:OpenLaw}{n:Nat}(hn:l.most=some n){P:Params}{h:Heap}{args:List WData}{vals:List Value}
  (hpre:l.row.toRowW.claim.pre args=true) (hwl:WellAll P h vals args):
  ∃a vs ns,vals=[Value.ref a]/\args=[WData.list (ns.map WData.int)]/\h.get? a=some {cls:=.type "list",data:=.seq vs.toArray}/\IntsAre vs ns/\ns.length<=n:=by
 have hsh:WShape.hasAll [] args [.list .int]=true:=(pre_splitW hpre).1;have hc:l.pre.holds [] {args:=args}=true:=(pre_splitW hpre).2;obtain⟨d,r,rfl,h1,h2⟩:=hasAllW_cons hsh;obtain rfl:=hasAllW_nil h2;obtain⟨xs,rfl,h3⟩:=hasW_list h1;obtain⟨ns,rfl⟩:=items_int h3;have hlen:ns.length<=n:=by
  unfold OpenLaw.pre at hc;have h4:(WTm.not (.lt (.lit (.int (n:Int))) (.len (.arg 0)))).holds [] {args:=[.list (ns.map .int)]}=true:=by
   have h4:=(holds_andW hc).1;rw[hn]at h4;exact h4
  have h5:=condW_of h4 (w_not (w_lt w_lit (w_len_list (w_arg rfl))));rw[uN]at h5;refine Nat.le_of_not_lt fun q=>?_;have q':(n:Int)<((ns.length:Nat):Int):=by omega
  first
   |(rw[uP q']at h5;exact absurd h5 (by decide))
   |(simp at h5;omega)
 cases hwl with
 |cons w1 w2=>
  cases w2;cases w1 with
  |list ho hall=>exact⟨_,_,ns,rfl,rfl,ho,Vm ns _ hall,hlen⟩
theorem kY(l:OpenLaw)(args:List WData):l.row.toRowW.claim.post args (.bool true) args=true:=
 postW_of (r:=l.row.toRowW) (X:=(true==true))
  (show WShape.has [] (.bool true) .bool=true by first|rfl|decide|simp[WShape.has,WShape.arms,WShape.armsAll])
  (show(WTm.eq .res (.lit (.bool true))).value [] {args:=args,res:=some (.bool true),after:=args}=some (.bool (true==true))from w_eq_bool (w_res rfl) w_lit) rfl
theorem jx{l:OpenLaw}{n:Nat}{q:Program}{loose:List Str}{XP:(Str->Option Value)->Heap->Prop}{YP:World->Heap->Prop}{d:DefRec}
  (hn:l.most=some n) (hdf:d.params.defaults=[])
  (call:∀(w:World)(s₀ s₁:Shared)(mg mb:Str->Option Value)(fa:Addr)(o:Obj)(pm cd doc:Value)(a:Addr)(vs:List Value)(ns:List Int),
   Ground q loose [] XP w s₀ mg mb s₁.heap->YP w s₁.heap->
   s₁.heap.get? fa=some o->o.data=.func (docDef d.name d.params d.body d.scope pm cd doc)->s₁.heap.CodeRec cd d.name->mg d.name=some (.ref fa)->
   s₁.heap.get? a=some {cls:=.type "list",data:=.seq vs.toArray}->IntsAre vs ns->ns.length<=n->s₁.gens= #[]->
   codeAny (model l.prog w) callerA (.call (.ref fa) ⟨[.ref a],[]⟩) (fun r s'=>r=.ok (.ret (.bool true))/\OldK s₁.heap s'.heap/\s'.os=s₁.os/\AllBare s'.gens) s₁):
  WalkO q loose XP YP l.row.toRowW d [] (fun f vs=>PySem.call f vs):=by
 intro w s₀ s₁ mg mb G Y fa o pm cd doc dV kV ho hd hcd hD hmg hg args vals as hpre hlay hrd hwl hlo;obtain rfl:dV=.none:=Dflts.none hD hdf;obtain rfl:kV=.none:=Dflts.noKw hD;obtain⟨a,vs,ns,rfl,rfl,hobj,hints,hlen⟩:=kX hn hpre hwl;refine enter_call (codeAny_mono (call w s₀ s₁ mg mb fa o pm cd doc a vs ns G Y ho (fd_plain hd) hcd hmg hobj hints hlen hg) fun r s' hq=>?_);obtain⟨rfl,h2,h3,h4⟩:=hq;exact⟨.inl ⟨.bool true,.bool true,[],rfl,fun _=>rfl,.bool true,kY l _,fun _=>⟨List.Pairwise.nil,fun _ hm=>(nomatch hm)⟩⟩,h2,h3,h4⟩
end Att
namespace L2
open PySem PySem.Spec PyProof.Rows
theorem qi:∀{vs:List Value}{ns:List Int},IntsAre vs ns->Vals (ns.map V.int) vs
 |_,_,.nil=>.nil
 |_,_,.cons n t h=>.cons ⟨t,rfl⟩ (qi h)
noncomputable def Qem(H:Hp):Prop:=∀b,H b=none\/∃o xs,H b=some (.frz o (.lst xs))
theorem yx{P:Program}{w:World}{K:PySem.W.Frag}{mg mb:Str->Option Value}{CX:CXT}{k:Nat}{fa a:Addr}{fd:FuncData}{x:Str}{sp:Sp}{s₁:Shared}{vs:List Value}{ns:List Int}
  (KX:K.In s₁.heap) (hns:s₁.heap.Ns mainGlobals mg) (hb:s₁.heap.Ns builtinsNs mb) (hbb:∀x:Str,x≠"__name__"->mb x=bootBuiltins x) (hlim:s₁.heap.NoLimit) (hg:s₁.gens= #[])
  (ha:s₁.heap.get? a=some {cls:=.type "list",data:=.seq vs.toArray}) (hi:IntsAre vs ns) (hl:ns.length<=sizeLine) (hr:Room k callerA)
  (F:∀base:Heap,K.In base->base.Ns mainGlobals mg->FnOk P w K mg base CX k fa fd [x] sp) (hbind:∀(s:Shared)(u:Value),BindsTo s fd ⟨[u],[]⟩ [(x,u)])
  (hsp:∀H:Hp,Qem H->SqL K H a (ns.map V.int)->sp [.ref a] H (fun v _=>v=.bl true) fun _ _ _=>False)
  (hCX:∀H e s',CX [] H s₁ (fun _ _ _=>False) e s'->False):
  codeAny (model P w) callerA (.call (.ref fa) ⟨[.ref a],[]⟩) (fun r s'=>r=.ok (.ret (.bool true))/\OldK s₁.heap s'.heap/\s'.os=s₁.os/\AllBare s'.gens) s₁:=by
 have rv:=qi hi;have lenV:=hi.length;have core:∀H:Hp,Qem H->SqL K H a (ns.map V.int)->HOk P w H s₁.heap->(∀b,H b≠none->b=a)->(H a≠none->K.lookup a=none)->
   codeAny (model P w) callerA (.call (.ref fa) ⟨[.ref a],[]⟩) (fun r s'=>r=.ok (.ret (.bool true))/\OldK s₁.heap s'.heap/\s'.os=s₁.os/\AllBare s'.gens) s₁:=by
  intro H hO hS hok hA hK;have base_of:∀{b:Addr}{o:Obj},s₁.heap.get? b=some o->H b=none->(ya s₁.heap H).get? b=some o:=fun e n=>yb e n;have noA:∀{b:Addr}{o:Obj}{es:Array DictEntry}{ep:Nat},s₁.heap.get? b=some o->o.data=.dict es ep->H b=none:=fun{b o es ep} e d=>by
   cases q:H b with
   |none=>rfl
   |some u=>
    have e':b=a:=hA b (by rw[q];simp);subst e';rw[ha]at e;cases e;have d':Data.seq vs.toArray _=Data.dict es ep:=d;cases d'
  have nsK:∀{b:Addr}{m:Str->Option Value},s₁.heap.Ns b m->(ya s₁.heap H).Ns b m:=fun{b m}⟨o,es,ep,e,d,r⟩=>⟨o,es,ep,base_of e (noA e d),d,r⟩;have hKb:K.In (ya s₁.heap H):=fun b o e=>base_of (KX b o e) (by
   cases q:H b with
   |none=>rfl
   |some u=>
    have e':b=a:=hA b (by rw[q];simp);subst e';rw[hK (by rw[q];simp)]at e;cases e)
  have hM:Mod K mg (ya s₁.heap H):=⟨hKb,nsK hns,⟨mb,nsK hb,hbb⟩,let ⟨mc,h1,h2⟩:=hlim;⟨mc,nsK h1,h2⟩⟩;have e0:Env0 P w K mg (ya s₁.heap H) callerA [] s₁ H:=⟨rfl,hM,fun b o e=>Qbi e,Nat.le_of_eq (ko _ _),trivial,fun b hb=>absurd (show b∈([]:List Addr)from hb) (by simp),hok,.of_eq hg⟩;refine codeAny_mono ((F _ hKb (nsK hns)).run callerA [] s₁ H ⟨[.ref a],[]⟩ [.ref a] [.ref a] _ _ hr e0 (hbind s₁ (.ref a)) (.cons rfl .nil) (hsp H hO hS)) fun r s' h=>?_;cases r with
  |error e=>exact(hCX H e s' h).elim
  |ok fl=>
   cases fl with
   |next=>exact False.elim h
   |brk=>exact False.elim h
   |cont=>exact False.elim h
   |ret u=>
    obtain⟨v,H',os,bare,un,hok',r',q⟩:=h;have q':v=.bl true:=q;subst q';obtain rfl:u=Value.bool true:=r';refine⟨rfl,OldK.of_keep fun b o e=>?_,os,bare⟩;cases q:H b with
    |none=>exact un.keep b o e q (by intro z;exact absurd (show b∈([]:List Addr)from z) (by simp)) (by simp)
    |some u=>
     rcases hO b with z|⟨ob,xs,z⟩
     ·rw[q]at z;cases z
     ·have z2:=un.frzs b ob _ z;obtain⟨e1,_⟩:=hok b _ z;obtain⟨e2,_⟩:=hok' b _ z2;rw[e]at e1;cases e1;exact e2
 cases hk:K.lookup a with
 |some o=>
  have e:=KX a o hk;rw[ha]at e;cases e;refine core (fun _=>none) (fun _=>.inl rfl) (.inr ⟨_,vs.toArray,_,hk,rfl,rfl,rfl,by rw[tJ,lenV];exact hl,by simpa using rv⟩) (fun b u z=>by have z':(none:Option HO)=some u:=z;cases z') (fun b z=>absurd rfl z) fun z=>absurd rfl z
 |none=>
  refine core (fun b=>if b=a then some (.frz {cls:=.type "list",data:=.seq vs.toArray} (.lst (ns.map V.int)))else none) (fun b=>?_) (.inl (.inr ⟨{cls:=.type "list",data:=.seq vs.toArray},if_pos rfl⟩)) (fun b u z=>?_) (fun b z=>?_) fun _=>hk
  ·by_cases hb:b=a
   ·exact .inr ⟨_,_,if_pos hb⟩
   ·exact .inl (if_neg hb)
  ·by_cases hb:b=a
   ·have z':=(if_pos hb).symm.trans z;cases z';subst hb;exact⟨ha,by rw[uN];exact hl,vs,_,rv,ha⟩
   ·have z':=(if_neg hb).symm.trans z;cases z'
  ·by_cases hb:b=a
   ·exact hb
   ·exact absurd (if_neg hb) z
theorem Qbx{l:PySem.W.OpenLaw}{n k:Nat}{q:Program}{loose:List Str}{XP:(Str->Option Value)->Heap->Prop}{YP:World->Heap->Prop}{d:DefRec}{K:Params->PySem.W.Frag}{CX:World->CXT}{sp:World->Sp}{x:Str}
  (hn:l.most=some n) (hn2:n<=sizeLine) (hdf:d.params.defaults=[]) (hr:Room k callerA)
  (hY:∀(w:World)(h:Heap),YP w h->(K w.params).In h)
  (F:∀(w:World)(mg:Str->Option Value)(fa:Addr)(h:Heap),(K w.params).In h->h.Ns mainGlobals mg->mg d.name=some (.ref fa)->
   ∃fd:FuncData,(∀(s:Shared)(u:Value),BindsTo s fd ⟨[u],[]⟩ [(x,u)])/\
    ∀base:Heap,(K w.params).In base->base.Ns mainGlobals mg->FnOk l.prog w (K w.params) mg base (CX w) k fa fd [x] (sp w))
  (hsp:∀(w:World)(H:Hp)(a:Addr)(ns:List Int),ns.length<=n->Qem H->SqL (K w.params) H a (ns.map V.int)->sp w [.ref a] H (fun v _=>v=.bl true) fun _ _ _=>False)
  (hCX:∀(w:World)(H:Hp)(s:Shared)(e:Value)(s':Shared),CX w [] H s (fun _ _ _=>False) e s'->False):
  PySem.W.WalkO q loose XP YP l.row.toRowW d [] (fun f vs=>PySem.call f vs):=by
 refine Att.jx hn hdf fun w s₀ s₁ mg mb fa o pm cd doc a vs ns G Y ho hd hcd hmg hobj hints hlen hg=>?_;have KX:=hY w _ Y;obtain⟨fd,hb,hF⟩:=F w mg fa _ KX G.T.g hmg;exact yx KX G.T.g G.T.b G.T.builtins G.T.nolimit hg hobj hints (Nat.le_trans hlen hn2) hr hF hb (fun H hO hS=>hsp w H a ns hlen hO hS) fun H e s'=>hCX w H s₁ e s'
noncomputable def inClass(s:Stmt)(j:Nat):Stmt:=match s with
 | .ClassDef _ _ _ body _ _ _ _ _ _ _=>body.getD j (.Pass ⟨0,0,0,0⟩)
 |_=>.Pass ⟨0,0,0,0⟩
noncomputable def Jp(s:Stmt):Arguments:=match s with
 | .FunctionDef _ a _ _ _ _ _ _ _ _=>a
 |_=>{posonlyargs:=[],args:=[],vararg:=none,kwonlyargs:=[],kw_defaults:=[],kwarg:=none,defaults:=[]}
noncomputable def Q6(s:Stmt):List Stmt:=match s with
 | .FunctionDef _ _ b _ _ _ _ _ _ _=>b
 |_=>[]
noncomputable def Qe(s:Stmt):Scope:=match s with
 | .FunctionDef _ _ _ _ _ _ sc _ _ _=>sc
 |_=>{kind:=.function,names:=[],isGenerator:=false,isCoroutine:=false}
noncomputable abbrev E0:XK:=fun _ _ _=>False
structure Fun(K:PySem.W.Frag)(x qual:Str)(st:Stmt)(f:Addr)(fd:FuncData):Prop where
 ex:∃(oc:Value)(od:Option Addr)(kV doc pm:Value)(an:Option Addr)(cdv ct:Value)(osl:Array (Option Value)),
  fd=fnOf x qual (Jp st) (Q6 st) (Qe st) .none kV doc pm an cdv ct/\K.lookup f=some ⟨oc,od,.func fd,osl⟩/\codeIn K cdv qual=true
 kp:keepIn K (.ref f)=true
section
variable {P:Program}{w:World}{K:PySem.W.Frag}{mg:Str->Option Value}{base:Heap}
theorem Fun.binds{x qual:Str}{st:Stmt}{f:Addr}{fd:FuncData}{ps:List Str}(F:Fun K x qual st f fd)
  (h:∀(kV doc pm:Value)(an:Option Addr)(cdv ct:Value)(us:List Value),us.length=ps.length->bindArgs (fnOf x qual (Jp st) (Q6 st) (Qe st) .none kV doc pm an cdv ct) ⟨us,[]⟩=pure (ps.zip us)):Binds K fd ps []:=by
 obtain⟨oc,od,kV,doc,pm,an,cdv,ct,osl,rfl,lk,hcd⟩:=F.ex;exact .all (h kV doc pm an cdv ct)
end
theorem Qdq{A:Around}{k:Nat}(hr:Room k A):A.units+1<cLine:=Nat.lt_of_le_of_lt (Nat.add_le_add_left (by decide:1<=64) _) hr.units
section
variable {X:Cx}
theorem pv(i:Nat){x:Str}{pos:Pos}(hN:X.N[i]? =some x:=by rfl)(hv:Vis X.env.scope x:=by first|exact Or.inl rfl|exact Or.inr (Or.inl rfl)|exact Or.inr (Or.inr rfl))(hd:(x==("__debug__":Str))=false:=by decide)
  (hcd:(x==("__classdict__":Str))=false:=by decide):PE X (.Name x pos) (Kt i):=Qc2 hN hv hd hcd
end
theorem QO{A B:Prop}(h:B):if false=true then A else B:=by
 rw[if_neg Bool.false_ne_true];exact h
theorem QY{A B:Prop}(h:A):if true=true then A else B:=by
 rw[if_pos rfl];exact h
noncomputable def Qo(H H':Hp):Prop:=∀b o,H b=some o->H' b=some o
theorem Qo.refl(H:Hp):Qo H H:=fun _ _ h=>h
theorem Qo.trans{H H1 H2:Hp}(a:Qo H H1)(b:Qo H1 H2):Qo H H2:=fun c o h=>b c o (a c o h)
theorem Jw.ex{P:Program}{w:World}{H:Hp}{h:Heap}{a:Addr}{o:HO}(x:Jw P w H h a o):∃ob,h.get? a=some ob:=by
 cases o with
 |lst xs=>obtain⟨_,_,_,_,e⟩:=x;exact⟨_,e⟩
 |tup xs=>obtain⟨_,_,_,ob,e,_⟩:=x;exact⟨_,e⟩
 |dK kvs=>obtain⟨_,_,_,_,o,_,_,e,_⟩:=x;exact⟨_,e⟩
 |dT kvs=>obtain⟨_,_,_,_,o,_,_,e,_⟩:=x;exact⟨_,e⟩
 |set S n=>obtain⟨o,_,_,_,e,_⟩:=x;exact⟨_,e⟩
 |ins C dx fs=>obtain⟨_,_,_,e,_⟩:=x;exact⟨_,e⟩
 |own y=>exact x
 |xd fs=>obtain⟨_,⟨_,_,_,e,_⟩,_⟩:=x;exact⟨_,e⟩
 |rng lo hi=>obtain⟨_,_,_,e⟩:=x;exact⟨_,e⟩
 |frz ob u=>obtain⟨e,_⟩:=x;exact⟨_,e⟩
 |tbl ps=>exact⟨_,(show h.get? a=some _ from x)⟩
 |met f y=>exact⟨_,(show h.get? a=some _ from x)⟩
 |ext φ=>obtain⟨_,e,_⟩:=x;exact e
noncomputable def QeJ(h:Heap)(e T:Addr)(cls:Value):Prop:=
 ∃oe vs oT ts a0,h.get? e=some oe/\oe.cls=cls/\oe.data=.fields vs/\vs[0]? =some a0/\vs[1]? =some (.ref T)/\T≠e/\h.get? T=some oT/\oT.data=.fields ts/\ts[3]? =some .none
noncomputable def CXE(P:Program)(w:World):CXT:=fun outer H s E e s'=>
 ∃a T cls H',e=.ref a/\QeJ s'.heap a T cls/\s.heap.get? a=none/\s.heap.get? T=none/\H' a=none/\H' T=none/\s'.os=s.os/\AllBare s'.gens/\
  Un (frs outer) [] H H' s.heap s'.heap/\HOk P w H' s'.heap/\E cls none H'
theorem Qp{P:Program}{w:World}{X:Cx}:Passes (CXE P w) X E0:=by
 rintro _ _ _ _ _ _ _ ⟨_,_,_,_,_,_,_,_,_,_,_,_,_,_,h⟩;exact h.elim
section
variable {X:Cx}{pins:List (Addr × Obj)}{σ:St}{H:Hp}{s:Shared}
theorem qj{E:XK}{a:Addr}{cls a0:Value}{ys:List Addr}{h'':Heap}(I:Inv X pins σ H s)(hex:X.ex=[])(hstk:X.stack=X.env::X.outer)
  (hys:∀y∈ys,H y=none/\X.s₀.heap.get? y=none) (ha:H a=none) (ha0:X.s₀.heap.get? a=none)
  (fl:Heap.FlyingW (hideAll s.heap (frs X.stack++ys)) X.outer a cls a0 h'') (up:∀b∈frs X.stack,∀o,s.heap.get? b=some o->(∀vs,o.data≠ .fields vs)->∃sl,h''.get? b=some {o with slots:=sl}) (hE:E cls none H):
  CXE X.prog X.w X.outer X.H₀ X.s₀ E (.ref a) {s with heap:=h''}:=by
 obtain⟨f1,f2,f3,oe,vs,T,oT,ts,t1,⟨t2,t3⟩,t4,t5,t6,t7,t8,t9,t10⟩:=fl;have nex:∀b:Addr,b∉X.ex:=fun b hb=>by rw[hex]at hb;cases hb
 have inB:∀b o,s.heap.get? b=some o->b∉frs X.stack->b∉ys->h''.get? b=some o:=fun b o e n1 n2=>
  f1 b o (hideAll_get _ e fun hm=>(List.mem_append.mp hm).elim n1 n2)
 have fr:∀b∈frs X.stack,∃o,s.heap.get? b=some o/\∀vs,o.data≠ .fields vs:=fun b hb=>(I.stack.mem hb).2;have old:∀b o,X.s₀.heap.get? b=some o->b∉ys:=fun b o e hb=>by rw[(hys b hb).2]at e;cases e
 have notF:∀b,b∈frs X.stack->b∈X.env.locals::X.fs:=I.Yp;have neL:∀b o,X.s₀.heap.get? b=some o->b≠X.env.locals:=fun b o e=>Nat.ne_of_lt (Nat.lt_of_lt_of_le (Heap.lt_size e) I.ok.above);have noT:∀o,s.heap.get? T=some o->T∉ys->False:=fun o e n2=>by
  by_cases hf:T∈frs X.stack
  ·obtain⟨o2,e2,d2⟩:=fr T hf;obtain⟨sl,e3⟩:=up T hf o2 e2 d2;rw[t8]at e3;cases e3;exact d2 _ t9
  ·have:=hideAll_get (frs X.stack++ys) e fun hm=>(List.mem_append.mp hm).elim hf n2;rw[t6]at this;cases this
 refine⟨a,T,cls,H,rfl,⟨oe,vs,oT,ts,a0,t1,t2,t4,t3,t5,t7,t8,t9,t10⟩,ha0,?_,ha,?_,I.os,I.bare,⟨fun b o e n hb hx=>?_,fun b o e n hb hx=>?_,fun b o e n hx=>I.base.free b o e n (nex b),fun b o e hx=>?_,I.base.WK,I.base.frzs,I.base.tbls⟩,fun b o e=>?_,hE⟩
 ·cases q:X.s₀.heap.get? T with
  |none=>rfl
  |some o=>
   obtain⟨o',e'⟩:=I.base.there T o q (nex T);exact(noT o' e' (old T o q)).elim
 ·cases q:H T with
  |none=>rfl
  |some u=>
   obtain⟨ob,e⟩:=(I.hok T u q).ex;exact(noT ob e fun hm=>by rw[(hys T hm).1]at q;cases q).elim
 ·refine inB b o (I.base.keep b o e n hb (nex b)) (fun hm=>?_) (old b o e);rcases List.mem_cons.mp (notF b hm)with z|z
  ·exact neL b o e z
  ·exact hb z
 ·obtain⟨sl,e1⟩:=I.base.slot b o e n hb (nex b);have hm:b∈frs X.stack:=by rw[hstk];unfold frs;rw[List.filterMap_cons];split<;>first|exact hb|exact uW _ hb
  obtain⟨o2,e2,d2⟩:=fr b hm;rw[e1]at e2;cases e2;obtain⟨sl',e3⟩:=up b hm _ e1 d2;exact⟨sl',e3⟩
 ·obtain⟨o',e1⟩:=I.base.there b o e (nex b)
  by_cases hm:b∈frs X.stack
  ·obtain⟨o2,e2,d2⟩:=fr b hm;obtain⟨sl',e3⟩:=up b hm _ e2 d2;exact⟨_,e3⟩
  ·exact⟨o',inB b o' e1 hm (old b o e)⟩
 ·refine(I.hok b o e).kn (fun c u hc q=>inB c u q (fun hm=>?_) fun hm=>?_) (fun _ q=>q) fun _ _ q=>q
  ·have z:=I.W9 c hm;rcases hc with rfl|hc
   ·rw[e]at z;cases z
   ·rw[hc]at z;cases z
  ·have z:=(hys c hm).1;rcases hc with rfl|hc
   ·rw[e]at z;cases z
   ·rw[hc]at z;cases z
theorem Vn(I:Inv X pins σ H s)(ys:List Addr):s.heap.FunFrames (hideAll s.heap (frs X.stack++ys)) X.stack:=
 funFrames_hide I.stack fun env he a hf=>uV _ (List.mem_filterMap.mpr ⟨env,he,hf⟩)
end
noncomputable def Qdr(X:Cx)(E:XK):Prop:=∀(pins:List (Addr × Obj))(σ:St)(H:Hp)(s:Shared)(h':Heap)(a:Addr)(cls:Value)(args:List Value),
 Inv X pins σ H s->Heap.MadeExcOf s.heap h' a cls args->E cls none H->X.xe (.ref a) {s with heap:=h'}
structure Fram(X:Cx)(E:XK):Prop where
 ex:X.ex=[]
 stk:X.stack=X.env::X.outer
 fr:X.env.frame=some X.env.locals
 xe:∀e s',wpAny (model X.prog X.w) X.A (leaving X.env e) (fun _ s''=>CXE X.prog X.w X.outer X.H₀ X.s₀ E e s'') (fun e' s''=>CXE X.prog X.w X.outer X.H₀ X.s₀ E e' s'') s'->X.xe e s'
theorem Jx{P:Program}{w:World}{K:PySem.W.Frag}{mg:Str->Option Value}{base:Heap}{N:List Str}{qual:Str}{scope:Scope}{f:Addr}{cd:Value}{A:Around}{outer:List Env}{s:Shared}{H:Hp}{E:XK}:
  Fram (qe (CXE P w) P w K mg base N qual scope f cd A outer s H E) E:=⟨rfl,rfl,rfl,fun _ _ h=>h⟩
section
variable {X:Cx}{E:XK}
theorem JD(F:Fram X E):Qdr X E:=by
 intro pins σ H1 s1 h' a cls args I hx hE;have nex:∀b:Addr,b∉X.ex:=fun b hb=>by rw[F.ex]at hb;cases hb
 refine F.xe _ _ ?_;have ff:s1.heap.FunFrames (hideAll s1.heap (frs X.stack++[])) (X.env::X.outer):=by
  have z:=Vn I [];rw[F.stk]at z ⊢;exact z
 refine wpAny_leaves_madeW (s:={s1 with heap:=h'}) (h:=s1.heap) (base:=hideAll s1.heap (frs X.stack++[])) (by rw[←F.stk];exact I.ok.frames) F.fr
  (fun b o q=>of_hideAll _ q) ff hx fun h'' t fl _ _ up=>?_
 refine qj (s:=s1) (ys:=[]) I F.ex F.stk (fun y hy=>nomatch hy) ?_ ?_ fl (fun b _ o e d=>?_) hE
 ·cases q:H1 a with
  |none=>rfl
  |some u=>
   obtain⟨ob,e⟩:=(I.hok a u q).ex;have:=hx.new;rw[e]at this;cases this
 ·cases q:X.s₀.heap.get? a with
  |none=>rfl
  |some o=>
   obtain⟨o',e'⟩:=I.base.there a o q (nex a);have:=hx.new;rw[e']at this;cases this
 ·exact up b o (hx.keeps b o e) d
theorem QL(F:Fram X E):Passes (CXE X.prog X.w) X E:=by
 intro pins σ H1 s1 e s' I h;obtain⟨a,T,cls,H',rfl,⟨oe,vs,oT,ts,a0,t1,t2,t3,t4,t5,t6,t7,t8,t9⟩,n1,n2,ha,hT,os,bare,un,hok,hE⟩:=h;have nex:∀b:Addr,b∉X.ex:=fun b hb=>by rw[F.ex]at hb;cases hb
 have I':Inv X pins σ H' s':=I.yc os un hok bare fun b hb=>nomatch hb;have old:∀b,s1.heap.get? b=none->X.s₀.heap.get? b=none:=fun b hb=>by
  cases q:X.s₀.heap.get? b with
  |none=>rfl
  |some o=>
   obtain⟨o',e'⟩:=I.base.there b o q (nex b);rw[hb]at e';cases e'
 refine F.xe _ _ ?_;have ff:s'.heap.FunFrames (hideAll s'.heap (frs X.stack++[a,T])) (X.env::X.outer):=by
  have z:=Vn I' [a,T];rw[F.stk]at z ⊢;exact z
 refine wpAny_leaves_onW (base:=hideAll s'.heap (frs X.stack++[a,T])) (cls:=cls) (a0:=a0) (by rw[←F.stk];exact I.ok.frames) F.fr
  ⟨fun b o q=>of_hideAll _ q,hideAll_none _ (uU _ (by simp)),ff,oe,vs,T,oT,ts,t1,⟨t2,t4⟩,t3,t5,hideAll_none _ (uU _ (by simp)),t6,t7,t8,t9⟩
  fun h'' fl up=>?_
 refine qj I' F.ex F.stk (fun y hy=>?_) ha (old a n1) fl (fun b _ o e d=>up b o e d) hE;rcases List.mem_cons.mp hy with rfl|hy
 ·exact⟨ha,old _ n1⟩
 ·obtain rfl:=List.mem_singleton.mp hy;exact⟨hT,old _ n2⟩
end
section
variable {X:Cx}
structure Err(K:PySem.W.Frag)(C:Addr):Prop where
 ex:excIn K C [.type "ValueError",.type "Exception",.type "BaseException",.type "object"] "ValueError.__new__"=true
noncomputable def Qds(C:Addr)(E:XK)(t:TA):TS:=fun _ σ H=>t σ H fun vs H1=>vs.length<=sizeLine/\E (.ref C) none H1
theorem J5{C:Addr}{x:Str}{np cpos pos:Pos}{e₀:Expr}{rest:List Expr}{t:TA}{E:XK}(T:Qdr X E)(hc:X.calm=true)(hg:Gl X x)(hm:X.mg x=some (.ref C))(hC:Err X.K C)(ha:PA X (e₀::rest) t)
  (he:starEach (e₀::rest) X.env=(false,eval e₀ X.env)::starEach rest X.env:=by rfl) (hpl:(backTo cpos (starEach rest X.env)).any (·.1)=false:=by rfl) (hdb:(x==("__debug__":Str))=false:=by decide):
  PS X (.Raise (some (.Call (.Name x np) (e₀::rest) [] cpos)) none pos) (Qds C E t):=by
 intro pins s σ H D I h;have q:=hC.ex;have O:∃bm N nm q bs hdct sn sub ab col dd k0 k1 k2 k3 k5 mN,X.base.get? C=some (excClassObj nm q C N bs bm hdct sn sub ab col dd k0 k1 k2 k3 k5 "ValueError.__new__")/\X.base.Ns N mN/\mN "__init__"=none/\
   OwnTail X.base [.type "ValueError",.type "Exception",.type "BaseException",.type "object"] bm:=by
  have KX:=I.mod.kin;unfold excIn at q
  split at q
  ·rename_i dd cd sl ho
   split at q
   ·rename_i C' bm k0 k1 k2 k3 n k5 hm hs;simp only[Bool.and_eq_true,beq_iff_eq,Bool.not_eq_true']at q;obtain⟨⟨⟨⟨⟨rfl,rfl⟩,hdel⟩,ht⟩,hok⟩,hni⟩:=q;obtain⟨nm,bs,mro,ns,qn,hd,sn,sub,ab,col,del⟩:=cd;dsimp only at hm hdel hok hni;subst hm hdel;have hsl:sl= #[k0,k1,k2,k3,some (.builtin "ValueError.__new__"),k5]:=by
     obtain⟨l⟩:=sl;simp only at hs;rw[hs]
    subst hsl;exact⟨bm,ns,nm,qn,bs,hd,sn,sub,ab,col,dd,k0,k1,k2,k3,k5,_,KX _ _ ho,.of_isNs (isNs_of_in KX hok),nsMap_none_of_in KX hok hni,tail_of_in KX ht⟩
   ·cases q
  ·cases q
 obtain⟨tl,Nn,nm,qq,bs,hdct,sn,sub,ab,col,dd,k0,k1,k2,k3,k5,mN,h1,h2,h3,h4⟩:=O;refine wpAny_Raise_call_subT (C:=C) (nm:=nm) (q:=qq) (N:=Nn) (bs:=bs) (bm:=tl) (hdct:=hdct) (sn:=sn) (sub:=sub) (ab:=ab) (col:=col) (dd:=dd) (k0:=k0) (k1:=k1) (k2:=k2) (k3:=k3) (k5:=k5)
  excBase_ValueError (mN:=mN) (h4.hasType excBase_ValueError.hasBase) (I.ok.hd hc) (by rw[he];show(false||(backTo cpos (starEach rest X.env)).any (·.1))=false;rw[hpl];rfl) h3 ?_
 refine Va I hg hm ⟨rfl,?_⟩ (hd:=hdb);have w1:=ha cpos pins s σ H _ I h;rw[he]at w1 ⊢;refine Calls.evalArgs_plain (wpAny_mono w1 (fun us s2 q2=>?_) fun _ _ y=>y);obtain⟨vs,H',I2,rv,hl,hE⟩:=q2;refine⟨rfl,?_,I2.bk _ _ h1,h2.keeps I2.bk,h4.keeps I2.bk,fun h' e hm=>T pins σ H' s2 h' e (.ref C) _ I2 hm hE⟩;show us.length<=sizeLine;rw[←rv.length];exact hl
end
section
variable {X:Cx}{pins:List (Addr × Obj)}{σ:St}{H H':Hp}{s:Shared}{h':Heap}
noncomputable def QeK(a:Addr)(cls:Value):HO:=.ext fun h=>∃o vs,h.get? a=some o/\o.cls=cls/\o.data=.fields vs
theorem Inv.Qby{a:Addr}{o:HO}(I:Inv X pins σ H s)(hn:H a=none)(h0:X.s₀.heap.get? a=none)(hL:a≠X.env.locals)(hc:∀x c,X.env.cells.lookup x=some c->c≠a) (hp:∀p∈X.pn++pins,p.1≠a)
  (new:Jw X.prog X.w (upd H a o) s.heap a o):Inv X pins σ (upd H a o) s:=by
 refine⟨I.ok,I.os,I.bare,⟨I.base.keep,I.base.slot,fun b u e n hx=>?_,I.base.there,fun b xs e=>?_,fun b u xs e=>?_,fun b ps e=>?_⟩,I.loc,I.cell,?_,fun x c e=>?_,fun p q=>?_,fun b u e=>?_,I.len⟩
 ·rw[Ql fun z=>by rw[z,h0]at e;cases e];exact I.base.free b u e n hx
 ·have q:=I.base.WK b xs e;rw[Ql (Qv q hn)];exact q
 ·have q:=I.base.frzs b u xs e;rw[Ql (Qv q hn)];exact q
 ·obtain⟨m,q⟩:=I.base.tbls b ps e;exact⟨m,by rw[Ql (Qv q hn)];exact q⟩
 ·rw[Ql hL.symm];exact I.free
 ·rw[Ql (hc x c e)];exact I.freeC x c e
 ·obtain⟨e,n,r⟩:=I.pin p q;exact⟨e,by rw[Ql (hp p q)];exact n,r⟩
 ·by_cases hb:b=a
  ·subst hb;rw[Qd]at e;cases e;exact new
  ·rw[Ql hb]at e;exact(I.hok b u e).kn (fun c v _ q=>q) (fun c q=>by rw[Ql (Qv q hn)];exact q) fun c xs q=>by rw[Ql (Qv q hn)];exact q
end
section
variable {X:Cx}
theorem zE{i:Int}(h:i.natAbs<2^2000):Builtin.Int.intBits i<=2^20:=Nat.le_trans (intBits_le h) (by decide)
noncomputable def QfX(i j:Int):Prop:=i.natAbs<2^2000/\j.natAbs<2^2000
theorem kZ:OpR X (binaryOp .Mult) (rI QfX fun i j=>.int (i*j)):=opI fun _ _ _ _ _ _ _ hc q=>mul_int q (IntMulOk.of_bits (zE hc.1) (zE hc.2))
noncomputable def QeL(i j:Int):Prop:=0<j/\j.natAbs<2^2000
theorem yz:OpR X (binaryOp .FloorDiv) (rI QeL fun i j=>.int (i/j)):=opI fun i j _ _ _ _ _ hc q=>by
 have hp:Builtin.divisionGoesByPylong i j=false:=PyProof.noPylong_of_log2 (by
  by_cases h0:j.natAbs=0
  ·rw[h0];decide
  ·have:=(Nat.log2_lt h0).mpr hc.2;omega)
 refine floordiv_int (Int.ne_of_gt hc.1) ?_ (.inl hp);rw[Int.fdiv_eq_ediv_of_nonneg _ (Int.le_of_lt hc.1)];exact q
noncomputable def U3(x:Str)(n:Nat):Str:=⟨(List.replicate n x.cps).foldl (· ++ ·) #[]⟩
theorem xG:OpR X (binaryOp .Mult) (fun x y H Q=>∃z n,x=.str z/\y=.int n/\0<=n/\z.length*n.toNat<=sizeLine/\n<2^40/\Q (.str (U3 z n.toNat)) H):=by
 intro pins s σ H x y v u Q I rx ry h;obtain⟨z,n,rfl,rfl,h0,hl,hn,q⟩:=h;obtain⟨t,rfl⟩:=rx;obtain⟨t',rfl⟩:=ry;have hlen:∀k:Nat,(U3 z k).cps.toList=(List.replicate k z.cps.toList).flatten:=fun k=>by
  unfold U3;have:∀(l:List (Array Nat))(acc:Array Nat),(l.foldl (· ++ ·) acc).toList=acc.toList++(l.map (·.toList)).flatten:=by
   intro l
   induction l with
   |nil=>intro acc;simp
   |cons a r ih=>intro acc;rw[List.foldl_cons,ih];simp
  rw[this];simp
 refine PySem.P.mul_str ?_ ?_ ?_ ?_
 ·rw[uO (by omega),uO (by omega)];rfl
 ·intro h1 h2 h3;have:(z.length:Int)*n<=2^63-1:=by
   have e:((z.length*n.toNat:Nat):Int)=(z.length:Int)*n:=by push_cast;rw[Int.toNat_of_nonneg h0]
   have:=ZW;omega
  have:=(Int.le_ediv_iff_mul_le (by omega:0<n)).mpr this;omega
 ·intro h1 h2;have:=hl;exact uO (Nat.not_lt.mpr hl)
 ·by_cases h1:n<1
  ·rw[if_pos h1];have e:U3 z n.toNat=Str.empty:=by rw[show n=0 by omega];rfl
   exact⟨by decide,.str (U3 z n.toNat),H,I.tok _,⟨_,by rw[e]⟩,q⟩
  ·rw[if_neg h1]
   by_cases h2:(n==1||z.length==0)=true
   ·rw[if_pos h2];have e:U3 z n.toNat=z:=by
     have:(U3 z n.toNat).cps.toList=z.cps.toList:=by
      rw[hlen];simp only[Bool.or_eq_true,beq_iff_eq]at h2;rcases h2 with h2|h2
      ·rw[h2];simp
      ·have:z.cps.toList=[]:=by
        have h3:z.cps.size=0:=h2;rw[Array.eq_empty_of_size_eq_zero h3]
       rw[this];simp
     have:(U3 z n.toNat).cps=z.cps:=by rw[←Array.toList_inj];exact this
     cases z;cases hh:U3 _ n.toNat;rw[hh]at this;simp only at this;rw[this]
    exact⟨.str (U3 z n.toNat),H,I,⟨t,by rw[e]⟩,q⟩
   ·rw[if_neg h2];refine⟨?_,.str (U3 z n.toNat),H,I.tok _,⟨_,rfl⟩,q⟩;show(U3 z n.toNat).cps.size<=sizeLine;rw[←tI,hlen,List.length_flatten,List.map_replicate,List.sum_replicate_nat];have e:z.cps.toList.length=z.length:=by rw[tI];rfl
    rw[e,Nat.mul_comm];exact hl
theorem KG:K5 X (.type "int") (fun xs H Q=>∃x n,xs=[.str x]/\PySem.intText? x=some n/\x.length<=640/\Q (.int n) H):=by
 intro pins s σ H xs us Q I r h;obtain⟨x,n,rfl,hn,hl,q⟩:=h;obtain⟨u,rfl,t,rfl⟩:=vals1 r;exact PySem.W.KIN.call_text hn hl ⟨.int n,H,I.tok _,⟨_,rfl⟩,q⟩
theorem qk{pins:List (Addr × Obj)}{σ:St}{H:Hp}{s:Shared}{A:Around}{xs ys:List V}{its its2:List Value}{e:Nat->Bool}{n:Nat}(r1:Vals xs its)(r2:Vals ys its2)
  (he:∀j x y u v,xs[j]? =some x->ys[j]? =some y->RelV x u->RelV y v->SeqAt.EqAt A s u v (e j)):∀j(h1:j<its.toArray.size)(h2:j<its2.toArray.size),SeqAt.EqAt A s its.toArray[j] its2.toArray[j] (e j):=by
 intro j h1 h2;have l1:=r1.length;have l2:=r2.length;rw[tJ]at h1 h2;have k1:xs[j]? =some xs[j]:=List.getElem?_eq_getElem (by omega);have k2:ys[j]? =some ys[j]:=List.getElem?_eq_getElem (by omega);obtain⟨u,e1,q1⟩:=r1.get k1;obtain⟨v,e2,q2⟩:=r2.get k2;have z1:its.toArray[j]=u:=by
  rw[List.getElem?_eq_getElem h1]at e1;simpa using uR e1
 have z2:its2.toArray[j]=v:=by
  rw[List.getElem?_eq_getElem h2]at e2;simpa using uR e2
 rw[z1,z2];exact he j _ _ u v k1 k2 q1 q2
end
structure ErrK(K:PySem.W.Frag)(C:Addr):Prop where
 ex:excIn K C [.type "ValueError",.type "Exception",.type "BaseException",.type "object"] "ValueError.__new__"=true
 ga:findIn K (.ref C) "__getattribute__"=some (some (.builtin "BaseException.__getattribute__"))
 gn:findIn K (.ref C) "__getattr__"=some none
 cl:findIn K (.ref C) "__class__"=some (some (.builtin "object.__class__"))
theorem ErrK.err{K:PySem.W.Frag}{C:Addr}(e:ErrK K C):Err K C:=⟨e.ex⟩
theorem YT{K:PySem.W.Frag}{C:Addr}{h:Heap}(KX:K.In h)(e:Err K C):∃bm N nm q bs hdct sn sub ab col dd k0 k1 k2 k3 k5,h.get? C=some (excClassObj nm q C N bs bm hdct sn sub ab col dd k0 k1 k2 k3 k5 "ValueError.__new__")/\
  OwnTail h [.type "ValueError",.type "Exception",.type "BaseException",.type "object"] bm:=by
 have q:=e.ex;unfold excIn at q
 split at q
 ·rename_i dd cd sl ho
  split at q
  ·rename_i C' bm k0 k1 k2 k3 n k5 hm hs;simp only[Bool.and_eq_true,beq_iff_eq,Bool.not_eq_true']at q;obtain⟨⟨⟨⟨⟨rfl,rfl⟩,hdel⟩,ht⟩,hok⟩,hni⟩:=q;obtain⟨nm,bs,mro,ns,qn,hd,sn,sub,ab,col,del⟩:=cd;dsimp only at hm hdel hok hni;subst hm hdel;have hsl:sl= #[k0,k1,k2,k3,some (.builtin "ValueError.__new__"),k5]:=by
    obtain⟨l⟩:=sl;simp only at hs;rw[hs]
   subst hsl;exact⟨bm,ns,nm,qn,bs,hd,sn,sub,ab,col,dd,k0,k1,k2,k3,k5,KX _ _ ho,tail_of_in KX ht⟩
  ·cases q
 ·cases q
section
variable {prog:Program}{w:World}{A:Around}{E:Value->Shared->Prop}{h:Heap}{g:Array GenState}{d:Drawn}{t:Nat}{os:OsState}{K:PySem.W.Frag}{a C:Addr}{o:Obj}
theorem YU{R:Result->Shared->Prop}(KX:K.In h)(e:ErrK K C)(hx:h.get? a=some o)(hc:o.cls=.ref C)(hq:R (.ok (.ret (.ref C))) ⟨h,g,d,t,os⟩):
  codeAny (model prog w) A (.call (.builtin "getset_descriptor.__get__") ⟨[.builtin "object.__class__",.ref a,.ref C],[]⟩) R ⟨h,g,d,t,os⟩:=by
 obtain⟨bm,N,nm,q,bs,hdct,sn,sub,ab,col,dd,k0,k1,k2,k3,k5,hC,T⟩:=YT KX e.err;have hT5:(⟨h,g,d,t,os⟩:Shared).TypeIs (.builtin "object.__class__") "getset_descriptor":=F.typeOf_object_class;have hcB:(Value.ref C::bm).contains (.type (".".intercalate ("object.__class__".cutAt '.').dropLast))=true:=by
  rw[F.owner_object_class,List.contains_cons,T.hasType (X:="object") (b:=true) (by decide)];rfl
 refine codeAny_call_builtin F.slot_gs_get.plain F.entry_gs_get (F.slot_gs_get.check _ _ _ _ _ _ _ _ hT5 (F.args_gs_get _ _ _) ?_)
 repeat (any_goals (first|assumption|(with_reducible refine wpAny_loadPart_at hx ?_;rw[hc])|(with_reducible refine wpAny_isSubtype_exc hC ?_;rw[hcB])|wp_step))
 refine⟨Code.quiet_builtin _ (by decide+kernel),codeAny_builtin F.entry_object_class ?_⟩
 repeat (any_goals (first|assumption|(with_reducible refine wpAny_loadPart_at hx ?_;rw[hc])|wp_step))
theorem Vo{tk:Tok}{Q:Fin->Shared->Prop}(KX:K.In h)(e:ErrK K C)(hx:h.get? a=some o)(hc:o.cls=.ref C)(hq:Q (.done (.ret (.ref C))) ⟨h,g,d,t,os⟩):
  wpAny (model prog w) A (Builtin.«object.__getattribute__» ⟨[.ref a,.str "__class__" tk],[]⟩) Q E ⟨h,g,d,t,os⟩:=by
 have L:=looks_findIn (M:=model prog w) KX e.cl;have hT5:(⟨h,g,d,t,os⟩:Shared).TypeIs (.builtin "object.__class__") "getset_descriptor":=F.typeOf_object_class;have f5:=F.typeOf_object_class;have f6:=F.slot_gs_get.lookup;have f7:=F.slot_gs_set.lookup
 repeat (any_goals (first|assumption|(with_reducible refine wpAny_loadPart_at hx ?_;rw[hc])|with_reducible refine PySem.W.Looks.at L ?_|wp_step))
 refine YU KX e hx hc ?_
 repeat (any_goals (first|assumption|wp_step))
theorem Vp{M:Model}{nameV:Value}{Q:Unit->Shared->Prop}(KX:K.In h)(e:ErrK K C)(hx:h.get? a=some o)(hc:o.cls=.ref C)(hq:Q () ⟨h,g,d,t,os⟩):
  wpAny M A (checkBuiltinCall "BaseException.__getattribute__" ⟨[.ref a,nameV],[]⟩) Q E ⟨h,g,d,t,os⟩:=by
 obtain⟨bm,N,nm,q,bs,hdct,sn,sub,ab,col,dd,k0,k1,k2,k3,k5,hC,T⟩:=YT KX e.err;have hk:builtinKind "BaseException.__getattribute__"=some .slot:=by decide+kernel
 have hsplit:splitId "BaseException.__getattribute__"=some ("BaseException","__getattribute__"):=by decide+kernel
 have hcB:(Value.ref C::bm).contains (.type "BaseException")=true:=by rw[List.contains_cons,T.hasType (X:="BaseException") (b:=true) (by decide)];rfl
 have ha:=F.args_bexc_ga (.ref a) nameV;simp only[checkBuiltinCall,hk,hsplit];refine wpAny_bind ?_
 ·unfold isInstance
  repeat (first|(with_reducible refine wpAny_loadPart_at hx ?_;rw[hc])|(with_reducible refine wpAny_isSubtype_exc hC ?_;rw[hcB])|wp_step)
  exact hq
theorem V9{tk:Tok}{R:Result->Shared->Prop}(KX:K.In h)(e:ErrK K C)(hx:h.get? a=some o)(hc:o.cls=.ref C)(hq:R (.ok (.ret (.ref C))) ⟨h,g,d,t,os⟩):
  codeAny (model prog w) A (.call (.builtin "BaseException.__getattribute__") ⟨[.ref a,.str "__class__" tk],[]⟩) R ⟨h,g,d,t,os⟩:=
 codeAny_call_builtin F.excAttr_ValueError.ga.plain F.entry_bexc_ga (Vp KX e hx hc (Vo KX e hx hc hq))
theorem ql{tk:Tok}{Q:Value->Shared->Prop}(KX:K.In h)(e:ErrK K C)(hx:h.get? a=some o)(hc:o.cls=.ref C)(hq:Q (.ref C) ⟨h,g,d,t,os⟩):
  wpAny (model prog w) A (getAttrBy (.ref a) (.str "__class__" tk) false) Q E ⟨h,g,d,t,os⟩:=by
 have L1:=looks_findIn (M:=model prog w) KX e.ga;have L2:=looks_findIn (M:=model prog w) KX e.gn;have f3:=F.excAttr_ValueError.ga.bind (.ref a);have hx2:(Value.builtin "BaseException.__getattribute__"==Value.builtin "object.__getattribute__")=false:=by decide+kernel
 have hx1:(onTheHeap (Value.ref C)&&Value.builtin "BaseException.__getattribute__"==Value.builtin "object.__getattribute__")=false:=by rw[hx2];rfl
 repeat (any_goals (first|assumption|(with_reducible refine wpAny_loadPart_at hx ?_;rw[hc])|with_reducible refine PySem.W.Looks.at L1 ?_|with_reducible refine PySem.W.Looks.at L2 ?_|wp_step))
 refine V9 KX e hx hc ?_
 repeat (any_goals (first|assumption|wp_step))
theorem Ya{Q:Option Value->Shared->Prop}(KX:K.In h)(e:ErrK K C)(hx:h.get? a=some o)(hc:o.cls=.ref C)(hq:Q (some (.ref C)) ⟨h,g,d,t+1,os⟩):
  wpAny (model prog w) A (getAttr? (.ref a) "__class__") Q E ⟨h,g,d,t,os⟩:=by
 unfold getAttr? getAttrBy?
 repeat (any_goals (first|assumption|with_reducible apply ql KX e hx hc|wp_step))
end
theorem yA{K:PySem.W.Frag}{a C:Addr}(e:ErrK K C):KitX K (.ref a) (.ref C) (fun h=>∃o,h.get? a=some o/\o.cls=.ref C) where
 ty:=fun M h X⟨o,e1,e2⟩=>by
  rw[←e2];exact(PySem.W.Looks.ld e1).andThen .now
 it:=fun M h X _=>by
  obtain⟨bm,N,nm,q,bs,hdct,sn,sub,ab,col,dd,k0,k1,k2,k3,k5,hC,T⟩:=YT X e.err;intro A' Q' E' s' k q;unfold isType loadHead;exact wpAny_bind (wpAny_loadPart (k _ _ hC) (wpAny_pure q))
 ne:=fun h tp dd its n sl X htp=>by
  obtain⟨bm,N,nm,q,bs,hdct,sn,sub,ab,col,dd,k0,k1,k2,k3,k5,hC,T⟩:=YT X e.err;refine Bool.eq_false_iff.mpr fun q=>?_;have e:C=tp:=Value.ref.inj (beq_iff_eq.mp q);subst e;rw[hC]at htp;exact absurd (Value.type.inj (congrArg Obj.cls (uR htp))) (by decide)
 ca:=fun{prog w A E Q s} X⟨o,e1,e2⟩ k=>by
  obtain⟨h,g,d,t,os⟩:=s;exact Ya X e e1 e2 k
section
variable {X:Cx}
noncomputable def Qbz:V->Bool
 | .ref _=>true
 | .ty _=>true
 |_=>false
noncomputable def Qdt:V->Value
 | .ref C=>.ref C
 | .ty n=>.type n
 |_=>.none
theorem QbA{c:V}{u:Value}(h:Qbz c=true)(r:RelV c u):u=Qdt c:=by
 cases c<;>first|exact r|cases h
noncomputable def QfY(K:PySem.W.Frag):List V->Hp->VK->Prop:=fun xs H Q=>∃x c b,xs=[x,c]/\Qbz c=true/\((∃t,TyOf K H x t/\kitOne K t (Qdt c)=some b)\/∃a C,x=.ref a/\H a=some (QeK a (.ref C))/\ErrK K C/\kitOne K (.ref C) (Qdt c)=some b)/\Q (.bl b) H
theorem KH:K5 X (.builtin "isinstance") (QfY X.K):=by
 intro pins s σ H xs us Q I r h;obtain⟨x,c,b,rfl,hc,hx,q⟩:=h;obtain⟨u,u2,rfl,ru,ru2⟩:=vals2 r;obtain rfl:=QbA hc ru2;rcases hx with⟨t,ty,k⟩|⟨a,C,rfl,hH,e,k⟩
 ·exact kG I ru ty k fun tk=>⟨.bl b,H,I.tok tk,rfl,q⟩
 ·obtain rfl:u=Value.ref a:=ru;obtain⟨⟨o,vs,e1,e2,_⟩,_⟩:=(show Jw X.prog X.w H s.heap a (QeK a (.ref C))from I.hok a _ hH);exact kia_one (yA e) I.kIn ⟨o,e1,e2⟩ k (fun z=>nomatch z) fun tk=>⟨.bl b,H,I.tok tk,rfl,q⟩
end
noncomputable def jy(K:PySem.W.Frag):Bool:=K.all fun p=>match p.2.cls with
 | .type n=> !(n=="list")
 |_=>true
theorem xH{K:PySem.W.Frag}{a:Addr}{o:Obj}(h:jy K=true)(e:K.lookup a=some o):o.cls≠ .type "list":=fun z=>by
 have q:=List.all_eq_true.mp h (a,o) (mem_of_lookupK e);dsimp only at q;rw[z]at q;exact absurd q (by decide)
noncomputable def Zk(cells:List (Str × Addr)):List (Str × NameKind)->List (Str × Addr)->List (Str × Addr)
 |[],acc=>acc
 |(n,k)::r,acc=>Zk cells r (if k==.free then(n,(cells.lookup n).getD 0)::acc else acc)
theorem k4{env:Env}:∀(names:List (Str × NameKind))(acc:List (Str × Addr)),(∀y∈names,y.2=.free->∃c,env.cells.lookup y.1=some c)->
  (forIn names acc fun x(cs:List (Str × Addr))=>(do
   let (name,kind):=x
   if kind==.free then
    let c←cellOf env name
    pure (ForInStep.yield ((name,c)::cs))
   else pure (ForInStep.yield cs):Sem (ForInStep (List (Str × Addr)))))=pure (Zk env.cells names acc)
 |[],acc,_=>rfl
 |(n,k)::r,acc,h=>by
  rw[List.forIn_cons];have ih:=fun acc'=>k4 (env:=env) r acc' fun y hy=>h y (uW _ hy)
  by_cases hk:k=.free
  ·subst hk;obtain⟨c,hc⟩:=h (n,.free) uX rfl;have hc':env.cells.lookup n=some c:=hc;show _=pure (Zk env.cells r (if NameKind.free==NameKind.free then _ else _));have e:cellOf env n=pure c:=by unfold cellOf;rw[hc']
   simp only[beq_self_eq_true,if_true,e,pure_bind,hc',Option.getD_some];exact ih _
  ·have hb:(k==NameKind.free)=false:=beq_eq_false_iff_ne.mpr hk;show _=pure (Zk env.cells r (if k==NameKind.free then _ else _));simp only[hb,Bool.false_eq_true,if_false,pure_bind];exact ih _
theorem KI{scope:Scope}{env:Env}(h:∀y∈scope.names,y.2=.free->∃c,env.cells.lookup y.1=some c):closureFor scope env=pure (Zk env.cells scope.names []):=by
 unfold closureFor;have:=k4 (env:=env) scope.names [] h;simp only[bind_pure]at this ⊢;exact this
theorem qm{cells:List (Str × Addr)}{x:Str}{c:Addr}:∀(names:List (Str × NameKind))(acc:List (Str × Addr)),(∀y∈names,y.2=.free->∃c,cells.lookup y.1=some c)->(acc.lookup x=some c->cells.lookup x=some c)->
  (Zk cells names acc).lookup x=some c->cells.lookup x=some c
 |[],_,_,h,e=>h e
 |(n,k)::r,acc,h0,h,e=>by
  unfold Zk at e;refine qm r _ (fun y hy=>h0 y (uW _ hy)) (fun e'=>?_) e
  split at e'
  ·rename_i hk;rw[List.lookup_cons]at e'
   split at e'
   ·rename_i hx;have hx':x=n:=eq_of_beq hx;subst hx';obtain⟨d,hd⟩:=h0 (x,k) uX (eq_of_beq hk);have hd':cells.lookup x=some d:=hd;rw[hd']at e' ⊢;exact e'
   ·exact h e'
  ·exact h e'
theorem YV{cells:List (Str × Addr)}{x:Str}:∀(names:List (Str × NameKind))(acc:List (Str × Addr)),((∃c,acc.lookup x=some c)\/(x,NameKind.free)∈names)->∃c,(Zk cells names acc).lookup x=some c
 |[],acc,h=>by
  rcases h with h|h
  ·exact h
  ·cases h
 |(n,k)::r,acc,h=>by
  unfold Zk;refine YV r _ ?_;rcases h with⟨c,h⟩|h
  ·refine .inl ?_
   split
   ·rw[List.lookup_cons]
    split
    ·exact⟨_,rfl⟩
    ·exact⟨c,h⟩
   ·exact⟨c,h⟩
  ·rcases List.mem_cons.mp h with e|h
   ·cases e;refine .inl ?_;rw[if_pos (by rfl),List.lookup_cons,beq_self_eq_true];exact⟨_,rfl⟩
   ·exact .inr h
section
variable {P:Program}{w:World}{K:PySem.W.Frag}{mg:Str->Option Value}{base:Heap}
theorem okE{x qual:Str}{st:Stmt}{f:Addr}{fd:FuncData}{N ps:List Str}{k:Nat}{sp:Sp}(F:Fun K x qual st f fd)(S:FnScope N ps (Qe st))(len:∀vs H Q E,sp vs H Q E->vs.length=ps.length)
  (hbody:∀(cdv:Value)(A:Around)(outer:List Env)(s:Shared)(H:Hp)(vs:List V)(Q:VK)(E:XK),Room k (A.deeper (envOfC qual (Qe st) s.heap.objs.size f cdv))->sp vs H Q E->
   ∃t,PSs (qe (CXE P w) P w K mg base N qual (Qe st) f cdv A outer s H E) (Q6 st) t/\t {nx:=fun _ H'=>Q .non H',rt:=Q} (start N vs) H):FnOk P w K mg base (CXE P w) (k+1) f fd ps sp:=by
 obtain⟨oc,od,kV,doc,pm,an,cdv,ct,osl,rfl,lk,hcd⟩:=F.ex;exact Qdf lk hcd S len fun A outer s H vs Q E hr hsp=>hbody cdv A outer s H vs Q E hr hsp
theorem okN{x qual:Str}{st:Stmt}{f:Addr}{fd:FuncData}{N ps:List Str}{k:Nat}{sp:Sp}(F:Fun K x qual st f fd)(S:FnScope N ps (Qe st))(len:∀vs H Q E,sp vs H Q E->vs.length=ps.length)
  (hbody:∀(cdv:Value)(A:Around)(outer:List Env)(s:Shared)(H:Hp)(vs:List V)(Q:VK)(E:XK),Room k (A.deeper (envOfC qual (Qe st) s.heap.objs.size f cdv))->sp vs H Q E->
   ∃t,PSs (qe (CXE P w) P w K mg base N qual (Qe st) f cdv A outer s H E).nox (Q6 st) t/\t {nx:=fun _ H'=>Q .non H',rt:=Q} (start N vs) H):FnOk P w K mg base (CXE P w) (k+1) f fd ps sp:=
 okE F S len fun cdv A outer s H vs Q E hr hsp=>by
  obtain⟨t,h,q⟩:=hbody cdv A outer s H vs Q E hr hsp;exact⟨t,h.nox,q⟩
end
structure PEx(X:Cx)(e:Expr)(t:TE):Prop where
 pe:PE X e t
structure PSx(X:Cx)(e:List Stmt)(t:TS):Prop where
 ps:PSs X e t
theorem QeM{X:Cx}{k1 k2 v1 v2:Expr}{pos pos':Pos}{t1 t2 u1 u2:TE}(h1:PEx X k1 t1)(h2:PEx X v1 u1)(h3:PEx X k2 t2)(h4:PEx X v2 u2):PSx X [.Return (some (.Dict [some k1,some k2] [v1,v2] pos)) pos'] (QcR (yu [(t1,u1),(t2,u2)])):=
 ⟨Qf (Qn (kW (YS h1.pe h2.pe (YS h3.pe h4.pe kU)) rfl rfl (List.cons_ne_nil _ _) (Nat.le_of_ble_eq_true rfl)))⟩
theorem xI{X:Cx}{x y:Str}{i:Int}{p1 p2 p3 p4 p5 p6:Pos}{j1 j2 j3:Nat}:PSx X [.Return (some (.Dict [some (.Constant (.str x) j1 p1),some (.Constant (.str y) j2 p2)] [.Constant (.int i) j3 p3,.Dict [] [] p4] p5)) p6] (QcR (yu [(tC (.str x),tC (.int i)),(tC (.str y),Qa2)])):=
 QeM ⟨Qk⟩ ⟨Qg⟩ ⟨Qk⟩ ⟨yt⟩
theorem zF{P:Program}{w:World}{K:PySem.W.Frag}{mg:Str->Option Value}{base:Heap}{x qual:Str}{st:Stmt}{f:Addr}{fd:FuncData}{N ps:List Str}{k:Nat}{sp:Sp}(F:Fun K x qual st f fd)(S:FnScope N ps (Qe st))(len:∀vs H Q E,sp vs H Q E->vs.length=ps.length)
  (hbody:∀(cdv:Value)(A:Around)(outer:List Env)(s:Shared)(H:Hp)(vs:List V)(Q:VK)(E:XK),Room k (A.deeper (envOfC qual (Qe st) s.heap.objs.size f cdv))->sp vs H Q E->
   ∃t,PSx (qe (CXE P w) P w K mg base N qual (Qe st) f cdv A outer s H E).nox (Q6 st) t/\t {nx:=fun _ H'=>Q .non H',rt:=Q} (start N vs) H):FnOk P w K mg base (CXE P w) (k+1) f fd ps sp:=
 okN F S len fun cdv A outer s H vs Q E hr hsp=>by
  obtain⟨t,h,q⟩:=hbody cdv A outer s H vs Q E hr hsp;exact⟨t,h.ps,q⟩
structure Def(P:Program)(w:World)(K:PySem.W.Frag)(mg:Str->Option Value)(base:Heap)(k:Nat)(x:Str)(ps:List Str)(sp:Sp):Prop where
 ex:∃f fd,mg x=some (.ref f)/\keepIn K (.ref f)=true/\Binds K fd ps []/\FnOk P w K mg base (CXE P w) k f fd ps sp
section
variable {X:Cx}{k k':Nat}{x:Str}{ps:List Str}{sp:Sp}{E:XK}{p pos:Pos}{e:Expr}{es:List Expr}{t:TA}
theorem Def.pe(D:Def X.prog X.w X.K X.mg X.base k x ps sp)(hr:Room k' X.A)(hk:k<=k')(hg:Gl X x)(hx:Passes (CXE X.prog X.w) X E)(ha:PA X (e::es) t)(hdb:(x==("__debug__":Str))=false:=by decide)
  (he:starEach (e::es) X.env=(false,eval e X.env)::starEach es X.env:=by rfl) (hpl:(backTo pos (starEach es X.env)).any (·.1)=false:=by rfl):PE X (.Call (.Name x p) (e::es) [] pos) (V8 sp [] E t):=by
 obtain⟨f,fd,h1,h2,h3,h4⟩:=D.ex;exact Qbn h4 (hr.mono hk) hg h1 h2 h3 .nil hx ha hdb he hpl
theorem Def.pe0(D:Def X.prog X.w X.K X.mg X.base k x ps sp)(hr:Room k' X.A)(hk:k<=k')(hg:Gl X x)(hx:Passes (CXE X.prog X.w) X E)(hdb:(x==("__debug__":Str))=false:=by decide):
  PE X (.Call (.Name x p) [] [] pos) (V8 sp [] E WV):=by
 obtain⟨f,fd,h1,h2,h3,h4⟩:=D.ex;exact yo h4 (hr.mono hk) hg h1 h2 h3 .nil hx hdb
end
theorem ifB{c:Bool}{A B:Prop}(hT:c=true->A)(hF:c=false->B):if c=true then A else B:=by
 cases c with
 |true=>rw[if_pos rfl];exact hT rfl
 |false=>rw[if_neg (by decide)];exact hF rfl
theorem Qdu(x y:Bool):(!decide (V.bl x=V.bl y))=(x !=y):=by cases x<;>cases y<;>rfl
theorem k6(x y:Int):(!decide (V.int x=V.int y))=decide (x≠y):=by
 by_cases h:x=y
 ·subst h;simp
 ·rw[uO (fun e=>h (V.int.inj e)),uP h];rfl
theorem K9(x y:Int):decide (V.int x=V.int y)=decide (x=y):=by
 by_cases h:x=y
 ·subst h;simp
 ·rw[uO (fun e=>h (V.int.inj e)),uO h]
theorem SqL.upd{K:PySem.W.Frag}{H:Hp}{a b:Addr}{o:HO}{xs:List V}(h:SqL K H a xs)(n:a≠b):SqL K (upd H b o) a xs:=by
 rcases h with(h|⟨o',h⟩)|h
 ·exact .inl (.inl (by rw[Ql n];exact h))
 ·exact .inl (.inr ⟨o',by rw[Ql n];exact h⟩)
 ·exact .inr h
theorem SqT.same{K:PySem.W.Frag}{H H':Hp}{a:Addr}{xs:List V}(e:Qo H H')(h:SqT K H a xs):SqT K H' a xs:=by
 rcases h with(h|⟨o,h⟩)|h
 ·exact .inl (.inl (e _ _ h))
 ·exact .inl (.inr ⟨o,e _ _ h⟩)
 ·exact .inr h
theorem Qo.new{H:Hp}{p:Addr}{o:HO}(h:H p=none):Qo H (upd H p o):=fun b u e=>by rw[Ql (Qv e h)];exact e
structure TownAt(H:Hp)(t r:Addr)(c:Int)(rs:List (Key × V)):Prop where
 tw:H t=some (.dK [(Sum.inr "count",.int c),(Sum.inr "rests",.ref r)])
 rt:H r=some (.dK rs)
 vs:∀kv∈rs,∃k z,kv=(Sum.inl k,V.int z)
 c0:0<=c
 ln:(rs.length:Int)<=c
 ne:t≠r
theorem TownAt.same{H H':Hp}{t r:Addr}{c:Int}{rs:List (Key × V)}(T:TownAt H t r c rs)(e:Qo H H'):TownAt H' t r c rs:=⟨e _ _ T.tw,e _ _ T.rt,T.vs,T.c0,T.ln,T.ne⟩
noncomputable def Apart(t r:Addr)(H H':Hp):Prop:=∀b o,H b=some o->b≠t->b≠r->H' b=some o
theorem Apart.trans{t r:Addr}{H H1 H2:Hp}(a:Apart t r H H1)(b:Apart t r H1 H2):Apart t r H H2:=fun c o e n1 n2=>b c o (a c o e n1 n2) n1 n2
theorem Apart.of{t r:Addr}{H H1:Hp}(a:Qo H H1):Apart t r H H1:=fun c o e _ _=>a c o e
theorem Apart.seq{K:PySem.W.Frag}{t r a:Addr}{H H':Hp}{xs:List V}(e:Apart t r H H')(h:SqL K H a xs)(n1:a≠t)(n2:a≠r):SqL K H' a xs:=by
 rcases h with(h|⟨o,h⟩)|h
 ·exact .inl (.inl (e _ _ h n1 n2))
 ·exact .inl (.inr ⟨o,e _ _ h n1 n2⟩)
 ·exact .inr h
theorem qo{rs:List (Key × V)}(h:∀kv∈rs,∃k z,kv=(Sum.inl k,V.int z)) (k:Int) (d:Int):∃z,(WR rs (Sum.inl k:Key)).getD (.int d)=.int z:=by
 cases e:rs.find? fun kv=>decide (kv.1=(Sum.inl k:Key))with
 |none=>exact⟨d,by unfold WR;rw[e];rfl⟩
 |some p=>
  obtain⟨k',z,rfl⟩:=h p (List.mem_of_find?_eq_some e);exact⟨z,by unfold WR;rw[e];rfl⟩
theorem qp{rs:List (Key × V)}(h:∀kv∈rs,∃k z,kv=(Sum.inl k,V.int z)) (k z:Int):(∀kv∈putK rs (Sum.inl k:Key) (.int z),∃k z,kv=(Sum.inl k,V.int z))/\(putK rs (Sum.inl k:Key) (.int z)).length<=rs.length+1:=by
 unfold putK
 split
 ·refine⟨fun kv hm=>?_,by rw[uN];omega⟩;obtain⟨p,hp,rfl⟩:=List.mem_map.mp hm;obtain⟨k',z',rfl⟩:=h p hp
  split
  ·exact⟨k',z,rfl⟩
  ·exact⟨k',z',rfl⟩
 ·refine⟨fun kv hm=>?_,by rw[uM];exact uQ _⟩;rcases List.mem_append.mp hm with hm|hm
  ·exact h kv hm
  ·exact⟨k,z,List.mem_singleton.mp hm⟩
theorem k7:¬ ((Sum.inr "count":Key)=(Sum.inr "rests":Key)):=by
 have h:¬ ("count":Str)="rests":=by decide+kernel
 exact fun e=>h (Sum.inr.inj e)
theorem yB(c d:Int)(r:Addr):putK [((Sum.inr "count":Key),V.int c),(Sum.inr "rests",V.ref r)] (Sum.inr "count") (.int d)=[((Sum.inr "count":Key),V.int d),((Sum.inr "rests":Key),V.ref r)]:=by
 have h:¬ ((Sum.inr "rests":Key)=(Sum.inr "count":Key)):=fun e=>k7 e.symm;unfold putK;rw[if_pos (by simp)];simp only[tH,List.map_nil,if_true,if_neg h]
theorem XZ{H:Hp}{t r:Addr}{c:Int}(h:H t=some (.dK [(Sum.inr "count",.int c),(Sum.inr "rests",.ref r)])):zC H t (.str "count") (some (.int c)):=by
 have e:=zC.k (k:=(Sum.inr "count":Key)) h;rw[KC rfl]at e;exact e
theorem X0{H:Hp}{t r:Addr}{c:Int}(h:H t=some (.dK [(Sum.inr "count",.int c),(Sum.inr "rests",.ref r)])):zC H t (.str "rests") (some (.ref r)):=by
 have e:=zC.k (k:=(Sum.inr "rests":Key)) h;rw[WX k7,KC rfl]at e;exact e
theorem xJ{H:Hp}{t r:Addr}{c:Int}(d:Int)(h:H t=some (.dK [(Sum.inr "count",.int c),(Sum.inr "rests",.ref r)])):Qa0 H t (.str "count") (.int d) (upd H t (.dK [(Sum.inr "count",.int d),(Sum.inr "rests",.ref r)])):=by
 have e:=Qa0.k (k:=(Sum.inr "count":Key)) (v:=.int d) h (by show 2<sizeLine;decide);rw[yB]at e;exact e
noncomputable def WG(K:PySem.W.Frag):Sp:=fun vs H Q _=>∃(a t r:Addr)(ns:List Int)(c many:Int)(rs:List (Key × V)),vs=[.ref a,.ref t,.int many]/\SqL K H a (ns.map V.int)/\TownAt H t r c rs/\a≠t/\a≠r/\ns.length<=63/\c<100000/\0<many/\many<1000000/\
 ∀(v:Int)(rs':List (Key × V))(H':Hp),0<=v->v<many->TownAt H' t r (c+1) rs'->Apart t r H H'->Q (.int v) H'
noncomputable def jz:Sp:=fun vs H Q _=>vs=[]/\∀(t r:Addr)(H':Hp),H t=none->H r=none->TownAt H' t r 0 []->Qo H H'->Q (.ref t) H'
structure Own(mg:Str->Option Value):Prop where
 len:mg "len"=none
 range:mg "range"=none
 abs:mg "abs"=none
 max:mg "max"=none
 int:mg "int"=none
 isi:mg "isinstance"=none
 bool:mg "bool"=none
 val:mg "ValueError"=none
 reversed:mg "reversed"=none
 divmod:mg "divmod"=none
 str:mg "str"=none
 sum:mg "sum"=none
noncomputable def Qa3(sc outer:Scope):Bool:=sc.names.all fun y=> !(y.2==.free)||outer.names.lookup y.1==some .cell
theorem k8{sc outer:Scope}(h:Qa3 sc outer=true):∀y∈sc.names,y.2=.free->outer.names.lookup y.1=some .cell:=fun y hy e=>by
 have q:=List.all_eq_true.mp h y hy;rw[e]at q;simpa using q
structure FunC(K:PySem.W.Frag)(x qual:Str)(st:Stmt)(f:Addr)(fd:FuncData)(cdv:Value):Prop where
 ex:∃(oc:Value)(od:Option Addr)(kV doc pm:Value)(an:Option Addr)(ct:Value)(osl:Array (Option Value)),
  fd=fnOf x qual (Jp st) (Q6 st) (Qe st) .none kV doc pm an cdv ct/\K.lookup f=some ⟨oc,od,.func fd,osl⟩/\codeIn K cdv qual=true
theorem QfZ{P:Program}{w:World}{K:PySem.W.Frag}{mg:Str->Option Value}{base:Heap}{x qual:Str}{st:Stmt}{f:Addr}{fd:FuncData}{cdv:Value}{N ps:List Str}{k:Nat}{sp:Sp}(F:FunC K x qual st f fd cdv)(S:FnScope N ps (Qe st))(len:∀vs H Q E,sp vs H Q E->vs.length=ps.length)
  (hbody:∀(A:Around)(outer:List Env)(s:Shared)(H:Hp)(vs:List V)(Q:VK)(E:XK),Room k (A.deeper (envOfC qual (Qe st) s.heap.objs.size f cdv))->sp vs H Q E->
   ∃t,PSs (qe (CXE P w) P w K mg base N qual (Qe st) f cdv A outer s H E).nox (Q6 st) t/\t {nx:=fun _ H'=>Q .non H',rt:=Q} (start N vs) H):FnOk P w K mg base (CXE P w) (k+1) f fd ps sp:=by
 obtain⟨oc,od,kV,doc,pm,an,ct,osl,rfl,lk,hcd⟩:=F.ex;exact Qdf lk hcd S len fun A outer s H vs Q E hr hsp=>by
  obtain⟨t,h,q⟩:=hbody A outer s H vs Q E hr hsp;exact⟨t,h.nox,q⟩
structure DefAt(K:PySem.W.Frag)(x:Str)(st:Stmt):Prop where
 ex:∃f fd,nsIn K mainGlobals x=some (some (.ref f))/\Fun K x x st f fd
theorem yC{K:PySem.W.Frag}{x:Str}{st:Stmt}{f:Addr}{oc:Value}{od an:Option Addr}{osl:Array (Option Value)}{kV doc pm cdv ct:Value}(a:nsIn K mainGlobals x=some (some (.ref f)))
  (l:K.lookup f=some ⟨oc,od,.func (fnOf x x (Jp st) (Q6 st) (Qe st) .none kV doc pm an cdv ct),osl⟩) (c:codeIn K cdv x=true) (k:keepIn K (.ref f)=true):DefAt K x st:=
 ⟨f,_,a,⟨⟨oc,od,kV,doc,pm,an,cdv,ct,osl,rfl,l,c⟩,k⟩⟩
section
variable {P:Program}{w:World}{K:PySem.W.Frag}{mg:Str->Option Value}{base h:Heap}{x:Str}{st:Stmt}{k:Nat}{ps:List Str}{sp:Sp}
theorem DefAt.def(D:DefAt K x st)(X:K.In h)(G:h.Ns mainGlobals mg)(hok:∀f fd,Fun K x x st f fd->FnOk P w K mg base (CXE P w) k f fd ps sp)
  (hb:∀(kV doc pm:Value)(an:Option Addr)(cdv ct:Value)(us:List Value),us.length=ps.length->bindArgs (fnOf x x (Jp st) (Q6 st) (Qe st) .none kV doc pm an cdv ct) ⟨us,[]⟩=pure (ps.zip us)):Def P w K mg base k x ps sp:=by
 obtain⟨f,fd,a,F⟩:=D.ex;exact⟨f,fd,mg_of X G a,F.kp,F.binds hb,hok f fd F⟩
end
theorem Vq{k:Bool}{ta tb:TE}{σ:St}{H:Hp}{Q:VK}(Good:V->Hp->Prop)(hT:k=true->(∀v H',Good v H'->Q v H')->ta σ H Q) (hF:k=false->(∀v H',Good v H'->Q v H')->tb σ H Q) (rest:∀v H',Good v H'->Q v H'):if k=true then ta σ H Q else tb σ H Q:=by
 cases k with
 |true=>rw[if_pos rfl];exact hT rfl rest
 |false=>rw[if_neg (by decide)];exact hF rfl rest
noncomputable def k9(scope:Scope)(env:Env)(C:Addr):Env:=
 {scope:=scope,locals:=C,globals:=env.globals,cells:=cellsFrom (C+1) scope.names [],qual:=env.qual,func:=none,code:=env.code,frame:=env.frame,builtins:=env.builtins}
noncomputable abbrev JN(X:Cx)(NB:List Str)(scope:Scope)(s:Shared)(H:Hp)(ex:List Addr):Cx:=
 {X with N:=NB,s₀:=s,H₀:=H,env:=k9 scope X.env s.heap.objs.size,outer:=X.stack,ex:=ex,fn:=fun _=>true,pn:=[],xe:=fun _ _=>False}
structure BlkScope(NB:List Str)(scope:Scope):Prop where
 kind:scope.kind=.function
 nd:NB.Nodup
 nofree:∀y∈scope.names,y.2≠ .free
 loc:∀y∈scope.names,y.2=.local->scope.names.lookup y.1=some .local
theorem WH{scope:Scope}{env:Env}(h:∀y∈scope.names,y.2≠ .free):relabel scope env=scope:=by
 obtain⟨k,names,g,c,m⟩:=scope;have e:∀l:List (Str × NameKind),(∀y∈l,y.2≠ .free)->(l.map fun(n,k)=>if(k==NameKind.free&&env.scope.kind==.function&&env.kindOf n==some .cell)then(n,NameKind.cell)else(n,k))=l:=by
  intro l
  induction l with
  |nil=>intro _;rfl
  |cons y r ih=>
   intro hl;obtain⟨n,k⟩:=y;have hk:(k==NameKind.free)=false:=beq_eq_false_iff_ne.mpr (hl (n,k) uX);rw[tH,ih fun y hy=>hl y (uW _ hy)];simp only[hk,Bool.false_and,Bool.false_eq_true,if_false]
 unfold relabel;simp only[e names h]
theorem qr{scope:Scope}{env:Env}(h:∀y∈scope.names,y.2≠ .free):closureFor scope env=pure []:=by
 rw[KI fun y hy e=>absurd e (h y hy)];have e:∀(l:List (Str × NameKind))(acc:List (Str × Addr)),(∀y∈l,y.2≠ .free)->Zk env.cells l acc=acc:=by
  intro l
  induction l with
  |nil=>intro acc _;rfl
  |cons y r ih=>
   intro acc hl;obtain⟨n,k⟩:=y;have hk:(k==NameKind.free)=false:=beq_eq_false_iff_ne.mpr (hl (n,k) uX);unfold Zk;rw[hk];exact ih acc fun y hy=>hl y (uW _ hy)
 rw[e _ _ h]
theorem Ka{M:Model}{A:Around}{E:Value->Shared->Prop}{s:Shared}{scope:Scope}{globals:Addr}{qual:Str}{env:Env}{Q:Env->Shared->Prop}(hk:scope.kind=.function)
  (hQ:∀cenv s',cenv={scope:=scope,locals:=s.heap.objs.size,globals:=globals,cells:=cellsFrom (s.heap.objs.size+1) scope.names [],qual:=qual,func:=none,code:=env.code,frame:=env.frame,builtins:=env.builtins}->
   InCallC s s.heap.objs.size (fun _=>none) (cellsFrom (s.heap.objs.size+1) scope.names []) (fun _=>none) s'->Q cenv s'):
  wpAny M A (newFunctionEnv scope globals [] [] qual none .none (some env)) Q E s:=by
 simp only[newFunctionEnv,Option.isSome_some,if_true];refine wpAny_bind (wpAny_alloc ?_);refine wpAny_bind (wpAny_layCells _ (fun name kind cells=>by cases hkc:kind==NameKind.cell<;>simp[hkc]) _ _ _ _ ?_);have ok:=cellsFrom_ok scope.names (s.heap.push {cls:=.type "dict",data:=.dict #[]}) (s.heap.objs.size+1) [] ⟨fun _ _ hm=>(nomatch hm),List.Pairwise.nil⟩ (by rw[Heap.size_push];exact uQ _);rw[Heap.size_push]at ok;rw[show({s with heap:=s.heap.push {cls:=.type "dict",data:=.dict #[]}}:Shared).heap.objs.size=s.heap.objs.size+1 from Heap.size_push ..];refine wpAny_bind (wpAny_pure (wpAny_pure (hQ _ _ rfl ?_)));exact⟨⟨⟨_,_,rfl⟩,(Heap.Ns.new s.heap (.type "dict")).keeps (pushCells_keeps _ _),fun b o e=>pushCells_keeps _ _ b o (Heap.get?_push_of_some _ e),uQ _⟩,
   fun n c hc=>(ok.empty n c (mem_of_lookup hc)).1,ok.apart,fun n c hm=>(ok.empty n c hm).2⟩
section
variable {prog:Program}{w:World}{A:Around}{E:Value->Shared->Prop}{R:Result->Shared->Prop}{s:Shared}
theorem Vr{elt target iter:Expr}{ifs:List Expr}{scope:Scope}{pos:Pos}{it acc:Value}{env:Env}(I:Nat->Shared->Prop)
  (turn:∀n s,I n s->wpAny (model prog w) A (pyNext it) (fun r s₁=>match r with
   |none=>R (.ok .next) s₁
   |some v=>wpAny (model prog w) A (letOwnedTupleGo target it v) (fun _ s₁'=>wpAny (model prog w) A (assign target env v) (fun _ s₂=>
     wpAny (model prog w) A (forIn ifs true fun c r=>if r=true then do let ok←isTrue c env (eval c env);pure (ForInStep.yield ok)else pure (ForInStep.yield r)) (fun ok s₃=>
      if ok=true then wpAny (model prog w) A (eval elt env) (fun x s₄=>
       wpAny (model prog w) A (call (.builtin "list.append") [acc,x]) (fun _ s₅=>∃m,m<n/\I m s₅) (notedBy (model prog w) A env fun e s'=>R (.error e) s') s₄) (notedBy (model prog w) A env fun e s'=>R (.error e) s') s₃
      else ∃m,m<n/\I m s₃) (notedBy (model prog w) A env fun e s'=>R (.error e) s') s₂) (notedBy (model prog w) A env fun e s'=>R (.error e) s') s₁') (notedBy (model prog w) A env fun e s'=>R (.error e) s') s₁) (notedBy (model prog w) A env fun e s'=>R (.error e) s') s)
  (n:Nat) (h:I n s):
  codeAny (model prog w) A (.compLoop (.ListComp elt [⟨target,iter,ifs,0⟩] scope pos) 0 it acc env) R s:=by
 refine codeAny_loop rfl I (fun n s hI=>?_) n h;show wpAny _ A ((compTurn (.ListComp elt [⟨target,iter,ifs,0⟩] scope pos) 0 it acc env).onRaise (fun x=>do noteFrame x env;theTreesLotGoes x)) _ _ s;refine wpAny_noted ?_;rw[compTurn_list];refine wpAny_bind (wpAny_standAt (wpAny_bind (wpAny_mono (turn n s hI) (fun r s₁ h₁=>?_) fun _ _ h'=>h')));cases r with
 |none=>exact wpAny_pure h₁
 |some v=>
  refine wpAny_bind (wpAny_mono h₁ (fun _ s₁' h₁'=>?_) fun _ _ h'=>h');refine wpAny_bind (wpAny_mono h₁' (fun _ s₂ h₂=>wpAny_bind (wpAny_mono h₂ (fun ok s₃ h₃=>?_) fun _ _ h'=>h')) fun _ _ h'=>h');cases ok with
  |false=>exact wpAny_pure ⟨rfl,h₃⟩
  |true=>
   exact wpAny_bind (wpAny_bind (wpAny_mono h₃ (fun x s₄ h₄=>wpAny_bind (wpAny_mono h₄ (fun _ s₅ h₅=>wpAny_pure (wpAny_pure ⟨rfl,h₅⟩)) fun _ _ h'=>h')) fun _ _ h'=>h'))
end
noncomputable def PTs(X:Cx)(ifs:List Expr)(t:TT):Prop:=
 ∀(pins:List (Addr × Obj))(s:Shared)(σ:St)(H:Hp)(Q:Bool->Hp->Prop),Inv X pins σ H s->t σ H Q->
  wpAny (model X.prog X.w) X.A (forIn ifs true fun c r=>if r=true then do let ok←isTrue c X.env (eval c X.env);pure (ForInStep.yield ok)else pure (ForInStep.yield r)) (TP X pins σ Q) X.xe s
noncomputable def yD:TT:=fun _ H Q=>Q true H
theorem Z7{X:Cx}:PTs X [] yD:=fun pins s σ H Q I h=>wpAny_tests_nil ⟨H,I,h⟩
theorem jA{X:Cx}{c:Expr}{t:TT}(h:PT X c t):PTs X [c] t:=fun pins s σ H Q I q=>wpAny_tests_one (h pins s σ H Q I q)
noncomputable def YW(NB:List Str)(wi:TI)(g:TG)(tt:TT)(te:TE):TE:=fun σ H Q=>wi σ H fun J H1=>∃W:Nat->Nat->List V->Hp->Prop,(∃m,W 0 m [] H1)/\∀i m vs H,W i m vs H->
 (J.stop i H/\∀p,H p=none->Q (.ref p) (upd H p (.lst vs)))\/(J.go i H/\vs.length<sizeLine/\∃N:List V->Hp->Prop,(∀vs' H',N vs' H'->∃m',m'<m/\W (i+1) m' vs' H')/\
  ∀x H',J.yld i H x H'->g x (List.replicate NB.length none) H' fun σ2 H2=>tt σ2 H2 fun b H3=>if b=true then te σ2 H3 fun v H4=>N (vs++[v]) H4 else N vs H3)
noncomputable abbrev X6(ys:List Value):Obj:={cls:=.type "list",data:=.seq ys.toArray ys.length}
section
variable {X:Cx}
theorem ZE{elt tg iter:Expr}{ifs:List Expr}{scope:Scope}{pos:Pos}{NB:List Str}{wi:TI}{g:TG}{tt:TT}{te:TE}(hc:X.calm=true)(S:BlkScope NB scope)(hi:PI X tg iter wi)
  (hg:∀s H ex,PG (JN X NB scope s H ex) tg g) (ht:∀s H ex,PTs (JN X NB scope s H ex) ifs tt) (he:∀s H ex,PE (JN X NB scope s H ex) elt te)
  (hs:∀x,foldedSetIterable iter X.env x=pure x:=by intro _;rfl):PE X (.ListComp elt [⟨tg,iter,ifs,0⟩] scope pos) (YW NB wi g tt te):=by
 intro pins s σ H Q I h;rw[eval_ListComp];refine wpAny_comprehension_free (use:=none) (cl:=[]) rfl hs (qr S.nofree) S.kind S.loc (thn (hi pins s σ H _ I h) fun v s1 h1=>thn h1 fun itv s2 h2=>?_);obtain⟨it,fp,tn,J,H2,e,I2,T,st2,f2,W,⟨m0,w0⟩,turn⟩:=h2;subst e;refine wpAny_newObj_type ?_;have up2:∀b o,s2.heap.get? b=some o->(s2.heap.push {cls:=.type "list",data:=.seq ([]:List Value).toArray}).get? b=some o:=fun b o e=>Heap.get?_push_of_some _ e;have I3:Inv X pins σ H2 {s2 with heap:=s2.heap.push {cls:=.type "list",data:=.seq ([]:List Value).toArray}}:=I2.kept (t':=s2.toks) up2;have st3:tn 0 (s2.heap.push {cls:=.type "list",data:=.seq ([]:List Value).toArray}):=T.keep _ _ _ st2 fun b _ o e=>up2 b o e;have hD3:(s2.heap.push {cls:=.type "list",data:=.seq ([]:List Value).toArray}).get? s2.heap.objs.size=some (X6 []):=Heap.get?_push_size _ rfl;have hD2:H2 s2.heap.objs.size=none:=I2.hok.fresh (uQ _);have lt2:∀b o,s2.heap.get? b=some o->b≠s2.heap.objs.size:=fun b o e=>Nat.ne_of_lt (Heap.lt_size e);have fpO:∀b∈fp,∃o,s2.heap.get? b=some o:=fun b hb=>let ⟨o,e,_⟩:=T.obj _ _ st2 b hb;⟨o,e⟩;have hDs0:X.s₀.heap.objs.size<=s2.heap.objs.size:=I2.sz;have hDL:s2.heap.objs.size≠X.env.locals:=Nat.ne_of_gt I2.lt;have hDC:∀x c,X.env.cells.lookup x=some c->c≠s2.heap.objs.size:=fun x c e=>let ⟨v,o,e1,_⟩:=I2.cell x c e;lt2 c o e1;have hDp:∀p∈X.pn++pins,p.1≠s2.heap.objs.size:=fun p hp=>lt2 p.1 _ (I2.pin p hp).1;have hDf:s2.heap.objs.size∉frs X.stack:=fun z=>let ⟨o,e,_⟩:=(I2.stack.mem z).2;lt2 _ o e rfl;generalize hS3:({s2 with heap:=s2.heap.push {cls:=.type "list",data:=.seq ([]:List Value).toArray}}:Shared)=s3 at I3 ⊢;have hh3:s3.heap=s2.heap.push {cls:=.type "list",data:=.seq ([]:List Value).toArray}:=by rw[←hS3]
 rw[←hh3]at st3 hD3 up2;generalize s2.heap.objs.size=D at hD3 hD2 lt2 hDs0 hDL hDC hDp hDf ⊢;refine Ka S.kind fun cenv s4 hce x4=>?_;subst hce;rw[WH S.nofree];have lt3:∀b o,s3.heap.get? b=some o->b<s3.heap.objs.size:=fun b o e=>Heap.lt_size e;have fp3:∀b∈fp,b<s3.heap.objs.size:=fun b hb=>let ⟨o,e⟩:=fpO b hb;lt3 b o (up2 b o e);have dl3:D<s3.heap.objs.size:=lt3 D _ hD3;have DfpN:∀b∈fp,b≠D:=fun b hb=>let ⟨o,e⟩:=fpO b hb;lt2 b o e;obtain⟨h4,tk4,rfl,hk4⟩:=x4.done;have bsN:∀b o,X.base.get? b=some o->b∉D::fp:=fun b o e hb=>by
  rcases List.mem_cons.mp hb with rfl|hb
  ·exact absurd (Nat.lt_of_lt_of_le (Heap.lt_size (I2.ok.bs b o e).1) hDs0) (tL _)
  ·obtain⟨_,_,_,f3,_⟩:=f2 b hb;rcases f3 with z|z
   ·exact I2.ok.noex b o e z
   ·exact absurd (Nat.lt_of_lt_of_le (Heap.lt_size (I2.ok.bs b o e).1) z) (tL _)
 have exF:∀b∈D::fp,b∉frs X.stack:=fun b hb hf=>by
  rcases List.mem_cons.mp hb with rfl|hb
  ·exact hDf hf
  ·obtain⟨_,f1,f2',_⟩:=f2 b hb;rcases List.mem_cons.mp (I2.Yp b hf)with z|z
   ·exact f1 z
   ·exact f2' z
 have cge:∀y c,(cellsFrom (s3.heap.objs.size+1) scope.names []).lookup y=some c->s3.heap.objs.size<c:=fun y c e=>x4.above y c (PySem.mem_of_lookup e);have exLt:∀b∈D::fp,b<s3.heap.objs.size:=fun b hb=>by
  rcases List.mem_cons.mp hb with rfl|hb
  ·exact dl3
  ·exact fp3 b hb
 have okB:(JN X NB scope s3 H2 (D::fp)).Ok:=by
  refine⟨I3.ok.mod,S.kind,I3.ok.glob,I3.ok.blt,uQ _,fun y z c h1 h2=>?_,fun y hy=>?_,fun y c _ h=>Nat.le_of_lt (cge y c h),I3.ok.hd,I3.ok.frames,.inl rfl,fun b hb=>⟨Nat.ne_of_lt (exLt b hb),fun y c e z=>?_⟩,I3.bs,Nat.le_trans I3.ok.bsz I3.sz,bsN,exF,I3.stack,I3.W9⟩
  ·exact name_of_addr x4.apart (PySem.mem_of_lookup h1) (PySem.mem_of_lookup h2)
  ·have hy:scope.names.lookup y=some .cell\/scope.names.lookup y=some .free:=hy;rcases hy with hy|hy
   ·exact WW hy
   ·exact absurd rfl (S.nofree _ (PySem.mem_of_lookup hy))
  ·have:=cge y c e;rw[z]at this;exact absurd (Nat.lt_trans this (exLt b hb)) (tL _)
 have rep:∀(j:Nat)(v:V),(List.replicate NB.length (none:Option V))[j]? ≠some (some v):=fun j v z=>by
  rw[List.getElem?_replicate]at z
  split at z<;>cases z
 have IB:Inv (JN X NB scope s3 H2 (D::fp)) [(D,X6 [])] (List.replicate NB.length none) H2 {s3 with heap:=h4,toks:=tk4}:=by
  refine⟨okB,rfl,I3.bare,Un.kept hk4,⟨_,x4.toInCall.ns,fun i y v h1 h2 h3=>absurd h2 (rep i v)⟩,fun y c h=>⟨_,x4.cell y c h⟩,I3.hok.fresh (uQ _),fun y c h=>I3.hok.fresh (Nat.le_of_lt (cge y c h)),fun p hp=>?_,I3.hok.kept hk4,by rw[tj]⟩;obtain rfl:p=(D,X6 []):=by simpa using hp
  exact⟨hk4 _ _ hD3,hD2,Nat.ne_of_lt dl3,hDf,fun v z=>nomatch z⟩
 have stat:∀{H':Hp}{ys:List Value},(∀b∈fp,H' b=none)->∀b∈fp,kq (JN X NB scope s3 H2 (D::fp)) [(D,X6 ys)] H' b:=fun hn b hb=>
  ⟨hn b hb,Nat.ne_of_lt (fp3 b hb),exF b (uW _ hb),.inl (uW _ hb),fun y c e z=>by
   have:=cge y c e;rw[z]at this;exact absurd (Nat.lt_trans this (fp3 b hb)) (tL _),fun p hp=>by
    obtain rfl:p=(D,_):=by simpa using hp
    exact(DfpN b hb).symm⟩
 have st4:tn 0 h4:=T.keep _ _ _ st3 fun b _ o e=>hk4 b o e;have fr4:∀b∈fp,H2 b=none:=fun b hb=>(f2 b hb).1;have hcB:(JN X NB scope s3 H2 (D::fp)).calm=true:=hc;have loop:codeAny (model X.prog X.w) X.A (.compLoop (.ListComp elt [⟨tg,iter,ifs,0⟩] scope pos) 0 (.ref it) (.ref D) (k9 scope X.env s3.heap.objs.size))
   (compPost (model X.prog X.w) X.A X.xe none (EP X pins σ Q) (.ref D) s3.heap.objs.size) {s3 with heap:=h4,toks:=tk4}:=by
  refine Vr (fun n s'=>∃i vs ys H',Inv (JN X NB scope s3 H2 (D::fp)) [(D,X6 ys)] (List.replicate NB.length none) H' s'/\Vals vs ys/\vs.length<=sizeLine/\tn i s'.heap/\(∀b∈fp,H' b=none)/\W i n vs H') ?_ m0 ⟨0,[],[],H2,IB,.nil,tK _,st4,fr4,w0⟩;rintro n s5 ⟨i,vs,ys,H5,I5,rv,hvl,st5,fr5,w5⟩;rcases turn i n vs H5 w5 with⟨stop,qn⟩|⟨go,hlt,N,hN,step⟩
  ·refine wpAny_mono (T.done (JN X NB scope s3 H2 (D::fp)) rfl rfl rfl hcB i _ s5 _ H5 (fun _ _=>False) I5 (stat fr5) st5 stop) (fun r s6⟨hr,I6⟩=>?_) (fun _ _ z=>z.elim);subst hr;obtain⟨m6,hn6,_⟩:=id I6.loc;refine⟨m6,hn6,fun h7 sb7=>?_⟩;have kp7:∀b o,b≠s3.heap.objs.size->s6.heap.get? b=some o->h7.get? b=some o:=fun b o hb e=>(sb7.2 b hb).trans e;have hC6:H5 s3.heap.objs.size=none:=I6.free;have un7:Un (frs X.stack) (D::fp) H2 H5 s3.heap h7:=by
    have u:=I6.base;refine⟨fun b o e n hb hx=>kp7 b o (Nat.ne_of_lt (Heap.lt_size e)) (u.keep b o e n hb hx),fun b o e n hb hx=>?_,u.free,fun b o e hx=>?_,u.WK,u.frzs,u.tbls⟩
    ·obtain⟨sl,q⟩:=u.slot b o e n hb hx;exact⟨sl,kp7 b _ (Nat.ne_of_lt (Heap.lt_size e)) q⟩
    ·obtain⟨o',q⟩:=u.there b o e hx;exact⟨o',kp7 b _ (Nat.ne_of_lt (Heap.lt_size e)) q⟩
   have hok7:HOk X.prog X.w H5 h7:=fun b u e=>(I6.hok b u e).kn (fun c w' hcc q=>kp7 c w' (by
    rintro rfl;rcases hcc with rfl|hcc
    ·rw[hC6]at e;cases e
    ·rw[hC6]at hcc;cases hcc) q) (fun _ q=>q) fun _ _ q=>q
   have I7:Inv X pins σ H5 {s6 with heap:=h7}:=I3.yc (s':={s6 with heap:=h7}) I6.os un7 hok7 I6.bare fun b hb=>by
    rcases List.mem_cons.mp hb with rfl|hb
    ·exact⟨.inr hDs0,hDL,hDC,hDp⟩
    ·obtain⟨_,f1,_,f3,f4,f5⟩:=f2 b hb;exact⟨f3,f1,f4,f5⟩
   obtain⟨eD,nD,_⟩:=I6.pin (D,X6 ys) (by simp);have nD':H5 D=none:=nD;have eD':h7.get? D=some (X6 ys):=kp7 D _ (Nat.ne_of_lt dl3) eD;have hD0:X.s₀.heap.get? D=none:=by
    cases q:X.s₀.heap.get? D with
    |none=>rfl
    |some o=>exact absurd (Nat.lt_of_lt_of_le (Heap.lt_size q) hDs0) (tL _)
   exact⟨.ref D,upd H5 D (.lst vs),I7.Qby nD' hD0 hDL hDC hDp ⟨hvl,ys,ys.length,rv,eD'⟩,rfl,qn D nD'⟩
  ·refine wpAny_mono (T.item (JN X NB scope s3 H2 (D::fp)) rfl rfl rfl hcB i _ s5 _ H5 (fun _ _=>False) I5 (stat fr5) st5 go) (fun r s6⟨u,hr,h6⟩=>?_) (fun _ _ z=>z.elim);subst hr;refine wpAny_mono h6 (fun _ s7⟨x,H7,I7,r7,y7,st7,fr7⟩=>?_) (fun _ _ z=>z.elim);have I7':=I7.pinned (stat fr7) (T.obj _ _ st7);refine wpAny_mono (hg s3 H2 (D::fp) _ s7 _ H7 x u _ I7' r7 (step x H7 y7)) (fun _ s8⟨σ8,H8,I8,q8⟩=>?_) (fun _ _ z=>z.elim);refine wpAny_mono (ht s3 H2 (D::fp) _ s8 σ8 H8 _ I8 q8) (fun ok s9⟨H9,I9,q9⟩=>?_) (fun _ _ z=>z.elim);have fpK:∀{σ':St}{H':Hp}{s':Shared},Inv (JN X NB scope s3 H2 (D::fp)) ([(D,X6 ys)]++Ve fp s7.heap) σ' H' s'->tn (i+1) s'.heap/\∀b∈fp,H' b=none:=fun J=>
    ⟨T.keep _ _ _ st7 fun b hb o e=>(J.pin (b,o) (uU _ (uU _ (JL hb e)))).1,fun b hb=>by
     obtain⟨o,e,d⟩:=T.obj _ _ st7 b hb;exact(J.pin (b,o) (uU _ (uU _ (JL hb e)))).2.1⟩
   have wk:∀{σ':St}{H':Hp}{s':Shared}{pl:List (Addr × Obj)},Inv (JN X NB scope s3 H2 (D::fp)) pl σ' H' s'->Inv (JN X NB scope s3 H2 (D::fp)) pl (List.replicate NB.length none) H' s':=fun J=>
    J.weak (by rw[tj];exact J.len.symm) fun j v z=>absurd z (rep j v)
   cases ok with
   |false=>
    rw[if_neg (by decide)]at q9;rw[if_neg (by decide)];obtain⟨m',hm,w9⟩:=hN vs H9 q9;obtain⟨t9,f9⟩:=fpK I9;exact⟨m',hm,i+1,vs,ys,H9,wk I9.Zn,rv,hvl,t9,f9,w9⟩
   |true=>
    rw[if_pos rfl]at q9;rw[if_pos rfl];refine wpAny_mono (he s3 H2 (D::fp) _ s9 σ8 H9 _ I9 q9) (fun y s10⟨v,H10,I10,rv10,q10⟩=>?_) (fun _ _ z=>z.elim);obtain⟨eD,nD,_,nf,_⟩:=I10.pin (D,X6 ys) (by simp);have hyl:=rv.length;refine append_at (hsz:=by show ys.toArray.size<=sizeLine;rw[tJ, ←hyl];exact hvl) eD fun h11 sb11 hD11=>?_;obtain⟨m',hm,w11⟩:=hN (vs++[v]) H10 q10;obtain⟨t10,f10⟩:=fpK I10;have I10u:=I10.Zn;have k11:∀b o,b≠D->s10.heap.get? b=some o->h11.get? b=some o:=fun b o hb e=>(sb11.2 b hb).trans e;have IE:Inv (JN X NB scope s3 H2 (D::fp)) [] σ8 H10 s10:=I10u.Xv fun p hp=>nomatch hp;have I11:Inv (JN X NB scope s3 H2 (D::fp)) [] σ8 H10 {s10 with heap:=h11}:=IE.turned (t':=s10.toks) k11 nD (Nat.ne_of_lt dl3) (.inl uX) (fun y' c e z=>by
     have:=cge y' c e;rw[z]at this;exact absurd (Nat.lt_trans this dl3) (tL _)) (fun p hp=>absurd (show p∈([]:List (Addr × Obj))from hp) (by simp))
    have eL:({cls:=.type "list",data:=.seq (ys.toArray.push y) (ys.length+1)}:Obj)=X6 (ys++[y]):=by
     show({cls:=.type "list",data:=.seq (ys.toArray.push y) (ys.length+1)}:Obj)={cls:=.type "list",data:=.seq (ys++[y]).toArray (ys++[y]).length};rw[uM,uS,List.push_toArray]
    refine⟨m',hm,i+1,vs++[v],ys++[y],H10,wk (I11.Xv fun p hp=>?_),rv.append (.cons rv10 .nil),by rw[uM,uS];exact hlt,T.keep _ _ _ t10 fun b hb o e=>k11 b o (DfpN b hb) e,f10,w11⟩;obtain rfl:p=(D,X6 (ys++[y])):=by simpa using hp
    exact⟨by rw[←eL];exact hD11,nD,Nat.ne_of_lt dl3,nf,fun v z=>nomatch z⟩
 exact codeAny_compStart_list loop (T.self _ 0 _ _ _ st4 loop)
end
open Builtin Builtin.Str
section
variable {prog:Program}{w:World}{A:Around}{E:Value->Shared->Prop}{s:Shared}
theorem call_gives{name:Str}{id:String}{B:Builtin}{x:Str}{t:Tok}{rest:List Value}{m:Made}{Q:Value->Shared->Prop}(slot:Slot "str" name id)(entry:entryFor table id=some B)(args:argsOk id ⟨.str x t::rest,[]⟩)
  (g:Gives (B ⟨.str x t::rest,[]⟩) m) (h:m.post Q s):wpAny (model prog w) A (call (.builtin id) (.str x t::rest)) Q E s:=
 wpAny_call (codeAny_call_builtin slot.plain entry (slot.check _ _ _ _ _ _ _ _ (typeIs_str _ _ _) args (g prog w A (wants Q E) s h)))
end
section
variable {X:Cx}
noncomputable def QeN(C:Str->Str->Prop)(f:Str->Str->V):V->List V->Hp->VK->Prop:=fun x vs H Q=>∃z y,x=.str z/\vs=[.str y]/\C z y/\Q (f z y) H
noncomputable def Qf0(z _:Str):Prop:=z.length<=sizeLine
theorem zG:MtR X "str.strip" (QeN Qf0 fun z y=>.str (Txt.stripChars z y)):=by
 intro pins s σ H x vs v us Q I rx rv h;obtain⟨z,y,rfl,rfl,hl,q⟩:=h;obtain⟨t,rfl⟩:=rx;obtain⟨u,rfl,t',rfl⟩:=vals1 rv;exact call_gives F.slot_str_strip F.entry_str_strip (F.args_str_strip_2 _ _) (gives_str_strip_chars z y t t') (post_val_or_made (fun _=>fits_stripped _ _ _ hl) fun t2 k=>⟨.str _,H,I.tok k,⟨t2,rfl⟩,q⟩)
theorem YX:MtR X "str.startswith" (QeN (fun _ _=>True) fun z y=>.bl (Txt.startswith z y)):=by
 intro pins s σ H x vs v us Q I rx rv h;obtain⟨z,y,rfl,rfl,_,q⟩:=h;obtain⟨t,rfl⟩:=rx;obtain⟨u,rfl,t',rfl⟩:=vals1 rv;exact call_gives F.slot_str_startswith F.entry_str_startswith (F.args_str_startswith_2 _ _) (gives_str_startswith z y t t') ⟨.bl _,H,I,rfl,q⟩
theorem QbB:MtR X "str.find" (QeN (fun _ _=>True) fun z y=>.int (Txt.find z y)):=by
 intro pins s σ H x vs v us Q I rx rv h;obtain⟨z,y,rfl,rfl,_,q⟩:=h;obtain⟨t,rfl⟩:=rx;obtain⟨u,rfl,t',rfl⟩:=vals1 rv;exact call_gives F.slot_str_find F.entry_str_find (F.args_str_find_2 _ _) (gives_str_find z y t t') ⟨.int _,H,I.tok _,⟨_,rfl⟩,q⟩
theorem YY:MtR X "str.zfill" (fun x vs H Q=>∃z i,x=.str z/\vs=[.int i]/\PadOk i=true/\Q (.str (Txt.zfill z i)) H):=by
 intro pins s σ H x vs v us Q I rx rv h;obtain⟨z,i,rfl,rfl,hp,q⟩:=h;obtain⟨t,rfl⟩:=rx;obtain⟨u,rfl,t',rfl⟩:=vals1 rv;exact call_gives F.slot_str_zfill F.entry_str_zfill (F.args_str_zfill_2 _ _) (gives_str_zfill z i t t' (PadOk.parts hp).1 (PadOk.parts hp).2) (post_val_or_made (fits_zfilled (PadOk.parts hp).2) fun t2 k=>⟨.str _,H,I.tok k,⟨t2,rfl⟩,q⟩)
theorem ZF:SlR X (fun x lo hi H Q=>∃z,x=.str z/\z.length<=sizeLine/\Q (.str (StrLaws.sliceText z lo hi)) H):=by
 intro pins s σ H x v vl vu lo hi sl Q I rx hs pl pu h;obtain⟨z,rfl,hl,q⟩:=h;obtain⟨t,rfl⟩:=rx;have part:∀{v:Value}{o:Option Int},IsPart v o->∃p:Option (Int × Tok),v=partValue p/\p.map (·.1)=o:=fun p=>by
  cases p with
  |none=>exact⟨none,rfl,rfl⟩
  |int i t=>exact⟨some (i,t),rfl,rfl⟩
 obtain⟨p,rfl,rfl⟩:=part pl;obtain⟨p2,rfl,rfl⟩:=part pu;refine⟨"str",_,F.slot_str_getitem.lookup,typeIs_str _ _ _,?_⟩;refine wpAny_getItem_str_slice (l:=p) (u:=p2) (st:=none) hs rfl ?_;unfold sliceMade slicePicked;refine post_val_or_made (fun _=>?_) fun t2 k=>⟨.str (StrLaws.sliceText z (p.map (·.1)) (p2.map (·.1))),H,I.tok k,⟨t2,rfl⟩,q⟩;show(List.filterMap _ _).toArray.size<=sizeLine;rw[tJ];exact Nat.le_trans (List.length_filterMap_le _ _) (Nat.le_trans (sliceIndices_le _ _ _) hl)
end
theorem wb:typeLookup (.type "list_reverseiterator") "__len__"=pure none:=by rw[typeLookup_type,builtinLookup_eq_fast];kernel_rfl
theorem yE:typeLookup (.type "list_reverseiterator") "__length_hint__"=pure (some (.builtin "list_reverseiterator.__length_hint__")):=by rw[typeLookup_type,builtinLookup_eq_fast];kernel_rfl
section
variable {prog:Program}{w:World}{A:Around}{E:Value->Shared->Prop}{s:Shared}
theorem wc(hh:A.handled=none)(I l:Addr)(hne:l≠I)(items:Array Value):
  WalksS prog w A I [I,l] [I] (fun a b=>a=b) items.size (fun i v=>items[items.size-1-i]? =some v) (fun i s=>i<=items.size/\s.heap.IsRevIter I l ((items.size:Int)-1-(i:Int))/\s.heap.IsList l items) where
 sub:=fun b hb=>by simp at hb;simp[hb]
 grefl:=fun _=>rfl
 gtrans:=fun _ _ _ a b=>a.trans b
 frame:=fun i s h' tk x _ hk=>⟨x.1,x.2.1.at fun o e=>hk I (by simp) o e,x.2.2.at fun o e=>hk l (by simp) o e⟩
 item:=fun i s Q E hi x hQ=>by
  have e:(items.size:Int)-1-(i:Int)=((items.size-1-i:Nat):Int):=by omega
  have hit:=x.2.1;rw[e]at hit;have hx:items[items.size-1-i]? =some (items[items.size-1-i]'(by omega)):=Array.getElem?_eq_getElem (by omega);refine wpAny_pyNext_rev_item hit x.2.2 hx fun h' hit' hs'=>?_;have e2:((items.size-1-i:Nat):Int)-1=(items.size:Int)-1-((i+1:Nat):Int):=by omega
  rw[e2]at hit';exact hQ _ _ hx ⟨hi,hit',x.2.2.at fun o eo=>(hs'.2 l hne).trans eo⟩ ⟨fun b o hb eo=>hs'.extBut b o (fun h=>hb (by simp[h])) eo,rfl,rfl,rfl,uQ _⟩
 done:=fun s Q E x hQ=>by
  have e:(items.size:Int)-1-(items.size:Int)= -1:=by omega
  have hit:=x.2.1;rw[e]at hit;exact wpAny_pyNext_rev_end hh hit fun h' he'=>hQ _ ⟨fun b o hb eo=>he' b o (fun h=>hb (by simp[h])) eo,rfl,rfl,rfl,uQ _⟩
 self:=fun _ _ _ _ x hQ=>wpAny_pyIter_revIter x.2.1 hQ
variable {I:Addr}{fp wr:List Addr}{G:Array GenState->Array GenState->Prop}{n:Nat}{P:Nat->Value->Prop}{St:Nat->Shared->Prop}
theorem jB{Q:List Value->Shared->Prop}(W:WalksS prog w A.in1 I fp wr G n P St)(hT:∀i s,St i s->s.TypeIs (.ref I) "list_reverseiterator") (hst:St 0 s) (hfp:∀b∈fp,b<s.heap.objs.size) (hI:I∈fp)
  (hQ:∀s' acc,Moved wr G s s'->ItemsOf P acc n->Q acc.toList s') (hn:n<=sizeLine):wpAny (model prog w) A (collect (.ref I)) Q E s:=by
 have hSf:s.heap.objs.size∉fp:=fun hm=>tL _ (hfp _ hm);have hSI:s.heap.objs.size≠I:=fun e=>hSf (e▸hI);unfold collect;refine wpAny_bind (wpAny_runValue (codeAny_builtin F.entry_proto_collect ?_));rw[Around.under_plainId F.plain_proto_collect _];show wpAny _ A.in1 (newList []>>=fun l=>again (.builtin "list.__iadd__" ⟨[l,.ref I],[]⟩)) _ _ s;refine wpAny_bind (wpAny_newObj_type ?_);refine wpAny_pure ⟨plainId_quiet F.plain_list_iadd _,codeAny_builtin F.entry_list_iadd ?_⟩;rw[Around.under_plainId F.plain_list_iadd _];have hst₁:=W.frame 0 s (s.heap.push {cls:=.type "list",data:=.seq ([]:List Value).toArray}) s.toks hst (uQ _) fun b _ o e=>Heap.get?_push_of_some _ e;have hS₁:(s.heap.push {cls:=.type "list",data:=.seq ([]:List Value).toArray}).get? s.heap.objs.size=some {cls:=.type "list",data:=.seq ([]:List Value).toArray}:=Heap.get?_push_size _ rfl;have h1:Builtin.List.listSameRef (.ref s.heap.objs.size) (.ref I)=false:=by simp[Builtin.List.listSameRef,hSI]
 show wpAny _ A.in1 (Builtin.List.listExtendWith (.ref s.heap.objs.size) (.ref I) (.ref s.heap.objs.size)) _ _ _;unfold Builtin.List.listExtendWith;refine wpAny_bind (wpAny_typeOf (hT 0 _ hst₁) ?_);rw[if_neg (by rw[h1];decide)];refine wpAny_bind (W.self 0 _ _ _ hst₁ ?_);refine wpAny_bind (wpAny_holding ?_);unfold Builtin.List.listLengthHint;refine wpAny_bind (wpAny_specialOf (hT 0 _ hst₁) wb ?_);show wpAny _ A.in1 (specialOf (Value.ref I) (Str.ofString "__length_hint__")>>=_) _ _ _;refine wpAny_bind (wpAny_specialOf (hT 0 _ hst₁) yE ?_);generalize hid:("list_reverseiterator.__length_hint__":String)=id0
 (fail_if_success (clear hid id0))
 wp_delta
 rw[show splitId id0=some ("list_reverseiterator","__length_hint__")from by subst hid;decide+kernel];subst hid;refine wpAny_bind (wpAny_isInstance (b:=true) (hT 0 _ hst₁) (by rw[isSubtype_type];kernel_rfl) ?_);refine wpAny_pure ?_;rw[if_neg (by decide)];refine wpAny_pure ⟨plainId_quiet F.plain_extend_loop _,codeAny_extend_loopS W hn _ hSf _ n 0 _ _ _ rfl (tK _) hst₁ hS₁ (ItemsOf.nil P) fun s' acc' c' hm hS' hacc=>?_⟩;show wpAny _ A (load s.heap.objs.size>>=_) _ _ s';refine wpAny_bind (wpAny_load hS' ?_);exact wpAny_pure (hQ s' acc' (Moved.drop_new (o:={cls:=.type "list",data:=.seq ([]:List Value).toArray}) (tk:=s.toks) hm (uQ _)) hacc)
theorem yF{x:Str}{t:Tok}{Q:Value->Shared->Prop}(W:WalksS prog w A.in1.in1 I fp wr G n P St)(hT:∀i s,St i s->s.TypeIs (.ref I) "list_reverseiterator") (hst:St 0 s) (hfp:∀b∈fp,b<s.heap.objs.size) (hI:I∈fp)
  (hstr:∀i v,P i v->∃y u,v=Value.str y u)
  (hq:∀s'(l:List (Str × Tok)),Moved wr G s s'->ItemsOf P (strValues l).toArray n->JoinOk x (l.map (·.1))=true/\∀t' k,Q (.str (Txt.join x (l.map (·.1))) t') {s' with toks:=k}) (hsz:n<=sizeLine):
  wpAny (model prog w) A (call (.builtin "str.join") [.str x t,.ref I]) Q E s:=by
 refine wpAny_call (codeAny_call_builtin F.slot_str_join.plain F.entry_str_join (F.slot_str_join.check _ _ _ _ _ _ _ _ (typeIs_str _ _ _) (F.args_str_join_2 _ _) ?_));rw[join_tree_other];refine wpAny_bind (wpAny_typeOf (hT 0 s hst) ?_);show wpAny _ A.in1 ((pyIter (.ref I)).tryCatch _>>=fun it=>collect it>>=fun items=>joinTail x items) _ _ s;refine wpAny_bind (wpAny_tryCatch (W.of_in1.self 0 s _ _ hst ?_));refine wpAny_bind (jB W hT hst hfp hI (fun s' acc hm hacc=>?_) hsz);obtain⟨l,hl⟩:=exists_strValues acc.toList fun v hv=>by
  obtain⟨j,hj,rfl⟩:=Array.mem_iff_getElem.mp (Array.mem_toList_iff.mp hv);exact hstr j _ (hacc.2 j _ (Array.getElem?_eq_getElem hj))
 rw[←hl];have hacc':ItemsOf P (strValues l).toArray n:=by rw[hl];simpa using hacc
 obtain⟨hok,hpost⟩:=hq s' l hm hacc';unfold JoinOk at hok;rw[Bool.not_eq_true']at hok;have g:Gives (joinTail x (strValues l)) (joinMade x l):=by
  have g0:=gives_joinTail x l hok;cases l with
  |nil=>exact g0
  |cons p r=>cases r with
   |nil=>exact g0
   |cons q r'=>exact g0
 exact g prog w A (wants Q E) s' (post_join l ⟨joinFit_length hok,hpost⟩)
end
theorem boot_reversed:bootBuiltins "reversed"=some (.type "reversed"):=by boot_by_name
section
variable {X:Cx}
noncomputable def tJR(to te:TE):TE:=fun σ H Q=>to σ H fun x H1=>∃z,x=.str z/\te σ H1 fun y H2=>∃(l:Addr)(ys:List Str),y=.ref l/\H2 l=some (.lst (ys.map V.str))/\JoinOk z ys.reverse=true/\Q (.str (Txt.join z ys.reverse)) H2
theorem xK{o e:Expr}{to te:TE}{apos rpos cpos p:Pos}(hc:X.calm=true)(hg:Gl X "reversed")(hm:X.mg "reversed"=none)(ho:PE X o to)(he:PE X e te)
  (hbase:attributeBase o "join" X.env (eval o X.env)=eval o X.env:=by rfl) (hline:(apos.endLine==cpos.line)=true:=by rfl) (hs:starEach [e] X.env=[(false,eval e X.env)]:=by rfl):
  PE X (.Call (.Attribute o "join" apos) [.Call (.Name "reversed" p) [e] [] rpos] [] cpos) (tJR to te):=by
 intro pins s σ H Q I h;refine wpAny_Call_method_late hbase rfl hline rfl (thn (ho pins s σ H _ I h) fun v s1⟨x,H1,I1,r1,q1⟩=>?_);obtain⟨z,rfl,q1⟩:=q1;obtain⟨t,rfl⟩:=r1;refine⟨"str","str.join",plainAttrs_str,slot_str_join,type_str_join,typeIs_str _ _ _,(fun _ e=>nomatch e),?_⟩;refine Calls.callWith_builtin rfl (Calls.evalArgs_plain ?_);show wpAny _ _ (spliced ((false,eval (.Call (.Name "reversed" p) [e] [] rpos) X.env)::[])) _ _ s1;refine Calls.spliced_cons ?_;refine wpAny_Call_Name_kw (ZV I1 hg hm boot_reversed ?_ (by decide) (by decide));refine PyProof.Rows.callWith_type1 ?_ hs rfl;rw[hs];show wpAny _ _ (spliced ((false,eval e X.env)::[])) _ _ s1;refine Calls.spliced_cons (thn (he pins s1 σ H1 _ I1 q1) fun y s2⟨yv,H2,I2,r2,l,ys,e2,hl,hj,q2⟩=>Calls.spliced_nil ?_);subst e2;obtain rfl:y=Value.ref l:=r2;obtain⟨zz,its,n,rv,hlen,eo⟩:=I2.QcS hl;have hil:s2.heap.IsList l its.toArray:=⟨_,eo,rfl,n,rfl⟩;have lenI:its.length=ys.length:=by rw[←rv.length,uN]
 refine call_reversed_list hil ?_;refine Calls.spliced_nil ?_;have up:∀b o,s2.heap.get? b=some o->(s2.heap.push (revObj l ((its.toArray.size:Int)-1))).get? b=some o:=fun b o e=>Heap.get?_push_of_some _ e;have I3:Inv X pins σ H2 {s2 with heap:=s2.heap.push (revObj l ((its.toArray.size:Int)-1))}:=I2.kept (t':=s2.toks) up;have hne:l≠s2.heap.objs.size:=Nat.ne_of_lt (Heap.lt_size eo);have hh:X.A.in1.in1.handled=none:=I2.ok.hd hc;have hstr0:∀(i:Nat)(u:Value),its.toArray[its.toArray.size-1-i]? =some u->∃y t,u=Value.str y t:=fun i u hu=>by
  have h1:its[its.toArray.size-1-i]? =some u:=by simpa using hu
  have hlt:=(List.getElem?_eq_some_iff.mp h1).1;have h2:(ys.map V.str)[its.toArray.size-1-i]? =some ((ys.map V.str)[its.toArray.size-1-i]'(by rw[uN];omega)):=List.getElem?_eq_getElem _;obtain⟨u',e',r'⟩:=rv.get h2;rw[h1]at e';cases e';rw[List.getElem_map]at r';obtain⟨t',rfl⟩:=r';exact⟨_,_,rfl⟩
 show wpAny _ _ (call (.builtin "str.join") [.str z t,.ref s2.heap.objs.size]) _ _ _;refine yF (wc hh s2.heap.objs.size l hne its.toArray) (fun i s x=>x.2.1.typeIs) ⟨tK _,⟨_,Heap.get?_push_size _ rfl,rfl,by simp[revObj]⟩,hil.push _⟩ (fun b hb=>?_) (by simp) hstr0 (fun s' ls hm hi=>?_) ?_
 ·show b<(s2.heap.push _).objs.size;rw[Heap.size_push];rcases List.mem_cons.mp hb with rfl|hb
  ·exact Nat.lt_succ_self _
  ·rw[List.mem_singleton.mp hb];exact Nat.lt_succ_of_lt (Heap.lt_size eo)
 ·have els:ls.map (·.1)=ys.reverse:=by
   have hsz:ls.length=its.length:=by
    have:=hi.1;unfold strValues at this;simpa using this
   refine List.ext_getElem? fun j=>?_
   by_cases hj:j<ls.length
   ·have e1:(strValues ls).toArray[j]? =some (Value.str ls[j].1 ls[j].2):=by
     unfold strValues;simp[hj]
    have e2:=hi.2 j _ e1;have e3:its[its.toArray.size-1-j]? =some (Value.str ls[j].1 ls[j].2):=by simpa using e2
    have h2:(ys.map V.str)[its.toArray.size-1-j]? =some ((ys.map V.str)[its.toArray.size-1-j]'(by rw[uN,tJ];omega)):=List.getElem?_eq_getElem _;obtain⟨u',e',r'⟩:=rv.get h2;rw[e3]at e';cases e';rw[List.getElem_map]at r';obtain⟨t',r'⟩:=r';have hq:=(Value.str.inj r').1;rw[u5,List.getElem?_eq_getElem hj,List.getElem?_reverse (by omega)];simp only[Option.map_some];have hix:its.toArray.size-1-j=ys.length-1-j:=by rw[tJ,lenI]
    simp only[hix]at hq;rw[List.getElem?_eq_getElem (by omega),hq]
   ·rw[List.getElem?_eq_none (by rw[uN];omega),List.getElem?_eq_none (by rw[u0];omega)]
  rw[els];refine⟨hj,fun t' k=>?_⟩;obtain⟨h',g',d',tk',os'⟩:=s';obtain rfl:g'=s2.gens:=hm.gens.symm;obtain rfl:d'=s2.drawn:=hm.drawn;obtain rfl:os'=s2.os:=hm.os;have fr:H2 s2.heap.objs.size=none:=I2.hok.fresh (uQ _);have F3:=I2.kj (uQ _) fr;obtain⟨f0,f1,f2,f3,f4,f5⟩:=F3;refine⟨.str _,H2,?_,⟨t',rfl⟩,q2⟩;exact(I3.turned (h':=h') (t':=k) (it:=s2.heap.objs.size) (fun b o hb e=>hm.heap b o (by simpa using hb) e) f0 f1 f3 f4 f5:)
 ·rw[tJ,lenI, ←uN (f:=V.str)];exact zz
end
section
variable {X:Cx}
theorem Zw:OpR X (binaryOp .Mult) (fun x y H Q=>∃z n,x=.str z/\y=.int n/\ -(2^40)<n/\z.length*n.toNat<=sizeLine/\n<2^40/\Q (.str (U3 z n.toNat)) H):=by
 intro pins s σ H x y v u Q I rx ry h;obtain⟨z,n,ex,ey,h0,hl,hn,q⟩:=h
 by_cases hz:0<=n
 ·exact xG pins s σ H x y v u Q I rx ry ⟨z,n,ex,ey,hz,hl,hn,q⟩
 ·subst ex ey;obtain⟨t,rfl⟩:=rx;obtain⟨t',rfl⟩:=ry;refine PySem.P.mul_str ?_ ?_ ?_ ?_
  ·rw[uO (by omega),uO (by omega)];rfl
  ·intro h1 h2 h3;omega
  ·intro h1 h2;omega
  ·rw[if_pos (by omega)];have e:U3 z n.toNat=Str.empty:=by rw[show n.toNat=0 by omega];rfl
   exact⟨by decide,.str (U3 z n.toNat),H,I.tok _,⟨_,by rw[e]⟩,q⟩
end
noncomputable def QbC(lo c:Int)(n:Nat):It:=⟨fun i _=>i<n,fun i H x H'=>H'=H/\x=.int (lo+i*c),fun i _=>n<=i⟩
theorem Vs{P:Program}{w:World}{K:PySem.W.Frag}{tg:Expr}(it:Addr)(lo c:Int)(n:Nat):Turn P w K tg (QbC lo c n) [it] it (fun i h=>IsRangeIter h it (lo+(i:Nat)*c) ((n:Int)-(i:Nat)) c) where
 mem:=by simp
 obj:=fun i h st b hb=>by
  have e:b=it:=by simpa using hb
  subst e;exact⟨_,st,fun v z=>by
   have z':Data.fields _=Data.cell v:=z;cases z'⟩
 keep:=fun i h h' st k=>k it (by simp) _ st
 item:=by
  intro X hP hw hK hc i pins s σ H E I hf st hg;subst hP hw hK;obtain⟨f0,f1,f2,f3,f4,f5⟩:=hf it (by simp);have W:=Walks.range (prog:=X.prog) (w:=X.w) (I.ok.hd hc) it lo c n;refine W.item i s _ _ hg st fun v h' tk hv st' kk=>?_;obtain⟨t,rfl⟩:=hv;have I1:Inv X pins σ H {s with heap:=h',toks:=tk}:=I.turned (fun b o hb e=>kk b o (by simpa using hb) e) f0 f1 f3 f4 f5;exact⟨_,rfl,xu (s:={s with heap:=h',toks:=tk}) (n:="range_iterator") st' rfl rfl (by decide) ⟨.int (lo+i*c),H,I1,⟨t,rfl⟩,⟨rfl,rfl⟩,st',fun b hb=>(hf b hb).1⟩⟩
 done:=by
  intro X hP hw hK hc i pins s σ H E I hf st hg;subst hP hw hK;obtain⟨f0,f1,f2,f3,f4,f5⟩:=hf it (by simp);exact wpAny_pyNext_range_end (I.ok.hd hc) st (by have:n<=i:=hg;omega) fun h' eb=>⟨rfl,I.turned (t':=s.toks) (fun b o hb e=>eb b o hb e) f0 f1 f3 f4 f5⟩
 self:=fun _ _ _ _ _ st h=>wpAny_pyIter_rangeiter st h
section
variable {X:Cx}{tg:Expr}
noncomputable def QeO(ta:TA):TI:=fun σ H R=>ta σ H fun vs H1=>∃(i j c:Int)(n:Nat),vs=[.int i,.int j,.int c]/\(-(2^40)<=i/\i<2^40/\ -(2^40)<=j/\j<2^40/\0<c/\c<2^20)/\Builtin.Range.rangeSize i j c=(n:Int)/\R (QbC i c n) H1
theorem we{a b d:Expr}{ta:TA}{p pos:Pos}(hg:Gl X "range")(hm:X.mg "range"=none)(ha:PA X [a,b,d] ta)(hs:starEach [a,b,d] X.env=(false,eval a X.env)::starEach [b,d] X.env:=by rfl)(hp:(backTo pos (starEach [b,d] X.env)).any (·.1)=false:=by rfl):
  PI X tg (.Call (.Name "range" p) [a,b,d] [] pos) (QeO ta):=by
 intro pins s σ H R I h;refine Call_ (ZV I hg hm boot_range (PyProof.Rows.callWith_type1 (thn (ha pos pins s σ H _ I h) fun us s1⟨vs,H1,I1,r1,q1⟩=>?_) hs hp));obtain⟨i,j,c,n,e,⟨b1,b2,b3,b4,b5,b6⟩,hn,q⟩:=q1;subst e;obtain⟨u1,u2,u3,rfl,⟨t1,rfl⟩,⟨t2,rfl⟩,⟨t3,rfl⟩⟩:∃u1 u2 u3,us=[u1,u2,u3]/\RelV (.int i) u1/\RelV (.int j) u2/\RelV (.int c) u3:=by
  cases r1 with
  |cons p q=>
   cases q with
   |cons p' q'=>
    cases q' with
    |cons p'' q''=>
     cases q'';exact⟨_,_,_,rfl,p,p',p''⟩
 refine call_range_3 (by omega) ?_ (.inl (PyProof.noPylong_small (by omega)));refine wpAny_pyIter_range (IsRange.new ..) ?_ ?_
 ·have hq1:0<=(n:Int):=Int.natCast_nonneg n;have hq2:(n:Int)<=2^41:=by
   rw[←hn];unfold Builtin.Range.rangeSize;rw[if_pos b5]
   split
   ·have:(j-i-1)/c<=(j-i-1)/1:=by
     rw[Int.ediv_one];exact Int.ediv_le_self _ (by omega)
    rw[Int.ediv_one]at this;omega
   ·omega
  unfold Builtin.Range.small;simp only[hn];unfold Builtin.Range.rangeFitsLong;rw[if_pos b5];rw[uP (show-(2^63)<=i by omega),uP (show i<2^63 by omega),uP (show-(2^63)<=j by omega),uP (show j<2^63 by omega),uP (show-(2^63)<=c by omega),uP (show c<2^63 by omega),uP (show-(2^63)<=(n:Int) by omega),uP (show(n:Int)<2^63 by omega),
   uP (show-(2^63)<=j+(c-1) by omega),uP (show j+(c-1)<2^63 by omega)]
  simp
 have I2:Inv X pins σ H1 {s1 with heap:=s1.heap.push {cls:=.type "range",data:=.fields #[.int i t1,.int j t2,.int c t3]},toks:=s1.toks}:=I1.kept fun b o e=>Heap.get?_push_of_some _ e;refine⟨(s1.heap.push {cls:=.type "range",data:=.fields #[.int i t1,.int j t2,.int c t3]}).objs.size,[(s1.heap.push {cls:=.type "range",data:=.fields #[.int i t1,.int j t2,.int c t3]}).objs.size],_,_,H1,rfl,
  I2.kept (t':=s1.toks) fun b o e=>Heap.get?_push_of_some _ e,Vs _ i c n,?_,fun b hb=>?_,q⟩
 ·have e1:i+((0:Nat):Int)*c=i:=by simp
  have e2:((n:Nat):Int)-((0:Nat):Int)=Builtin.Range.rangeSize i j c:=by rw[hn];simp
  show IsRangeIter _ _ (i+((0:Nat):Int)*c) (((n:Nat):Int)-((0:Nat):Int)) c;rw[e1,e2];exact Heap.get?_push_size _ rfl
 ·have e:b=(s1.heap.push {cls:=.type "range",data:=.fields #[.int i t1,.int j t2,.int c t3]}).objs.size:=by simpa using hb
  subst e;exact I2.kj (uQ _) (I2.hok.fresh (uQ _))
theorem xL{lo c:Int}{n:Nat}{g:TG}{tb:TS}{D:Ends}{σ:St}{H:Hp}(Pv:Nat->St->Hp->Prop)(h0:Pv 0 σ H)
  (hs:∀i σ H,i<n->Pv i σ H->g (.int (lo+i*c)) σ H fun σ2 H2=>tb {D with nx:=Pv (i+1),ct:=Pv (i+1),bk:=D.nx} σ2 H2) (hd:∀σ H,Pv n σ H->D.nx σ H):
  ∃W:Nat->Nat->St->Hp->Prop,(∃m,W 0 m σ H)/\∀i m σ H,W i m σ H->
   ((QbC lo c n).stop i H/\D.nx σ H)\/((QbC lo c n).go i H/\∃N:St->Hp->Prop,(∀σ' H',N σ' H'->∃m',m'<m/\W (i+1) m' σ' H')/\∀x H',(QbC lo c n).yld i H x H'->g x σ H' fun σ2 H2=>tb {D with nx:=N,ct:=N,bk:=D.nx} σ2 H2):=by
 refine⟨fun i m σ H=>m=n-i/\i<=n/\Pv i σ H,⟨n,by simp,tK _,h0⟩,?_⟩;rintro i m σ H ⟨rfl,hi,p⟩
 by_cases hlt:i<n
 ·refine .inr ⟨hlt,Pv (i+1),fun σ' H' p'=>⟨n-(i+1),by omega,rfl,hlt,p'⟩,fun x H' y=>?_⟩;obtain⟨e,y⟩:=y;subst e y;exact hs i σ _ hlt p
 ·have e:i=n:=by omega
  subst e;exact .inl ⟨uQ _,hd σ H p⟩
end
structure PAx(X:Cx)(es:List Expr)(t:TA):Prop where
 pa:PA X es t
structure PSy(X:Cx)(st:Stmt)(t:TS):Prop where
 ps:PS X st t
section
variable {X:Cx}
theorem Jy:PAx X [] WV:=⟨Qb⟩
theorem Wa{x:Str}{j:Nat}{p:Pos}{es:List Expr}{t:TA}(hr:PAx X es t):PAx X (.Constant (.str x) j p::es) (Jn (tC (.str x)) t):=⟨Qa Qk hr.pa rfl⟩
theorem jC{es:List Expr}{t:TA}{pos:Pos}(h:PAx X es t):PEx X (.List es pos) (Qdc t):=⟨X9 h.pa⟩
theorem Qz{st:Stmt}{rest:List Stmt}{t1 t2:TS}(h:PSy X st t1)(hr:PSx X rest t2):PSx X (st::rest) (Xu t1 t2):=⟨Qc h.ps hr.ps⟩
theorem QJ{st:Stmt}{t:TS}(h:PSy X st t):PSx X [st] t:=⟨Qf h.ps⟩
end
theorem QeP{P:Program}{w:World}{K:PySem.W.Frag}{mg:Str->Option Value}{base:Heap}{x qual:Str}{st:Stmt}{f:Addr}{fd:FuncData}{cdv:Value}{N ps:List Str}{k:Nat}{sp:Sp}(F:FunC K x qual st f fd cdv)(S:FnScope N ps (Qe st))(len:∀vs H Q E,sp vs H Q E->vs.length=ps.length)
  (hbody:∀(A:Around)(outer:List Env)(s:Shared)(H:Hp)(vs:List V)(Q:VK)(E:XK),Room k (A.deeper (envOfC qual (Qe st) s.heap.objs.size f cdv))->sp vs H Q E->
   ∃t,PSx (qe (CXE P w) P w K mg base N qual (Qe st) f cdv A outer s H E).nox (Q6 st) t/\t {nx:=fun _ H'=>Q .non H',rt:=Q} (start N vs) H):FnOk P w K mg base (CXE P w) (k+1) f fd ps sp:=
 QfZ F S len fun A outer s H vs Q E hr hsp=>by
  obtain⟨t,h,q⟩:=hbody A outer s H vs Q E hr hsp;exact⟨t,h.ps,q⟩
noncomputable def wf(z y:Str)(i:Int):Int:=match occurrences z y (fromIndex z.length i) z.length 1 with|k::_=>(k:Int)|[]=> -1
theorem qt:∀{ys:List Str}{us:List Value},Vals (ys.map V.str) us->∃l:List (Str × Tok),us=strValues l/\l.map (·.1)=ys
 |[],_,.nil=>⟨[],rfl,rfl⟩
 |y::ys,_,.cons r t=>by
  obtain⟨l,e1,e2⟩:=qt t;obtain⟨tk,rfl⟩:=r;exact⟨(y,tk)::l,by rw[e1];rfl,by rw[tH,e2]⟩
section
variable {X:Cx}
theorem Kh:MtR X "str.join" (fun x vs H Q=>∃(z:Str)(p:Addr)(ys:List Str),x=.str z/\vs=[.ref p]/\SqL X.K H p (ys.map V.str)/\JoinOk z ys=true/\Q (.str (Txt.join z ys)) H):=by
 intro pins s σ H x vs v us Q I rx rv h;obtain⟨z,p,ys,rfl,rfl,hq,hj,q⟩:=h;obtain⟨t,rfl⟩:=rx;obtain⟨u,rfl,ru⟩:=vals1 rv;obtain rfl:u=Value.ref p:=ru;obtain⟨its,rv,pl,hl⟩:=I.list hq;obtain⟨l,e1,e2⟩:=qt rv;subst e1;have hok:=hj;unfold JoinOk at hok;rw[Bool.not_eq_true', ←e2]at hok;refine call_meets F.slot_str_join (typeIs_str _ _ _) F.entry_str_join (F.args_str_join_2 _ _) (meets_str_join_list z t p l hok) ⟨pl.isList,?_⟩;refine post_join l ⟨joinFit_length hok,fun t' k=>⟨.str (Txt.join z (l.map (·.1))),H,I.tok k,⟨t',rfl⟩,?_⟩⟩;rw[e2];exact q
theorem yG:MtR X "str.find" (fun x vs H Q=>∃(z y:Str)(i:Int),x=.str z/\vs=[.str y,.int i]/\Q (.int (wf z y i)) H):=by
 intro pins s σ H x vs v us Q I rx rv h;obtain⟨z,y,i,rfl,rfl,q⟩:=h;obtain⟨t,rfl⟩:=rx;obtain⟨u1,u2,rfl,⟨t1,rfl⟩,⟨t2,rfl⟩⟩:=vals2 rv;exact call_gives F.slot_str_find F.entry_str_find (F.args_str_find_3 _ _ _) (gives_str_find_from z y i t t1 t2) ⟨.int _,H,I.tok _,⟨_,rfl⟩,q⟩
end
theorem Yu{prog:Program}{w:World}{A:Around}(hh:A.handled=none)(I l:Addr)(hne:l≠I)(items:Array Value):
  WalksS prog w A I [I,l] [I] (fun a b=>a=b) items.size (fun i v=>items[i]? =some v) (fun i s=>s.heap.IsListIter I l i/\s.heap.IsList l items) where
 sub:=fun b hb=>by simp at hb;simp[hb]
 grefl:=fun _=>rfl
 gtrans:=fun _ _ _ a b=>a.trans b
 frame:=fun i s h' tk x _ hk=>⟨x.1.at fun o e=>hk I (by simp) o e,x.2.at fun o e=>hk l (by simp) o e⟩
 item:=fun i s Q E hi x hQ=>by
  have hx:items[i]? =some (items[i]'hi):=Array.getElem?_eq_getElem hi;refine wpAny_pyNext_list_item x.1 x.2 hx fun h' st' sb=>?_;exact hQ _ _ hx ⟨st',x.2.at fun o eo=>(sb.2 l hne).trans eo⟩ ⟨fun b o hb eo=>(sb.2 b (fun h=>hb (by simp[h]))).trans eo,rfl,rfl,rfl,uQ _⟩
 done:=fun s Q E x hQ=>wpAny_pyNext_list_end hh x.1 x.2 (Array.getElem?_eq_none (uQ _)) fun h' eb=>hQ _ ⟨fun b o hb eo=>eb b o (fun h=>hb (by simp[h])) eo,rfl,rfl,rfl,uQ _⟩
 self:=fun _ _ _ _ x hQ=>wpAny_pyIter_listiter x.1 hQ
theorem jD{ns:List Int}{us:List Value}(r:Vals (ns.map V.int) us):∀i v,us.toArray[i]? =some v->∃t,v=Value.int (ns.getD i 0) t:=fun i v hv=>by
 have h1:us[i]? =some v:=by simpa using hv
 have hlt:=(List.getElem?_eq_some_iff.mp h1).1;have hl:=r.length;rw[uN]at hl;have h2:(ns.map V.int)[i]? =some (V.int (ns.getD i 0)):=by
  rw[u5,List.getElem?_eq_getElem (by omega)];simp[List.getD,List.getElem?_eq_getElem (show i<ns.length by omega)]
 obtain⟨u,e,q⟩:=r.get h2;rw[h1]at e;cases e;exact q
theorem jE(ns:List Int):∀k,k<=ns.length->preSum (fun i=>ns.getD i 0) k=(ns.take k).sum:=by
 intro k
 induction k with
 |zero=>intro _;rfl
 |succ k ih=>
  intro hk;have e:ns.take (k+1)=ns.take k++[ns.getD k 0]:=by
   rw[List.take_add_one,List.getElem?_eq_getElem (by omega)];simp[List.getD,List.getElem?_eq_getElem (show k<ns.length by omega)]
  show preSum _ k+ns.getD k 0=_;rw[ih (by omega),e,List.sum_append];simp
theorem QbD(val:Nat->Int):∀k,argBest (fun i j=>decide (val i>val j)) k<=k/\∀i,i<=k->val i<=val (argBest (fun i j=>decide (val i>val j)) k):=by
 intro k
 induction k with
 |zero=>exact⟨uQ _,fun i hi=>by rw[Nat.le_zero.mp hi];exact Int.le_refl _⟩
 |succ k ih=>
  unfold argBest
  by_cases h:val (k+1)>val (argBest (fun i j=>decide (val i>val j)) k)
  ·rw[if_pos (uP h)];refine⟨uQ _,fun i hi=>?_⟩;rcases Nat.lt_or_ge i (k+1)with h1|h1
   ·have:=ih.2 i (by omega);omega
   ·rw[show i=k+1 by omega];exact Int.le_refl _
  ·rw[if_neg (by rw[decide_eq_true_eq];exact h)];refine⟨by omega,fun i hi=>?_⟩;rcases Nat.lt_or_ge i (k+1)with h1|h1
   ·exact ih.2 i (by omega)
   ·rw[show i=k+1 by omega];omega
section
variable {X:Cx}
theorem YZ(hc:X.calm=true):K5 X (.builtin "sum") (fun xs H Q=>∃(p:Addr)(ns:List Int),xs=[.ref p]/\SqL X.K H p (ns.map V.int)/\Q (.int ns.sum) H):=by
 intro pins s σ H xs us Q I r h;obtain⟨p,ns,rfl,hq,q⟩:=h;obtain⟨u,rfl,ru⟩:=vals1 r;obtain rfl:u=Value.ref p:=ru;obtain⟨its,rv,pl,hl⟩:=I.list hq;have hil:=pl.isList;have hlt:p<s.heap.objs.size:=by obtain⟨o,e,_⟩:=hil;exact Heap.lt_size e
 have hlen:=rv.length;rw[uN]at hlen;refine call_sum_walkAnyS (wpAny_pyIter_list hil ?_);have I2:Inv X pins σ H {s with heap:=s.heap.push {cls:=.type "list_iterator",data:=.fields #[.ref p,.int 0 0]}}:=I.kept (t':=s.toks) fun b o e=>Heap.get?_push_of_some _ e;refine⟨s.heap.objs.size,_,_,_,_,_,_,fun i=>ns.getD i 0,rfl,Yu (A:=X.A.in1) (I.ok.hd hc) _ p (Nat.ne_of_lt hlt) its.toArray,⟨⟨_,Heap.get?_push_size _ rfl,rfl,rfl⟩,hil.push _⟩,fun b hb=>?_,jD rv,fun s' t' hm=>?_⟩
 ·show b<(s.heap.push _).objs.size;rw[Heap.size_push];rcases List.mem_cons.mp hb with rfl|hb
  ·exact Nat.lt_succ_self _
  ·rw[List.mem_singleton.mp hb];exact Nat.lt_succ_of_lt hlt
 ·obtain⟨f0,f1,f2,f3,f4,f5⟩:=I.kj (uQ _) (I.hok.fresh (uQ _));obtain⟨h',g',d',tk',os'⟩:=s';obtain rfl:g'=s.gens:=hm.gens.symm;obtain rfl:d'=s.drawn:=hm.drawn;obtain rfl:os'=s.os:=hm.os;have e:preSum (fun i=>ns.getD i 0) its.toArray.size=ns.sum:=by
   rw[tJ, ←hlen,jE ns _ (uQ _),List.take_length]
  rw[e];refine⟨.int ns.sum,H,?_,⟨t',rfl⟩,q⟩;exact(I2.turned (h':=h') (t':=tk') (it:=s.heap.objs.size) (fun b o hb eo=>hm.heap b o (by simpa using hb) eo) f0 f1 f3 f4 f5:)
theorem wg(hc:X.calm=true):K5 X (.builtin "max") (fun xs H Q=>∃(p:Addr)(ns:List Int),xs=[.ref p]/\SqL X.K H p (ns.map V.int)/\ns≠[]/\∀m,m∈ns->(∀n∈ns,n<=m)->Q (.int m) H):=by
 intro pins s σ H xs us Q I r h;obtain⟨p,ns,rfl,hq,hne,q⟩:=h;obtain⟨u,rfl,ru⟩:=vals1 r;obtain rfl:u=Value.ref p:=ru;obtain⟨its,rv,pl,hl⟩:=I.list hq;have hil:=pl.isList;have hlt:p<s.heap.objs.size:=by obtain⟨o,e,_⟩:=hil;exact Heap.lt_size e
 have hlen:=rv.length;rw[uN]at hlen;have hpos:0<ns.length:=by cases ns with|nil=>exact absurd rfl hne|cons a r=>exact Nat.succ_pos _
 refine call_max_walkS (wpAny_pyIter_list hil ?_);have I2:Inv X pins σ H {s with heap:=s.heap.push {cls:=.type "list_iterator",data:=.fields #[.ref p,.int 0 0]}}:=I.kept (t':=s.toks) fun b o e=>Heap.get?_push_of_some _ e;refine⟨s.heap.objs.size,_,_,_,_,_,_,_,rfl,Yu (A:=X.A.in1) (I.ok.hd hc) _ p (Nat.ne_of_lt hlt) its.toArray,⟨⟨_,Heap.get?_push_size _ rfl,rfl,rfl⟩,hil.push _⟩,fun b hb=>?_,by rw[tJ];omega,CmpOf.ints_gt (fun i=>ns.getD i 0) (jD rv),fun v s' hv hm=>?_⟩
 ·show b<(s.heap.push _).objs.size;rw[Heap.size_push];rcases List.mem_cons.mp hb with rfl|hb
  ·exact Nat.lt_succ_self _
  ·rw[List.mem_singleton.mp hb];exact Nat.lt_succ_of_lt hlt
 ·obtain⟨f0,f1,f2,f3,f4,f5⟩:=I.kj (uQ _) (I.hok.fresh (uQ _));obtain⟨h',g',d',tk',os'⟩:=s';obtain rfl:g'=s.gens:=hm.gens.symm;obtain rfl:d'=s.drawn:=hm.drawn;obtain rfl:os'=s.os:=hm.os;obtain⟨t,rfl⟩:=jD rv _ _ hv;obtain⟨b1,b2⟩:=QbD (fun i=>ns.getD i 0) (its.toArray.size-1);generalize argBest (fun i j=>decide (ns.getD i 0>ns.getD j 0)) (its.toArray.size-1)=j at b1 b2;rw[tJ]at b1 b2;have getD_eq:∀i,i<ns.length->ns.getD i 0=ns[i]! :=fun i hi=>by simp[List.getD,List.getElem?_eq_getElem hi]
  have hj:j<ns.length:=by omega
  refine⟨.int (ns.getD j 0),H,?_,⟨t,rfl⟩,q _ ?_ fun n hn=>?_⟩
  ·exact(I2.turned (h':=h') (t':=tk') (it:=s.heap.objs.size) (fun b o hb eo=>hm.heap b o (by simpa using hb) eo) f0 f1 f3 f4 f5:)
  ·have:ns.getD j 0=ns[j]:=by simp[List.getD,List.getElem?_eq_getElem hj]
   rw[this];exact List.getElem_mem hj
  ·obtain⟨i,hi,rfl⟩:=List.mem_iff_getElem.mp hn;have e:ns.getD i 0=ns[i]:=by simp[List.getD,List.getElem?_eq_getElem hi]
   rw[←e];exact b2 i (by omega)
end
structure KDict(P:Program)(w:World)(K:PySem.W.Frag)(a:Addr)(kvs:List (Key × V)):Prop where
 ne:(a==sysModules)=false
 ok:∀h:Heap,K.In h->∃vs,KV kvs vs/\h.DictOf (Ja P w) a vs
section
variable {X:Cx}{o i:Expr}{td ty:TE}{pos:Pos}{a:Addr}{kvs:List (Key × V)}
noncomputable def QeQ(a:Addr)(kvs:List (Key × V))(td ty:TE):TE:=fun σ H Q=>td σ H fun x H1=>ty σ H1 fun y H2=>∃k v,x=.ref a/\y=kV k/\WR kvs k=some v/\Q v H2
theorem WY(D:KDict X.prog X.w X.K a kvs)(ho:PE X o td)(hi:PE X i ty)(hs:Qel i):PE X (.Subscript o i pos) (QeQ a kvs td ty):=by
 intro pins s σ H Q I h;refine kR PySem.F.slot_dict_getitem.lookup hs (thn (ho pins s σ H _ I h) fun u s1⟨x,H1,I1,rx,q1⟩=>thn (hi pins s1 σ H1 _ I1 q1) fun iv s2⟨y,H2,I2,ry,k,v,ex,ey,l,q2⟩=>?_);subst ex ey;obtain rfl:u=Value.ref a:=rx;obtain⟨vs,rel,dd⟩:=D.ok s2.heap I2.kIn;obtain⟨w',hw,rw'⟩:=YI.some_of (v:=v) (o:=valueAt vs k) (by rw[←l];exact rel.val k);exact⟨dd.typeIs,wpAny_getItem_of (qg ry) dd.mapOf hw ⟨v,H2,I2.tok _,rw',q2⟩⟩
noncomputable def QbE(a:Addr)(kvs:List (Key × V))(ty td:TE):TE:=fun σ H Q=>ty σ H fun y H1=>td σ H1 fun x H2=>∃k,x=.ref a/\y=kV k/\Q (.bl (!(WR kvs k).isSome)) H2
theorem Yv(D:KDict X.prog X.w X.K a kvs)(hi:PE X i ty)(ho:PE X o td):PC X .NotIn i o (QbE a kvs ty td):=by
 intro pins s σ H Q I h;refine thn (hi pins s σ H _ I h) fun iv s1⟨y,H1,I1,ry,q1⟩=>thn (ho pins s1 σ H1 _ I1 q1) fun u s2⟨x,H2,I2,rx,k,ex,ey,q2⟩=>?_;subst ex ey;obtain rfl:u=Value.ref a:=rx;obtain⟨vs,rel,dd⟩:=D.ok s2.heap I2.kIn;refine wpAny_notIn_of (qg ry) D.ne dd.mapOf ?_;rw[←(rel.val k).Vl];exact⟨.bl _,H2,I2.tok _,rfl,q2⟩
end
theorem boot_sum:bootBuiltins "sum"=some (.builtin "sum"):=by boot_by_name
section
variable {X:Cx}
theorem QbF:PIp X .Add (fun x y H Q=>∃i j,x=.str i/\y=.str j/\i.length+j.length<=sizeLine/\Q (.str (i++j)) H):=by
 intro pins s σ H x y v u Q I r1 r2 h;obtain⟨i,j,e1,e2,hl,q⟩:=h;subst e1;subst e2;obtain⟨t,rfl⟩:=r1;obtain⟨t',rfl⟩:=r2;exact SB.iadd (fun t2 k=>⟨.str _,H,I.tok k,⟨t2,rfl⟩,q⟩) hl
end
section
variable {X:Cx}
theorem yH{elt tg iter:Expr}{ifs:List Expr}{scope:Scope}{pos spos py:Pos}{NB:List Str}{wi:TI}{g:TG}{tt:TT}{te:TE}{iy:Nat}{y:Str}(hc:X.calm=true)(S:BlkScope NB scope)(hi:PI X tg iter wi)
  (hg:∀s H ex,PG (JN X NB scope s H ex) tg g) (ht:∀s H ex,PTs (JN X NB scope s H ex) ifs tt) (he:∀s H ex,PE (JN X NB scope s H ex) elt te)
  (hN:X.N.Nodup) (hiy:X.N[iy]? =some y) (hy:Loc X.env.scope y) (hsw:swapsWith (.ListComp elt [⟨tg,iter,ifs,0⟩] scope pos) (some (.Name y py)) spos.line X.env=pure true)
  (hs:∀x,foldedSetIterable iter X.env x=pure x:=by intro _;rfl) (hf:X.fn y=true\/X.env.scope.names.lookup y=some .local:=by first|exact .inl rfl|exact .inr rfl|assumption):
  PS X (.Assign [.Name y py] (.ListComp elt [⟨tg,iter,ifs,0⟩] scope pos) spos) (Z2 (YW NB wi g tt te) (QV iy)):=by
 intro pins s σ H Dn I h;rw[exec_Assign_Name_used _ _ _ _ hsw];refine wpAny_bind (wpAny_standAt (wpAny_bind ?_));show wpAny _ X.A (do let _←comprehension (.ListComp elt [⟨tg,iter,ifs,0⟩] scope pos) scope X.env _ (newList []) false (eval iter X.env) (some (assign (.Name y py) X.env))) _ _ s;refine wpAny_bind (wpAny_mono (wpAny_comprehension_free (use:=some (assign (.Name y py) X.env)) (Q:=fun _ s'=>SP X pins Dn .next s') (cl:=[]) rfl hs (qr S.nofree) S.kind S.loc (thn (hi pins s σ H _ I h) fun v s1 h1=>thn h1 fun itv s2 h2=>?_)) (fun _ s' hq=>wpAny_pure (wpAny_pure hq)) fun _ _ e=>e);obtain⟨it,fp,tn,J,H2,e,I2,T,st2,f2,W,⟨m0,w0⟩,turn⟩:=h2;subst e;refine wpAny_newObj_type ?_;have up2:∀b o,s2.heap.get? b=some o->(s2.heap.push {cls:=.type "list",data:=.seq ([]:List Value).toArray}).get? b=some o:=fun b o e=>Heap.get?_push_of_some _ e;have I3:Inv X pins σ H2 {s2 with heap:=s2.heap.push {cls:=.type "list",data:=.seq ([]:List Value).toArray}}:=I2.kept (t':=s2.toks) up2;have st3:tn 0 (s2.heap.push {cls:=.type "list",data:=.seq ([]:List Value).toArray}):=T.keep _ _ _ st2 fun b _ o e=>up2 b o e;have hD3:(s2.heap.push {cls:=.type "list",data:=.seq ([]:List Value).toArray}).get? s2.heap.objs.size=some (X6 []):=Heap.get?_push_size _ rfl;have hD2:H2 s2.heap.objs.size=none:=I2.hok.fresh (uQ _);have lt2:∀b o,s2.heap.get? b=some o->b≠s2.heap.objs.size:=fun b o e=>Nat.ne_of_lt (Heap.lt_size e);have fpO:∀b∈fp,∃o,s2.heap.get? b=some o:=fun b hb=>let ⟨o,e,_⟩:=T.obj _ _ st2 b hb;⟨o,e⟩;have hDs0:X.s₀.heap.objs.size<=s2.heap.objs.size:=I2.sz;have hDL:s2.heap.objs.size≠X.env.locals:=Nat.ne_of_gt I2.lt;have hDC:∀x c,X.env.cells.lookup x=some c->c≠s2.heap.objs.size:=fun x c e=>let ⟨v,o,e1,_⟩:=I2.cell x c e;lt2 c o e1;have hDp:∀p∈X.pn++pins,p.1≠s2.heap.objs.size:=fun p hp=>lt2 p.1 _ (I2.pin p hp).1;have hDf:s2.heap.objs.size∉frs X.stack:=fun z=>let ⟨o,e,_⟩:=(I2.stack.mem z).2;lt2 _ o e rfl;generalize hS3:({s2 with heap:=s2.heap.push {cls:=.type "list",data:=.seq ([]:List Value).toArray}}:Shared)=s3 at I3 ⊢;have hh3:s3.heap=s2.heap.push {cls:=.type "list",data:=.seq ([]:List Value).toArray}:=by rw[←hS3]
 rw[←hh3]at st3 hD3 up2;generalize s2.heap.objs.size=D at hD3 hD2 lt2 hDs0 hDL hDC hDp hDf ⊢;refine Ka S.kind fun cenv s4 hce x4=>?_;subst hce;rw[WH S.nofree];have lt3:∀b o,s3.heap.get? b=some o->b<s3.heap.objs.size:=fun b o e=>Heap.lt_size e;have fp3:∀b∈fp,b<s3.heap.objs.size:=fun b hb=>let ⟨o,e⟩:=fpO b hb;lt3 b o (up2 b o e);have dl3:D<s3.heap.objs.size:=lt3 D _ hD3;have DfpN:∀b∈fp,b≠D:=fun b hb=>let ⟨o,e⟩:=fpO b hb;lt2 b o e;obtain⟨h4,tk4,rfl,hk4⟩:=x4.done;have bsN:∀b o,X.base.get? b=some o->b∉D::fp:=fun b o e hb=>by
  rcases List.mem_cons.mp hb with rfl|hb
  ·exact absurd (Nat.lt_of_lt_of_le (Heap.lt_size (I2.ok.bs b o e).1) hDs0) (tL _)
  ·obtain⟨_,_,_,f3,_⟩:=f2 b hb;rcases f3 with z|z
   ·exact I2.ok.noex b o e z
   ·exact absurd (Nat.lt_of_lt_of_le (Heap.lt_size (I2.ok.bs b o e).1) z) (tL _)
 have exF:∀b∈D::fp,b∉frs X.stack:=fun b hb hf=>by
  rcases List.mem_cons.mp hb with rfl|hb
  ·exact hDf hf
  ·obtain⟨_,f1,f2',_⟩:=f2 b hb;rcases List.mem_cons.mp (I2.Yp b hf)with z|z
   ·exact f1 z
   ·exact f2' z
 have cge:∀y c,(cellsFrom (s3.heap.objs.size+1) scope.names []).lookup y=some c->s3.heap.objs.size<c:=fun y c e=>x4.above y c (PySem.mem_of_lookup e);have exLt:∀b∈D::fp,b<s3.heap.objs.size:=fun b hb=>by
  rcases List.mem_cons.mp hb with rfl|hb
  ·exact dl3
  ·exact fp3 b hb
 have okB:(JN X NB scope s3 H2 (D::fp)).Ok:=by
  refine⟨I3.ok.mod,S.kind,I3.ok.glob,I3.ok.blt,uQ _,fun y z c h1 h2=>?_,fun y hy=>?_,fun y c _ h=>Nat.le_of_lt (cge y c h),I3.ok.hd,I3.ok.frames,.inl rfl,fun b hb=>⟨Nat.ne_of_lt (exLt b hb),fun y c e z=>?_⟩,I3.bs,Nat.le_trans I3.ok.bsz I3.sz,bsN,exF,I3.stack,I3.W9⟩
  ·exact name_of_addr x4.apart (PySem.mem_of_lookup h1) (PySem.mem_of_lookup h2)
  ·have hy:scope.names.lookup y=some .cell\/scope.names.lookup y=some .free:=hy;rcases hy with hy|hy
   ·exact WW hy
   ·exact absurd rfl (S.nofree _ (PySem.mem_of_lookup hy))
  ·have:=cge y c e;rw[z]at this;exact absurd (Nat.lt_trans this (exLt b hb)) (tL _)
 have rep:∀(j:Nat)(v:V),(List.replicate NB.length (none:Option V))[j]? ≠some (some v):=fun j v z=>by
  rw[List.getElem?_replicate]at z
  split at z<;>cases z
 have IB:Inv (JN X NB scope s3 H2 (D::fp)) [(D,X6 [])] (List.replicate NB.length none) H2 {s3 with heap:=h4,toks:=tk4}:=by
  refine⟨okB,rfl,I3.bare,Un.kept hk4,⟨_,x4.toInCall.ns,fun i y v h1 h2 h3=>absurd h2 (rep i v)⟩,fun y c h=>⟨_,x4.cell y c h⟩,I3.hok.fresh (uQ _),fun y c h=>I3.hok.fresh (Nat.le_of_lt (cge y c h)),fun p hp=>?_,I3.hok.kept hk4,by rw[tj]⟩;obtain rfl:p=(D,X6 []):=by simpa using hp
  exact⟨hk4 _ _ hD3,hD2,Nat.ne_of_lt dl3,hDf,fun v z=>nomatch z⟩
 have stat:∀{H':Hp}{ys:List Value},(∀b∈fp,H' b=none)->∀b∈fp,kq (JN X NB scope s3 H2 (D::fp)) [(D,X6 ys)] H' b:=fun hn b hb=>
  ⟨hn b hb,Nat.ne_of_lt (fp3 b hb),exF b (uW _ hb),.inl (uW _ hb),fun y c e z=>by
   have:=cge y c e;rw[z]at this;exact absurd (Nat.lt_trans this (fp3 b hb)) (tL _),fun p hp=>by
    obtain rfl:p=(D,_):=by simpa using hp
    exact(DfpN b hb).symm⟩
 have st4:tn 0 h4:=T.keep _ _ _ st3 fun b _ o e=>hk4 b o e;have fr4:∀b∈fp,H2 b=none:=fun b hb=>(f2 b hb).1;have hcB:(JN X NB scope s3 H2 (D::fp)).calm=true:=hc;have loop:codeAny (model X.prog X.w) X.A (.compLoop (.ListComp elt [⟨tg,iter,ifs,0⟩] scope pos) 0 (.ref it) (.ref D) (k9 scope X.env s3.heap.objs.size))
   (compPost (model X.prog X.w) X.A X.xe (some (assign (.Name y py) X.env)) (fun _ s'=>SP X pins Dn .next s') (.ref D) s3.heap.objs.size) {s3 with heap:=h4,toks:=tk4}:=by
  refine Vr (fun n s'=>∃i vs ys H',Inv (JN X NB scope s3 H2 (D::fp)) [(D,X6 ys)] (List.replicate NB.length none) H' s'/\Vals vs ys/\vs.length<=sizeLine/\tn i s'.heap/\(∀b∈fp,H' b=none)/\W i n vs H') ?_ m0 ⟨0,[],[],H2,IB,.nil,tK _,st4,fr4,w0⟩;rintro n s5 ⟨i,vs,ys,H5,I5,rv,hvl,st5,fr5,w5⟩;rcases turn i n vs H5 w5 with⟨stop,qn⟩|⟨go,hlt,N,hN,step⟩
  ·refine wpAny_mono (T.done (JN X NB scope s3 H2 (D::fp)) rfl rfl rfl hcB i _ s5 _ H5 (fun _ _=>False) I5 (stat fr5) st5 stop) (fun r s6⟨hr,I6⟩=>?_) (fun _ _ z=>z.elim);subst hr;obtain⟨m6,hn6,_⟩:=id I6.loc;have hC6:H5 s3.heap.objs.size=none:=I6.free;have un7:Un (frs X.stack) (D::fp) H2 H5 s3.heap s6.heap:=I6.base;have I7:Inv X pins σ H5 s6:=I3.yc (s':=s6) I6.os un7 I6.hok I6.bare fun b hb=>by
    rcases List.mem_cons.mp hb with rfl|hb
    ·exact⟨.inr hDs0,hDL,hDC,hDp⟩
    ·obtain⟨_,f1,_,f3,f4,f5⟩:=f2 b hb;exact⟨f3,f1,f4,f5⟩
   obtain⟨eD,nD,_⟩:=I6.pin (D,X6 ys) (by simp);have nD':H5 D=none:=nD;have eD':s6.heap.get? D=some (X6 ys):=eD;have hD0:X.s₀.heap.get? D=none:=by
    cases q:X.s₀.heap.get? D with
    |none=>rfl
    |some o=>exact absurd (Nat.lt_of_lt_of_le (Heap.lt_size q) hDs0) (tL _)
   have I8:Inv X pins σ (upd H5 D (.lst vs)) s6:=I7.Qby nD' hD0 hDL hDC hDp ⟨hvl,ys,ys.length,rv,eD'⟩;have hq:=qn D nD';have s03:X.s₀.heap.objs.size<=s3.heap.objs.size:=I3.sz;have cL:s3.heap.objs.size≠X.env.locals:=Nat.ne_of_gt I3.lt;have cC:∀x c,X.env.cells.lookup x=some c->c≠s3.heap.objs.size:=fun x c e=>let ⟨v,o,e1,_⟩:=I3.cell x c e;Nat.ne_of_lt (lt3 c o e1);have cP:∀p∈X.pn++pins,p.1≠s3.heap.objs.size:=fun p hp=>Nat.ne_of_lt (lt3 p.1 _ (I3.pin p hp).1);show wpAny (model X.prog X.w) X.A (assign (.Name y py) X.env (.ref D)) _ X.xe s6;refine wpAny_assign_Name (U4 (v:=.ref D) I8 hN hiy hy rfl (fun s9 I9⟨a9,sb9,ha9⟩=>?_) hf);have na:s3.heap.objs.size≠a9:=by
    rcases ha9 with rfl|z
    ·exact cL
    ·exact(cC y a9 z).symm
   refine⟨m6,hn6.sameBut sb9 na,fun h10 sb10=>⟨_,_,?_,hq⟩⟩;have hD3':upd H5 D (.lst vs) s3.heap.objs.size=none:=by rw[Ql (Nat.ne_of_gt dl3)];exact hC6
   exact(I9.turned (h':=h10) (t':=s9.toks) (it:=s3.heap.objs.size) (fun b o hb e=>(sb10.2 b hb).trans e) hD3' cL (.inr s03) cC cP:)
  ·refine wpAny_mono (T.item (JN X NB scope s3 H2 (D::fp)) rfl rfl rfl hcB i _ s5 _ H5 (fun _ _=>False) I5 (stat fr5) st5 go) (fun r s6⟨u,hr,h6⟩=>?_) (fun _ _ z=>z.elim);subst hr;refine wpAny_mono h6 (fun _ s7⟨x,H7,I7,r7,y7,st7,fr7⟩=>?_) (fun _ _ z=>z.elim);have I7':=I7.pinned (stat fr7) (T.obj _ _ st7);refine wpAny_mono (hg s3 H2 (D::fp) _ s7 _ H7 x u _ I7' r7 (step x H7 y7)) (fun _ s8⟨σ8,H8,I8,q8⟩=>?_) (fun _ _ z=>z.elim);refine wpAny_mono (ht s3 H2 (D::fp) _ s8 σ8 H8 _ I8 q8) (fun ok s9⟨H9,I9,q9⟩=>?_) (fun _ _ z=>z.elim);have fpK:∀{σ':St}{H':Hp}{s':Shared},Inv (JN X NB scope s3 H2 (D::fp)) ([(D,X6 ys)]++Ve fp s7.heap) σ' H' s'->tn (i+1) s'.heap/\∀b∈fp,H' b=none:=fun J=>
    ⟨T.keep _ _ _ st7 fun b hb o e=>(J.pin (b,o) (uU _ (uU _ (JL hb e)))).1,fun b hb=>by
     obtain⟨o,e,d⟩:=T.obj _ _ st7 b hb;exact(J.pin (b,o) (uU _ (uU _ (JL hb e)))).2.1⟩
   have wk:∀{σ':St}{H':Hp}{s':Shared}{pl:List (Addr × Obj)},Inv (JN X NB scope s3 H2 (D::fp)) pl σ' H' s'->Inv (JN X NB scope s3 H2 (D::fp)) pl (List.replicate NB.length none) H' s':=fun J=>
    J.weak (by rw[tj];exact J.len.symm) fun j v z=>absurd z (rep j v)
   cases ok with
   |false=>
    rw[if_neg (by decide)]at q9;rw[if_neg (by decide)];obtain⟨m',hm,w9⟩:=hN vs H9 q9;obtain⟨t9,f9⟩:=fpK I9;exact⟨m',hm,i+1,vs,ys,H9,wk I9.Zn,rv,hvl,t9,f9,w9⟩
   |true=>
    rw[if_pos rfl]at q9;rw[if_pos rfl];refine wpAny_mono (he s3 H2 (D::fp) _ s9 σ8 H9 _ I9 q9) (fun y s10⟨v,H10,I10,rv10,q10⟩=>?_) (fun _ _ z=>z.elim);obtain⟨eD,nD,_,nf,_⟩:=I10.pin (D,X6 ys) (by simp);have hyl:=rv.length;refine append_at (hsz:=by show ys.toArray.size<=sizeLine;rw[tJ, ←hyl];exact hvl) eD fun h11 sb11 hD11=>?_;obtain⟨m',hm,w11⟩:=hN (vs++[v]) H10 q10;obtain⟨t10,f10⟩:=fpK I10;have I10u:=I10.Zn;have k11:∀b o,b≠D->s10.heap.get? b=some o->h11.get? b=some o:=fun b o hb e=>(sb11.2 b hb).trans e;have IE:Inv (JN X NB scope s3 H2 (D::fp)) [] σ8 H10 s10:=I10u.Xv fun p hp=>nomatch hp;have I11:Inv (JN X NB scope s3 H2 (D::fp)) [] σ8 H10 {s10 with heap:=h11}:=IE.turned (t':=s10.toks) k11 nD (Nat.ne_of_lt dl3) (.inl uX) (fun y' c e z=>by
     have:=cge y' c e;rw[z]at this;exact absurd (Nat.lt_trans this dl3) (tL _)) (fun p hp=>absurd (show p∈([]:List (Addr × Obj))from hp) (by simp))
    have eL:({cls:=.type "list",data:=.seq (ys.toArray.push y) (ys.length+1)}:Obj)=X6 (ys++[y]):=by
     show({cls:=.type "list",data:=.seq (ys.toArray.push y) (ys.length+1)}:Obj)={cls:=.type "list",data:=.seq (ys++[y]).toArray (ys++[y]).length};rw[uM,uS,List.push_toArray]
    refine⟨m',hm,i+1,vs++[v],ys++[y],H10,wk (I11.Xv fun p hp=>?_),rv.append (.cons rv10 .nil),by rw[uM,uS];exact hlt,T.keep _ _ _ t10 fun b hb o e=>k11 b o (DfpN b hb) e,f10,w11⟩;obtain rfl:p=(D,X6 (ys++[y])):=by simpa using hp
    exact⟨by rw[←eL];exact hD11,nD,Nat.ne_of_lt dl3,nf,fun v z=>nomatch z⟩
 exact codeAny_compStart_list loop (T.self _ 0 _ _ _ st4 loop)
theorem xM{K0:PySem.W.Frag}(hK:X.K=K0):OpR X (compareOp .In) (rIn K0 false):=by
 subst hK;exact kL
end
end L2
namespace K01
noncomputable def ten(m:Int):Int:=10^m.toNat
noncomputable def zH(i:Int):Int:=if i<0 then-i else i
noncomputable def QcT(a b:Int):Int:=if decide (a<0) !=decide (b<0)then-(zH a/zH b)else zH a/zH b
noncomputable def yI(u o p:Int):Int:=QcT (u*ten (p-o)) (ten (o-p))
theorem XC(m:Int):0<ten m:=Int.pow_pos (by decide)
theorem QbG{m:Int}(h:m<=0):ten m=1:=by
 unfold ten;rw[Int.toNat_of_nonpos h];rfl
theorem QbH{a b:Int}(ha:0<=a)(hb:0<=b):ten (a+b)=ten a*ten b:=by
 unfold ten;rw[Int.toNat_add ha hb,Int.pow_add]
theorem Qdv{a b:Int}(h:a<=b)(hb:0<=b):ten a<=ten b:=by
 by_cases ha:0<=a
 ·rw[show b=a+(b-a) by omega,QbH ha (by omega)];have:=XC (b-a);have h2:=XC a
  calc ten a=ten a*1:=(Int.mul_one _).symm
   _<=ten a*ten (b-a):=Int.mul_le_mul_of_nonneg_left (by omega) (Int.le_of_lt h2)
 ·rw[QbG (by omega)];have:=XC b;omega
end K01
namespace K02
open PySem PySem.NumText Builtin Builtin.Str StrLaws
noncomputable abbrev tx(l:List Nat):Str:=⟨l.toArray⟩
theorem Vt(l:List Nat):(tx l).cps.toList=l:=rfl
theorem Qq(l:List Nat):(tx l).length=l.length:=by show l.toArray.size=_;rw[tJ]
theorem qu(z:Str):z=tx z.cps.toList:=by cases z;rfl
theorem len_list(z:Str):z.length=z.cps.toList.length:=by show z.cps.size=_;rw[tI]
theorem qv{a b:List Nat}(h:tx a=tx b):a=b:=by
 have:=congrArg (fun z:Str=>z.cps.toList) h;exact this
theorem Zl(a b:List Nat):tx a++tx b=tx (a++b):=by
 show(⟨a.toArray++b.toArray⟩:Str)=_;rw[List.append_toArray]
noncomputable def dec(n:Nat):List Nat:=(Nat.toDigits 10 n).map Char.toNat
theorem YJ(n:Nat):PySem.Str.ofString (toString ((n:Nat):Int))=tx (dec n):=by
 rw[qu (PySem.Str.ofString _),PySem.W.KIN.signs_num n];rfl
theorem QbI(n:Nat):digitsVal (dec n)=n:=PySem.W.KIN.val_back n
theorem wj(n:Nat):AllDigits (dec n):=by
 intro c hc;obtain⟨ch,h1,rfl⟩:=List.mem_map.mp hc;have h:=Nat.isDigit_of_mem_toDigits (b:=10) (by decide) (by decide) h1;unfold Char.isDigit at h;simp only[Bool.and_eq_true,decide_eq_true_eq]at h;exact⟨UInt32.le_iff_toNat_le.mp h.1,UInt32.le_iff_toNat_le.mp h.2⟩
theorem Qa4(n:Nat):1<=(dec n).length:=by
 unfold dec;rw[uN];exact toDigits_len_ge 10 n
theorem QbJ{n:Nat}(h:n<2^100):(dec n).length<=100:=by
 have:=nat_repr_length_le (n:=n) (k:=100) (by decide) h;unfold dec;rw[uN];have e:(Nat.repr n).length=(Nat.toDigits 10 n).length:=by rw[←String.length_toList,Nat.toList_repr]
 omega
theorem QbK{a b:List Nat}(ha:AllDigits a)(hb:AllDigits b):AllDigits (a++b):=fun c hc=>(List.mem_append.mp hc).elim (ha c) (hb c)
theorem QbL(k:Nat):AllDigits (List.replicate k 48):=fun c hc=>by rw[List.eq_of_mem_replicate hc];decide
theorem Qdw(b:List Nat):∀acc:Nat,b.foldl (fun acc c=>acc*10+(c-48)) acc=acc*10^b.length+b.foldl (fun acc c=>acc*10+(c-48)) 0:=by
 induction b with
 |nil=>intro acc;simp
 |cons c r ih=>
  intro acc;rw[List.foldl_cons,List.foldl_cons,ih (acc*10+(c-48)),ih (0*10+(c-48)),uT,Nat.pow_succ];rw[Nat.add_mul,Nat.zero_mul,Nat.zero_add,Nat.mul_assoc,Nat.mul_comm 10,Nat.add_assoc]
theorem Y0(a b:List Nat):digitsVal (a++b)=digitsVal a*10^b.length+digitsVal b:=by
 unfold digitsVal;rw[List.foldl_append,Qdw]
theorem QbM(k:Nat):digitsVal (List.replicate k 48)=0:=by
 induction k with
 |zero=>rfl
 |succ k ih=>rw[show List.replicate (k+1) 48=[48]++List.replicate k 48 from rfl,Y0,ih];simp[digitsVal]
theorem Qdx{l:List Nat}(h:AllDigits l):digitsVal l<10^l.length:=by
 induction l with
 |nil=>decide
 |cons c r ih=>
  have h1:=ih h.tail;have h2:=h.head;rw[show c::r=[c]++r from rfl,Y0,uM,uS];have e:digitsVal [c]=c-48:=by simp[digitsVal]
  rw[e,Nat.pow_add];have h3:(c-48)*10^r.length<=9*10^r.length:=Nat.mul_le_mul_right _ (by omega);omega
noncomputable def fig(n o:Nat):List Nat:=List.replicate (o+1-(dec n).length) 48++dec n
theorem wl(n o:Nat):Txt.zfill (tx (dec n)) ((o:Int)+1)=tx (fig n o):=by
 have hl:=Qq (dec n);unfold Txt.zfill fig
 split
 ·rename_i h;rw[hl]at h;rw[show o+1-(dec n).length=0 by omega];rfl
 ·rename_i h;rw[hl]at h ⊢;have e:((o:Int)+1).toNat-(dec n).length=o+1-(dec n).length:=by omega
  rw[e];unfold zfilled;have hd:=wj n;have hn:=Qa4 n;cases hc:dec n with
  |nil=>rw[hc]at hn;exact absurd hn (by decide)
  |cons c r=>
   rw[hc]at hd;have hr:=hd.head;have e0:(tx (c::r)).cps[0]? =some c:=rfl;rw[e0];have key:padded (tx (c::r)) (o+1-(c::r).length) 0 48=tx (List.replicate (o+1-(c::r).length) 48++(c::r)):=by
    unfold padded;rw[qu ⟨_⟩]
    congr 1
    simp
   split
   ·rename_i h1;cases h1;omega
   ·rename_i h1;cases h1;omega
   ·exact key
theorem X1(l:List Nat){k:Nat}(h:k<=l.length):sliceText (tx l) none (some (k:Int))=tx (l.take k):=by
 have e:=sliceText_nat (tx l) (a:=0) (b:=k) (tK _) (by rw[Qq];exact h);have e2:sliceText (tx l) none (some (k:Int))=sliceText (tx l) (some ((0:Nat):Int)) (some (k:Int)):=by
  unfold sliceText;rw[sliceIdx_none_lo];rfl
 rw[e2,e];simp
theorem ZX(l:List Nat){a b:Nat}(h:a<=l.length)(hab:a<=b):sliceText (tx l) (some (a:Int)) (some (b:Int))=tx ((l.drop a).take (b-a)):=by
 by_cases hb:b<=l.length
 ·exact sliceText_nat (tx l) hab (by rw[Qq];exact hb)
 ·have e2:sliceText (tx l) (some (a:Int)) (some (b:Int))=sliceText (tx l) (some (a:Int)) (some ((l.length:Nat):Int)):=by
   have e3:strSliceIndices (some (a:Int)) (some (b:Int)) 1 (tx l).length=strSliceIndices (some (a:Int)) (some ((l.length:Nat):Int)) 1 (tx l).length:=by
    rw[Qq];unfold strSliceIndices;have h1:¬ ((b:Int)<0):=by omega
    have h2:¬ (((l.length:Nat):Int)<0):=by omega
    have h3:min (b:Int) (l.length:Int)=l.length:=by omega
    have h4:min ((l.length:Nat):Int) (l.length:Int)=l.length:=by omega
    simp only[h1,h2,if_false,h3,h4,show((1:Int)>0)=True from by simp,if_true]
   unfold sliceText;rw[e3]
  rw[e2,sliceText_nat (tx l) h (by rw[Qq];exact uQ _)];have e4:(l.drop a).take (l.length-a)=(l.drop a).take (b-a):=by
   rw[List.take_of_length_le (by rw[uZ];omega),List.take_of_length_le (by rw[uZ];omega)]
  show tx ((l.drop a).take (l.length-a))=_;rw[e4]
theorem X2(l:List Nat)(k:Nat):sliceText (tx l) (some (k:Int)) none=tx (l.drop k):=by
 by_cases h:k<=l.length
 ·have e2:sliceText (tx l) (some (k:Int)) none=sliceText (tx l) (some (k:Int)) (some ((l.length:Nat):Int)):=by
   unfold sliceText;rw[sliceIdx_none_hi,Qq]
  rw[e2,ZX l h h];rw[List.take_of_length_le (by rw[uZ];omega)]
 ·rw[List.drop_eq_nil_of_le (by omega)];have e3:strSliceIndices (some (k:Int)) none 1 (tx l).length=[]:=by
   rw[sliceIdx_none_hi,Qq];unfold strSliceIndices;have h1:¬ ((k:Int)<0):=by omega
   have h2:¬ (((l.length:Nat):Int)<0):=by omega
   have h3:max (0:Int) (min (k:Int) (l.length:Int))=l.length:=by omega
   have h4:max (0:Int) (min ((l.length:Nat):Int) (l.length:Int))=l.length:=by omega
   simp only[h1,h2,if_false,show((1:Int)>0)=True from by simp,if_true,h3,h4];unfold sliceRange;simp
  unfold sliceText;rw[e3]
  split
  ·rename_i h1;have:l.length=0:=by
    have h2:(0==(tx l).length)=true:=by simpa using h1
    rw[Qq]at h2;have:=beq_iff_eq.mp h2;omega
   rw[List.length_eq_zero_iff.mp this]
  ·rfl
theorem sub_one(l:List Nat)(c:Nat):subAt (tx l) ⟨#[c]⟩ 0=(l.head?==some c):=by
 rw[subAt_eq];show((l.drop 0).take 1==[c])=_;cases l with
 |nil=>rfl
 |cons a r=>
  simp only[List.drop_zero,List.take_succ_cons,List.take_zero,List.head?_cons]
  by_cases h:a=c
  ·subst h;simp
  ·rw[beq_eq_false_iff_ne.mpr (by simpa using h),beq_eq_false_iff_ne.mpr (by simpa using h)]
theorem yJ(c:Nat):("0123456789":Str).cps.contains c=decide (48<=c/\c<=57):=by
 have e:("0123456789":Str).cps= #[48,49,50,51,52,53,54,55,56,57]:=by decide+kernel
 rw[e]
 by_cases h:c<58
 ·exact (by decide+kernel:∀c:Nat,c<58->(#[48,49,50,51,52,53,54,55,56,57]:Array Nat).contains c=decide (48<=c/\c<=57)) c h
 ·rw[decide_eq_false (fun z=>h (Nat.lt_succ_of_le z.2))];exact Bool.eq_false_iff.mpr fun z=>h ((by decide:∀x∈([48,49,50,51,52,53,54,55,56,57]:List Nat),x<58) c (List.contains_iff_mem.mp (by rw[List.contains_toArray]at z;exact z)))
noncomputable instance (l:List Nat):Decidable (AllDigits l):=inferInstanceAs (Decidable (∀c∈l,48<=c/\c<=57))
theorem wm{p:Nat->Bool}{l:List Nat}{c:Nat}(h:c∈l.takeWhile p):p c=true:=by
 induction l with
 |nil=>cases h
 |cons a r ih=>
  rw[List.takeWhile_cons]at h;cases hp:p a with
  |false=>rw[hp]at h;cases h
  |true=>
   rw[hp,if_pos rfl]at h;rcases List.mem_cons.mp h with rfl|h
   ·exact hp
   ·exact ih h
theorem wn(l:List Nat):decide (Txt.stripChars (tx l) "0123456789"=(Str.empty:Str))=decide (AllDigits l):=by
 have g:∀c,("0123456789":Str).cps.contains c=true↔(48<=c/\c<=57):=fun c=>by rw[yJ];simp
 unfold Txt.stripChars Txt.stripBy stripSame stripped stripLo stripHi;simp only[if_true,Qq];generalize hp:(("0123456789":Str).cps.contains:Nat->Bool)=p;have g':∀c,p c=true↔(48<=c/\c<=57):=fun c=>by rw[←hp];exact g c
 by_cases h:AllDigits l
 ·rw[uP h,uP];have e1:(tx l).cps.toList.takeWhile p=l:=takeWhile_all fun c hc=>(g' c).mpr (h c hc);rw[e1];have e2:(tx l).cps.toList.drop l.length=[]:=List.drop_eq_nil_of_le (uQ _);rw[e2];show(if(l.length==0&&l.length==l.length)=true then tx l else strSub (tx l) l.length l.length)=Str.empty
  by_cases hz:(l.length==0&&l.length==l.length)=true
  ·rw[if_pos hz];have:l.length=0:=by
    simp only[Bool.and_eq_true,beq_iff_eq]at hz;exact hz.1
   rw[List.length_eq_zero_iff.mp this];rfl
  ·rw[if_neg hz,qu (strSub _ _ _),strSub_toList,Nat.sub_self,List.take_zero];rfl
 ·rw[uO h,uO];have hlt:((tx l).cps.toList.takeWhile p).length<l.length:=by
   have hle:((tx l).cps.toList.takeWhile p).length<=l.length:=List.IsPrefix.length_le (List.takeWhile_prefix p);rcases Nat.lt_or_ge ((tx l).cps.toList.takeWhile p).length l.length with z|z
   ·exact z
   ·refine absurd (fun c hc=>?_) h;have e:(tx l).cps.toList.takeWhile p=l:=List.IsPrefix.eq_of_length_le (List.takeWhile_prefix p) z;rw[←e]at hc;exact(g' c).mp (wm hc)
  generalize hlo:((tx l).cps.toList.takeWhile p).length=lo at hlt;have hdrop:∃a r,l.drop lo=a::r/\p a=false:=by
   have hd:l.dropWhile p=l.drop lo:=by
    have:=List.takeWhile_append_dropWhile (p:=p) (l:=l);have e3:l.drop lo=((l.takeWhile p)++l.dropWhile p).drop lo:=by rw[this]
    rw[e3,List.drop_append_of_le_length (by rw[←hlo];exact uQ _),List.drop_eq_nil_of_le (by rw[←hlo];exact uQ _),tE]
   cases hx:l.drop lo with
   |nil=>
    have:=congrArg List.length hx;rw[uZ,List.length_nil]at this;omega
   |cons a r=>
    refine⟨a,r,rfl,?_⟩;rw[hx]at hd;have:=List.head?_dropWhile_not (p:=p) (l:=l);rw[hd]at this;simpa using this
  obtain⟨a,r,hx,hpa⟩:=hdrop;have hx':(tx l).cps.toList.drop lo=a::r:=hx;rw[hx'];have hrl:r.length+1=l.length-lo:=by
   have:=congrArg List.length hx;rw[uZ,uT]at this;omega
  have hk:((a::r).reverse.takeWhile p).length<=r.length:=by
   rw[List.reverse_cons];have hle:((r.reverse++[a]).takeWhile p).length<=r.length:=by
    by_cases hall:∀c∈r.reverse,p c=true
    ·rw[List.takeWhile_append_of_pos hall,List.takeWhile_cons,hpa];simp
    ·have:((r.reverse++[a]).takeWhile p).length<(r.reverse++[a]).length:=by
      have hle:((r.reverse++[a]).takeWhile p).length<=(r.reverse++[a]).length:=List.IsPrefix.length_le (List.takeWhile_prefix p);rcases Nat.lt_or_ge ((r.reverse++[a]).takeWhile p).length (r.reverse++[a]).length with z|z
      ·exact z
      ·have e:(r.reverse++[a]).takeWhile p=r.reverse++[a]:=List.IsPrefix.eq_of_length_le (List.takeWhile_prefix p) z;have:p a=true:=wm (l:=r.reverse++[a]) (by rw[e];simp);rw[hpa]at this;cases this
     rw[uM,u0,uS]at this;omega
   exact hle
  split
  ·intro z;have:=congrArg (fun z:Str=>z.cps.toList.length) z;have e0:l.length=0:=this;omega
  ·intro z;have:=congrArg (fun z:Str=>z.cps.toList.length) z;have e0:(strSub (tx l) lo (l.length-((a::r).reverse.takeWhile p).length)).cps.toList.length=0:=this;rw[strSub_toList,uY,Vt,hx,uT]at e0;omega
end K02
namespace K04
open PySem.NumText
noncomputable abbrev Rw:=Nat × Nat
noncomputable def QS(t:List Nat):Nat × List Nat:=match t with
 |40::r=>if 41∈r/\r.takeWhile (· !=41)≠[]/\AllDigits (r.takeWhile (· !=41))/\(r.takeWhile (· !=41)).head?≠some 48 then(digitsVal (r.takeWhile (· !=41)),r.drop ((r.takeWhile (· !=41)).length+1))else(1,t)
 |_=>(1,t)
noncomputable def QK(rows:List Rw)(c n:Nat):List Rw:=match rows.getLast? with
 |some (c',m)=>if c'=c then rows.dropLast++[(c,n+m)]else rows++[(c,n)]
 |none=>rows++[(c,n)]
noncomputable def WI:Nat->List Nat->List Rw->List Rw
 |0,_,rows=>rows
 |_,[],rows=>rows
 |k+1,c::t,rows=>WI k (QS t).2 (QK rows c (QS t).1)
noncomputable def rowsOf(l:List Nat):List Rw:=WI l.length l []
noncomputable def ins(c:Nat):Bool:=[44,66,48,47].contains c
noncomputable def wo:List (List Nat):=[[57],[83,57],[86,57],[83,86,57],[57,86,57],[83,57,86,57]]
structure Facts where
 kind:Nat
 signed:Bool
 before:Nat
 behind:Nat
deriving DecidableEq,Repr
noncomputable def Wb:List Rw->Bool->Bool->Nat->Nat->Option (Bool × Nat × Nat)
 |[],s,_,a,b=>some (s,a,b)
 |(c,n)::r,s,p,a,b=>if c=57 then(if p then Wb r s p a n else Wb r s p n b)else if n>1 then none else if c=83 then Wb r true p a b else Wb r s true a b
noncomputable def QQ(rows:List Rw):Option Facts:=if wo.contains (rows.map (·.1))then(match Wb rows false false 0 0 with
 |some (s,a,b)=>if a+b>18 then none else some ⟨2,s,a,b⟩
 |none=>none)else none
noncomputable def Jo(rows:List Rw):Option Facts:=match rows with
 |[(c,n)]=>if(c≠88/\c≠65)\/n>60 then none else some ⟨if c=88 then 0 else 1,false,0,0⟩
 |_=>none
noncomputable def Jk(rows:List Rw):Bool:=match rows with
 |(c,n)::r=>decide (n>1)||(match r.dropWhile (fun x=>ins x.1)with|(c',_)::_=>c'==c|[]=>false)
 |[]=>false
noncomputable def JW:List (List Nat)->List Rw->List Nat->List Nat × List Rw
 |[],rows,lead=>(lead,rows)
 |ch::more,rows,lead=>match rows with
  |(c,n)::r=>if ch.contains c&& !Jk rows then JW more r (lead++[c])else JW more rows lead
  |[]=>JW more rows lead
noncomputable def Zx(rows:List Rw):List Nat × List Rw:=JW [[43,45],[36]] rows []
noncomputable def QH(place:Nat):List Rw->Nat->Nat × List Rw
 |[],many=>(many,[])
 |(c,n)::r,many=>if c=place then QH place r (many+n)else if ins c then QH place r many else(many,(c,n)::r)
noncomputable def QP(rows:List Rw):List Nat × Nat × Nat × List Rw:=match rows with
 |(c,n)::r=>if[57,90,42,43,45,36].contains c then(let x:=QH c rows 0;let y:=QH 57 x.2 0;([c],x.1,y.1,y.2))else([],0,0,rows)
 |[]=>([],0,0,rows)
noncomputable def Q4(rows:List Rw)(place:List Nat):Option Nat × List Rw:=match rows with
 |(46,n)::r=>if n>1\/r=[]then(none,rows)else(match r with
  |(c,m)::r'=>if c≠57/\([c]≠place\/[43,45,36].contains c)then(none,rows)else(some m,r')
  |[]=>(none,rows))
 |_=>(some 0,rows)
noncomputable def Jt:List (List Nat):=[[43],[45],[67,82],[68,66]]
noncomputable def Kb(rows:List Rw):Option (List Nat):=if rows=[]then some []else if !Jt.contains (rows.map (·.1))||rows.any (fun x=>decide (x.2>1))then none else some (rows.map (·.1))
noncomputable def Q7(rows:List Rw):Option Facts:=
 let ld:=Zx rows
 let wp:=QP ld.2
 let bp:=Q4 wp.2.2.2 (if wp.2.2.1=0 then wp.1 else[57])
 let tl:=Kb bp.2
 match wp.1,bp.1,tl with
 |[place],some behind,some tail=>
  let fl:Bool:=[43,45,36].contains place
  if fl&&decide (wp.2.1<2)then none
  else
   let shown:=[ld.1.take 1,[place],tail].filter (Jt.contains ·)
   if shown.length>1 then none
   else
    let before:=wp.2.1+wp.2.2.1-(if fl then 1 else 0)
    if before+behind>18 then none else some ⟨3,shown.length==1,before,behind⟩
 |_,_,_=>none
noncomputable def Jz(rows:List Rw):Option Facts:=match QQ rows with
 |some f=>some f
 |none=>match Jo rows with
  |some f=>some f
  |none=>Q7 rows
noncomputable def QR(l:List Nat):Option Facts:=Jz (rowsOf l)
end K04
theorem sL0:0<=PySem.sizeLine:=by rw[PySem.sizeLine_eq];decide
theorem sL1:1<=PySem.sizeLine:=by rw[PySem.sizeLine_eq];decide
theorem sL2:2<=PySem.sizeLine:=by rw[PySem.sizeLine_eq];decide
theorem sL3:3<=PySem.sizeLine:=by rw[PySem.sizeLine_eq];decide
theorem sL4:4<=PySem.sizeLine:=by rw[PySem.sizeLine_eq];decide
theorem sL5:5<=PySem.sizeLine:=by rw[PySem.sizeLine_eq];decide
namespace Lw
open PySem PySem.Spec PyProof.Rows L2 K02 K04
open Builtin Builtin.Str StrLaws
theorem Xt(l:List Nat)(c:Nat):(!(occurrences (tx l) (tx [c]) 0 (tx l).length 1).isEmpty)=l.contains c:=by
 rcases occ_head (tx l) (tx [c]) 1 (uQ _)with⟨h1,h2⟩|⟨i,t,h1,h2,h3⟩
 ·have hn:c∉l:=fun hm=>by
   obtain⟨j,hj⟩:=List.mem_iff_getElem?.mp hm;exact h2 j ((subAt_one (tx l) c j).mpr hj)
  rw[h1];simp[hn]
 ·have hi:l[i]? =some c:=(subAt_one (tx l) c i).mp h2;have hm:c∈l:=List.mem_iff_getElem?.mpr ⟨i,hi⟩;rw[h1];simp[hm]
theorem yK(l:List Nat)(c:Nat):Txt.startswith (tx l) (tx [c])=(l.head?==some c):=by
 unfold Txt.startswith;have e:(tx [c])=(⟨#[c]⟩:Str):=rfl;rw[e,sub_one];cases l with
 |nil=>rfl
 |cons a r=>
  rw[uP (by show 0+1<=(tx (a::r)).length;rw[Qq,uT];omega)];rfl
theorem Y1(a b:List Nat):decide (V.str (tx a)=V.str (tx b))=decide (a=b):=by
 by_cases h:a=b
 ·rw[uP h,uP (by rw[h])]
 ·rw[uO h,uO fun q=>h (qv (V.str.inj q))]
theorem JJ(a b:Nat):decide (V.str (tx [a])=V.str (tx [b]))=decide (a=b):=by
 rw[Y1]
 by_cases h:a=b
 ·rw[uP h,uP (by rw[h])]
 ·rw[uO h,uO fun q=>h (List.cons.inj q).1]
theorem yL(n a:Nat):fromIndex n (a:Int)=a:=by
 unfold fromIndex;rw[if_neg (by omega)];omega
theorem QeR{l:List Nat}{c i:Nat}(hi:l[i]? =some c)(hn:∀k,k<i->l[k]? ≠some c):l.takeWhile (· !=c)=l.take i:=by
 induction l generalizing i with
 |nil=>cases hi
 |cons a r ih=>
  cases i with
  |zero=>
   have:a=c:=by simpa using hi
   subst this;simp
  |succ i=>
   have hb:(a !=c)=true:=by
    have:=hn 0 (Nat.succ_pos _);simpa using this
   rw[List.takeWhile_cons,hb];simp only[if_true,List.take_succ_cons];rw[ih (i:=i) (by simpa using hi) fun k hk=>by
    have:=hn (k+1) (by omega);simpa using this]
theorem QbN{l:List Nat}{a c:Nat}{r:List Nat}(h:l.drop a=40::r)(hc:c≠40):
  (c∉r/\wf (tx l) (tx [c]) (a:Int)= -1)\/(c∈r/\wf (tx l) (tx [c]) (a:Int)=((a+1+(r.takeWhile (· !=c)).length:Nat):Int)):=by
 have hd:∀i,l[a+i]? =(40::r)[i]? :=fun i=>by rw[←h,List.getElem?_drop]
 unfold wf;rw[yL];rcases occ_head_from (tx l) (tx [c]) a 1 (uQ _)with⟨h1,h2⟩|⟨i,t,h1,h2,h3,h4⟩
 ·refine .inl ⟨fun hm=>?_,by rw[h1]⟩;obtain⟨j,hj⟩:=List.mem_iff_getElem?.mp hm;refine h2 (a+(j+1)) (by omega) ((subAt_one (tx l) c _).mpr ?_);show l[a+(j+1)]? =some c;rw[hd];exact hj
 ·have hi:l[i]? =some c:=(subAt_one (tx l) c i).mp h3;obtain⟨k,rfl⟩:∃k,i=a+k:=⟨i-a,by omega⟩;rw[hd]at hi;cases k with
  |zero=>exact absurd (by simpa using hi) (Ne.symm hc)
  |succ k=>
   have hk:r[k]? =some c:=by simpa using hi
   have e:=QeR (l:=r) (c:=c) (i:=k) hk fun m hm z=>h4 (a+(m+1)) (by omega) (by omega) ((subAt_one (tx l) c _).mpr (by show l[a+(m+1)]? =some c;rw[hd];exact z));refine .inr ⟨List.mem_iff_getElem?.mpr ⟨k,hk⟩,?_⟩;have hkl:=(List.getElem?_eq_some_iff.mp hk).1;rw[h1,e,uY,Nat.min_eq_left (by omega)];show((a+(k+1):Nat):Int)=_
   congr 1
   omega
theorem xN(l:List Nat){a b:Nat}(h:b<a)(hl:1<=l.length):sliceText (tx l) (some (a:Int)) (some (b:Int))=tx []:=by
 have e3:strSliceIndices (some (a:Int)) (some (b:Int)) 1 (tx l).length=[]:=by
  rw[Qq];unfold strSliceIndices;have h1:¬ ((a:Int)<0):=by omega
  have h2:¬ ((b:Int)<0):=by omega
  have h3:max (0:Int) (min (a:Int) (l.length:Int))≥max (0:Int) (min (b:Int) (l.length:Int)):=by omega
  simp only[h1,h2,if_false,show((1:Int)>0)=True from by simp,if_true];unfold sliceRange;simp;omega
 unfold sliceText;rw[e3]
 split
 ·rename_i h1;have:l.length=0:=by
   have h2:(0==(tx l).length)=true:=by simpa using h1
   rw[Qq]at h2;have:=beq_iff_eq.mp h2;omega
  omega
 ·rfl
noncomputable def Qa5(x:Rw):HO:=.tup [.str (tx [x.1]),.int (x.2:Nat)]
inductive Rws (H:Hp):List Addr->List Rw->Prop where
 |nil:Rws H [] []
 |cons {r:Addr} {rs:List Addr} {x:Rw} {xs:List Rw}:H r=some (Qa5 x)->Rws H rs xs->Rws H (r::rs) (x::xs)
section
variable {H H':Hp}{rs:List Addr}{rows:List Rw}
theorem Rws.len(h:Rws H rs rows):rs.length=rows.length:=by
 induction h with
 |nil=>rfl
 |cons _ _ ih=>rw[uT,uT,ih]
theorem Rws.keep(h:Rws H rs rows)(e:∀b xs,H b=some (.tup xs)->H' b=some (.tup xs)):Rws H' rs rows:=by
 induction h with
 |nil=>exact .nil
 |cons a _ ih=>exact .cons (e _ _ a) ih
theorem Rws.at(h:Rws H rs rows):∀{i:Nat}{x:Rw},rows[i]? =some x->∃r,rs[i]? =some r/\H r=some (Qa5 x):=by
 induction h with
 |nil=>intro i x e;cases e
 |cons a _ ih=>
  intro i x e;cases i with
  |zero=>exact⟨_,rfl,by have:_=x:=uR e;rw[←this];exact a⟩
  |succ i=>exact ih (i:=i) (x:=x) e
theorem Rws.app(h:Rws H rs rows){r:Addr}{x:Rw}(e:H r=some (Qa5 x)):Rws H (rs++[r]) (rows++[x]):=by
 induction h with
 |nil=>exact .cons e .nil
 |cons a _ ih=>exact .cons a ih
theorem Rws.dr(h:Rws H rs rows):∀k,Rws H (rs.drop k) (rows.drop k):=by
 induction h with
 |nil=>intro k;rw[List.drop_nil,List.drop_nil];exact .nil
 |cons a t ih=>
  intro k;cases k with
  |zero=>exact .cons a t
  |succ k=>exact ih k
end
structure RowsAt(K:PySem.W.Frag)(H:Hp)(p:Addr)(rs:List Addr)(rows:List Rw):Prop where
 sq:SqL K H p (rs.map V.ref)
 rw:Rws H rs rows
 le:rows.length<=600
section
variable {K:PySem.W.Frag}{H H':Hp}{p:Addr}{rs:List Addr}{rows:List Rw}{σ:L2.St}{i j k:Nat}{Q:VK}
theorem SqL.same{K:PySem.W.Frag}{H H':Hp}{a:Addr}{xs:List V}(e:Qo H H')(h:SqL K H a xs):SqL K H' a xs:=by
 rcases h with(h|⟨o,h⟩)|h
 ·exact .inl (.inl (e _ _ h))
 ·exact .inl (.inr ⟨o,e _ _ h⟩)
 ·exact .inr h
theorem RowsAt.same(R:RowsAt K H p rs rows)(e:Qo H H'):RowsAt K H' p rs rows:=⟨SqL.same e R.sq,R.rw.keep fun b xs h=>e _ _ h,R.le⟩
theorem RowsAt.len(R:RowsAt K H p rs rows):(rs.map V.ref).length=rows.length:=by rw[uN,R.rw.len]
theorem RowsAt.at(R:RowsAt K H p rs rows){x:Rw}(e:rows[k]? =some x):∃r,atI (rs.map V.ref) (k:Int)=some (.ref r)/\H r=some (Qa5 x):=by
 obtain⟨r,h1,h2⟩:=R.rw.at e;exact⟨r,JI (by rw[u5,h1];rfl),h2⟩
theorem qx{te:TE}(h1:σ[i]? =some (some (.ref p)))(h2:∀Q:VK,Q (.int (k:Nat)) H->te σ H Q) (R:RowsAt K H p rs rows) {x:Rw} (e:rows[k]? =some x) (q:∀r,H r=some (Qa5 x)->Q (.ref r) H):tOp (Qek K) (Kt i) te σ H Q:=by
 obtain⟨r,a,b⟩:=R.at e;exact⟨_,h1,h2 _ ⟨p,_,_,_,rfl,rfl,R.sq,a,q r b⟩⟩
theorem XD{te:TE}(h1:σ[i]? =some (some (.ref p)))(h2:∀Q:VK,Q (.int (k:Nat)) H->te σ H Q) (R:RowsAt K H p rs rows) {x:Rw} (e:rows[k]? =some x) (q:Q (.str (tx [x.1])) H):tOp (QeC K) (tOp (Qek K) (Kt i) te) (tC (.int 0)) σ H Q:=
 qx h1 h2 R e fun r b=>⟨r,_,_,_,rfl,rfl,SqT.of b,rfl,q⟩
theorem Qa6{te:TE}(h1:σ[i]? =some (some (.ref p)))(h2:∀Q:VK,Q (.int (k:Nat)) H->te σ H Q) (R:RowsAt K H p rs rows) {x:Rw} (e:rows[k]? =some x) (q:Q (.int (x.2:Nat)) H):tOp (QeC K) (tOp (Qek K) (Kt i) te) (tC (.int 1)) σ H Q:=
 qx h1 h2 R e fun r b=>⟨r,_,_,_,rfl,rfl,SqT.of b,rfl,q⟩
theorem Zo(h1:σ[i]? =some (some (.ref p)))(R:RowsAt K H p rs rows)(q:Q (.int (rows.length:Nat)) H):tCB (fun xs H Q=>∃p ys,xs=[.ref p]/\(SqL K H p ys\/SqT K H p ys)/\Q (.int ys.length) H) (Jn (Kt i) WV) σ H Q:=
 ⟨_,h1,p,_,rfl,.inl R.sq,by rw[R.len];exact q⟩
theorem JP(h:σ[i]? =some (some (.int (k:Nat)))):∀Q:VK,Q (.int (k:Nat)) H->Kt i σ H Q:=fun Q q=>⟨_,h,q⟩
end
theorem XE(l:List Nat):Txt.join "" (l.map fun c=>tx [c])=tx l:=by
 show Builtin.Str.glued _ _=_;rw[StrLaws.glued_eq_join];have e:("":Str)=⟨#[]⟩:=by decide+kernel
 rw[e];exact join_ones l
theorem yM:∀(l:List Nat)(n:Nat),(l.map fun c=>tx [c]).foldl (fun(m:Nat)(s:Str)=>m+s.length+("":Str).length) n=n+l.length:=by
 have e:("":Str).length=0:=by decide+kernel
 intro l
 induction l with
 |nil=>intro n;rfl
 |cons a r ih=>
  intro n;show(r.map fun c=>tx [c]).foldl _ (n+(tx [a]).length+("":Str).length)=_;rw[ih,e,Qq,uT,uT,List.length_nil];omega
theorem Vu{l:List Nat}(h:l.length<=1000):JoinOk "" (l.map fun c=>tx [c])=true:=by
 unfold JoinOk;rw[←Array.foldl_toList,List.toList_toArray,yM];unfold tooLong;have hz:1000<=sizeLine:=by decide
 rw[uO (by omega)];rfl
noncomputable def top(i:Nat):Stmt:=PySem.Challenge.pw_boxmoves_k31_whole_one_box.main.body.getD i (.Pass ⟨0,0,0,0⟩)
noncomputable abbrev Y2:Stmt:=top 13
theorem KJ:FnScope ["many","power","turn"] ["many"] (Qe Y2):=⟨rfl,rfl,rfl,by decide+kernel,rfl,by decide+kernel,by decide+kernel⟩
noncomputable abbrev XF:Stmt:=top 14
theorem Y3:FnScope ["text"] ["text"] (Qe XF):=⟨rfl,rfl,rfl,by decide+kernel,rfl,by decide+kernel,by decide+kernel⟩
noncomputable abbrev Ki:Stmt:=top 15
theorem J9:FnScope ["text","number","start","part"] ["text"] (Qe Ki):=⟨rfl,rfl,rfl,by decide+kernel,rfl,by decide+kernel,by decide+kernel⟩
noncomputable abbrev XG:Stmt:=top 16
theorem JQ:FnScope ["number","above","parts","part"] ["number"] (Qe XG):=⟨rfl,rfl,rfl,by decide+kernel,rfl,by decide+kernel,by decide+kernel⟩
noncomputable abbrev KK:Stmt:=top 27
theorem Wc:FnScope ["picture","rows","facts"] ["picture"] (Qe KK):=⟨rfl,rfl,rfl,by decide+kernel,rfl,by decide+kernel,by decide+kernel⟩
noncomputable abbrev KL:Stmt:=top 28
theorem Wd:FnScope ["picture","rows","facts"] ["picture"] (Qe KL):=⟨rfl,rfl,rfl,by decide+kernel,rfl,by decide+kernel,by decide+kernel⟩
noncomputable abbrev ZG:Stmt:=top 29
theorem Z8:FnScope ["picture","rows","facts"] ["picture"] (Qe ZG):=⟨rfl,rfl,rfl,by decide+kernel,rfl,by decide+kernel,by decide+kernel⟩
noncomputable abbrev JR:Stmt:=top 30
theorem Ze:FnScope ["kind","picture","rows","facts"] ["kind","picture"] (Qe JR):=⟨rfl,rfl,rfl,by decide+kernel,rfl,by decide+kernel,by decide+kernel⟩
noncomputable abbrev Z9:Stmt:=top 31
theorem Yb:FnScope ["rows"] ["rows"] (Qe Z9):=⟨rfl,rfl,rfl,by decide+kernel,rfl,by decide+kernel,by decide+kernel⟩
noncomputable abbrev Vv:Stmt:=top 32
theorem JZ:FnScope ["thing","rows","at","symbol","many"] ["thing"] (Qe Vv):=⟨rfl,rfl,rfl,by decide+kernel,rfl,by decide+kernel,by decide+kernel⟩
noncomputable abbrev We:Stmt:=top 33
theorem Kj:FnScope ["text","at","end","number"] ["text","at"] (Qe We):=⟨rfl,rfl,rfl,by decide+kernel,rfl,by decide+kernel,by decide+kernel⟩
noncomputable abbrev Wf:Stmt:=top 34
theorem Xa:FnScope ["rows","facts"] ["rows"] (Qe Wf):=⟨rfl,rfl,rfl,by decide+kernel,rfl,by decide+kernel,by decide+kernel⟩
noncomputable abbrev ZN:Stmt:=top 35
theorem QT:FnScope ["rows","symbol","many","signed","behind_point","figures"] ["rows"] (Qe ZN):=⟨rfl,rfl,rfl,by decide+kernel,rfl,by decide+kernel,by decide+kernel⟩
noncomputable abbrev Xb:Stmt:=top 36
theorem ZO:FnScope ["rows","symbol","many"] ["rows"] (Qe Xb):=⟨rfl,rfl,rfl,by decide+kernel,rfl,by decide+kernel,by decide+kernel⟩
noncomputable abbrev ZP:Stmt:=top 37
theorem QD:FnScope ["rows","lead","start","place","many","nines","behind","end","tail","floats","shown","before"] ["rows"] (Qe ZP):=⟨rfl,rfl,rfl,by decide+kernel,rfl,by decide+kernel,by decide+kernel⟩
noncomputable abbrev ZQ:Stmt:=top 38
theorem QU:FnScope ["rows","lead","start","place","many","nines","behind","end"] ["rows"] (Qe ZQ):=⟨rfl,rfl,rfl,by decide+kernel,rfl,by decide+kernel,by decide+kernel⟩
noncomputable abbrev Vw:Stmt:=top 39
theorem Zs:FnScope ["rows","lead","at","choice"] ["rows"] (Qe Vw):=⟨rfl,rfl,rfl,by decide+kernel,rfl,by decide+kernel,by decide+kernel⟩
noncomputable abbrev Kk:Stmt:=top 40
theorem Za:FnScope ["rows","at","symbol","many","behind"] ["rows","at"] (Qe Kk):=⟨rfl,rfl,rfl,by decide+kernel,rfl,by decide+kernel,by decide+kernel⟩
noncomputable abbrev Vx:Stmt:=top 41
theorem J0:FnScope ["rows","at","place","many","nines","behind"] ["rows","at"] (Qe Vx):=⟨rfl,rfl,rfl,by decide+kernel,rfl,by decide+kernel,by decide+kernel⟩
noncomputable abbrev XH:Stmt:=top 42
theorem Ju:FnScope ["rows","at","place","many","nines"] ["rows","at"] (Qe XH):=⟨rfl,rfl,rfl,by decide+kernel,rfl,by decide+kernel,by decide+kernel⟩
noncomputable abbrev Kl:Stmt:=top 43
theorem ZH:FnScope ["rows","at","place","many"] ["rows","at","place"] (Qe Kl):=⟨rfl,rfl,rfl,by decide+kernel,rfl,by decide+kernel,by decide+kernel⟩
noncomputable abbrev Xc:Stmt:=top 44
theorem ZR:FnScope ["rows","at","place","symbol","many"] ["rows","at","place"] (Qe Xc):=⟨rfl,rfl,rfl,by decide+kernel,rfl,by decide+kernel,by decide+kernel⟩
noncomputable abbrev Vy:Stmt:=top 45
theorem Yw:FnScope ["rows","at","tail"] ["rows","at"] (Qe Vy):=⟨rfl,rfl,rfl,by decide+kernel,rfl,by decide+kernel,by decide+kernel⟩
noncomputable abbrev Wg:Stmt:=top 47
theorem JK:FnScope ["layout","signs","left","items","times","item"] ["layout"] (Qe Wg):=⟨rfl,rfl,rfl,by decide+kernel,rfl,by decide+kernel,by decide+kernel⟩
noncomputable abbrev jF:Stmt:=top 48
theorem Y4:FnScope ["layout","path","start","item"] ["layout","path"] (Qe jF):=⟨rfl,rfl,rfl,by decide+kernel,rfl,by decide+kernel,by decide+kernel⟩
noncomputable abbrev jG:Stmt:=top 49
theorem yN:FnScope ["layout"] ["layout"] (Qe jG):=⟨rfl,rfl,rfl,by decide+kernel,rfl,by decide+kernel,by decide+kernel⟩
noncomputable abbrev Y5:Stmt:=top 51
theorem Zp:FnScope ["layout","path","start","items","item","step","ahead"] ["layout","path"] (Qe Y5):=⟨rfl,rfl,rfl,by decide+kernel,rfl,by decide+kernel,by decide+kernel⟩
noncomputable abbrev Zf:Stmt:=top 52
theorem Q5:FnScope ["items","with_tables","paths","left","path","item","number"] ["items","with_tables"] (Qe Zf):=⟨rfl,rfl,rfl,by decide+kernel,rfl,by decide+kernel,by decide+kernel⟩
noncomputable abbrev XI:Stmt:=top 53
theorem Y6:FnScope ["path","items"] ["path","items"] (Qe XI):=⟨rfl,rfl,rfl,by decide+kernel,rfl,by decide+kernel,by decide+kernel⟩
noncomputable abbrev wq:Stmt:=top 54
theorem QbO:FnScope ["item"] ["item"] (Qe wq):=⟨rfl,rfl,rfl,by decide+kernel,rfl,by decide+kernel,by decide+kernel⟩
noncomputable abbrev Wh:Stmt:=top 55
theorem jH:FnScope ["thing"] ["thing"] (Qe Wh):=⟨rfl,rfl,rfl,by decide+kernel,rfl,by decide+kernel,by decide+kernel⟩
noncomputable abbrev KM:Stmt:=top 56
theorem J1:FnScope ["items","step","name","number","under","at","item"] ["items","step"] (Qe KM):=⟨rfl,rfl,rfl,by decide+kernel,rfl,by decide+kernel,by decide+kernel⟩
noncomputable abbrev XJ:Stmt:=top 57
theorem Y7:FnScope ["step"] ["step"] (Qe XJ):=⟨rfl,rfl,rfl,by decide+kernel,rfl,by decide+kernel,by decide+kernel⟩
noncomputable abbrev JF:Stmt:=top 58
theorem Wi:FnScope ["item","number"] ["item","number"] (Qe JF):=⟨rfl,rfl,rfl,by decide+kernel,rfl,by decide+kernel,by decide+kernel⟩
noncomputable abbrev QbP:Stmt:=top 60
theorem wu:FnScope ["amount","places","units","own"] ["amount","places"] (Qe QbP):=⟨rfl,rfl,rfl,by decide+kernel,rfl,by decide+kernel,by decide+kernel⟩
noncomputable abbrev Y8:Stmt:=top 61
theorem Vz:FnScope ["amount","before","behind","units","kept"] ["amount","before","behind"] (Qe Y8):=⟨rfl,rfl,rfl,by decide+kernel,rfl,by decide+kernel,by decide+kernel⟩
noncomputable abbrev ZS:Stmt:=top 62
theorem XL:FnScope ["number","by","quotient"] ["number","by"] (Qe ZS):=⟨rfl,rfl,rfl,by decide+kernel,rfl,by decide+kernel,by decide+kernel⟩
noncomputable abbrev WZ:Stmt:=top 67
theorem JE:FnScope ["picture","amount","rows","signed","before","behind","lead","body","tail","units","is_below"] ["picture","amount"] (Qe WZ):=⟨rfl,rfl,rfl,by decide+kernel,rfl,by decide+kernel,by decide+kernel⟩
noncomputable abbrev Xd:Stmt:=top 68
theorem Yc:FnScope ["picture","text","rows","signed","before","behind","lead","body","tail","pairs","units","choice"] ["picture","text"] (Qe Xd):=⟨rfl,rfl,rfl,by decide+kernel,rfl,by decide+kernel,by decide+kernel⟩
noncomputable abbrev ZT:Stmt:=top 69
theorem VA:FnScope ["body"] ["body"] (Qe ZT):=⟨rfl,rfl,rfl,by decide+kernel,rfl,by decide+kernel,by decide+kernel⟩
noncomputable abbrev Xe:Stmt:=top 70
theorem Yd:FnScope ["symbols"] ["symbols"] (Qe Xe):=⟨rfl,rfl,rfl,by decide+kernel,rfl,by decide+kernel,by decide+kernel⟩
noncomputable abbrev Km:Stmt:=top 71
theorem qy:FnScope ["symbols","is_below"] ["symbols","is_below"] (Qe Km):=⟨rfl,rfl,rfl,by decide+kernel,rfl,by decide+kernel,by decide+kernel⟩
noncomputable abbrev Kn:Stmt:=top 72
theorem ZI:FnScope ["body","units","is_below","signs","hidden","place"] ["body","units","is_below"] (Qe Kn):=⟨rfl,rfl,rfl,by decide+kernel,rfl,by decide+kernel,by decide+kernel⟩
noncomputable abbrev Y9:Stmt:=top 73
theorem Zy:FnScope ["body","units","symbol","many","figures","signs","used"] ["body","units"] (Qe Y9):=⟨rfl,rfl,rfl,by decide+kernel,rfl,by decide+kernel,by decide+kernel⟩
noncomputable abbrev Ko:Stmt:=top 74
theorem XM:FnScope ["body","signs","at","symbol"] ["body","signs"] (Qe Ko):=⟨rfl,rfl,rfl,by decide+kernel,rfl,by decide+kernel,by decide+kernel⟩
noncomputable abbrev ZJ:Stmt:=top 77
theorem Jl:FnScope ["picture","amount","rows","signed","before","behind","units","figures"] ["picture","amount"] (Qe ZJ):=⟨rfl,rfl,rfl,by decide+kernel,rfl,by decide+kernel,by decide+kernel⟩
noncomputable abbrev Xf:Stmt:=top 78
theorem Q8:FnScope ["picture","content","rows","signed","before","behind","last","is_below","figures","units"] ["picture","content"] (Qe Xf):=⟨rfl,rfl,rfl,by decide+kernel,rfl,by decide+kernel,by decide+kernel⟩
noncomputable abbrev jI:Stmt:=top 79
theorem zI:FnScope ["picture","kind"] ["picture"] (Qe jI):=⟨rfl,rfl,rfl,by decide+kernel,rfl,by decide+kernel,by decide+kernel⟩
noncomputable abbrev yO:Stmt:=top 80
theorem Qdy:FnScope ["picture","amount"] ["picture","amount"] (Qe yO):=⟨rfl,rfl,rfl,by decide+kernel,rfl,by decide+kernel,by decide+kernel⟩
noncomputable abbrev Zq:Stmt:=top 81
theorem ZU:FnScope ["content","picture","kind","figures"] ["content","picture"] (Qe Zq):=⟨rfl,rfl,rfl,by decide+kernel,rfl,by decide+kernel,by decide+kernel⟩
noncomputable abbrev Zz:Stmt:=inClass (top 84) 0
theorem WS:FnScope ["self","layout"] ["self","layout"] (Qe Zz):=⟨rfl,rfl,rfl,by decide+kernel,rfl,by decide+kernel,by decide+kernel⟩
noncomputable abbrev Wj:Stmt:=inClass (top 84) 4
theorem Xg:FnScope ["self","path","start","size","picture"] ["self","path"] (Qe Wj):=⟨rfl,rfl,rfl,by decide+kernel,rfl,by decide+kernel,by decide+kernel⟩
noncomputable abbrev Zr:Stmt:=inClass (top 84) 5
theorem J6:FnScope ["self","path","start","size","picture"] ["self","path"] (Qe Zr):=⟨rfl,rfl,rfl,by decide+kernel,rfl,by decide+kernel,by decide+kernel⟩
noncomputable abbrev Xh:Stmt:=inClass (top 84) 6
theorem ZK:FnScope ["self","path","text","start","size","picture"] ["self","path","text"] (Qe Xh):=⟨rfl,rfl,rfl,by decide+kernel,rfl,by decide+kernel,by decide+kernel⟩
noncomputable abbrev Xi:Stmt:=inClass (top 84) 7
theorem ZL:FnScope ["self","path","amount","start","size","picture"] ["self","path","amount"] (Qe Xi):=⟨rfl,rfl,rfl,by decide+kernel,rfl,by decide+kernel,by decide+kernel⟩
noncomputable abbrev XN:Stmt:=inClass (top 84) 11
theorem Ua:FnScope ["self"] ["self"] (Qe XN):=⟨rfl,rfl,rfl,by decide+kernel,rfl,by decide+kernel,by decide+kernel⟩
noncomputable abbrev Xj:Stmt:=inClass (top 84) 14
theorem Ye:FnScope ["self","word","held"] ["self","word","held"] (Qe Xj):=⟨rfl,rfl,rfl,by decide+kernel,rfl,by decide+kernel,by decide+kernel⟩
noncomputable abbrev JA:Stmt:=top 85
theorem Q9:FnScope ["layout","parts","left","item"] ["layout"] (Qe JA):=⟨rfl,rfl,rfl,by decide+kernel,rfl,by decide+kernel,by decide+kernel⟩
noncomputable abbrev ZM:Stmt:=top 86
theorem Ub:FnScope ["picture","kinds"] ["picture","kinds"] (Qe ZM):=⟨rfl,rfl,rfl,by decide+kernel,rfl,by decide+kernel,by decide+kernel⟩
noncomputable abbrev XO:Stmt:=top 87
theorem Uc:FnScope ["held","start","text"] ["held","start","text"] (Qe XO):=⟨rfl,rfl,rfl,by decide+kernel,rfl,by decide+kernel,by decide+kernel⟩
noncomputable abbrev Kp:Stmt:=top 89
theorem Zb:FnScope ["_law_script","_law_town","_law_many","_law_at","_law_rest","_law_number"] ["_law_script","_law_town","_law_many"] (Qe Kp):=⟨rfl,rfl,rfl,by decide+kernel,rfl,by decide+kernel,by decide+kernel⟩
noncomputable abbrev XQ:Stmt:=top 90
theorem Ud:FnScope [] [] (Qe XQ):=⟨rfl,rfl,rfl,by decide+kernel,rfl,by decide+kernel,by decide+kernel⟩
noncomputable abbrev Zg:Stmt:=top 91
theorem Jv:FnScope ["_law_script","_law_town","_law_figures","_law_far","_law_units","_law_places","_law_k"] ["_law_script","_law_town","_law_figures","_law_far"] (Qe Zg):=⟨rfl,rfl,rfl,by decide+kernel,rfl,by decide+kernel,by decide+kernel⟩
noncomputable abbrev JS:Stmt:=top 92
theorem Qx:FnScope ["_law_script","_law_town","_law_deep","_law_found","_law_under","_law_letters","_law_k","_law_turn","_law_name","_law_item","_law_size"] ["_law_script","_law_town","_law_deep"] (Qe JS):=⟨rfl,rfl,rfl,by decide+kernel,rfl,by decide+kernel,by decide+kernel⟩
noncomputable abbrev JG:Stmt:=top 93
theorem J2:FnScope ["_law_item","_law_size"] ["_law_item"] (Qe JG):=⟨rfl,rfl,rfl,by decide+kernel,rfl,by decide+kernel,by decide+kernel⟩
noncomputable abbrev qz:Stmt:=top 94
theorem ZY:FnScope ["_law_script","_law_town","_law_items","_law_area","_law_paths","_law_k","_law_path","_law_first","_law_size","_law_line","_law_before","_law_one","_law_due"] ["_law_script"] (Qe qz):=⟨rfl,rfl,rfl,by decide+kernel,rfl,by decide+kernel,by decide+kernel⟩
section
variable {P:Program}{w:World}{K:PySem.W.Frag}{mg:Str->Option Value}{base:Heap}{f:Addr}{fd:FuncData}{tk:Nat->Tok}{c kr:Nat->Addr}
noncomputable def xO:Sp:=fun vs H Q _=>∃m:Int,vs=[.int m]/\ -(2^62)<=m/\m<2^62/\Q (.int (K01.ten m)) H
theorem ww(F:Fun K "ten_to" "ten_to" Y2 f fd)(O:Own mg):FnOk P w K mg base (CXE P w) 1 f fd ["many"] xO:=by
 refine okN F KJ (fun vs H Q E h=>?_) (fun cdv A outer s H vs Q E hr h=>?_)
 ·obtain⟨m,rfl,_⟩:=h;rfl
 ·obtain⟨m,rfl,h1,h2,k⟩:=h;refine⟨_,(Qc (Qt (i:=1) KJ.nd rfl (Or.inl rfl) Qg)
   (Qc (Xq PassesOwn.never rfl (Xw rfl O.range (Qa (pv 0) Qb)) (Qi (i:=2) KJ.nd rfl (Or.inl rfl)) (Qf (Qt (i:=1) KJ.nd rfl (Or.inl rfl) (QC WE (pv 1) Qg))))
   (Qf (Qn (pv 1))))),?_⟩
  refine⟨_,rfl,m,rfl,h1,h2,U9 (n:=m.toNat) (fun i σ H2=>∃v,σ=[some (.int m),some (.int (10^i)),v]/\H2=H) ⟨none,rfl,rfl⟩ ?_ ?_⟩
  ·rintro i σ H2 hi ⟨v,rfl,rfl⟩;refine⟨_,rfl,_,_,rfl,rfl,.inr ⟨by decide,by decide⟩,?_⟩;exact⟨_,by rw[Int.pow_succ];rfl,rfl⟩
  ·rintro σ H2 ⟨v,rfl,rfl⟩;exact⟨_,rfl,k⟩
theorem VB{m:Int}(h:m<=40):(K01.ten m).natAbs<2^200:=by
 have h1:=K01.Qdv (a:=m) (b:=40) h (by decide);have h2:=K01.XC m;have h3:K01.ten 40<2^200:=by decide
 omega
theorem big{a:Int}(h:a.natAbs<2^200):a.natAbs<2^2000:=Nat.lt_of_lt_of_le h (by decide)
structure Txt(K:PySem.W.Frag)(mg:Str->Option Value)(tk:Nat->Tok)(c kr:Nat->Addr):Prop where
 uz:mg "BoxError"=some (.ref (c 0))
 rK:mg "NoPicture"=some (.ref (c 1))
 rY:mg "NoRoom"=some (.ref (c 2))
 ny:mg "NoFigures"=some (.ref (c 5))
 pT:mg "NoPath"=some (.ref (c 8))
 rO:mg "NoAmount"=some (.ref (c 9))
 rW:mg "BadSize"=some (.ref (c 11))
 uJ:mg "NoBack"=some (.ref (c 12))
 md:mg "FIGURES"=some (.str "0123456789" (tk 0))
 nz:mg "PART"=some (.int 18 (tk 1))
 gL:mg "INSERTED"=some (.str ",B0/" (tk 2))
 pA:mg "SIGNS"=some (.str "+-" (tk 3))
 gB:mg "FLOATING"=some (.str "+-$" (tk 4))
 nA:mg "PLACES"=some (.str "9Z*+-$" (tk 5))
 hZ:mg "MOST_FIGURES"=some (.int 18 (tk 6))
 gO:mg "MOST_SIGNS"=some (.int 60 (tk 7))
 gm:mg "LAST_BELOW"=some (.str "pqrstuvwxy" (tk 8))
 mj:mg "BESIDE"=some (.ref (kr 3))
 gZ:mg "NOT_BELOW"=some (.ref (kr 4))
 pB:mg "BELOW"=some (.ref (kr 5))
 gj:mg "WITH_AMOUNTS"=some (.ref (kr 6))
 gC:mg "NUMBER_FORMS"=some (.ref (kr 0))
 nV:mg "SHOWN"=some (.ref (kr 1))
 gA:mg "PLAIN_KINDS"=some (.ref (kr 2))
 uy:∀H,SqT K H (kr 0) [.str "9",.str "S9",.str "V9",.str "SV9",.str "9V9",.str "S9V9"]
 nW:∀H,SqT K H (kr 1) [.str "+",.str "-",.str "CR",.str "DB"]
 uA:∀H,SqT K H (kr 6) [.str "number",.str "edited"]
 rL:Err K (c 1)
 rZ:Err K (c 2)
 nB:Err K (c 5)
 pU:Err K (c 8)
 rP:Err K (c 9)
 rX:Err K (c 11)
 rM:kitOne K (.type "str") (.type "str")=some true
 rN:kitOne K (.type "int") (.type "str")=some false
 uK:kitOne K (.type "NoneType") (.type "str")=some false
 uL:kitOne K (.type "tuple") (.type "str")=some false
noncomputable def qA:List (Key × V):=[(Sum.inr "X",.str "text"),(Sum.inr "A",.str "letters")]
noncomputable def VC:Sp:=fun vs H Q _=>∃z:Str,vs=[.str z]/\z.length<=1000/\Q (.bl (decide (z.cps.toList≠[]/\NumText.AllDigits z.cps.toList))) H
theorem VD(z:Str):decide (V.str z=V.str "")=decide (z.cps.toList=[]):=by
 have e:("":Str)=tx []:=by decide+kernel
 rw[e]
 by_cases h:z.cps.toList=[]
 ·rw[uP h,uP];rw[qu z,h]
 ·rw[uO h,uO];intro q;exact h (by rw[V.str.inj q])
theorem wy(z:Str):decide (V.str (Txt.stripChars z "0123456789")=V.str "")=decide (NumText.AllDigits z.cps.toList):=by
 rw[VD, ←wn z.cps.toList];have e:tx z.cps.toList=z:=(qu z).symm;rw[e]
 by_cases h:(Txt.stripChars z "0123456789").cps.toList=[]
 ·rw[uP h,uP];rw[qu (Txt.stripChars _ _),h];rfl
 ·rw[uO h,uO];intro q;exact h (by rw[q];rfl)
theorem Ue(F:Fun K "is_figures" "is_figures" XF f fd)(T:Txt K mg tk c kr):FnOk P w K mg base (CXE P w) 1 f fd ["text"] VC:=by
 refine okN F Y3 (fun vs H Q E h=>?_) (fun cdv A outer s H vs Q E hr h=>?_)
 ·obtain⟨z,rfl,_⟩:=h;rfl
 ·obtain⟨z,rfl,hl,k⟩:=h;refine⟨_,(Qf (Qn (U6 (Zd Z5 (pv 0) Qk (Qm _)) (U5 (Zd Jc (JO plainAttrs_str slot_str_strip type_str_strip zG (pv 0) (Qa (QG (v:=V.str "0123456789") rfl T.md ⟨_,rfl⟩) Qb)) Qk (Qm _)))))),?_⟩;refine⟨_,rfl,rfl,_,rfl,?_⟩;refine ifB (fun h=>?_) (fun h=>?_)
  ·refine⟨_,rfl,rfl,z,"0123456789",rfl,rfl,Nat.le_trans hl (by decide),rfl,?_⟩;rw[VD]at h;refine Eq.mp (congrArg (fun b=>Q (.bl b) H) ?_) k;rw[wy];have hne:z.cps.toList≠[]:=fun q=>by rw[uP q]at h;cases h
   by_cases hd:NumText.AllDigits z.cps.toList
   ·rw[uP hd,uP ⟨hne,hd⟩]
   ·rw[uO hd,uO fun q=>hd q.2]
  ·rw[VD]at h;have hne:z.cps.toList=[]:=by
    by_cases q:z.cps.toList=[]
    ·exact q
    ·rw[uO q]at h;cases h
   refine Eq.mp (congrArg (fun b=>Q (.bl b) H) ?_) k;exact uO fun q=>q.1 hne
noncomputable def wz:Sp:=fun vs H Q _=>∃z:Str,vs=[.str z]/\NumText.AllDigits z.cps.toList/\1<=z.length/\z.length<=500/\Q (.int (NumText.digitsVal z.cps.toList:Nat)) H
theorem qB(F:Fun K "number_of" "number_of" Ki f fd)(O:Own mg)(T:Txt K mg tk c kr)(gk:Def P w K mg base 1 "ten_to" ["many"] xO):FnOk P w K mg base (CXE P w) 2 f fd ["text"] wz:=by
 refine okN F J9 (fun vs H Q E h=>?_) (fun cdv A outer s H vs Q E hr h=>?_)
 ·obtain⟨z,rfl,_⟩:=h;rfl
 ·obtain⟨z,rfl,hd,h1,h2,k⟩:=h;have hll:=len_list z;refine⟨_,(Qc (Qt (i:=1) J9.nd rfl (Or.inl rfl) Qg)
   (Qc (Xq PassesOwn.never rfl (we rfl O.range (Qa Qg (Qa (Qr Q2 rfl O.len PySem.boot_len (Qa (pv 0) Qb)) (Qa (QG (v:=V.int 18) rfl T.nz ⟨_,rfl⟩) Qb)))) (Qi (i:=2) J9.nd rfl (Or.inl rfl)) (Qc (Qt (i:=3) J9.nd rfl (Or.inl rfl) (QZ ZF (pv 0) (QX (pv 2)) (QX (QC Jd (pv 2) (QG (v:=V.int 18) rfl T.nz ⟨_,rfl⟩)))))
   (Qf (Qt (i:=1) J9.nd rfl (Or.inl rfl) (QC Jd (QC kZ (pv 1) (gk.pe hr (by decide) rfl Qp (Qa (Qr Q2 rfl O.len PySem.boot_len (Qa (pv 3) Qb)) Qb))) (Xz KG rfl O.int PyProof.Rows.boot_int (Qa (pv 3) Qb)))))))
   (Qf (Qn (pv 1))))),?_⟩
  have hn:Builtin.Range.rangeSize 0 (z.length:Int) 18=(((z.length-1)/18+1:Nat):Int):=by
   unfold Builtin.Range.rangeSize;rw[if_pos (by decide),if_pos (by omega)];omega
  refine⟨_,rfl,z,rfl,Nat.le_trans h2 (by decide),0,(z.length:Int),18,_,rfl,⟨by decide,by decide,by omega,by omega,by decide,by decide⟩,hn,xL (fun i σ H2=>∃x2 x3,σ=[some (.str z),some (.int (NumText.digitsVal (z.cps.toList.take (18*i)):Nat)),x2,x3]/\H2=H) ⟨none,none,rfl,rfl⟩ ?_ ?_⟩
  ·rintro i σ H2 hi ⟨x2,x3,rfl,rfl⟩;have hi18:18*i<z.length:=by omega
   have hs:StrLaws.sliceText z (some (0+(i:Int)*18)) (some (0+(i:Int)*18+18))=tx ((z.cps.toList.drop (18*i)).take 18):=by
    have e1:(0+(i:Int)*18)=((18*i:Nat):Int):=by omega
    have e2:(0+(i:Int)*18+18)=((18*i+18:Nat):Int):=by omega
    rw[e2,e1];have:=ZX z.cps.toList (a:=18*i) (b:=18*i+18) (by omega) (by omega);rw[←qu z,show 18*i+18-18*i=18 by omega]at this;exact this
   refine⟨_,rfl,_,rfl,_,rfl,_,rfl,_,_,rfl,rfl,_,rfl,z,rfl,Nat.le_trans h2 (by decide),?_⟩;rw[hs];have hpd:NumText.AllDigits ((z.cps.toList.drop (18*i)).take 18):=fun c hc=>hd c (List.mem_of_mem_drop (List.mem_of_mem_take hc));have hpl:((z.cps.toList.drop (18*i)).take 18).length<=18:=by rw[uY];omega
   have hp1:1<=((z.cps.toList.drop (18*i)).take 18).length:=by rw[uY,uZ];omega
   have htk:z.cps.toList.take (18*(i+1))=z.cps.toList.take (18*i)++(z.cps.toList.drop (18*i)).take 18:=by rw[show 18*(i+1)=18*i+18 by omega,List.take_add]
   generalize (z.cps.toList.drop (18*i)).take 18=pl at hpd hpl hp1 htk;have htl:=Qq pl;have hv0:=Qdx (l:=z.cps.toList.take (18*i)) fun c hc=>hd c (List.mem_of_mem_take hc);have hv1:NumText.digitsVal (z.cps.toList.take (18*i))<10^500:=Nat.lt_of_lt_of_le hv0 (Nat.pow_le_pow_right (by decide) (by rw[uY];omega));refine⟨_,rfl,_,rfl,tx pl,rfl,by rw[htl];exact Nat.le_trans hpl (by decide),_,rfl,by omega,by omega,_,_,rfl,rfl,⟨Nat.lt_trans hv1 (by decide),big (VB (by omega))⟩,?_⟩;refine⟨_,rfl,tx pl,_,rfl,PySem.intText_digits hpd (fun q=>by rw[Vt]at q;rw[q]at hp1;exact absurd hp1 (by decide)) (by rw[htl];omega),by rw[htl];omega,_,_,rfl,rfl,?_⟩;have et:K01.ten (((tx pl).length:Nat):Int)=((10^pl.length:Nat):Int):=by
    unfold K01.ten;rw[tM,htl];push_cast;rfl
   have key:((NumText.digitsVal (z.cps.toList.take (18*i)):Nat):Int)*K01.ten (((tx pl).length:Nat):Int)+((NumText.digitsVal (tx pl).cps.toList:Nat):Int)=((NumText.digitsVal (z.cps.toList.take (18*(i+1))):Nat):Int):=by
    rw[htk,Y0,et,Vt];push_cast;rfl
   refine⟨some (.int (0+(i:Int)*18)),some (.str (tx pl)),?_,rfl⟩;rw[←key];rfl
  ·rintro σ H2 ⟨x2,x3,rfl,rfl⟩;refine⟨_,rfl,?_⟩;rw[List.take_of_length_le (by omega)];exact k
end
section
variable {P:Program}{w:World}{K:PySem.W.Frag}{mg:Str->Option Value}{base:Heap}{f:Addr}{fd:FuncData}{tk:Nat->Tok}{c kr:Nat->Addr}
noncomputable def jJ:Sp:=fun vs H Q _=>∃(l:List Nat)(a:Nat),vs=[.str (tx l),.int (a:Nat)]/\l.length<=500/\a<=l.length/\∀b,a<=b->b<=l.length->(QS (l.drop a)).2=l.drop b->∀q,H q=none->Q (.ref q) (upd H q (.tup [.int ((QS (l.drop a)).1:Nat),.int (b:Nat)]))
theorem yP{t:List Nat}(h:t.take 1≠[40]):QS t=(1,t):=by
 unfold QS
 split
 ·exact absurd rfl h
 ·rfl
theorem wA{r:List Nat}(h:¬ (41∈r/\r.takeWhile (· !=41)≠[]/\NumText.AllDigits (r.takeWhile (· !=41))/\(r.takeWhile (· !=41)).head?≠some 48)):QS (40::r)=(1,40::r):=if_neg h
theorem xP{r:List Nat}(h:41∈r/\r.takeWhile (· !=41)≠[]/\NumText.AllDigits (r.takeWhile (· !=41))/\(r.takeWhile (· !=41)).head?≠some 48):QS (40::r)=(NumText.digitsVal (r.takeWhile (· !=41)),r.drop ((r.takeWhile (· !=41)).length+1)):=if_pos h
theorem qC(a:Nat):(a:Int)+1=((a+1:Nat):Int):=by omega
theorem jK(F:Fun K "times_at" "times_at" We f fd)(O:Own mg)(T:Txt K mg tk c kr)(hV:Def P w K mg base 1 "is_figures" ["text"] VC)(gd:Def P w K mg base 2 "number_of" ["text"] wz):
  FnOk P w K mg base (CXE P w) 3 f fd ["text","at"] jJ:=by
 refine okN F Kj (fun vs H Q E h=>?_) (fun cdv A outer s H vs Q E hr h=>?_)
 ·obtain⟨l,a,rfl,_⟩:=h;rfl
 ·obtain⟨l,a,rfl,hl,ha,k⟩:=h;have hz:1000<=sizeLine:=by decide
  have htl:=Qq l;have e40:("(":Str)=tx [40]:=by decide+kernel
  have e41:(")":Str)=tx [41]:=by decide+kernel
  have e48:("0":Str)=tx [48]:=by decide+kernel
  refine⟨_,(Qc (QM (Qj Z5 (QZ ZF (pv 0) (QX (pv 1)) (QX (QC Jd (pv 1) Qg))) Qk (Qm _)) (Qf (Qn (QI (Qa Qg (Qa (pv 1) Qb))))) Qu)
   (Qc (Qt (i:=2) Kj.nd rfl (Or.inl rfl) (JO plainAttrs_str slot_str_find type_str_find yG (pv 0) (Qa Qk (Qa (pv 1) Qb))))
   (Qc (Qt (i:=3) Kj.nd rfl (Or.inl rfl) (QZ ZF (pv 0) (QX (QC Jd (pv 1) Qg)) (QX (Qr (kC rfl) rfl O.max PyProof.Rows.boot_max (Qa (pv 2) (Qa (pv 1) Qb))))))
   (Qc (QM (PW.pt (Z3 (Vc (X7 (hV.pe hr (by decide) rfl Qp (Qa (pv 3) Qb)))) (J7 (X7 (JO plainAttrs_str slot_str_startswith type_str_startswith YX (pv 3) (Qa Qk Qb)))))) (Qf (Qn (QI (Qa Qg (Qa (pv 1) Qb))))) Qu)
   (Qf (Qn (QI (Qa (gd.pe hr (by decide) rfl Qp (Qa (pv 3) Qb)) (Qa (QC Jd (pv 2) Qg) Qb))))))))),?_⟩
  refine⟨_,rfl,_,rfl,_,rfl,_,rfl,_,_,rfl,rfl,_,rfl,tx l,rfl,by omega,?_⟩;rw[qC,ZX l (a:=a) (b:=a+1) ha (by omega),show a+1-a=1 by omega];refine⟨rfl,_,rfl,?_⟩;have stop:QS (l.drop a)=(1,l.drop a)->∀q,H q=none->Q (.ref q) (upd H q (.tup [.int 1,.int (a:Nat)])):=fun e q hq=>by
   have:=k a (uQ _) ha (by rw[e]) q hq;rw[e]at this;exact this
  rw[e40,Y1];refine ifB (fun h1=>?_) (fun h1=>?_)
  ·refine⟨_,rfl,sL2,stop (yP fun e=>?_)⟩;rw[e]at h1;cases h1
  have h2:(l.drop a).take 1=[40]:=by
   by_cases e:(l.drop a).take 1=[40]
   ·exact e
   ·rw[uO e]at h1;cases h1
  obtain⟨r,hr0⟩:∃r,l.drop a=40::r:=by
   cases e:l.drop a with
   |nil=>rw[e]at h2;cases h2
   |cons b r=>
    rw[e]at h2;have:b=40:=(List.cons.inj h2).1;exact⟨r,by rw[this]⟩
  have hrl:l.length=a+(r.length+1):=by
   have:=congrArg List.length hr0;rw[uZ,uT]at this;omega
  have stopB:¬ (41∈r/\r.takeWhile (· !=41)≠[]/\NumText.AllDigits (r.takeWhile (· !=41))/\(r.takeWhile (· !=41)).head?≠some 48)->∀q,H q=none->Q (.ref q) (upd H q (.tup [.int 1,.int (a:Nat)])):=fun z=>stop (by rw[hr0];exact wA z);refine⟨_,rfl,rfl,_,rfl,tx l,")",(a:Int),rfl,rfl,?_⟩;rw[e41];have hfind:=QbN (c:=41) hr0 (by decide);generalize wf (tx l) (tx [41]) (a:Int)=e at hfind;refine⟨_,rfl,_,rfl,_,_,rfl,rfl,_,rfl,_,rfl,_,rfl,_,_,rfl,_,rfl,tx l,rfl,by omega,?_⟩;rw[qC];rcases hfind with⟨hno,rfl⟩|⟨hin,rfl⟩
  ·have es:StrLaws.sliceText (tx l) (some ((a+1:Nat):Int)) (some (if(a:Int)> -1 then(a:Int)else-1))=tx []:=by
    rw[if_pos (by omega)];exact xN l (by omega) (by omega)
   rw[es];refine⟨_,rfl,tx [],rfl,by rw[Qq];decide,_,rfl,?_⟩;refine ifB (fun _=>?_) (fun q=>?_)
   ·exact⟨_,rfl,sL2,stopB fun q=>hno q.1⟩
   ·have:decide ((tx []).cps.toList≠[]/\NumText.AllDigits (tx []).cps.toList)=false:=uO fun z=>z.1 rfl;rw[this]at q;cases q
  ·generalize hn:r.takeWhile (· !=41)=n;have hnl:n.length<=r.length:=by rw[←hn];exact(List.takeWhile_sublist _).length_le
   have hnr:n.length<r.length:=by
    rcases Nat.lt_or_ge n.length r.length with h|h
    ·exact h
    ·have e:n=r:=by rw[←hn]at h ⊢;exact(List.takeWhile_sublist _).eq_of_length_le h
     rw[←e, ←hn]at hin;have:=wm hin;simp at this
   have htk:r.take n.length=n:=by
    have:=List.takeWhile_append_dropWhile (p:=(· !=41)) (l:=r);rw[hn]at this;rw[←this,List.take_left]
   have es:StrLaws.sliceText (tx l) (some ((a+1:Nat):Int)) (some (if(a:Int)>((a+1+n.length:Nat):Int)then(a:Int)else((a+1+n.length:Nat):Int)))=tx n:=by
    rw[if_neg (by omega),ZX l (by omega) (by omega),show a+1+n.length-(a+1)=n.length by omega];have:l.drop (a+1)=r:=by rw[←List.drop_drop,hr0];rfl
    rw[this,htk]
   rw[es];have hnt:=Qq n;refine⟨_,rfl,tx n,rfl,by omega,_,rfl,?_⟩;refine ifB (fun q=>?_) (fun q=>?_)
   ·refine⟨_,rfl,sL2,stopB fun z=>?_⟩;rw[hn]at z;have:decide ((tx n).cps.toList≠[]/\NumText.AllDigits (tx n).cps.toList)=true:=uP ⟨z.2.1,z.2.2.1⟩;rw[this]at q;cases q
   have hfg:n≠[]/\NumText.AllDigits n:=by
    by_cases z:n≠[]/\NumText.AllDigits n
    ·exact z
    ·have:decide ((tx n).cps.toList≠[]/\NumText.AllDigits (tx n).cps.toList)=false:=uO z;rw[this]at q;cases q
   refine⟨_,rfl,rfl,tx n,"0",rfl,rfl,trivial,_,rfl,?_⟩;rw[e48,yK];refine ifB (fun q2=>?_) (fun q2=>?_)
   ·refine⟨_,rfl,sL2,stopB fun z=>?_⟩;rw[hn]at z;exact z.2.2.2 (by simpa using q2)
   have hgood:41∈r/\r.takeWhile (· !=41)≠[]/\NumText.AllDigits (r.takeWhile (· !=41))/\(r.takeWhile (· !=41)).head?≠some 48:=by
    rw[hn];exact⟨hin,hfg.1,hfg.2,by simpa using q2⟩
   have hn1:1<=n.length:=by cases n with|nil=>exact absurd rfl hfg.1|cons=>simp
   refine⟨_,rfl,tx n,rfl,hfg.2,by omega,by omega,_,rfl,_,_,rfl,rfl,sL2,fun p hp=>?_⟩;have et:=xP hgood;rw[hn]at et;have:=k (a+1+n.length+1) (by omega) (by omega) (by
    rw[hr0,et];show r.drop (n.length+1)=_;have e1:l.drop (a+1)=r:=by rw[←List.drop_drop,hr0];rfl
    rw[←e1,List.drop_drop]
    congr 1) p hp
   rw[hr0,et]at this;exact this
noncomputable def Qf1(v:V)(H:Hp):Prop:=v=.non\/(∃i,v=.int i)\/∃a xs,v=.ref a/\H a=some (.tup xs)
noncomputable def zJ(K:PySem.W.Frag):Sp:=fun vs H Q _=>∃(v:V)(rows:List Rw),vs=[v]/\((∃l,v=.str (tx l)/\l.length<=500/\rows=rowsOf l)\/(Qf1 v H/\rows=[]))/\∀p rs H',Qo H H'->RowsAt K H' p rs rows->Q (.ref p) H'
theorem yQ(t:List Nat):(QS t).2.length<=t.length:=by
 unfold QS
 split
 ·split
  ·show(List.drop _ _).length<=_;rw[uZ,uT];omega
  ·exact uQ _
 ·exact uQ _
theorem Uf{c:TT}{t u:TS}{D:Ends}{σ:L2.St}{H:Hp}(Good:L2.St->Hp->Prop)(rest:∀σ' H',Good σ' H'->u D σ' H') (h:(∀σ' H',Good σ' H'->u D σ' H')->c σ H fun b H1=>if b=true then t {D with nx:=u D} σ H1 else u D σ H1):Xu (Qeg c t Js) u D σ H:=h rest
theorem Rws.last{H:Hp}{rs:List Addr}{rows:List Rw}(h:Rws H rs rows):(rs=[]/\rows=[])\/∃rs' r rows' x,rs=rs'++[r]/\rows=rows'++[x]/\Rws H rs' rows'/\H r=some (Qa5 x):=by
 induction h with
 |nil=>exact .inl ⟨rfl,rfl⟩
 |@cons r rs x xs a t ih=>
  rcases ih with⟨rfl,rfl⟩|⟨rs',r',rows',x',rfl,rfl,h1,h2⟩
  ·exact .inr ⟨[],r,[],x,rfl,rfl,.nil,a⟩
  ·exact .inr ⟨r::rs',r',x::rows',x',rfl,rfl,.cons a h1,h2⟩
theorem add_nil(c n:Nat):QK [] c n=[]++[(c,n)]:=rfl
theorem add_same(rows:List Rw)(c n m:Nat):QK (rows++[(c,m)]) c n=rows++[(c,n+m)]:=by
 unfold QK;rw[List.getLast?_concat];simp
theorem wB{rows:List Rw}{c c' n m:Nat}(h:c'≠c):QK (rows++[(c',m)]) c n=(rows++[(c',m)])++[(c,n)]:=by
 unfold QK;rw[List.getLast?_concat];simp[h]
theorem xQ(F:Fun K "rows_of" "rows_of" Vv f fd)(O:Own mg)(T:Txt K mg tk c kr)(nX:Def P w K mg base 3 "times_at" ["text","at"] jJ):
  FnOk P w K mg base (CXE P w) 4 f fd ["thing"] (zJ K):=by
 refine okN F JZ (fun vs H Q E h=>?_) (fun cdv A outer s H vs Q E hr h=>?_)
 ·obtain⟨v,rows,rfl,_⟩:=h;rfl
 ·obtain⟨v,rows,rfl,hv,k⟩:=h;have hz:1000<=sizeLine:=by decide
  refine⟨_,(Qc (QM (Vc (X7 (Qr KH rfl O.isi PyProof.Rows.boot_isinstance (Qa (pv 0) (Qa (Vb (v:=V.ty "str") rfl O.str PyProof.Rows.boot_str rfl) Qb))))) (Qf (Qn (X9 Qb))) Qu)
   (Qc (Qt (i:=1) JZ.nd rfl (Or.inl rfl) (X9 Qb))
   (Qc (Qt (i:=2) JZ.nd rfl (Or.inl rfl) Qg)
   (Qc (Z4 PassesOwn.never (Qj Kw (pv 2) (Qr Q2 rfl O.len PySem.boot_len (Qa (pv 0) Qb)) (Qm _)) (Qc (Qt (i:=3) JZ.nd rfl (Or.inl rfl) (Qw XA (pv 0) (pv 2) (fun _ _=>rfl)))
   (Qc (Q0 (nX.pe hr (by decide) rfl Qp (Qa (pv 0) (Qa (QC Jd (pv 2) Qg) Qb))) (QN rfl (Qh (Qi (i:=4) JZ.nd rfl (Or.inl rfl)) (Qh (Qi (i:=2) JZ.nd rfl (Or.inl rfl)) QA))))
   (Qc (QM (PW.pt (Zi (Jr (pv 1) (fun _=>rfl)) (JX (Qj Jc (Qw JV (Qw Je (pv 1) (Vf Xx Qg) (fun _ _=>rfl)) Qg (fun _ _=>rfl)) (pv 3) (Qm _))))) (Qf (Kv (i:=4) JZ.nd rfl (Or.inl rfl) (Qw JV (zu plainAttrs_list slot_list_pop type_list_pop zy (pv 1)) Qg (fun _ _=>rfl)) WD)) Qu)
   (Qf (Jb (JO plainAttrs_list PySem.F.slot_list_append PySem.F.type_list_append JC (pv 1) (Qa (QI (Qa (pv 3) (Qa (pv 4) Qb))) Qb))))))))
   (Qf (Qn (pv 1))))))),?_⟩
  rcases hv with⟨l,rfl,hl,rfl⟩|⟨hv,rfl⟩
  ·have htl:=Qq l;refine⟨_,rfl,.str (tx l),V.ty "str",true,rfl,rfl,.inl ⟨_,.str _,T.rM⟩,true,rfl,?_⟩;refine QO ⟨sL0,fun p hp=>?_⟩;have S1:=Qo.new (o:=.lst []) hp;refine⟨fun m σ H2=>∃(a:Nat)(rs:List Addr)(rows:List Rw)(x3 x4:Option V)(kf:Nat),m=l.length-a/\a<=l.length/\σ=[some (.str (tx l)),some (.ref p),some (.int (a:Nat)),x3,x4]/\H2 p=some (.lst (rs.map V.ref))/\Rws H2 rs rows/\Qo H H2/\rows.length<=a/\(l.drop a).length<=kf/\rowsOf l=WI kf (l.drop a) rows,⟨l.length,0,[],[],none,none,l.length,rfl,tK _,rfl,Qd,.nil,S1,uQ _,by simp,rfl⟩,?_⟩;rintro m σ H2 ⟨a,rs,rows,x3,x4,kf,rfl,hal,rfl,hp2,R2,S2,hra,hkf,hro⟩;refine⟨_,rfl,_,rfl,tx l,rfl,by omega,_,_,rfl,rfl,_,rfl,?_⟩;refine ifB (fun h1=>?_) (fun h1=>?_)
   ·have ha:a<l.length:=by have:=of_decide_eq_true h1;omega
    obtain⟨ch,hch⟩:∃ch,l[a]? =some ch:=⟨_,List.getElem?_eq_getElem ha⟩;have hdr:l.drop a=ch::l.drop (a+1):=by rw[List.drop_eq_getElem_cons ha];congr 1;rw[List.getElem?_eq_getElem ha]at hch;exact uR hch
    refine⟨_,fun _ _ h=>h,_,rfl,_,rfl,tx l,(a:Int),ch,rfl,rfl,by omega,JI hch,?_⟩;refine⟨_,rfl,_,rfl,_,_,rfl,rfl,l,a+1,rfl,hl,by omega,fun b hb1 hb2 hb3 q hq=>⟨q,_,rfl,SqT.of Qd,rfl,_,_,rfl,_,_,rfl,rfl,?_⟩⟩;have S3:=Qo.new (o:=.tup [.int ((QS (l.drop (a+1))).1:Nat),.int (b:Nat)]) hq;generalize hH3:upd H2 q (.tup [.int ((QS (l.drop (a+1))).1:Nat),.int (b:Nat)])=H3 at S3;have hp3:=S3 _ _ hp2;have R3:=R2.keep fun b xs h=>S3 _ _ h;have S13:=S2.trans S3;clear hH3 hq S3 hp2 R2 S2;cases kf with
    |zero=>rw[hdr]at hkf;exact absurd hkf (by simp)
    |succ kf=>
    rw[hdr]at hro hkf;have hro2:rowsOf l=WI kf (QS (l.drop (a+1))).2 (QK rows ch (QS (l.drop (a+1))).1):=hro;have hkf2:(QS (l.drop (a+1))).2.length<=kf:=by
     have:=yQ (l.drop (a+1));rw[uT]at hkf;omega
    rw[hb3]at hro2 hkf2;generalize (QS (l.drop (a+1))).1=n at hro2;dsimp only;refine Uf (fun σ' H'=>∃(rs1:List Addr)(rows1:List Rw)(nn:Nat),σ'=[some (.str (tx l)),some (.ref p),some (.int (b:Nat)),some (.str (tx [ch])),some (.int (nn:Nat))]/\H' p=some (.lst (rs1.map V.ref))/\Rws H' rs1 rows1/\Qo H H'/\QK rows ch n=rows1++[(ch,nn)]/\rows1.length<=rows.length) ?_ (fun rest=>?_)
    ·rintro σ' H4 ⟨rs1,rows1,nn,rfl,hp4,R4,S4,had,hle⟩;refine⟨_,rfl,.inl ⟨rfl,_,.inl (.inl hp4)⟩,_,rfl,_,rfl,sL2,fun q2 hq2=>?_⟩;have S5:=Qo.new (o:=.tup [.str (tx [ch]),.int (nn:Nat)]) hq2;have g5:upd H4 q2 (.tup [.str (tx [ch]),.int (nn:Nat)]) q2=some (Qa5 (ch,nn)):=Qd;generalize upd H4 q2 (.tup [.str (tx [ch]),.int (nn:Nat)])=H5 at S5 g5;have hp5:=S5 _ _ hp4;have nq:q2≠p:=fun z=>by rw[z,hp4]at hq2;cases hq2
     have R5:=R4.keep fun b xs h=>S5 _ _ h;have S15:=S4.trans S5;refine⟨p,_,_,rfl,rfl,hp5,by rw[uN,R4.len];omega,l.length-b,by omega,b,rs1++[q2],QK rows ch n,_,_,kf,rfl,hb2,rfl,?_,?_,?_,?_,hkf2,hro2⟩
     ·rw[Qd,tm];rfl
     ·rw[had];refine Rws.app (R5.keep fun b xs h=>?_) ?_
      ·rw[Ql fun z=>by rw[z,hp5]at h;cases h];exact h
      ·rw[Ql nq];exact g5
     ·intro b o h;rw[Ql (Qv h hp)];exact S15 _ _ h
     ·rw[had,uM];simp;omega
    ·rcases R3.last with⟨rfl,rfl⟩|⟨rs',r',rows',⟨c',m'⟩,rfl,rfl,R4,g4⟩
     ·refine⟨_,rfl,false,.inl ⟨_,SqL.of hp3,rfl⟩,?_⟩;exact QO (QO (rest _ _ ⟨[],[],n,rfl,hp3,.nil,S13,add_nil ch n,uQ _⟩))
     ·have hp4:H3 p=some (.lst (rs'.map V.ref++[V.ref r'])):=by rw[hp3,tm];rfl
      have sq4:SqL K H3 p (rs'.map V.ref++[V.ref r']):=SqL.of hp4;refine⟨_,rfl,true,.inl ⟨_,sq4,by cases rs'<;>rfl⟩,?_⟩;refine QY ⟨_,rfl,_,rfl,p,_,_,_,rfl,rfl,sq4,YN _ _,r',_,_,_,rfl,rfl,SqT.of g4,rfl,_,rfl,rfl,_,rfl,?_⟩;rw[show(⟨#[ch]⟩:Str)=tx [ch]from rfl,JJ];refine ifB (fun h2=>?_) (fun h2=>?_)
      ·have hc:c'=ch:=of_decide_eq_true h2;subst hc;refine⟨_,rfl,_,rfl,.inl ⟨rfl,_,sq4⟩,p,_,V.ref r',rfl,rfl,hp4,by rw[uM];simp,r',[.str (tx [c']),.int (m':Nat)],1,.int (m':Nat),rfl,rfl,?_,rfl,_,_,rfl,rfl,?_⟩
       ·exact SqT.of (by rw[Ql fun z=>by rw[z,hp4]at g4;cases g4];exact g4)
       ·refine rest _ _ ⟨rs',rows',n+m',rfl,by rw[Qd,List.dropLast_concat],R4.keep fun b xs h=>?_,fun b o h=>?_,add_same rows' c' n m',by simp⟩
        ·rw[Ql fun z=>by rw[z,hp4]at h;cases h];exact h
        ·rw[Ql (Qv h hp)];exact S13 _ _ h
      ·have hc:c'≠ch:=of_decide_eq_false h2;exact rest _ _ ⟨_,_,n,rfl,hp3,R3,S13,wB hc,uQ _⟩
   ·have ha:a=l.length:=by have:=of_decide_eq_false h1;omega
    subst ha;rw[List.drop_length]at hro;have hr2:rowsOf l=rows:=by
     rw[hro];cases kf<;>rfl
    refine⟨_,rfl,k p rs H2 S2 ⟨SqL.of hp2,by rw[hr2];exact R2,by rw[hr2];omega⟩⟩
  ·have isi:∃x c b,[v,V.ty "str"]=[x,c]/\Qbz c=true/\((∃t,TyOf K H x t/\kitOne K t (Qdt c)=some b)\/∃a C,x=.ref a/\H a=some (QeK a (.ref C))/\ErrK K C/\kitOne K (.ref C) (Qdt c)=some b)/\b=false:=by
    rcases hv with rfl|⟨i,rfl⟩|⟨a,xs,rfl,e⟩
    ·exact⟨_,_,false,rfl,rfl,.inl ⟨_,.non,T.uK⟩,rfl⟩
    ·exact⟨_,_,false,rfl,rfl,.inl ⟨_,.int _,T.rN⟩,rfl⟩
    ·exact⟨_,_,false,rfl,rfl,.inl ⟨_,.tup e,T.uL⟩,rfl⟩
   obtain⟨x,cc,b,e1,e2,e3,rfl⟩:=isi;refine⟨_,rfl,x,cc,false,e1,e2,e3,false,rfl,?_⟩;refine QY ⟨sL0,fun p hp=>?_⟩;exact k p [] _ (Qo.new hp) ⟨SqL.of Qd,.nil,by simp⟩
end
section
variable {P:Program}{w:World}{K:PySem.W.Frag}{mg:Str->Option Value}{base:Heap}{f:Addr}{fd:FuncData}{tk:Nat->Tok}{c kr:Nat->Addr}
theorem drop_cons{α:Type}{l:List α}{a:Nat}{x:α}(h:l[a]? =some x):l.drop a=x::l.drop (a+1):=by
 have ha:=(List.getElem?_eq_some_iff.mp h).1;rw[List.drop_eq_getElem_cons ha]
 congr 1
 rw[List.getElem?_eq_getElem ha]at h;exact uR h
theorem VE{α:Type}{l:List α}{a:Nat}(h:a<l.length):∃x,l[a]? =some x:=⟨_,List.getElem?_eq_getElem h⟩
theorem Qdz:(",B0/":Str)=tx [44,66,48,47]:=by decide+kernel
theorem QdA:("+-$":Str)=tx [43,45,36]:=by decide+kernel
theorem QeS:("+-":Str)=tx [43,45]:=by decide+kernel
theorem QeT:("9Z*+-$":Str)=tx [57,90,42,43,45,36]:=by decide+kernel
theorem QeU:("$":Str)=tx [36]:=by decide+kernel
theorem yR:("9":Str)=tx [57]:=by decide+kernel
theorem QeV:(".":Str)=tx [46]:=by decide+kernel
theorem yS:("":Str)=tx []:=by decide+kernel
noncomputable def Ug(K:PySem.W.Frag):Sp:=fun vs H Q _=>∃(p:Addr)(rs:List Addr)(rows:List Rw)(a:Nat),vs=[.ref p,.int (a:Nat)]/\RowsAt K H p rs rows/\a<rows.length/\Q (.bl (Jk (rows.drop a))) H
theorem qD(F:Fun K "floats_at" "floats_at" Kk f fd)(O:Own mg)(T:Txt K mg tk c kr):FnOk P w K mg base (CXE P w) 1 f fd ["rows","at"] (Ug K):=by
 refine okN F Za (fun vs H Q E h=>?_) (fun cdv A outer s H vs Q E hr h=>?_)
 ·obtain⟨p,rs,rows,a,rfl,_⟩:=h;rfl
 ·obtain⟨p,rs,rows,a,rfl,R,ha,k⟩:=h;refine⟨_,(Qc (Q0 (Qw Je (pv 0) (pv 1) (fun _ _=>rfl)) (QN rfl (Qh (Qi (i:=2) Za.nd rfl (Or.inl rfl)) (Qh (Qi (i:=3) Za.nd rfl (Or.inl rfl)) QA))))
   (Qc (QM (Qj YK (pv 3) Qg (Qm _)) (Qf (Qn WQ)) Qu)
   (Qc (Qt (i:=4) Za.nd rfl (Or.inl rfl) (QC Jd (pv 1) Qg))
   (Qc (Z4 PassesOwn.never (PW.pt (Zi (Qj Kw (pv 4) (Qr QF rfl O.len PySem.boot_len (Qa (pv 0) Qb)) (Qm _)) (JX (Qj Zv (Qw JV (Qw Je (pv 0) (pv 4) (fun _ _=>rfl)) Qg (fun _ _=>rfl)) (QG (v:=V.str ",B0/") rfl T.gL ⟨_,rfl⟩) (by with_unfolding_all rfl))))) (Qf (Kv (i:=4) Za.nd rfl (Or.inl rfl) Qg WD)))
   (Qf (Qn (U6 (Zd Kw (pv 4) (Qr QF rfl O.len PySem.boot_len (Qa (pv 0) Qb)) (Qm _)) (U5 (Zd Jc (Qw JV (Qw Je (pv 0) (pv 4) (fun _ _=>rfl)) Qg (fun _ _=>rfl)) (pv 2) (Qm _)))))))))),?_⟩
  obtain⟨⟨y,n⟩,hx⟩:=VE ha;rw[drop_cons hx]at k;refine qx rfl (JP rfl) R hx fun r hr1=>⟨r,_,rfl,SqT.of hr1,rfl,_,_,rfl,_,_,rfl,rfl,?_⟩;refine⟨_,rfl,_,_,rfl,rfl,_,rfl,?_⟩;refine ifB (fun h1=>?_) (fun h1=>?_)
  ·have hn:n>1:=by have:=of_decide_eq_true h1;omega
   have e:Jk ((y,n)::rows.drop (a+1))=true:=by unfold Jk;simp[hn]
   rw[e]at k;exact k
  have hn:¬ n>1:=by have:=of_decide_eq_false h1;omega
  have e:Jk ((y,n)::rows.drop (a+1))=(match(rows.drop (a+1)).dropWhile (fun x=>ins x.1)with|(c',_)::_=>c'==y|[]=>false):=by
   show(decide (n>1)||_)=_;rw[uO hn,Bool.false_or]
   all_goals rfl
  rw[e]at k;clear e;refine⟨_,rfl,_,_,rfl,rfl,?_⟩;refine⟨fun m σ H2=>∃b:Nat,m=rows.length-b/\b<=rows.length/\σ=[some (.ref p),some (.int (a:Nat)),some (.str (tx [y])),some (.int (n:Nat)),some (.int (b:Nat))]/\H2=H/\(rows.drop (a+1)).dropWhile (fun x=>ins x.1)=(rows.drop b).dropWhile (fun x=>ins x.1),⟨_,a+1,rfl,by omega,rfl,rfl,rfl⟩,?_⟩;rintro m σ H2 ⟨b,rfl,hb,rfl,rfl,hd⟩;refine⟨_,rfl,Zo rfl R ⟨_,_,rfl,rfl,_,rfl,?_⟩⟩;rcases Nat.lt_or_ge b rows.length with hlt|hge
  ·rw[uP (by omega)];obtain⟨⟨y2,n2⟩,hx2⟩:=VE hlt;refine QY (XD rfl (JP rfl) R hx2 ⟨_,_,rfl,rfl,_,rfl,?_⟩);rw[Qdz,Xt];have hc:([44,66,48,47]:List Nat).contains y2=ins y2:=rfl;rw[hc];rw[drop_cons hx2]at hd;refine ifB (fun h2=>?_) (fun h2=>?_)
   ·refine⟨_,fun _ _ h=>h,?_⟩;refine⟨_,rfl,_,_,rfl,rfl,_,?_,b+1,rfl,by omega,rfl,rfl,?_⟩
    ·omega
    ·rw[hd,List.dropWhile_cons,if_pos h2]
   ·rw[List.dropWhile_cons,if_neg (by rw[h2];decide)]at hd;rw[hd]at k;refine⟨_,rfl,Zo rfl R ⟨_,_,rfl,rfl,_,rfl,?_⟩⟩;rw[uP (by omega)];refine QY (XD rfl (JP rfl) R hx2 ⟨_,rfl,rfl,?_⟩);rw[JJ];have e3:decide (y2=y)=(y2==y):=by by_cases z:y2=y<;>simp[z]
    rw[e3];exact k
  ·rw[uO (by omega)];refine QO (QO ?_);rw[List.drop_eq_nil_of_le hge]at hd;rw[hd]at k;refine⟨_,rfl,Zo rfl R ⟨_,_,rfl,rfl,_,rfl,?_⟩⟩;rw[uO (by omega)];exact QO k
noncomputable def Uh(K:PySem.W.Frag):Sp:=fun vs H Q _=>∃(p:Addr)(rs:List Addr)(rows:List Rw)(a pc:Nat),vs=[.ref p,.int (a:Nat),.str (tx [pc])]/\RowsAt K H p rs rows/\a<=rows.length/\
 ∀b many:Nat,b<=rows.length->QH pc (rows.drop a) 0=(many,rows.drop b)->∀q,H q=none->Q (.ref q) (upd H q (.tup [.int (many:Nat),.int (b:Nat)]))
theorem qE(F:Fun K "places_of" "places_of" Kl f fd)(O:Own mg)(T:Txt K mg tk c kr):FnOk P w K mg base (CXE P w) 1 f fd ["rows","at","place"] (Uh K):=by
 refine okN F ZH (fun vs H Q E h=>?_) (fun cdv A outer s H vs Q E hr h=>?_)
 ·obtain⟨p,rs,rows,a,pc,rfl,_⟩:=h;rfl
 ·obtain⟨p,rs,rows,a,pc,rfl,R,ha,k⟩:=h;have hz:1000<=sizeLine:=by decide
  refine⟨_,(Qc (Qt (i:=3) ZH.nd rfl (Or.inl rfl) Qg)
   (Qc (Z4 PassesOwn.never (PW.pt (Zi (Qj Kw (pv 1) (Qr QF rfl O.len PySem.boot_len (Qa (pv 0) Qb)) (Qm _)) (JX (PW.pt (Z3 (Qj Jc (Qw JV (Qw Je (pv 0) (pv 1) (fun _ _=>rfl)) Qg (fun _ _=>rfl)) (pv 2) (Qm _)) (J7 (Qj Zv (Qw JV (Qw Je (pv 0) (pv 1) (fun _ _=>rfl)) Qg (fun _ _=>rfl)) (QG (v:=V.str ",B0/") rfl T.gL ⟨_,rfl⟩) (by with_unfolding_all rfl)))))))) (Qc (QM (Qj Jc (Qw JV (Qw Je (pv 0) (pv 1) (fun _ _=>rfl)) Qg (fun _ _=>rfl)) (pv 2) (Qm _)) (Qf (Kv (i:=3) ZH.nd rfl (Or.inl rfl) (Qw JV (Qw Je (pv 0) (pv 1) (fun _ _=>rfl)) Qg (fun _ _=>rfl)) WD)) Qu)
   (Qf (Kv (i:=1) ZH.nd rfl (Or.inl rfl) Qg WD))))
   (Qf (Qn (QI (Qa (pv 3) (Qa (pv 1) Qb))))))),?_⟩
  refine⟨fun m σ H2=>∃b many:Nat,m=rows.length-b/\b<=rows.length/\σ=[some (.ref p),some (.int (b:Nat)),some (.str (tx [pc])),some (.int (many:Nat))]/\H2=H/\QH pc (rows.drop a) 0=QH pc (rows.drop b) many,⟨_,a,0,rfl,ha,rfl,rfl,rfl⟩,?_⟩;rintro m σ H2 ⟨b,many,rfl,hb,rfl,rfl,hd⟩;refine⟨_,rfl,Zo rfl R ⟨_,_,rfl,rfl,_,rfl,?_⟩⟩;rcases Nat.lt_or_ge b rows.length with hlt|hge
  ·rw[uP (by omega)];obtain⟨⟨y,n⟩,hx⟩:=VE hlt;rw[drop_cons hx]at hd;refine QY (XD rfl (JP rfl) R hx ⟨_,rfl,rfl,_,rfl,?_⟩);rw[JJ]
   by_cases h1:y=pc
   ·rw[uP h1];refine QY (QY ⟨_,fun _ _ h=>h,XD rfl (JP rfl) R hx ⟨_,rfl,rfl,_,rfl,?_⟩⟩);rw[JJ,uP h1];refine QY ⟨_,rfl,Qa6 rfl (JP rfl) R hx ⟨_,_,rfl,rfl,?_⟩⟩;refine⟨_,rfl,_,_,rfl,rfl,rows.length-(b+1),by omega,b+1,many+n,rfl,by omega,rfl,rfl,?_⟩;rw[hd];show(if y=pc then QH pc (rows.drop (b+1)) (many+n)else _)=_;rw[if_pos h1]
   ·rw[uO h1];refine QO (XD rfl (JP rfl) R hx ⟨_,_,rfl,rfl,_,rfl,?_⟩);rw[Qdz,Xt];have hc:([44,66,48,47]:List Nat).contains y=ins y:=rfl;rw[hc];refine ifB (fun h2=>?_) (fun h2=>?_)
    ·refine⟨_,fun _ _ h=>h,XD rfl (JP rfl) R hx ⟨_,rfl,rfl,_,rfl,?_⟩⟩;rw[JJ,uO h1];refine QO ⟨_,rfl,_,_,rfl,rfl,rows.length-(b+1),by omega,b+1,many,rfl,by omega,rfl,rfl,?_⟩;rw[hd];show(if y=pc then _ else if ins y then QH pc (rows.drop (b+1)) many else _)=_;rw[if_neg h1,if_pos h2]
    ·have hd2:QH pc (rows.drop a) 0=(many,rows.drop b):=by
      rw[hd,drop_cons hx];show(if y=pc then _ else if ins y then _ else(many,(y,n)::rows.drop (b+1)))=_;rw[if_neg h1,if_neg (by rw[h2];decide)]
     exact⟨_,rfl,_,rfl,sL2,k b many (by omega) hd2⟩
  ·rw[uO (by omega)];refine QO (QO ?_);have hb2:rows.drop b=[]:=List.drop_eq_nil_of_le hge;have hd2:QH pc (rows.drop a) 0=(many,rows.drop b):=by rw[hd,hb2];rfl
   exact⟨_,rfl,_,rfl,sL2,k b many (by omega) hd2⟩
noncomputable def jL(K:PySem.W.Frag):Sp:=fun vs H Q _=>∃(p:Addr)(rs:List Addr)(rows:List Rw)(a:Nat),vs=[.ref p,.int (a:Nat)]/\RowsAt K H p rs rows/\a<=rows.length/\
 ∀(pl:List Nat)(many nines b:Nat),b<=rows.length->QP (rows.drop a)=(pl,many,nines,rows.drop b)->∀q H',Qo H H'->H' q=some (.tup [.str (tx pl),.int (many:Nat),.int (nines:Nat),.int (b:Nat)])->Q (.ref q) H'
theorem Ui(F:Fun K "whole_part" "whole_part" XH f fd)(O:Own mg)(T:Txt K mg tk c kr)(mE:Def P w K mg base 1 "places_of" ["rows","at","place"] (Uh K)):FnOk P w K mg base (CXE P w) 2 f fd ["rows","at"] (jL K):=by
 refine okN F Ju (fun vs H Q E h=>?_) (fun cdv A outer s H vs Q E hr h=>?_)
 ·obtain⟨p,rs,rows,a,rfl,_⟩:=h;rfl
 ·obtain⟨p,rs,rows,a,rfl,R,ha,k⟩:=h;have hz:1000<=sizeLine:=by decide
  refine⟨_,(Qc (QM (PW.pt (Z3 (Qj yj (pv 1) (Qr QF rfl O.len PySem.boot_len (Qa (pv 0) Qb)) (Qm _)) (J7 (Qj J8 (Qw JV (Qw Je (pv 0) (pv 1) (fun _ _=>rfl)) Qg (fun _ _=>rfl)) (QG (v:=V.str "9Z*+-$") rfl T.nA ⟨_,rfl⟩) (by with_unfolding_all rfl))))) (Qf (Qn (QI (Qa Qk (Qa Qg (Qa Qg (Qa (pv 1) Qb))))))) Qu)
   (Qc (Qt (i:=2) Ju.nd rfl (Or.inl rfl) (Qw JV (Qw Je (pv 0) (pv 1) (fun _ _=>rfl)) Qg (fun _ _=>rfl)))
   (Qc (Q0 (mE.pe hr (by decide) rfl Qp (Qa (pv 0) (Qa (pv 1) (Qa (pv 2) Qb)))) (QN rfl (Qh (Qi (i:=3) Ju.nd rfl (Or.inl rfl)) (Qh (Qi (i:=1) Ju.nd rfl (Or.inl rfl)) QA))))
   (Qc (Q0 (mE.pe hr (by decide) rfl Qp (Qa (pv 0) (Qa (pv 1) (Qa Qk Qb)))) (QN rfl (Qh (Qi (i:=4) Ju.nd rfl (Or.inl rfl)) (Qh (Qi (i:=1) Ju.nd rfl (Or.inl rfl)) QA))))
   (Qf (Qn (QI (Qa (pv 2) (Qa (pv 3) (Qa (pv 4) (Qa (pv 1) Qb))))))))))),?_⟩
  refine⟨_,rfl,Zo rfl R ⟨_,_,rfl,rfl,_,rfl,?_⟩⟩;have none:QP (rows.drop a)=([],0,0,rows.drop a)->∀q,H q=none->Q (.ref q) (upd H q (.tup [.str "",.int 0,.int 0,.int (a:Nat)])):=fun e q hq=>
   k [] 0 0 a ha e q _ (Qo.new hq) (by rw[Qd,yS];rfl)
  rcases Nat.lt_or_ge a rows.length with hlt|hge
  ·rw[uO (by omega)];obtain⟨⟨y,n⟩,hx⟩:=VE hlt;refine QO (XD rfl (JP rfl) R hx ⟨_,_,rfl,rfl,_,rfl,?_⟩);rw[QeT,Xt];refine ifB (fun h1=>?_) (fun h1=>?_)
   ·refine⟨_,rfl,sL4,none ?_⟩;rw[drop_cons hx];show(if([57,90,42,43,45,36]:List Nat).contains y then _ else _)=_;rw[if_neg (by rw[Bool.not_eq_true']at h1;rw[h1];decide)]
   ·have h2:([57,90,42,43,45,36]:List Nat).contains y=true:=by
     cases e:([57,90,42,43,45,36]:List Nat).contains y with
     |true=>rfl
     |false=>rw[e]at h1;cases h1
    refine XD rfl (JP rfl) R hx ?_;refine⟨_,rfl,_,rfl,_,rfl,p,rs,rows,a,y,rfl,R,ha,fun b many hb hp1 q hq=>⟨q,_,rfl,SqT.of Qd,rfl,_,_,rfl,_,_,rfl,rfl,?_⟩⟩;have S1:=Qo.new (o:=.tup [.int (many:Nat),.int (b:Nat)]) hq;generalize upd H q (.tup [.int (many:Nat),.int (b:Nat)])=H1 at S1;refine⟨_,rfl,_,rfl,p,rs,rows,b,57,by rw[yR];rfl,R.same S1,hb,fun b2 nines hb2 hp2 q2 hq2=>⟨q2,_,rfl,SqT.of Qd,rfl,_,_,rfl,_,_,rfl,rfl,?_⟩⟩;have S2:=Qo.new (o:=.tup [.int (nines:Nat),.int (b2:Nat)]) hq2;generalize upd H1 q2 (.tup [.int (nines:Nat),.int (b2:Nat)])=H2 at S2;refine⟨_,rfl,_,rfl,_,rfl,_,rfl,sL4,fun q3 hq3=>?_⟩;refine k [y] many nines b2 hb2 ?_ q3 _ ((S1.trans S2).trans (Qo.new hq3)) Qd;rw[drop_cons hx]at hp1 ⊢;show(if([57,90,42,43,45,36]:List Nat).contains y then _ else _)=_;rw[if_pos h2,hp1];show([y],many,(QH 57 (rows.drop b) 0).1,(QH 57 (rows.drop b) 0).2)=_;rw[hp2]
  ·rw[uP (by omega)];refine QY (QY ⟨_,rfl,sL4,none ?_⟩);rw[List.drop_eq_nil_of_le hge];rfl
noncomputable def oV:Option Nat->V
 |none=>.non
 |some n=>.int (n:Nat)
noncomputable def Uj(K:PySem.W.Frag):Sp:=fun vs H Q _=>∃(p:Addr)(rs:List Addr)(rows:List Rw)(a:Nat)(pl:List Nat),vs=[.ref p,.int (a:Nat),.str (tx pl)]/\RowsAt K H p rs rows/\a<=rows.length/\
 ∀(o:Option Nat)(b:Nat),b<=rows.length->Q4 (rows.drop a) pl=(o,rows.drop b)->∀q,H q=none->Q (.ref q) (upd H q (.tup [oV o,.int (b:Nat)]))
theorem xR{y n:Nat}{r:List Rw}{pl:List Nat}(h:y≠46):Q4 ((y,n)::r) pl=(some 0,(y,n)::r):=by
 unfold Q4
 split
 ·rename_i e;exact absurd (Prod.mk.inj (List.cons.inj e).1).1 h
 ·rfl
theorem Yf(F:Fun K "broken_part" "broken_part" Xc f fd)(O:Own mg)(T:Txt K mg tk c kr):FnOk P w K mg base (CXE P w) 1 f fd ["rows","at","place"] (Uj K):=by
 refine okN F ZR (fun vs H Q E h=>?_) (fun cdv A outer s H vs Q E hr h=>?_)
 ·obtain⟨p,rs,rows,a,pl,rfl,_⟩:=h;rfl
 ·obtain⟨p,rs,rows,a,pl,rfl,R,ha,k⟩:=h;have hz:1000<=sizeLine:=by decide
  have h2s:2<=sizeLine:=by omega
  refine⟨_,(Qc (QM (PW.pt (Z3 (Qj yj (pv 1) (Qr QF rfl O.len PySem.boot_len (Qa (pv 0) Qb)) (Qm _)) (J7 (Qj Z5 (Qw JV (Qw Je (pv 0) (pv 1) (fun _ _=>rfl)) Qg (fun _ _=>rfl)) Qk (Qm _))))) (Qf (Qn (QI (Qa Qg (Qa (pv 1) Qb))))) Qu)
   (Qc (QM (PW.pt (Z3 (Qj YK (Qw JV (Qw Je (pv 0) (pv 1) (fun _ _=>rfl)) Qg (fun _ _=>rfl)) Qg (Qm _)) (J7 (Qj Jc (QC Jd (pv 1) Qg) (Qr QF rfl O.len PySem.boot_len (Qa (pv 0) Qb)) (Qm _))))) (Qf (Qn (QI (Qa Zu (Qa (pv 1) Qb))))) Qu)
   (Qc (Q0 (Qw Je (pv 0) (QC Jd (pv 1) Qg) (fun _ _=>rfl)) (QN rfl (Qh (Qi (i:=3) ZR.nd rfl (Or.inl rfl)) (Qh (Qi (i:=4) ZR.nd rfl (Or.inl rfl)) QA))))
   (Qc (QM (PW.pt (Zi (Qj Z5 (pv 3) Qk (Qm _)) (JX (PW.pt (Z3 (Qj Z5 (pv 3) (pv 2) (Qm _)) (J7 (Qj Zv (pv 3) (QG (v:=V.str "+-$") rfl T.gB ⟨_,rfl⟩) (by with_unfolding_all rfl)))))))) (Qf (Qn (QI (Qa Zu (Qa (pv 1) Qb))))) Qu)
   (Qf (Qn (QI (Qa (pv 4) (Qa (QC Jd (pv 1) Qg) Qb))))))))),?_⟩
  refine⟨_,rfl,Zo rfl R ⟨_,_,rfl,rfl,_,rfl,?_⟩⟩;rcases Nat.lt_or_ge a rows.length with hlt|hge
  ·rw[uO (by omega)];obtain⟨⟨y,n⟩,hx⟩:=VE hlt;refine QO (XD rfl (JP rfl) R hx ⟨rfl,_,rfl,?_⟩);rw[QeV,JJ]
   by_cases h1:y=46
   ·rw[uP h1];subst h1;refine QO (Qa6 rfl (JP rfl) R hx ⟨_,_,rfl,rfl,_,rfl,?_⟩)
    by_cases h2:n>1
    ·rw[uP (by omega)];refine QY (QY ⟨_,rfl,h2s,k none a ha ?_⟩);rw[drop_cons hx];show(if n>1\/_ then _ else _)=_;rw[if_pos (.inl h2)]
    ·rw[uO (by omega)];refine QO ⟨_,rfl,_,_,rfl,rfl,Zo rfl R ⟨rfl,_,rfl,?_⟩⟩;rw[K9]
     by_cases h3:a+1=rows.length
     ·rw[uP (by omega)];refine QY ⟨_,rfl,h2s,k none a ha ?_⟩;rw[drop_cons hx];show(if n>1\/_ then _ else _)=_;rw[if_pos (.inr (List.drop_eq_nil_of_le (by omega)))]
     ·rw[uO (by omega)];obtain⟨⟨y2,n2⟩,hx2⟩:=VE (show a+1<rows.length by omega);refine QO (qx (k:=a+1) rfl (fun Q q=>⟨_,rfl,_,_,rfl,rfl,q⟩) R hx2 fun r hr1=>⟨r,_,rfl,SqT.of hr1,rfl,_,_,rfl,_,_,rfl,rfl,?_⟩);have eb:Q4 (rows.drop a) pl=if y2≠57/\([y2]≠pl\/[43,45,36].contains y2=true)then(none,rows.drop a)else(some n2,rows.drop (a+2)):=by
       rw[drop_cons hx];show(if n>1\/rows.drop (a+1)=[]then _ else _)=_;rw[if_neg (by rw[drop_cons hx2];simp;omega),drop_cons hx2]
      refine⟨_,rfl,rfl,_,rfl,?_⟩;rw[yR,JJ]
      by_cases h4:y2=57
      ·rw[uP h4];refine QO (QO ⟨_,rfl,_,rfl,_,_,rfl,rfl,h2s,k (some n2) (a+2) (by omega) ?_⟩);rw[eb,if_neg fun z=>z.1 h4]
      ·rw[uO h4];refine QY ⟨_,rfl,_,rfl,rfl,_,rfl,?_⟩;rw[Y1]
       by_cases h5:[y2]=pl
       ·rw[uP h5];refine QO ⟨_,rfl,_,_,rfl,rfl,_,rfl,?_⟩;rw[QdA,Xt];refine ifB (fun h6=>?_) (fun h6=>?_)
        ·refine⟨_,rfl,h2s,k none a ha ?_⟩;rw[eb,if_pos ⟨h4,.inr h6⟩]
        ·refine⟨_,rfl,_,rfl,_,_,rfl,rfl,h2s,k (some n2) (a+2) (by omega) ?_⟩;rw[eb,if_neg fun z=>z.2.elim (fun q=>q h5) (fun q=>by rw[h6]at q;cases q)]
       ·rw[uO h5];refine QY (QY ⟨_,rfl,h2s,k none a ha ?_⟩);rw[eb,if_pos ⟨h4,.inl h5⟩]
   ·rw[uO h1];refine QY ⟨_,rfl,h2s,k (some 0) a ha ?_⟩;rw[drop_cons hx];exact xR h1
  ·rw[uP (by omega)];refine QY (QY ⟨_,rfl,h2s,k (some 0) a ha ?_⟩);rw[List.drop_eq_nil_of_le hge];rfl
noncomputable def zK(K:PySem.W.Frag):Sp:=fun vs H Q _=>∃(p:Addr)(rs:List Addr)(rows:List Rw),vs=[.ref p]/\RowsAt K H p rs rows/\
 ∀(ld:List Nat)(b:Nat),b<=rows.length->ld.length<=2->Zx rows=(ld,rows.drop b)->∀q H',Qo H H'->H' q=some (.tup [.str (tx ld),.int (b:Nat)])->Q (.ref q) H'
theorem xS(F:Fun K "lead_of" "lead_of" Vw f fd)(O:Own mg)(T:Txt K mg tk c kr)(nC:Def P w K mg base 1 "floats_at" ["rows","at"] (Ug K)):FnOk P w K mg base (CXE P w) 2 f fd ["rows"] (zK K):=by
 refine okN F Zs (fun vs H Q E h=>?_) (fun cdv A outer s H vs Q E hr h=>?_)
 ·obtain⟨p,rs,rows,rfl,_⟩:=h;rfl
 ·obtain⟨p,rs,rows,rfl,R,k⟩:=h;have hz:1000<=sizeLine:=by decide
  have h2s:2<=sizeLine:=by omega
  refine⟨_,(Qc (Qt (i:=1) Zs.nd rfl (Or.inl rfl) Qk)
   (Qc (Qt (i:=2) Zs.nd rfl (Or.inl rfl) Qg)
   (Qc (Xq PassesOwn.never rfl (U8 (QI (Qa (QG (v:=V.str "+-") rfl T.pA ⟨_,rfl⟩) (Qa Qk Qb)))) (Qi (i:=3) Zs.nd rfl (Or.inl rfl)) (Qf (QM (PW.pt (Zi (Qj Kw (pv 2) (Qr QF rfl O.len PySem.boot_len (Qa (pv 0) Qb)) (Qm _)) (Zi (Qj Zv (Qw JV (Qw Je (pv 0) (pv 2) (fun _ _=>rfl)) Qg (fun _ _=>rfl)) (pv 3) (by with_unfolding_all rfl)) (JX (Vc (X7 (nC.pe hr (by decide) rfl Qp (Qa (pv 0) (Qa (pv 2) Qb))))))))) (Qc (Kv (i:=1) Zs.nd rfl (Or.inl rfl) (Qw JV (Qw Je (pv 0) (pv 2) (fun _ _=>rfl)) Qg (fun _ _=>rfl)) QbF)
   (Qf (Kv (i:=2) Zs.nd rfl (Or.inl rfl) Qg WD))) Qu)))
   (Qf (Qn (QI (Qa (pv 1) (Qa (pv 2) Qb)))))))),?_⟩
  refine⟨h2s,fun t ht=>⟨t,rfl,⟨_,SqT.of Qd⟩,?_⟩⟩;have S1:=Qo.new (o:=.tup [.str "+-",.str "$"]) ht;have g1:upd H t (.tup [.str "+-",.str "$"]) t=some (.tup [.str (tx [43,45]),.str (tx [36])]):=by rw[Qd,QeS,QeU]
  generalize upd H t (.tup [.str "+-",.str "$"])=H1 at S1 g1;have R1:=R.same S1;refine Qbk (xs:=[.str (tx [43,45]),.str (tx [36])]) (fun i σ H2=>∃(ld:List Nat)(b:Nat)(x:Option V),σ=[some (.ref p),some (.str (tx ld)),some (.int (b:Nat)),x]/\H2=H1/\b<=rows.length/\ld.length<=i/\Zx rows=JW (([[43,45],[36]]:List (List Nat)).drop i) (rows.drop b) ld) ⟨[],0,none,by rw[←yS];rfl,rfl,tK _,uQ _,rfl⟩ (fun i σ H2 hi hP=>?_) ?_ ?_
  ·obtain⟨_,_,_,_,rfl,_⟩:=hP;exact SqT.of g1
  ·rintro i x σ H2 hi ⟨ld,b,x3,rfl,rfl,hb,hll,hlo⟩;have hi2:i<2:=(List.getElem?_eq_some_iff.mp hi).1;obtain⟨ch,hch,hxc⟩:∃ch,([[43,45],[36]]:List (List Nat))[i]? =some ch/\x=.str (tx ch):=by
    match i,hi,hi2 with
    |0,hi,_=>exact⟨_,rfl,(uR hi).symm⟩
    |1,hi,_=>exact⟨_,rfl,(uR hi).symm⟩
   subst hxc;rw[drop_cons hch]at hlo;refine⟨_,rfl,Zo rfl R1 ⟨_,_,rfl,rfl,_,rfl,?_⟩⟩;rcases Nat.lt_or_ge b rows.length with hlt|hge
   ·rw[uP (by omega)];obtain⟨⟨y,n⟩,hx⟩:=VE hlt;have el:JW (ch::([[43,45],[36]]:List (List Nat)).drop (i+1)) (rows.drop b) ld=if(ch.contains y&& !Jk (rows.drop b))=true then JW (([[43,45],[36]]:List (List Nat)).drop (i+1)) (rows.drop (b+1)) (ld++[y])else JW (([[43,45],[36]]:List (List Nat)).drop (i+1)) (rows.drop b) ld:=by
     rw[drop_cons hx];rfl
    rw[el]at hlo;refine QY (XD rfl (JP rfl) R1 hx ⟨_,rfl,_,_,rfl,rfl,_,rfl,?_⟩);rw[Xt];refine ifB (fun h1=>?_) (fun h1=>?_)
    ·refine⟨_,rfl,_,rfl,p,rs,rows,b,rfl,R1,hlt,_,rfl,?_⟩;rw[h1,Bool.true_and]at hlo;refine ifB (fun h2=>?_) (fun h2=>?_)
     ·refine⟨_,rfl,XD rfl (JP rfl) R1 hx ⟨_,_,rfl,rfl,by rw[Qq,Qq];simp;omega,?_⟩⟩;rw[Zl];refine⟨_,rfl,_,_,rfl,rfl,ld++[y],b+1,_,rfl,rfl,by omega,by rw[uM];simp;omega,?_⟩;rw[hlo,if_pos h2]
     ·refine⟨ld,b,_,rfl,rfl,hb,by omega,?_⟩;rw[hlo,if_neg (by rw[h2];decide)]
    ·rw[h1,Bool.false_and]at hlo;exact QO ⟨ld,b,_,rfl,rfl,hb,by omega,by rw[hlo];rfl⟩
   ·rw[uO (by omega)];refine QO (QO ⟨ld,b,_,rfl,rfl,hb,by omega,?_⟩);rw[hlo,List.drop_eq_nil_of_le hge];rfl
  ·rintro σ H2 ⟨ld,b,x3,rfl,rfl,hb,hll,hlo⟩;refine⟨_,rfl,_,rfl,h2s,fun q hq=>?_⟩;exact k ld b hb hll hlo q _ (S1.trans (Qo.new hq)) Qd
theorem qF{K:PySem.W.Frag}{a:Addr}{xs:List V}{NB:List Str}{g:TG}{tt:TT}{te:TE}{Q:VK}{H:Hp}(Pv:Nat->List V->Hp->Prop)(h0:Pv 0 [] H)(hl:∀i vs H,i<=xs.length->Pv i vs H->SqL K H a xs/\vs.length<=i)
  (hs:∀i x vs H,xs[i]? =some x->Pv i vs H->g x (List.replicate NB.length none) H fun σ2 H2=>tt σ2 H2 fun b H3=>if b=true then te σ2 H3 fun v H4=>Pv (i+1) (vs++[v]) H4 else Pv (i+1) vs H3)
  (hd:∀vs H,Pv xs.length vs H->∀p,H p=none->Q (.ref p) (upd H p (.lst vs))) (hz:xs.length<sizeLine):
  ∃W:Nat->Nat->List V->Hp->Prop,(∃m,W 0 m [] H)/\∀i m vs H,W i m vs H->
   ((Itl K a).stop i H/\∀p,H p=none->Q (.ref p) (upd H p (.lst vs)))\/((Itl K a).go i H/\vs.length<sizeLine/\∃N:List V->Hp->Prop,(∀vs' H',N vs' H'->∃m',m'<m/\W (i+1) m' vs' H')/\
    ∀x H',(Itl K a).yld i H x H'->g x (List.replicate NB.length none) H' fun σ2 H2=>tt σ2 H2 fun b H3=>if b=true then te σ2 H3 fun v H4=>N (vs++[v]) H4 else N vs H3):=by
 refine⟨fun i m vs H=>m=xs.length-i/\i<=xs.length/\Pv i vs H,⟨xs.length,by simp,tK _,h0⟩,?_⟩;rintro i m vs H ⟨rfl,hi,p⟩;obtain⟨q,hv⟩:=hl i vs H hi p
 by_cases hlt:i<xs.length
 ·refine .inr ⟨⟨xs,xs[i],q,by simp[hlt]⟩,by omega,Pv (i+1),fun vs' H' p'=>⟨xs.length-(i+1),by omega,rfl,hlt,p'⟩,fun x H' y=>?_⟩;obtain⟨e,y⟩:=y;subst e;exact hs i x vs _ (y xs q) p
 ·have e:i=xs.length:=by omega
  subst e;exact .inl ⟨⟨xs,q,uQ _⟩,hd vs H p⟩
end
section
variable {P:Program}{w:World}{K:PySem.W.Frag}{mg:Str->Option Value}{base:Heap}{f:Addr}{fd:FuncData}{tk:Nat->Tok}{c kr:Nat->Addr}
theorem Rws.at'{H:Hp}{rs:List Addr}{rows:List Rw}(h:Rws H rs rows):∀{i:Nat}{r:Addr},rs[i]? =some r->∃x,rows[i]? =some x/\H r=some (Qa5 x):=by
 induction h with
 |nil=>intro i r e;cases e
 |cons a _ ih=>
  intro i r e;cases i with
  |zero=>exact⟨_,rfl,by have:_=r:=uR e;rw[←this];exact a⟩
  |succ i=>exact ih (i:=i) (r:=r) e
theorem VF{X:Cx}{K0:PySem.W.Frag}{es:List Expr}{k:Nat}{t:TGs}{n:Nat}{pos:Pos}(hK:X.K=K0)(hc:X.calm=true)(h:PGs X es t)
  (hn:(assignEach es X.env).length=n:=by rfl) (hst:(assignEach es X.env).findIdx? (·.1)=none:=by rfl):PG X (.Tuple es k pos) (Qc5 K0 n t):=by
 subst hK;exact QN hc h hn hst
theorem wC{p:Addr}{rs:List Addr}{rows:List Rw}{te:TE}{NB:List Str}{n:Nat}{H:Hp}{Q:VK}(val:Rw->V)(hNB:NB.length=3)(hn:n=2)(R:RowsAt K H p rs rows)
  (hte:∀(x:Rw)(Q:VK),Q (val x) H->te [none,some (.str (tx [x.1])),some (.int (x.2:Nat))] H Q) (hd:∀q,H q=none->Q (.ref q) (upd H q (.lst (rows.map val)))):
  ∃W:Nat->Nat->List V->Hp->Prop,(∃m,W 0 m [] H)/\∀i m vs H,W i m vs H->
   ((Itl K p).stop i H/\∀p,H p=none->Q (.ref p) (upd H p (.lst vs)))\/((Itl K p).go i H/\vs.length<sizeLine/\∃N:List V->Hp->Prop,(∀vs' H',N vs' H'->∃m',m'<m/\W (i+1) m' vs' H')/\
    ∀x H',(Itl K p).yld i H x H'->Qc5 K n (jp (QV 1) (jp (QV 2) Qeh)) x (List.replicate NB.length none) H' fun σ2 H2=>yD σ2 H2 fun b H3=>if b=true then te σ2 H3 fun v H4=>N (vs++[v]) H4 else N vs H3):=by
 have hz:1000<=sizeLine:=by decide
 have hl:=R.le;have hlen:=R.len;refine qF (xs:=rs.map V.ref) (fun i vs H2=>H2=H/\vs=(rows.take i).map val) ⟨rfl,rfl⟩ ?_ ?_ ?_ (by omega)
 ·rintro i vs H2 hi ⟨rfl,rfl⟩;exact⟨R.sq,by rw[uN,uY];omega⟩
 ·rintro i x vs H2 hx ⟨rfl,rfl⟩;rw[u5]at hx;obtain⟨r,hr,rfl⟩:=Option.map_eq_some_iff.mp hx;obtain⟨y,hy,g⟩:=R.rw.at' hr;subst hn;rw[hNB];refine⟨r,_,rfl,SqT.of g,rfl,_,_,rfl,_,_,rfl,rfl,?_⟩;dsimp only[yD];rw[if_pos rfl];refine hte y _ ⟨rfl,?_⟩;have hi:=(List.getElem?_eq_some_iff.mp hy).1;rw[List.take_add_one,hy,tm];rfl
 ·rintro vs H2 ⟨rfl,rfl⟩ q hq;rw[List.take_of_length_le (by omega)];exact hd q hq
theorem yT{α:Type}(rs:List Addr)(a:Nat):U2 (rs.map V.ref) (some (a:Int)) none=(rs.drop a).map V.ref:=by
 unfold U2;rw[HT.Z6,HT.zt];rcases Nat.le_total a (rs.map V.ref).length with h|h
 ·rw[Nat.min_eq_left h,List.take_of_length_le (by rw[uZ];exact uQ _),List.map_drop]
 ·rw[Nat.min_eq_right h,List.drop_eq_nil_of_le (uQ _),List.take_nil,List.drop_eq_nil_of_le (by rw[uN]at h;exact h)];rfl
theorem Wk{rows:List Rw}{tl te:TE}{NB:List Str}{n:Nat}{σ:L2.St}{H:Hp}{Q:VK}(val:Rw->V)(hNB:NB.length=3)(hn:n=2)
  (h:∀R:VK,(∀p rs H1,Qo H H1->RowsAt K H1 p rs rows->R (.ref p) H1)->tl σ H R)
  (hte:∀(x:Rw)(H:Hp)(Q:VK),Q (val x) H->te [none,some (.str (tx [x.1])),some (.int (x.2:Nat))] H Q) (hd:∀q H1,Qo H H1->H1 q=none->Q (.ref q) (upd H1 q (.lst (rows.map val)))):
  YW NB (Qbj K tl) (Qc5 K n (jp (QV 1) (jp (QV 2) Qeh))) yD te σ H Q:=
 h _ fun p rs H1 S1 R1=>⟨p,rfl,⟨_,R1.sq⟩,wC val hNB hn R1 (fun x Q q=>hte x H1 Q q) fun q hq=>hd q H1 S1 hq⟩
theorem Yx{p:Addr}{rs:List Addr}{rows:List Rw}{σ:L2.St}{H:Hp}{i j a:Nat}(RA:RowsAt K H p rs rows)(h1:σ[i]? =some (some (.ref p)))(h2:σ[j]? =some (some (.int (a:Nat)))):
  ∀R:VK,(∀p2 rs2 H1,Qo H H1->RowsAt K H1 p2 rs2 (rows.drop a)->R (.ref p2) H1)->tSl (QeE K) (Kt i) (Qbt (Kt j)) js σ H R:=fun R r=>
 ⟨_,h1,_,h2,_,rfl,p,_,rfl,RA.sq,fun p2 hp2=>by
  rw[yT (α:=Unit)];have S2:=Qo.new (o:=.lst ((rs.drop a).map V.ref)) hp2;exact r p2 (rs.drop a) _ S2 ⟨SqL.of Qd,(RA.rw.dr a).keep fun b xs h=>S2 _ _ h,by rw[uZ];have:=RA.le;omega⟩⟩
theorem yU{p:Addr}{rs:List Addr}{rows:List Rw}{σ:L2.St}{H:Hp}{i:Nat}(RA:RowsAt K H p rs rows)(h1:σ[i]? =some (some (.ref p))):
  ∀R:VK,(∀p2 rs2 H1,Qo H H1->RowsAt K H1 p2 rs2 rows->R (.ref p2) H1)->Kt i σ H R:=fun R r=>⟨_,h1,r p rs H (Qo.refl H) RA⟩
theorem QdB(a b:List Nat):eqV (.str (tx a)) (.str (tx b))=decide (a=b):=by
 show(tx a==tx b)=_
 by_cases h:a=b
 ·subst h;simp
 ·rw[uO h];exact beq_eq_false_iff_ne.mpr fun z=>h (qv z)
theorem in_list(ls:List (List Nat))(s:List Nat):inV (.str (tx s)) (ls.map fun l=>V.str (tx l))=ls.contains s:=by
 unfold inV
 induction ls with
 |nil=>rfl
 |cons a r ih=>
  rw[tH,List.any_cons,ih,QdB,List.contains_cons]
  congr 1
  by_cases h:a=s
  ·subst h;simp
  ·rw[uO h];exact(beq_eq_false_iff_ne.mpr fun z=>h z.symm).symm
theorem wD:([.str "9",.str "S9",.str "V9",.str "SV9",.str "9V9",.str "S9V9"]:List V)=wo.map fun l=>V.str (tx l):=by decide+kernel
theorem Uk:([.str "+",.str "-",.str "CR",.str "DB"]:List V)=Jt.map fun l=>V.str (tx l):=by decide+kernel
theorem Ul(ls:List (List Nat)):(ls.map fun l=>V.str (tx l)).all YQ=true:=by
 induction ls with
 |nil=>rfl
 |cons a r ih=>rw[tH,List.all_cons,ih];rfl
noncomputable def tV:Option (List Nat)->V
 |none=>.non
 |some l=>.str (tx l)
noncomputable def zL(K:PySem.W.Frag):Sp:=fun vs H Q _=>∃(p:Addr)(rs:List Addr)(rows:List Rw)(a:Nat),vs=[.ref p,.int (a:Nat)]/\RowsAt K H p rs rows/\a<=rows.length/\∀H',Qo H H'->Q (tV (Kb (rows.drop a))) H'
theorem wE(rows:List Rw):(rows.map fun x=>V.str (tx [x.1]))=((rows.map (·.1)).map fun c=>tx [c]).map V.str:=by rw[tG,tG];rfl
theorem QbQ(rows:List Rw):(rows.map fun x=>V.int (x.2:Nat))=(rows.map fun x=>((x.2:Nat):Int)).map V.int:=by rw[tG];rfl
set_option maxHeartbeats 2000000 in
theorem xT(F:Fun K "tail_of" "tail_of" Vy f fd)(O:Own mg)(T:Txt K mg tk c kr):FnOk P w K mg base (CXE P w) 1 f fd ["rows","at"] (zL K):=by
 refine okN F Yw (fun vs H Q E h=>?_) (fun cdv A outer s H vs Q E hr h=>?_)
 ·obtain⟨p,rs,rows,a,rfl,_⟩:=h;rfl
 ·obtain⟨p,rs,rows,a,rfl,R,ha,k⟩:=h;have hz:1000<=sizeLine:=by decide
  have hle:=R.le;refine⟨_,(Qc (QM (Qj Jc (pv 1) (Qr QF rfl O.len PySem.boot_len (Qa (pv 0) Qb)) (Qm _)) (Qf (Qn Qk)) Qu)
   (Qc (Qt (i:=2) Yw.nd rfl (Or.inl rfl) (JO plainAttrs_str slot_str_join type_str_join Kh Qk (Qa (ZE (NB:=[".0","symbol","many"]) rfl ⟨rfl,by decide+kernel,by decide+kernel,by decide+kernel⟩ (K4 (QZ ju (pv 0) (QX (pv 1)) JY)) (fun _ _ _=>(VF (K0:=K) (n:=2) rfl rfl (Qh (Qi (i:=1) (show([".0","symbol","many"]:List Str).Nodup by decide+kernel) rfl (Or.inl rfl) (Or.inr rfl)) (Qh (Qi (i:=2) (show([".0","symbol","many"]:List Str).Nodup by decide+kernel) rfl (Or.inl rfl) (Or.inr rfl)) QA)))) (fun _ _ _=>Z7) (fun _ _ _=>(pv 1))) Qb)))
   (Qc (QM (PW.pt (Z3 (Qj XB (pv 2) (QG (v:=V.ref (kr 1)) rfl T.nV rfl) (by with_unfolding_all rfl)) (J7 (Qj YK (Qr (wg rfl) rfl O.max PyProof.Rows.boot_max (Qa (ZE (NB:=[".0","symbol","many"]) rfl ⟨rfl,by decide+kernel,by decide+kernel,by decide+kernel⟩ (K4 (QZ ju (pv 0) (QX (pv 1)) JY)) (fun _ _ _=>(VF (K0:=K) (n:=2) rfl rfl (Qh (Qi (i:=1) (show([".0","symbol","many"]:List Str).Nodup by decide+kernel) rfl (Or.inl rfl) (Or.inr rfl)) (Qh (Qi (i:=2) (show([".0","symbol","many"]:List Str).Nodup by decide+kernel) rfl (Or.inl rfl) (Or.inr rfl)) QA)))) (fun _ _ _=>Z7) (fun _ _ _=>(pv 2))) Qb)) Qg (Qm _))))) (Qf (Qn Zu)) Qu)
   (Qf (Qn (pv 2)))))),?_⟩
  refine⟨_,rfl,Zo rfl R ⟨rfl,_,rfl,?_⟩⟩;rw[K9]
  by_cases h1:a=rows.length
  ·rw[uP (by omega)];have e:Kb (rows.drop a)=some []:=by rw[h1,List.drop_length];rfl
   rw[e]at k;have:=k H (Qo.refl H);refine QY ?_;show Q (.str "") H;rw[yS];exact this
  ·rw[uO (by omega)];have hne:rows.drop a≠[]:=fun z=>by
    have:=congrArg List.length z;rw[uZ,List.length_nil]at this;omega
   have et:Kb (rows.drop a)=if(!Jt.contains ((rows.drop a).map (·.1))||(rows.drop a).any (fun x=>decide (x.2>1)))=true then none else some ((rows.drop a).map (·.1)):=by
    unfold Kb;rw[if_neg hne]
   rw[et]at k;have hdl:(rows.drop a).length<=600:=by rw[uZ];omega
   refine QO ⟨rfl,Wk (fun x=>.str (tx [x.1])) rfl rfl (Yx R rfl rfl) (fun x H Q q=>⟨_,rfl,q⟩) fun q H2 S2 hq=>?_⟩;have RR:=R.same S2;have hsl:∀{H3:Hp},RowsAt K H3 p rs rows->∀{σ:L2.St}{i j:Nat},σ[i]? =some (some (.ref p))->σ[j]? =some (some (.int (a:Nat)))->∀R:VK,(∀p2 rs2 H1,Qo H3 H1->RowsAt K H1 p2 rs2 (rows.drop a)->R (.ref p2) H1)->tSl (QeE K) (Kt i) (Qbt (Kt j)) js σ H3 R:=fun{_} R3{_ _ _} h1 h2=>Yx R3 h1 h2;generalize hD:rows.drop a=D at k hne hdl hsl;rw[wE];have S3:=S2.trans (Qo.new (o:=.lst (((D.map (·.1)).map fun c=>tx [c]).map V.str)) hq);have R3:=RR.same (Qo.new (o:=.lst (((D.map (·.1)).map fun c=>tx [c]).map V.str)) hq);refine⟨"",q,_,rfl,rfl,SqL.of Qd,Vu (by rw[uN];omega),?_⟩;rw[XE];generalize upd H2 q (.lst (((D.map (·.1)).map fun c=>tx [c]).map V.str))=H3 at S3 R3;refine⟨_,rfl,kr 1,_,rfl,.inr (T.nW _),rfl,by rw[Uk];exact Ul _,_,rfl,?_⟩;rw[Uk,if_pos rfl,in_list];refine ifB (fun h2=>?_) (fun h2=>?_)
   ·rw[h2,Bool.true_or]at k;exact k _ S3
   ·rw[h2,Bool.false_or]at k;dsimp only[kB,tOp,tCB,Jn];refine Wk (fun x=>.int (x.2:Nat)) rfl rfl (hsl R3 rfl rfl) (fun x H Q q=>⟨_,rfl,q⟩) fun q5 H4 S4 hq5=>?_;rw[QbQ];have S5:=(S3.trans S4).trans (Qo.new (o:=.lst ((D.map fun x=>((x.2:Nat):Int)).map V.int)) hq5);refine⟨q5,_,rfl,SqL.of Qd,by simpa using hne,fun m hm hmx=>?_⟩;generalize upd H4 q5 (.lst ((D.map fun x=>((x.2:Nat):Int)).map V.int))=H5 at S5;refine⟨_,_,rfl,rfl,_,rfl,?_⟩;have hany:decide ((1:Int)<m)=D.any (fun x=>decide (x.2>1)):=by
     obtain⟨y,hy,rfl⟩:=List.mem_map.mp hm
     by_cases h3:y.2>1
     ·rw[uP (by omega),List.any_eq_true.mpr ⟨y,hy,uP h3⟩]
     ·rw[uO (by omega)];refine(List.any_eq_false.mpr fun z hz2=>?_).symm;have:=hmx _ (List.mem_map.mpr ⟨z,hz2,rfl⟩);rw[decide_eq_true_eq];omega
    rw[hany];refine ifB (fun h3=>?_) (fun h3=>?_)
    ·rw[h3]at k;exact k _ S5
    ·rw[h3]at k;exact⟨_,rfl,k _ S5⟩
end
section
variable {P:Program}{w:World}{K:PySem.W.Frag}{mg:Str->Option Value}{base:Heap}{f:Addr}{fd:FuncData}{tk:Nat->Tok}{c kr:Nat->Addr}
noncomputable def kindS:Nat->Str
 |0=>"text"
 |1=>"letters"
 |2=>"number"
 |_=>"edited"
noncomputable def fO(x:Facts):HO:=.tup [.str (kindS x.kind),.bl x.signed,.int (x.before:Nat),.int (x.behind:Nat)]
noncomputable def FV(o:Option Facts)(v:V)(H:Hp):Prop:=match o with
 |none=>v=.non
 |some x=>∃q,v=.ref q/\H q=some (fO x)
noncomputable def J3(K:PySem.W.Frag)(fn:List Rw->Option Facts):Sp:=fun vs H Q _=>∃(p:Addr)(rs:List Addr)(rows:List Rw),vs=[.ref p]/\RowsAt K H p rs rows/\∀v H',Qo H H'->FV (fn rows) v H'->Q v H'
theorem yV{rows:List Rw}{i:Nat}{y n:Nat}{s p:Bool}{a b:Nat}(h:rows[i]? =some (y,n)):Wb (rows.drop i) s p a b=if y=57 then(if p then Wb (rows.drop (i+1)) s p a n else Wb (rows.drop (i+1)) s p n b)else if n>1 then none else if y=83 then Wb (rows.drop (i+1)) true p a b else Wb (rows.drop (i+1)) s true a b:=by
 rw[drop_cons h];rfl
set_option maxHeartbeats 2000000 in
theorem VG(F:Fun K "number_facts" "number_facts" ZN f fd)(O:Own mg)(T:Txt K mg tk c kr):FnOk P w K mg base (CXE P w) 1 f fd ["rows"] (J3 K QQ):=by
 refine okN F QT (fun vs H Q E h=>?_) (fun cdv A outer s H vs Q E hr h=>?_)
 ·obtain⟨p,rs,rows,rfl,_⟩:=h;rfl
 ·obtain⟨p,rs,rows,rfl,R,k⟩:=h;have hz:1000<=sizeLine:=by decide
  have hle:=R.le;refine⟨_,(Qc (QM (Qj XB (JO plainAttrs_str slot_str_join type_str_join Kh Qk (Qa (ZE (NB:=[".0","symbol","many"]) rfl ⟨rfl,by decide+kernel,by decide+kernel,by decide+kernel⟩ (K4 (pv 0)) (fun _ _ _=>(VF (K0:=K) (n:=2) rfl rfl (Qh (Qi (i:=1) (show([".0","symbol","many"]:List Str).Nodup by decide+kernel) rfl (Or.inl rfl) (Or.inr rfl)) (Qh (Qi (i:=2) (show([".0","symbol","many"]:List Str).Nodup by decide+kernel) rfl (Or.inl rfl) (Or.inr rfl)) QA)))) (fun _ _ _=>Z7) (fun _ _ _=>(pv 1))) Qb)) (QG (v:=V.ref (kr 0)) rfl T.gC rfl) (by with_unfolding_all rfl)) (Qf (Qn Zu)) Qu)
   (Qc (Qt (i:=3) QT.nd rfl (Or.inl rfl) WQ)
   (Qc (Qt (i:=4) QT.nd rfl (Or.inl rfl) WQ)
   (Qc (Qt (i:=5) QT.nd rfl (Or.inl rfl) (X9 (Qa Qg (Qa Qg Qb))))
   (Qc (Xq PassesOwn.never rfl (K4 (pv 0)) (QN rfl (Qh (Qi (i:=1) QT.nd rfl (Or.inl rfl)) (Qh (Qi (i:=2) QT.nd rfl (Or.inl rfl)) QA))) (Qf (QM (Qj Jc (pv 1) Qk (Qm _)) (Qf (Q0 (pv 2) (Qc6 (pv 5) (Jj (Jr (pv 4) (fun _=>rfl)) Qg Qg) set_list))) (Qf (QM (Qj YK (pv 2) Qg (Qm _)) (Qf (Qn Zu)) (Qf (QM (Qj Jc (pv 1) Qk (Qm _)) (Qf (Qt (i:=3) QT.nd rfl (Or.inl rfl) WQ)) (Qf (Qt (i:=4) QT.nd rfl (Or.inl rfl) WQ)))))))))
   (Qc (QM (Qj YK (Qr (YZ rfl) rfl O.sum L2.boot_sum (Qa (pv 5) Qb)) (QG (v:=V.int 18) rfl T.hZ ⟨_,rfl⟩) (Qm _)) (Qf (Qn Zu)) Qu)
   (Qf (Qn (QI (Qa Qk (Qa (pv 3) (Qa (Qw Je (pv 5) Qg (fun _ _=>rfl)) (Qa (Qw Je (pv 5) Qg (fun _ _=>rfl)) Qb))))))))))))),?_⟩
  have e83:("S":Str)=tx [83]:=by decide+kernel
  refine⟨rfl,Wk (fun x=>.str (tx [x.1])) rfl rfl (yU R rfl) (fun x H Q q=>⟨_,rfl,q⟩) fun q H2 S2 hq=>?_⟩;rw[wE];have S3:=S2.trans (Qo.new (o:=.lst (((rows.map (·.1)).map fun c=>tx [c]).map V.str)) hq);refine⟨"",q,_,rfl,rfl,SqL.of Qd,Vu (by rw[uN];omega),?_⟩;rw[XE];generalize upd H2 q (.lst (((rows.map (·.1)).map fun c=>tx [c]).map V.str))=H3 at S3;have R3:=R.same S3;refine⟨kr 0,_,rfl,.inr (T.uy _),rfl,by rw[wD];exact Ul _,_,rfl,?_⟩;rw[wD,if_pos rfl,in_list];refine ifB (fun h2=>?_) (fun h2=>?_)
  ·have hn:QQ rows=none:=by
    unfold QQ;rw[if_neg (by rw[Bool.not_eq_true']at h2;rw[h2];decide)]
   exact k .non H3 S3 (by rw[hn];rfl)
  have hf:wo.contains (rows.map (·.1))=true:=by
   cases e:wo.contains (rows.map (·.1))with
   |true=>rfl
   |false=>rw[e]at h2;cases h2
  have en:QQ rows=(match Wb rows false false 0 0 with
    |some (s,a,b)=>if a+b>18 then none else some ⟨2,s,a,b⟩
    |none=>none):=by
   unfold QQ;rw[if_pos hf]
   all_goals rfl
  refine⟨sL2,fun fl hfl=>?_⟩;have S4:=Qo.new (o:=.lst [.int 0,.int 0]) hfl;refine⟨_,rfl,p,rfl,⟨_,(R3.same S4).sq⟩,?_⟩;refine yh (xs:=rs.map V.ref) (fun i σ H5=>∃(x1 x2:Option V)(sg pt:Bool)(a b:Nat),σ=[some (.ref p),x1,x2,some (.bl sg),some (.bl pt),some (.ref fl)]/\H5 fl=some (.lst [.int (a:Nat),.int (b:Nat)])/\Qo H3 H5/\Wb rows false false 0 0=Wb (rows.drop i) sg pt a b) ⟨none,none,false,false,0,0,rfl,Qd,S4,rfl⟩ ?_ ?_ ?_
  ·rintro i σ H5 hi ⟨x1,x2,sg,pt,a,b,rfl,g5,S5,hg⟩;exact(R3.same S5).sq
  ·rintro i x σ H5 hx ⟨x1,x2,sg,pt,a,b,rfl,g5,S5,hg⟩;rw[u5]at hx;obtain⟨r,hr1,rfl⟩:=Option.map_eq_some_iff.mp hx;obtain⟨⟨y,n⟩,hy,g⟩:=(R3.same S5).rw.at' hr1;rw[yV hy]at hg;refine⟨r,_,rfl,SqT.of g,rfl,_,_,rfl,_,_,rfl,rfl,?_⟩;refine⟨_,rfl,rfl,_,rfl,?_⟩;rw[yR,JJ];have keep:∀(o:HO),Qo H3 (upd H5 fl o):=fun o b u h=>by rw[Ql (Qv h hfl)];exact S5 _ _ h
   by_cases h1:y=57
   ·rw[uP h1];rw[if_pos h1]at hg;refine QY ⟨_,rfl,_,rfl,_,rfl,pt,rfl,?_⟩;refine ifB (fun h3=>?_) (fun h3=>?_)
    ·rw[if_pos h3]at hg;refine⟨fl,_,1,1,rfl,rfl,g5,rfl,some (.str (tx [y])),some (.int (n:Nat)),sg,pt,a,n,rfl,?_,keep _,hg⟩;rw[Qd];rfl
    ·rw[if_neg (by rw[h3];decide)]at hg;refine⟨fl,_,0,0,rfl,rfl,g5,rfl,some (.str (tx [y])),some (.int (n:Nat)),sg,pt,n,b,rfl,?_,keep _,hg⟩;rw[Qd];rfl
   ·rw[uO h1];rw[if_neg h1]at hg;refine QO ⟨_,rfl,_,_,rfl,rfl,_,rfl,?_⟩
    by_cases h3:n>1
    ·rw[uP (by omega)];rw[if_pos h3]at hg;refine QY (k .non H5 (S3.trans S5) ?_);rw[en,hg];rfl
    ·rw[uO (by omega)];rw[if_neg h3]at hg;refine QO ⟨_,rfl,rfl,_,rfl,?_⟩;rw[e83,JJ]
     by_cases h4:y=83
     ·rw[uP h4];rw[if_pos h4]at hg;exact QY ⟨some (.str (tx [y])),some (.int (n:Nat)),true,pt,a,b,rfl,g5,S5,hg⟩
     ·rw[uO h4];rw[if_neg h4]at hg;exact QO ⟨some (.str (tx [y])),some (.int (n:Nat)),sg,true,a,b,rfl,g5,S5,hg⟩
  ·rintro σ H5 ⟨x1,x2,sg,pt,a,b,rfl,g5,S5,hg⟩;rw[R.len,List.drop_length]at hg;rw[hg]at en;refine⟨_,rfl,fl,[(a:Int),(b:Int)],rfl,SqL.of g5,_,_,rfl,rfl,_,rfl,?_⟩;have es:([(a:Int),(b:Int)]:List Int).sum=((a+b:Nat):Int):=by simp
   rw[es]
   by_cases h1:a+b>18
   ·rw[uP (by omega)];refine QY (k .non H5 (S3.trans S5) ?_);rw[en];show FV (if a+b>18 then none else _) _ _;rw[if_pos h1];rfl
   ·rw[uO (by omega)];refine QO ⟨_,rfl,_,rfl,fl,_,_,_,rfl,rfl,SqL.of g5,rfl,_,rfl,fl,_,_,_,rfl,rfl,SqL.of g5,rfl,sL4,fun q6 hq6=>?_⟩;refine k _ _ ((S3.trans S5).trans (Qo.new hq6)) ?_;rw[en];show FV (if a+b>18 then none else _) _ _;rw[if_neg h1];exact⟨q6,rfl,Qd⟩
theorem qG(y:Nat):WR qA (Sum.inr (tx [y]):Key)=if y=88 then some (.str "text")else if y=65 then some (.str "letters")else none:=by
 have eX:("X":Str)=tx [88]:=by decide+kernel
 have eA:("A":Str)=tx [65]:=by decide+kernel
 unfold WR qA;rw[eX,eA]
 by_cases h1:y=88
 ·subst h1;rw[if_pos rfl];simp
 ·rw[if_neg h1];have n1:¬ ((Sum.inr (tx [88]):Key)=Sum.inr (tx [y])):=fun z=>h1 (List.cons.inj (qv (Sum.inr.inj z))).1.symm
  by_cases h2:y=65
  ·subst h2;rw[if_pos rfl];simp
  ·rw[if_neg h2];have n2:¬ ((Sum.inr (tx [65]):Key)=Sum.inr (tx [y])):=fun z=>h2 (List.cons.inj (qv (Sum.inr.inj z))).1.symm;simp[n1,n2]
set_option maxHeartbeats 2000000 in
theorem Yg(F:Fun K "plain_facts" "plain_facts" Xb f fd)(O:Own mg)(T:Txt K mg tk c kr)(KD:KDict P w K (kr 2) qA):FnOk P w K mg base (CXE P w) 1 f fd ["rows"] (J3 K Jo):=by
 refine okN F ZO (fun vs H Q E h=>?_) (fun cdv A outer s H vs Q E hr h=>?_)
 ·obtain⟨p,rs,rows,rfl,_⟩:=h;rfl
 ·obtain⟨p,rs,rows,rfl,R,k⟩:=h;have hz:1000<=sizeLine:=by decide
  refine⟨_,(Qc (QM (Qj Z5 (Qr QF rfl O.len PySem.boot_len (Qa (pv 0) Qb)) Qg (Qm _)) (Qf (Qn Zu)) Qu)
   (Qc (Q0 (Qw Je (pv 0) Qg (fun _ _=>rfl)) (QN rfl (Qh (Qi (i:=1) ZO.nd rfl (Or.inl rfl)) (Qh (Qi (i:=2) ZO.nd rfl (Or.inl rfl)) QA))))
   (Qc (QM (PW.pt (Z3 (Xp (Yv KD (pv 1) (QG (v:=V.ref (kr 2)) rfl T.gA rfl)) (by with_unfolding_all rfl)) (J7 (Qj YK (pv 2) (QG (v:=V.int 60) rfl T.gO ⟨_,rfl⟩) (Qm _))))) (Qf (Qn Zu)) Qu)
   (Qf (Qn (QI (Qa (WY KD (QG (v:=V.ref (kr 2)) rfl T.gA rfl) (pv 1) (fun _ _=>rfl)) (Qa WQ (Qa Qg (Qa Qg Qb)))))))))),?_⟩
  refine⟨_,rfl,p,_,rfl,.inl R.sq,?_⟩;rw[R.len];refine⟨rfl,_,rfl,?_⟩;rw[k6]
  match rows,R,k with
  |[],R,k=>exact QY (k .non H (Qo.refl H) rfl)
  |_::_::_,R,k=>
   rw[uP (by simp;omega)];exact QY (k .non H (Qo.refl H) rfl)
  |[(y,n)],R,k=>
   refine QO (qx (k:=0) rfl (fun Q q=>q) R rfl fun r hr1=>⟨r,_,rfl,SqT.of hr1,rfl,_,_,rfl,_,_,rfl,rfl,?_⟩);refine⟨_,rfl,Sum.inr (tx [y]),rfl,rfl,_,rfl,?_⟩;have ep:Jo [(y,n)]=if(y≠88/\y≠65)\/n>60 then none else some ⟨if y=88 then 0 else 1,false,0,0⟩:=rfl;rw[qG]
   by_cases h1:y=88\/y=65
   ·have h2:(if y=88 then some (V.str "text")else if y=65 then some (.str "letters")else none)=some (.str (kindS (if y=88 then 0 else 1))):=by
     rcases h1 with rfl|rfl
     ·rfl
     ·rfl
    rw[h2];refine QO ⟨_,rfl,_,_,rfl,rfl,_,rfl,?_⟩
    by_cases h3:n>60
    ·rw[uP (by omega)];refine QY (k .non H (Qo.refl H) ?_);rw[ep,if_pos (.inr h3)];rfl
    ·rw[uO (by omega)];refine QO ⟨_,rfl,Sum.inr (tx [y]),.str (kindS (if y=88 then 0 else 1)),rfl,rfl,by rw[qG,h2],sL4,fun q hq=>?_⟩;refine k _ _ (Qo.new hq) ?_;rw[ep,if_neg (by omega)];exact⟨q,rfl,Qd⟩
   ·rw[if_neg (by omega),if_neg (by omega)];refine QY (QY (k .non H (Qo.refl H) ?_));rw[ep,if_pos (.inl (by omega))];rfl
end
theorem yW{K:PySem.W.Frag}{a:Addr}{xs:List V}{NB:List Str}{g:TG}{tt:TT}{te:TE}{Q:VK}{H:Hp}(Pv:Nat->List V->Hp->Prop)(h0:Pv 0 [] H)(hl:∀i vs H,i<=xs.length->Pv i vs H->SqT K H a xs/\vs.length<=i)
  (hs:∀i x vs H,xs[i]? =some x->Pv i vs H->g x (List.replicate NB.length none) H fun σ2 H2=>tt σ2 H2 fun b H3=>if b=true then te σ2 H3 fun v H4=>Pv (i+1) (vs++[v]) H4 else Pv (i+1) vs H3)
  (hd:∀vs H,Pv xs.length vs H->∀p,H p=none->Q (.ref p) (upd H p (.lst vs))) (hz:xs.length<sizeLine):
  ∃W:Nat->Nat->List V->Hp->Prop,(∃m,W 0 m [] H)/\∀i m vs H,W i m vs H->
   ((Itt K a).stop i H/\∀p,H p=none->Q (.ref p) (upd H p (.lst vs)))\/((Itt K a).go i H/\vs.length<sizeLine/\∃N:List V->Hp->Prop,(∀vs' H',N vs' H'->∃m',m'<m/\W (i+1) m' vs' H')/\
    ∀x H',(Itt K a).yld i H x H'->g x (List.replicate NB.length none) H' fun σ2 H2=>tt σ2 H2 fun b H3=>if b=true then te σ2 H3 fun v H4=>N (vs++[v]) H4 else N vs H3):=by
 refine⟨fun i m vs H=>m=xs.length-i/\i<=xs.length/\Pv i vs H,⟨xs.length,by simp,tK _,h0⟩,?_⟩;rintro i m vs H ⟨rfl,hi,p⟩;obtain⟨q,hv⟩:=hl i vs H hi p
 by_cases hlt:i<xs.length
 ·refine .inr ⟨⟨xs,xs[i],q,by simp[hlt]⟩,by omega,Pv (i+1),fun vs' H' p'=>⟨xs.length-(i+1),by omega,rfl,hlt,p'⟩,fun x H' y=>?_⟩;obtain⟨e,y⟩:=y;subst e;exact hs i x vs _ (y xs q) p
 ·have e:i=xs.length:=by omega
  subst e;exact .inl ⟨⟨xs,q,uQ _⟩,hd vs H p⟩
section
variable {P:Program}{w:World}{K:PySem.W.Frag}{mg:Str->Option Value}{base:Heap}{f:Addr}{fd:FuncData}{tk:Nat->Tok}{c kr:Nat->Addr}
noncomputable def XR(ld pl:List Nat)(many nines:Nat)(o:Option Nat)(tl:Option (List Nat)):Option Facts:=
 match pl,o,tl with
 |[place],some behind,some tail=>
  let fl:Bool:=[43,45,36].contains place
  if fl&&decide (many<2)then none
  else
   let shown:=[ld.take 1,[place],tail].filter (Jt.contains ·)
   if shown.length>1 then none
   else
    let before:=many+nines-(if fl then 1 else 0)
    if before+behind>18 then none else some ⟨3,shown.length==1,before,behind⟩
 |_,_,_=>none
theorem wF{rows:List Rw}{ld pl:List Nat}{b many nines b2 b3:Nat}{o:Option Nat}(h1:Zx rows=(ld,rows.drop b))(h2:QP (rows.drop b)=(pl,many,nines,rows.drop b2))(h3:Q4 (rows.drop b2) (if nines=0 then pl else[57])=(o,rows.drop b3)):
  Q7 rows=XR ld pl many nines o (Kb (rows.drop b3)):=by
 unfold Q7;simp only[h1,h2,h3];rfl
theorem wG(r:List Rw):(QP r).1=[]\/∃y,(QP r).1=[y]:=by
 unfold QP
 split
 ·split
  ·exact .inr ⟨_,rfl⟩
  ·exact .inl rfl
 ·exact .inl rfl
theorem xU{a:Addr}{ls:List (List Nat)}{H:Hp}{Q:VK}(T:Txt K mg tk c kr)(hq:H a=some (.tup (ls.map fun l=>V.str (tx l)))) (hl:ls.length<=3)
  (hd:∀q,H q=none->Q (.ref q) (upd H q (.lst ((ls.filter (Jt.contains ·)).map fun l=>V.str (tx l))))):
  ∃W:Nat->Nat->List V->Hp->Prop,(∃m,W 0 m [] H)/\∀i m vs H,W i m vs H->
   ((Itt K a).stop i H/\∀p,H p=none->Q (.ref p) (upd H p (.lst vs)))\/((Itt K a).go i H/\vs.length<sizeLine/\∃N:List V->Hp->Prop,(∀vs' H',N vs' H'->∃m',m'<m/\W (i+1) m' vs' H')/\
    ∀x H',(Itt K a).yld i H x H'->QV 1 x (List.replicate 2 none) H' fun σ2 H2=>kB (tOp (rIn K false) (Kt 1) (tC (.ref (kr 1)))) σ2 H2 fun b H3=>if b=true then Kt 1 σ2 H3 fun v H4=>N (vs++[v]) H4 else N vs H3):=by
 have hz:1000<=sizeLine:=by decide
 refine yW (NB:=["a","b"]) (xs:=ls.map fun l=>V.str (tx l)) (fun i vs H2=>H2=H/\vs=((ls.take i).filter (Jt.contains ·)).map fun l=>V.str (tx l)) ⟨rfl,rfl⟩ ?_ ?_ ?_ (by rw[uN];omega)
 ·rintro i vs H2 hi ⟨rfl,rfl⟩;refine⟨SqT.of hq,?_⟩;rw[uN];exact Nat.le_trans (List.length_filter_le _ _) (by rw[uY];omega)
 ·rintro i x vs H2 hx ⟨rfl,rfl⟩;rw[u5]at hx;obtain⟨l,hl1,rfl⟩:=Option.map_eq_some_iff.mp hx;refine⟨_,rfl,kr 1,_,rfl,.inr (T.nW _),rfl,by rw[Uk];exact Ul _,_,rfl,?_⟩;rw[Uk,if_neg (by decide),in_list];have ef:((ls.take (i+1)).filter (Jt.contains ·))=((ls.take i).filter (Jt.contains ·))++(if Jt.contains l then[l]else[]):=by
   rw[List.take_add_one,hl1,List.filter_append]
   by_cases hm:l∈Jt<;>simp[hm]
  refine ifB (fun h=>?_) (fun h=>?_)
  ·refine⟨_,rfl,rfl,?_⟩;rw[ef,h,tm];rfl
  ·refine⟨rfl,?_⟩;rw[ef,h];simp
 ·rintro vs H2 ⟨rfl,rfl⟩ q hq2;rw[uN,List.take_length];exact hd q hq2
theorem jM{ls:List (List Nat)}{tl:TE}{NB:List Str}{σ:L2.St}{H:Hp}{Q:VK}(T:Txt K mg tk c kr)(hNB:NB.length=2)(hl:ls.length<=3)
  (h:∀R:VK,(∀p H1,Qo H H1->H1 p=some (.tup (ls.map fun l=>V.str (tx l)))->R (.ref p) H1)->tl σ H R)
  (hd:∀q H1,Qo H H1->H1 q=none->Q (.ref q) (upd H1 q (.lst ((ls.filter (Jt.contains ·)).map fun l=>V.str (tx l))))):
  YW NB (Qfl K tl) (QV 1) (kB (tOp (rIn K false) (Kt 1) (tC (.ref (kr 1))))) (Kt 1) σ H Q:=by
 refine h _ fun p H1 S1 g1=>⟨p,rfl,⟨_,SqT.of g1⟩,?_⟩;rw[hNB];exact xU T g1 hl fun q hq=>hd q H1 S1 hq
theorem wH(l:List Nat):StrLaws.sliceText (tx l) none (some 1)=tx (l.take 1):=by
 cases l with
 |nil=>decide+kernel
 |cons a r=>exact X1 (a::r) (k:=1) (by simp)
noncomputable def zM(K:PySem.W.Frag):Sp:=fun vs H Q _=>∃(p:Addr)(rs:List Addr)(rows:List Rw)(a:Nat),vs=[.ref p,.int (a:Nat)]/\RowsAt K H p rs rows/\a<=rows.length/\
 ∀(pl:List Nat)(many nines b2 b3:Nat)(o:Option Nat),b3<=rows.length->QP (rows.drop a)=(pl,many,nines,rows.drop b2)->Q4 (rows.drop b2) (if nines=0 then pl else[57])=(o,rows.drop b3)->∀q H',Qo H H'->H' q=some (.tup [.str (tx pl),.int (many:Nat),.int (nines:Nat),oV o,.int (b3:Nat)])->Q (.ref q) H'
theorem xV(F:Fun K "body_of" "body_of" Vx f fd)(mV:Def P w K mg base 2 "whole_part" ["rows","at"] (jL K))(mF:Def P w K mg base 1 "broken_part" ["rows","at","place"] (Uj K)):
  FnOk P w K mg base (CXE P w) 3 f fd ["rows","at"] (zM K):=by
 refine okN F J0 (fun vs H Q E h=>?_) (fun cdv A outer s H vs Q E hr h=>?_)
 ·obtain⟨p,rs,rows,a,rfl,_⟩:=h;rfl
 ·obtain⟨p,rs,rows,b,rfl,R,hb,k⟩:=h;have hz:1000<=sizeLine:=by decide
  refine⟨_,(Qc (Q0 (mV.pe hr (by decide) rfl Qp (Qa (pv 0) (Qa (pv 1) Qb))) (QN rfl (Qh (Qi (i:=2) J0.nd rfl (Or.inl rfl)) (Qh (Qi (i:=3) J0.nd rfl (Or.inl rfl)) (Qh (Qi (i:=4) J0.nd rfl (Or.inl rfl)) (Qh (Qi (i:=1) J0.nd rfl (Or.inl rfl)) QA))))))
   (Qc (Q0 (mF.pe hr (by decide) rfl Qp (Qa (pv 0) (Qa (pv 1) (Qa (Jj (Qj Jc (pv 4) Qg (Qm _)) (pv 2) Qk) Qb)))) (QN rfl (Qh (Qi (i:=5) J0.nd rfl (Or.inl rfl)) (Qh (Qi (i:=1) J0.nd rfl (Or.inl rfl)) QA))))
   (Qf (Qn (QI (Qa (pv 2) (Qa (pv 3) (Qa (pv 4) (Qa (pv 5) (Qa (pv 1) Qb)))))))))),?_⟩
  refine⟨_,rfl,_,rfl,p,rs,rows,b,rfl,R,hb,fun pl many nines b2 hb2 h2 q2 H2 S2 g2=>⟨q2,_,rfl,SqT.of g2,rfl,_,_,rfl,_,_,rfl,_,_,rfl,_,_,rfl,rfl,?_⟩⟩;refine⟨_,rfl,_,rfl,_,rfl,rfl,_,rfl,?_⟩;refine Vq (fun x H'=>x=.str (tx (if nines=0 then pl else[57]))/\H'=H2) (fun z rest=>?_) (fun z rest=>?_) ?_
  ·rw[K9]at z;have hn:nines=0:=by have:=of_decide_eq_true z;omega
   rw[if_pos hn]at rest;exact⟨_,rfl,rest _ _ ⟨rfl,rfl⟩⟩
  ·rw[K9]at z;have hn:nines≠0:=by have:=of_decide_eq_false z;omega
   rw[if_neg hn]at rest;exact rest _ _ ⟨by rw[yR],rfl⟩
  rintro x H' ⟨rfl,rfl⟩;refine⟨p,rs,rows,b2,_,rfl,R.same S2,hb2,fun o b3 hb3 h3 q3 hq3=>⟨q3,_,rfl,SqT.of Qd,rfl,_,_,rfl,_,_,rfl,rfl,?_⟩⟩;have S3:=S2.trans (Qo.new (o:=.tup [oV o,.int (b3:Nat)]) hq3);generalize upd H' q3 (.tup [oV o,.int (b3:Nat)])=H3 at S3;refine⟨_,rfl,_,rfl,_,rfl,_,rfl,_,rfl,sL5,fun q4 hq4=>?_⟩;exact k pl many nines b2 b3 o hb3 h2 h3 q4 _ (S3.trans (Qo.new hq4)) Qd
set_option maxHeartbeats 4000000 in
theorem VH(F:Fun K "edited_facts" "edited_facts" ZP f fd)(O:Own mg)(T:Txt K mg tk c kr)(me:Def P w K mg base 2 "lead_of" ["rows"] (zK K))(mf:Def P w K mg base 3 "body_of" ["rows","at"] (zM K))(mh:Def P w K mg base 1 "tail_of" ["rows","at"] (zL K)):
  FnOk P w K mg base (CXE P w) 4 f fd ["rows"] (J3 K Q7):=by
 refine okN F QD (fun vs H Q E h=>?_) (fun cdv A outer s H vs Q E hr h=>?_)
 ·obtain⟨p,rs,rows,rfl,_⟩:=h;rfl
 ·obtain⟨p,rs,rows,rfl,R,k⟩:=h;have hz:1000<=sizeLine:=by decide
  refine⟨_,(Qc (Q0 (me.pe hr (by decide) rfl Qp (Qa (pv 0) Qb)) (QN rfl (Qh (Qi (i:=1) QD.nd rfl (Or.inl rfl)) (Qh (Qi (i:=2) QD.nd rfl (Or.inl rfl)) QA))))
   (Qc (Q0 (mf.pe hr (by decide) rfl Qp (Qa (pv 0) (Qa (pv 2) Qb))) (QN rfl (Qh (Qi (i:=3) QD.nd rfl (Or.inl rfl)) (Qh (Qi (i:=4) QD.nd rfl (Or.inl rfl)) (Qh (Qi (i:=5) QD.nd rfl (Or.inl rfl)) (Qh (Qi (i:=6) QD.nd rfl (Or.inl rfl)) (Qh (Qi (i:=7) QD.nd rfl (Or.inl rfl)) QA)))))))
   (Qc (Qt (i:=8) QD.nd rfl (Or.inl rfl) (mh.pe hr (by decide) rfl Qp (Qa (pv 0) (Qa (pv 7) Qb))))
   (Qc (QM (PW.pt (Z3 (Qj Jc (pv 3) Qk (Qm _)) (Z3 (Xp (Ku (pv 6))) (J7 (Xp (Ku (pv 8))))))) (Qf (Qn Zu)) Qu)
   (Qc (Qt (i:=9) QD.nd rfl (Or.inl rfl) (Zd Zv (pv 3) (QG (v:=V.str "+-$") rfl T.gB ⟨_,rfl⟩) (by with_unfolding_all rfl)))
   (Qc (QM (PW.pt (Zi (Jr (pv 9) (fun _=>rfl)) (JX (Qj Kw (pv 4) Qg (Qm _))))) (Qf (Qn Zu)) Qu)
   (Qc (yH (NB:=[".0","part"]) (iy:=10) rfl ⟨rfl,by decide+kernel,by decide+kernel,by decide+kernel⟩ (U8 (QI (Qa (QZ ZF (pv 1) JY (QX Qg)) (Qa (pv 3) (Qa (pv 8) Qb))))) (fun _ _ _=>(Qi (i:=1) (show([".0","part"]:List Str).Nodup by decide+kernel) rfl (Or.inl rfl))) (fun _ _ _=>(jA (Qj (xM (K0:=K) rfl) (pv 1) (QG (v:=V.ref (kr 1)) rfl T.nV rfl) (by with_unfolding_all rfl)))) (fun _ _ _=>(pv 1)) QD.nd rfl (Or.inl rfl) rfl)
   (Qc (QM (Qj YK (Qr QF rfl O.len PySem.boot_len (Qa (pv 10) Qb)) Qg (Qm _)) (Qf (Qn Zu)) Qu)
   (Qc (Qt (i:=11) QD.nd rfl (Or.inl rfl) (QC Vg (QC Jd (pv 4) (pv 5)) (Jj (Jr (pv 9) (fun _=>rfl)) Qg Qg)))
   (Qc (QM (Qj YK (QC Jd (pv 11) (pv 6)) (QG (v:=V.int 18) rfl T.hZ ⟨_,rfl⟩) (Qm _)) (Qf (Qn Zu)) Qu)
   (Qf (Qn (QI (Qa Qk (Qa (Zd Jc (Qr QF rfl O.len PySem.boot_len (Qa (pv 10) Qb)) Qg (Qm _)) (Qa (pv 11) (Qa (pv 6) Qb))))))))))))))))),?_⟩
  refine⟨_,rfl,p,rs,rows,rfl,R,fun ld b hb hll h1 q1 H1 S1 g1=>⟨q1,_,rfl,SqT.of g1,rfl,_,_,rfl,_,_,rfl,rfl,?_⟩⟩;refine⟨_,rfl,_,rfl,p,rs,rows,b,rfl,R.same S1,hb,fun pl many nines b2 b3 o hb3 h2 h3 q2 H3 S2 g2=>⟨q2,_,rfl,SqT.of g2,rfl,_,_,rfl,_,_,rfl,_,_,rfl,_,_,rfl,_,_,rfl,rfl,?_⟩⟩;have S3:=S1.trans S2;clear g1 g2 S1 S2;have ee:=wF h1 h2 h3;have hone:=wG (rows.drop b);rw[h2]at hone;refine⟨_,rfl,_,rfl,p,rs,rows,b3,rfl,R.same S3,hb3,fun H4 S4=>?_⟩;have S14:=S3.trans S4;generalize Kb (rows.drop b3)=tl at ee;rw[ee]at k;clear ee h1 h2 h3 S3 S4;refine⟨_,rfl,rfl,_,rfl,?_⟩;rw[yS,Y1];rcases hone with hp|⟨place,hp⟩
  ·have hp2:pl=[]:=hp;subst hp2;rw[uP rfl];exact QY (QY (k .non H4 S14 rfl))
  have hp2:pl=[place]:=hp;subst hp2;rw[uO (by simp)];refine QO ⟨_,rfl,_,rfl,?_⟩;cases o with
  |none=>exact QY (QY (k .non H4 S14 rfl))
  |some behind=>
  refine QO ⟨_,rfl,_,rfl,?_⟩;cases tl with
  |none=>exact QY (k .non H4 S14 rfl)
  |some tail=>
  refine QO ⟨_,rfl,_,_,rfl,rfl,?_⟩;rw[QdA,Xt];generalize hfl:([43,45,36]:List Nat).contains place=fl;have ek:XR ld [place] many nines (some behind) (some tail)=if(fl&&decide (many<2))=true then none else if([ld.take 1,[place],tail].filter (Jt.contains ·)).length>1 then none else if many+nines-(if fl=true then 1 else 0)+behind>18 then none else some ⟨3,([ld.take 1,[place],tail].filter (Jt.contains ·)).length==1,many+nines-(if fl=true then 1 else 0),behind⟩:=by
   rw[←hfl];rfl
  rw[ek]at k;clear ek;dsimp only;refine Uf (fun σ' H'=>σ'=[some (.ref p),some (.str (tx ld)),some (.int (b:Nat)),some (.str (tx [place])),some (.int (many:Nat)),some (.int (nines:Nat)),some (.int (behind:Nat)),some (.int (b3:Nat)),some (.str (tx tail)),some (.bl fl),none,none]/\H'=H4/\¬ (fl&&decide (many<2))=true) ?_ (fun rest=>?_)
  ·rintro σ' H' ⟨rfl,rfl,hfm⟩;rw[if_neg hfm]at k;have hmm:fl=true->2<=many:=fun z=>by
    rcases Nat.lt_or_ge many 2 with q|q
    ·exact absurd (by rw[z,uP q];rfl) hfm
    ·exact q
   dsimp only[Xu,Z2];refine jM (ls:=[ld.take 1,[place],tail]) T rfl (by simp) (fun R r=>⟨_,rfl,_,rfl,tx ld,rfl,by rw[Qq];omega,_,rfl,_,rfl,sL3,fun p5 hp5=>r p5 _ (Qo.new hp5) (by rw[Qd,wH];rfl)⟩) fun q5 H5 S5 hq5=>?_;have S6:=(S14.trans S5).trans (Qo.new (o:=.lst (([ld.take 1,[place],tail].filter (Jt.contains ·)).map fun l=>V.str (tx l))) hq5);have g6:upd H5 q5 (.lst (([ld.take 1,[place],tail].filter (Jt.contains ·)).map fun l=>V.str (tx l))) q5=some (.lst (([ld.take 1,[place],tail].filter (Jt.contains ·)).map fun l=>V.str (tx l))):=Qd;generalize upd H5 q5 (.lst (([ld.take 1,[place],tail].filter (Jt.contains ·)).map fun l=>V.str (tx l)))=H6 at S6 g6;generalize [ld.take 1,[place],tail].filter (Jt.contains ·)=sh at g6 k;refine⟨_,rfl,q5,_,rfl,.inl (SqL.of g6),_,_,rfl,rfl,_,rfl,?_⟩;rw[uN]
   by_cases h7:sh.length>1
   ·rw[uP (by omega)];rw[if_pos h7]at k;exact QY (k .non H6 S6 rfl)
   ·rw[uO (by omega)];rw[if_neg h7]at k;refine QO ⟨_,rfl,_,rfl,_,_,rfl,rfl,_,rfl,fl,rfl,?_⟩;have hbf:((many:Nat):Int)+(nines:Nat)-(if fl=true then 1 else 0)=((many+nines-(if fl=true then 1 else 0):Nat):Int):=by
     cases fl with
     |true=>have:=hmm rfl;simp;omega
     |false=>simp
    refine Vq (fun x H'=>x=.int (if fl=true then 1 else 0)/\H'=H6) (fun z rest=>rest _ _ ⟨by rw[if_pos z],rfl⟩) (fun z rest=>rest _ _ ⟨by rw[if_neg (by rw[z];decide)],rfl⟩) ?_;rintro x H7 ⟨rfl,rfl⟩;refine⟨_,_,rfl,rfl,?_⟩;dsimp only[QV];rw[hbf];generalize many+nines-(if fl=true then 1 else 0)=before at k;refine⟨_,rfl,_,rfl,_,_,rfl,rfl,_,_,rfl,rfl,_,rfl,?_⟩
    by_cases h8:before+behind>18
    ·rw[uP (by omega)];rw[if_pos h8]at k;exact QY (k .non H7 S6 rfl)
    ·rw[uO (by omega)];rw[if_neg h8]at k;refine QO ⟨_,rfl,q5,_,rfl,.inl (SqL.of g6),rfl,_,rfl,_,rfl,sL4,fun q9 hq9=>?_⟩;refine k _ _ (S6.trans (Qo.new hq9)) ⟨q9,rfl,?_⟩;rw[Qd,uN,K9];have e9:decide ((sh.length:Int)=1)=(sh.length==1):=by
      by_cases z:sh.length=1
      ·rw[z];rfl
      ·rw[uO (by omega)];exact(beq_eq_false_iff_ne.mpr z).symm
     rw[e9];rfl
  ·refine⟨_,rfl,fl,rfl,?_⟩;cases fl with
   |false=>
    exact QO (QO (rest _ _ ⟨rfl,rfl,by simp⟩))
   |true=>
    refine QY ⟨_,rfl,_,_,rfl,rfl,_,rfl,?_⟩
    by_cases h6:many<2
    ·rw[uP (by omega)];refine QY (k .non H4 S14 ?_);rw[uP h6];rfl
    ·rw[uO (by omega)];exact QO (rest _ _ ⟨rfl,rfl,by rw[uO h6];decide⟩)
end
section
variable {P:Program}{w:World}{K:PySem.W.Frag}{mg:Str->Option Value}{base:Heap}{f:Addr}{fd:FuncData}{tk:Nat->Tok}{c kr:Nat->Addr}
theorem FV.isN{o:Option Facts}{v:V}{H:Hp}(h:FV o v H):decide (v=.non)= !o.isSome:=by
 cases o with
 |none=>rw[show v=.non from h];rfl
 |some x=>obtain⟨q,h1,h2⟩:=h;rw[h1];rfl
set_option maxHeartbeats 1000000 in
theorem jN(F:Fun K "facts_of" "facts_of" Wf f fd)(ml:Def P w K mg base 1 "number_facts" ["rows"] (J3 K QQ))(mG:Def P w K mg base 1 "plain_facts" ["rows"] (J3 K Jo))(mm:Def P w K mg base 4 "edited_facts" ["rows"] (J3 K Q7)):
  FnOk P w K mg base (CXE P w) 5 f fd ["rows"] (J3 K Jz):=by
 refine okN F Xa (fun vs H Q E h=>?_) (fun cdv A outer s H vs Q E hr h=>?_)
 ·obtain⟨p,rs,rows,rfl,_⟩:=h;rfl
 ·obtain⟨p,rs,rows,rfl,R,k⟩:=h;refine⟨_,(Qc (Qt (i:=1) Xa.nd rfl (Or.inl rfl) (ml.pe hr (by decide) rfl Qp (Qa (pv 0) Qb)))
   (Qc (QM (Xp (Ku (pv 1))) (Qf (Qt (i:=1) Xa.nd rfl (Or.inl rfl) (mG.pe hr (by decide) rfl Qp (Qa (pv 0) Qb)))) Qu)
   (Qc (QM (Xp (Ku (pv 1))) (Qf (Qt (i:=1) Xa.nd rfl (Or.inl rfl) (mm.pe hr (by decide) rfl Qp (Qa (pv 0) Qb)))) Qu)
   (Qf (Qn (pv 1)))))),?_⟩
  refine⟨_,rfl,p,rs,rows,rfl,R,fun v1 H1 S1 f1=>?_⟩;refine⟨_,rfl,_,rfl,?_⟩;rw[f1.isN];cases e1:QQ rows with
  |some x=>
   rw[e1]at f1;have ef:Jz rows=some x:=by unfold Jz;rw[e1]
   refine QO ⟨_,rfl,_,rfl,?_⟩;rw[f1.isN];refine QO ⟨_,rfl,k v1 H1 S1 ?_⟩;rw[ef];exact f1
  |none=>
   refine QY ⟨_,rfl,p,rs,rows,rfl,R.same S1,fun v2 H2 S2 f2=>?_⟩;refine⟨_,rfl,_,rfl,?_⟩;rw[f2.isN];cases e2:Jo rows with
   |some x=>
    rw[e2]at f2;have ef:Jz rows=some x:=by unfold Jz;rw[e1,e2]
    refine QO ⟨_,rfl,k v2 H2 (S1.trans S2) ?_⟩;rw[ef];exact f2
   |none=>
    have ef:Jz rows=Q7 rows:=by unfold Jz;rw[e1,e2]
    refine QY ⟨_,rfl,p,rs,rows,rfl,(R.same S1).same S2,fun v3 H3 S3 f3=>⟨_,rfl,k v3 H3 ((S1.trans S2).trans S3) ?_⟩⟩;rw[ef];exact f3
noncomputable def Um(K:PySem.W.Frag)(c:Nat->Addr):Sp:=fun vs H Q E=>∃l:List Nat,vs=[.str (tx l)]/\l.length<=500/\(QR l=none->∀H',Qo H H'->E (.ref (c 1)) none H')/\
 (∀x,QR l=some x->∀q p rs r H',Qo H H'->H' q=some (.tup [.ref p,.ref r])->H' r=some (fO x)->RowsAt K H' p rs (rowsOf l)->Q (.ref q) H')
theorem Uo(F:Fun K "understood" "understood" ZG f fd)(T:Txt K mg tk c kr)(mi:Def P w K mg base 4 "rows_of" ["thing"] (zJ K))(gQ:Def P w K mg base 5 "facts_of" ["rows"] (J3 K Jz)):
  FnOk P w K mg base (CXE P w) 6 f fd ["picture"] (Um K c):=by
 refine okE F Z8 (fun vs H Q E h=>?_) (fun cdv A outer s H vs Q E hr h=>?_)
 ·obtain⟨l,rfl,_⟩:=h;rfl
 ·obtain⟨l,rfl,hl,k1,k2⟩:=h;have hz:1000<=sizeLine:=by decide
  have fr:=Jx (P:=P) (w:=w) (K:=K) (mg:=mg) (base:=base) (N:=["picture","rows","facts"]) (qual:="understood") (scope:=Qe ZG) (f:=f) (cd:=cdv) (A:=A) (outer:=outer) (s:=s) (H:=H) (E:=E);have ht:=JD fr;have hx:=QL fr;refine⟨_,(Qc (Qt (i:=1) Z8.nd rfl (Or.inl rfl) (mi.pe hr (by decide) rfl hx (Qa (pv 0) Qb)))
   (Qc (Qt (i:=2) Z8.nd rfl (Or.inl rfl) (gQ.pe hr (by decide) rfl hx (Qa (pv 1) Qb)))
   (Qc (QM (Xp (Ku (pv 2))) (Qf (J5 ht rfl rfl T.rK T.rL (Qa Qk Qb))) Qu)
   (Qf (Qn (QI (Qa (pv 1) (Qa (pv 2) Qb)))))))),?_⟩
  refine⟨_,rfl,_,rowsOf l,rfl,.inl ⟨l,rfl,hl,rfl⟩,fun p rs H1 S1 R1=>⟨_,rfl,p,rs,rowsOf l,rfl,R1,fun v2 H2 S2 f2=>?_⟩⟩;refine⟨_,rfl,_,rfl,?_⟩;rw[f2.isN];cases e:Jz (rowsOf l)with
  |none=>exact QY ⟨sL1,k1 e _ (S1.trans S2)⟩
  |some x=>
   rw[e]at f2;obtain⟨r,rfl,g⟩:=f2;refine QO ⟨_,rfl,_,rfl,sL2,fun q hq=>?_⟩;have S3:=Qo.new (o:=.tup [.ref p,.ref r]) hq;exact k2 x e q p rs r _ ((S1.trans S2).trans S3) Qd (S3 _ _ g) ((R1.same S2).same S3)
noncomputable def WJ(c:Nat->Addr):Sp:=fun vs H Q E=>∃l:List Nat,vs=[.str (tx l)]/\l.length<=500/\(QR l=none->∀H',Qo H H'->E (.ref (c 1)) none H')/\(∀x,QR l=some x->∀H',Qo H H'->Q (.str (kindS x.kind)) H')
theorem xW(F:Fun K "kind_of" "kind_of" KK f fd)(gG:Def P w K mg base 6 "understood" ["picture"] (Um K c)):FnOk P w K mg base (CXE P w) 7 f fd ["picture"] (WJ c):=by
 refine okE F Wc (fun vs H Q E h=>?_) (fun cdv A outer s H vs Q E hr h=>?_)
 ·obtain⟨l,rfl,_⟩:=h;rfl
 ·obtain⟨l,rfl,hl,k1,k2⟩:=h;have fr:=Jx (P:=P) (w:=w) (K:=K) (mg:=mg) (base:=base) (N:=["picture","rows","facts"]) (qual:="kind_of") (scope:=Qe KK) (f:=f) (cd:=cdv) (A:=A) (outer:=outer) (s:=s) (H:=H) (E:=E);have hx:=QL fr;refine⟨_,(Qc (Q0 (gG.pe hr (by decide) rfl hx (Qa (pv 0) Qb)) (QN rfl (Qh (Qi (i:=1) Wc.nd rfl (Or.inl rfl)) (Qh (Qi (i:=2) Wc.nd rfl (Or.inl rfl)) QA))))
   (Qf (Qn (Qw JV (pv 2) Qg (fun _ _=>rfl))))),?_⟩
  refine⟨_,rfl,l,rfl,hl,k1,fun x e q p rs r H1 S1 g1 g2 R1=>?_⟩;exact⟨q,_,rfl,SqT.of g1,rfl,_,_,rfl,_,_,rfl,rfl,_,rfl,r,_,_,_,rfl,rfl,SqT.of g2,rfl,k2 x e H1 S1⟩
end
end Lw
namespace K04
open PySem PySem.NumText K02
theorem QdC(t:List Nat):(QS t).2.length<=t.length:=by
 unfold QS
 split
 ·split
  ·show(List.drop _ _).length<=_;rw[uZ,uT];omega
  ·exact uQ _
 ·exact uQ _
theorem QeW{t:List Nat}(h:t.head?≠some 40):QS t=(1,t):=by
 unfold QS
 split
 ·exact absurd rfl h
 ·rfl
theorem QbR:∀(k k':Nat)(l:List Nat)(rows:List Rw),l.length<=k->l.length<=k'->WI k l rows=WI k' l rows:=by
 intro k
 induction k with
 |zero=>
  intro k' l rows h h';cases l with
  |nil=>cases k'<;>rfl
  |cons a r=>simp at h
 |succ k ih=>
  intro k' l rows h h';cases l with
  |nil=>cases k'<;>rfl
  |cons c t=>
   cases k' with
   |zero=>simp at h'
   |succ k'=>
    have:=QdC t;rw[uT]at h h';exact ih k' _ _ (by omega) (by omega)
noncomputable def run(l:List Nat)(rows:List Rw):List Rw:=WI l.length l rows
theorem QbS(rows:List Rw):run [] rows=rows:=rfl
theorem zN(c:Nat)(t:List Nat)(rows:List Rw):run (c::t) rows=run (QS t).2 (QK rows c (QS t).1):=by
 show WI t.length (QS t).2 (QK rows c (QS t).1)=_;exact QbR _ _ _ _ (QdC t) (uQ _)
theorem run_plain{c:Nat}{t:List Nat}(rows:List Rw)(h:t.head?≠some 40):run (c::t) rows=run t (QK rows c 1):=by
 rw[zN,QeW h]
noncomputable def rle(rows:List Rw)(l:List Nat):List Rw:=l.foldl (fun r c=>QK r c 1) rows
theorem jO(rows:List Rw)(a b:List Nat):rle rows (a++b)=rle (rle rows a) b:=List.foldl_append
theorem QbT{c:Nat}{t:List Nat}(hc:c≠40)(h:t.head?≠some 40):∀(m:Nat)(rows:List Rw),run (List.replicate m c++t) rows=run t (rle rows (List.replicate m c)):=by
 intro m
 induction m with
 |zero=>intro rows;rfl
 |succ m ih=>
  intro rows;rw[List.replicate_succ,tD,run_plain,ih]
  ·rfl
  ·cases m with
   |zero=>exact h
   |succ m=>rw[List.replicate_succ,tD,List.head?_cons];exact fun z=>hc (uR z)
theorem Jf(rows:List Rw):rows=[]\/∃r c m,rows=r++[(c,m)]:=by
 rcases List.eq_nil_or_concat rows with h|⟨r,x,h⟩
 ·exact .inl h
 ·exact .inr ⟨r,x.1,x.2,by rw[h,List.concat_eq_append]⟩
theorem VI(c n:Nat):QK [] c n=[(c,n)]:=rfl
theorem JB(rows:List Rw)(c n m:Nat):QK (rows++[(c,m)]) c n=rows++[(c,n+m)]:=by
 unfold QK;rw[List.getLast?_concat];simp
theorem Jm{rows:List Rw}{c c' n m:Nat}(h:c'≠c):QK (rows++[(c',m)]) c n=(rows++[(c',m)])++[(c,n)]:=by
 unfold QK;rw[List.getLast?_concat];simp[h]
theorem QbU(rows:List Rw)(c a b:Nat):QK (QK rows c a) c b=QK rows c (b+a):=by
 rcases Jf rows with rfl|⟨r,c',m,rfl⟩
 ·rw[VI,VI];exact JB [] c b a
 ·by_cases h:c'=c
  ·subst h;rw[JB,JB,JB,Nat.add_assoc]
  ·rw[Jm h,Jm h,JB]
theorem wI(c:Nat):∀(m:Nat)(rows:List Rw),rle rows (List.replicate (m+1) c)=QK rows c (m+1):=by
 intro m
 induction m with
 |zero=>intro rows;rfl
 |succ m ih=>
  intro rows;rw[List.replicate_succ];show rle (QK rows c 1) (List.replicate (m+1) c)=_;rw[ih,QbU]
theorem QdD{p:Nat->Bool}{a:List Nat}{c:Nat}{t:List Nat}(h:∀x∈a,p x=true) (hc:p c=false):(a++c::t).takeWhile p=a:=by
 induction a with
 |nil=>simp[hc]
 |cons x r ih=>
  rw[tD,List.takeWhile_cons,h x uX,if_pos rfl,ih fun y hy=>h y (uW _ hy)]
noncomputable def Num(d:List Nat)(n:Nat):Prop:=d≠[]/\AllDigits d/\d.head?≠some 48/\digitsVal d=n
theorem QdE{d:List Nat}{n:Nat}(h:Num d n)(t:List Nat):QS (40::(d++41::t))=(n,t):=by
 have e:(d++41::t).takeWhile (· !=41)=d:=QdD (fun x hx=>by have:=h.2.1 x hx;simp;omega) (by simp);show(if 41∈(d++41::t)/\_/\_/\_ then _ else _)=_;rw[e,if_pos ⟨by simp,h.1,h.2.1,h.2.2.1⟩,h.2.2.2]
 congr 1
 rw[←List.drop_drop,List.drop_left];rfl
theorem QbV{c n:Nat}{d t:List Nat}(rows:List Rw)(h:Num d n):run (c::40::(d++41::t)) rows=run t (QK rows c n):=by
 rw[zN,QdE h]
inductive Sh:List Nat->List Nat->Prop
 |nil:Sh [] []
 |out {a b:List Nat} {c:Nat} (m:Nat):Sh a b->c≠40->Sh (a++List.replicate (m+1) c) (b++List.replicate (m+1) c)
 |brk {a b d:List Nat} {c:Nat} (m:Nat):Sh a b->c≠40->Num d (m+1)->Sh (a++List.replicate (m+1) c) (b++(c::40::(d++[41])))
theorem Sh.rows{a b:List Nat}(h:Sh a b):∀(t:List Nat)(rows:List Rw),t.head?≠some 40->run (b++t) rows=run t (rle rows a):=by
 induction h with
 |nil=>intro t rows _;rfl
 |@out a b c m _ hc ih=>
  intro t rows ht;rw[tq,ih _ _ (by rw[List.replicate_succ,tD,List.head?_cons];exact fun z=>hc (uR z)),QbT hc ht,jO]
 |@brk a b d c m _ hc hd ih=>
  intro t rows ht;have e:(c::40::(d++[41]))++t=c::40::(d++41::t):=by simp
  rw[tq,ih _ _ (by rw[tD,List.head?_cons];exact fun z=>hc (uR z)),e,QbV _ hd,jO,wI]
theorem qH{a b:List Nat}(h:Sh a b):rowsOf b=rle [] a:=by
 have:=h.rows [] [] (by simp);rw[tF,QbS]at this;exact this
theorem wJ:∀(a:List Nat),40∉a->Sh a a:=by
 have key:∀(l a:List Nat),40∉l->Sh a a->Sh (a++l) (a++l):=by
  intro l
  induction l with
  |nil=>intro a _ h;rw[tF];exact h
  |cons c t ih=>
   intro a hl h;have e:a++c::t=(a++List.replicate (0+1) c)++t:=by simp
   rw[e];exact ih _ (fun z=>hl (uW _ z)) (Sh.out 0 h fun z=>hl (by rw[z];exact uX))
 intro a h;exact key a [] h .nil
theorem Yy{a:List Nat}(h:40∉a):rowsOf a=rle [] a:=qH (wJ a h)
theorem QdF(rows:List Rw)(c n:Nat):∃r m,QK rows c n=r++[(c,m)]:=by
 rcases Jf rows with rfl|⟨r,c',m,rfl⟩
 ·exact⟨[],n,rfl⟩
 ·by_cases h:c'=c
  ·subst h;exact⟨r,_,JB r c' n m⟩
  ·exact⟨_,_,Jm h⟩
theorem QbW(rows r1:List Rw)(c n:Nat)(h:r1≠[]):QK (rows++r1) c n=rows++QK r1 c n:=by
 rcases Jf r1 with rfl|⟨r,c',m,rfl⟩
 ·exact absurd rfl h
 ·rw[←tq]
  by_cases h:c'=c
  ·subst h;rw[JB,JB,tq]
  ·rw[Jm h,Jm h,tq,tq,tq]
theorem yX(l:List Nat):∀(rows r1:List Rw),r1≠[]->rle (rows++r1) l=rows++rle r1 l:=by
 induction l with
 |nil=>intro rows r1 _;rfl
 |cons c t ih=>
  intro rows r1 h;show rle (QK (rows++r1) c 1) t=rows++rle (QK r1 c 1) t;rw[QbW rows r1 c 1 h,ih];obtain⟨r,m,e⟩:=QdF r1 c 1;rw[e];simp
theorem QbX{rows:List Rw}{l:List Nat}(h:∀r x n,rows=r++[(x,n)]->l.head?≠some x):rle rows l=rows++rle [] l:=by
 cases l with
 |nil=>show rows=rows++[];rw[tF]
 |cons c t=>
  have e:QK rows c 1=rows++[(c,1)]:=by
   rcases Jf rows with rfl|⟨r,c',m,rfl⟩
   ·rfl
   ·exact Jm fun z=>h r c' m rfl (by rw[z];rfl)
  show rle (QK rows c 1) t=rows++rle [(c,1)] t;rw[e,yX t rows [(c,1)] (by simp)]
theorem yY(l:List Nat):∀(rows r:List Rw)(x n:Nat),l≠[]->rle rows l=r++[(x,n)]->l.getLast?=some x:=by
 induction l with
 |nil=>intro rows r x n h;exact absurd rfl h
 |cons c t ih=>
  intro rows r x n _ e;cases t with
  |nil=>
   have e2:QK rows c 1=r++[(x,n)]:=e;obtain⟨r',m,e3⟩:=QdF rows c 1;rw[e2]at e3;have:=(List.append_inj' e3 rfl).2;cases this;rfl
  |cons d t=>exact ih _ r x n (by simp) e
theorem Up{a b:List Nat}(h:∀x,a.getLast?=some x->b.head?≠some x):rle [] (a++b)=rle [] a++rle [] b:=by
 rw[jO];refine QbX fun r x n e=>?_;cases a with
 |nil=>cases r<;>cases e
 |cons c t=>exact h x (yY _ _ r x n (by simp) e)
theorem Uq(c:Nat)(t:List Nat):∃n r,rle [] (c::t)=(c,n+1)::r:=by
 have key:∀(t:List Nat)(rows r:List Rw)(n:Nat),rows=(c,n+1)::r->∃n r,rle rows t=(c,n+1)::r:=by
  intro t
  induction t with
  |nil=>intro rows r n e;exact⟨n,r,e⟩
  |cons d t ih=>
   intro rows r n e;rcases Jf rows with h|⟨r',c',m,h⟩
   ·rw[h]at e;cases e
   ·subst h;cases r' with
    |nil=>
     cases e
     by_cases z:c=d
     ·subst z;exact ih _ [] (1+n) (JB [] c 1 (n+1))
     ·exact ih _ [(d,1)] n (Jm (rows:=[]) z)
    |cons y r'=>
     cases e
     by_cases z:c'=d
     ·subst z;exact ih _ _ n (JB ((c,n+1)::r') c' 1 m)
     ·exact ih _ _ n (Jm (rows:=(c,n+1)::r') z)
 exact key t [(c,1)] [] 0 rfl
noncomputable def cnt(s:Nat)(rows:List Rw):Nat:=(rows.map fun x=>if x.1=s then x.2 else 0).sum
theorem jP(s:Nat)(a b:List Rw):cnt s (a++b)=cnt s a+cnt s b:=by
 unfold cnt;rw[tm,List.sum_append]
theorem QbY(s:Nat)(rows:List Rw)(c n:Nat):cnt s (QK rows c n)=cnt s rows+if c=s then n else 0:=by
 rcases Jf rows with rfl|⟨r,c',m,rfl⟩
 ·simp[VI,cnt]
 ·by_cases h:c'=c
  ·subst h;rw[JB,jP,jP];simp only[cnt,tH,List.map_nil,List.sum_cons,List.sum_nil]
   split<;>omega
  ·rw[Jm h,jP];simp only[cnt,tH,List.map_nil,List.sum_cons,List.sum_nil]
   split<;>omega
theorem QbZ(s:Nat)(l:List Nat):∀rows,cnt s (rle rows l)=cnt s rows+l.count s:=by
 induction l with
 |nil=>intro rows;rfl
 |cons c t ih=>
  intro rows;show cnt s (rle (QK rows c 1) t)=_;rw[ih,QbY,List.count_cons]
  by_cases h:c=s
  ·subst h;simp;omega
  ·have:(c==s)=false:=by simpa using h
   rw[if_neg h,this];simp
theorem Qb0{rows:List Rw}{c n:Nat}{x:Rw}(h:x∈QK rows c n):x.1=c\/x∈rows:=by
 rcases Jf rows with rfl|⟨r,c',m,rfl⟩
 ·exact .inl (by rw[VI]at h;rw[List.mem_singleton.mp h])
 ·by_cases z:c'=c
  ·subst z;rw[JB]at h;rcases List.mem_append.mp h with h|h
   ·exact .inr (uV _ h)
   ·exact .inl (by rw[List.mem_singleton.mp h])
  ·rw[Jm z]at h;rcases List.mem_append.mp h with h|h
   ·exact .inr h
   ·exact .inl (by rw[List.mem_singleton.mp h])
theorem wK{x:Rw}(l:List Nat):∀rows,x∈rle rows l->x.1∈l\/x∈rows:=by
 induction l with
 |nil=>intro rows h;exact .inr h
 |cons c t ih=>
  intro rows h;rcases ih _ h with h|h
  ·exact .inl (uW _ h)
  ·rcases Qb0 h with h|h
   ·exact .inl (by rw[h];exact uX)
   ·exact .inr h
theorem Yz{place:Nat}{R:List Rw}(hR:∀x,R.head?=some x->x.1≠place/\ins x.1=false):∀(W:List Rw)(m:Nat),(∀x∈W,x.1=place\/ins x.1=true)->QH place (W++R) m=(m+cnt place W,R):=by
 intro W
 induction W with
 |nil=>
  intro m _;show QH place R m=_;cases R with
  |nil=>rfl
  |cons x r=>
   obtain⟨c,n⟩:=x;have:=hR (c,n) rfl;show(if c=place then _ else if ins c=true then _ else _)=_;rw[if_neg this.1,if_neg (by rw[this.2];decide)];rfl
 |cons x r ih=>
  intro m h;obtain⟨c,n⟩:=x;have e:cnt place ((c,n)::r)=(if c=place then n else 0)+cnt place r:=by simp[cnt]
  show(if c=place then QH place (r++R) (m+n)else if ins c=true then QH place (r++R) m else(m,(c,n)::(r++R)))=_;rw[e]
  by_cases z:c=place
  ·rw[if_pos z,if_pos z,ih _ fun y hy=>h y (uW _ hy),Nat.add_assoc]
  ·rw[if_neg z,if_neg z,if_pos ((h _ uX).resolve_left z),ih _ fun y hy=>h y (uW _ hy),Nat.zero_add]
structure PlT(s most:Nat)(l:List Nat):Prop where
 hd:l.head?=some s
 all:∀x∈l,x=s\/ins x=true
 cn:l.count s<=most
theorem PlT.rows{s most:Nat}{l:List Nat}(h:PlT s most l):∃n r,rle [] l=(s,n+1)::r/\(∀x∈rle [] l,x.1=s\/ins x.1=true)/\cnt s (rle [] l)=l.count s:=by
 cases l with
 |nil=>cases h.hd
 |cons c t=>
  have e:c=s:=uR h.hd;subst e;obtain⟨n,r,e⟩:=Uq c t;refine⟨n,r,e,fun x hx=>?_,by rw[QbZ];exact Nat.zero_add _⟩;rcases wK _ _ hx with z|z
  ·exact h.all _ z
  ·cases z
theorem PlT.last{s most:Nat}{l:List Nat}(h:PlT s most l){x:Nat}(e:l.getLast?=some x):x=s\/ins x=true:=h.all x (List.mem_of_getLast? e)
theorem Qb1{x:Nat}(l:List Nat):∀rows:List Rw,(x∈l\/∃y∈rows,y.1=x)->∃y∈rle rows l,y.1=x:=by
 have keep:∀(rows:List Rw)(c:Nat),(x=c\/∃y∈rows,y.1=x)->∃y∈QK rows c 1,y.1=x:=by
  intro rows c h;rcases Jf rows with rfl|⟨r,c',m,rfl⟩
  ·rcases h with h|⟨y,hy,_⟩
   ·exact⟨(c,1),List.mem_singleton.mpr rfl,h.symm⟩
   ·cases hy
  ·by_cases z:c'=c
   ·subst z;rw[JB];rcases h with h|⟨y,hy,e⟩
    ·exact⟨_,uU _ (List.mem_singleton.mpr rfl),h.symm⟩
    ·rcases List.mem_append.mp hy with hy|hy
     ·exact⟨y,uV _ hy,e⟩
     ·rw[List.mem_singleton.mp hy]at e;exact⟨_,uU _ (List.mem_singleton.mpr rfl),e⟩
   ·rw[Jm z];rcases h with h|⟨y,hy,e⟩
    ·exact⟨_,uU _ (List.mem_singleton.mpr rfl),h.symm⟩
    ·exact⟨y,uV _ hy,e⟩
 induction l with
 |nil=>intro rows h;exact h.resolve_left (by simp)
 |cons c t ih=>
  intro rows h;refine ih _ ?_;rcases h with h|h
  ·rcases List.mem_cons.mp h with h|h
   ·exact .inr (keep rows c (.inl h))
   ·exact .inl h
  ·exact .inr (keep rows c (.inr h))
structure Ed(lead:List Nat)(first:Nat)(W N broken tail:List Nat):Prop where
 w:PlT first 5 W
 n:N=[]\/(first≠57/\PlT 57 3 N)
 f:first∈([57,90,42,43,45,36]:List Nat)
 fl:first∈([43,45,36]:List Nat)->2<=W.count first
 br:broken=[]\/∃k b,k<3/\broken=List.replicate (k+1) b/\(b=57\/(b=first/\(first=90\/first=42)/\N=[]))
 ld:lead∈([[],[43],[45],[36],[43,36],[45,36]]:List (List Nat))
 l1:first=43\/first=45->lead=[]\/lead=[36]
 l2:first=36->lead=[]\/lead=[43]\/lead=[45]
 tl:tail∈([[],[43],[45],[67,82],[68,66]]:List (List Nat))
 ts:tail≠[]->(first≠43/\first≠45)/\(lead=[]\/lead=[36])
 nn:¬ (first=57/\(∀x∈W,x=57)/\lead=[]/\broken=[]/\tail=[])
noncomputable def QE(broken:List Nat):List Nat:=if broken=[]then[]else 46::broken
noncomputable def JM(lead W N broken tail:List Nat):List Nat:=lead++(W++(N++(QE broken++tail)))
noncomputable def sgn(lead:List Nat)(first:Nat)(tail:List Nat):Bool:=(lead.head?==some 43||lead.head?==some 45)||(first==43||first==45)|| !tail.isEmpty
theorem yZ:∀first∈([57,90,42,43,45,36]:List Nat),∀lead∈([[],[43],[45],[36],[43,36],[45,36]]:List (List Nat)),∀tail∈([[],[43],[45],[67,82],[68,66]]:List (List Nat)),
  (first=43\/first=45->lead=[]\/lead=[36])->(tail≠[]->(first≠43/\first≠45)/\(lead=[]\/lead=[36]))->
   ([lead.take 1,[first],tail].filter (Jt.contains ·)).length<=1/\(([lead.take 1,[first],tail].filter (Jt.contains ·)).length==1)=sgn lead first tail:=by decide
theorem Qaa:∀first∈([57,90,42,43,45,36]:List Nat),ins first=false/\first≠46/\first≠40/\first≠88/\first≠65:=by decide
section
variable {lead W N broken tail:List Nat}{first:Nat}
theorem Qab{s:Nat}(hs:ins s=false)(R:List Rw):∀r:List Rw,(∀x∈r,x.1=s\/ins x.1=true)->1<=cnt s r->∃m r',(r++R).dropWhile (fun x=>ins x.1)=(s,m)::r':=by
 intro r
 induction r with
 |nil=>intro _ h;exact absurd h (by simp[cnt])
 |cons x r ih=>
  intro h1 h2;obtain⟨c,n⟩:=x
  by_cases z:c=s
  ·subst z;exact⟨n,r++R,by rw[tD,List.dropWhile_cons,if_neg (by show ¬ ins c=true;rw[hs];decide)]⟩
  ·have hi:ins c=true:=(h1 _ uX).resolve_left z;have hc:cnt s ((c,n)::r)=cnt s r:=by simp[cnt,z]
   rw[hc]at h2;obtain⟨m,r',e⟩:=ih (fun y hy=>h1 y (uW _ hy)) h2;exact⟨m,r',by rw[tD,List.dropWhile_cons,if_pos (show ins c=true from hi),e]⟩
theorem wL{s n:Nat}{r:List Rw}(hs:ins s=false)(R:List Rw)(h1:∀x∈(s,n+1)::r,x.1=s\/ins x.1=true) (h2:2<=cnt s ((s,n+1)::r)):Jk ((s,n+1)::(r++R))=true:=by
 show(decide (n+1>1)||_)=true;cases n with
 |succ n=>rw[uP (by omega)];rfl
 |zero=>
  have hc:cnt s ((s,0+1)::r)=1+cnt s r:=by simp[cnt]
  rw[hc]at h2;obtain⟨m,r',e⟩:=Qab hs R r (fun y hy=>h1 y (uW _ hy)) (by omega);rw[e];simp
theorem YA{c s m:Nat}(hs:ins s=false)(r:List Rw)(h:s≠c):Jk ((c,1)::(s,m)::r)=false:=by
 show(decide (1>1)||_)=false;rw[List.dropWhile_cons,if_neg (show ¬ ins s=true by rw[hs];decide)];simp[h]
theorem Qb2{b k:Nat}(h:b≠46):rle [] (46::List.replicate (k+1) b)=[(46,1),(b,k+1)]:=by
 show rle [(46,1)] (List.replicate (k+1) b)=_;rw[wI];exact Jm (rows:=[]) (Ne.symm h)
theorem XS:∀tail∈([[],[43],[45],[67,82],[68,66]]:List (List Nat)),Kb (rle [] tail)=some tail/\(∀x,(rle [] tail).head?=some x->x.1∈([43,45,67,68]:List Nat))/\(rle [] tail=[]->tail=[])/\(∀x,tail.head?=some x->x∈([43,45,67,68]:List Nat)):=by
 intro tail h;simp only[List.mem_cons,List.not_mem_nil,or_false]at h;rcases h with rfl|rfl|rfl|rfl|rfl
 ·exact⟨by decide,(by intro x hx;cases hx),by decide,(by intro x hx;cases hx)⟩
 all_goals exact⟨by decide,(by intro x hx;cases hx;decide),by decide,(by intro x hx;cases hx;decide)⟩
theorem wM:∀lead∈([[],[43],[45],[36],[43,36],[45,36]]:List (List Nat)),rle [] lead=lead.map fun c=>(c,1):=by decide
theorem Ed.behind(E:Ed lead first W N broken tail):∀x,(QE broken++tail).head?=some x->x≠57/\ins x=false/\x≠first/\x∈([46,43,45,67,68]:List Nat):=by
 intro x hx;have hf:=Qaa first E.f;unfold QE at hx
 by_cases hb:broken=[]
 ·rw[if_pos hb,tE]at hx;have ht:=(XS tail E.tl).2.2.2 x hx;have hn:tail≠[]:=fun z=>by rw[z]at hx;cases hx
  have hs:=E.ts hn;have h67:first≠67/\first≠68:=by
   have:∀f∈([57,90,42,43,45,36]:List Nat),f≠67/\f≠68:=by decide
   exact this first E.f
  simp only[List.mem_cons,List.not_mem_nil,or_false]at ht;rcases ht with rfl|rfl|rfl|rfl
  ·exact⟨by decide,by decide,Ne.symm hs.1.1,by decide⟩
  ·exact⟨by decide,by decide,Ne.symm hs.1.2,by decide⟩
  ·exact⟨by decide,by decide,Ne.symm h67.1,by decide⟩
  ·exact⟨by decide,by decide,Ne.symm h67.2,by decide⟩
 ·rw[if_neg hb]at hx;cases hx;exact⟨by decide,by decide,Ne.symm hf.2.1,by decide⟩
theorem Ed.wN(E:Ed lead first W N broken tail):∀x,(N++(QE broken++tail)).head?=some x->x≠first/\ins x=false:=by
 intro x hx;rcases E.n with rfl|⟨h1,h2⟩
 ·rw[tE]at hx;exact⟨(E.behind x hx).2.2.1,(E.behind x hx).2.1⟩
 ·rw[List.head?_append,h2.hd]at hx;cases hx;exact⟨Ne.symm h1,by decide⟩
theorem Ed.QdG(E:Ed lead first W N broken tail)(R:List Nat):(W++R).head?=some first:=by rw[List.head?_append,E.w.hd];rfl
theorem Ed.rows(E:Ed lead first W N broken tail):rle [] (JM lead W N broken tail)=(lead.map fun c=>(c,1))++(rle [] W++(rle [] N++(rle [] (QE broken)++rle [] tail))):=by
 have hf:=Qaa first E.f;unfold JM;rw[Up,wM lead E.ld,Up,Up,Up]
 ·intro x hx hx2;unfold QE at hx;have ht:=(XS tail E.tl).2.2.2 x hx2;rcases E.br with rfl|⟨k,b,hk,rfl,hb⟩
  ·cases hx
  ·rw[if_neg (by simp)]at hx;have hxb:x=b:=by
    rw[List.getLast?_cons,List.getLast?_replicate]at hx;simp at hx;exact hx.symm
   subst hxb;have:x=57\/x=90\/x=42:=by
    rcases hb with h|⟨h,h2|h2,_⟩
    ·exact .inl h
    ·exact .inr (.inl (h.trans h2))
    ·exact .inr (.inr (h.trans h2))
   rcases this with rfl|rfl|rfl<;>exact absurd ht (by decide)
 ·intro x hx hx2;have hb:=E.behind x hx2;rcases E.n with rfl|⟨h1,h2⟩
  ·cases hx
  ·rcases h2.last hx with z|z
   ·exact hb.1 z
   ·rw[hb.2.1]at z;cases z
 ·intro x hx hx2;have hb:=E.wN x hx2;rcases E.w.last hx with z|z
  ·exact hb.1 z
  ·rw[hb.2]at z;cases z
 ·intro x hx hx2;rw[E.QdG]at hx2;cases hx2;have hl:=E.ld;simp only[List.mem_cons,List.not_mem_nil,or_false]at hl;have a1:lead=[43]\/lead=[45]\/lead=[36]\/lead=[43,36]\/lead=[45,36]\/lead=[]:=by rcases hl with h|h|h|h|h|h<;>simp[h]
  rcases a1 with rfl|rfl|rfl|rfl|rfl|rfl
  ·cases hx;exact absurd (E.l1 (.inl rfl)) (by decide)
  ·cases hx;exact absurd (E.l1 (.inr rfl)) (by decide)
  ·cases hx;exact absurd (E.l2 rfl) (by decide)
  ·cases hx;exact absurd (E.l2 rfl) (by decide)
  ·cases hx;exact absurd (E.l2 rfl) (by decide)
  ·cases hx
end
section
variable {lead W N broken tail:List Nat}{first:Nat}
theorem Ed.QdH(E:Ed lead first W N broken tail)(R:List Rw):Zx ((lead.map fun c=>(c,1))++(rle [] W++R))=(lead,rle [] W++R):=by
 have hf:=Qaa first E.f;obtain⟨n,r,e,hall,hcn⟩:=E.w.rows;have hfl:first∈([43,45,36]:List Nat)->Jk ((first,n+1)::(r++R))=true:=fun h=>by
  have h2:=E.fl h;rw[←hcn,e]at h2;rw[e]at hall;exact wL hf.1 R hall h2
 rw[e,tD];have g2:∀ld:List Nat,(first=36->Jk ((first,n+1)::(r++R))=true)->JW [[36]] ((first,n+1)::(r++R)) ld=(ld,(first,n+1)::(r++R)):=fun ld h=>by
  show(if(([36]:List Nat).contains first&& !Jk ((first,n+1)::(r++R)))=true then _ else _)=_
  by_cases z:first=36
  ·rw[h z];simp;rfl
  ·have:([36]:List Nat).contains first=false:=by simpa using z
   rw[this];rfl
 have g1:∀ld:List Nat,JW [[43,45],[36]] ((first,n+1)::(r++R)) ld=(ld,(first,n+1)::(r++R)):=fun ld=>by
  show(if(([43,45]:List Nat).contains first&& !Jk ((first,n+1)::(r++R)))=true then _ else _)=_;rw[if_neg]
  ·exact g2 ld fun z=>hfl (by rw[z];decide)
  ·by_cases z:first=43\/first=45
   ·rw[hfl (by rcases z with z|z<;>rw[z]<;>decide)];simp
   ·have:([43,45]:List Nat).contains first=false:=by simpa using z
    rw[this,Bool.false_and]
    decide
 have hl:=E.ld;simp only[List.mem_cons,List.not_mem_nil,or_false]at hl;have g36:first=36->Jk ((first,n+1)::(r++R))=true:=fun z=>hfl (by rw[z];decide);have step2:∀(ld:List Nat),first≠36->JW [[36]] ((36,1)::(first,n+1)::(r++R)) ld=(ld++[36],(first,n+1)::(r++R)):=fun ld h=>by
  show(if(([36]:List Nat).contains 36&& !Jk ((36,1)::(first,n+1)::(r++R)))=true then _ else _)=_;rw[YA hf.1 _ h];rfl
 have step1:∀(c:Nat)(s m:Nat)(r':List Rw),(c=43\/c=45)->ins s=false->s≠c->JW [[43,45],[36]] ((c,1)::(s,m)::r') []=JW [[36]] ((s,m)::r') [c]:=fun c s m r' hc hs h=>by
  show(if(([43,45]:List Nat).contains c&& !Jk ((c,1)::(s,m)::r'))=true then _ else _)=_;rw[YA hs _ h];rcases hc with rfl|rfl<;>rfl
 rcases hl with rfl|rfl|rfl|rfl|rfl|rfl
 ·exact g1 []
 ·show JW [[43,45],[36]] ((43,1)::(first,n+1)::(r++R)) []=_;rw[step1 43 _ _ _ (.inl rfl) hf.1 (fun z=>absurd (E.l1 (.inl z)) (by decide))];exact g2 _ g36
 ·show JW [[43,45],[36]] ((45,1)::(first,n+1)::(r++R)) []=_;rw[step1 45 _ _ _ (.inr rfl) hf.1 (fun z=>absurd (E.l1 (.inr z)) (by decide))];exact g2 _ g36
 ·show JW [[36]] ((36,1)::(first,n+1)::(r++R)) []=_;exact step2 [] fun z=>absurd (E.l2 z) (by decide)
 ·show JW [[43,45],[36]] ((43,1)::(36,1)::(first,n+1)::(r++R)) []=_;rw[step1 43 _ _ _ (.inl rfl) (by decide) (by decide)];exact step2 [43] fun z=>absurd (E.l2 z) (by decide)
 ·show JW [[43,45],[36]] ((45,1)::(36,1)::(first,n+1)::(r++R)) []=_;rw[step1 45 _ _ _ (.inr rfl) (by decide) (by decide)];exact step2 [45] fun z=>absurd (E.l2 z) (by decide)
theorem Qac{l:List Nat}{x:Rw}(h:(rle [] l).head?=some x):l.head?=some x.1:=by
 cases l with
 |nil=>cases h
 |cons c t=>
  obtain⟨n,r,e⟩:=Uq c t;rw[e]at h;cases h;rfl
theorem qI{a b:List Nat}{x:Rw}(h:(rle [] a++rle [] b).head?=some x):(a++b).head?=some x.1:=by
 cases a with
 |nil=>exact Qac h
 |cons c t=>
  obtain⟨n,r,e⟩:=Uq c t;rw[e]at h;cases h;rfl
theorem Ed.whole(E:Ed lead first W N broken tail):QP (rle [] W++(rle [] N++(rle [] (QE broken)++rle [] tail)))=([first],W.count first,N.count 57,rle [] (QE broken)++rle [] tail):=by
 have hf:=Qaa first E.f;obtain⟨n,r,e,hall,hcn⟩:=E.w.rows;have h1:QH first (rle [] W++(rle [] N++(rle [] (QE broken)++rle [] tail))) 0=(W.count first,rle [] N++(rle [] (QE broken)++rle [] tail)):=by
  rw[Yz _ _ _ hall,hcn,Nat.zero_add];intro x hx;refine E.wN x.1 ?_;rcases E.n with rfl|⟨_,h2⟩
  ·rw[tE];exact qI (a:=QE broken) (b:=tail) hx
  ·obtain⟨n',r',e',_⟩:=h2.rows;rw[e']at hx;cases hx;rw[List.head?_append,h2.hd];rfl
 have h2:QH 57 (rle [] N++(rle [] (QE broken)++rle [] tail)) 0=(N.count 57,rle [] (QE broken)++rle [] tail):=by
  have hN:(∀x∈rle [] N,x.1=57\/ins x.1=true)/\cnt 57 (rle [] N)=N.count 57:=by
   rcases E.n with rfl|⟨_,h2⟩
   ·exact⟨(fun x hx=>nomatch hx),rfl⟩
   ·obtain⟨n',r',e',ha,hc⟩:=h2.rows;exact⟨ha,hc⟩
  rw[Yz _ _ _ hN.1,hN.2,Nat.zero_add];intro x hx;have:=E.behind x.1 (qI hx);exact⟨this.1,this.2.1⟩
 have hc:([57,90,42,43,45,36]:List Nat).contains first=true:=List.contains_iff_mem.mpr E.f;rw[e,tD];rw[e,tD]at h1;show(if([57,90,42,43,45,36]:List Nat).contains first=true then _ else _)=_;rw[if_pos hc];show([first],(QH first _ 0).1,(QH 57 (QH first _ 0).2 0).1,(QH 57 (QH first _ 0).2 0).2)=_;rw[h1];show([first],W.count first,(QH 57 _ 0).1,(QH 57 _ 0).2)=_;rw[h2]
theorem Ed.wO(E:Ed lead first W N broken tail):Q4 (rle [] (QE broken)++rle [] tail) (if N.count 57=0 then[first]else[57])=(some broken.length,rle [] tail):=by
 rcases E.br with rfl|⟨k,b,hk,rfl,hb⟩
 ·show Q4 (rle [] tail) _=_;have ht:=(XS tail E.tl).2.1;cases e:rle [] tail with
  |nil=>rfl
  |cons x r=>
   obtain⟨c,n⟩:=x;have:=ht (c,n) (by rw[e];rfl);unfold Q4
   split
   ·rename_i heq;cases heq;exact absurd (show(46:Nat)∈([43,45,67,68]:List Nat)from this) (by decide)
   ·rfl
 ·have h46:b≠46:=by
   rcases hb with h|⟨h,h2|h2,_⟩
   ·rw[h];decide
   ·rw[h,h2];decide
   ·rw[h,h2];decide
  unfold QE;rw[if_neg (by simp),Qb2 h46];have e:∀pl:List Nat,Q4 ([(46,1),(b,k+1)]++rle [] tail) pl=if(1>1\/(b,k+1)::rle [] tail=[])then(none,[(46,1),(b,k+1)]++rle [] tail)else(if b≠57/\([b]≠pl\/([43,45,36]:List Nat).contains b=true)then(none,[(46,1),(b,k+1)]++rle [] tail)else(some (k+1),rle [] tail)):=fun pl=>rfl;rw[e];rw[if_neg (by simp),if_neg,tj];rintro⟨z1,z2⟩;rcases hb with h|⟨h,h2,h3⟩
  ·exact z1 h
  ·subst h3;rw[if_pos List.count_nil,h]at z2;rcases z2 with z2|z2
   ·exact z2 rfl
   ·rcases h2 with h2|h2<;>rw[h2]at z2<;>exact absurd z2 (by decide)
noncomputable def flo(first:Nat):Bool:=([43,45,36]:List Nat).contains first
theorem Ed.QdI(E:Ed lead first W N broken tail):Q7 (rle [] (JM lead W N broken tail))=some ⟨3,sgn lead first tail,W.count first+N.count 57-(if flo first=true then 1 else 0),broken.length⟩:=by
 have h1:=E.QdH (rle [] N++(rle [] (QE broken)++rle [] tail));rw[←E.rows]at h1;have h4:=(XS tail E.tl).1;have hs:=yZ first E.f lead E.ld tail E.tl E.l1 E.ts;have hm:¬ (flo first&&decide (W.count first<2))=true:=by
  intro z;rw[Bool.and_eq_true]at z;have:=E.fl (List.contains_iff_mem.mp z.1);have:=of_decide_eq_true z.2;omega
 have h18:¬ (W.count first+N.count 57-(if flo first=true then 1 else 0)+broken.length>18):=by
  have a:=E.w.cn;have b:N.count 57<=3:=by
   rcases E.n with rfl|⟨_,h⟩
   ·simp
   ·exact h.cn
  have c:broken.length<=3:=by
   rcases E.br with rfl|⟨k,b,hk,rfl,_⟩
   ·simp
   ·rw[tj];omega
  omega
 unfold Q7;rw[h1];dsimp only;rw[E.whole];dsimp only;rw[E.wO];dsimp only;rw[h4];show(if(flo first&&decide (W.count first<2))=true then none else if([lead.take 1,[first],tail].filter (Jt.contains ·)).length>1 then none else if W.count first+N.count 57-(if flo first=true then 1 else 0)+broken.length>18 then none else some (⟨3,(([lead.take 1,[first],tail].filter (Jt.contains ·)).length==1),W.count first+N.count 57-(if flo first=true then 1 else 0),broken.length⟩:Facts))=_;rw[if_neg hm,if_neg (by omega),if_neg h18,hs.2]
noncomputable def Qa7:List Nat:=[43,45,36,57,90,42,44,66,48,47,46,67,82,68]
theorem zO{x:Nat}(h:ins x=true):x∈Qa7:=(by decide:∀x∈([44,66,48,47]:List Nat),x∈Qa7) x (List.contains_iff_mem.mp h)
theorem Ed.sym(E:Ed lead first W N broken tail):∀x∈JM lead W N broken tail,x∈Qa7:=by
 intro x hx;have hfa:first∈Qa7:=by have h:∀f∈([57,90,42,43,45,36]:List Nat),f∈Qa7:=(by decide);exact h first E.f
 unfold JM at hx;rcases List.mem_append.mp hx with hx|hx
 ·have h:∀l∈([[],[43],[45],[36],[43,36],[45,36]]:List (List Nat)),∀x∈l,x∈Qa7:=by decide
  exact h lead E.ld x hx
 rcases List.mem_append.mp hx with hx|hx
 ·rcases E.w.all x hx with h|h
  ·rw[h];exact hfa
  ·exact zO h
 rcases List.mem_append.mp hx with hx|hx
 ·rcases E.n with rfl|⟨_,h2⟩
  ·cases hx
  ·rcases h2.all x hx with h|h
   ·rw[h];decide
   ·exact zO h
 rcases List.mem_append.mp hx with hx|hx
 ·unfold QE at hx;rcases E.br with rfl|⟨k,b,hk,rfl,hb⟩
  ·cases hx
  ·rw[if_neg (by simp)]at hx;rcases List.mem_cons.mp hx with rfl|hx
   ·decide
   ·rw[List.eq_of_mem_replicate hx];rcases hb with h|⟨h,_⟩
    ·rw[h];decide
    ·rw[h];exact hfa
 ·have h:∀l∈([[],[43],[45],[67,82],[68,66]]:List (List Nat)),∀x∈l,x∈Qa7:=by decide
  exact h tail E.tl x hx
theorem Qad:∀f∈wo,∀x∈f,x=57\/x=83\/x=86:=by decide
theorem Ed.Qae(E:Ed lead first W N broken tail):QQ (rle [] (JM lead W N broken tail))=none:=by
 have key:∃x∈JM lead W N broken tail,x≠57:=by
  unfold JM
  by_cases z:∃x∈lead++(W++(N++(QE broken++tail))),x≠57
  ·exact z
  ·exfalso;have all:∀x∈lead++(W++(N++(QE broken++tail))),x=57:=fun x hx=>Decidable.byContradiction fun q=>z ⟨x,hx,q⟩;have hl:lead=[]:=by
    cases e:lead with
    |nil=>rfl
    |cons a r=>
     have h:∀l∈([[],[43],[45],[36],[43,36],[45,36]]:List (List Nat)),∀x∈l,x≠57:=by decide
     have:=all a (uV _ (by rw[e];exact uX));exact absurd this (h lead E.ld a (by rw[e];exact uX))
   have hW:∀x∈W,x=57:=fun x hx=>all x (uU _ (uV _ hx));have hf:first=57:=hW first (List.mem_of_mem_head? E.w.hd);have hD:∀x∈QE broken++tail,x=57:=fun x hx=>all x (uU _ (uU _ (uU _ hx)));have hb:broken=[]:=by
    cases e:broken with
    |nil=>rfl
    |cons a r=>
     have:=hD 46 (uV _ (by unfold QE;rw[if_neg (by rw[e];simp)];exact uX));cases this
   have ht:tail=[]:=by
    cases e:tail with
    |nil=>rfl
    |cons a r=>
     have h:∀l∈([[],[43],[45],[67,82],[68,66]]:List (List Nat)),∀x∈l,x≠57:=by decide
     have:=hD a (uU _ (by rw[e];exact uX));exact absurd this (h tail E.tl a (by rw[e];exact uX))
   exact E.nn ⟨hf,hW,hl,hb,ht⟩
 obtain⟨x,hx,hne⟩:=key;have ha:=E.sym x hx;obtain⟨y,hy,e⟩:=Qb1 _ [] (.inl hx);unfold QQ;rw[if_neg];intro z;have:=Qad _ (List.contains_iff_mem.mp z) x (by rw[←e];exact List.mem_map_of_mem hy);rcases this with h|h|h
 ·exact hne h
 ·rw[h]at ha;exact absurd ha (by decide)
 ·rw[h]at ha;exact absurd ha (by decide)
theorem Ed.Qb3(E:Ed lead first W N broken tail):Jo (rle [] (JM lead W N broken tail))=none:=by
 unfold Jo
 split
 ·rename_i c n heq;have hm:c∈JM lead W N broken tail:=by
   have:=wK (x:=(c,n)) (JM lead W N broken tail) [] (by rw[heq];exact List.mem_singleton.mpr rfl);exact this.resolve_right (by simp)
  have ha:=E.sym c hm;rw[if_pos];refine .inl ⟨fun z=>?_,fun z=>?_⟩
  ·rw[z]at ha;exact absurd ha (by decide)
  ·rw[z]at ha;exact absurd ha (by decide)
 ·rfl
theorem Ed.QeX(E:Ed lead first W N broken tail):40∉JM lead W N broken tail:=fun z=>absurd (E.sym 40 z) (by decide)
theorem Ed.pic(E:Ed lead first W N broken tail):QR (JM lead W N broken tail)=some ⟨3,sgn lead first tail,W.count first+N.count 57-(if flo first=true then 1 else 0),broken.length⟩:=by
 unfold QR;rw[Yy E.QeX];unfold Jz;rw[E.Qae,E.Qb3,E.QdI]
end
open K02 PySem.NumText
noncomputable def un(rows:List Rw):List Nat:=rows.flatMap fun x=>List.replicate x.2 x.1
theorem qJ(a b:List Rw):un (a++b)=un a++un b:=List.flatMap_append
theorem zP(c n:Nat):un [(c,n)]=List.replicate n c:=by simp[un]
theorem QdJ(rows:List Rw)(c n:Nat):un (QK rows c n)=un rows++List.replicate n c:=by
 rcases Jf rows with rfl|⟨r,c',m,rfl⟩
 ·rw[VI,zP];rfl
 ·by_cases h:c'=c
  ·subst h;rw[JB,qJ,qJ,zP,zP,tq,List.replicate_append_replicate,Nat.add_comm]
  ·rw[Jm h,qJ (r++[(c',m)]),zP]
theorem QdK(l:List Nat):∀rows,un (rle rows l)=un rows++l:=by
 induction l with
 |nil=>intro rows;show un rows=_;rw[tF]
 |cons c t ih=>
  intro rows;show un (rle (QK rows c 1) t)=_;rw[ih,QdJ,tq];rfl
theorem jQ(l:List Nat):un (rle [] l)=l:=by rw[QdK];rfl
noncomputable def jn(c:Nat):Bool:= !([83,86]:List Nat).contains c
noncomputable def szR(rows:List Rw):Nat:=((rows.filter fun x=>jn x.1).map (·.2)).sum
theorem jR(a b:List Rw):szR (a++b)=szR a+szR b:=by simp[szR]
theorem Ur(c n:Nat):szR [(c,n)]=if jn c=true then n else 0:=by
 unfold szR;rw[List.filter_cons]
 split<;>simp
theorem Qb4(rows:List Rw)(c n:Nat):szR (QK rows c n)=szR rows+if jn c=true then n else 0:=by
 rcases Jf rows with rfl|⟨r,c',m,rfl⟩
 ·rw[VI,Ur];simp[szR]
 ·by_cases h:c'=c
  ·subst h;rw[JB,jR,jR,Ur,Ur]
   split<;>omega
  ·rw[Jm h,jR (r++[(c',m)]),Ur]
theorem Qb5(l:List Nat):∀rows,szR (rle rows l)=szR rows+(l.filter jn).length:=by
 induction l with
 |nil=>intro rows;rfl
 |cons c t ih=>
  intro rows;show szR (rle (QK rows c 1) t)=_;rw[ih,Qb4,List.filter_cons]
  split<;>simp<;>omega
theorem Qaf(l:List Nat):szR (rle [] l)=(l.filter jn).length:=by rw[Qb5];simp[szR]
noncomputable def Pos(n:Nat)(rows:List Rw):Prop:=∀x∈rows,1<=x.2/\x.2<=n/\x.1≠40
theorem Qb6{n:Nat}{rows:List Rw}{c:Nat}(hp:Pos n rows)(hc:c≠40):Pos (n+1) (QK rows c 1):=by
 rcases Jf rows with rfl|⟨r,c',m,rfl⟩
 ·rw[VI];intro x hx;rw[List.mem_singleton.mp hx];exact⟨uQ _,by simp,hc⟩
 ·by_cases h:c'=c
  ·subst h;rw[JB];intro x hx;rcases List.mem_append.mp hx with hx|hx
   ·obtain⟨h1,h2,h3⟩:=hp x (uV _ hx);exact⟨h1,by omega,h3⟩
   ·rw[List.mem_singleton.mp hx];obtain⟨h1,h2,h3⟩:=hp (c',m) (by simp);exact⟨by simp,by simp at h2 ⊢;omega,hc⟩
  ·rw[Jm h];intro x hx;rcases List.mem_append.mp hx with hx|hx
   ·obtain⟨h1,h2,h3⟩:=hp x hx;exact⟨h1,by omega,h3⟩
   ·rw[List.mem_singleton.mp hx];exact⟨uQ _,by simp,hc⟩
theorem Qb7(l:List Nat):∀(n:Nat)(rows:List Rw),Pos n rows->40∉l->Pos (n+l.length) (rle rows l):=by
 induction l with
 |nil=>intro n rows h _;exact h
 |cons c t ih=>
  intro n rows h h40;have:=ih (n+1) (QK rows c 1) (Qb6 h fun z=>h40 (by rw[z];exact uX)) fun z=>h40 (uW _ z);have e:n+(c::t).length=n+1+t.length:=by simp;omega
  rw[e];exact this
theorem Qag{l:List Nat}(h:40∉l):Pos l.length (rle [] l):=by
 have:=Qb7 l 0 [] (fun x hx=>absurd hx (by simp)) h;rw[Nat.zero_add]at this;exact this
end K04
namespace L2
open PySem PySem.Spec PyProof.Rows
open Builtin Builtin.Str
structure Bag(K:PySem.W.Frag)(H:Hp)(a t r:Addr)(ns:List Int)(c:Int):Prop where
 sq:SqL K H a (ns.map V.int)
 tw:∃rs,TownAt H t r c rs
 nat:a≠t
 nar:a≠r
 ln:ns.length<=63
section
variable {K:PySem.W.Frag}{H H':Hp}{a t r:Addr}{ns:List Int}{c c':Int}
theorem Bag.drawn(B:Bag K H a t r ns c)(A:Apart t r H H'){rs:List (Key × V)}(T:TownAt H' t r c' rs):Bag K H' a t r ns c':=
 ⟨A.seq B.sq B.nat B.nar,⟨rs,T⟩,B.nat,B.nar,B.ln⟩
theorem Bag.same(B:Bag K H a t r ns c)(e:Qo H H'):Bag K H' a t r ns c:=by
 obtain⟨rs,T⟩:=B.tw;exact⟨(Apart.of e).seq B.sq B.nat B.nar,⟨rs,T.same e⟩,B.nat,B.nar,B.ln⟩
theorem Bag.draw{σ:St}{i j:Nat}{n:Int}{tn:TE}{Q:VK}{E:XK}(B:Bag K H a t r ns c)(hi:σ[i]? =some (some (.ref a)))(hj:σ[j]? =some (some (.ref t)))(hn:∀R:VK,R (.int n) H->tn σ H R) (h0:0<n) (h1:n<1000000) (hc:c<100000)
  (k:∀(d:Nat)(H':Hp),(d:Int)<n->Bag K H' a t r ns (c+1)->Apart t r H H'->Q (.int d) H'):V8 (WG K) [] E (Jn (Kt i) (Jn (Kt j) (Jn tn WV))) σ H Q:=by
 obtain⟨rs,T⟩:=B.tw;refine⟨_,hi,_,hj,hn _ ⟨a,t,r,ns,c,n,rs,rfl,B.sq,T,B.nat,B.nar,B.ln,hc,h0,h1,fun v rs' H' v0 v1 T' A'=>?_⟩⟩;obtain⟨d,rfl⟩:=Int.eq_ofNat_of_zero_le v0;exact k d H' v1 (B.drawn A' T') A'
theorem Bag.keep(B:Bag K H a t r ns c)(A:Apart t r H H'){b:Addr}{o:HO}(e:H b=some o)(n:∀kvs,o≠ .dK kvs):H' b=some o:=by
 obtain⟨rs,T⟩:=B.tw;refine A b o e (fun z=>?_) fun z=>?_
 ·rw[z,T.tw]at e;cases e;exact n _ rfl
 ·rw[z,T.rt]at e;cases e;exact n _ rfl
end
noncomputable def Its(z:Str):It:=⟨fun i _=>i<z.cps.size,fun i H x H'=>H'=H/\∃c,z.cps[i]? =some c/\x=.str ⟨#[c]⟩,fun i _=>z.cps.size<=i⟩
theorem Qah{P:Program}{w:World}{K:PySem.W.Frag}{tg:Expr}(it:Addr)(z:Str)(t:Tok):Turn P w K tg (Its z) [it] it (fun i h=>h.IsStrIter it "str_ascii_iterator" z t i) where
 mem:=by simp
 obj:=fun i h st b hb=>by
  have e:b=it:=by simpa using hb
  subst e;obtain⟨o,e,c,d⟩:=st;exact⟨o,e,fun v z=>by rw[d]at z;cases z⟩
 keep:=fun i h h' st k=>by
  obtain⟨o,e,c,d⟩:=st;exact⟨o,k it (by simp) o e,c,d⟩
 item:=by
  intro X hP hw hK hc i pins s σ H E I hf st hg;subst hP hw hK;obtain⟨f0,f1,f2,f3,f4,f5⟩:=hf it (by simp);have hg':i<z.cps.size:=hg;obtain⟨c,hcs⟩:∃c,z.cps[i]? =some c:=⟨z.cps[i],by simp[hg']⟩;refine wpAny_pyNext_ascii_item st hcs fun h' st' sb=>?_;have I1:Inv X pins σ H {s with heap:=h',toks:=s.toks+1}:=I.turned (fun b o hb e=>(sb.2 b hb).trans e) f0 f1 f3 f4 f5;obtain⟨o,e,cc,d⟩:=id st';exact⟨_,rfl,xu (s:={s with heap:=h',toks:=s.toks+1}) e cc d (by decide) ⟨.str ⟨#[c]⟩,H,I1,⟨_,rfl⟩,⟨rfl,c,hcs,rfl⟩,st',fun b hb=>(hf b hb).1⟩⟩
 done:=by
  intro X hP hw hK hc i pins s σ H E I hf st hg;subst hP hw hK;obtain⟨f0,f1,f2,f3,f4,f5⟩:=hf it (by simp);have hg':z.cps.size<=i:=hg;exact wpAny_pyNext_ascii_end (I.ok.hd hc) st (by simp[hg']) fun h' eb=>⟨rfl,I.turned (t':=s.toks) (fun b o hb e=>eb b o hb e) f0 f1 f3 f4 f5⟩
 self:=fun _ _ _ _ _ st h=>wpAny_pyIter_striter_ascii st h
section
variable {X:Cx}{tg:Expr}
noncomputable def Qen(tl:TE):TI:=fun σ H R=>tl σ H fun x H1=>∃z:Str,x=.str z/\z.cps.all (· <128)=true/\R (Its z) H1
theorem zQ{l:Expr}{tl:TE}(hl:PE X l tl):PI X tg l (Qen tl):=by
 intro pins s σ H R I h;refine thn (hl pins s σ H _ I h) fun v s1⟨x,H1,I1,r1,q1⟩=>?_;obtain⟨z,e,ha,q⟩:=q1;subst e;obtain⟨t,rfl⟩:=r1;refine wpAny_pyIter_ascii ha ?_;refine⟨s1.heap.objs.size,[s1.heap.objs.size],_,_,H1,rfl,I1.kept (t':=s1.toks) fun b o e=>Heap.get?_push_of_some _ e,Qah _ z t,⟨_,Heap.get?_push_size _ rfl,rfl,rfl⟩,fun b hb=>?_,q⟩;have e:b=s1.heap.objs.size:=by simpa using hb
 subst e;exact I1.kj (uQ _) (I1.hok.fresh (uQ _))
end
theorem zR{z:Str}{NB:List Str}{g:TG}{tt:TT}{te:TE}{tl:TE}{Q:VK}{σ:St}{H:Hp}(Pv:Nat->List V->Hp->Prop)(h:∀R:VK,R (.str z) H->tl σ H R) (ha:z.cps.all (· <128)=true) (h0:Pv 0 [] H) (hl:∀i vs H,i<=z.cps.size->Pv i vs H->vs.length<=i)
  (hs:∀i c vs H,z.cps[i]? =some c->Pv i vs H->g (.str ⟨#[c]⟩) (List.replicate NB.length none) H fun σ2 H2=>tt σ2 H2 fun b H3=>if b=true then te σ2 H3 fun v H4=>Pv (i+1) (vs++[v]) H4 else Pv (i+1) vs H3)
  (hd:∀vs H,Pv z.cps.size vs H->∀p,H p=none->Q (.ref p) (upd H p (.lst vs))) (hz:z.cps.size<sizeLine):YW NB (Qen tl) g tt te σ H Q:=by
 refine h _ ⟨z,rfl,ha,?_⟩;refine⟨fun i m vs H=>m=z.cps.size-i/\i<=z.cps.size/\Pv i vs H,⟨z.cps.size,by simp,tK _,h0⟩,?_⟩;rintro i m vs H ⟨rfl,hi,p⟩;have hv:=hl i vs H hi p
 by_cases hlt:i<z.cps.size
 ·refine .inr ⟨hlt,by omega,Pv (i+1),fun vs' H' p'=>⟨z.cps.size-(i+1),by omega,rfl,hlt,p'⟩,fun x H' y=>?_⟩;obtain⟨e,c,hc,e2⟩:=y;subst e e2;exact hs i c vs _ hc p
 ·have e:i=z.cps.size:=by omega
  subst e;exact .inl ⟨uQ _,hd vs H p⟩
noncomputable def wP(scope:Scope)(env:Env)(C:Addr):Env:=
 {scope:=relabel scope env,locals:=C,globals:=env.globals,cells:=Zk env.cells scope.names [],qual:=env.qual,func:=none,code:=env.code,frame:=env.frame,builtins:=env.builtins}
noncomputable abbrev ZA(X:Cx)(NB:List Str)(scope:Scope)(s:Shared)(H:Hp)(ex:List Addr):Cx:=
 {X with N:=NB,s₀:=s,H₀:=H,env:=wP scope X.env s.heap.objs.size,outer:=X.stack,ex:=ex,fn:=fun _=>false,pn:=[],xe:=fun _ _=>False}
structure BlkScopeF(NB FR:List Str)(scope:Scope):Prop where
 kind:scope.kind=.function
 nd:(NB++FR).Nodup
 nocell:∀y∈scope.names,y.2≠ .cell
 loc:∀y∈scope.names,y.2=.local->scope.names.lookup y.1=some .local
 nd2:(scope.names.map (·.1)).Nodup
 fr:∀y∈FR,(y,NameKind.free)∈scope.names
noncomputable def YB(n:Nat)(fi:List Nat)(wi:TI)(g:TG)(tt:TT)(te:TE):TE:=fun σ H Q=>wi σ H fun J H1=>∃fv:List V,fi.map (fun i=>σ[i]?)=fv.map (fun v=>some (some v))/\∃W:Nat->Nat->List V->Hp->Prop,(∃m,W 0 m [] H1)/\∀i m vs H,W i m vs H->
 (J.stop i H/\∀p,H p=none->Q (.ref p) (upd H p (.lst vs)))\/(J.go i H/\vs.length<sizeLine/\∃N:List V->Hp->Prop,(∀vs' H',N vs' H'->∃m',m'<m/\W (i+1) m' vs' H')/\
  ∀x H',J.yld i H x H'->g x (List.replicate n none++fv.map some) H' fun σ2 H2=>σ2.drop n=fv.map some/\tt σ2 H2 fun b H3=>if b=true then te σ2 H3 fun v H4=>N (vs++[v]) H4 else N vs H3)
noncomputable def reF(env:Env)(x:Str × NameKind):Str × NameKind:=if(x.2==NameKind.free&&env.scope.kind==.function&&env.kindOf x.1==some .cell)then(x.1,NameKind.cell)else(x.1,x.2)
theorem zS(env:Env){x:Str × NameKind}{y:Str}(h:y≠x.1)(l:List (Str × NameKind)):(reF env x::l).lookup y=l.lookup y:=by
 have hb:(y==x.1)=false:=beq_eq_false_iff_ne.mpr h;unfold reF
 split<;>rw[List.lookup_cons,hb]
theorem qK{env:Env}{scope:Scope}{y:Str}(nd:(scope.names.map (·.1)).Nodup)(h:(y,NameKind.free)∈scope.names)(hk:(env.scope.kind==.function)=true)(hc:env.scope.names.lookup y=some .cell):(relabel scope env).names.lookup y=some .cell:=by
 have key:∀l:List (Str × NameKind),(l.map (·.1)).Nodup->(y,NameKind.free)∈l->(l.map (reF env)).lookup y=some .cell:=by
  intro l
  induction l with
  |nil=>intro _ h;cases h
  |cons z r ih=>
   intro nd h;rw[tH,List.nodup_cons]at nd;rw[tH];rcases List.mem_cons.mp h with h|h
   ·subst h;have e:(env.kindOf y==some NameKind.cell)=true:=by rw[show env.kindOf y=env.scope.names.lookup y from rfl,hc];rfl
    have e2:reF env (y,NameKind.free)=(y,NameKind.cell):=by unfold reF;rw[if_pos (by rw[hk,e];rfl)]
    rw[e2,List.lookup_cons,beq_self_eq_true]
   ·have hne:y≠z.1:=fun q=>nd.1 (by rw[←q];exact List.mem_map.mpr ⟨_,h,rfl⟩);rw[zS env hne];exact ih nd.2 h
 exact key scope.names nd h
theorem qL{env:Env}{scope:Scope}{y:Str}(nc:∀y∈scope.names,y.2≠ .cell) (h:(relabel scope env).names.lookup y=some .cell\/(relabel scope env).names.lookup y=some .free):(y,NameKind.free)∈scope.names:=by
 have key:∀l:List (Str × NameKind),(∀y∈l,y.2≠ .cell)->((l.map (reF env)).lookup y=some .cell\/(l.map (reF env)).lookup y=some .free)->(y,NameKind.free)∈l:=by
  intro l
  induction l with
  |nil=>intro _ h;rcases h with h|h<;>simp at h
  |cons z r ih=>
   intro nc h;have hk:z.2≠ .cell:=nc z uX;rw[tH]at h
   by_cases hn:y=z.1
   ·obtain⟨n,k⟩:=z;have hn:y=n:=hn;subst hn;have hf:k=.free:=by
     cases k with
     |cell=>exact absurd rfl hk
     |free=>rfl
     |_=>
      have e2:∀q:NameKind,(q==NameKind.free)=false->reF env (y,q)=(y,q):=fun q hq=>by unfold reF;rw[if_neg (by rw[show((y,q).2==NameKind.free)=false from hq];simp)]
      rw[e2 _ rfl,List.lookup_cons,beq_self_eq_true]at h;rcases h with h|h<;>cases h
    rw[hf];exact uX
   ·rw[zS env hn]at h;exact uW _ (ih (fun y hy=>nc y (uW _ hy)) h)
 exact key scope.names nc h
theorem Kc:∀(l:List (Str × NameKind))(n:Nat)(acc:List (Str × Addr)),(∀y∈l,y.2≠ .cell)->cellsFrom n l acc=acc
 |[],_,_,_=>rfl
 |(x,k)::r,n,acc,h=>by
  have hk:(k==NameKind.cell)=false:=beq_eq_false_iff_ne.mpr (h (x,k) uX);unfold cellsFrom;rw[hk];exact Kc r n acc fun y hy=>h y (uW _ hy)
theorem Kd:∀(l:List (Str × NameKind))(h:Heap),(∀y∈l,y.2≠ .cell)->pushCells h l=h
 |[],_,_=>rfl
 |(x,k)::r,h,hn=>by
  have hk:(k==NameKind.cell)=false:=beq_eq_false_iff_ne.mpr (hn (x,k) uX);unfold pushCells;rw[hk];exact Kd r h fun y hy=>hn y (uW _ hy)
theorem VJ{M:Model}{A:Around}{E:Value->Shared->Prop}{s:Shared}{scope:Scope}{globals:Addr}{qual:Str}{env:Env}{cl:List (Str × Addr)}{Q:Env->Shared->Prop}(hk:scope.kind=.function)(hn:∀y∈scope.names,y.2≠ .cell)
  (hQ:∀cenv s',cenv={scope:=scope,locals:=s.heap.objs.size,globals:=globals,cells:=cl,qual:=qual,func:=none,code:=env.code,frame:=env.frame,builtins:=env.builtins}->
   InCall s s.heap.objs.size (fun _=>none) s'->Q cenv s'):
  wpAny M A (newFunctionEnv scope globals cl [] qual none .none (some env)) Q E s:=by
 simp only[newFunctionEnv,Option.isSome_some,if_true];refine wpAny_bind (wpAny_alloc ?_);refine wpAny_bind (wpAny_layCells _ (fun name kind cells=>by cases hkc:kind==NameKind.cell<;>simp[hkc]) _ _ _ _ ?_);rw[Kc _ _ _ hn,Kd _ _ hn];refine wpAny_bind (wpAny_pure (wpAny_pure (hQ _ _ rfl ?_)));exact⟨⟨_,_,rfl⟩,Heap.Ns.new s.heap (.type "dict"),fun b o e=>Heap.get?_push_of_some _ e,uQ _⟩
section
variable {X:Cx}
theorem VL{elt tg iter:Expr}{ifs:List Expr}{scope:Scope}{pos:Pos}{NB FR:List Str}{fi:List Nat}{wi:TI}{g:TG}{tt:TT}{te:TE}(hc:X.calm=true)(S:BlkScopeF NB FR scope)(hfree:Qa3 scope X.env.scope=true)(hfi:fi.map (fun i=>X.N[i]?)=FR.map some) (hi:PI X tg iter wi)
  (hg:∀s H ex,PG (ZA X (NB++FR) scope s H ex) tg g) (ht:∀s H ex,PTs (ZA X (NB++FR) scope s H ex) ifs tt) (he:∀s H ex,PE (ZA X (NB++FR) scope s H ex) elt te)
  (hs:∀x,foldedSetIterable iter X.env x=pure x:=by intro _;rfl):PE X (.ListComp elt [⟨tg,iter,ifs,0⟩] scope pos) (YB NB.length fi wi g tt te):=by
 intro pins s σ H Q I h;have hfc:∀y∈scope.names,y.2=.free->X.env.scope.names.lookup y.1=some .cell:=k8 hfree;have hasF:∀y∈scope.names,y.2=.free->∃c,X.env.cells.lookup y.1=some c:=fun y hy e=>I.ok.has y.1 (.inl (hfc y hy e));have clook:∀y c,(Zk X.env.cells scope.names []).lookup y=some c->X.env.cells.lookup y=some c:=fun y c e=>qm scope.names [] hasF (fun z=>nomatch z) e;rw[eval_ListComp];refine wpAny_comprehension_free (use:=none) (cl:=Zk X.env.cells scope.names []) rfl hs (KI hasF) S.kind S.loc (thn (hi pins s σ H _ I h) fun v s1 h1=>thn h1 fun itv s2 h2=>?_);obtain⟨it,fp,tn,J,H2,e,I2,T,st2,f2,fv,hfv,W,⟨m0,w0⟩,turn⟩:=h2;subst e;refine wpAny_newObj_type ?_;have up2:∀b o,s2.heap.get? b=some o->(s2.heap.push {cls:=.type "list",data:=.seq ([]:List Value).toArray}).get? b=some o:=fun b o e=>Heap.get?_push_of_some _ e;have I3:Inv X pins σ H2 {s2 with heap:=s2.heap.push {cls:=.type "list",data:=.seq ([]:List Value).toArray}}:=I2.kept (t':=s2.toks) up2;have st3:tn 0 (s2.heap.push {cls:=.type "list",data:=.seq ([]:List Value).toArray}):=T.keep _ _ _ st2 fun b _ o e=>up2 b o e;have hD3:(s2.heap.push {cls:=.type "list",data:=.seq ([]:List Value).toArray}).get? s2.heap.objs.size=some (X6 []):=Heap.get?_push_size _ rfl;have hD2:H2 s2.heap.objs.size=none:=I2.hok.fresh (uQ _);have lt2:∀b o,s2.heap.get? b=some o->b≠s2.heap.objs.size:=fun b o e=>Nat.ne_of_lt (Heap.lt_size e);have fpO:∀b∈fp,∃o,s2.heap.get? b=some o:=fun b hb=>let ⟨o,e,_⟩:=T.obj _ _ st2 b hb;⟨o,e⟩;have hDs0:X.s₀.heap.objs.size<=s2.heap.objs.size:=I2.sz;have hDL:s2.heap.objs.size≠X.env.locals:=Nat.ne_of_gt I2.lt;have hDC:∀x c,X.env.cells.lookup x=some c->c≠s2.heap.objs.size:=fun x c e=>let ⟨v,o,e1,_⟩:=I2.cell x c e;lt2 c o e1;have hDp:∀p∈X.pn++pins,p.1≠s2.heap.objs.size:=fun p hp=>lt2 p.1 _ (I2.pin p hp).1;have hDf:s2.heap.objs.size∉frs X.stack:=fun z=>let ⟨o,e,_⟩:=(I2.stack.mem z).2;lt2 _ o e rfl;generalize hS3:({s2 with heap:=s2.heap.push {cls:=.type "list",data:=.seq ([]:List Value).toArray}}:Shared)=s3 at I3 ⊢;have hh3:s3.heap=s2.heap.push {cls:=.type "list",data:=.seq ([]:List Value).toArray}:=by rw[←hS3]
 rw[←hh3]at st3 hD3 up2;generalize s2.heap.objs.size=D at hD3 hD2 lt2 hDs0 hDL hDC hDp hDf ⊢;refine VJ S.kind S.nocell fun cenv s4 hce x4=>?_;subst hce;have lt3:∀b o,s3.heap.get? b=some o->b<s3.heap.objs.size:=fun b o e=>Heap.lt_size e;have fp3:∀b∈fp,b<s3.heap.objs.size:=fun b hb=>let ⟨o,e⟩:=fpO b hb;lt3 b o (up2 b o e);have dl3:D<s3.heap.objs.size:=lt3 D _ hD3;have DfpN:∀b∈fp,b≠D:=fun b hb=>let ⟨o,e⟩:=fpO b hb;lt2 b o e;obtain⟨h4,tk4,rfl,hk4⟩:=x4.done;have bsN:∀b o,X.base.get? b=some o->b∉D::fp:=fun b o e hb=>by
  rcases List.mem_cons.mp hb with rfl|hb
  ·exact absurd (Nat.lt_of_lt_of_le (Heap.lt_size (I2.ok.bs b o e).1) hDs0) (tL _)
  ·obtain⟨_,_,_,f3,_⟩:=f2 b hb;rcases f3 with z|z
   ·exact I2.ok.noex b o e z
   ·exact absurd (Nat.lt_of_lt_of_le (Heap.lt_size (I2.ok.bs b o e).1) z) (tL _)
 have exF:∀b∈D::fp,b∉frs X.stack:=fun b hb hf=>by
  rcases List.mem_cons.mp hb with rfl|hb
  ·exact hDf hf
  ·obtain⟨_,f1,f2',_⟩:=f2 b hb;rcases List.mem_cons.mp (I2.Yp b hf)with z|z
   ·exact f1 z
   ·exact f2' z
 have ccl:∀y c,(Zk X.env.cells scope.names []).lookup y=some c->(∃v,s3.heap.IsCell c v)/\H2 c=none/\c≠D/\∀b∈fp,c≠b:=fun y c e=>by
  have e':=clook y c e;exact⟨I3.cell y c e',I3.freeC y c e',hDC y c e',fun b hb=>(f2 b hb).2.2.2.2.1 y c e'⟩
 have clt:∀y c,(Zk X.env.cells scope.names []).lookup y=some c->c<s3.heap.objs.size:=fun y c e=>let ⟨⟨v,o,ho,_⟩,_⟩:=ccl y c e;lt3 c o ho;have exLt:∀b∈D::fp,b<s3.heap.objs.size:=fun b hb=>by
  rcases List.mem_cons.mp hb with rfl|hb
  ·exact dl3
  ·exact fp3 b hb
 have okB:(ZA X (NB++FR) scope s3 H2 (D::fp)).Ok:=by
  refine⟨I3.ok.mod,S.kind,I3.ok.glob,I3.ok.blt,uQ _,fun y z c h1 h2=>?_,fun y hy=>?_,(fun y c z _=>nomatch z),I3.ok.hd,I3.ok.frames,.inl rfl,fun b hb=>⟨Nat.ne_of_lt (exLt b hb),fun y c e z=>?_⟩,I3.bs,Nat.le_trans I3.ok.bsz I3.sz,bsN,exF,I3.stack,I3.W9⟩
  ·exact I3.ok.inj y z c (clook y c h1) (clook z c h2)
  ·exact YV scope.names [] (.inr (qL S.nocell hy))
  ·obtain⟨_,_,n1,n2⟩:=ccl y c e;rcases List.mem_cons.mp hb with q|q
   ·exact n1 (z.trans q)
   ·exact n2 b q z
 have hlen0:(List.replicate NB.length (none:Option V)++fv.map some).length=(NB++FR).length:=by
  have h1:=congrArg List.length hfv;have h2:=congrArg List.length hfi;simp only[uN]at h1 h2;rw[uM,uM,tj,uN];omega
 have rep:∀(j:Nat)(v:V),(List.replicate NB.length (none:Option V)++fv.map some)[j]? =some (some v)->∃k,j=NB.length+k/\fv[k]? =some v:=fun j v z=>by
  rw[List.getElem?_append]at z
  split at z
  ·rw[List.getElem?_replicate]at z
   split at z<;>cases z
  ·rename_i hj;rw[tj]at hj z;refine⟨j-NB.length,by omega,?_⟩;rw[u5]at z;cases e:fv[j-NB.length]? with
   |none=>rw[e]at z;cases z
   |some y=>rw[e]at z;exact congrArg some (uR (uR z))
 have fvAt:∀(k:Nat)(v:V)(y:Str),fv[k]? =some v->FR[k]? =some y->∃i,X.N[i]? =some y/\σ[i]? =some (some v):=fun k v y h1 h2=>by
  have a1:=congrArg (fun l=>l[k]?) hfv;have a2:=congrArg (fun l=>l[k]?) hfi;simp only[u5,h1,h2]at a1 a2;cases e:fi[k]? with
  |none=>rw[e]at a1;cases a1
  |some i=>
   rw[e]at a1 a2;exact⟨i,uR a2,uR a1⟩
 have IB:Inv (ZA X (NB++FR) scope s3 H2 (D::fp)) [(D,X6 [])] (List.replicate NB.length none++fv.map some) H2 {s3 with heap:=h4,toks:=tk4}:=by
  refine⟨okB,rfl,I3.bare,Un.kept hk4,⟨_,x4.ns,fun i y v h1 h2 h3=>?_⟩,fun y c h=>let ⟨⟨v,o,ho,hd⟩,_⟩:=ccl y c h;⟨v,o,hk4 _ _ ho,hd⟩,I3.hok.fresh (uQ _),fun y c h=>(ccl y c h).2.1,fun p hp=>?_,I3.hok.kept hk4,hlen0⟩
  ·obtain⟨k,rfl,hk⟩:=rep i v h2;have hy:FR[k]? =some y:=by
    have h1:(NB++FR)[NB.length+k]? =some y:=h1;rw[List.getElem?_append_right (Nat.le_add_right _ _),Nat.add_sub_cancel_left]at h1;exact h1
   obtain⟨io,hN,hσ⟩:=fvAt k v y hk hy;have hfr:(y,NameKind.free)∈scope.names:=S.fr y (u6 hy);obtain⟨m,_,hl⟩:=I3.loc;obtain⟨u,r,l⟩:=hl io y v hN hσ (.inr (.inl (hfc _ hfr rfl)));refine⟨u,r,.inr ⟨.inl ?_,?_⟩⟩
   ·exact qK S.nd2 hfr (by show(X.env.scope.kind==.function)=true;rw[I3.ok.kind];rfl) (hfc _ hfr rfl)
   ·obtain⟨c,hc1⟩:=YV (cells:=X.env.cells) (x:=y) scope.names [] (.inr hfr);refine⟨c,hc1,?_⟩;have hc2:=clook y c hc1;rcases l with⟨hk,_⟩|⟨_,c',hc',o,ho,hd⟩
    ·have e1:=hfc _ hfr rfl;rw[show X.env.kindOf y=X.env.scope.names.lookup y from rfl]at hk;rw[hk]at e1;cases e1
    ·rw[hc2]at hc';cases hc';exact⟨o,hk4 _ _ ho,hd⟩
  obtain rfl:p=(D,X6 []):=by simpa using hp
  exact⟨hk4 _ _ hD3,hD2,Nat.ne_of_lt dl3,hDf,fun v z=>nomatch z⟩
 have stat:∀{H':Hp}{ys:List Value},(∀b∈fp,H' b=none)->∀b∈fp,kq (ZA X (NB++FR) scope s3 H2 (D::fp)) [(D,X6 ys)] H' b:=fun hn b hb=>
  ⟨hn b hb,Nat.ne_of_lt (fp3 b hb),exF b (uW _ hb),.inl (uW _ hb),fun y c e z=>(ccl y c e).2.2.2 b hb z,fun p hp=>by
    obtain rfl:p=(D,_):=by simpa using hp
    exact(DfpN b hb).symm⟩
 have st4:tn 0 h4:=T.keep _ _ _ st3 fun b _ o e=>hk4 b o e;have fr4:∀b∈fp,H2 b=none:=fun b hb=>(f2 b hb).1;have hcB:(ZA X (NB++FR) scope s3 H2 (D::fp)).calm=true:=hc;have loop:codeAny (model X.prog X.w) X.A (.compLoop (.ListComp elt [⟨tg,iter,ifs,0⟩] scope pos) 0 (.ref it) (.ref D) (wP scope X.env s3.heap.objs.size))
   (compPost (model X.prog X.w) X.A X.xe none (EP X pins σ Q) (.ref D) s3.heap.objs.size) {s3 with heap:=h4,toks:=tk4}:=by
  refine Vr (fun n s'=>∃i vs ys H',Inv (ZA X (NB++FR) scope s3 H2 (D::fp)) [(D,X6 ys)] (List.replicate NB.length none++fv.map some) H' s'/\Vals vs ys/\vs.length<=sizeLine/\tn i s'.heap/\(∀b∈fp,H' b=none)/\W i n vs H') ?_ m0 ⟨0,[],[],H2,IB,.nil,tK _,st4,fr4,w0⟩;rintro n s5 ⟨i,vs,ys,H5,I5,rv,hvl,st5,fr5,w5⟩;rcases turn i n vs H5 w5 with⟨stop,qn⟩|⟨go,hlt,N,hN,step⟩
  ·refine wpAny_mono (T.done (ZA X (NB++FR) scope s3 H2 (D::fp)) rfl rfl rfl hcB i _ s5 _ H5 (fun _ _=>False) I5 (stat fr5) st5 stop) (fun r s6⟨hr,I6⟩=>?_) (fun _ _ z=>z.elim);subst hr;obtain⟨m6,hn6,_⟩:=id I6.loc;refine⟨m6,hn6,fun h7 sb7=>?_⟩;have kp7:∀b o,b≠s3.heap.objs.size->s6.heap.get? b=some o->h7.get? b=some o:=fun b o hb e=>(sb7.2 b hb).trans e;have hC6:H5 s3.heap.objs.size=none:=I6.free;have un7:Un (frs X.stack) (D::fp) H2 H5 s3.heap h7:=by
    have u:=I6.base;refine⟨fun b o e n hb hx=>kp7 b o (Nat.ne_of_lt (Heap.lt_size e)) (u.keep b o e n hb hx),fun b o e n hb hx=>?_,u.free,fun b o e hx=>?_,u.WK,u.frzs,u.tbls⟩
    ·obtain⟨sl,q⟩:=u.slot b o e n hb hx;exact⟨sl,kp7 b _ (Nat.ne_of_lt (Heap.lt_size e)) q⟩
    ·obtain⟨o',q⟩:=u.there b o e hx;exact⟨o',kp7 b _ (Nat.ne_of_lt (Heap.lt_size e)) q⟩
   have hok7:HOk X.prog X.w H5 h7:=fun b u e=>(I6.hok b u e).kn (fun c w' hcc q=>kp7 c w' (by
    rintro rfl;rcases hcc with rfl|hcc
    ·rw[hC6]at e;cases e
    ·rw[hC6]at hcc;cases hcc) q) (fun _ q=>q) fun _ _ q=>q
   have I7:Inv X pins σ H5 {s6 with heap:=h7}:=I3.yc (s':={s6 with heap:=h7}) I6.os un7 hok7 I6.bare fun b hb=>by
    rcases List.mem_cons.mp hb with rfl|hb
    ·exact⟨.inr hDs0,hDL,hDC,hDp⟩
    ·obtain⟨_,f1,_,f3,f4,f5⟩:=f2 b hb;exact⟨f3,f1,f4,f5⟩
   obtain⟨eD,nD,_⟩:=I6.pin (D,X6 ys) (by simp);have nD':H5 D=none:=nD;have eD':h7.get? D=some (X6 ys):=kp7 D _ (Nat.ne_of_lt dl3) eD;have hD0:X.s₀.heap.get? D=none:=by
    cases q:X.s₀.heap.get? D with
    |none=>rfl
    |some o=>exact absurd (Nat.lt_of_lt_of_le (Heap.lt_size q) hDs0) (tL _)
   exact⟨.ref D,upd H5 D (.lst vs),I7.Qby nD' hD0 hDL hDC hDp ⟨hvl,ys,ys.length,rv,eD'⟩,rfl,qn D nD'⟩
  ·refine wpAny_mono (T.item (ZA X (NB++FR) scope s3 H2 (D::fp)) rfl rfl rfl hcB i _ s5 _ H5 (fun _ _=>False) I5 (stat fr5) st5 go) (fun r s6⟨u,hr,h6⟩=>?_) (fun _ _ z=>z.elim);subst hr;refine wpAny_mono h6 (fun _ s7⟨x,H7,I7,r7,y7,st7,fr7⟩=>?_) (fun _ _ z=>z.elim);have I7':=I7.pinned (stat fr7) (T.obj _ _ st7);refine wpAny_mono (hg s3 H2 (D::fp) _ s7 _ H7 x u _ I7' r7 (step x H7 y7)) (fun _ s8⟨σ8,H8,I8,hk8,q8⟩=>?_) (fun _ _ z=>z.elim);refine wpAny_mono (ht s3 H2 (D::fp) _ s8 σ8 H8 _ I8 q8) (fun ok s9⟨H9,I9,q9⟩=>?_) (fun _ _ z=>z.elim);have fpK:∀{σ':St}{H':Hp}{s':Shared},Inv (ZA X (NB++FR) scope s3 H2 (D::fp)) ([(D,X6 ys)]++Ve fp s7.heap) σ' H' s'->tn (i+1) s'.heap/\∀b∈fp,H' b=none:=fun J=>
    ⟨T.keep _ _ _ st7 fun b hb o e=>(J.pin (b,o) (uU _ (uU _ (JL hb e)))).1,fun b hb=>by
     obtain⟨o,e,d⟩:=T.obj _ _ st7 b hb;exact(J.pin (b,o) (uU _ (uU _ (JL hb e)))).2.1⟩
   have wk:∀{H':Hp}{s':Shared}{pl:List (Addr × Obj)},Inv (ZA X (NB++FR) scope s3 H2 (D::fp)) pl σ8 H' s'->Inv (ZA X (NB++FR) scope s3 H2 (D::fp)) pl (List.replicate NB.length none++fv.map some) H' s':=fun J=>
    J.weak (hlen0.trans J.len.symm) fun j v z=>by
     obtain⟨k,rfl,hk⟩:=rep j v z;have:=congrArg (fun l=>l[k]?) hk8;simp only[List.getElem?_drop,u5,hk]at this;exact this
   cases ok with
   |false=>
    rw[if_neg (by decide)]at q9;rw[if_neg (by decide)];obtain⟨m',hm,w9⟩:=hN vs H9 q9;obtain⟨t9,f9⟩:=fpK I9;exact⟨m',hm,i+1,vs,ys,H9,wk I9.Zn,rv,hvl,t9,f9,w9⟩
   |true=>
    rw[if_pos rfl]at q9;rw[if_pos rfl];refine wpAny_mono (he s3 H2 (D::fp) _ s9 σ8 H9 _ I9 q9) (fun y s10⟨v,H10,I10,rv10,q10⟩=>?_) (fun _ _ z=>z.elim);obtain⟨eD,nD,_,nf,_⟩:=I10.pin (D,X6 ys) (by simp);have hyl:=rv.length;refine append_at (hsz:=by show ys.toArray.size<=sizeLine;rw[tJ, ←hyl];exact hvl) eD fun h11 sb11 hD11=>?_;obtain⟨m',hm,w11⟩:=hN (vs++[v]) H10 q10;obtain⟨t10,f10⟩:=fpK I10;have I10u:=I10.Zn;have k11:∀b o,b≠D->s10.heap.get? b=some o->h11.get? b=some o:=fun b o hb e=>(sb11.2 b hb).trans e;have IE:Inv (ZA X (NB++FR) scope s3 H2 (D::fp)) [] σ8 H10 s10:=I10u.Xv fun p hp=>nomatch hp;have I11:Inv (ZA X (NB++FR) scope s3 H2 (D::fp)) [] σ8 H10 {s10 with heap:=h11}:=IE.turned (t':=s10.toks) k11 nD (Nat.ne_of_lt dl3) (.inl uX) (fun y' c e z=>(ccl y' c e).2.2.1 z) (fun p hp=>absurd (show p∈([]:List (Addr × Obj))from hp) (by simp));have eL:({cls:=.type "list",data:=.seq (ys.toArray.push y) (ys.length+1)}:Obj)=X6 (ys++[y]):=by
     show({cls:=.type "list",data:=.seq (ys.toArray.push y) (ys.length+1)}:Obj)={cls:=.type "list",data:=.seq (ys++[y]).toArray (ys++[y]).length};rw[uM,uS,List.push_toArray]
    refine⟨m',hm,i+1,vs++[v],ys++[y],H10,wk (I11.Xv fun p hp=>?_),rv.append (.cons rv10 .nil),by rw[uM,uS];exact hlt,T.keep _ _ _ t10 fun b hb o e=>k11 b o (DfpN b hb) e,f10,w11⟩;obtain rfl:p=(D,X6 (ys++[y])):=by simpa using hp
    exact⟨by rw[←eL];exact hD11,nD,Nat.ne_of_lt dl3,nf,fun v z=>nomatch z⟩
 exact codeAny_compStart_list loop (T.self _ 0 _ _ _ st4 loop)
end
section
variable {X:Cx}{pins:List (Addr × Obj)}{σ:List (Option V)}{H:Hp}{s:Shared}{h':Heap}
theorem Inv.wQ{t':Nat}{ch:List Addr}(I:Inv X pins σ H s)(hf:∀b∈ch,kq X pins H b) (k:∀b o,b∉ch->s.heap.get? b=some o->h'.get? b=some o):Inv X pins σ H {s with heap:=h',toks:=t'}:=by
 have nit:∀b u,H b=some u->b∉ch:=fun b u e z=>by rw[(hf b z).1]at e;cases e
 refine I.step (g':=s.gens) (d':=s.drawn) (ch:=ch) (fun b hb=>?_) (fun b o _ _ hc e _=>k b o hc e) (fun b o _ _ hc e _=>⟨o.slots,k b o hc e⟩) (fun _ _ _ _ n=>n) (fun b o hc e=>⟨o,k b o hc e⟩) (fun _ _ e=>e) (fun _ _ _ e=>e) (fun b ps e=>⟨#[],by rw[e];simp⟩) (fun m hm=>?_) (fun b u e=>?_) I.bare
 ·obtain⟨_,f1,_,f3,f4,f5⟩:=hf b hb;exact⟨f3,f1,f4,f5⟩
 ·obtain⟨o,es,ep,ho,r⟩:=hm;exact⟨o,es,ep,k _ o (fun z=>(hf _ z).2.1 rfl) ho,r⟩
 ·refine(I.hok b u e).kn (fun c v hc q=>k c v ?_ q) (fun _ q=>q) fun _ _ q=>q;rcases hc with z|z
  ·rw[z];exact nit b u e
  ·exact nit c _ z
theorem Inv.wR{t':Nat}{ch:List Addr}{T:Addr}{xs:List V}(I:Inv X pins σ H s)(hf:∀b∈ch,kq X pins H b) (k:∀b o,b∉ch->s.heap.get? b=some o->h'.get? b=some o) (hT:s.heap.objs.size<=T)
  (new:Jw X.prog X.w (upd H T (.tup xs)) h' T (.tup xs)):Inv X pins σ (upd H T (.tup xs)) {s with heap:=h',toks:=t'}:=by
 have hn:=I.hok.fresh hT;have nit:∀b u,H b=some u->b∉ch:=fun b u e z=>by rw[(hf b z).1]at e;cases e
 have nT:∀b o,H b=some o->upd H T (.tup xs) b=some o:=fun b o e=>by rw[Ql (Qv e hn)];exact e
 refine I.step (g':=s.gens) (d':=s.drawn) (ch:=ch) (fun b hb=>?_) (fun b o _ _ hc e _=>k b o hc e) (fun b o _ _ hc e _=>⟨o.slots,k b o hc e⟩) (fun b o _ e n=>?_) (fun b o hc e=>⟨o,k b o hc e⟩) (fun b ys e=>nT b _ e) (fun b o u e=>nT b _ e) (fun b ps e=>⟨#[],by rw[nT b _ e];simp⟩) (fun m hm=>?_) (fun b u e=>?_) I.bare
 ·obtain⟨_,f1,_,f3,f4,f5⟩:=hf b hb;exact⟨f3,f1,f4,f5⟩
 ·rw[Ql (fun z=>absurd (Heap.lt_size e) (by rw[z];exact Nat.not_lt.mpr hT))];exact n
 ·obtain⟨o,es,ep,ho,r⟩:=hm;exact⟨o,es,ep,k _ o (fun z=>(hf _ z).2.1 rfl) ho,r⟩
 ·by_cases hb:b=T
  ·subst hb;rw[Qd]at e;cases e;exact new
  ·rw[Ql hb]at e;refine(I.hok b u e).kn (fun c v hc q=>k c v ?_ q) (fun c q=>nT c _ q) fun c ys q=>nT c _ q;rcases hc with z|z
   ·rw[z];exact nit b u e
   ·exact nit c _ z
end
noncomputable def Ite(z:Str):It:=⟨fun i _=>i<z.cps.size,fun i H x H'=>∃p c,H p=none/\z.cps[i]? =some c/\x=.ref p/\H'=upd H p (.tup [.int (i:Nat),.str ⟨#[c]⟩]),fun i _=>z.cps.size<=i⟩
theorem xX{P:Program}{w:World}{K:PySem.W.Frag}{es:List Expr}{k:Nat}{pos:Pos}(e it:Addr)(hei:e≠it)(z:Str)(t:Tok):
  Turn P w K (.Tuple es k pos) (Ite z) [e,it] e (fun i h=>(∃old,IsEnum h e it (i:Nat) old)/\h.IsStrIter it "str_ascii_iterator" z t (min i z.cps.size)) where
 mem:=by simp
 obj:=fun i h st b hb=>by
  obtain⟨⟨old,he⟩,o,ho,hc,hd⟩:=st;rcases List.mem_cons.mp hb with rfl|hb
  ·exact⟨_,he,fun v q=>nomatch (show Data.fields _=Data.cell v from q)⟩
  ·obtain rfl:b=it:=by simpa using hb
   exact⟨o,ho,fun v q=>by rw[hd]at q;cases q⟩
 keep:=fun i h h' st kk=>by
  obtain⟨⟨old,he⟩,o,ho,r⟩:=st;exact⟨⟨old,kk e (by simp) _ he⟩,o,kk it (by simp) o ho,r⟩
 item:=by
  intro X hP hw hK hc i pins s σ H E I hf st hg;subst hP hw hK;obtain⟨⟨old,he⟩,hst⟩:=st;have hg':i<z.cps.size:=hg;rw[Nat.min_eq_left (Nat.le_of_lt hg')]at hst;have D:=Draws.strAscii (prog:=X.prog) (w:=X.w) (A:=X.A.in1) (I.ok.hd hc) it z t;refine wpAny_pyNext_enum_itemD D he hst hg' hei (by simpa using hei) fun x h1 tk hx ho st1 hT hsz hk=>⟨_,rfl,?_⟩;obtain⟨c,u,hcs,rfl⟩:=hx;refine wpAny_letOwnedTupleGo_enum ho fun h2 he2 hs2=>?_;have hTe:s.heap.objs.size≠e:=fun q=>absurd (Heap.lt_size he) (by rw[←q];exact tL _);refine⟨.ref s.heap.objs.size,upd H s.heap.objs.size (.tup [.int (i:Nat),.str ⟨#[c]⟩]),I.wR (ch:=[e,it]) hf (fun b o hb q=>?_) (uQ _) ?_,rfl,⟨_,c,I.hok.fresh (uQ _),hcs,rfl,rfl⟩,⟨⟨_,he2⟩,?_⟩,fun b hb=>?_⟩
  ·simp only[List.mem_cons,List.not_mem_nil,or_false,not_or]at hb;exact(hs2.2 b hb.1).trans (hk b o hb.1 hb.2 q)
  ·exact⟨by show 2<=sizeLine;decide,[.int (i:Nat) tk,.str ⟨#[c]⟩ u],.cons ⟨_,rfl⟩ (.cons ⟨_,rfl⟩ .nil),⟨_,(hs2.2 _ hTe).trans hT,rfl,_,rfl,rfl⟩⟩
  ·rw[Nat.min_eq_left (show i+1<=z.cps.size from hg')];obtain⟨o,ho1,r1⟩:=st1;exact⟨o,(hs2.2 it hei.symm).trans ho1,r1⟩
  ·have hlt:b<s.heap.objs.size:=by
    rcases List.mem_cons.mp hb with q|q
    ·rw[q];exact Heap.lt_size he
    ·obtain⟨o,ho1,_⟩:=hst;rw[show b=it by simpa using q];exact Heap.lt_size ho1
   rw[Ql (Nat.ne_of_lt hlt)];exact(hf b hb).1
 done:=by
  intro X hP hw hK hc i pins s σ H E I hf st hg;subst hP hw hK;obtain⟨⟨old,he⟩,hst⟩:=st;have hg':z.cps.size<=i:=hg;rw[Nat.min_eq_right hg']at hst;have D:=Draws.strAscii (prog:=X.prog) (w:=X.w) (A:=X.A.in1) (I.ok.hd hc) it z t;exact wpAny_pyNext_enum_endD D he hst fun h1 eb=>⟨rfl,I.wQ (t':=s.toks) (ch:=[e,it]) hf fun b o hb q=>eb b o (fun r=>hb (by simp[r])) q⟩
 self:=fun _ _ _ _ _ st h=>let ⟨⟨_,he⟩,_⟩:=st;wpAny_pyIter_enum he h
section
variable {X:Cx}
noncomputable def QdL(ta:TA):TI:=fun σ H R=>ta σ H fun vs H1=>∃z:Str,vs=[.str z]/\z.cps.all (· <128)=true/\R (Ite z) H1
theorem Qai{es:List Expr}{k:Nat}{tp:Pos}{a:Expr}{ta:TA}{p pos:Pos}(hg:Gl X "enumerate")(hm:X.mg "enumerate"=none)(ha:PA X [a] ta)(hs:starEach [a] X.env=[(false,eval a X.env)]:=by rfl):
  PI X (.Tuple es k tp) (.Call (.Name "enumerate" p) [a] [] pos) (QdL ta):=by
 intro pins s σ H R I h;refine Call_ (ZV I hg hm boot_enumerate (PyProof.Rows.callWith_type1 (thn (ha pos pins s σ H _ I h) fun us s1⟨vs,H1,I1,r1,z,e,hz,q⟩=>?_) hs rfl));subst e;obtain⟨u,rfl,t,rfl⟩:=vals1 r1;refine call_enumerate_str fun h1 he hst hsz hk=>?_;rw[show strIterType z="str_ascii_iterator" by unfold strIterType;rw[hz];rfl]at hst;refine wpAny_pyIter_enum (s:={s1 with heap:=h1}) he ?_;refine⟨_,[s1.heap.objs.size+1,s1.heap.objs.size],_,_,H1,rfl,I1.kept (t':=s1.toks) hk,xX _ _ (Nat.succ_ne_self _) z t,⟨⟨_,he⟩,by simpa using hst⟩,fun b hb=>?_,q⟩;have hb2:s1.heap.objs.size<=b:=by
  simp only[List.mem_cons,List.not_mem_nil,or_false]at hb;rcases hb with rfl|rfl
  ·exact Nat.le_succ _
  ·exact uQ _
 exact I1.kj hb2 (I1.hok.fresh hb2)
end
inductive KEnts (w:World):List DictEntry->List (Key × V)->Prop where
 |nil:KEnts w [] []
 |cons {h:Int} {x y:Str} {t u:Tok} {es:List DictEntry} {kvs:List (Key × V)} (e:h=QcX w (.inr x)) (r:KEnts w es kvs):KEnts w (⟨h,.str x t,.str y u⟩::es) ((Sum.inr x,.str y)::kvs)
theorem KEnts.pairs{P:Program}{w:World}{es:List DictEntry}{kvs:List (Key × V)}(h:KEnts w es kvs):∃vs,KV kvs vs/\Pairs (Ja P w) es vs/\vs.map (·.1)=kvs.map (·.1)/\∀e∈es,∃k,(Ja P w).is k e.key=true/\e.hash=QcX w k:=by
 induction h with
 |nil=>exact⟨[],.nil,.nil,rfl,fun e he=>by cases he⟩
 |@cons hh x y t u es kvs e r ih=>
  obtain⟨vs,h1,h2,h3,h4⟩:=ih;refine⟨(Sum.inr x,.str y u)::vs,.cons ⟨rfl,_,rfl⟩ h1,.cons (JH P w x t) rfl h2,by rw[tH,tH,h3],fun q hq=>?_⟩;rcases List.mem_cons.mp hq with rfl|hq
  ·exact⟨_,JH P w x t,e⟩
  ·exact h4 q hq
theorem wT{P:Program}{w:World}{K:PySem.W.Frag}{a:Addr}{es:Array DictEntry}{n:Nat}{kvs:List (Key × V)}(ne:(a==sysModules)=false)(l:K.lookup a=some ⟨.type "dict",none,.dict es n, #[]⟩)(h:KEnts w es.toList kvs)(nd:(kvs.map (·.1)).Nodup):KDict P w K a kvs:=by
 obtain⟨vs,h1,h2,h3,h4⟩:=h.pairs (P:=P);exact⟨ne,fun hp KX=>⟨vs,h1,_,_,_,KX a _ l,⟨rfl,rfl,rfl⟩,rfl,fun e he=>h4 e (by simpa using he),h2,by rw[h3];exact nd⟩⟩
section
variable {X:Cx}{o i:Expr}{td ty:TE}{a:Addr}{kvs:List (Key × V)}
noncomputable def Qf2(a:Addr)(kvs:List (Key × V))(ty td:TE):TE:=fun σ H Q=>ty σ H fun y H1=>td σ H1 fun x H2=>∃k,x=.ref a/\y=kV k/\Q (.bl (WR kvs k).isSome) H2
theorem Qb8(D:KDict X.prog X.w X.K a kvs)(hi:PE X i ty)(ho:PE X o td):PC X .In i o (Qf2 a kvs ty td):=by
 intro pins s σ H Q I h;refine thn (hi pins s σ H _ I h) fun iv s1⟨y,H1,I1,ry,q1⟩=>thn (ho pins s1 σ H1 _ I1 q1) fun u s2⟨x,H2,I2,rx,k,ex,ey,q2⟩=>?_;subst ex ey;obtain rfl:u=Value.ref a:=rx;obtain⟨vs,rel,dd⟩:=D.ok s2.heap I2.kIn;refine wpAny_in_of (qg ry) D.ne dd.mapOf ?_;rw[←(rel.val k).Vl];exact⟨.bl _,H2,I2.tok _,rfl,q2⟩
end
end L2
namespace K02
open PySem PySem.NumText Builtin Builtin.Str StrLaws
theorem QdM(lo:Option Int)(k n:Nat)(hk:1<=k):strSliceIndices lo (some (-(k:Int))) 1 n=strSliceIndices lo (some ((n-k:Nat):Int)) 1 n:=by
 unfold strSliceIndices;have h1:(-(k:Int)<0):=by omega
 have h2:¬ (((n-k:Nat):Int)<0):=by omega
 have h3:max (0:Int) (min (-(k:Int)+n) n)=max (0:Int) (min ((n-k:Nat):Int) n):=by omega
 simp only[h1,h2,if_true,if_false,h3,show((1:Int)>0)=True from by simp]
theorem qM(l:List Nat){k:Nat}(hk:1<=k):sliceText (tx l) none (some (-(k:Int)))=tx (l.take (l.length-k)):=by
 have e:sliceText (tx l) none (some (-(k:Int)))=sliceText (tx l) none (some ((l.length-k:Nat):Int)):=by
  unfold sliceText;rw[QdM none k _ hk,Qq]
 rw[e,X1 l (by omega)]
theorem YC(l:List Nat):sliceText (tx l) none (some (-1))=tx l.dropLast:=by
 have:=qM l (k:=1) (uQ _);rw[List.dropLast_eq_take];exact this
theorem Wl{l:List Nat}(h:l≠[]):∃d,l=l.dropLast++[d]/\l.getLast?=some d:=⟨l.getLast h,(List.dropLast_concat_getLast h).symm,List.getLast?_eq_some_getLast h⟩
noncomputable def pad(n k:Nat):List Nat:=List.replicate (k-(dec n).length) 48++dec n
theorem wU(n k:Nat):AllDigits (pad n k):=QbK (QbL _) (wj n)
theorem Qb9(n k:Nat):digitsVal (pad n k)=n:=by unfold pad;rw[Y0,QbM,QbI,Nat.zero_mul,Nat.zero_add]
theorem Qa8(n k:Nat):pad n k≠[]:=fun z=>by
 have h:=congrArg List.length z;unfold pad at h;have h2:=Qa4 n;rw[uM,List.length_nil]at h;omega
theorem dec_lt{n k:Nat}(h:n<10^k)(hk:1<=k):(dec n).length<=k:=by
 rcases Nat.lt_or_ge k (dec n).length with q|q
 ·exfalso
  by_cases h0:n=0
  ·subst h0;have:(dec 0).length=1:=by decide
   omega
  ·have h1:(Nat.toDigits 10 n).length<=k:=(Nat.length_toDigits_le_iff (by decide) hk).mpr h;unfold dec at q;rw[uN]at q;omega
 ·exact q
theorem jS{n k:Nat}(h:n<10^k)(hk:1<=k):(pad n k).length=k:=by
 have:=dec_lt h hk;unfold pad;rw[uM,tj];omega
theorem qN(n:Nat){k:Nat}(hk:1<=k):Txt.zfill (tx (dec n)) (k:Int)=tx (pad n k):=by
 obtain⟨o,rfl⟩:∃o,k=o+1:=⟨k-1,by omega⟩;have:=wl n o;push_cast;rw[this];rfl
theorem QdN:∀d:Nat,48<=d->d<=57->("pqrstuvwxy":Str).cps.toList[d-48]? =some (d+64):=by
 intro d h1 h2;have key:∀k:Nat,k<10->("pqrstuvwxy":Str).cps.toList[k]? =some (k+112):=by decide+kernel
 have:=key (d-48) (by omega);rw[this]
 congr 1
 omega
theorem QeY:("pqrstuvwxy":Str)=tx [112,113,114,115,116,117,118,119,120,121]:=by decide+kernel
theorem Qca{d:Nat}(h:AllDigits [d]):digitsVal [d]=d-48:=by simp[digitsVal]
end K02
namespace K15
open K02 K04 PySem.NumText
noncomputable def fit(u o:Int)(a b:Nat):Int:=if K01.yI u o b<0 then-(K01.zH (K01.yI u o b) % K01.ten ((a:Int)+b))else K01.zH (K01.yI u o b) % K01.ten ((a:Int)+b)
noncomputable def Us(l:List Nat):List Nat:=l.dropLast++[l.getLast?.getD 48+64]
noncomputable def cont(s:Bool)(a b:Nat)(u o:Int):List Nat:=if s=true/\fit u o a b<0 then Us (pad (fit u o a b).natAbs (a+b))else pad (fit u o a b).natAbs (a+b)
noncomputable def Xk(s:Bool)(l:List Nat):Bool:=s&&(([112,113,114,115,116,117,118,119,120,121]:List Nat).contains (l.getLast?.getD 0))
noncomputable def Zc(s:Bool)(l:List Nat):List Nat:=if Xk s l=true then l.dropLast++[l.getLast?.getD 0-64]else l
noncomputable def ZB(s:Bool)(l:List Nat):Int:=if Xk s l=true then-(digitsVal (Zc s l):Int)else(digitsVal (Zc s l):Int)
noncomputable def xY(s:Bool)(a b:Nat)(l:List Nat):Prop:=l.length=a+b/\AllDigits (Zc s l)
noncomputable instance (s:Bool)(a b:Nat)(l:List Nat):Decidable (xY s a b l):=inferInstanceAs (Decidable (_/\_))
theorem wV(u o:Int)(a b:Nat):(fit u o a b).natAbs<10^(a+b):=by
 have h1:=Int.emod_nonneg (K01.zH (K01.yI u o b)) (Int.ne_of_gt (K01.XC ((a:Int)+b)));have h2:=Int.emod_lt_of_pos (K01.zH (K01.yI u o b)) (K01.XC ((a:Int)+b));have h3:K01.ten ((a:Int)+b)=((10^(a+b):Nat):Int):=by
  unfold K01.ten;have:((a:Int)+b).toNat=a+b:=by omega
  rw[this];push_cast;rfl
 rw[h3]at h1 h2;unfold fit;rw[h3]
 split<;>omega
end K15
namespace Lw
open PySem PySem.Spec PyProof.Rows L2 K02 K04 K15
open Builtin Builtin.Str StrLaws
theorem Ut:∀ls:List (List Nat),Txt.join "" (ls.map tx)=tx ls.flatten:=by
 intro ls;show Builtin.Str.glued _ _=_;rw[StrLaws.glued_eq_join];have e:("":Str)=tx []:=by decide+kernel
 rw[e]
 induction ls with
 |nil=>rfl
 |cons a r ih=>
  cases r with
  |nil=>simp[PySem.Str.join]
  |cons b r=>
   show tx a++tx []++PySem.Str.join (tx []) ((b::r).map tx)=_;rw[ih,Zl,Zl,List.flatten_cons (l:=a),tF]
theorem qO:∀(ls:List (List Nat))(n:Nat),(ls.map tx).foldl (fun(m:Nat)(s:Str)=>m+s.length+("":Str).length) n=n+ls.flatten.length:=by
 have e:("":Str).length=0:=by decide+kernel
 intro ls
 induction ls with
 |nil=>intro n;rfl
 |cons a r ih=>
  intro n;show(r.map tx).foldl _ (n+(tx a).length+("":Str).length)=_;rw[ih,e,Qq,List.flatten_cons,uM];omega
theorem Qaj{ls:List (List Nat)}(h:ls.flatten.length<=1000):JoinOk "" (ls.map tx)=true:=by
 unfold JoinOk;rw[←Array.foldl_toList,List.toList_toArray,qO];unfold tooLong;have hz:1000<=sizeLine:=by decide
 rw[uO (by omega)];rfl
theorem qP(ch k:Nat):L2.U3 (tx [ch]) k=tx (List.replicate k ch):=by
 rw[qu (L2.U3 (tx [ch]) k)]
 congr 1
 unfold L2.U3;have:∀(l:List (Array Nat))(acc:Array Nat),(l.foldl (· ++ ·) acc).toList=acc.toList++(l.map (·.toList)).flatten:=by
  intro l
  induction l with
  |nil=>intro acc;simp
  |cons a r ih=>intro acc;rw[List.foldl_cons,ih];simp
 rw[this];simp only[List.map_replicate]
 induction k with
 |zero=>rfl
 |succ k ih=>simp[List.replicate_succ]at ih ⊢
section
variable {P:Program}{w:World}{K:PySem.W.Frag}{mg:Str->Option Value}{base:Heap}{f:Addr}{fd:FuncData}{tk:Nat->Tok}{c kr:Nat->Addr}
noncomputable def wW:Sp:=fun vs H Q _=>∃a b:Int,vs=[.int a,.int b]/\b≠0/\b.natAbs<2^2000/\Q (.int (K01.QcT a b)) H
theorem wX{b:Int}{n:Nat}(h:b.natAbs<n):(if b<0 then-b else b).natAbs<n:=by split<;>omega
theorem Qcb{b:Int}(h:b≠0):0<(if b<0 then-b else b):=by split<;>omega
theorem VM(F:Fun K "quotient_cut" "quotient_cut" ZS f fd)(O:Own mg):FnOk P w K mg base (CXE P w) 1 f fd ["number","by"] wW:=by
 refine okN F XL (fun vs H Q E h=>?_) (fun cdv A outer s H vs Q E hr h=>?_)
 ·obtain⟨a,b,rfl,_⟩:=h;rfl
 ·obtain⟨a,b,rfl,h1,h2,k⟩:=h;refine⟨_,(Qc (Qt (i:=2) XL.nd rfl (Or.inl rfl) (QC yz (Qr Ky rfl O.abs PyProof.Rows.boot_abs (Qa (pv 0) Qb)) (Qr Ky rfl O.abs PyProof.Rows.boot_abs (Qa (pv 1) Qb))))
   (Qf (Qn (Jj (Qj Z5 (Zd Kw (pv 0) Qg (Qm _)) (Zd Kw (pv 1) Qg (Qm _)) (Qm _)) (Vf Xx (pv 2)) (pv 2))))),?_⟩
  refine⟨_,rfl,a,rfl,_,rfl,b,rfl,_,_,rfl,rfl,⟨Qcb h1,wX h2⟩,?_⟩;refine⟨_,rfl,_,_,rfl,rfl,_,rfl,_,_,rfl,rfl,rfl,_,rfl,?_⟩;refine ifB (fun z=>?_) (fun z=>?_)
  ·refine⟨_,rfl,_,rfl,?_⟩;have e:K01.QcT a b= -(K01.zH a/K01.zH b):=by unfold K01.QcT;rw[if_pos (by rw[←Qdu];exact z)]
   rw[e]at k;exact k
  ·refine⟨_,rfl,?_⟩;have e:K01.QcT a b=K01.zH a/K01.zH b:=by unfold K01.QcT;rw[if_neg (by rw[←Qdu];exact fun q=>Bool.noConfusion (z.symm.trans q))]
   rw[e]at k;exact k
structure Amt(K:PySem.W.Frag)(H:Hp)(a:Addr)(u o:Int):Prop where
 sq:SqT K H a [.int u,.int o]
 bd:u.natAbs<2^200
 lo:0<=o
 hi:o<=18
theorem Amt.same{H H':Hp}{a:Addr}{u o:Int}(A:Amt K H a u o)(e:Qo H H'):Amt K H' a u o:=⟨A.sq.same e,A.bd,A.lo,A.hi⟩
noncomputable def Qcc(K:PySem.W.Frag):Sp:=fun vs H Q _=>∃(a:Addr)(u o p:Int),vs=[.ref a,.int p]/\Amt K H a u o/\0<=p/\p<=18/\∀q,H q=none->Q (.ref q) (upd H q (.tup [.int (K01.yI u o p),.int p]))
theorem QdO(F:Fun K "cut" "cut" QbP f fd)(O:Own mg)(gk:Def P w K mg base 1 "ten_to" ["many"] xO)(mn:Def P w K mg base 1 "quotient_cut" ["number","by"] wW):FnOk P w K mg base (CXE P w) 2 f fd ["amount","places"] (Qcc K):=by
 refine okN F wu (fun vs H Q E h=>?_) (fun cdv A outer s H vs Q E hr h=>?_)
 ·obtain⟨a,u,o,p,rfl,_⟩:=h;rfl
 ·obtain⟨a,u,o,p,rfl,M,h1,h2,k⟩:=h;have b1:=M.lo;have b2:=M.hi;refine⟨_,(Qc (Q0 (pv 0) (QN rfl (Qh (Qi (i:=2) wu.nd rfl (Or.inl rfl)) (Qh (Qi (i:=3) wu.nd rfl (Or.inl rfl)) QA))))
   (Qf (Qn (QI (Qa (mn.pe hr (by decide) rfl Qp (Qa (QC kZ (pv 2) (gk.pe hr (by decide) rfl Qp (Qa (QC Vg (pv 1) (pv 3)) Qb))) (Qa (gk.pe hr (by decide) rfl Qp (Qa (QC Vg (pv 3) (pv 1)) Qb)) Qb))) (Qa (pv 1) Qb)))))),?_⟩
  refine⟨_,rfl,a,_,rfl,M.sq,rfl,_,_,rfl,_,_,rfl,rfl,?_⟩;refine⟨_,rfl,_,rfl,_,rfl,_,_,rfl,rfl,_,rfl,by omega,by omega,_,_,rfl,rfl,⟨big M.bd,big (VB (by omega))⟩,?_⟩;refine⟨_,rfl,_,rfl,_,_,rfl,rfl,_,rfl,by omega,by omega,?_⟩;refine⟨_,_,rfl,Int.ne_of_gt (K01.XC _),big (VB (by omega)),?_⟩;exact⟨_,rfl,by show 2<=sizeLine;decide,k⟩
noncomputable def Qak(K:PySem.W.Frag):Sp:=fun vs H Q _=>∃(p:Addr)(u o:Int)(a b:Nat),vs=[.ref p,.int (a:Nat),.int (b:Nat)]/\Amt K H p u o/\a+b<=18/\∀H',Qo H H'->Q (.int (fit u o a b)) H'
theorem wY(F:Fun K "fitted" "fitted" Y8 f fd)(O:Own mg)(gk:Def P w K mg base 1 "ten_to" ["many"] xO)(r6:Def P w K mg base 2 "cut" ["amount","places"] (Qcc K)):FnOk P w K mg base (CXE P w) 3 f fd ["amount","before","behind"] (Qak K):=by
 refine okN F Vz (fun vs H Q E h=>?_) (fun cdv A outer s H vs Q E hr h=>?_)
 ·obtain⟨p,u,o,a,b,rfl,_⟩:=h;rfl
 ·obtain⟨p,u,o,a,b,rfl,M,hab,k⟩:=h;refine⟨_,(Qc (Qt (i:=3) Vz.nd rfl (Or.inl rfl) (Qw JV (r6.pe hr (by decide) rfl Qp (Qa (pv 0) (Qa (pv 2) Qb))) Qg (fun _ _=>rfl)))
   (Qc (Qt (i:=4) Vz.nd rfl (Or.inl rfl) (QC Vh (Qr Ky rfl O.abs PyProof.Rows.boot_abs (Qa (pv 3) Qb)) (gk.pe hr (by decide) rfl Qp (Qa (QC Jd (pv 1) (pv 2)) Qb))))
   (Qf (Qn (Jj (Qj Kw (pv 3) Qg (Qm _)) (Vf Xx (pv 4)) (pv 4)))))),?_⟩
  refine⟨_,rfl,_,rfl,p,u,o,(b:Int),rfl,M,by omega,by omega,fun q hq=>⟨q,_,_,_,rfl,rfl,SqT.of Qd,rfl,?_⟩⟩;have S1:=Qo.new (o:=.tup [.int (K01.yI u o b),.int (b:Int)]) hq;refine⟨_,rfl,_,rfl,_,rfl,_,rfl,_,_,rfl,rfl,(a:Int)+b,rfl,by omega,by omega,_,_,rfl,rfl,K01.XC _,?_⟩;refine⟨_,rfl,_,_,rfl,rfl,_,rfl,?_⟩;have k:=k _ S1;refine ifB (fun z=>?_) (fun z=>?_)
  ·refine⟨_,rfl,_,rfl,?_⟩;have e:fit u o a b= -(K01.zH (K01.yI u o b) % K01.ten ((a:Int)+b)):=by unfold fit;rw[if_pos (of_decide_eq_true z)]
   rw[e]at k;exact k
  ·refine⟨_,rfl,?_⟩;have e:fit u o a b=K01.zH (K01.yI u o b) % K01.ten ((a:Int)+b):=by unfold fit;rw[if_neg (of_decide_eq_false z)]
   rw[e]at k;exact k
noncomputable def zT:Sp:=fun vs H Q _=>∃n:Nat,vs=[.int n]/\n<10^18/\∀H',Qo H H'->Q (.str (tx (dec n))) H'
theorem Uu(F:Fun K "figures_of" "figures_of" XG f fd)(O:Own mg)(T:Txt K mg tk c kr)(gk:Def P w K mg base 1 "ten_to" ["many"] xO):FnOk P w K mg base (CXE P w) 2 f fd ["number"] zT:=by
 refine okN F JQ (fun vs H Q E h=>?_) (fun cdv A outer s H vs Q E hr h=>?_)
 ·obtain⟨n,rfl,_⟩:=h;rfl
 ·obtain⟨n,rfl,hn,k⟩:=h;refine⟨_,(Qc (Qt (i:=1) JQ.nd rfl (Or.inl rfl) (gk.pe hr (by decide) rfl Qp (Qa (QG (v:=V.int 18) rfl T.nz ⟨_,rfl⟩) Qb)))
   (Qc (Qt (i:=2) JQ.nd rfl (Or.inl rfl) (X9 Qb))
   (Qc (Z4 PassesOwn.never (Qj yj (pv 0) (pv 1) (Qm _)) (Qc (Q0 (Qr jr rfl O.divmod PyProof.Rows.boot_divmod (Qa (pv 0) (Qa (pv 1) Qb))) (QN rfl (Qh (Qi (i:=0) JQ.nd rfl (Or.inl rfl)) (Qh (Qi (i:=3) JQ.nd rfl (Or.inl rfl)) QA))))
   (Qf (Jb (JO plainAttrs_list PySem.F.slot_list_append PySem.F.type_list_append JC (pv 2) (Qa (JO plainAttrs_str slot_str_zfill type_str_zfill YY (Xz WF rfl O.str PyProof.Rows.boot_str (Qa (pv 3) Qb)) (Qa (QG (v:=V.int 18) rfl T.nz ⟨_,rfl⟩) Qb)) Qb))))))
   (Qc (Jb (JO plainAttrs_list PySem.F.slot_list_append PySem.F.type_list_append JC (pv 2) (Qa (Xz WF rfl O.str PyProof.Rows.boot_str (Qa (pv 0) Qb)) Qb)))
   (Qf (Qn (xK rfl rfl O.reversed Qk (pv 2)))))))),?_⟩
  refine⟨18,rfl,by decide,by decide,by show 0<=sizeLine;decide,fun p hp=>?_⟩;have S1:=Qo.new (o:=.lst []) hp;refine⟨fun m σ H2=>σ=[some (.int (n:Int)),some (.int (K01.ten 18)),some (.ref p),none]/\H2=upd H p (.lst []),⟨0,rfl,rfl⟩,?_⟩;rintro m σ H2 ⟨rfl,rfl⟩;refine⟨_,rfl,_,rfl,_,_,rfl,rfl,_,rfl,?_⟩;have h18:K01.ten 18=10^18:=by decide
  refine ifB (fun q=>absurd (of_decide_eq_true q) (by rw[h18];omega)) (fun _=>?_);have hlog:(n:Int).natAbs.log2<1920:=by
   rw[Int.natAbs_natCast]
   by_cases h0:n=0
   ·rw[h0];decide
   ·exact(Nat.log2_lt h0).mpr (Nat.lt_trans hn (by decide))
  refine⟨_,rfl,.inl ⟨rfl,_,.inl (.inl Qd)⟩,_,rfl,(n:Int),rfl,hlog,p,[],_,rfl,rfl,Qd,by show 0<sizeLine;decide,?_⟩;rw[K02.YJ];have S2:Qo H (upd (upd H p (.lst [])) p (.lst ([]++[.str (tx (dec n))]))):=fun b o e=>by
   have hb:=Qv e hp;rw[Ql hb,Ql hb];exact e
  have hdl:=QbJ (n:=n) (Nat.lt_trans hn (by decide));refine⟨"",rfl,_,rfl,p,[tx (dec n)],rfl,Qd,?_,?_⟩
  ·have hjl:=Qq (dec n);show(!Builtin.Str.tooLong (0+(tx (dec n)).length+("":Str).length))=true;rw[hjl];have he:("":Str).length=0:=by decide+kernel
   rw[he];unfold Builtin.Str.tooLong;have hz:1000<=sizeLine:=by decide
   rw[uO (by omega)];rfl
  ·have ej:Txt.join "" [tx (dec n)].reverse=tx (dec n):=by
    show Builtin.Str.glued _ _=_;rw[StrLaws.glued_eq_join];rfl
   rw[ej];exact k _ S2
theorem VN{i:Int}(h0:0<=i)(h1:i<=1000):PadOk i=true:=by
 obtain⟨n,rfl⟩:=Int.eq_ofNat_of_zero_le h0;have:n<=1000:=by omega
 have key:∀m:Nat,m<=1000->PadOk ((m:Nat):Int)=true:=by
  intro m hm;unfold PadOk fitsSsize;have e1:Builtin.Str.tooLong ((m:Nat):Int).toNat=false:=by
   unfold Builtin.Str.tooLong;have hz:1000<=sizeLine:=by decide
   rw[tM];exact uO (by omega)
  rw[e1];simp;omega
 exact key n this
noncomputable def VO(K:PySem.W.Frag)(c:Nat->Addr):Sp:=fun vs H Q E=>∃(l:List Nat)(k:Nat),vs=[.str (kindS k),.str (tx l)]/\l.length<=500/\k<=3/\((∀x,QR l=some x->x.kind<=3/\x.kind≠k)->∀H',Qo H H'->E (.ref (c 2)) none H')/\
 (∀x,QR l=some x->x.kind=k->∀q p rs r H',Qo H H'->H' q=some (.tup [.ref p,.ref r])->H' r=some (.tup [.bl x.signed,.int (x.before:Nat),.int (x.behind:Nat)])->RowsAt K H' p rs (rowsOf l)->Q (.ref q) H')
theorem Uv:∀a≤3,∀b≤3,decide (V.str (kindS a)=V.str (kindS b))=decide (a=b):=by decide+kernel
theorem Qal{ld pl:List Nat}{many nines:Nat}{o:Option Nat}{tl:Option (List Nat)}{x:Facts}(h:XR ld pl many nines o tl=some x):x.kind<=3:=by
 unfold XR at h
 split at h
 ·dsimp only at h
  repeat' (split at h)
  all_goals first
   |(cases h;done)
   |(have:=uR h;rw[←this];exact uQ _)
 ·cases h
theorem Qcd{rows:List Rw}{x:Facts}(h:Q7 rows=some x):x.kind<=3:=by
 have e:Q7 rows=XR (Zx rows).1 (QP (Zx rows).2).1 (QP (Zx rows).2).2.1 (QP (Zx rows).2).2.2.1 (Q4 (QP (Zx rows).2).2.2.2 (if(QP (Zx rows).2).2.2.1=0 then(QP (Zx rows).2).1 else[57])).1
  (Kb (Q4 (QP (Zx rows).2).2.2.2 (if(QP (Zx rows).2).2.2.1=0 then(QP (Zx rows).2).1 else[57])).2):=rfl
 rw[e]at h;exact Qal h
theorem Qam{l:List Nat}{x:Facts}(h:QR l=some x):x.kind<=3:=by
 unfold QR Jz at h;cases e1:QQ (rowsOf l)with
 |some y=>
  rw[e1]at h;have e:y=x:=uR h;subst e;unfold QQ at e1
  split at e1
  ·split at e1
   ·split at e1
    ·cases e1
    ·cases e1;exact(show(2:Nat)<=3 by decide)
   ·cases e1
  ·cases e1
 |none=>
  rw[e1]at h;cases e2:Jo (rowsOf l)with
  |some y=>
   rw[e2]at h;have e:y=x:=uR h;subst e;unfold Jo at e2
   split at e2
   ·split at e2
    ·cases e2
    ·cases e2;show(if _ then 0 else 1)<=3;split<;>decide
   ·cases e2
  |none=>
   rw[e2]at h;exact Qcd h
theorem WT(F:Fun K "understood_as" "understood_as" JR f fd)(T:Txt K mg tk c kr)(mi:Def P w K mg base 4 "rows_of" ["thing"] (zJ K))(gQ:Def P w K mg base 5 "facts_of" ["rows"] (J3 K Jz)):
  FnOk P w K mg base (CXE P w) 6 f fd ["kind","picture"] (VO K c):=by
 refine okE F Ze (fun vs H Q E h=>?_) (fun cdv A outer s H vs Q E hr h=>?_)
 ·obtain⟨l,k,rfl,_⟩:=h;rfl
 ·obtain⟨l,kd,rfl,hl,hk3,k1,k2⟩:=h;have hz:1000<=sizeLine:=by decide
  have fr:=Jx (P:=P) (w:=w) (K:=K) (mg:=mg) (base:=base) (N:=["kind","picture","rows","facts"]) (qual:="understood_as") (scope:=Qe JR) (f:=f) (cd:=cdv) (A:=A) (outer:=outer) (s:=s) (H:=H) (E:=E);have ht:=JD fr;have hx:=QL fr;refine⟨_,(Qc (Qt (i:=2) Ze.nd rfl (Or.inl rfl) (mi.pe hr (by decide) rfl hx (Qa (pv 1) Qb)))
   (Qc (Qt (i:=3) Ze.nd rfl (Or.inl rfl) (gQ.pe hr (by decide) rfl hx (Qa (pv 2) Qb)))
   (Qc (QM (PW.pt (Z3 (Xp (Ku (pv 3))) (J7 (Qj Z5 (Qw JV (pv 3) Qg (fun _ _=>rfl)) (pv 0) (Qm _))))) (Qf (J5 ht rfl rfl T.rY T.rZ (Qa Qk Qb))) Qu)
   (Qf (Qn (QI (Qa (pv 2) (Qa (QZ QaX (pv 3) (QX Qg) JY) Qb)))))))),?_⟩
  refine⟨_,rfl,_,rowsOf l,rfl,.inl ⟨l,rfl,hl,rfl⟩,fun p rs H1 S1 R1=>⟨_,rfl,p,rs,rowsOf l,rfl,R1,fun v2 H2 S2 f2=>?_⟩⟩;refine⟨_,rfl,_,rfl,?_⟩;rw[f2.isN];have hpic:QR l=Jz (rowsOf l):=rfl;cases e:Jz (rowsOf l)with
  |none=>exact QY (QY ⟨sL1,k1 (fun x h=>by rw[hpic,e]at h;cases h) _ (S1.trans S2)⟩)
  |some x=>
   rw[e]at f2 hpic;have hx3:=Qam hpic;obtain⟨r,rfl,g⟩:=f2;refine QO ⟨_,rfl,r,_,_,_,rfl,rfl,SqT.of g,rfl,_,rfl,rfl,_,rfl,?_⟩;rw[Uv _ hx3 _ hk3]
   by_cases hkk:x.kind=kd
   ·rw[uP hkk];refine QO ⟨_,rfl,_,rfl,_,rfl,r,_,rfl,SqT.of g,(fun z=>absurd (show HT.sIx 4 0 (some 1)=0 from z.1) (by decide)),fun q5 hq5=>?_⟩;have S5:=Qo.new (o:=.tup [.bl x.signed,.int (x.before:Nat),.int (x.behind:Nat)]) hq5;have g5:upd H2 q5 (.tup [.bl x.signed,.int (x.before:Nat),.int (x.behind:Nat)]) q5=some (.tup [.bl x.signed,.int (x.before:Nat),.int (x.behind:Nat)]):=Qd;refine⟨sL2,fun q6 hq6=>?_⟩;have S6:=Qo.new (o:=.tup [.ref p,.ref q5]) hq6;exact k2 x hpic hkk q6 p rs q5 _ (((S1.trans S2).trans S5).trans S6) Qd (S6 _ _ g5) (((R1.same S2).same S5).same S6)
   ·rw[uO hkk];exact QY ⟨sL1,k1 (fun y h=>by rw[hpic]at h;cases h;exact⟨hx3,hkk⟩) _ (S1.trans S2)⟩
theorem YD{p:Addr}{rs:List Addr}{rows:List Rw}{te:TE}{tt:TT}{NB:List Str}{n i:Nat}{σ:L2.St}{H:Hp}{Q:VK}(val:Rw->V)(ok:Rw->Bool)(hNB:NB.length=3)(hn:n=2)(hσ:σ[i]? =some (some (.ref p)))(R:RowsAt K H p rs rows)
  (htt:∀x∈rows,∀(H1:Hp)(R:Bool->Hp->Prop),R (ok x) H1->tt [none,some (.str (tx [x.1])),some (.int (x.2:Nat))] H1 R)
  (hte:∀x∈rows,∀(H1:Hp)(Q:VK),(∀H2,Qo H1 H2->Q (val x) H2)->te [none,some (.str (tx [x.1])),some (.int (x.2:Nat))] H1 Q)
  (hd:∀q H1,Qo H H1->H1 q=none->Q (.ref q) (upd H1 q (.lst ((rows.filter ok).map val)))):
  YW NB (Qbj K (Kt i)) (Qc5 K n (jp (QV 1) (jp (QV 2) Qeh))) tt te σ H Q:=by
 have hz:1000<=sizeLine:=by decide
 have hl:=R.le;have hlen:=R.len;refine⟨_,hσ,p,rfl,⟨_,R.sq⟩,?_⟩;refine qF (xs:=rs.map V.ref) (fun i vs H2=>Qo H H2/\vs=((rows.take i).filter ok).map val) ⟨Qo.refl H,rfl⟩ ?_ ?_ ?_ (by omega)
 ·rintro i vs H2 hi ⟨S,rfl⟩;exact⟨(R.same S).sq,by rw[uN];exact Nat.le_trans (List.length_filter_le _ _) (by rw[uY];omega)⟩
 ·rintro i x vs H2 hx ⟨S,rfl⟩;rw[u5]at hx;obtain⟨r,hr,rfl⟩:=Option.map_eq_some_iff.mp hx;obtain⟨y,hy,g⟩:=(R.same S).rw.at' hr;subst hn;rw[hNB];have hm:=u6 hy;have htk:(rows.take (i+1)).filter ok=(rows.take i).filter ok++if ok y=true then[y]else[]:=by
   rw[List.take_add_one,hy,List.filter_append]
   congr 1
   show List.filter ok [y]=_;rw[List.filter_cons];rfl
  refine⟨r,_,rfl,SqT.of g,rfl,_,_,rfl,_,_,rfl,rfl,?_⟩;refine htt y hm _ _ ?_;rw[htk];cases ok y with
  |true=>exact QY (hte y hm _ _ fun H3 S3=>⟨S.trans S3,by simp⟩)
  |false=>exact QO ⟨S,by simp⟩
 ·rintro vs H2 ⟨S,rfl⟩ q hq;rw[List.take_of_length_le (by omega)];exact hd q H2 S hq
noncomputable def Qce(K:PySem.W.Frag):Sp:=fun vs H Q _=>∃(p:Addr)(rs:List Addr)(rows:List Rw),vs=[.ref p]/\RowsAt K H p rs rows/\Pos 100 rows/\(un rows).length<=1000/\∀H',Qo H H'->Q (.str (tx (un rows))) H'
theorem Qan(rows:List Rw):rows.filter (fun _=>true)=rows:=by simp
theorem Yh(F:Fun K "written_out" "written_out" Z9 f fd)(O:Own mg):FnOk P w K mg base (CXE P w) 1 f fd ["rows"] (Qce K):=by
 refine okN F Yb (fun vs H Q E h=>?_) (fun cdv A outer s H vs Q E hr h=>?_)
 ·obtain⟨p,rs,rows,rfl,_⟩:=h;rfl
 ·obtain⟨p,rs,rows,rfl,R,hp,hl,k⟩:=h;have hz:1000<=sizeLine:=by decide
  refine⟨_,(Qf (Qn (JO plainAttrs_str slot_str_join type_str_join Kh Qk (Qa (ZE (NB:=[".0","symbol","many"]) rfl ⟨rfl,by decide+kernel,by decide+kernel,by decide+kernel⟩ (K4 (pv 0)) (fun _ _ _=>(VF (K0:=K) (n:=2) rfl rfl (Qh (Qi (i:=1) (show([".0","symbol","many"]:List Str).Nodup by decide+kernel) rfl (Or.inl rfl) (Or.inr rfl)) (Qh (Qi (i:=2) (show([".0","symbol","many"]:List Str).Nodup by decide+kernel) rfl (Or.inl rfl) (Or.inr rfl)) QA)))) (fun _ _ _=>Z7) (fun _ _ _=>(QC Zw (pv 1) (pv 2)))) Qb)))),?_⟩;refine⟨rfl,?_⟩;refine YD (p:=p) (rs:=rs) (rows:=rows) (fun x=>.str (tx (List.replicate x.2 x.1))) (fun _=>true) rfl rfl rfl R (fun x hx H1 R h=>h) (fun x hx H1 Q h=>?_) (fun q H1 S hq=>?_)
  ·obtain⟨h1,h2,h3⟩:=hp x hx;refine⟨_,rfl,_,rfl,tx [x.1],(x.2:Int),rfl,rfl,by omega,by rw[Qq,tM,uS];omega,by omega,?_⟩;rw[tM,qP];exact h _ (Qo.refl _)
  ·rw[Qan];have em:(rows.map fun x=>V.str (tx (List.replicate x.2 x.1)))=((rows.map fun x=>List.replicate x.2 x.1).map tx).map V.str:=by rw[tG,tG];rfl
   have ef:(rows.map fun x=>List.replicate x.2 x.1).flatten=un rows:=by rw[un,List.flatMap_def]
   rw[em];refine⟨"",q,_,rfl,rfl,SqL.of Qd,Qaj (by rw[ef];exact hl),?_⟩;rw[Ut,ef];exact k _ (S.trans (Qo.new hq))
structure PicAt(a l:List Nat)(x:Facts):Prop where
 pc:QR l=some x
 sh:Sh a l
 no:40∉a
 la:a.length<=100
 ll:l.length<=500
noncomputable def qQ:Sp:=fun vs H Q _=>∃(a l:List Nat)(x:Facts),vs=[.str (tx l)]/\PicAt a l x/\∀H',Qo H H'->Q (.int ((a.filter jn).length:Nat)) H'
theorem xZ(F:Fun K "size_of" "size_of" KL f fd)(O:Own mg)(gG:Def P w K mg base 6 "understood" ["picture"] (Um K c)):FnOk P w K mg base (CXE P w) 7 f fd ["picture"] qQ:=by
 refine okE F Wd (fun vs H Q E h=>?_) (fun cdv A outer s H vs Q E hr h=>?_)
 ·obtain⟨a,l,x,rfl,_⟩:=h;rfl
 ·obtain⟨a,l,x,rfl,hp,k⟩:=h;have fr:=Jx (P:=P) (w:=w) (K:=K) (mg:=mg) (base:=base) (N:=["picture","rows","facts"]) (qual:="size_of") (scope:=Qe KL) (f:=f) (cd:=cdv) (A:=A) (outer:=outer) (s:=s) (H:=H) (E:=E);have hx:=QL fr;have hla:=hp.la;have e83:("S":Str)=tx [83]:=by decide+kernel
  have e86:("V":Str)=tx [86]:=by decide+kernel
  refine⟨_,(Qc (Q0 (gG.pe hr (by decide) rfl hx (Qa (pv 0) Qb)) (QN rfl (Qh (Qi (i:=1) Wd.nd rfl (Or.inl rfl)) (Qh (Qi (i:=2) Wd.nd rfl (Or.inl rfl)) QA))))
   (Qf (Qn (Qr (YZ rfl) rfl O.sum L2.boot_sum (Qa (ZE (NB:=[".0","symbol","many"]) rfl ⟨rfl,by decide+kernel,by decide+kernel,by decide+kernel⟩ (K4 (pv 1)) (fun _ _ _=>(VF (K0:=K) (n:=2) rfl rfl (Qh (Qi (i:=1) (show([".0","symbol","many"]:List Str).Nodup by decide+kernel) rfl (Or.inl rfl) (Or.inr rfl)) (Qh (Qi (i:=2) (show([".0","symbol","many"]:List Str).Nodup by decide+kernel) rfl (Or.inl rfl) (Or.inr rfl)) QA)))) (fun _ _ _=>(jA (PW.pt (Zi (Qj Z5 (pv 1) Qk (Qm _)) (JX (Qj Z5 (pv 1) Qk (Qm _))))))) (fun _ _ _=>(pv 2))) Qb))))),?_⟩
  refine⟨_,rfl,l,rfl,hp.ll,(fun z=>by rw[hp.pc]at z;cases z),fun x2 e q p rs r H1 S1 g1 g2 R1=>?_⟩;refine⟨q,_,rfl,SqT.of g1,rfl,_,_,rfl,_,_,rfl,rfl,?_⟩;dsimp only[QcR,tCB,Jn,WV];refine YD (p:=p) (rs:=rs) (rows:=rowsOf l) (fun x=>.int (x.2:Nat)) (fun x=>jn x.1) rfl rfl rfl R1 (fun x hx H1 R h=>?_) (fun x hx H1 Q h=>⟨_,rfl,h _ (Qo.refl _)⟩) (fun q H2 S hq=>?_)
  ·have hd:jn x.1=(!decide (x.1=83)&& !decide (x.1=86)):=by
    unfold jn
    by_cases z1:x.1=83<;>by_cases z2:x.1=86<;>simp[z1,z2]
   rw[hd]at h;refine⟨_,rfl,rfl,_,rfl,?_⟩;rw[e83,JJ];cases h1:decide (x.1=83)with
   |true=>rw[h1]at h;exact QO h
   |false=>
    rw[h1]at h;refine QY ⟨_,rfl,rfl,_,rfl,?_⟩;rw[e86,JJ];exact h
  ·have em:(((rowsOf l).filter fun x=>jn x.1).map fun x=>V.int (x.2:Nat))=(((rowsOf l).filter fun x=>jn x.1).map fun x=>((x.2:Nat):Int)).map V.int:=by rw[tG];rfl
   have es:∀rows:List Rw,(rows.map fun x=>((x.2:Nat):Int)).sum=(((rows.map (·.2)).sum:Nat):Int):=by
    intro rows
    induction rows with
    |nil=>rfl
    |cons y r ih=>rw[tH,List.sum_cons,ih,tH,List.sum_cons];push_cast;rfl
   rw[em];refine⟨q,_,rfl,SqL.of Qd,?_⟩;rw[es];have:=Qaf a;rw[←qH hp.sh]at this;unfold szR at this;rw[this];exact k _ (S1.trans (S.trans (Qo.new hq)))
end
section
variable {P:Program}{w:World}{K:PySem.W.Frag}{mg:Str->Option Value}{base:Heap}{f:Addr}{fd:FuncData}{tk:Nat->Tok}{c kr:Nat->Addr}
noncomputable def jT(x:Facts):Prop:=x.kind=2/\1<=x.before+x.behind/\x.before+x.behind<=18
noncomputable def QdP(l:List Nat):Prop:=∀x,QR l=some x->x.kind≠2
noncomputable def zU(K:PySem.W.Frag)(c:Nat->Addr):Sp:=fun vs H Q E=>∃(l:List Nat)(p:Addr)(u o:Int),vs=[.str (tx l),.ref p]/\l.length<=500/\Amt K H p u o/\
 ((QdP l/\∀H',Qo H H'->E (.ref (c 2)) none H')\/∃x,QR l=some x/\jT x/\∀H',Qo H H'->Q (.str (tx (cont x.signed x.before x.behind u o))) H')
theorem QeZ{n k:Nat}(h:n<10^k)(hk:k<=18):n<10^18:=Nat.lt_of_lt_of_le h (Nat.pow_le_pow_right (by decide) hk)
theorem Qcf(i:Int):(if i<0 then-i else i)=((i.natAbs:Nat):Int):=by split<;>omega
set_option maxHeartbeats 1000000 in
theorem Uw(F:Fun K "content_of" "content_of" ZJ f fd)(O:Own mg)(T:Txt K mg tk c kr)(hJ:Def P w K mg base 6 "understood_as" ["kind","picture"] (VO K c))(mU:Def P w K mg base 3 "fitted" ["amount","before","behind"] (Qak K))(gH:Def P w K mg base 2 "figures_of" ["number"] zT):
  FnOk P w K mg base (CXE P w) 7 f fd ["picture","amount"] (zU K c):=by
 refine okE F Jl (fun vs H Q E h=>?_) (fun cdv A outer s H vs Q E hr h=>?_)
 ·obtain⟨l,p,u,o,rfl,_⟩:=h;rfl
 ·obtain⟨l,p,u,o,rfl,hl,M,hc⟩:=h;have hz:1000<=sizeLine:=by decide
  have fr:=Jx (P:=P) (w:=w) (K:=K) (mg:=mg) (base:=base) (N:=["picture","amount","rows","signed","before","behind","units","figures"]) (qual:="content_of") (scope:=Qe ZJ) (f:=f) (cd:=cdv) (A:=A) (outer:=outer) (s:=s) (H:=H) (E:=E);have hx:=QL fr;refine⟨_,(Qc (Q0 (hJ.pe hr (by decide) rfl hx (Qa Qk (Qa (pv 0) Qb))) (QN rfl (Qh (Qi (i:=2) Jl.nd rfl (Or.inl rfl)) (Qh (QN rfl (Qh (Qi (i:=3) Jl.nd rfl (Or.inl rfl)) (Qh (Qi (i:=4) Jl.nd rfl (Or.inl rfl)) (Qh (Qi (i:=5) Jl.nd rfl (Or.inl rfl)) QA)))) QA))))
   (Qc (Qt (i:=6) Jl.nd rfl (Or.inl rfl) (mU.pe hr (by decide) rfl hx (Qa (pv 1) (Qa (pv 4) (Qa (pv 5) Qb)))))
   (Qc (Qt (i:=7) Jl.nd rfl (Or.inl rfl) (JO plainAttrs_str slot_str_zfill type_str_zfill YY (gH.pe hr (by decide) rfl hx (Qa (Qr Ky rfl O.abs PyProof.Rows.boot_abs (Qa (pv 6) Qb)) Qb)) (Qa (QC Jd (pv 4) (pv 5)) Qb)))
   (Qc (QM (PW.pt (Zi (Jr (pv 3) (fun _=>rfl)) (JX (Qj Kw (pv 6) Qg (Qm _))))) (Qf (Qn (QC Q3 (QZ ZF (pv 7) JY (QX (Vf Xx Qg))) (Qw XA (QG (v:=V.str "pqrstuvwxy") rfl T.gm ⟨_,rfl⟩) (Xz KG rfl O.int PyProof.Rows.boot_int (Qa (Qw XA (pv 7) (Vf Xx Qg) (fun _ _=>rfl)) Qb)) (fun _ _=>rfl))))) Qu)
   (Qf (Qn (pv 7))))))),?_⟩
  rcases hc with⟨hno,k⟩|⟨x,hpic,⟨hk2,h1,h18⟩,k⟩
  ·exact⟨_,rfl,l,2,rfl,hl,by decide,fun _=>k,fun x hp hk=>absurd hk (hno x hp)⟩
  refine⟨_,rfl,l,2,rfl,hl,by decide,(fun z=>absurd hk2 (z x hpic).2),fun x' hp _ q p1 rs r H1 S1 g1 g2 R1=>?_⟩;obtain rfl:x=x':=uR (hpic.symm.trans hp);refine⟨q,_,rfl,SqT.of g1,rfl,_,_,rfl,_,_,rfl,r,_,rfl,SqT.of g2,rfl,_,_,rfl,_,_,rfl,_,_,rfl,rfl,rfl,?_⟩;refine⟨_,rfl,_,rfl,_,rfl,p,u,o,x.before,x.behind,rfl,M.same S1,h18,fun H2 S2=>?_⟩;have hflt:=wV u o x.before x.behind;generalize hfit:fit u o x.before x.behind=v at hflt;have k:∀H',Qo H H'->Q (.str (tx (if x.signed=true/\v<0 then Us (pad v.natAbs (x.before+x.behind))else pad v.natAbs (x.before+x.behind)))) H':=fun H' S=>by
   have:=k H' S;unfold cont at this;rw[hfit]at this;exact this
  have hk1000:x.before+x.behind<=1000:=by omega
  have ecast:((x.before:Nat):Int)+((x.behind:Nat):Int)=((x.before+x.behind:Nat):Int):=by omega
  generalize x.before+x.behind=n at h1 h18 hflt k hk1000 ecast;have hplen:=jS hflt h1;have hpdig:=wU v.natAbs n;have hpne:=Qa8 v.natAbs n;have ezf:=qN v.natAbs h1;refine⟨_,rfl,v,rfl,v.natAbs,by rw[Qcf];rfl,QeZ hflt h18,fun H3 S3=>⟨rfl,_,rfl,_,rfl,_,_,rfl,rfl,tx (dec v.natAbs),((x.before:Nat):Int)+((x.behind:Nat):Int),rfl,rfl,VN (by omega) (by omega),?_⟩⟩;rw[ecast,ezf];generalize pad v.natAbs n=pl at k hplen hpdig hpne;have S13:=(S1.trans S2).trans S3;have htl:=Qq pl;refine⟨_,rfl,x.signed,rfl,?_⟩;cases hsg:x.signed with
  |false=>
   rw[hsg]at k;exact QO (QO ⟨_,rfl,k _ S13⟩)
  |true=>
   rw[hsg]at k;refine QY ⟨_,rfl,_,_,rfl,rfl,_,rfl,?_⟩
   by_cases hv:v<0
   ·rw[uP hv];have k:=k H3 S13;rw[if_pos ⟨rfl,hv⟩]at k;obtain⟨d,hd1,hd2⟩:=Wl hpne;have hdd:NumText.AllDigits [d]:=fun z hz=>hpdig z (by rw[hd1];exact uU _ hz);have hdb:=hdd d (List.mem_singleton.mpr rfl);refine QY ⟨_,rfl,_,rfl,_,rfl,tx pl,rfl,by omega,?_⟩;rw[YC];have hat:atI pl (-1)=some d:=by
     rw[hd1];exact YN _ _
    refine⟨_,rfl,_,rfl,tx pl, -1,d,rfl,rfl,by omega,hat,tx [d],_,rfl,PySem.intText_digits hdd (by simp) (by rw[Qq];simp),by rw[Qq];simp,?_⟩;refine⟨"pqrstuvwxy",_,d+64,rfl,rfl,by decide+kernel,?_,_,_,rfl,rfl,?_,?_⟩
    ·show atI ("pqrstuvwxy":Str).cps.toList ((NumText.digitsVal [d]:Nat):Int)=_;rw[Qca hdd];exact JI (QdN d (by omega) (by omega))
    ·show(tx pl.dropLast).length+(tx [d+64]).length<=sizeLine;rw[Qq,Qq,List.length_dropLast];simp;omega
    ·show Q (.str (tx pl.dropLast++tx [d+64])) H3;rw[Zl];have e:Us pl=pl.dropLast++[d+64]:=by unfold Us;rw[hd2];rfl
     rw[e]at k;exact k
   ·rw[uO hv];have k:=k H3 S13;rw[if_neg (fun z=>hv z.2)]at k;exact QO ⟨_,rfl,k⟩
theorem Qcg{i:Nat}{tb:TE}{σ:L2.St}{H:Hp}{Q:VK}{c:Bool}(hσ:σ[i]? =some (some (.bl c)))(Good:V->Hp->Prop)(hT:c=true->(∀v H',Good v H'->Q v H')->tb σ H Q) (hF:c=false->Good (.bl false) H) (rest:∀v H',Good v H'->Q v H'):Qc3 (Kt i) tb σ H Q:=by
 refine⟨_,hσ,c,rfl,?_⟩;cases c with
 |true=>rw[if_pos rfl];exact hT rfl rest
 |false=>rw[if_neg (by decide)];exact rest _ _ (hF rfl)
noncomputable def Ux(K:PySem.W.Frag)(c:Nat->Addr):Sp:=fun vs H Q E=>∃(l t:List Nat),vs=[.str (tx l),.str (tx t)]/\l.length<=500/\t.length<=100/\
 ((QdP l/\∀H',Qo H H'->E (.ref (c 2)) none H')\/∃x,QR l=some x/\jT x/\
  (¬ xY x.signed x.before x.behind t->∀H',Qo H H'->E (.ref (c 5)) none H')/\(xY x.signed x.before x.behind t->∀q H',Qo H H'->H q=none->H' q=some (.tup [.int (ZB x.signed t),.int (x.behind:Nat)])->Q (.ref q) H'))
theorem Qao{d:Nat}(h1:112<=d)(h2:d<=121):Txt.find "pqrstuvwxy" (tx [d])=((d-112:Nat):Int):=by
 have key:∀k:Nat,k<10->Txt.find "pqrstuvwxy" (tx [k+112])=((k:Nat):Int):=by decide+kernel
 have:=key (d-112) (by omega);rw[show d-112+112=d by omega]at this;exact this
theorem QdQ{k:Nat}(h:k<10):("0123456789":Str).cps.toList[k]? =some (k+48):=by
 have key:∀k:Nat,k<10->("0123456789":Str).cps.toList[k]? =some (k+48):=by decide+kernel
 exact key k h
theorem Qch{d:Nat}(h:([112,113,114,115,116,117,118,119,120,121]:List Nat).contains d=true):112<=d/\d<=121:=(by decide:∀d∈([112,113,114,115,116,117,118,119,120,121]:List Nat),112<=d/\d<=121) d (List.contains_iff_mem.mp h)
set_option maxHeartbeats 2000000 in
theorem qR(F:Fun K "amount_in" "amount_in" Xf f fd)(O:Own mg)(T:Txt K mg tk c kr)(hJ:Def P w K mg base 6 "understood_as" ["kind","picture"] (VO K c))(hV:Def P w K mg base 1 "is_figures" ["text"] VC)(gd:Def P w K mg base 2 "number_of" ["text"] wz):
  FnOk P w K mg base (CXE P w) 7 f fd ["picture","content"] (Ux K c):=by
 refine okE F Q8 (fun vs H Q E h=>?_) (fun cdv A outer s H vs Q E hr h=>?_)
 ·obtain⟨l,t,rfl,_⟩:=h;rfl
 ·obtain⟨l,t,rfl,hl,htl0,hc⟩:=h;have hz:1000<=sizeLine:=by decide
  have fr:=Jx (P:=P) (w:=w) (K:=K) (mg:=mg) (base:=base) (N:=["picture","content","rows","signed","before","behind","last","is_below","figures","units"]) (qual:="amount_in") (scope:=Qe Xf) (f:=f) (cd:=cdv) (A:=A) (outer:=outer) (s:=s) (H:=H) (E:=E);have ht:=JD fr;have hx:=QL fr;refine⟨_,(Qc (Q0 (hJ.pe hr (by decide) rfl hx (Qa Qk (Qa (pv 0) Qb))) (QN rfl (Qh (Qi (i:=2) Q8.nd rfl (Or.inl rfl)) (Qh (QN rfl (Qh (Qi (i:=3) Q8.nd rfl (Or.inl rfl)) (Qh (Qi (i:=4) Q8.nd rfl (Or.inl rfl)) (Qh (Qi (i:=5) Q8.nd rfl (Or.inl rfl)) QA)))) QA))))
   (Qc (QM (Qj Z5 (Qr Q2 rfl O.len PySem.boot_len (Qa (pv 1) Qb)) (QC Jd (pv 4) (pv 5)) (Qm _)) (Qf (J5 ht rfl rfl T.ny T.nB (Qa Qk Qb))) Qu)
   (Qc (Qt (i:=6) Q8.nd rfl (Or.inl rfl) (Qw XA (pv 1) (Vf Xx Qg) (fun _ _=>rfl)))
   (Qc (Qt (i:=7) Q8.nd rfl (Or.inl rfl) (U6 (pv 3) (U5 (Zd Zv (pv 6) (QG (v:=V.str "pqrstuvwxy") rfl T.gm ⟨_,rfl⟩) (by with_unfolding_all rfl)))))
   (Qc (Qt (i:=8) Q8.nd rfl (Or.inl rfl) (Jj (Jr (pv 7) (fun _=>rfl)) (QC Q3 (QZ ZF (pv 1) JY (QX (Vf Xx Qg))) (Qw XA (QG (v:=V.str "0123456789") rfl T.md ⟨_,rfl⟩) (JO plainAttrs_str slot_str_find type_str_find QbB (QG (v:=V.str "pqrstuvwxy") rfl T.gm ⟨_,rfl⟩) (Qa (pv 6) Qb)) (fun _ _=>rfl))) (pv 1)))
   (Qc (QM (Vc (X7 (hV.pe hr (by decide) rfl hx (Qa (pv 8) Qb)))) (Qf (J5 ht rfl rfl T.ny T.nB (Qa Qk Qb))) Qu)
   (Qc (Qt (i:=9) Q8.nd rfl (Or.inl rfl) (gd.pe hr (by decide) rfl hx (Qa (pv 8) Qb)))
   (Qf (Qn (QI (Qa (Jj (Jr (pv 7) (fun _=>rfl)) (Vf Xx (pv 9)) (pv 9)) (Qa (pv 5) Qb)))))))))))),?_⟩
  rcases hc with⟨hno,k⟩|⟨x,hpic,⟨hk2,h1,h18⟩,kE,kQ⟩
  ·exact⟨_,rfl,l,2,rfl,hl,by decide,fun _=>k,fun x hp hk=>absurd hk (hno x hp)⟩
  refine⟨_,rfl,l,2,rfl,hl,by decide,(fun z=>absurd hk2 (z x hpic).2),fun x' hp _ q p1 rs r H1 S1 g1 g2 R1=>?_⟩;obtain rfl:x=x':=uR (hpic.symm.trans hp);refine⟨q,_,rfl,SqT.of g1,rfl,_,_,rfl,_,_,rfl,r,_,rfl,SqT.of g2,rfl,_,_,rfl,_,_,rfl,_,_,rfl,rfl,rfl,?_⟩;have htl:=Qq t;have ecast:((x.before:Nat):Int)+((x.behind:Nat):Int)=((x.before+x.behind:Nat):Int):=by omega
  refine⟨_,rfl,tx t,rfl,by omega,_,rfl,_,rfl,_,_,rfl,rfl,rfl,_,rfl,?_⟩;rw[k6,htl]
  by_cases hlen:t.length=x.before+x.behind
  ·rw[uO (by rw[ecast];omega)];have htne:t≠[]:=fun z=>by rw[z]at hlen;simp at hlen;omega
   obtain⟨d,hd1,hd2⟩:=Wl htne;have hat:atI t (-1)=some d:=by
    rw[hd1];exact YN _ _
   refine QO ⟨_,rfl,_,rfl,tx t, -1,d,rfl,rfl,by omega,hat,?_⟩;have ebel:Xk x.signed t=(x.signed&&([112,113,114,115,116,117,118,119,120,121]:List Nat).contains d):=by unfold Xk;rw[hd2];rfl
   dsimp only[QV,Z2,Xu];refine Qcg (c:=x.signed) rfl (fun v H'=>v=.bl (Xk x.signed t)/\H'=H1) (fun z rest=>?_) (fun z=>?_) ?_
   ·refine⟨_,rfl,_,_,rfl,rfl,rest _ _ ⟨?_,rfl⟩⟩;rw[show(⟨#[d]⟩:Str)=tx [d]from rfl,QeY,Xt,ebel,z];rfl
   ·exact⟨by rw[ebel,z];rfl,rfl⟩
   rintro v H2 ⟨rfl,rfl⟩;refine⟨_,rfl,_,rfl,?_⟩;have hfl:(Zc x.signed t).length=t.length:=by
    unfold Zc
    split
    ·rw[uM,List.length_dropLast];simp;omega
    ·rfl
   refine Vq (fun v H'=>v=.str (tx (Zc x.signed t))/\H'=H2) (fun z rest=>?_) (fun z rest=>?_) ?_
   ·have hlm:=Qch (d:=d) (by rw[ebel]at z;exact(Bool.and_eq_true_iff.mp z).2);refine⟨_,rfl,_,rfl,_,rfl,tx t,rfl,by omega,?_⟩;rw[YC];refine⟨rfl,_,rfl,"pqrstuvwxy",tx [d],rfl,rfl,trivial,?_⟩;refine⟨"0123456789",((d-112:Nat):Int),d-112+48,rfl,congrArg V.int (Qao hlm.1 hlm.2),by decide+kernel,JI (QdQ (by omega)),_,_,rfl,rfl,?_,?_⟩
    ·show(tx t.dropLast).length+(tx [d-112+48]).length<=sizeLine;rw[Qq,Qq,List.length_dropLast];simp;omega
    ·show _;refine rest _ _ ⟨?_,rfl⟩;show V.str (tx t.dropLast++tx [d-112+48])=_;rw[Zl];unfold Zc;rw[if_pos z,hd2];show V.str (tx (t.dropLast++[d-112+48]))=V.str (tx (t.dropLast++[d-64]));rw[show d-112+48=d-64 by omega]
   ·exact⟨_,rfl,rest _ _ ⟨by unfold Zc;rw[if_neg (by rw[z];decide)],rfl⟩⟩
   rintro v H3 ⟨rfl,rfl⟩;have htf:=Qq (Zc x.signed t);refine⟨_,rfl,tx (Zc x.signed t),rfl,by omega,_,rfl,?_⟩;rw[Vt];have hfne:Zc x.signed t≠[]:=fun z=>by rw[z]at hfl;simp at hfl;omega
   by_cases hdg:NumText.AllDigits (Zc x.signed t)
   ·rw[uP ⟨hfne,hdg⟩];refine QO ⟨_,rfl,tx (Zc x.signed t),rfl,hdg,by omega,by omega,?_⟩;rw[Vt];refine⟨_,rfl,_,rfl,?_⟩;have fin:∀H',H'=H3->Q=Q->(∀q,H' q=none->Q (.ref q) (upd H' q (.tup [.int (ZB x.signed t),.int (x.behind:Nat)]))):=by
     rintro H' rfl _ q hq;refine kQ ⟨hlen,hdg⟩ q _ (S1.trans (Qo.new hq)) ?_ Qd;cases e:H q with
     |none=>rfl
     |some o=>rw[S1 _ _ e]at hq;cases hq
    refine Vq (fun v H'=>v=.int (ZB x.signed t)/\H'=H3) (fun z rest=>?_) (fun z rest=>?_) ?_
    ·exact⟨_,rfl,_,rfl,rest _ _ ⟨by unfold ZB;rw[if_pos z],rfl⟩⟩
    ·exact⟨_,rfl,rest _ _ ⟨by unfold ZB;rw[if_neg (by rw[z];decide)],rfl⟩⟩
    rintro v H4 ⟨rfl,rfl⟩;exact⟨_,rfl,sL2,fin _ rfl rfl⟩
   ·rw[uO fun z=>hdg z.2];exact QY ⟨sL1,kE (fun z=>hdg z.2) _ S1⟩
  ·rw[uP (by rw[ecast];omega)];exact QY ⟨sL1,kE (fun z=>hlen z.1) _ S1⟩
end
end Lw
namespace K09
open K02 K04 PySem.NumText
noncomputable def bes(c:Nat):Option Nat:=if c=44 then some 44 else if c=66 then some 32 else if c=48 then some 48 else if c=47 then some 47 else if c=46 then some 46 else none
noncomputable def mkS(b:Bool)(c:Nat):Nat:=if c=36 then 36 else if c=43 then(if b then 45 else 43)else if c=45 then(if b then 45 else 32)else if b then c else 32
noncomputable def spr:List Nat->List Nat->List Nat
 |[],_=>[]
 |c::r,fs=>match bes c with
  |some d=>d::spr r fs
  |none=>fs.headD 48::spr r fs.tail
noncomputable def hid:List Nat->List Nat->Nat
 |[],_=>0
 |c::r,s=>if c=57\/(ins c=false/\s.headD 0≠48)then 0 else hid r s.tail+1
noncomputable def place(c:Nat):Bool:=(bes c).isNone
noncomputable def many(l:List Nat):Nat:=(l.filter place).length
noncomputable def qS(body:List Nat)(u:Nat)(b:Bool):List Nat:=
 if flo (body.headD 0)=true then List.replicate (hid body (spr body (pad u (many body)))-1) 32++[mkS b (body.headD 0)]++(spr body (pad u (many body))).drop (hid body (spr body (pad u (many body))))
 else List.replicate (hid body (spr body (pad u (many body)))) (if body.headD 0=42 then 42 else 32)++(spr body (pad u (many body))).drop (hid body (spr body (pad u (many body))))
noncomputable def VP(l:List Nat):List Nat:=if 42∈l then l.map (fun c=>if c=46 then 46 else 42)else List.replicate l.length 32
noncomputable def edT(lead body tail:List Nat)(f:Int):List Nat:=
 if f=0/\57∉body/\flo (body.headD 0)=false then VP (lead++body++tail)
 else lead.map (mkS (decide (f<0)))++qS body f.natAbs (decide (f<0))++tail.map (mkS (decide (f<0)))
noncomputable def Qfq(c:Nat):Nat:=if c=66 then 32 else c
noncomputable def Qeo(c:Nat):Prop:=c∈([57,90,42,43,45,36]:List Nat)
theorem zV{c:Nat}(h:Qeo c):bes c=none/\ins c=false/\c≠46:=by
 have:∀c∈([57,90,42,43,45,36]:List Nat),bes c=none/\ins c=false/\c≠46:=by decide
 exact this c h
theorem Qci{c:Nat}(h:ins c=true):bes c=some (Qfq c)/\c≠57:=by
 have:∀c∈([44,66,48,47]:List Nat),bes c=some (Qfq c)/\c≠57:=by decide
 exact this c (List.contains_iff_mem.mp h)
theorem W0(a b:List Nat):many (a++b)=many a+many b:=by simp[many]
theorem VQ(c:Nat)(r:List Nat):many (c::r)=(if bes c=none then 1 else 0)+many r:=by
 unfold many place;rw[List.filter_cons];cases bes c<;>simp<;>omega
theorem zW{c:Nat}{r fs:List Nat}(h:bes c=none):spr (c::r) fs=fs.headD 48::spr r fs.tail:=by rw[spr,h]
theorem zX{c d:Nat}{r fs:List Nat}(h:bes c=some d):spr (c::r) fs=d::spr r fs:=by rw[spr,h]
theorem Qf3:Qeo 57:=by unfold Qeo;decide
theorem zY{s m:Nat}{l:List Nat}(hs:Qeo s)(h:PlT s m l):many l=l.count s:=by
 have key:∀l:List Nat,(∀x∈l,x=s\/ins x=true)->many l=l.count s:=by
  intro l
  induction l with
  |nil=>intro _;rfl
  |cons a r ih=>
   intro ha;have hr:=ih fun x hx=>ha x (uW _ hx);rw[VQ,List.count_cons,hr];rcases ha a uX with rfl|hi
   ·rw[if_pos (zV hs).1];simp;omega
   ·have hne:a≠s:=fun z=>by rw[z,(zV hs).2.1]at hi;cases hi
    rw[if_neg (by rw[(Qci hi).1];simp)];have:(a==s)=false:=by simpa using hne
    rw[this];simp
 exact key l h.all
section
variable {lead:List Nat}{first:Nat}{W N broken tail:List Nat}
theorem _root_.K04.Ed.many(E:Ed lead first W N broken tail):many (W++N)=W.count first+N.count 57:=by
 rw[W0,zY E.f E.w];rcases E.n with hn|⟨_,hn⟩
 ·rw[hn];rfl
 ·rw[zY Qf3 hn]
theorem _root_.K04.Ed.brk(E:Ed lead first W N broken tail):∀c∈broken,bes c=none/\c≠46:=fun c hc=>by
 rcases E.br with h|⟨k,b,_,h,hb⟩
 ·rw[h]at hc;cases hc
 ·rw[h]at hc;rw[List.eq_of_mem_replicate hc];rcases hb with rfl|⟨rfl,_⟩
  ·decide
  ·exact⟨(zV E.f).1,(zV E.f).2.2⟩
theorem Qap{l:List Nat}(h:∀c∈l,bes c=none):many l=l.length:=by
 unfold K09.many place;rw[List.filter_eq_self.mpr fun c hc=>by rw[h c hc];rfl]
theorem _root_.K04.Ed.Qe0(E:Ed lead first W N broken tail):many (QE broken)=broken.length:=by
 unfold QE
 split
 ·rename_i h;rw[h];rfl
 ·rw[VQ,if_neg (by decide),Nat.zero_add,Qap fun c hc=>(E.brk c hc).1]
noncomputable def bef(first:Nat)(W N:List Nat):Nat:=W.count first+N.count 57-(if flo first=true then 1 else 0)
end
end K09
namespace L2
open PySem PySem.Spec PyProof.Rows
theorem Qcj{z:Str}{g:TG}{tb:TS}{D:Ends}{σ:St}{H:Hp}(Pv:Nat->St->Hp->Prop)(h0:Pv 0 σ H)
  (hs:∀i c σ H,z.cps[i]? =some c->Pv i σ H->g (.str ⟨#[c]⟩) σ H fun σ2 H2=>tb {D with nx:=Pv (i+1),ct:=Pv (i+1),bk:=D.nx} σ2 H2) (hd:∀σ H,Pv z.cps.size σ H->D.nx σ H):
  ∃W:Nat->Nat->St->Hp->Prop,(∃m,W 0 m σ H)/\∀i m σ H,W i m σ H->
   ((Its z).stop i H/\D.nx σ H)\/((Its z).go i H/\∃N:St->Hp->Prop,(∀σ' H',N σ' H'->∃m',m'<m/\W (i+1) m' σ' H')/\∀x H',(Its z).yld i H x H'->g x σ H' fun σ2 H2=>tb {D with nx:=N,ct:=N,bk:=D.nx} σ2 H2):=by
 refine⟨fun i m σ H=>m=z.cps.size-i/\i<=z.cps.size/\Pv i σ H,⟨z.cps.size,by simp,tK _,h0⟩,?_⟩;rintro i m σ H ⟨rfl,hi,p⟩
 by_cases hlt:i<z.cps.size
 ·refine .inr ⟨hlt,Pv (i+1),fun σ' H' p'=>⟨z.cps.size-(i+1),by omega,rfl,hlt,p'⟩,fun x H' y=>?_⟩;obtain⟨e,c,hc,e2⟩:=y;subst e e2;exact hs i c σ _ hc p
 ·have e:i=z.cps.size:=by omega
  subst e;exact .inl ⟨uQ _,hd σ H p⟩
theorem wZ{z:Str}{g:TG}{tb:TS}{D:Ends}{σ:St}{H:Hp}(Pv:Nat->St->Hp->Prop)(h0:Pv 0 σ H)
  (hs:∀i c σ H p,z.cps[i]? =some c->Pv i σ H->H p=none->g (.ref p) σ (upd H p (.tup [.int (i:Nat),.str ⟨#[c]⟩])) fun σ2 H2=>tb {D with nx:=Pv (i+1),ct:=Pv (i+1),bk:=D.nx} σ2 H2) (hd:∀σ H,Pv z.cps.size σ H->D.nx σ H):
  ∃W:Nat->Nat->St->Hp->Prop,(∃m,W 0 m σ H)/\∀i m σ H,W i m σ H->
   ((Ite z).stop i H/\D.nx σ H)\/((Ite z).go i H/\∃N:St->Hp->Prop,(∀σ' H',N σ' H'->∃m',m'<m/\W (i+1) m' σ' H')/\∀x H',(Ite z).yld i H x H'->g x σ H' fun σ2 H2=>tb {D with nx:=N,ct:=N,bk:=D.nx} σ2 H2):=by
 refine⟨fun i m σ H=>m=z.cps.size-i/\i<=z.cps.size/\Pv i σ H,⟨z.cps.size,by simp,tK _,h0⟩,?_⟩;rintro i m σ H ⟨rfl,hi,p⟩
 by_cases hlt:i<z.cps.size
 ·refine .inr ⟨hlt,Pv (i+1),fun σ' H' p'=>⟨z.cps.size-(i+1),by omega,rfl,hlt,p'⟩,fun x H' y=>?_⟩;obtain⟨q,c,hq,hc,e,e2⟩:=y;subst e e2;exact hs i c σ _ q hc p hq
 ·have e:i=z.cps.size:=by omega
  subst e;exact .inl ⟨uQ _,hd σ H p⟩
theorem w4{z:Str}{n:Nat}{fi:List Nat}{fv:List V}{g:TG}{tt:TT}{te:TE}{tl:TE}{Q:VK}{σ:St}{H:Hp}(Pv:Nat->List V->Hp->Prop)(h:∀R:VK,R (.str z) H->tl σ H R) (ha:z.cps.all (· <128)=true) (hfv:fi.map (fun i=>σ[i]?)=fv.map (fun v=>some (some v))) (h0:Pv 0 [] H) (hl:∀i vs H,i<=z.cps.size->Pv i vs H->vs.length<=i)
  (hs:∀i c vs H,z.cps[i]? =some c->Pv i vs H->g (.str ⟨#[c]⟩) (List.replicate n none++fv.map some) H fun σ2 H2=>σ2.drop n=fv.map some/\tt σ2 H2 fun b H3=>if b=true then te σ2 H3 fun v H4=>Pv (i+1) (vs++[v]) H4 else Pv (i+1) vs H3)
  (hd:∀vs H,Pv z.cps.size vs H->∀p,H p=none->Q (.ref p) (upd H p (.lst vs))) (hz:z.cps.size<sizeLine):YB n fi (Qen tl) g tt te σ H Q:=by
 refine h _ ⟨z,rfl,ha,fv,hfv,?_⟩;refine⟨fun i m vs H=>m=z.cps.size-i/\i<=z.cps.size/\Pv i vs H,⟨z.cps.size,by simp,tK _,h0⟩,?_⟩;rintro i m vs H ⟨rfl,hi,p⟩;have hv:=hl i vs H hi p
 by_cases hlt:i<z.cps.size
 ·refine .inr ⟨hlt,by omega,Pv (i+1),fun vs' H' p'=>⟨z.cps.size-(i+1),by omega,rfl,hlt,p'⟩,fun x H' y=>?_⟩;obtain⟨e,c,hc,e2⟩:=y;subst e e2;exact hs i c vs _ hc p
 ·have e:i=z.cps.size:=by omega
  subst e;exact .inl ⟨uQ _,hd vs H p⟩
theorem w6{X:Cx}{K0:PySem.W.Frag}{a:Expr}{ta:TE}(hK:X.K=K0)(ha:PE X a ta)(he:∀whole,isTrue a X.env whole=(do let v←whole;standAt a.pos;holding [v] (truthy v))):PT X a (fun σ H Q=>ta σ H fun x H'=>∃k,Qej K0 x H' k/\Q k H'):=by
 subst hK;exact Jr ha he
end L2
namespace Lw
open PySem PySem.Spec PyProof.Rows L2 K02 K04 K15 K09
open Builtin Builtin.Str StrLaws
noncomputable def dv(ps:List (Nat × Nat)):List (Key × V):=ps.map fun x=>(Sum.inr (tx [x.1]),V.str (tx [x.2]))
theorem Qck(c:Nat):∀ps:List (Nat × Nat),WR (dv ps) (Sum.inr (tx [c]):Key)=(ps.lookup c).map fun d=>V.str (tx [d]):=by
 intro ps
 induction ps with
 |nil=>rfl
 |cons x r ih=>
  obtain⟨a,b⟩:=x;unfold WR dv at ih ⊢;rw[tH,List.find?_cons,List.lookup_cons]
  by_cases h:a=c
  ·subst h;simp
  ·have n1:decide ((Sum.inr (tx [a]):Key)=Sum.inr (tx [c]))=false:=uO fun z=>h (List.cons.inj (qv (Sum.inr.inj z))).1;have n2:(c==a)=false:=beq_eq_false_iff_ne.mpr fun z=>h z.symm;rw[n1,n2];exact ih
noncomputable def Qfr:List (Nat × Nat):=[(44,44),(66,32),(48,48),(47,47),(46,46)]
noncomputable def nbP:List (Nat × Nat):=[(36,36),(43,43),(45,32),(67,32),(82,32),(68,32),(66,32)]
noncomputable def bwP:List (Nat × Nat):=[(36,36),(43,45),(45,45),(67,67),(82,82),(68,68),(66,66)]
noncomputable def QdR:List (Key × V):=[(Sum.inr ",",.str ","),(Sum.inr "B",.str " "),(Sum.inr "0",.str "0"),(Sum.inr "/",.str "/"),(Sum.inr ".",.str ".")]
noncomputable def nbV:List (Key × V):=[(Sum.inr "$",.str "$"),(Sum.inr "+",.str "+"),(Sum.inr "-",.str " "),(Sum.inr "C",.str " "),(Sum.inr "R",.str " "),(Sum.inr "D",.str " "),(Sum.inr "B",.str " ")]
noncomputable def bwV:List (Key × V):=[(Sum.inr "$",.str "$"),(Sum.inr "+",.str "-"),(Sum.inr "-",.str "-"),(Sum.inr "C",.str "C"),(Sum.inr "R",.str "R"),(Sum.inr "D",.str "D"),(Sum.inr "B",.str "B")]
theorem QdS:QdR=dv Qfr:=by decide+kernel
theorem Qe1:nbV=dv nbP:=by decide+kernel
theorem Qe2:bwV=dv bwP:=by decide+kernel
theorem w8(c:Nat):WR QdR (Sum.inr (tx [c]):Key)=(bes c).map fun d=>V.str (tx [d]):=by
 rw[QdS,Qck]
 congr 1
 unfold Qfr bes
 by_cases h1:c=44
 ·subst h1;rfl
 ·by_cases h2:c=66
  ·subst h2;rfl
  ·by_cases h3:c=48
   ·subst h3;rfl
   ·by_cases h4:c=47
    ·subst h4;rfl
    ·by_cases h5:c=46
     ·subst h5;rfl
     ·have e:∀a:Nat,c≠a->(c==a)=false:=fun a h=>beq_eq_false_iff_ne.mpr h;simp[List.lookup_cons,h1,h2,h3,h4,h5,e 44 h1,e 66 h2,e 48 h3,e 47 h4,e 46 h5]
noncomputable def sgL:List Nat:=[36,43,45,67,82,68,66]
theorem Qe3{c:Nat}(h:c∈sgL):WR nbV (Sum.inr (tx [c]):Key)=some (.str (tx [mkS false c])):=by
 rw[Qe1,Qck];have:∀c∈sgL,nbP.lookup c=some (mkS false c):=by decide
 rw[this c h];rfl
theorem Qe4{c:Nat}(h:c∈sgL):WR bwV (Sum.inr (tx [c]):Key)=some (.str (tx [mkS true c])):=by
 rw[Qe2,Qck];have:∀c∈sgL,bwP.lookup c=some (mkS true c):=by decide
 rw[this c h];rfl
theorem VR{l:List Nat}(h:∀x∈l,x<128):(tx l).cps.all (· <128)=true:=by
 rw[Array.all_eq_true'];intro x hx;have:x∈l:=by simpa using hx
 simpa using h x this
theorem QdT{c:Nat}(h:c∈sgL):c<128:=by
 have:∀c∈sgL,c<128:=by decide
 exact this c h
theorem Qa9:("*":Str)=tx [42]:=by decide+kernel
theorem jU:(" ":Str)=tx [32]:=by decide+kernel
theorem Qf4:(".":Str)=tx [46]:=by decide+kernel
theorem QdU:("0":Str)=tx [48]:=by decide+kernel
theorem Qba:("9":Str)=tx [57]:=by decide+kernel
theorem vb:("+-$":Str)=tx [43,45,36]:=by decide+kernel
theorem QdV:(",B0/":Str)=tx [44,66,48,47]:=by decide+kernel
section
variable {P:Program}{w:World}{K:PySem.W.Frag}{mg:Str->Option Value}{base:Heap}{f:Addr}{fd:FuncData}{tk:Nat->Tok}{c kr:Nat->Addr}
theorem len_signs{l:List Nat}{NB:List Str}{tl:TE}{tt:TT}{σ:L2.St}{H:Hp}{Q:VK}(ok:Nat->Bool)(hNB:NB.length=2)(ha:∀x∈l,x<128) (hl:l.length<=900) (h:∀R:VK,R (.str (tx l)) H->tl σ H R)
  (htt:∀(y:Nat)(H1:Hp)(R:Bool->Hp->Prop),R (ok y) H1->tt [none,some (.str (tx [y]))] H1 R) (k:∀H',Qo H H'->Q (.int ((l.filter ok).length:Nat)) H'):
  tCB (fun xs H Q=>∃p ys,xs=[.ref p]/\(SqL K H p ys\/SqT K H p ys)/\Q (.int (ys.length:Nat)) H) (Jn (YW NB (Qen tl) (QV 1) tt (Kt 1)) WV) σ H Q:=by
 have hz:1000<=sizeLine:=by decide
 have htl:=Qq l;dsimp only[tCB,Jn,WV];refine zR (z:=tx l) (fun m vs H2=>vs=((l.take m).filter ok).map (fun c=>V.str (tx [c]))/\H2=H) h (VR ha) ⟨rfl,rfl⟩ (fun m vs H hm⟨e,_⟩=>?_) ?_ ?_ (by show(tx l).length<sizeLine;omega)
 ·rw[e,uN];exact Nat.le_trans (List.length_filter_le _ _) (by rw[uY];omega)
 ·rintro m cc vs H1 hx ⟨rfl,rfl⟩;have hx':l[m]? =some cc:=by simpa using hx
  have htk:l.take (m+1)=l.take m++[cc]:=by rw[List.take_add_one,hx'];rfl
  rw[show(⟨#[cc]⟩:Str)=tx [cc]from rfl,hNB];refine htt cc _ _ ?_;rw[htk,List.filter_append];cases hn:ok cc with
  |true=>
   refine QY ⟨_,rfl,?_,rfl⟩;rw[List.filter_cons,if_pos hn];simp
  |false=>
   refine QO ⟨?_,rfl⟩;rw[List.filter_cons,if_neg (by rw[hn];decide)];simp
 ·rintro vs H1 ⟨rfl,rfl⟩ pv hpv;rw[List.take_of_length_le (show l.length<=(tx l).cps.size by simp)];refine⟨pv,_,rfl,.inl (SqL.of Qd),?_⟩;rw[uN];exact k _ (Qo.new hpv)
noncomputable def zZ:Sp:=fun vs H Q _=>∃(l:List Nat)(b:Bool),vs=[.str (tx l),.bl b]/\l.length<=100/\(∀x∈l,x∈sgL)/\∀H',Qo H H'->Q (.str (tx (l.map (mkS b)))) H'
theorem qT(F:Fun K "sign_text" "sign_text" Km f fd)(T:Txt K mg tk c kr)(KN:KDict P w K (kr 4) nbV)(KW:KDict P w K (kr 5) bwV):FnOk P w K mg base (CXE P w) 1 f fd ["symbols","is_below"] zZ:=by
 refine okN F qy (fun vs H Q E h=>?_) (fun cdv A outer s H vs Q E hr h=>?_)
 ·obtain⟨l,b,rfl,_⟩:=h;rfl
 ·obtain⟨l,b,rfl,hl,hs,k⟩:=h;have hz:1000<=sizeLine:=by decide
  have htl:=Qq l;refine⟨_,(Qf (Qn (JO plainAttrs_str slot_str_join type_str_join Kh Qk (Qa (VL (NB:=[".0","symbol"]) (FR:=["is_below"]) (fi:=[1]) rfl ⟨rfl,by decide+kernel,by decide+kernel,by decide+kernel,by decide+kernel,by decide+kernel⟩ rfl rfl (zQ (pv 0)) (fun _ _ _=>(Qi (i:=1) (show([".0","symbol","is_below"]:List Str).Nodup by decide+kernel) rfl (Or.inl rfl))) (fun _ _ _=>Z7) (fun _ _ _=>(Jj (w6 (K0:=K) rfl (pv 2) (fun _=>rfl)) (WY KW (QG (v:=V.ref (kr 5)) rfl T.pB rfl) (pv 1) (fun _ _=>rfl)) (WY KN (QG (v:=V.ref (kr 4)) rfl T.gZ rfl) (pv 1) (fun _ _=>rfl))))) Qb)))),?_⟩;refine⟨rfl,?_⟩;refine w4 (z:=tx l) (fv:=[.bl b]) (fun m vs H2=>vs=((l.take m).map (mkS b)).map (fun c=>V.str (tx [c]))/\H2=H) (fun R h=>⟨_,rfl,h⟩) (VR fun x hx=>QdT (hs x hx)) rfl ⟨rfl,rfl⟩ (fun m vs H hm⟨e,_⟩=>?_) ?_ ?_ (by show(tx l).length<sizeLine;omega)
  ·rw[e,uN,uN,uY];omega
  ·rintro m cc vs H1 hx ⟨rfl,rfl⟩;have hx':l[m]? =some cc:=by simpa using hx
   have hm:=hs cc (u6 hx');have htk:l.take (m+1)=l.take m++[cc]:=by rw[List.take_add_one,hx'];rfl
   rw[show(⟨#[cc]⟩:Str)=tx [cc]from rfl];refine⟨rfl,?_⟩;dsimp only[yD];refine QY ⟨_,rfl,b,rfl,?_⟩;have fin:∀bb:Bool,bb=b->((l.take m).map (mkS b)).map (fun c=>V.str (tx [c]))++[.str (tx [mkS bb cc])]=((l.take (m+1)).map (mkS b)).map (fun c=>V.str (tx [c])):=fun bb e=>by rw[htk,e];simp
   cases b with
   |true=>exact QY ⟨_,rfl,Sum.inr (tx [cc]),_,rfl,rfl,Qe4 hm,fin true rfl,rfl⟩
   |false=>exact QO ⟨_,rfl,Sum.inr (tx [cc]),_,rfl,rfl,Qe3 hm,fin false rfl,rfl⟩
  ·rintro vs H1 ⟨rfl,rfl⟩ q hq;rw[List.take_of_length_le (show l.length<=(tx l).cps.size by simp)];refine⟨"",q,(l.map (mkS b)).map fun c=>tx [c],rfl,rfl,SqL.of (by rw[Qd,tG (f:=fun c=>tx [c])];rfl),Vu (by rw[uN];omega),?_⟩;rw[XE];exact k _ (Qo.new hq)
noncomputable def jV:Sp:=fun vs H Q _=>∃(d:Nat)(r:List Nat),vs=[.str (tx (d::r))]/\r.length<=200/\Q (.bl (!(d::r).contains 57&& !flo d)) H
theorem VS(F:Fun K "hides_nought" "hides_nought" ZT f fd)(T:Txt K mg tk c kr):FnOk P w K mg base (CXE P w) 1 f fd ["body"] jV:=by
 refine okN F VA (fun vs H Q E h=>?_) (fun cdv A outer s H vs Q E hr h=>?_)
 ·obtain⟨d,r,rfl,_⟩:=h;rfl
 ·obtain⟨d,r,rfl,hl,k⟩:=h;have hz:1000<=sizeLine:=by decide
  refine⟨_,(Qf (Qn (U6 (Zd J8 Qk (pv 0) (by with_unfolding_all rfl)) (U5 (Zd J8 (Qw XA (pv 0) Qg (fun _ _=>rfl)) (QG (v:=V.str "+-$") rfl T.gB ⟨_,rfl⟩) (by with_unfolding_all rfl)))))),?_⟩;refine⟨_,rfl,_,_,rfl,rfl,_,rfl,?_⟩;rw[Qba,Xt];cases h1:(d::r).contains 57 with
  |true=>rw[h1]at k;exact QO k
  |false=>
   rw[h1]at k;have h0:(d::r)[0]? =some d:=rfl;refine QY ⟨_,rfl,tx (d::r),(0:Int),d,rfl,rfl,by rw[Qq,uT];omega,JI h0,_,_,rfl,rfl,?_⟩;rw[show(⟨#[d]⟩:Str)=tx [d]from rfl,vb,Xt];exact k
noncomputable def Uy:Sp:=fun vs H Q _=>∃l:List Nat,vs=[.str (tx l)]/\l.length<=200/\(∀x∈l,x<128)/\∀H',Qo H H'->Q (.str (tx (VP l))) H'
theorem Yi(F:Fun K "nought_text" "nought_text" Xe f fd)(O:Own mg):FnOk P w K mg base (CXE P w) 1 f fd ["symbols"] Uy:=by
 refine okN F Yd (fun vs H Q E h=>?_) (fun cdv A outer s H vs Q E hr h=>?_)
 ·obtain⟨l,rfl,_⟩:=h;rfl
 ·obtain⟨l,rfl,hl,ha,k⟩:=h;have hz:1000<=sizeLine:=by decide
  have htl:=Qq l;refine⟨_,(Qc (QM (Qj J8 Qk (pv 0) (by with_unfolding_all rfl)) (Qf (Qn (QC Zw Qk (Qr Q2 rfl O.len PySem.boot_len (Qa (pv 0) Qb))))) Qu)
   (Qf (Qn (JO plainAttrs_str slot_str_join type_str_join Kh Qk (Qa (ZE (NB:=[".0","symbol"]) rfl ⟨rfl,by decide+kernel,by decide+kernel,by decide+kernel⟩ (zQ (pv 0)) (fun _ _ _=>(Qi (i:=1) (show([".0","symbol"]:List Str).Nodup by decide+kernel) rfl (Or.inl rfl))) (fun _ _ _=>Z7) (fun _ _ _=>(Jj (Qj Jc (pv 1) Qk (Qm _)) Qk Qk))) Qb))))),?_⟩
  refine⟨_,rfl,_,_,rfl,rfl,_,rfl,?_⟩;rw[Qa9,Xt];cases hst:l.contains 42 with
  |false=>
   have hn:VP l=List.replicate l.length 32:=by unfold VP;rw[if_neg (fun z=>by rw[List.contains_iff_mem.mpr z]at hst;cases hst)]
   rw[hn]at k;refine QY ⟨_,rfl,tx l,rfl,by omega,?_⟩;rw[jU];refine⟨tx [32],((tx l).length:Int),rfl,rfl,by omega,by rw[Qq,tM,uS];omega,by omega,?_⟩;rw[tM,qP,htl];exact k _ (Qo.refl _)
  |true=>
   have hn:VP l=l.map (fun c=>if c=46 then 46 else 42):=by unfold VP;rw[if_pos (List.contains_iff_mem.mp hst)]
   rw[hn]at k;refine QO ⟨rfl,?_⟩;refine zR (z:=tx l) (fun m vs H2=>vs=((l.take m).map (fun c=>if c=46 then 46 else 42)).map (fun c=>V.str (tx [c]))/\H2=H) (fun R h=>⟨_,rfl,h⟩) (VR ha) ⟨rfl,rfl⟩ (fun m vs H hm⟨e,_⟩=>?_) ?_ ?_ (by show(tx l).length<sizeLine;omega)
   ·rw[e,uN,uN,uY];omega
   ·rintro m cc vs H1 hx ⟨rfl,rfl⟩;have hx':l[m]? =some cc:=by simpa using hx
    have htk:l.take (m+1)=l.take m++[cc]:=by rw[List.take_add_one,hx'];rfl
    rw[show(⟨#[cc]⟩:Str)=tx [cc]from rfl,Qf4];dsimp only[QV,yD];refine QY ⟨_,rfl,rfl,_,rfl,?_⟩;rw[JJ]
    by_cases h46:cc=46
    ·rw[uP h46];exact QY ⟨by rw[htk];simp[h46],rfl⟩
    ·rw[uO h46];exact QO ⟨by rw[htk];simp[h46],rfl⟩
   ·rintro vs H1 ⟨rfl,rfl⟩ q hq;rw[List.take_of_length_le (show l.length<=(tx l).cps.size by simp)];refine⟨"",q,(l.map (fun c=>if c=46 then 46 else 42)).map fun c=>tx [c],rfl,rfl,SqL.of (by rw[Qd,tG (f:=fun c=>tx [c])];rfl),Vu (by rw[uN];omega),?_⟩;rw[XE];exact k _ (Qo.new hq)
end
end Lw
namespace K09
open K02 K04 PySem.NumText
theorem jW:∀(l fs:List Nat),(spr l fs).length=l.length:=by
 intro l
 induction l with
 |nil=>intro fs;rfl
 |cons c r ih=>
  intro fs;cases h:bes c with
  |none=>rw[zW h,uT,uT,ih]
  |some d=>rw[zX h,uT,uT,ih]
theorem vc{l:List Nat}{i c:Nat}(h:l[i]? =some c):many (l.take (i+1))=many (l.take i)+(if bes c=none then 1 else 0):=by
 rw[List.take_add_one,h,W0];show _+many [c]=_;rw[VQ];rfl
theorem Qcl(l:List Nat)(i:Nat):many (l.take i)+many (l.drop i)=many l:=by rw[←W0,List.take_append_drop]
theorem z4{fs:List Nat}{k x:Nat}(h:fs[k]? =some x)(d:Nat):(fs.drop k).headD d=x/\(fs.drop k).tail=fs.drop (k+1):=by
 have hk:=(List.getElem?_eq_some_iff.mp h).1;rw[List.drop_eq_getElem_cons hk];have:fs[k]=x:=(List.getElem?_eq_some_iff.mp h).2;exact⟨this,rfl⟩
theorem vd:∀(l s:List Nat),hid l s<=l.length:=by
 intro l
 induction l with
 |nil=>intro s;exact uQ _
 |cons c r ih=>
  intro s;rw[hid,uT]
  split
  ·exact tK _
  ·exact Nat.succ_le_succ (ih _)
end K09
namespace Lw
open PySem PySem.Spec PyProof.Rows L2 K02 K04 K15 K09
open Builtin Builtin.Str StrLaws
section
variable {P:Program}{w:World}{K:PySem.W.Frag}{mg:Str->Option Value}{base:Heap}{f:Addr}{fd:FuncData}{tk:Nat->Tok}{c kr:Nat->Addr}
noncomputable def Uz:Sp:=fun vs H Q _=>∃(body:List Nat)(u:Nat),vs=[.str (tx body),.int (u:Nat)]/\body.length<=200/\(∀x∈body,x<128)/\u<10^18/\1<=many body/\u<10^many body/\∀H',Qo H H'->Q (.str (tx (spr body (pad u (many body))))) H'
set_option maxHeartbeats 1000000 in
theorem ve(F:Fun K "spread" "spread" Y9 f fd)(O:Own mg)(T:Txt K mg tk c kr)(KB:KDict P w K (kr 3) QdR)(gH:Def P w K mg base 2 "figures_of" ["number"] zT):FnOk P w K mg base (CXE P w) 3 f fd ["body","units"] Uz:=by
 refine okN F Zy (fun vs H Q E h=>?_) (fun cdv A outer s H vs Q E hr h=>?_)
 ·obtain⟨body,u,rfl,_⟩:=h;rfl
 ·obtain⟨body,u,rfl,hl,ha,hu,hm1,hum,k⟩:=h;have hz:1000<=sizeLine:=by decide
  have htl:=Qq body;have hml:many body<=body.length:=by unfold many;exact List.length_filter_le _ _
  refine⟨_,(Qc (Qt (i:=3) Zy.nd rfl (Or.inl rfl) (Qr QF rfl O.len PySem.boot_len (Qa (ZE (NB:=[".0","symbol"]) rfl ⟨rfl,by decide+kernel,by decide+kernel,by decide+kernel⟩ (zQ (pv 0)) (fun _ _ _=>(Qi (i:=1) (show([".0","symbol"]:List Str).Nodup by decide+kernel) rfl (Or.inl rfl))) (fun _ _ _=>(jA (Xp (Yv KB (pv 1) (QG (v:=V.ref (kr 3)) rfl T.mj rfl)) (by with_unfolding_all rfl)))) (fun _ _ _=>(pv 1))) Qb)))
   (Qc (Qt (i:=4) Zy.nd rfl (Or.inl rfl) (JO plainAttrs_str slot_str_zfill type_str_zfill YY (gH.pe hr (by decide) rfl Qp (Qa (pv 1) Qb)) (Qa (pv 3) Qb)))
   (Qc (Qt (i:=5) Zy.nd rfl (Or.inl rfl) (X9 Qb))
   (Qc (Qt (i:=6) Zy.nd rfl (Or.inl rfl) Qg)
   (Qc (Xq PassesOwn.never rfl (zQ (pv 0)) (Qi (i:=2) Zy.nd rfl (Or.inl rfl)) (Qf (QM (Xp (Qb8 KB (pv 2) (QG (v:=V.ref (kr 3)) rfl T.mj rfl)) (by with_unfolding_all rfl)) (Qf (Jb (JO plainAttrs_list PySem.F.slot_list_append PySem.F.type_list_append JC (pv 5) (Qa (WY KB (QG (v:=V.ref (kr 3)) rfl T.mj rfl) (pv 2) (fun _ _=>rfl)) Qb)))) (Qc (Jb (JO plainAttrs_list PySem.F.slot_list_append PySem.F.type_list_append JC (pv 5) (Qa (Qw XA (pv 4) (pv 6) (fun _ _=>rfl)) Qb)))
   (Qf (Kv (i:=6) Zy.nd rfl (Or.inl rfl) Qg WD))))))
   (Qf (Qn (JO plainAttrs_str slot_str_join type_str_join Kh Qk (Qa (pv 5) Qb))))))))),?_⟩
  dsimp only[QV,Z2,Xu,Js];refine len_signs (l:=body) place rfl ha (by omega) (fun R h=>⟨_,rfl,h⟩) (fun y H1 R h=>?_) fun H1 S1=>?_
  ·refine⟨_,rfl,Sum.inr (tx [y]),rfl,rfl,_,rfl,?_⟩;rw[w8];unfold place at h;cases e:bes y<;>rw[e]at h<;>exact h
  have hmany:(body.filter place).length=many body:=rfl;rw[hmany];refine⟨_,rfl,u,rfl,hu,fun H2 S2=>⟨rfl,_,rfl,tx (dec u),(many body:Nat),rfl,rfl,VN (by omega) (by omega),?_⟩⟩;rw[qN u hm1];have hfl:=jS hum hm1;generalize hfg:pad u (many body)=figs at*;have hfl2:=Qq figs;refine⟨sL0,fun p hp=>?_⟩;have S03:Qo H (upd H2 p (.lst [])):=(S1.trans S2).trans (Qo.new hp);have S02:=S1.trans S2;refine⟨_,rfl,tx body,rfl,VR ha,Qcj (z:=tx body) (fun i σ H3=>∃x2 done,σ=[some (.str (tx body)),some (.int (u:Nat)),x2,some (.int (many body:Nat)),some (.str (tx figs)),some (.ref p),some (.int (many (body.take i):Nat))]/\H3=upd H2 p (.lst (done.map fun c=>.str (tx [c])))/\done.length=i/\done++spr (body.drop i) (figs.drop (many (body.take i)))=spr body figs)
   ⟨none,[],rfl,rfl,rfl,rfl⟩ ?_ ?_⟩
  ·rintro i cc σ H3 hx ⟨x2,done,rfl,rfl,hdl,hinv⟩;have hx':body[i]? =some cc:=by simpa using hx
   have hi:=(List.getElem?_eq_some_iff.mp hx').1;have hdr:body.drop i=cc::body.drop (i+1):=by
    rw[List.drop_eq_getElem_cons hi]
    congr 1
    exact(List.getElem?_eq_some_iff.mp hx').2
   have hmt:=vc hx';rw[show(⟨#[cc]⟩:Str)=tx [cc]from rfl];refine⟨_,rfl,Sum.inr (tx [cc]),rfl,rfl,_,rfl,?_⟩;rw[w8];have app:∀d:Nat,upd (upd H2 p (.lst (done.map fun c=>V.str (tx [c])))) p (.lst ((done.map fun c=>V.str (tx [c]))++[.str (tx [d])]))=upd H2 p (.lst ((done++[d]).map fun c=>V.str (tx [c]))):=fun d=>by
    funext b
    by_cases hb:b=p
    ·subst hb;rw[Qd,Qd];simp
    ·rw[Ql hb,Ql hb,Ql hb]
   cases hbe:bes cc with
   |some d=>
    rw[hdr,zX hbe]at hinv;refine QY ⟨_,rfl,.inl ⟨rfl,_,.inl (.inl Qd)⟩,_,rfl,Sum.inr (tx [cc]),_,rfl,rfl,by rw[w8,hbe];rfl,p,_,_,rfl,rfl,Qd,by rw[uN];omega,?_⟩;rw[app d];refine⟨some (.str (tx [cc])),done++[d],?_,rfl,by rw[uM,hdl];rfl,?_⟩
    ·rw[hmt,if_neg (by rw[hbe];simp)];rfl
    ·rw[hmt,if_neg (by rw[hbe];simp),tq];exact hinv
   |none=>
    have hlt:many (body.take i)<figs.length:=by
     have:=Qcl body (i+1);rw[hmt,if_pos hbe]at this;omega
    obtain⟨g,hg⟩:∃g,figs[many (body.take i)]? =some g:=⟨_,List.getElem?_eq_getElem hlt⟩;obtain⟨e1,e2⟩:=z4 hg 48;rw[hdr,zW hbe,e1,e2]at hinv;refine QO ⟨_,rfl,.inl ⟨rfl,_,.inl (.inl Qd)⟩,_,rfl,_,rfl,tx figs,_,g,rfl,rfl,by omega,JI hg,p,_,_,rfl,rfl,Qd,by rw[uN];omega,?_⟩;rw[show(⟨#[g]⟩:Str)=tx [g]from rfl,app g];refine⟨_,rfl,_,_,rfl,rfl,some (.str (tx [cc])),done++[g],?_,rfl,by rw[uM,hdl];rfl,?_⟩
    ·rw[hmt,if_pos hbe];rfl
    ·rw[hmt,if_pos hbe,tq];exact hinv
  ·rintro σ H3 ⟨x2,done,rfl,rfl,hdl,hinv⟩;have hsz:(tx body).cps.size=body.length:=by simp
   rw[hsz]at hinv hdl;rw[List.drop_of_length_le (uQ _)]at hinv;have hd2:done=spr body figs:=by rw[←hinv];simp[spr]
   refine⟨rfl,_,rfl,"",p,done.map fun c=>tx [c],rfl,rfl,SqL.of (by rw[Qd,tG];rfl),Vu (by omega),?_⟩;rw[XE,hd2];exact k _ (fun b o e=>by rw[Ql (Qv (S02 _ _ e) hp)];exact S02 _ _ e)
noncomputable def UA:Sp:=fun vs H Q _=>∃body sg:List Nat,vs=[.str (tx body),.str (tx sg)]/\body.length<=200/\(∀x∈body,x<128)/\sg.length=body.length/\∀H',Qo H H'->Q (.int (hid body sg:Nat)) H'
theorem qU(F:Fun K "hidden_in" "hidden_in" Ko f fd)(O:Own mg)(OE:mg "enumerate"=none)(T:Txt K mg tk c kr):FnOk P w K mg base (CXE P w) 1 f fd ["body","signs"] UA:=by
 refine okN F XM (fun vs H Q E h=>?_) (fun cdv A outer s H vs Q E hr h=>?_)
 ·obtain⟨body,sg,rfl,_⟩:=h;rfl
 ·obtain⟨body,sg,rfl,hl,ha,hsg,k⟩:=h;have hz:1000<=sizeLine:=by decide
  have htl:=Qq body;have hts:=Qq sg;refine⟨_,(Qc (Xq PassesOwn.never rfl (Qai rfl OE (Qa (pv 0) Qb)) (QN rfl (Qh (Qi (i:=2) XM.nd rfl (Or.inl rfl)) (Qh (Qi (i:=3) XM.nd rfl (Or.inl rfl)) QA))) (Qf (QM (PW.pt (Z3 (Qj Jc (pv 3) Qk (Qm _)) (J7 (PW.pt (Zi (Qj J8 (pv 3) (QG (v:=V.str ",B0/") rfl T.gL ⟨_,rfl⟩) (by with_unfolding_all rfl)) (JX (Qj Z5 (Qw XA (pv 1) (pv 2) (fun _ _=>rfl)) Qk (Qm _)))))))) (Qf (Qn (pv 2))) Qu)))
   (Qf (Qn (Qr Q2 rfl O.len PySem.boot_len (Qa (pv 0) Qb))))),?_⟩
  refine⟨_,rfl,tx body,rfl,VR ha,wZ (z:=tx body) (fun i σ H2=>∃x2 x3,σ=[some (.str (tx body)),some (.str (tx sg)),x2,x3]/\Qo H H2/\hid body sg=i+hid (body.drop i) (sg.drop i)) ⟨none,none,rfl,Qo.refl H,by simp⟩ ?_ ?_⟩
  ·rintro i cc σ H2 p hx ⟨x2,x3,rfl,S2,hinv⟩ hp;have hx':body[i]? =some cc:=by simpa using hx
   have hi:=(List.getElem?_eq_some_iff.mp hx').1;have hdr:body.drop i=cc::body.drop (i+1):=by
    rw[List.drop_eq_getElem_cons hi]
    congr 1
    exact(List.getElem?_eq_some_iff.mp hx').2
   obtain⟨g,hg⟩:∃g,sg[i]? =some g:=⟨_,List.getElem?_eq_getElem (by omega)⟩;obtain⟨e1,e2⟩:=z4 hg 0;have S3:=S2.trans (Qo.new (o:=.tup [.int (i:Nat),.str ⟨#[cc]⟩]) hp);rw[hdr,hid,e1,e2]at hinv;refine⟨p,_,rfl,SqT.of Qd,rfl,_,_,rfl,_,_,rfl,rfl,?_⟩;generalize upd H2 p (.tup [.int (i:Nat),.str ⟨#[cc]⟩])=H3 at S3;rw[show(⟨#[cc]⟩:Str)=tx [cc]from rfl];refine⟨_,rfl,rfl,_,rfl,?_⟩;rw[Qba,JJ]
   by_cases h9:cc=57
   ·rw[uP h9];rw[if_pos (.inl h9)]at hinv;refine QY (QY ⟨_,rfl,?_⟩);have:=k H3 S3;rw[hinv]at this;exact this
   ·rw[uO h9];refine QO ⟨_,rfl,_,_,rfl,rfl,_,rfl,?_⟩;rw[QdV,Xt];cases hin:([44,66,48,47]:List Nat).contains cc with
    |true=>
     rw[if_neg (by rintro(q|⟨q,_⟩);exact h9 q;rw[show ins cc=true from hin]at q;cases q)]at hinv;exact QO (QO ⟨_,_,rfl,S3,by omega⟩)
    |false=>
     refine QY ⟨_,rfl,_,rfl,tx sg,_,g,rfl,rfl,by omega,JI hg,rfl,_,rfl,?_⟩;rw[show(⟨#[g]⟩:Str)=tx [g]from rfl,QdU,JJ]
     by_cases h48:g=48
     ·rw[uP h48];rw[if_neg (by rintro(q|⟨_,q⟩);exact h9 q;exact q h48)]at hinv;exact QO ⟨_,_,rfl,S3,by omega⟩
     ·rw[uO h48];rw[if_pos (.inr ⟨hin,h48⟩)]at hinv;refine QY ⟨_,rfl,?_⟩;have:=k H3 S3;rw[hinv]at this;exact this
  ·rintro σ H2 ⟨x2,x3,rfl,S2,hinv⟩;have hsz:(tx body).cps.size=body.length:=by simp
   rw[hsz,List.drop_of_length_le (uQ _)]at hinv;refine⟨_,rfl,tx body,rfl,by omega,?_⟩;have:=k H2 S2;rw[hinv]at this;rw[htl];exact this
noncomputable def jX:Sp:=fun vs H Q _=>∃(d:Nat)(r:List Nat)(u:Nat)(b:Bool),vs=[.str (tx (d::r)),.int (u:Nat),.bl b]/\r.length<=190/\(∀x∈d::r,x<128)/\u<10^18/\1<=many (d::r)/\u<10^many (d::r)/\∀H',Qo H H'->Q (.str (tx (qS (d::r) u b))) H'
theorem qV(F:Fun K "body_text" "body_text" Kn f fd)(T:Txt K mg tk c kr)(pV:Def P w K mg base 3 "spread" ["body","units"] Uz)(nE:Def P w K mg base 1 "hidden_in" ["body","signs"] UA)(gD:Def P w K mg base 1 "sign_text" ["symbols","is_below"] zZ):
  FnOk P w K mg base (CXE P w) 4 f fd ["body","units","is_below"] jX:=by
 refine okN F ZI (fun vs H Q E h=>?_) (fun cdv A outer s H vs Q E hr h=>?_)
 ·obtain⟨d,r,u,b,rfl,_⟩:=h;rfl
 ·obtain⟨d,r,u,b,rfl,hl,ha,hu,hm1,hum,k⟩:=h;have hz:1000<=sizeLine:=by decide
  have h0:(d::r)[0]? =some d:=rfl;have hbl:=Qq (d::r);rw[uT]at hbl;refine⟨_,(Qc (Qt (i:=3) ZI.nd rfl (Or.inl rfl) (pV.pe hr (by decide) rfl Qp (Qa (pv 0) (Qa (pv 1) Qb))))
   (Qc (Qt (i:=4) ZI.nd rfl (Or.inl rfl) (nE.pe hr (by decide) rfl Qp (Qa (pv 0) (Qa (pv 3) Qb))))
   (Qc (Qt (i:=5) ZI.nd rfl (Or.inl rfl) (Qw XA (pv 0) Qg (fun _ _=>rfl)))
   (Qc (QM (Qj Zv (pv 5) (QG (v:=V.str "+-$") rfl T.gB ⟨_,rfl⟩) (by with_unfolding_all rfl)) (Qf (Qn (QC Q3 (QC Q3 (QC Zw Qk (QC Vg (pv 4) Qg)) (gD.pe hr (by decide) rfl Qp (Qa (pv 5) (Qa (pv 2) Qb)))) (QZ ZF (pv 3) (QX (pv 4)) JY)))) Qu)
   (Qf (Qn (QC Q3 (QC Zw (Jj (Qj Jc (pv 5) Qk (Qm _)) Qk Qk) (pv 4)) (QZ ZF (pv 3) (QX (pv 4)) JY)))))))),?_⟩
  refine⟨_,rfl,_,rfl,d::r,u,rfl,by rw[uT];omega,ha,hu,hm1,hum,fun H1 S1=>?_⟩;have hsl:=jW (d::r) (pad u (many (d::r)));have hhl:=vd (d::r) (spr (d::r) (pad u (many (d::r))));unfold qS at k;generalize spr (d::r) (pad u (many (d::r)))=sg at hsl hhl k;have htg:=Qq sg;refine⟨_,rfl,_,rfl,d::r,sg,rfl,by rw[uT];omega,ha,hsl,fun H2 S2=>?_⟩;generalize hid (d::r) sg=hi at hhl k;rw[uT]at hsl hhl;refine⟨_,rfl,tx (d::r),(0:Int),d,rfl,rfl,by omega,JI h0,?_⟩;rw[show(⟨#[d]⟩:Str)=tx [d]from rfl];refine⟨_,rfl,_,_,rfl,rfl,_,rfl,?_⟩;rw[vb,Xt];rw[show(d::r).headD 0=d from rfl]at k;have hdt:=Qq (sg.drop hi);rw[uZ]at hdt;cases hfl:([43,45,36]:List Nat).contains d with
  |true=>
   rw[if_pos (show flo d=true from hfl)]at k;have hsgm:d∈sgL:=by
    have:∀d∈([43,45,36]:List Nat),d∈sgL:=by decide
    exact this d (List.contains_iff_mem.mp hfl)
   rw[jU];refine QY ⟨_,rfl,_,_,rfl,rfl,tx [32],(hi:Int)-1,rfl,rfl,by omega,by rw[Qq,uS];omega,by omega,?_⟩;rw[qP];refine⟨_,rfl,_,rfl,[d],b,rfl,by simp,fun x hx=>by rw[List.mem_singleton.mp hx];exact hsgm,fun H3 S3=>?_⟩;refine⟨_,_,rfl,rfl,by rw[Qq,Qq,tj,uN,uS];omega,?_⟩;rw[Zl];refine⟨_,rfl,_,rfl,_,rfl,tx sg,rfl,by omega,?_⟩;rw[X2];refine⟨_,_,rfl,rfl,by rw[Qq,hdt,uM,tj,uN,uS];omega,?_⟩;rw[Zl,show((hi:Int)-1).toNat=hi-1 by omega];exact k _ ((S1.trans S2).trans S3)
  |false=>
   rw[if_neg (by rw[show flo d=false from hfl];decide)]at k;refine QO ?_;refine⟨_,rfl,rfl,_,rfl,?_⟩;rw[Qa9,JJ];refine Vq (fun v H'=>v=.str (tx [if d=42 then 42 else 32])/\H'=H2) (fun z rest=>rest _ _ ⟨by rw[if_pos (of_decide_eq_true z)],rfl⟩) (fun z rest=>rest _ _ ⟨by rw[jU,if_neg (of_decide_eq_false z)],rfl⟩) ?_;rintro v H' ⟨rfl,rfl⟩;refine⟨_,rfl,tx [if d=42 then 42 else 32],(hi:Int),rfl,rfl,by omega,by rw[Qq,tM,uS];omega,by omega,?_⟩;rw[tM,qP];refine⟨_,rfl,_,rfl,_,rfl,tx sg,rfl,by omega,?_⟩;rw[X2];refine⟨_,_,rfl,rfl,by rw[Qq,hdt,tj];omega,?_⟩;rw[Zl];exact k _ (S1.trans S2)
end
theorem Rws.tk{H:Hp}{rs:List Addr}{rows:List Rw}(h:Rws H rs rows):∀k,Rws H (rs.take k) (rows.take k):=by
 induction h with
 |nil=>intro k;rw[List.take_nil,List.take_nil];exact .nil
 |cons a _ ih=>
  intro k;cases k with
  |zero=>exact .nil
  |succ k=>exact .cons a (ih k)
theorem Qcm(rs:List Addr){a b:Nat}(h:a<=b)(hb:b<=rs.length):U2 (rs.map V.ref) (some (a:Int)) (some (b:Int))=((rs.drop a).take (b-a)).map V.ref:=by
 unfold U2;rw[HT.Z6,HT.Z6,uN,Nat.min_eq_left (Nat.le_trans h hb),Nat.min_eq_left hb,List.map_take,List.map_drop]
theorem Qcn:∀l∈([[],[43],[45],[36],[43,36],[45,36]]:List (List Nat)),(∀x∈l,x∈sgL)/\l.length<=2:=by decide
theorem Qco:∀l∈([[],[43],[45],[67,82],[68,66]]:List (List Nat)),(∀x∈l,x∈sgL)/\l.length<=2:=by decide
theorem Qaq:∀x∈Qa7,x<128:=by decide
theorem Qar{lead W N broken tail:List Nat}(h:lead.length+(W.length+N.length)+broken.length+tail.length<=60):(JM lead W N broken tail).length<=61:=by
 have hdl:(QE broken).length<=broken.length+1:=by unfold QE;split<;>simp
 unfold JM;rw[uM,uM,uM,uM];omega
theorem vf(lead W N broken tail:List Nat):JM lead W N broken tail=lead++(W++N++QE broken)++tail:=by unfold JM;simp[tq]
section
variable {P:Program}{w:World}{K:PySem.W.Frag}{mg:Str->Option Value}{base:Heap}{f:Addr}{fd:FuncData}{tk:Nat->Tok}{c kr:Nat->Addr}
noncomputable def UB(K:PySem.W.Frag):Sp:=fun vs H Q _=>∃(p:Addr)(rs:List Addr)(lead:List Nat)(first:Nat)(W N broken tail:List Nat),vs=[.ref p]/\RowsAt K H p rs (rle [] (JM lead W N broken tail))/\Ed lead first W N broken tail/\lead.length+(W.length+N.length)+broken.length+tail.length<=60/\
 ∀q H',Qo H H'->H' q=some (.tup [.str (tx lead),.str (tx (W++N++QE broken)),.str (tx tail)])->Q (.ref q) H'
theorem VT(F:Fun K "edited_parts" "edited_parts" ZQ f fd)(me:Def P w K mg base 2 "lead_of" ["rows"] (zK K))(mf:Def P w K mg base 3 "body_of" ["rows","at"] (zM K))(mH:Def P w K mg base 1 "written_out" ["rows"] (Qce K))(mh:Def P w K mg base 1 "tail_of" ["rows","at"] (zL K)):
  FnOk P w K mg base (CXE P w) 4 f fd ["rows"] (UB K):=by
 refine okN F QU (fun vs H Q E h=>?_) (fun cdv A outer s H vs Q E hr h=>?_)
 ·obtain⟨p,rs,lead,first,W,N,broken,tail,rfl,_⟩:=h;rfl
 ·obtain⟨p,rs,lead,first,W,N,broken,tail,rfl,R,Ee,hl,k⟩:=h;have hz:1000<=sizeLine:=by decide
  have hll:=Qar hl;have hpos:=Qag Ee.QeX;have hrw:=Ee.rows;have hlead:=Ee.QdH (rle [] N++(rle [] (QE broken)++rle [] tail));rw[←hrw]at hlead;generalize hrows:rle [] (JM lead W N broken tail)=rows at*;have hrl:rs.length=rows.length:=R.rw.len;have hle:=R.le;refine⟨_,(Qc (Q0 (me.pe hr (by decide) rfl Qp (Qa (pv 0) Qb)) (QN rfl (Qh (Qi (i:=1) QU.nd rfl (Or.inl rfl)) (Qh (Qi (i:=2) QU.nd rfl (Or.inl rfl)) QA))))
   (Qc (Q0 (mf.pe hr (by decide) rfl Qp (Qa (pv 0) (Qa (pv 2) Qb))) (QN rfl (Qh (Qi (i:=3) QU.nd rfl (Or.inl rfl)) (Qh (Qi (i:=4) QU.nd rfl (Or.inl rfl)) (Qh (Qi (i:=5) QU.nd rfl (Or.inl rfl)) (Qh (Qi (i:=6) QU.nd rfl (Or.inl rfl)) (Qh (Qi (i:=7) QU.nd rfl (Or.inl rfl)) QA)))))))
   (Qf (Qn (QI (Qa (pv 1) (Qa (mH.pe hr (by decide) rfl Qp (Qa (QZ ju (pv 0) (QX (pv 2)) (QX (pv 7))) Qb)) (Qa (mh.pe hr (by decide) rfl Qp (Qa (pv 0) (Qa (pv 7) Qb))) Qb)))))))),?_⟩
  refine⟨_,rfl,p,rs,rows,rfl,R,fun ld b hb hll1 h1 q1 H1 S1 g1=>⟨q1,_,rfl,SqT.of g1,rfl,_,_,rfl,_,_,rfl,rfl,?_⟩⟩;rw[hlead]at h1;obtain⟨rfl,h1b⟩:lead=ld/\_:=by injection h1 with a1 a2;exact⟨a1,a2⟩
  refine⟨_,rfl,_,rfl,p,rs,rows,b,rfl,R.same S1,hb,fun pl many nines b2 b3 o hb3 h2 h3 q2 H2 S2 g2=>⟨q2,_,rfl,SqT.of g2,rfl,_,_,rfl,_,_,rfl,_,_,rfl,_,_,rfl,_,_,rfl,rfl,?_⟩⟩;rw[←h1b,Ee.whole]at h2;obtain⟨rfl,rfl,rfl,h2b⟩:[first]=pl/\W.count first=many/\N.count 57=nines/\_:=by injection h2 with a1 a2;injection a2 with a2 a3;injection a3 with a3 a4;exact⟨a1,a2,a3,a4⟩
  rw[←h2b,Ee.wO]at h3;have h3b:rle [] tail=rows.drop b3:=by injection h3
  have hL1:=congrArg List.length h1b;have hL3:=congrArg List.length h3b;simp only[uM,uZ]at hL1 hL3;have hbb:b<=b3:=by omega
  have hmid:(rows.drop b).take (b3-b)=rle [] W++(rle [] N++rle [] (QE broken)):=by
   rw[←h1b];have e:rle [] W++(rle [] N++(rle [] (QE broken)++rle [] tail))=(rle [] W++(rle [] N++rle [] (QE broken)))++rle [] tail:=by simp[tq]
   rw[e,List.take_append_of_le_length (by simp only[uM];omega),List.take_of_length_le (by simp only[uM];omega)]
  have S12:=S1.trans S2;refine⟨_,rfl,_,rfl,_,rfl,_,rfl,_,rfl,_,rfl,p,_,rfl,(R.same S12).sq,fun p2 hp2=>?_⟩;rw[Qcm rs hbb (by omega)];have S3:=Qo.new (o:=.lst (((rs.drop b).take (b3-b)).map V.ref)) hp2;have R2:RowsAt K (upd H2 p2 (.lst (((rs.drop b).take (b3-b)).map V.ref))) p2 ((rs.drop b).take (b3-b)) (rle [] W++(rle [] N++rle [] (QE broken))):=by
   rw[←hmid];exact⟨SqL.of Qd,(((R.same S12).rw.dr b).tk (b3-b)).keep fun x xs h=>S3 _ _ h,by rw[uY,uZ];omega⟩
  have hun:un (rle [] W++(rle [] N++rle [] (QE broken)))=W++N++QE broken:=by rw[qJ,qJ,jQ,jQ,jQ,tq]
  have hdl:(QE broken).length<=broken.length+1:=by unfold QE;split<;>simp
  refine⟨p2,_,_,rfl,R2,fun x hx=>?_,by rw[hun,uM,uM];omega,fun H4 S4=>?_⟩
  ·have hx2:x∈rows:=List.mem_of_mem_drop (i:=b) (List.mem_of_mem_take (i:=b3-b) (by rw[hmid];exact hx));obtain⟨y1,y2,y3⟩:=hpos x hx2;exact⟨y1,by omega,y3⟩
  rw[hun];have S14:=(S12.trans S3).trans S4;refine⟨_,rfl,_,rfl,p,rs,rows,b3,rfl,R.same S14,hb3,fun H5 S5=>?_⟩;have htl:Kb (rows.drop b3)=some tail:=by rw[←h3b];exact(XS tail Ee.tl).1
  rw[htl];refine⟨sL3,fun q hq=>?_⟩;exact k q _ ((S14.trans S5).trans (Qo.new hq)) Qd
noncomputable def UC(K:PySem.W.Frag)(c:Nat->Addr):Sp:=fun vs H Q E=>∃(l:List Nat)(p:Addr)(u:Int)(o:Nat),vs=[.str (tx l),.ref p]/\l.length<=500/\Amt K H p u o/\
 (((∀x,QR l=some x->x.kind<=3/\x.kind≠3)/\∀H',Qo H H'->E (.ref (c 2)) none H')\/
  ∃(lead:List Nat)(first:Nat)(W N broken tail:List Nat),Ed lead first W N broken tail/\lead.length+(W.length+N.length)+broken.length+tail.length<=60/\l=JM lead W N broken tail/\∀H',Qo H H'->Q (.str (tx (edT lead (W++N++QE broken) tail (fit u o (bef first W N) broken.length)))) H')
theorem _root_.K04.Ed.small{lead:List Nat}{first:Nat}{W N broken tail:List Nat}(E:Ed lead first W N broken tail):1<=bef first W N/\bef first W N+broken.length<=11/\W.count first+N.count 57=bef first W N+(if flo first=true then 1 else 0):=by
 have h1:=E.w.cn;have h2:N.count 57<=3:=by
  rcases E.n with h|⟨_,h⟩
  ·rw[h];decide
  ·exact h.cn
 have h3:broken.length<=3:=by
  rcases E.br with h|⟨k,b,hk,h,_⟩
  ·rw[h];decide
  ·rw[h,tj];omega
 have hp:1<=W.count first:=List.count_pos_iff.mpr (List.mem_of_mem_head? E.w.hd);unfold bef
 split
 ·rename_i hf;have h4:=E.fl (List.contains_iff_mem.mp hf);exact⟨by omega,by omega,by omega⟩
 ·exact⟨by omega,by omega,by omega⟩
theorem Qas(u:Int):(if u<0 then-u else u)=((u.natAbs:Nat):Int):=by split<;>omega
set_option maxHeartbeats 1000000 in
theorem vg(F:Fun K "edited" "edited" WZ f fd)(O:Own mg)(hJ:Def P w K mg base 6 "understood_as" ["kind","picture"] (VO K c))(mq:Def P w K mg base 4 "edited_parts" ["rows"] (UB K))(mU:Def P w K mg base 3 "fitted" ["amount","before","behind"] (Qak K))(mr:Def P w K mg base 1 "hides_nought" ["body"] jV)(mI:Def P w K mg base 1 "nought_text" ["symbols"] Uy)(gD:Def P w K mg base 1 "sign_text" ["symbols","is_below"] zZ)(nF:Def P w K mg base 4 "body_text" ["body","units","is_below"] jX):
  FnOk P w K mg base (CXE P w) 7 f fd ["picture","amount"] (UC K c):=by
 refine okE F JE (fun vs H Q E h=>?_) (fun cdv A outer s H vs Q E hr h=>?_)
 ·obtain⟨l,p,u,o,rfl,_⟩:=h;rfl
 ·obtain⟨l,pa,u,o,rfl,hl,M,hw⟩:=h;have hz:1000<=sizeLine:=by decide
  have fr:=Jx (P:=P) (w:=w) (K:=K) (mg:=mg) (base:=base) (N:=["picture","amount","rows","signed","before","behind","lead","body","tail","units","is_below"]) (qual:="edited") (scope:=Qe WZ) (f:=f) (cd:=cdv) (A:=A) (outer:=outer) (s:=s) (H:=H) (E:=E);have ht:=JD fr;have hx:=QL fr;refine⟨_,(Qc (Q0 (hJ.pe hr (by decide) rfl hx (Qa Qk (Qa (pv 0) Qb))) (QN rfl (Qh (Qi (i:=2) JE.nd rfl (Or.inl rfl)) (Qh (QN rfl (Qh (Qi (i:=3) JE.nd rfl (Or.inl rfl)) (Qh (Qi (i:=4) JE.nd rfl (Or.inl rfl)) (Qh (Qi (i:=5) JE.nd rfl (Or.inl rfl)) QA)))) QA))))
   (Qc (Q0 (mq.pe hr (by decide) rfl hx (Qa (pv 2) Qb)) (QN rfl (Qh (Qi (i:=6) JE.nd rfl (Or.inl rfl)) (Qh (Qi (i:=7) JE.nd rfl (Or.inl rfl)) (Qh (Qi (i:=8) JE.nd rfl (Or.inl rfl)) QA)))))
   (Qc (Qt (i:=9) JE.nd rfl (Or.inl rfl) (mU.pe hr (by decide) rfl hx (Qa (pv 1) (Qa (pv 4) (Qa (pv 5) Qb)))))
   (Qc (QM (PW.pt (Zi (Qj Jc (pv 9) Qg (Qm _)) (JX (X7 (mr.pe hr (by decide) rfl hx (Qa (pv 7) Qb)))))) (Qf (Qn (mI.pe hr (by decide) rfl hx (Qa (QC Q3 (QC Q3 (pv 6) (pv 7)) (pv 8)) Qb)))) Qu)
   (Qc (Qt (i:=10) JE.nd rfl (Or.inl rfl) (Zd Kw (pv 9) Qg (Qm _)))
   (Qf (Qn (QC Q3 (QC Q3 (gD.pe hr (by decide) rfl hx (Qa (pv 6) (Qa (pv 10) Qb))) (nF.pe hr (by decide) rfl hx (Qa (pv 7) (Qa (Qr Ky rfl O.abs PyProof.Rows.boot_abs (Qa (pv 9) Qb)) (Qa (pv 10) Qb))))) (gD.pe hr (by decide) rfl hx (Qa (pv 8) (Qa (pv 10) Qb))))))))))),?_⟩
  refine⟨_,rfl,l,3,rfl,hl,by decide,fun h=>?_,fun x hxp hxk q p rs r H1 S1 g1 g2 R1=>?_⟩
  ·rcases hw with⟨_,k1⟩|⟨lead,first,W,N,broken,tail,Ee,_,rfl,_⟩
   ·exact k1
   ·exact absurd rfl (h _ Ee.pic).2
  rcases hw with⟨hno,_⟩|⟨lead,first,W,N,broken,tail,Ee,hsz,rfl,k⟩
  ·exact absurd hxk (hno x hxp).2
  obtain rfl:=uR (Ee.pic.symm.trans hxp);obtain⟨hb1,hb11,hcnt⟩:=Ee.small;refine⟨q,_,rfl,SqT.of g1,rfl,_,_,rfl,_,_,rfl,r,_,rfl,SqT.of g2,rfl,_,_,rfl,_,_,rfl,_,_,rfl,rfl,rfl,?_⟩;rw[Yy Ee.QeX]at R1;refine⟨_,rfl,p,rs,lead,first,W,N,broken,tail,rfl,R1,Ee,hsz,fun q2 H2 S2 g3=>⟨q2,_,rfl,SqT.of g3,rfl,_,_,rfl,_,_,rfl,_,_,rfl,rfl,?_⟩⟩;have S12:=S1.trans S2;refine⟨_,rfl,_,rfl,_,rfl,pa,u,o,bef first W N,broken.length,rfl,M.same S12,by omega,fun H3 S3=>?_⟩;have S13:=S12.trans S3;have hlt:=wV u o (bef first W N) broken.length;generalize fit u o (bef first W N) broken.length=ft at*;obtain⟨rr,hrr⟩:∃rr,W++N++QE broken=first::rr:=by
   have:=Ee.QdG (N++QE broken);cases hh:W++(N++QE broken)with
   |nil=>rw[hh]at this;cases this
   |cons a r=>rw[hh]at this;exact⟨r,by rw[tq,hh,uR this]⟩
  have hmany:many (W++N++QE broken)=bef first W N+(if flo first=true then 1 else 0)+broken.length:=by rw[W0,Ee.many,Ee.Qe0,hcnt]
  have hdl:(QE broken).length<=broken.length+1:=by unfold QE;split<;>simp
  have hbl:(W++N++QE broken).length<=61:=by rw[uM,uM];omega
  have hsym:∀x∈lead++(W++N++QE broken)++tail,x<128:=fun x hx=>Qaq x (Ee.sym x (by rw[vf];exact hx));obtain⟨hls,hll⟩:=Qcn lead Ee.ld;obtain⟨hts,htl⟩:=Qco tail Ee.tl;have hedT:edT lead (W++N++QE broken) tail ft=if ft=0/\57∉(W++N++QE broken)/\flo first=false then VP (lead++(W++N++QE broken)++tail)else lead.map (mkS (decide (ft<0)))++qS (W++N++QE broken) ft.natAbs (decide (ft<0))++tail.map (mkS (decide (ft<0))):=by
   unfold edT;rw[show(W++N++QE broken).headD 0=first by rw[hrr];rfl]
  rw[hedT]at k;clear hedT g1 g2 g3 R1 M;generalize hbody:W++N++QE broken=body at*;have hmlt:ft.natAbs<10^many body:=by
   rw[hmany];exact Nat.lt_of_lt_of_le hlt (Nat.pow_le_pow_right (by decide) (by omega))
  have h18:ft.natAbs<10^18:=Nat.lt_of_lt_of_le hlt (Nat.pow_le_pow_right (by decide) (by omega));have hm1:1<=many body:=by omega
  subst hrr;dsimp only[QV,Z2,Xu];refine Uf (fun σ' H4=>(∃y0 y1 y2 y3 y4 y5,σ'=[y0,y1,y2,y3,y4,y5,some (.str (tx lead)),some (.str (tx (first::rr))),some (.str (tx tail)),some (.int ft),none])/\Qo H H4/\¬ (ft=0/\57∉(first::rr)/\flo first=false)) ?_ (fun rest=>?_)
  ·rintro σ' H4 ⟨⟨y0,y1,y2,y3,y4,y5,rfl⟩,S4,hn⟩;rw[if_neg hn]at k;refine⟨_,rfl,_,_,rfl,rfl,?_⟩;refine⟨_,rfl,_,rfl,lead,decide (ft<0),rfl,by omega,hls,fun H5 S5=>?_⟩;refine⟨_,rfl,_,rfl,ft,rfl,_,rfl,first,rr,ft.natAbs,decide (ft<0),by rw[Qas];rfl,by rw[uT]at hbl;omega,fun x hx=>hsym x (uV _ (uU _ hx)),h18,hm1,hmlt,fun H6 S6=>?_⟩;have hbt:(qS (first::rr) ft.natAbs (decide (ft<0))).length<=300:=by
    have e1:=jW (first::rr) (pad ft.natAbs (many (first::rr)));have e2:=vd (first::rr) (spr (first::rr) (pad ft.natAbs (many (first::rr))));unfold qS
    split
    ·simp only[uM,tj,uZ,uS];omega
    ·simp only[uM,tj,uZ];omega
   refine⟨_,_,rfl,rfl,by rw[Qq,Qq,uN];omega,?_⟩;rw[Zl];refine⟨_,rfl,_,rfl,tail,decide (ft<0),rfl,by omega,hts,fun H7 S7=>?_⟩;refine⟨_,_,rfl,rfl,by rw[Qq,Qq,uM,uN,uN];omega,?_⟩;rw[Zl];exact k _ (((S4.trans S5).trans S6).trans S7)
  ·refine⟨_,rfl,rfl,_,rfl,?_⟩;rw[K9]
   by_cases h0:ft=0
   ·rw[uP h0];refine QY ⟨_,rfl,first,rr,rfl,by rw[uT]at hbl;omega,_,rfl,?_⟩
    by_cases hc:57∉(first::rr)/\flo first=false
    ·have e:(!(first::rr).contains 57&& !flo first)=true:=by
      rw[hc.2,Bool.and_eq_true];refine⟨?_,rfl⟩;cases q:(first::rr).contains 57 with
      |true=>exact absurd (List.contains_iff_mem.mp q) hc.1
      |false=>rfl
     rw[e];rw[if_pos ⟨h0,hc⟩]at k;refine QY ⟨_,rfl,_,rfl,_,_,rfl,rfl,by rw[Qq,Qq];omega,?_⟩;rw[Zl];refine⟨_,rfl,_,_,rfl,rfl,by rw[Qq,Qq,uM];omega,?_⟩;rw[Zl];exact⟨_,rfl,by rw[uM,uM];omega,hsym,fun H4 S4=>k _ (S13.trans S4)⟩
    ·have e:(!(first::rr).contains 57&& !flo first)=false:=by
      cases q:(first::rr).contains 57 with
      |true=>rfl
      |false=>
       cases q2:flo first with
       |true=>rfl
       |false=>exact absurd ⟨fun z=>(by rw[List.contains_iff_mem.mpr z]at q;cases q),q2⟩ hc
     rw[e];exact QO (rest _ _ ⟨⟨_,_,_,_,_,_,rfl⟩,S13,fun z=>hc z.2⟩)
   ·rw[uO h0];exact QO (QO (rest _ _ ⟨⟨_,_,_,_,_,_,rfl⟩,S13,fun z=>h0 z.1⟩))
end
end Lw
namespace L2
open PySem PySem.Spec PyProof.Rows
open Builtin Builtin.Str
inductive Dv where
 |non|bl (b:Bool)|int (i:Int)|str (x:Str)|tup (ds:List Dv)
mutual
noncomputable def Dv.depth:Dv->Nat
 | .tup ds=>Dv.Ke ds+1
 |_=>0
noncomputable def Dv.Ke:List Dv->Nat
 |[]=>0
 |d::ds=>max (Dv.depth d) (Dv.Ke ds)
end
mutual
noncomputable def Dv.eqb:Dv->Dv->Bool
 | .non,.non=>true
 | .bl a,.bl b=>a==b
 | .bl a,.int b=>(if a then 1 else 0)==b
 | .int a,.bl b=>a==(if b then 1 else 0)
 | .int a,.int b=>a==b
 | .str a,.str b=>a==b
 | .tup xs,.tup ys=>Dv.Qbb xs ys
 |_,_=>false
noncomputable def Dv.Qbb:List Dv->List Dv->Bool
 |[],[]=>true
 |x::xs,y::ys=>Dv.eqb x y&&Dv.Qbb xs ys
 |_,_=>false
end
mutual
inductive Deep (H:Hp):V->Dv->Prop where
 |non:Deep H .non .non
 |bl {b:Bool}:Deep H (.bl b) (.bl b)
 |int {i:Int}:Deep H (.int i) (.int i)
 |str {x:Str}:Deep H (.str x) (.str x)
 |tup {a:Addr} {xs:List V} {ds:List Dv} (h:H a=some (.tup xs)) (t:Deeps H xs ds):Deep H (.ref a) (.tup ds)
inductive Deeps (H:Hp):List V->List Dv->Prop where
 |nil:Deeps H [] []
 |cons {x:V} {d:Dv} {xs:List V} {ds:List Dv} (h:Deep H x d) (t:Deeps H xs ds):Deeps H (x::xs) (d::ds)
end
theorem Deeps.length{H:Hp}:∀{xs:List V}{ds:List Dv},Deeps H xs ds->xs.length=ds.length
 |_,_,.nil=>rfl
 |_,_,.cons _ t=>congrArg (· +1) t.length
theorem Deeps.x0{H:Hp}:∀{xs:List V}{ds:List Dv}{i:Nat}{x:V},Deeps H xs ds->xs[i]? =some x->∃d,ds[i]? =some d/\Deep H x d
 |_,_,_,_,.nil,e=>by simp at e
 |_,_,0,_,.cons h _,e=>by
  simp at e;subst e;exact⟨_,rfl,h⟩
 |_,_,i+1,x,.cons _ t,e=>by
  obtain⟨d,h1,h2⟩:=Deeps.x0 (i:=i) (x:=x) t (by simpa using e);exact⟨d,by simpa using h1,h2⟩
theorem Deeps.append{H:Hp}:∀{xs ys:List V}{ds es:List Dv},Deeps H xs ds->Deeps H ys es->Deeps H (xs++ys) (ds++es)
 |_,_,_,_,.nil,q=>q
 |_,_,_,_,.cons h t,q=>.cons h (Deeps.append t q)
theorem Deeps.take{H:Hp}:∀{xs:List V}{ds:List Dv}(n:Nat),Deeps H xs ds->Deeps H (xs.take n) (ds.take n)
 |_,_,0,_=>.nil
 |_,_,_+1,.nil=>.nil
 |_,_,n+1,.cons h t=>.cons h (Deeps.take n t)
theorem Deeps.drop{H:Hp}:∀{xs:List V}{ds:List Dv}(n:Nat),Deeps H xs ds->Deeps H (xs.drop n) (ds.drop n)
 |_,_,0,t=>t
 |_,_,_+1,.nil=>.nil
 |_,_,n+1,.cons _ t=>Deeps.drop n t
mutual
theorem Deep.keep{H H':Hp}(k:∀b ys,H b=some (.tup ys)->H' b=some (.tup ys)):∀{x:V}{d:Dv},Deep H x d->Deep H' x d
 |_,_,.non=>.non
 |_,_,.bl=>.bl
 |_,_,.int=>.int
 |_,_,.str=>.str
 |_,_,.tup h t=>.tup (k _ _ h) (Deeps.keep k t)
theorem Deeps.keep{H H':Hp}(k:∀b ys,H b=some (.tup ys)->H' b=some (.tup ys)):∀{xs:List V}{ds:List Dv},Deeps H xs ds->Deeps H' xs ds
 |_,_,.nil=>.nil
 |_,_,.cons h t=>.cons (Deep.keep k h) (Deeps.keep k t)
end
theorem Deep.same{H H':Hp}{x:V}{d:Dv}(h:Deep H x d)(S:Qo H H'):Deep H' x d:=h.keep (fun b ys e=>S _ _ e)
theorem Deeps.same{H H':Hp}{xs:List V}{ds:List Dv}(h:Deeps H xs ds)(S:Qo H H'):Deeps H' xs ds:=h.keep (fun b ys e=>S _ _ e)
section
variable {X:Cx}{pins:List (Addr × Obj)}{σ:St}{H:Hp}{s:Shared}
mutual
theorem Deep.inj(I:Inv X pins σ H s):∀{x:V}{d e:Dv},Deep H x d->Deep H x e->d=e
 |_,_,_,.non,.non=>rfl
 |_,_,_,.bl,.bl=>rfl
 |_,_,_,.int,.int=>rfl
 |_,_,_,.str,.str=>rfl
 |_,_,_,.tup h t,.tup h2 t2=>by
  have e:=I.Vd (.inl (.inl h)) (.inl (.inl h2));subst e;rw[Deeps.inj I t t2]
theorem Deeps.inj(I:Inv X pins σ H s):∀{xs:List V}{ds es:List Dv},Deeps H xs ds->Deeps H xs es->ds=es
 |_,_,_,.nil,.nil=>rfl
 |_,_,_,.cons h t,.cons h2 t2=>by rw[Deep.inj I h h2,Deeps.inj I t t2]
end
end
mutual
theorem Dv.UD:∀d:Dv,d.eqb d=true
 | .non=>rfl
 | .bl b=>by cases b<;>rfl
 | .int i=>by unfold Dv.eqb;exact beq_self_eq_true i
 | .str x=>by unfold Dv.eqb;exact beq_self_eq_true x
 | .tup ds=>by unfold Dv.eqb;exact Dv.qW ds
theorem Dv.qW:∀ds:List Dv,Dv.Qbb ds ds=true
 |[]=>rfl
 |d::ds=>by unfold Dv.Qbb;rw[Dv.UD d,Dv.qW ds];rfl
end
theorem Dv.Wm:∀(ds es:List Dv),Dv.Qbb ds es=((List.range (min ds.length es.length)).all (fun j=>((ds[j]?).getD .non).eqb ((es[j]?).getD .non))&&ds.length==es.length)
 |[],[]=>rfl
 |[],e::es=>rfl
 |d::ds,[]=>rfl
 |d::ds,e::es=>by
  unfold Dv.Qbb;rw[Dv.Wm ds es,uT,uT,show min (ds.length+1) (es.length+1)=min ds.length es.length+1 by omega,List.range_succ_eq_map,List.all_cons,List.all_map,Bool.and_assoc]
  congr 1
  congr 1
  exact Bool.eq_iff_iff.mpr (by simp)
theorem Dv.UE:∀{ds:List Dv}{i:Nat}{d:Dv},ds[i]? =some d->d.depth<=Dv.Ke ds
 |[],_,_,e=>by simp at e
 |x::xs,0,d,e=>by
  simp at e;subst e;unfold Dv.Ke;omega
 |x::xs,i+1,d,e=>by
  have:=Dv.UE (ds:=xs) (i:=i) (d:=d) (by simpa using e);unfold Dv.Ke;omega
section
variable {X:Cx}{pins:List (Addr × Obj)}{σ:St}{H:Hp}{s:Shared}
theorem Deep.at1(I:Inv X pins σ H s){N:Nat}{x y:V}{d e:Dv}(hd:d.depth<=N)(hx:Deep H x d)(hy:Deep H y e){A:Around}{u v:Value}(hu:A.units+N<cLine)(rx:RelV x u)(ry:RelV y v)
  (ih:∀n,N=n+1->∀(d e:Dv)(x y:V),d.depth<=n->Deep H x d->Deep H y e->∀{A:Around}{u v:Value},A.units+n<cLine->RelV x u->RelV y v->SeqAt.EqAt A s u v (d.eqb e)):SeqAt.EqAt A s u v (d.eqb e):=by
 cases hx with
 |non=>
  cases rx;cases hy with
  |non=>
   cases ry;exact .same _
  |@bl b2=>
   cases ry;exact SeqAt.EqAt.none_bool b2
  |@int i2=>
   obtain⟨ty,rfl⟩:=ry;exact SeqAt.EqAt.none_int i2 ty
  |@str z2=>
   obtain⟨ty,rfl⟩:=ry;exact SeqAt.EqAt.none_str z2 ty
  |@tup a2 ys es h2 t2=>
   obtain rfl:v=Value.ref a2:=ry;obtain⟨its2,r2,p2,_⟩:=I.tuple (.inl (.inl h2));exact SeqAt.EqAt.none_tuple p2 (by omega)
 |@bl b=>
  cases rx;cases hy with
  |non=>
   cases ry;exact SeqAt.EqAt.bool_none b
  |@bl b2=>
   cases ry;exact SeqAt.EqAt.bool_bool b b2
  |@int i2=>
   obtain⟨ty,rfl⟩:=ry;exact SeqAt.EqAt.bool_int b i2 ty
  |@str z2=>
   obtain⟨ty,rfl⟩:=ry;exact SeqAt.EqAt.bool_str b z2 ty
  |@tup a2 ys es h2 t2=>
   obtain rfl:v=Value.ref a2:=ry;obtain⟨its2,r2,p2,_⟩:=I.tuple (.inl (.inl h2));exact SeqAt.EqAt.bool_tuple b p2 (by omega)
 |@int i=>
  obtain⟨tx,rfl⟩:=rx;cases hy with
  |non=>
   cases ry;exact SeqAt.EqAt.int_none i tx
  |@bl b2=>
   cases ry;exact SeqAt.EqAt.int_bool i tx b2
  |@int i2=>
   obtain⟨ty,rfl⟩:=ry;exact SeqAt.EqAt.int_int i tx i2 ty
  |@str z2=>
   obtain⟨ty,rfl⟩:=ry;exact SeqAt.EqAt.int_str i tx z2 ty
  |@tup a2 ys es h2 t2=>
   obtain rfl:v=Value.ref a2:=ry;obtain⟨its2,r2,p2,_⟩:=I.tuple (.inl (.inl h2));exact SeqAt.EqAt.int_tuple i tx p2 (by omega)
 |@str z=>
  obtain⟨tx,rfl⟩:=rx;cases hy with
  |non=>
   cases ry;exact SeqAt.EqAt.str_none z tx
  |@bl b2=>
   cases ry;exact SeqAt.EqAt.str_bool z tx b2
  |@int i2=>
   obtain⟨ty,rfl⟩:=ry;exact SeqAt.EqAt.str_int z tx i2 ty
  |@str z2=>
   obtain⟨ty,rfl⟩:=ry;exact SeqAt.EqAt.str_str z tx z2 ty
  |@tup a2 ys es h2 t2=>
   obtain rfl:v=Value.ref a2:=ry;obtain⟨its2,r2,p2,_⟩:=I.tuple (.inl (.inl h2));exact SeqAt.EqAt.str_tuple z tx p2 (by omega)
 |@tup a xs ds h t=>
  obtain rfl:u=Value.ref a:=rx;obtain⟨its,r1,p1,_⟩:=I.tuple (.inl (.inl h));cases hy with
  |non=>
   cases ry;exact SeqAt.EqAt.tuple_none p1 (by omega)
  |@bl b2=>
   cases ry;exact SeqAt.EqAt.tuple_bool b2 p1 (by omega)
  |@int i2=>
   obtain⟨ty,rfl⟩:=ry;exact SeqAt.EqAt.tuple_int i2 ty p1 (by omega)
  |@str z2=>
   obtain⟨ty,rfl⟩:=ry;exact SeqAt.EqAt.tuple_str z2 ty p1 (by omega)
  |@tup a2 ys es h2 t2=>
   obtain rfl:v=Value.ref a2:=ry;obtain⟨its2,r2,p2,_⟩:=I.tuple (.inl (.inl h2));obtain⟨n,rfl⟩:∃n,N=n+1:=⟨N-1,by have:=hd;unfold Dv.depth at this;omega⟩;have hl1:=t.length;have hl2:=t2.length;have q1:=r1.length;have q2:=r2.length;have z:=SeqAt.RcAt.tuples (A:=A) (s:=s) (e:=fun j=>((ds[j]?).getD .non).eqb ((es[j]?).getD .non)) p1 p2 (by omega) (qk (pins:=pins) (σ:=σ) (H:=H) (n:=n) r1 r2 fun j x y u v g1 g2 w1 w2=>?_)
   ·rw[tJ,tJ, ←q1, ←q2,hl1,hl2, ←Dv.Wm]at z
    by_cases ne:a=a2
    ·subst ne;rw[Deep.inj I (.tup h t) (.tup h2 t2),Dv.UD];exact .same _
    ·unfold Dv.eqb;exact .of_refs ne z
   ·obtain⟨d1,k1,k2⟩:=t.x0 g1;obtain⟨e1,m1,m2⟩:=t2.x0 g2;show SeqAt.EqAt A.in1 s u v (((ds[j]?).getD .non).eqb ((es[j]?).getD .non));rw[k1,m1];exact ih n rfl d1 e1 x y (Nat.le_trans (Dv.UE k1) (by have:=hd;unfold Dv.depth at this;omega)) k2 m2 (by show A.units+1+n<cLine;omega) w1 w2
theorem Deep.at(I:Inv X pins σ H s):∀(n:Nat)(d e:Dv)(x y:V),d.depth<=n->Deep H x d->Deep H y e->∀{A:Around}{u v:Value},A.units+n<cLine->RelV x u->RelV y v->SeqAt.EqAt A s u v (d.eqb e):=by
 intro n
 induction n with
 |zero=>
  intro d e x y hd hx hy A u v hu rx ry;exact Deep.at1 I hd hx hy hu rx ry fun n hn=>absurd hn (by omega)
 |succ n ih=>
  intro d e x y hd hx hy A u v hu rx ry;refine Deep.at1 I hd hx hy hu rx ry fun m hm=>?_;obtain rfl:n=m:=by omega
  exact ih
theorem Deep.Qf5(I:Inv X pins σ H s){n:Nat}{x y:V}{d e:Dv}(hd:d.depth<=n)(hx:Deep H x d)(hy:Deep H y e){u v:Value}(hu:X.A.units+n<cLine)(rx:RelV x u)(ry:RelV y v):SeqAt.RcNeAt X.A s u v (!(d.eqb e)):=by
 cases hx with
 |non=>
  cases rx;cases hy with
  |non=>
   cases ry;exact SeqAt.RcNeAt.none_none
  |@bl b2=>
   cases ry;exact SeqAt.RcNeAt.none_bool b2
  |@int i2=>
   obtain⟨ty,rfl⟩:=ry;exact SeqAt.RcNeAt.none_int i2 ty
  |@str z2=>
   obtain⟨ty,rfl⟩:=ry;exact SeqAt.RcNeAt.none_str z2 ty
  |@tup a2 ys es h2 t2=>
   obtain rfl:v=Value.ref a2:=ry;obtain⟨its2,r2,p2,_⟩:=I.tuple (.inl (.inl h2));exact SeqAt.RcNeAt.none_tuple p2 (by omega)
 |@bl b=>
  cases rx;cases hy with
  |non=>
   cases ry;exact SeqAt.RcNeAt.bool_none b
  |@bl b2=>
   cases ry;exact SeqAt.RcNeAt.bool_bool b b2
  |@int i2=>
   obtain⟨ty,rfl⟩:=ry;exact SeqAt.RcNeAt.bool_int b i2 ty
  |@str z2=>
   obtain⟨ty,rfl⟩:=ry;exact SeqAt.RcNeAt.bool_str b z2 ty
  |@tup a2 ys es h2 t2=>
   obtain rfl:v=Value.ref a2:=ry;obtain⟨its2,r2,p2,_⟩:=I.tuple (.inl (.inl h2));exact SeqAt.RcNeAt.bool_tuple b p2 (by omega)
 |@int i=>
  obtain⟨tx,rfl⟩:=rx;cases hy with
  |non=>
   cases ry;exact SeqAt.RcNeAt.int_none i tx
  |@bl b2=>
   cases ry;exact SeqAt.RcNeAt.int_bool i tx b2
  |@int i2=>
   obtain⟨ty,rfl⟩:=ry;exact SeqAt.RcNeAt.int_int i tx i2 ty
  |@str z2=>
   obtain⟨ty,rfl⟩:=ry;exact SeqAt.RcNeAt.int_str i tx z2 ty
  |@tup a2 ys es h2 t2=>
   obtain rfl:v=Value.ref a2:=ry;obtain⟨its2,r2,p2,_⟩:=I.tuple (.inl (.inl h2));exact SeqAt.RcNeAt.int_tuple i tx p2 (by omega)
 |@str z=>
  obtain⟨tx,rfl⟩:=rx;cases hy with
  |non=>
   cases ry;exact SeqAt.RcNeAt.str_none z tx
  |@bl b2=>
   cases ry;exact SeqAt.RcNeAt.str_bool z tx b2
  |@int i2=>
   obtain⟨ty,rfl⟩:=ry;exact SeqAt.RcNeAt.str_int z tx i2 ty
  |@str z2=>
   obtain⟨ty,rfl⟩:=ry;exact SeqAt.RcNeAt.str_str z tx z2 ty
  |@tup a2 ys es h2 t2=>
   obtain rfl:v=Value.ref a2:=ry;obtain⟨its2,r2,p2,_⟩:=I.tuple (.inl (.inl h2));exact SeqAt.RcNeAt.str_tuple z tx p2 (by omega)
 |@tup a xs ds h t=>
  obtain rfl:u=Value.ref a:=rx;obtain⟨its,r1,p1,_⟩:=I.tuple (.inl (.inl h));cases hy with
  |non=>
   cases ry;exact SeqAt.RcNeAt.tuple_none p1 (by omega)
  |@bl b2=>
   cases ry;exact SeqAt.RcNeAt.tuple_bool b2 p1 (by omega)
  |@int i2=>
   obtain⟨ty,rfl⟩:=ry;exact SeqAt.RcNeAt.tuple_int i2 ty p1 (by omega)
  |@str z2=>
   obtain⟨ty,rfl⟩:=ry;exact SeqAt.RcNeAt.tuple_str z2 ty p1 (by omega)
  |@tup a2 ys es h2 t2=>
   obtain rfl:v=Value.ref a2:=ry;obtain⟨its2,r2,p2,_⟩:=I.tuple (.inl (.inl h2));have hl1:=t.length;have hl2:=t2.length;have q1:=r1.length;have q2:=r2.length;have hd':Dv.Ke ds+1<=n:=by have:=hd;unfold Dv.depth at this;exact this
   have z:=SeqAt.RcNeAt.tuples (A:=X.A) (s:=s) (e:=fun j=>((ds[j]?).getD .non).eqb ((es[j]?).getD .non)) p1 p2 (by omega) (qk (pins:=pins) (σ:=σ) (H:=H) (n:=n) r1 r2 fun j x y u v g1 g2 w1 w2=>?_)
   ·rw[tJ,tJ, ←q1, ←q2,hl1,hl2, ←Dv.Wm]at z;unfold Dv.eqb;exact z
   ·obtain⟨d1,k1,k2⟩:=t.x0 g1;obtain⟨e1,m1,m2⟩:=t2.x0 g2;show SeqAt.EqAt X.A.in1 s u v (((ds[j]?).getD .non).eqb ((es[j]?).getD .non));rw[k1,m1];exact Deep.at I (n-1) d1 e1 x y (Nat.le_trans (Dv.UE k1) (by omega)) k2 m2 (by show X.A.units+1+(n-1)<cLine;omega) w1 w2
noncomputable def QdW(n:Nat)(neg:Bool):R2:=fun x y H Q=>∃d e,Deep H x d/\Deep H y e/\d.depth<=n/\Q (.bl (if neg then !(d.eqb e)else d.eqb e)) H
theorem vh{n:Nat}(hu:X.A.units+n<cLine):OpR X (compareOp .NotEq) (QdW n true):=by
 intro pins s σ H x y v u Q I rx ry h;obtain⟨d,e,hx,hy,hd,q⟩:=h;exact Deep.Qf5 I hd hx hy hu rx ry X.prog X.w X.xe _ ⟨.bl _,H,I,rfl,q⟩
end
section
variable {prog:Program}{w:World}{A:Around}{E:Value->Shared->Prop}{s:Shared}{j tt:Addr}{n:Nat}{its:Array Value}
theorem QdX{v:Value}{Q:Value->Shared->Prop}(g:s.heap.IsTupleIter j tt n)(gt:s.heap.IsTuple tt its)(gv:its[n]? =some v)
  (k:∀h',h'.IsTupleIter j tt (n+1)->Heap.SameBut j s.heap h'->Q v {s with heap:=h'}):wpAny (model prog w) A (Builtin.SmallTypes.nextOf (.ref j)) Q E s:=by
 obtain⟨o,ho,hc,hd⟩:=id g;obtain⟨ol,hol,_,nl,hdl⟩:=gt;unfold Builtin.SmallTypes.nextOf;refine wpAny_bind (wpAny_callSpecial?_slot (name:=Str.ofString "__next__") g.typeIs F.slot_tuple_iterator_next (wpAny_call_entry F.slot_tuple_iterator_next g.typeIs F.entry_tuple_iterator_next ?_ (F.args_tuple_iterator_next_1 _)));show wpAny _ _ (field (.ref j) 0>>=_) _ _ s;refine wpAny_bind (wpAny_field ho hd (x:=.ref tt) rfl ?_);show wpAny _ _ (if(Value.ref tt==Value.none)=true then _ else _) _ _ s;rw[if_neg (show ¬ ((Value.ref tt==Value.none)=true)from Bool.false_ne_true)];show wpAny _ _ (field (.ref j) 1>>=_) _ _ s;refine wpAny_bind (wpAny_field ho hd (x:=.int n 0) rfl ?_);show wpAny _ _ (seqItems? (.ref tt)>>=_) _ _ s;refine wpAny_bind (wpAny_seqItems hol hdl ?_);simp only[tM,gv];refine wpAny_bind (wpAny_setField ho hd (by simp) (wpAny_pure ⟨v,rfl,wpAny_pure (k _ ?_ (Heap.SameBut.update ..))⟩));exact⟨_,Heap.get?_update_self _ ho (Obj.isFreed_of_fields (Obj.data_mapFields hd _)),(Obj.cls_mapFields ..).trans hc,by rw[Obj.data_mapFields hd];simp[rawInt]⟩
theorem Qcp{Q:Value->Shared->Prop}(hh:A.handled=none)(g:s.heap.IsTupleIter j tt n)(gt:s.heap.IsTuple tt its)(gv:its[n]? =none)
  (k:∀h' e,Heap.ExtBut j s.heap h'->(∃o,h'.get? e=some o/\o.cls=.type "StopIteration")->E (.ref e) {s with heap:=h'}):wpAny (model prog w) A (Builtin.SmallTypes.nextOf (.ref j)) Q E s:=by
 obtain⟨o,ho,hc,hd⟩:=id g;obtain⟨ol,hol,_,nl,hdl⟩:=gt;unfold Builtin.SmallTypes.nextOf;refine wpAny_bind (wpAny_callSpecial?_slot (name:=Str.ofString "__next__") g.typeIs F.slot_tuple_iterator_next (wpAny_call_entry F.slot_tuple_iterator_next g.typeIs F.entry_tuple_iterator_next ?_ (F.args_tuple_iterator_next_1 _)));show wpAny _ _ (field (.ref j) 0>>=_) _ _ s;refine wpAny_bind (wpAny_field ho hd (x:=.ref tt) rfl ?_);show wpAny _ _ (if(Value.ref tt==Value.none)=true then _ else _) _ _ s;rw[if_neg (show ¬ ((Value.ref tt==Value.none)=true)from Bool.false_ne_true)];show wpAny _ _ (field (.ref j) 1>>=_) _ _ s;refine wpAny_bind (wpAny_field ho hd (x:=.int n 0) rfl ?_);show wpAny _ _ (seqItems? (.ref tt)>>=_) _ _ s;refine wpAny_bind (wpAny_seqItems hol hdl ?_);simp only[tM,gv];refine wpAny_bind (wpAny_rule (wpAny_bind (wpAny_setField ho hd (by simp) ?_)));show wpAny _ _ (newExc (.type "StopIteration") []>>=_) _ _ _;refine wpAny_bind ?_;simp only[newExc,newTuple];refine wpAny_bind (wpAny_newObj_type ?_ (by size_fits));refine wpAny_bind (m:=firstArgMember _ _) (wpAny_of_eq (a:=Value.none) (by first|rfl|(simp only[firstArgMember];rfl)) ?_);refine wpAny_newObj_type ?_ (by size_fits);simp only[raiseNew];refine wpAny_bind (wpAny_handled ?_)
 first|rw[show A.in1.handled=none from hh]|rw[hh]
 refine wpAny_bind (wpAny_pure (wpAny_throw ?_));exact k _ _ (((Heap.SameBut.update ..).extBut.push _).push _) ⟨_,Heap.get?_push_size _ rfl,rfl⟩
end
inductive Sk where|tp|ls
noncomputable def Qbc(k:Sk)(h:Heap)(it a:Addr)(i:Nat):Prop:=match k with| .tp=>h.IsTupleIter it a i| .ls=>h.IsListIter it a i
noncomputable def QcU(k:Sk)(h:Heap)(a:Addr)(its:Array Value):Prop:=match k with| .tp=>h.IsTuple a its| .ls=>h.IsList a its
theorem QdY{prog:Program}{w:World}{A:Around}(k:Sk)(hh:A.handled=none)(it a:Addr)(ne:a≠it)(its:Array Value):Draws prog w A it [it,a] its.size (fun i v=>its[i]? =some v) (fun i h=>Qbc k h it a i/\QcU k h a its):=by
 cases k with
 |ls=>exact Draws.list hh it a ne its
 |tp=>
  exact{live:=fun _ _ st=>let ⟨o,ho,_⟩:=st.1;⟨o,ho⟩,frame:=fun _ _ _ st hk=>⟨let ⟨o,ho,r⟩:=st.1;⟨o,hk it (by simp) o ho,r⟩,let ⟨o,ho,r⟩:=st.2;⟨o,hk a (by simp) o ho,r⟩⟩,item:=fun i s Q E hi st hQ=>(by
       refine QdX st.1 st.2 (v:=its[i]) (by simp[hi]) fun h' g hs=>?_;exact hQ _ h' s.toks (by simp[hi]) ⟨g,let ⟨o,ho,r⟩:=st.2;⟨o,(hs.2 a ne).trans ho,r⟩⟩ hs),done:=fun s Q E st hE=>Qcp hh st.1 st.2 (by simp) hE}
noncomputable def SkQ(k:Sk)(K:PySem.W.Frag)(H:Hp)(a:Addr)(xs:List V):Prop:=match k with| .tp=>SqT K H a xs| .ls=>SqL K H a xs
theorem Inv.sk{X:Cx}{pins:List (Addr × Obj)}{σ:St}{H:Hp}{s:Shared}{k:Sk}{a:Addr}{xs:List V}(I:Inv X pins σ H s)(h:SkQ k X.K H a xs):∃its:List Value,Vals xs its/\QcU k s.heap a its.toArray/\xs.length<=sizeLine:=by
 cases k with
 |tp=>
  obtain⟨its,r,p,z⟩:=I.tuple h;exact⟨its,r,p,z⟩
 |ls=>
  obtain⟨its,r,p,z⟩:=I.list h;exact⟨its,r,p.isList,z⟩
theorem Inv.QdZ{X:Cx}{pins:List (Addr × Obj)}{σ:St}{H:Hp}{s:Shared}{k:Sk}{a:Addr}{xs ys:List V}(I:Inv X pins σ H s)(h:SkQ k X.K H a xs)(h':SkQ k X.K H a ys):xs=ys:=by
 obtain⟨its,r,p,_⟩:=I.sk h;obtain⟨its2,r2,p2,_⟩:=I.sk h';have e:its=its2:=by
  cases k with
  |tp=>
   obtain⟨o,ho,_,n,hd⟩:=p;obtain⟨o2,ho2,_,n2,hd2⟩:=p2;obtain rfl:=uR (ho.symm.trans ho2);have:=hd.symm.trans hd2;injection this with q;simpa using q
  |ls=>
   obtain⟨o,ho,_,n,hd⟩:=p;obtain⟨o2,ho2,_,n2,hd2⟩:=p2;obtain rfl:=uR (ho.symm.trans ho2);have:=hd.symm.trans hd2;injection this with q;simpa using q
 subst e;exact Vals.inj r r2
theorem Qat{a b:String}(h:a≠b):Value.type a≠Value.type b:=fun z=>h (by injection z)
theorem Qd0{k:Sk}{h:Heap}{it a:Addr}{i:Nat}{its:Array Value}(g:Qbc k h it a i)(p:QcU k h a its):a≠it:=by
 cases k with
 |tp=>
  obtain⟨o,ho,hc,_⟩:=g;obtain⟨o2,ho2,hc2,_⟩:=p;rintro rfl;obtain rfl:=uR (ho.symm.trans ho2);exact Qat (by decide) (hc.symm.trans hc2)
 |ls=>
  obtain⟨o,ho,hc,_⟩:=g;obtain⟨o2,ho2,hc2,_⟩:=p;rintro rfl;obtain rfl:=uR (ho.symm.trans ho2);exact Qat (by decide) (hc.symm.trans hc2)
theorem Qbd{k:Sk}{h:Heap}{it a:Addr}{i:Nat}(g:Qbc k h it a i):∃o,h.get? it=some o/\∀v,o.data≠ .cell v:=by
 cases k with
 |tp=>obtain⟨o,ho,hc,hd⟩:=g;exact⟨o,ho,fun v q=>by rw[hd]at q;cases q⟩
 |ls=>obtain⟨o,ho,hc,hd⟩:=g;exact⟨o,ho,fun v q=>by rw[hd]at q;cases q⟩
theorem vi{k:Sk}{h h':Heap}{it a:Addr}{i:Nat}(g:Qbc k h it a i)(kk:∀o,h.get? it=some o->h'.get? it=some o):Qbc k h' it a i:=by
 cases k with
 |tp=>obtain⟨o,ho,r⟩:=g;exact⟨o,kk o ho,r⟩
 |ls=>obtain⟨o,ho,r⟩:=g;exact⟨o,kk o ho,r⟩
theorem Qd1{k:Sk}{h:Heap}{a:Addr}{its:Array Value}{o:Obj}(p:QcU k h a its)(e:h.get? a=some o):o.cls=.type "tuple"\/o.cls=.type "list":=by
 cases k with
 |tp=>obtain⟨o2,ho,hc,_⟩:=p;obtain rfl:=uR (e.symm.trans ho);exact .inl hc
 |ls=>obtain⟨o2,ho,hc,_⟩:=p;obtain rfl:=uR (e.symm.trans ho);exact .inr hc
noncomputable def ItN(k:Sk)(K:PySem.W.Frag)(a:Addr):It:=⟨fun i H=>∃xs x,SkQ k K H a xs/\xs[i]? =some x,fun i H v H'=>∃p,H p=none/\v=.ref p/\∀xs,SkQ k K H a xs->∃x,xs[i]? =some x/\H'=upd H p (.tup [.int (i:Nat),x]),fun i H=>∃xs,SkQ k K H a xs/\xs.length=i⟩
theorem x5{P:Program}{w:World}{K:PySem.W.Frag}{es:List Expr}{n:Nat}{pos:Pos}(k:Sk)(e it a:Addr)(hei:e≠it):
  Turn P w K (.Tuple es n pos) (ItN k K a) [e,it] e (fun i h=>(∃old,IsEnum h e it (i:Nat) old)/\Qbc k h it a i) where
 mem:=by simp
 obj:=fun i h st b hb=>by
  obtain⟨⟨old,he⟩,g⟩:=st;rcases List.mem_cons.mp hb with rfl|hb
  ·exact⟨_,he,fun v q=>nomatch (show Data.fields _=Data.cell v from q)⟩
  ·obtain rfl:b=it:=by simpa using hb
   exact Qbd g
 keep:=fun i h h' st kk=>by
  obtain⟨⟨old,he⟩,g⟩:=st;exact⟨⟨old,kk e (by simp) _ he⟩,vi g fun o=>kk it (by simp) o⟩
 item:=by
  intro X hP hw hK hc i pins s σ H E I hf st hg;subst hP hw hK;obtain⟨⟨old,he⟩,g⟩:=st;obtain⟨xs,x,hq,hx⟩:=hg;obtain⟨its,rv,p,hz⟩:=I.sk hq;obtain⟨u,hu,ru⟩:=rv.get hx;have hlt:i<its.toArray.size:=by
   rw[tJ];exact(List.getElem?_eq_some_iff.mp hu).1
  have hea:e≠a:=fun q=>by
   rcases Qd1 p (q▸he)with z|z
   ·exact Qat (by decide) z
   ·exact Qat (by decide) z
  have D:=QdY (prog:=X.prog) (w:=X.w) (A:=X.A.in1) k (I.ok.hd hc) it a (Qd0 g p) its.toArray;refine wpAny_pyNext_enum_itemD D he ⟨g,p⟩ hlt hei (by simp[hei,hea]) fun v h1 tk hv ho st1 hT hsz hk=>⟨_,rfl,?_⟩;obtain rfl:v=u:=by
   have:its.toArray[i]? =some u:=by simpa using hu
   exact uR (hv.symm.trans this)
  refine wpAny_letOwnedTupleGo_enum ho fun h2 he2 hs2=>?_;have hTe:s.heap.objs.size≠e:=fun q=>absurd (Heap.lt_size he) (by rw[←q];exact tL _);refine⟨.ref s.heap.objs.size,upd H s.heap.objs.size (.tup [.int (i:Nat),x]),I.wR (ch:=[e,it]) hf (fun b o hb q=>?_) (uQ _) ?_,rfl,⟨_,I.hok.fresh (uQ _),rfl,fun ys hy=>⟨x,by rw[I.QdZ hy hq];exact hx,rfl⟩⟩,⟨⟨_,he2⟩,?_⟩,fun b hb=>?_⟩
  ·simp only[List.mem_cons,List.not_mem_nil,or_false,not_or]at hb;exact(hs2.2 b hb.1).trans (hk b o hb.1 hb.2 q)
  ·exact⟨by show 2<=sizeLine;decide,[.int (i:Nat) tk,v],.cons ⟨_,rfl⟩ (.cons ru .nil),⟨_,(hs2.2 _ hTe).trans hT,rfl,_,rfl,rfl⟩⟩
  ·exact vi st1.1 fun o q=>(hs2.2 it hei.symm).trans q
  ·have hlt:b<s.heap.objs.size:=by
    rcases List.mem_cons.mp hb with q|q
    ·rw[q];exact Heap.lt_size he
    ·obtain⟨o,ho1,_⟩:=Qbd g;rw[show b=it by simpa using q];exact Heap.lt_size ho1
   rw[Ql (Nat.ne_of_lt hlt)];exact(hf b hb).1
 done:=by
  intro X hP hw hK hc i pins s σ H E I hf st hg;subst hP hw hK;obtain⟨⟨old,he⟩,g⟩:=st;obtain⟨xs,hq,hx⟩:=hg;obtain⟨its,rv,p,hz⟩:=I.sk hq;have hl:=rv.length;have D:=QdY (prog:=X.prog) (w:=X.w) (A:=X.A.in1) k (I.ok.hd hc) it a (Qd0 g p) its.toArray;have hst:Qbc k s.heap it a its.toArray.size/\QcU k s.heap a its.toArray:=⟨by rw[tJ, ←hl,hx];exact g,p⟩;exact wpAny_pyNext_enum_endD D he hst fun h1 eb=>⟨rfl,I.wQ (t':=s.toks) (ch:=[e,it]) hf fun b o hb q=>eb b o (fun r=>hb (by simp[r])) q⟩
 self:=fun _ _ _ _ _ st h=>let ⟨⟨_,he⟩,_⟩:=st;wpAny_pyIter_enum he h
noncomputable abbrev eT1(h:Heap)(a:Addr):Heap:=h.push {cls:=.type "tuple_iterator",data:=.fields #[.ref a,.int 0 0]}
noncomputable abbrev eT2(h:Heap)(a:Addr):Heap:=(eT1 h a).push {cls:=.type "enumerate",data:=.fields #[.none,.bool false,.ref h.objs.size,rawInt 0,.none,.none]}
open AutoSeq1 (wpAny_loadPart')in
set_option maxHeartbeats 1000000 in
theorem vj(a:Addr)(its:Array Value)(n:Nat)(dd:Option Addr)(sl:Array (Option Value)):
  Meets (Builtin.«enumerate.__new__» ⟨[.type "enumerate",.ref a],[]⟩) (fun _ R s=>s.heap.get? a=some ⟨.type "tuple",dd,.seq its n,sl⟩/\R (.ok (.ret (.ref (eT1 s.heap a).objs.size))) {s with heap:=eT2 s.heap a}):=
 .of_wp fun prog w A R s h=>by
  obtain⟨hp,g,d,tk,os⟩:=s;obtain⟨hl,h⟩:=h;have hsub:=sub_enumerate;have hT:Heap.IsTuple (Shared.heap ⟨hp,g,d,tk,os⟩) a its:=⟨_,hl,rfl,n,rfl⟩
  wp_walk using wpAny_loadPart' hl
  refine wpAny_stack_any fun st=>wpAny_pure ?_
  split
  ·rename_i c _ _ _ _ _;cases(c==Value.type "enumerate")<;>(wp_walk using wpAny_loadPart' hl,wpAny_pyIter_tuple hT;exact⟨_,rfl,h⟩)
  ·wp_walk using wpAny_loadPart' hl,wpAny_pyIter_tuple hT
   exact⟨_,rfl,h⟩
theorem Qau{prog:Program}{w:World}{A:Around}{E:Value->Shared->Prop}{s:Shared}{a:Addr}{its:Array Value}{Q:Value->Shared->Prop}(hT:s.heap.IsTuple a its)
  (h:∀h',IsEnum h' (s.heap.objs.size+1) s.heap.objs.size 0 .none->h'.IsTupleIter s.heap.objs.size a 0->h'.objs.size=s.heap.objs.size+2->(∀b o,s.heap.get? b=some o->h'.get? b=some o)->Q (.ref (s.heap.objs.size+1)) {s with heap:=h'}):
  wpAny (model prog w) A (call (.type "enumerate") [.ref a]) Q E s:=by
 obtain⟨⟨c,dd,dt,sl⟩,hl,hc,n,hd⟩:=hT
 replace hc:c=.type "tuple":=hc
 replace hd:dt=.seq its n:=hd
 subst hc hd;refine callType_new F.called_enumerate (by decide) (F.typeCall_enumerate_1 _) (F.newCall_enumerate_1 _) (fun obj=>F.args_object_init_2 obj _) F.entry_enumerate_new (vj a its n dd sl) ⟨hl,?_⟩;have hz:(eT1 s.heap a).objs.size=s.heap.objs.size+1:=Heap.size_push ..;have he:IsEnum (eT2 s.heap a) (eT1 s.heap a).objs.size s.heap.objs.size 0 .none:=Heap.get?_push_size _ rfl;rw[hz]at he;show _/\_;rw[hz];exact⟨⟨_,he,rfl⟩,h _ he ⟨_,Heap.get?_push_of_some _ (Heap.get?_push_size _ rfl),rfl,rfl⟩ (by rw[Heap.size_push,hz]) fun b o x=>Heap.get?_push_of_some _ (Heap.get?_push_of_some _ x)⟩
theorem Qav{prog:Program}{w:World}{A:Around}{E:Value->Shared->Prop}{s:Shared}(k:Sk){a:Addr}{its:Array Value}{Q:Value->Shared->Prop}(p:QcU k s.heap a its)
  (h:∀h',IsEnum h' (s.heap.objs.size+1) s.heap.objs.size 0 .none->Qbc k h' s.heap.objs.size a 0->(∀b o,s.heap.get? b=some o->h'.get? b=some o)->Q (.ref (s.heap.objs.size+1)) {s with heap:=h'}):
  wpAny (model prog w) A (call (.type "enumerate") [.ref a]) Q E s:=by
 cases k with
 |tp=>exact Qau p fun h' h1 h2 _ h4=>h h' h1 h2 h4
 |ls=>exact call_enumerate_list p fun h' h1 h2 _ h4=>h h' h1 h2 h4
section
variable {X:Cx}
noncomputable def Qd2(k:Sk)(K:PySem.W.Frag)(ta:TA):TI:=fun σ H R=>ta σ H fun vs H1=>∃a,vs=[.ref a]/\(∃xs,SkQ k K H1 a xs)/\R (ItN k K a) H1
theorem Qaw(k:Sk){es:List Expr}{n:Nat}{tp:Pos}{a:Expr}{ta:TA}{p pos:Pos}(hg:Gl X "enumerate")(hm:X.mg "enumerate"=none)(ha:PA X [a] ta)(hs:starEach [a] X.env=[(false,eval a X.env)]:=by rfl):
  PI X (.Tuple es n tp) (.Call (.Name "enumerate" p) [a] [] pos) (Qd2 k X.K ta):=by
 intro pins s σ H R I h;refine Call_ (ZV I hg hm boot_enumerate (PyProof.Rows.callWith_type1 (thn (ha pos pins s σ H _ I h) fun us s1⟨vs,H1,I1,r1,aa,e,⟨xs,hq⟩,q⟩=>?_) hs rfl));subst e;obtain⟨u,rfl,rfl⟩:=vals1 r1;obtain⟨its,rv,po,hz⟩:=I1.sk hq;refine Qav k po fun h1 he hst hk=>?_;refine wpAny_pyIter_enum (s:={s1 with heap:=h1}) he ?_;refine⟨_,[s1.heap.objs.size+1,s1.heap.objs.size],_,_,H1,rfl,I1.kept (t':=s1.toks) hk,x5 k _ _ aa (Nat.succ_ne_self _),⟨⟨_,he⟩,hst⟩,fun b hb=>?_,q⟩;have hb2:s1.heap.objs.size<=b:=by
  simp only[List.mem_cons,List.not_mem_nil,or_false]at hb;rcases hb with rfl|rfl
  ·exact Nat.le_succ _
  ·exact uQ _
 exact I1.kj hb2 (I1.hok.fresh hb2)
end
theorem vk{P:Program}{w:World}{K:PySem.W.Frag}{mg:Str->Option Value}{base:Heap}{N:List Str}{qual:Str}{scope:Scope}{f:Addr}{cd:Value}{A:Around}{outer:List Env}{s:Shared}{H:Hp}{E:XK}:
  PassesOwn (model (qe (CXE P w) P w K mg base N qual scope f cd A outer s H E).prog (qe (CXE P w) P w K mg base N qual scope f cd A outer s H E).w) (qe (CXE P w) P w K mg base N qual scope f cd A outer s H E).A (qe (CXE P w) P w K mg base N qual scope f cd A outer s H E).env (qe (CXE P w) P w K mg base N qual scope f cd A outer s H E).xe:=by
 dsimp only[qe]
 passes_own
structure Fix(J:It)(n:Nat)(Ok:Hp->Prop)(item:Nat->Hp->V->Hp->Prop):Prop where
 go:∀i H,Ok H->i<n->J.go i H
 stop:∀H,Ok H->J.stop n H
 yld:∀i H v H',Ok H->i<n->J.yld i H v H'->item i H v H'
section
variable {J:It}{n:Nat}{Ok:Hp->Prop}{item:Nat->Hp->V->Hp->Prop}
theorem Wn{g:TG}{tb:TS}{D:Ends}{σ:St}{H:Hp}(F:Fix J n Ok item)(Pv:Nat->St->Hp->Prop)(h0:Pv 0 σ H)(ho:∀i σ H,i<=n->Pv i σ H->Ok H)
  (hs:∀i v σ H H',i<n->Pv i σ H->item i H v H'->g v σ H' fun σ2 H2=>tb {D with nx:=Pv (i+1),ct:=Pv (i+1),bk:=D.nx} σ2 H2) (hd:∀σ H,Pv n σ H->D.nx σ H):
  ∃W:Nat->Nat->St->Hp->Prop,(∃m,W 0 m σ H)/\∀i m σ H,W i m σ H->
   (J.stop i H/\D.nx σ H)\/(J.go i H/\∃N:St->Hp->Prop,(∀σ' H',N σ' H'->∃m',m'<m/\W (i+1) m' σ' H')/\∀x H',J.yld i H x H'->g x σ H' fun σ2 H2=>tb {D with nx:=N,ct:=N,bk:=D.nx} σ2 H2):=by
 refine⟨fun i m σ H=>m=n-i/\i<=n/\Pv i σ H,⟨n,by simp,tK _,h0⟩,?_⟩;rintro i m σ H ⟨rfl,hi,p⟩;have ok:=ho i σ H hi p
 by_cases hlt:i<n
 ·exact .inr ⟨F.go i H ok hlt,Pv (i+1),fun σ' H' p'=>⟨n-(i+1),by omega,rfl,hlt,p'⟩,fun x H' y=>hs i x σ H H' hlt p (F.yld i H x H' ok hlt y)⟩
 ·have e:i=n:=by omega
  subst e;exact .inl ⟨F.stop H ok,hd σ H p⟩
theorem Qax{NB:List Str}{wi:TI}{g:TG}{tt:TT}{te:TE}{Q:VK}{σ:St}{H:Hp}(F:Fix J n Ok item)(Pv:Nat->List V->Hp->Prop)(h:∀R:It->Hp->Prop,(∀H1,Pv 0 [] H1->R J H1)->wi σ H R) (ho:∀i vs H,i<=n->Pv i vs H->Ok H/\vs.length<=i)
  (hs:∀i v vs H H',i<n->Pv i vs H->item i H v H'->g v (List.replicate NB.length none) H' fun σ2 H2=>tt σ2 H2 fun b H3=>if b=true then te σ2 H3 fun v H4=>Pv (i+1) (vs++[v]) H4 else Pv (i+1) vs H3)
  (hd:∀vs H,Pv n vs H->∀p,H p=none->Q (.ref p) (upd H p (.lst vs))) (hz:n<sizeLine):YW NB wi g tt te σ H Q:=by
 refine h _ fun H1 h0=>⟨fun i m vs H=>m=n-i/\i<=n/\Pv i vs H,⟨n,by simp,tK _,h0⟩,?_⟩;rintro i m vs H ⟨rfl,hi,p⟩;obtain⟨ok,hv⟩:=ho i vs H hi p
 by_cases hlt:i<n
 ·exact .inr ⟨F.go i H ok hlt,by omega,Pv (i+1),fun vs' H' p'=>⟨n-(i+1),by omega,rfl,hlt,p'⟩,fun x H' y=>hs i x vs H H' hlt p (F.yld i H x H' ok hlt y)⟩
 ·have e:i=n:=by omega
  subst e;exact .inl ⟨F.stop H ok,hd vs H p⟩
theorem qX{nn:Nat}{fi:List Nat}{fv:List V}{wi:TI}{g:TG}{tt:TT}{te:TE}{Q:VK}{σ:St}{H:Hp}(F:Fix J n Ok item)(Pv:Nat->List V->Hp->Prop)(h:∀R:It->Hp->Prop,(∀H1,Pv 0 [] H1->R J H1)->wi σ H R) (hfv:fi.map (fun i=>σ[i]?)=fv.map (fun v=>some (some v))) (ho:∀i vs H,i<=n->Pv i vs H->Ok H/\vs.length<=i)
  (hs:∀i v vs H H',i<n->Pv i vs H->item i H v H'->g v (List.replicate nn none++fv.map some) H' fun σ2 H2=>σ2.drop nn=fv.map some/\tt σ2 H2 fun b H3=>if b=true then te σ2 H3 fun v H4=>Pv (i+1) (vs++[v]) H4 else Pv (i+1) vs H3)
  (hd:∀vs H,Pv n vs H->∀p,H p=none->Q (.ref p) (upd H p (.lst vs))) (hz:n<sizeLine):YB nn fi wi g tt te σ H Q:=by
 refine h _ fun H1 h0=>⟨fv,hfv,fun i m vs H=>m=n-i/\i<=n/\Pv i vs H,⟨n,by simp,tK _,h0⟩,?_⟩;rintro i m vs H ⟨rfl,hi,p⟩;obtain⟨ok,hv⟩:=ho i vs H hi p
 by_cases hlt:i<n
 ·exact .inr ⟨F.go i H ok hlt,by omega,Pv (i+1),fun vs' H' p'=>⟨n-(i+1),by omega,rfl,hlt,p'⟩,fun x H' y=>hs i x vs H H' hlt p (F.yld i H x H' ok hlt y)⟩
 ·have e:i=n:=by omega
  subst e;exact .inl ⟨F.stop H ok,hd vs H p⟩
end
theorem Qcq{xs:List V}{i:Nat}(h:i<xs.length):∃x,xs[i]? =some x:=⟨_,List.getElem?_eq_getElem h⟩
theorem Qep{K:PySem.W.Frag}{a:Addr}{xs:List V}:Fix (Itt K a) xs.length (fun H=>SqT K H a xs) (fun i H v H'=>H'=H/\xs[i]? =some v):=
 ⟨fun i H ok h=>let ⟨x,e⟩:=Qcq h;⟨xs,x,ok,e⟩,fun H ok=>⟨xs,ok,uQ _⟩,fun i H v H' ok _ y=>⟨y.1,y.2 _ ok⟩⟩
theorem Qe5{lo:Int}{n:Nat}:Fix (Itr lo n) n (fun _=>True) (fun i H v H'=>H'=H/\v=.int (lo+i)):=⟨fun i H _ h=>h,fun H _=>uQ _,fun i H v H' _ _ y=>y⟩
theorem Qf6{k:Sk}{K:PySem.W.Frag}{a:Addr}{xs:List V}:Fix (ItN k K a) xs.length (fun H=>SkQ k K H a xs) (fun i H v H'=>∃p x,H p=none/\v=.ref p/\xs[i]? =some x/\H'=upd H p (.tup [.int (i:Nat),x])):=
 ⟨fun i H ok h=>let ⟨x,e⟩:=Qcq h;⟨xs,x,ok,e⟩,fun H ok=>⟨xs,ok,rfl⟩,fun i H v H' ok _⟨p,hp,e,y⟩=>let ⟨x,h1,h2⟩:=y xs ok;⟨p,x,hp,e,h1,h2⟩⟩
open AutoSeq1 (wpAny_loadPart')
theorem Qe6{lo c:Int}{n:Nat}:Fix (QbC lo c n) n (fun _=>True) (fun i H v H'=>H'=H/\v=.int (lo+i*c)):=⟨fun i H _ h=>h,fun H _=>uQ _,fun i H v H' _ _ y=>y⟩
section
variable {prog:Program}{w:World}{A:Around}{E:Value->Shared->Prop}{s:Shared}
theorem VU:isSubtype (.type "range_iterator") (.type "reversed")=pure false:=by rw[isSubtype_type];kernel_rfl
noncomputable abbrev rvO(i j:Int):Obj:={cls:=.type "range_iterator",data:=.fields #[rawInt (i+(Builtin.Range.rangeSize i j 1-1)*1),rawInt (Builtin.Range.rangeSize i j 1),rawInt (-1)]}
theorem Qcr{r:Addr}{i j:Int}{t u v:Tok}{Q:Value->Shared->Prop}(hr:IsRange s.heap r i j 1 t u v)(b: -(2^40)<=i/\i<2^40/\ -(2^40)<=j/\j<2^40)
  (q:Q (.ref s.heap.objs.size) {s with heap:=s.heap.push (rvO i j)}):wpAny (model prog w) A (call (.builtin "range.__reversed__") [.ref r]) Q E s:=by
 have hT:s.TypeIs (.ref r) "range":=⟨_,hr,rfl⟩;refine wpAny_call_entry F.slot_range_reversed hT F.entry_range_reversed ?_ (F.args_range_reversed_1 _);have hf:∀x:Int, -(2^41)<=x->x<=2^41->Builtin.Range.rangeFitsLong x=true:=fun x h1 h2=>by
  unfold Builtin.Range.rangeFitsLong;rw[uP (show-(2^63)<=x by omega),uP (show x<2^63 by omega)];rfl
 have hn:0<=Builtin.Range.rangeSize i j 1/\Builtin.Range.rangeSize i j 1<=2^41:=by
  unfold Builtin.Range.rangeSize;rw[if_pos (by decide)]
  split
  ·rw[Int.ediv_one];omega
  ·omega
 unfold Builtin.«range.__reversed__»;refine wpAny_bind (wpAny_of_eq (a:=Value.ref r) rfl ?_);unfold Builtin.Range.rangeFields;refine wpAny_bind (wpAny_bind (wpAny_field hr rfl (x:=.int i t) rfl ?_));refine wpAny_bind (wpAny_of_eq (a:=some i) rfl ?_);refine wpAny_bind (wpAny_field hr rfl (x:=.int j u) rfl ?_);refine wpAny_bind (wpAny_of_eq (a:=some j) rfl ?_);refine wpAny_bind (wpAny_field hr rfl (x:=.int 1 v) rfl ?_);refine wpAny_bind (wpAny_of_eq (a:=some 1) rfl (wpAny_pure ?_));dsimp only;rw[hf i (by omega) (by omega),hf j (by omega) (by omega),hf 1 (by decide) (by decide),hf (-1) (by decide) (by decide),hf (i-1) (by omega) (by omega),hf (Builtin.Range.rangeSize i j 1) (by omega) (by omega)];exact wpAny_bind (wpAny_newObj_type (wpAny_pure ⟨_,rfl,q⟩))
theorem qY{r:Addr}{i j:Int}{t u v:Tok}{Q₁:Value->Shared->Prop}(hr:IsRange s.heap r i j 1 t u v)(b: -(2^40)<=i/\i<2^40/\ -(2^40)<=j/\j<2^40)
  (q:Q₁ (.ref s.heap.objs.size) {s with heap:=s.heap.push (rvO i j)}):codeAny (model prog w) A (.call (.builtin "reversed.__new__") ⟨[.type "reversed",.ref r],[]⟩) (wants Q₁ E) s:=by
 have hT:s.TypeIs (.ref r) "range":=⟨_,hr,rfl⟩;refine codeAny_of_tree ?_;show wpAny _ A.in1 (do checkBuiltinCall "reversed.__new__" ⟨[.type "reversed",.ref r],[]⟩;again (.builtin "reversed.__new__" ⟨[.type "reversed",.ref r],[]⟩)) _ _ s;refine wpAny_bind (wpAny_of_eq (F.newCall_reversed_1 _) (wpAny_pure ⟨plainId_quiet F.plain_reversed_new _,codeAny_builtin F.entry_reversed_new ?_⟩));rw[Around.under_plainId F.plain_reversed_new _];unfold Builtin.«reversed.__new__»;refine wpAny_bind (wpAny_of_eq (newClass_reversed _) ?_)
 try dsimp only
 refine wpAny_bind (wpAny_of_eq (a:=()) (by first|rfl|kernel_rfl) ?_);refine wpAny_bind (wpAny_of_eq (a:=()) (by first|rfl|kernel_rfl) ?_)
 try dsimp only
 refine wpAny_bind (wpAny_specialOf hT F.slot_range_reversed.lookup ?_)
 try dsimp only
 refine wpAny_bind (wpAny_of_eq (F.slot_range_reversed.bind _) ?_)
 try dsimp only
 first
 |rw[if_neg (show ¬ ((Value.builtin "range.__reversed__"==Value.none)=true)from Bool.false_ne_true)]
 |(show wpAny _ _ (if(Value.builtin "range.__reversed__"==Value.none)=true then _ else _) _ _ _;rw[if_neg (show ¬ ((Value.builtin "range.__reversed__"==Value.none)=true)from Bool.false_ne_true)])
 refine wpAny_bind (wpAny_rule ?_);refine wpAny_bind (m:=runValue (.call (.builtin "range.__reversed__") ⟨[.ref r],[]⟩)) (show wpAny _ _ (call (.builtin "range.__reversed__") [.ref r]) _ _ _ from Qcr hr b ?_)
 first
 |exact wpAny_pure q
 |exact wpAny_bind (wpAny_pure (wpAny_pure q))
theorem qZ{r:Addr}{i j:Int}{t u v:Tok}{Q:Value->Shared->Prop}(hr:IsRange s.heap r i j 1 t u v)(b: -(2^40)<=i/\i<2^40/\ -(2^40)<=j/\j<2^40)
  (q:Q (.ref s.heap.objs.size) {s with heap:=s.heap.push (rvO i j)}):wpAny (model prog w) A (call (.type "reversed") [.ref r]) Q E s:=by
 refine callType_other (U:="range_iterator") (Q₁:=fun obj s₁=>obj=.ref s.heap.objs.size/\s₁={s with heap:=s.heap.push (rvO i j)}) (by decide+kernel) F.create_reversed ⟨_,_,F.mro_reversed⟩ F.made_reversed VU (F.typeCall_reversed_1 _) (qY hr b ⟨rfl,rfl⟩) ?_;rintro obj s₁ ⟨rfl,rfl⟩;exact⟨⟨_,Heap.get?_push_size _ rfl,rfl⟩,q⟩
end
section
variable {X:Cx}{tg:Expr}
noncomputable def Qf7(ta:TA):TI:=fun σ H R=>ta σ H fun vs H1=>∃i j:Int,vs=[.int i,.int j]/\(-(2^40)<=i/\i<2^40/\ -(2^40)<=j/\j<2^40)/\R (QbC (i+((j-i).toNat:Nat)-1) (-1) (j-i).toNat) H1
theorem vm(i j:Int):Builtin.Range.rangeSize i j 1=(((j-i).toNat:Nat):Int):=by
 unfold Builtin.Range.rangeSize;rw[if_pos (by decide)]
 split<;>simp<;>omega
end
theorem Deep.jY{H:Hp}{l:Addr}{o o':HO}{v:V}{d:Dv}(h:Deep H v d)(e:H l=some o)(n1:∀ys,o≠ .tup ys):Deep (upd H l o') v d:=
 h.keep (fun b ys q=>by rw[Ql (Qbh q e fun z=>n1 ys z.symm)];exact q)
theorem Deeps.jY{H:Hp}{l:Addr}{o o':HO}{v:List V}{d:List Dv}(h:Deeps H v d)(e:H l=some o)(n1:∀ys,o≠ .tup ys):Deeps (upd H l o') v d:=
 h.keep (fun b ys q=>by rw[Ql (Qbh q e fun z=>n1 ys z.symm)];exact q)
theorem Deep.z6{H:Hp}{v:V}{x:Str}(h:Deep H v (.str x)):v=.str x:=by cases h;rfl
theorem Deep.QcV{H:Hp}{v:V}{i:Int}(h:Deep H v (.int i)):v=.int i:=by cases h;rfl
theorem Deep.VW{H:Hp}{v:V}{ds:List Dv}(h:Deep H v (.tup ds)):∃a xs,v=.ref a/\H a=some (.tup xs)/\Deeps H xs ds:=by cases h with|tup h t=>exact⟨_,_,rfl,h,t⟩
section
variable {prog:Program}{w:World}{A:Around}{E:Value->Shared->Prop}{s:Shared}
theorem Qay(t b:Addr)(ys:Array Value)(n n2:Nat)(dd dd2:Option Addr)(sl sl2:Array (Option Value)):
  Meets (Builtin.«tuple.__add__» ⟨[.ref t,.ref b],[]⟩) (fun _ R s=>s.heap.get? t=some ⟨.type "tuple",dd,.seq #[] n,sl⟩/\s.heap.get? b=some ⟨.type "tuple",dd2,.seq ys n2,sl2⟩/\R (.ok (.ret (.ref b))) s):=
 .of_wp fun prog w A R s h=>by
  obtain⟨hp,g,d,tk,os⟩:=s;obtain⟨hl,hb,h⟩:=h;have f2:=AutoSeq1.sub_tuple_tuple
  wp_walk using wpAny_loadPart' hl,wpAny_loadPart' hb
  exact⟨_,rfl,h⟩
theorem Qaz{t b:Addr}{ws:List Value}{Q:Value->Shared->Prop}(ht:IsTup s.heap t #[])(hb:IsTup s.heap b ws.toArray)(q:Q (.ref b) s):wpAny (model prog w) A (binaryOp .Add (.ref t) (.ref b)) Q E s:=by
 obtain⟨⟨cls,dd,data,sl⟩,ho,hc,n,hd⟩:=id ht;obtain⟨⟨cls2,dd2,data2,sl2⟩,ho2,hc2,n2,hd2⟩:=id hb;simp only at hc hd hc2 hd2;subst hc hd hc2 hd2;exact concat_meets ⟨_,ho,rfl⟩ ⟨_,ho2,rfl⟩ noFill_tuple_add seq_tuple_add slot_tuple_add entry_tuple_add (args_tuple_add_2 _ _) (Qay t b ws.toArray n n2 dd dd2 sl sl2) ⟨ho,ho2,q⟩
open HT in
theorem vn{t sl:Addr}{its:Array Value}{vl vu:Value}{lo hi:Option Int}{Q:Value->Shared->Prop}(ht:IsTup s.heap t its)(hs:s.heap.IsSliceOf sl vl vu .none)(pl:IsPart vl lo)(pu:IsPart vu hi)(hw:sIx its.size 0 lo=0/\sIx its.size its.size hi=its.size)(q:Q (.ref t) s):
  wpAny (model prog w) A (getItem (.ref t) (.ref sl)) Q E s:=by
 obtain⟨os,hos,hcs,hds⟩:=id hs;have hTs:s.TypeIs (.ref sl) "slice":=⟨os,hos,hcs⟩;unfold getItem
 try with_reducible refine wpAny_holding ?_
 first|refine wpAny_bind (wpAny_pure ?_)|skip
 refine wpAny_bind (wpAny_sequenceKey ht.typeIs (by decide) ?_);refine wpAny_bind (wpAny_callSpecial?_slot (name:=Str.ofString "__getitem__") ht.typeIs PyProof.Rows.slot_tuple_getitem (wpAny_call_entry PyProof.Rows.slot_tuple_getitem ht.typeIs entry_tuple_getitem ?_ (args_tuple_getitem _ _)));show wpAny _ _ (Builtin.Tuple.tupleItemsOf (.ref t)>>=_) _ _ s;refine wpAny_bind (tupleItemsOf_ ht ?_);refine wpAny_bind (wpAny_typeOf hTs ?_);rw[if_pos (by decide)];refine wpAny_bind (Xr hs pl pu ?_);rw[hw.1,hw.2];show wpAny _ _ (if(((0:Nat):Int)==0&&(1:Int)==1&&(its.size-0)==its.size)=true then _ else _) _ _ s;rw[if_pos (by simp)];obtain⟨⟨cls,dd,data,sl'⟩,ho,hc,n,hd⟩:=id ht;simp only at hc hd;subst hc hd
 wp_walk using wpAny_loadPart' ho
 exact⟨_,rfl,wpAny_pure q⟩
end
section
variable {X:Cx}
theorem QaA:OpR X (binaryOp .Add) (fun x y H Q=>∃a b ys,x=.ref a/\y=.ref b/\Rd H a (.tup [])/\Rd H b (.tup ys)/\Q (.ref b) H):=by
 intro pins s σ H x y v u Q I rx ry h;obtain⟨a,b,ys,rfl,rfl,ha,hb,q⟩:=h;cases rx;cases ry;obtain⟨its,r1,p1,_⟩:=I.tuple (.inl ha);obtain⟨its2,r2,p2,_⟩:=I.tuple (.inl hb);obtain rfl:its=[]:=r1.YM.mpr rfl;exact Qaz p1 p2 ⟨.ref b,H,I,rfl,q⟩
noncomputable def Qcs:R2:=fun x y H Q=>∃a b xs ys,x=.ref a/\y=.ref b/\Rd H a (.tup xs)/\Rd H b (.tup ys)/\xs.length+ys.length<=sizeLine/\(xs=[]->Q (.ref b) H)/\(xs≠[]->ys=[]->Q (.ref a) H)/\(xs≠[]->ys≠[]->∀p,H p=none->Q (.ref p) (upd H p (.tup (xs++ys))))
theorem VX:OpR X (binaryOp .Add) Qcs:=by
 intro pins s σ H x y v u Q I rx ry h;obtain⟨a,b,xs,ys,rfl,rfl,ha,hb,hz,q0,q1,q2⟩:=h
 by_cases hx:xs=[]
 ·subst hx;exact QaA pins s σ H _ _ v u Q I rx ry ⟨a,b,ys,rfl,rfl,ha,hb,q0 rfl⟩
 ·exact Qbu pins s σ H _ _ v u Q I rx ry ⟨a,b,xs,ys,rfl,rfl,.inl ha,.inl hb,hx,hz,q1 hx,q2 hx⟩
theorem Qy:IxR X (fun x y H Q=>∃p xs i v,x=.ref p/\y=.int i/\Rd H p (.tup xs)/\atI xs i=some v/\Q v H):=fun value slice pins s σ H x y v u Q I rx ry⟨p,xs,i,z,e1,e2,hq,he,q⟩ hs=>JV value slice pins s σ H x y v u Q I rx ry ⟨p,xs,i,z,e1,e2,.inl hq,he,q⟩ hs
theorem QaB:IxR X (fun x y H Q=>∃p xs i v,x=.ref p/\y=.int i/\Rd H p (.lst xs)/\atI xs i=some v/\Q v H):=fun value slice pins s σ H x y v u Q I rx ry⟨p,xs,i,z,e1,e2,hq,he,q⟩ hs=>Je value slice pins s σ H x y v u Q I rx ry ⟨p,xs,i,z,e1,e2,.inl hq,he,q⟩ hs
noncomputable def Qct:V->Option Int->Option Int->Hp->VK->Prop:=fun x lo hi H Q=>∃a xs,x=.ref a/\Rd H a (.tup xs)/\((HT.sIx xs.length 0 lo=0/\HT.sIx xs.length xs.length hi=xs.length)->Q (.ref a) H)/\(¬ (HT.sIx xs.length 0 lo=0/\HT.sIx xs.length xs.length hi=xs.length)->∀p,H p=none->Q (.ref p) (upd H p (.tup (U2 xs lo hi))))
theorem Qcu:SlR X Qct:=by
 intro pins s σ H x v vl vu lo hi sl Q I rx hs pl pu h;obtain⟨a,xs,rfl,hx,q1,q2⟩:=h
 by_cases hw:HT.sIx xs.length 0 lo=0/\HT.sIx xs.length xs.length hi=xs.length
 ·cases rx;obtain⟨its,r,ht,hz⟩:=I.tuple (.inl hx);have hlen:its.toArray.size=xs.length:=by rw[tJ];exact r.length.symm
  exact⟨"tuple",_,PyProof.Rows.slot_tuple_getitem.lookup,ht.typeIs,vn ht hs pl pu (by rw[hlen];exact hw) ⟨.ref a,H,I,rfl,q1 hw⟩⟩
 ·exact QaX pins s σ H (.ref a) v vl vu lo hi sl Q I rx hs pl pu ⟨a,xs,rfl,.inl hx,hw,q2 hw⟩
theorem QaC(xs:List V)(a c:Nat):U2 xs (some (a:Int)) (some (c:Int))=(xs.take c).drop a:=by
 unfold U2;rw[HT.Z6,HT.Z6,List.drop_take]
 by_cases h:a<=xs.length
 ·rw[show min a xs.length=a by omega];apply List.ext_getElem?;intro i;rw[List.getElem?_take,List.getElem?_take]
  by_cases h1:i<min c xs.length-a
  ·rw[if_pos h1,if_pos (by omega)]
  ·rw[if_neg h1]
   by_cases h2:i<c-a
   ·rw[if_pos h2,List.getElem?_drop,List.getElem?_eq_none (by omega)]
   ·rw[if_neg h2]
 ·rw[show min a xs.length=xs.length by omega,List.drop_length,List.take_nil,List.drop_of_length_le (by omega),List.take_nil]
theorem Qct.deep{x:V}{lo:Nat}{hi:Nat}{H:Hp}{Q:VK}{ds:List Dv}(hx:Deep H x (.tup ds))(k:∀v H',Qo H H'->Deep H' v (.tup ((ds.take hi).drop lo))->Q v H'):Qct x (some (lo:Int)) (some (hi:Int)) H Q:=by
 obtain⟨a,xs,rfl,h1,t1⟩:=hx.VW;have l1:=t1.length;refine⟨a,xs,rfl,.inl h1,fun z=>?_,fun _ p hp=>?_⟩
 ·rw[HT.Z6,HT.Z6]at z;refine k _ _ (Qo.refl _) ?_;have e:(ds.take hi).drop lo=ds:=by
   by_cases h0:ds=[]
   ·rw[h0];simp
   ·have:0<ds.length:=List.length_pos_iff.mpr h0;rw[List.take_of_length_le (by omega),show lo=0 by omega,List.drop_zero]
  rw[e];exact hx
 ·have S:=Qo.new (o:=.tup (U2 xs (some (lo:Int)) (some (hi:Int)))) hp;have t2:Deeps H (U2 xs (some (lo:Int)) (some (hi:Int))) ((ds.take hi).drop lo):=by
   rw[QaC];exact(t1.take hi).drop lo
  exact k _ _ S (.tup Qd (t2.same S))
noncomputable def tyD:Dv->String
 | .non=>"NoneType"
 | .bl _=>"bool"
 | .int _=>"int"
 | .str _=>"str"
 | .tup _=>"tuple"
end
theorem Deep.ty{K:PySem.W.Frag}{H:Hp}{v:V}{d:Dv}(h:Deep H v d):TyOf K H v (.type (tyD d)):=by
 cases h with
 |non=>exact .non
 |bl=>exact .bl _
 |int=>exact .int _
 |str=>exact .str _
 |tup h t=>exact .tup h
section
variable {J:It}{n:Nat}{Ok:Hp->Prop}{item:Nat->Hp->V->Hp->Prop}{wi:TI}{g:TG}{te:TE}{Q:VK}{σ:St}{H:Hp}
theorem YE{H H':Hp}{vs:List V}{u:V}{ds:List Dv}{i:Nat}{d:Dv}(h:Deeps H vs (ds.take i))(S:Qo H H')(e:ds[i]? =some d)(hu:Deep H' u d):Deeps H' (vs++[u]) (ds.take (i+1)):=by
 rw[List.take_add_one,e];exact(h.same S).append (.cons hu .nil)
theorem ja{NB:List Str}(F:Fix J n Ok item)(ds:List Dv)(hn:ds.length=n)(h:∀R:It->Hp->Prop,(∀H1,Qo H H1->R J H1)->wi σ H R) (ho:∀H1,Qo H H1->Ok H1)
  (hs:∀i v H1 H2 d(R:V->Hp->Prop),ds[i]? =some d->Qo H H1->item i H1 v H2->(∀u H4,Qo H1 H4->Deep H4 u d->R u H4)->g v (List.replicate NB.length none) H2 fun σ2 H3=>te σ2 H3 R)
  (hd:∀xs H1 p,Qo H H1->Deeps H1 xs ds->H1 p=none->Q (.ref p) (upd H1 p (.lst xs))) (hz:n<sizeLine):YW NB wi g yD te σ H Q:=by
 refine Qax F (fun i vs H1=>Qo H H1/\Deeps H1 vs (ds.take i)) (fun R k=>h R fun H1 S=>k H1 ⟨S,.nil⟩) (fun i vs H1 hi⟨S,t⟩=>⟨ho H1 S,by rw[t.length,uY];omega⟩) ?_ ?_ hz
 ·rintro i v vs H1 H2 hi ⟨S,t⟩ it;have e:ds[i]? =some ds[i]:=List.getElem?_eq_getElem (by omega);exact hs i v H1 H2 _ (fun u H4=>Qo H H4/\Deeps H4 (vs++[u]) (ds.take (i+1))) e S it fun u H4 S4 du=>⟨S.trans S4,YE t S4 e du⟩
 ·rintro vs H1 ⟨S,t⟩ p hp;rw[List.take_of_length_le (by omega)]at t;exact hd vs H1 p S t hp
theorem x6{nn:Nat}{fi:List Nat}{fv:List V}(F:Fix J n Ok item)(ds:List Dv)(hn:ds.length=n)(h:∀R:It->Hp->Prop,(∀H1,Qo H H1->R J H1)->wi σ H R) (hfv:fi.map (fun i=>σ[i]?)=fv.map (fun v=>some (some v))) (ho:∀H1,Qo H H1->Ok H1)
  (hs:∀i v H1 H2 d(R:V->Hp->Prop),ds[i]? =some d->Qo H H1->item i H1 v H2->(∀u H4,Qo H1 H4->Deep H4 u d->R u H4)->g v (List.replicate nn none++fv.map some) H2 fun σ2 H3=>σ2.drop nn=fv.map some/\te σ2 H3 R)
  (hd:∀xs H1 p,Qo H H1->Deeps H1 xs ds->H1 p=none->Q (.ref p) (upd H1 p (.lst xs))) (hz:n<sizeLine):YB nn fi wi g yD te σ H Q:=by
 refine qX F (fun i vs H1=>Qo H H1/\Deeps H1 vs (ds.take i)) (fun R k=>h R fun H1 S=>k H1 ⟨S,.nil⟩) hfv (fun i vs H1 hi⟨S,t⟩=>⟨ho H1 S,by rw[t.length,uY];omega⟩) ?_ ?_ hz
 ·rintro i v vs H1 H2 hi ⟨S,t⟩ it;have e:ds[i]? =some ds[i]:=List.getElem?_eq_getElem (by omega);exact hs i v H1 H2 _ (fun u H4=>Qo H H4/\Deeps H4 (vs++[u]) (ds.take (i+1))) e S it fun u H4 S4 du=>⟨S.trans S4,YE t S4 e du⟩
 ·rintro vs H1 ⟨S,t⟩ p hp;rw[List.take_of_length_le (by omega)]at t;exact hd vs H1 p S t hp
theorem z7{H:Hp}{xs:List V}{ds:List Dv}(t:Deeps H xs ds){p:Addr}(hp:H p=none):Deep (upd H p (.tup xs)) (.ref p) (.tup ds):=.tup Qd (t.same (Qo.new hp))
theorem Wo{H:Hp}:∀{xs:List V}{ns:List Int},Deeps H xs (ns.map Dv.int)->xs=ns.map V.int
 |_,[],.nil=>rfl
 |_,n::ns,.cons h t=>by
  obtain rfl:=h.QcV;rw[Wo (ns:=ns) t];rfl
end
theorem cb1{r:List V->Hp->VK->Prop}{te:TE}{σ:St}{H:Hp}{Q:VK}(h:te σ H fun v H1=>r [v] H1 Q):tCB r (Jn te WV) σ H Q:=h
theorem Qd3{te:TE}{D:Ends}{σ:St}{H:Hp}(h:te σ H D.rt):QcR te D σ H:=h
theorem Qct.Qe7{x:V}{hi:Nat}{H:Hp}{Q:VK}{ds:List Dv}(hx:Deep H x (.tup ds))(k:∀v H',Qo H H'->Deep H' v (.tup (ds.take hi))->Q v H'):Qct x none (some (hi:Int)) H Q:=by
 have h:=Qct.deep (lo:=0) (hi:=hi) (Q:=Q) hx (by simpa using k);obtain⟨a,xs,e,h1,h2,h3⟩:=h;refine⟨a,xs,e,h1,fun z=>h2 ?_,fun z p hp=>?_⟩
 ·rw[HT.Z6,Nat.zero_min];exact⟨rfl,z.2⟩
 ·have e2:U2 xs none (some (hi:Int))=U2 xs (some ((0:Nat):Int)) (some (hi:Int)):=by unfold U2;rw[HT.zt,show HT.sIx xs.length 0 (some ((0:Nat):Int))=0 by rw[HT.Z6,Nat.zero_min]]
  rw[e2];exact h3 (fun y=>z ⟨rfl,y.2⟩) p hp
theorem vo{n:Nat}{fi:List Nat}{wi:TI}{g:TG}{tt:TT}{te:TE}{Q:VK}{σ:St}{H:Hp}(h:wi σ H fun J H1=>YB n fi (fun _ H R=>R J H) g tt te σ H1 Q):YB n fi wi g tt te σ H Q:=h
section
variable {X:Cx}
noncomputable def Qcv:R2:=fun x y H Q=>∃p xs i v,x=.ref p/\y=.int i/\Rd H p (.lst xs)/\atI xs i=some v/\Q v H
theorem QaD{es:List Expr}{t:TA}{b:Expr}{tb:TE}{p pos:Pos}(h:PAx X es t)(hb:PEx X b tb)(hs:kK b):PEx X (.Subscript (.List es p) b pos) (tOp Qcv (Qdc t) tb):=⟨Qw QaB (X9 h.pa) hb.pe hs⟩
theorem Jq{i:Nat}{x:Str}{e:Expr}{te:TE}{pos pos':Pos}(hN:X.N.Nodup)(hi:X.N[i]? =some x)(hx:Loc X.env.scope x)(he:PEx X e te)(hs:swapsWith e (some (.Name x pos')) pos.line X.env=pure false)(hf:X.fn x=true):PSy X (.Assign [.Name x pos'] e pos) (Z2 te (QV i)):=⟨Qt hN hi hx he.pe hs (.inl hf)⟩
theorem vq{tg iter:Expr}{body:List Stmt}{wi:TI}{g:TG}{tb:TS}{pos:Pos}(hp:PassesOwn (model X.prog X.w) X.A X.env X.xe)(hc:X.calm=true)(hi:PI X tg iter wi)(hg:PG X tg g)(hb:PSx X body tb)(hs:∀x,foldedSetIterable iter X.env x=pure x):PSy X (.For tg iter body [] pos) (Qfm wi g tb):=⟨Xq hp hc hi hg hb.ps hs⟩
theorem Jg{e:Expr}{te:TE}{pos:Pos}(he:PEx X e te):PSy X (.Return (some e) pos) (QcR te):=⟨Qn he.pe⟩
end
noncomputable def TaD(ta:TA)(ds:List Dv):Prop:=∀(σ:St)(H:Hp)(R:List V->Hp->Prop),(∀xs H1,Qo H H1->Deeps H1 xs ds->R xs H1)->ta σ H R
theorem Qcw:TaD WV []:=fun σ H R h=>h [] H (Qo.refl _) .nil
theorem Wp{x:Str}{t:TA}{ds:List Dv}(h:TaD t ds):TaD (Jn (tC (.str x)) t) (.str x::ds):=fun σ H R k=>h σ H _ fun xs H1 S t=>k _ _ S (.cons .str t)
section
variable {K:PySem.W.Frag}
section
variable {H H':Hp}{a t r:Addr}{ns:List Int}{c c':Int}
theorem Bag.WK(B:Bag K H a t r ns c)(A:Apart t r H H'):∀b ys,H b=some (.tup ys)->H' b=some (.tup ys):=fun b ys e=>B.keep A e fun _ z=>nomatch z
theorem Bag.Qe8{σ:St}{i j:Nat}{n:Int}{ta:TA}{ds:List Dv}{Q:VK}{E:XK}(B:Bag K H a t r ns c)(hi:σ[i]? =some (some (.ref a)))(hj:σ[j]? =some (some (.ref t)))(hta:TaD ta ds)(hn:n=(ds.length:Int))(h0:0<n)(h1:n<1000)(hc:c<100000)
  (k:∀(d:Nat)(x:V)(dv:Dv)(H':Hp),ds[d]? =some dv->Deep H' x dv->Bag K H' a t r ns (c+1)->Apart t r H H'->Q x H'):tOp Qcv (Qdc ta) (V8 (WG K) [] E (Jn (Kt i) (Jn (Kt j) (Jn (tC (.int n)) WV)))) σ H Q:=by
 have hz:1000<=sizeLine:=by decide
 refine hta _ _ _ fun xs H1 S1 T1=>⟨by have:=T1.length;omega,fun p hp=>?_⟩;have S:=Qo.new (o:=.lst xs) hp;have B1:=B.same (S1.trans S);refine B1.draw hi hj (fun R h=>h) h0 (by omega) hc fun d H' hd B' A'=>?_;have hl:=T1.length;obtain⟨x,hx⟩:∃x,xs[d]? =some x:=⟨_,List.getElem?_eq_getElem (by omega)⟩;have hpp:H' p=some (.lst xs):=B1.keep A' Qd fun _ z=>nomatch z;obtain⟨dv,hdv,ddv⟩:=T1.x0 hx;exact⟨p,xs,d,x,rfl,rfl,.inl hpp,JI hx,k d x dv H' hdv ((ddv.same S).keep (B1.WK A')) B' (fun b o e n1 n2=>A' b o ((S1.trans S) _ _ e) n1 n2)⟩
end
end
noncomputable def isStar:Expr->Bool
 | .Starred .. =>true
 |_=>false
theorem ZC{e:Expr}{es:List Expr}{env:Env}(h:isStar e=false):starEach (e::es) env=(false,eval e env)::starEach es env:=by
 cases e<;>first|rfl|cases h
section
variable {X:Cx}{K0:PySem.W.Frag}{o e e1:Expr}{es:List Expr}{to te te1:TE}{t:TA}{name:Str}{apos cpos:Pos}{T id:String}{r:V->List V->Hp->VK->Prop}
theorem QB(ha:PE X e te)(hr:PA X es t)(h:isStar e=false:=by rfl):PA X (e::es) (Jn te t):=Qa ha hr (ZC h)
theorem Qd4(pa:PlainAttrs T)(slot:Slot T name id)(hty:typeOf (.builtin id)=pure (.type "method_descriptor"))(hm:MtR X id r)(ho:PE X o to)(ha:PA X [e] t)(h:isStar e=false:=by rfl)
  (hbase:attributeBase o name X.env (eval o X.env)=eval o X.env:=by rfl) (hline:(apos.endLine==cpos.line)=true:=by rfl):PE X (.Call (.Attribute o name apos) [e] [] cpos) (tBM X.K T r to t):=by
 refine JO pa slot hty hm ho ha hbase ?_ hline (ZC h) rfl;rw[ZC h];rfl
theorem QaE{x:Str}{j:Nat}{p:Pos}(ha:PA X [e] t)(h:isStar e=false)(hline:(apos.endLine==cpos.line)=true):PE X (.Call (.Attribute (.Constant (.str x) j p) "join" apos) [e] [] cpos) (tBM X.K "str" (fun x vs H Q=>∃(z:Str)(p:Addr)(ys:List Str),x=.str z/\vs=[.ref p]/\SqL X.K H p (ys.map V.str)/\JoinOk z ys=true/\Q (.str (Txt.join z ys)) H) (tC (.str x)) t):=
 Qd4 plainAttrs_str slot_str_join type_str_join Kh Qk ha h rfl hline
theorem jb{x:Str}{j:Nat}{p:Pos}(ha:PAx X [e] t)(h:isStar e=false)(hline:(apos.endLine==cpos.line)=true):PEx X (.Call (.Attribute (.Constant (.str x) j p) "join" apos) [e] [] cpos) (tBM X.K "str" (fun x vs H Q=>∃(z:Str)(p:Addr)(ys:List Str),x=.str z/\vs=[.ref p]/\SqL X.K H p (ys.map V.str)/\JoinOk z ys=true/\Q (.str (Txt.join z ys)) H) (tC (.str x)) t):=⟨QaE ha.pa h hline⟩
theorem vt{a b:Expr}{ta tb:TE}{pos:Pos}{op:Operator}{r:R2}(hr:OpR X (binaryOp op) r)(ha:PEx X a ta)(hb:PEx X b tb):PEx X (.BinOp a op b pos) (tOp r ta tb):=⟨QC hr ha.pe hb.pe⟩
theorem JU(ha:PEx X e te)(hr:PAx X es t)(h:isStar e=false):PAx X (e::es) (Jn te t):=⟨Qa ha.pe hr.pa (ZC h)⟩
theorem Qbe{c a b:Expr}{tA:TT}{ta tb:TE}{pos:Pos}(hc:PT X c tA)(ha:PEx X a ta)(hb:PEx X b tb):PEx X (.IfExp c a b pos) (tIf tA ta tb):=⟨Jj hc ha.pe hb.pe⟩
theorem Xl{k:Nat}{pos:Pos}(h:PAx X es t):PEx X (.Tuple es k pos) (Qdb t):=⟨QI h.pa⟩
theorem VY{c:Expr}{a b:List Stmt}{tc:TT}{t1 u:TS}{pos:Pos}(hc:PT X c tc)(ha:PSx X a t1)(hb:PSx X b u):PSy X (.If c a b pos) (Qeg tc t1 u):=⟨QM hc ha.ps hb.ps⟩
theorem XT:PSx X [] Js:=⟨Qu⟩
end
theorem jZ:typeLookup (.type "tuple") "__reversed__"=pure none:=by rw[typeLookup_type,builtinLookup_eq_fast];kernel_rfl
theorem VZ:typeLookup (.type "tuple") "__getitem__"=pure (some (.builtin "tuple.__getitem__")):=by rw[typeLookup_type,builtinLookup_eq_fast];kernel_rfl
theorem sub_tuple_dict:isSubtype (.type "tuple") (.type "dict")=pure false:=by rw[isSubtype_type];kernel_rfl
noncomputable abbrev Zm(h:Heap)(it a:Addr)(i:Int):Prop:=h.get? it=some {cls:=.type "reversed",data:=.fields #[.ref a,rawInt i]}
set_option maxHeartbeats 4000000 in
theorem x8(a:Addr)(xs:Array Value):Meets (Builtin.«reversed.__new__» ⟨[.type "reversed",.ref a],[]⟩) (fun _ R s=>IsTup s.heap a xs/\((xs.size:Nat):Int)<2^63/\∀k,R (.ok (.ret (.ref s.heap.objs.size))) {s with heap:=s.heap.push {cls:=.type "reversed",data:=.fields #[.ref a,rawInt ((xs.size:Int)-1)]},toks:=k}):=
 .of_wp fun prog w A R s h=>by
  obtain⟨hp,g,d,tk,os⟩:=s;obtain⟨h1,hl,h⟩:=h;have hsub:=F.sub_reversed_self;have ht:Shared.TypeIs ⟨hp,g,d,tk,os⟩ (.ref a) "tuple":=by obtain⟨o,e,c,_⟩:=h1;exact⟨o,e,c⟩
  have hx:=jZ;have hy:=VZ;have hd:=sub_tuple_dict;have p1:IsTup (Shared.heap ⟨hp,g,d,tk,os⟩) a xs:=h1
  wp_walk using wpAny_specialOf ht hx ?_,wpAny_specialOf ht hy ?_,len_tuple p1 hl ?_
  exact⟨_,rfl,h _⟩
theorem JT:Slot "reversed" (Str.ofString "__next__") "reversed.__next__":=Slot.of (owner:="reversed") (n:="__next__") (by rw[typeLookup_type,builtinLookup_eq_fast];kernel_rfl) (by decide+kernel) (by decide+kernel) (by decide+kernel) (Or.inl (by decide+kernel)) F.sub_reversed_self (by decide+kernel)
theorem KO:Slot "reversed" (Str.ofString "__iter__") "reversed.__iter__":=Slot.of (owner:="reversed") (n:="__iter__") (by rw[typeLookup_type,builtinLookup_eq_fast];kernel_rfl) (by decide+kernel) (by decide+kernel) (by decide+kernel) (Or.inl (by decide+kernel)) F.sub_reversed_self (by decide+kernel)
theorem Kf:entryFor table "reversed.__next__"=some Builtin.«reversed.__next__»:=entryFor_of_tree (by kernel_rfl)
theorem KP(a:Value):argsOk "reversed.__next__" {pos:=[a]}:=by first|with_unfolding_all rfl|kernel_rfl
theorem UF(a:Value):argsOk "reversed.__iter__" {pos:=[a]}:=by first|with_unfolding_all rfl|kernel_rfl
theorem j0:isSubtype (.type "reversed") (.type "object")=pure true:=by rw[isSubtype_type];kernel_rfl
theorem UG:Slot "reversed" (Str.ofString "__init__") "object.__init__":=Slot.of (owner:="object") (n:="__init__") (by rw[typeLookup_type,builtinLookup_eq_fast];kernel_rfl) (by decide+kernel) (by decide+kernel) (by decide+kernel) (Or.inl (by decide+kernel)) j0 (by decide+kernel)
theorem x9:TypeCalled "reversed" "reversed.__new__" "object.__init__":=⟨by decide,F.create_reversed,⟨_,_,F.mro_reversed⟩,F.made_reversed,F.plain_reversed_new,F.sub_reversed_self,UG⟩
theorem Yj:entryFor table "reversed.__iter__"=some Builtin.«dict_keyiterator.__iter__»:=entryFor_alias (id':="dict_keyiterator.__iter__") (by rw[fastTable_eq_tree];kernel_rfl) (by first|kernel_rfl|decide+kernel) (by first|kernel_rfl|decide+kernel) (by rw[fastTable_eq_tree];kernel_rfl)
section
variable {prog:Program}{w:World}{A:Around}{E:Value->Shared->Prop}{s:Shared}
set_option maxHeartbeats 4000000 in
theorem vv{it a:Addr}{i:Nat}{xs:Array Value}{x:Value}{Q:Value->Shared->Prop}(h:Zm s.heap it a (i:Int))(hT:IsTup s.heap a xs)(hi:i<xs.size)(hl:((xs.size:Nat):Int)<2^63)(hx:xs[i]? =some x)
  (hQ:∀h' k,Zm h' it a ((i:Int)-1)->Heap.SameBut it s.heap h'->Q x {s with heap:=h',toks:=k}):wpAny (model prog w) A (Builtin.«reversed.__next__» ⟨[.ref it],[]⟩) (fun fin s'=>∃v,fin=.done (.ret v)/\Q v s') E s:=by
 have ht:Shared.TypeIs s (.ref a) "tuple":=by obtain⟨o,e,c,_⟩:=hT;exact⟨o,e,c⟩
 have hn:¬ ((i:Int)<0):=by omega
 show wpAny _ _ (field (.ref it) 0>>=_) _ _ _;refine wpAny_bind (wpAny_field h rfl (x:=.ref a) rfl ?_);refine wpAny_bind (wpAny_field h rfl (x:=rawInt (i:Int)) rfl ?_);unfold rawInt;dsimp only;rw[if_neg hn];refine wpAny_bind (wpAny_specialOf ht VZ ?_);rw[if_neg (by decide)];refine wpAny_bind (wpAny_mkInt ?_);refine wpAny_bind (wpAny_attempt (getItem_tuple (s:={s with toks:=s.toks+1}) (j:=i) hT (by omega) (by omega) ?_ hx ?_))
 ·unfold seqIndex?;dsimp only;rw[if_neg hn,if_pos (by simp;omega)];rfl
 dsimp only;refine wpAny_bind (wpAny_field (s:={s with toks:=s.toks+1}) h rfl (x:=rawInt (i:Int)) rfl ?_);unfold rawInt;dsimp only;refine wpAny_bind (wpAny_setField_rec (s:={s with toks:=s.toks+1}) h (by simp) fun h₁ hz₁ hs₁=>?_);exact wpAny_pure ⟨_,rfl,hQ _ _ hz₁ hs₁⟩
set_option maxHeartbeats 4000000 in
theorem QaF{it a:Addr}{Q:Fin->Shared->Prop}(h:Zm s.heap it a (-1))(hh:A.handled=none)
  (hE:∀h' e k,(∀c o,c≠it->s.heap.get? c=some o->h'.get? c=some o)->(∃o,h'.get? e=some o/\o.cls=.type "StopIteration")->E (.ref e) {s with heap:=h',toks:=k}):wpAny (model prog w) A (Builtin.«reversed.__next__» ⟨[.ref it],[]⟩) Q E s:=by
 show wpAny _ _ (field (.ref it) 0>>=_) _ _ _;refine wpAny_bind (wpAny_field h rfl (x:=.ref a) rfl ?_);refine wpAny_bind (wpAny_field h rfl (x:=rawInt (-1)) rfl ?_);unfold rawInt;dsimp only;rw[if_pos (by decide)];refine wpAny_bind (wpAny_rule ?_)
 wp_walk
 refine wpAny_raiseNew_none hh ?_;refine hE _ _ _ (fun c o hc e=>?_) ⟨_,Heap.get?_push_size _ rfl,rfl⟩;refine Heap.get?_push_of_some _ (Heap.get?_push_of_some _ ?_);rw[Heap.get?_update_ne _ _ _ _ hc,Heap.get?_update_ne _ _ _ _ hc];exact e
theorem Xm{it a:Addr}{i:Int}{Q:Value->Shared->Prop}(h:Zm s.heap it a i)(hQ:Q (.ref it) s):wpAny (model prog w) A (pyIter (.ref it)) Q E s:=
 have hT:s.TypeIs (.ref it) "reversed":=⟨_,h,rfl⟩
 wpAny_pyIter_slot hT KO (wpAny_call_entry KO hT Yj (id (wpAny_pure ⟨_,rfl,"reversed",.builtin "reversed.__next__",hT,JT.lookup,hQ⟩)) (UF _))
theorem V0{it a:Addr}{i:Nat}{xs:Array Value}{x:Value}{Q:Option Value->Shared->Prop}(h:Zm s.heap it a (i:Int))(hT:IsTup s.heap a xs)(hi:i<xs.size)(hl:((xs.size:Nat):Int)<2^63)(hx:xs[i]? =some x)
  (hQ:∀h' k,Zm h' it a ((i:Int)-1)->Heap.SameBut it s.heap h'->Q (some x) {s with heap:=h',toks:=k}):wpAny (model prog w) A (pyNext (.ref it)) Q E s:=by
 have hT2:s.TypeIs (.ref it) "reversed":=⟨_,h,rfl⟩;unfold pyNext;exact wpAny_bind (wpAny_attempt (wpAny_callSpecial?_slot (name:=Str.ofString "__next__") hT2 JT (wpAny_call_entry JT hT2 Kf (vv h hT hi hl hx fun h' k a1 a2=>wpAny_pure (hQ h' k a1 a2)) (KP _))))
theorem YF{it a:Addr}{Q:Option Value->Shared->Prop}(h:Zm s.heap it a (-1))(hh:A.handled=none)
  (hQ:∀h' k,(∀c o,c≠it->s.heap.get? c=some o->h'.get? c=some o)->Q none {s with heap:=h',toks:=k}):wpAny (model prog w) A (pyNext (.ref it)) Q E s:=by
 have hT2:s.TypeIs (.ref it) "reversed":=⟨_,h,rfl⟩;unfold pyNext;refine wpAny_bind (wpAny_attempt (wpAny_callSpecial?_slot (name:=Str.ofString "__next__") hT2 JT (wpAny_call_entry JT hT2 Kf (QaF h hh fun h' e k hk he=>?_) (KP _))));obtain⟨o,ho,hc⟩:=he;refine wpAny_bind (wpAny_isInstance (T:="StopIteration") (b:=true) ⟨o,ho,hc⟩ isSubtype_stop ?_);exact wpAny_pure (hQ _ _ hk)
theorem jc{a:Addr}{xs:Array Value}{Q:Value->Shared->Prop}(hT:IsTup s.heap a xs)(hl:((xs.size:Nat):Int)<2^63)
  (hQ:∀k,Q (.ref s.heap.objs.size) {s with heap:=s.heap.push {cls:=.type "reversed",data:=.fields #[.ref a,rawInt ((xs.size:Int)-1)]},toks:=k}):wpAny (model prog w) A (call (.type "reversed") [.ref a]) Q E s:=
 callType_new x9 (by decide) (F.typeCall_reversed_1 _) (F.newCall_reversed_1 _) (fun obj=>F.args_object_init_2 obj _) F.entry_reversed_new (x8 a xs) ⟨hT,hl,fun k=>⟨⟨_,Heap.get?_push_size _ rfl,rfl⟩,hQ k⟩⟩
end
noncomputable def Qe9(K:PySem.W.Frag)(a:Addr)(n:Nat):It:=⟨fun i H=>∃xs x,SqT K H a xs/\xs.length=n/\i<n/\xs[n-1-i]? =some x,fun i H v H'=>H'=H/\∀xs,SqT K H a xs->xs[n-1-i]? =some v,fun i H=>i=n⟩
theorem vw{P:Program}{w:World}{K:PySem.W.Frag}{tg:Expr}(a it:Addr)(n:Nat):Turn P w K tg (Qe9 K a n) [it] it (fun i h=>i<=n/\Zm h it a ((n:Int)-1-(i:Int))) where
 mem:=by simp
 obj:=fun i h st b hb=>by
  have e:b=it:=by simpa using hb
  subst e;exact⟨_,st.2,fun v z=>nomatch (show Data.fields _=Data.cell v from z)⟩
 keep:=fun i h h' st k=>⟨st.1,k it (by simp) _ st.2⟩
 item:=by
  intro X hP hw hK hc i pins s σ H E I hf st hg;subst hP hw hK;obtain⟨xs,x,hq,hl,hi,hx⟩:=hg;obtain⟨its,rv,p,hz⟩:=I.tuple hq;obtain⟨u,hu,ru⟩:=rv.get hx;obtain⟨f0,f1,f2,f3,f4,f5⟩:=hf it (by simp);have e1:(n:Int)-1-(i:Int)=((n-1-i:Nat):Int):=by omega
  have st2:=st.2;rw[e1]at st2;have hlen:=rv.length;have h63:=ZW;refine V0 (xs:=its.toArray) (x:=u) st2 p (by rw[tJ];omega) (by rw[tJ];omega) (by simpa using hu) fun h' k st' sb=>?_;have I1:Inv X pins σ H {s with heap:=h',toks:=k}:=I.turned (t':=k) (fun b o hb e=>(sb.2 b hb).trans e) f0 f1 f3 f4 f5;have e2:((n-1-i:Nat):Int)-1=(n:Int)-1-((i+1:Nat):Int):=by omega
  rw[e2]at st';exact⟨u,rfl,xu (s:={s with heap:=h',toks:=k}) st' rfl rfl (by decide) ⟨x,H,I1,ru,⟨rfl,fun ys hy=>by rw[I.Vd hy hq];exact hx⟩,⟨by omega,st'⟩,fun b hb=>(hf b hb).1⟩⟩
 done:=by
  intro X hP hw hK hc i pins s σ H E I hf st hg;subst hP hw hK;have hg:i=n:=hg;obtain⟨f0,f1,f2,f3,f4,f5⟩:=hf it (by simp);have st2:=st.2;rw[show(n:Int)-1-(i:Int)= -1 by omega]at st2;exact YF st2 (I.ok.hd hc) fun h' k eb=>⟨rfl,I.turned (t':=k) (fun b o hb e=>eb b o hb e) f0 f1 f3 f4 f5⟩
 self:=fun _ _ _ _ _ st h=>Xm st.2 h
section
variable {X:Cx}
noncomputable def Qf8(K:PySem.W.Frag)(ta:TA):TI:=fun σ H R=>ta σ H fun vs H1=>∃a xs,vs=[.ref a]/\SqT K H1 a xs/\R (Qe9 K a xs.length) H1
theorem Qcx{tg e:Expr}{ta:TA}{p pos:Pos}(hg:Gl X "reversed")(hm:X.mg "reversed"=none)(ha:PA X [e] ta)(h1:isStar e=false):PI X tg (.Call (.Name "reversed" p) [e] [] pos) (Qf8 X.K ta):=by
 intro pins s σ H R I h;refine Call_ (ZV I hg hm boot_reversed (PyProof.Rows.callWith_type1 (thn (ha pos pins s σ H _ I h) fun us s1⟨vs,H1,I1,r1,a,xs,e,hq,q⟩=>?_) (ZC h1) rfl));subst e;obtain⟨u,rfl,rfl⟩:=vals1 r1;obtain⟨its,rv,pp,hz⟩:=I1.tuple hq;have hlen:=rv.length;have h63:=ZW;refine jc (xs:=its.toArray) pp (by rw[tJ];omega) fun k=>?_;have g:Zm (s1.heap.push {cls:=.type "reversed",data:=.fields #[.ref a,rawInt ((its.toArray.size:Int)-1)]}) s1.heap.objs.size a ((xs.length:Int)-1-((0:Nat):Int)):=by
  have e:(xs.length:Int)-1-((0:Nat):Int)=(its.toArray.size:Int)-1:=by rw[tJ];omega
  rw[e];exact Heap.get?_push_size _ rfl
 refine Xm (s:={s1 with heap:=s1.heap.push {cls:=.type "reversed",data:=.fields #[.ref a,rawInt ((its.toArray.size:Int)-1)]},toks:=k}) g ?_;refine⟨s1.heap.objs.size,[s1.heap.objs.size],_,_,H1,rfl,I1.kept (t':=k) fun b o e=>Heap.get?_push_of_some _ e,vw a _ xs.length,⟨tK _,g⟩,fun b hb=>?_,q⟩;obtain rfl:b=s1.heap.objs.size:=by simpa using hb
 exact I1.kj (uQ _) (I1.hok.fresh (uQ _))
end
theorem Qfa{K:PySem.W.Frag}{a:Addr}{xs:List V}:Fix (Qe9 K a xs.length) xs.length (fun H=>SqT K H a xs) (fun i H v H'=>H'=H/\xs[xs.length-1-i]? =some v):=
 ⟨fun i H ok h=>let ⟨x,e⟩:=Qcq (xs:=xs) (i:=xs.length-1-i) (by omega);⟨xs,x,ok,rfl,h,e⟩,fun H ok=>rfl,fun i H v H' ok _ y=>⟨y.1,y.2 _ ok⟩⟩
section
variable {X:Cx}
open Classical in
theorem vz{A:Around}{k:Nat}(hr:Room k A):A.units+16<cLine:=Nat.lt_of_le_of_lt (by omega:A.units+16<=A.units+64) hr.units
theorem Qcy{tg a:Expr}{ta:TA}{p p2 pos pos2:Pos}(hg:Gl X "reversed")(hm:X.mg "reversed"=none)(hg2:Gl X "range")(hm2:X.mg "range"=none)(ha:PA X [a] ta)(h1:isStar a=false):
  PI X tg (.Call (.Name "reversed" p) [.Call (.Name "range" p2) [a] [] pos2] [] pos) (Qf7 (fun σ H Q=>ta σ H fun vs H1=>Q (.int 0::vs) H1)):=by
 intro pins s σ H R I h;have hs3:starEach [.Call (.Name "range" p2) [a] [] pos2] X.env=[(false,eval (.Call (.Name "range" p2) [a] [] pos2) X.env)]:=rfl;refine Call_ (ZV I hg hm boot_reversed (PyProof.Rows.callWith_type1 ?_ hs3 rfl));rw[hs3];show wpAny _ _ (spliced ((false,eval (.Call (.Name "range" p2) [a] [] pos2) X.env)::[])) _ _ s;refine Calls.spliced_cons ?_;refine Call_ (ZV I hg2 hm2 boot_range (PyProof.Rows.callWith_type1 (thn (ha pos2 pins s σ H _ I h) fun us s1⟨vs,H1,I1,r1,i,j,e,bd,q⟩=>?_) (ZC h1) rfl));obtain⟨rfl,rfl⟩:(0:Int)=i/\vs=[.int j]:=by
  injection e with e1 e2;injection e1 with e1;exact⟨e1,e2⟩
 obtain⟨v1,rfl,⟨t,rfl⟩⟩:=vals1 r1;refine call_range_1 (Calls.spliced_nil ?_);have I2:Inv X pins σ H1 {s1 with heap:=s1.heap.push {cls:=.type "range",data:=.fields #[.int 0 s1.toks,.int j t,.int 1 (s1.toks+1)]},toks:=s1.toks+1+1}:=I1.kept fun b o e=>Heap.get?_push_of_some _ e;refine qZ (s:={s1 with heap:=s1.heap.push {cls:=.type "range",data:=.fields #[.int 0 s1.toks,.int j t,.int 1 (s1.toks+1)]},toks:=s1.toks+1+1}) (IsRange.new ..) bd ?_;generalize hS2:({s1 with heap:=s1.heap.push {cls:=.type "range",data:=.fields #[.int 0 s1.toks,.int j t,.int 1 (s1.toks+1)]},toks:=s1.toks+1+1}:Shared)=s2 at I2;have hit:IsRangeIter (s2.heap.push (rvO 0 j)) s2.heap.objs.size (0+((j-0).toNat:Nat)-1+((0:Nat):Int)*(-1)) ((((j-0).toNat:Nat):Int)-((0:Nat):Int)) (-1):=by
  have e1:0+((j-0).toNat:Nat)-1+((0:Nat):Int)*(-1)=0+(Builtin.Range.rangeSize 0 j 1-1)*1:=by rw[vm];simp
  have e2:(((j-0).toNat:Nat):Int)-((0:Nat):Int)=Builtin.Range.rangeSize 0 j 1:=by rw[vm];simp
  rw[e1,e2];exact Heap.get?_push_size _ rfl
 refine wpAny_pyIter_rangeiter (s:={s2 with heap:=s2.heap.push (rvO 0 j)}) hit ?_;refine⟨s2.heap.objs.size,[s2.heap.objs.size],_,_,H1,rfl,I2.kept (t':=s2.toks) fun b o e=>Heap.get?_push_of_some _ e,Vs _ _ (-1) _,hit,fun b hb=>?_,q⟩;obtain rfl:b=s2.heap.objs.size:=by simpa using hb
 exact I2.kj (uQ _) (I2.hok.fresh (uQ _))
structure PPx(X:Cx)(pos:Pos)(ks:List (Option Expr))(vs:List Expr)(trs:List (TE × TE)):Prop where
 pp:PPs X pos ks vs trs
theorem Qcz{pos:Pos}:PPx X pos [] [] []:=⟨kU⟩
theorem X3{pos:Pos}{k v:Expr}{ks:List (Option Expr)}{vs:List Expr}{tk tv:TE}{trs:List (TE × TE)}(hk:PEx X k tk)(hv:PEx X v tv)(h:PPx X pos ks vs trs):PPx X pos (some k::ks) (v::vs) ((tk,tv)::trs):=⟨YS hk.pe hv.pe h.pp⟩
theorem vA{pos:Pos}{ks:List (Option Expr)}{vs:List Expr}{trs:List (TE × TE)}(h:PPx X pos ks vs trs)(hall:ks.all (·.isSome)=true)(hl:ks.length=vs.length)(h0:ks≠[])(h15:ks.length<=15):PEx X (.Dict ks vs pos) (yu trs):=⟨kW h.pp hall hl h0 h15⟩
theorem QaG{o i:Expr}{pos:Pos}{td ty:TE}(hu:X.A.units+1<cLine)(ho:PEx X o td)(hi:PEx X i ty)(hs:Qel i):PEx X (.Subscript o i pos) (Qdm td ty):=⟨K8 hu ho.pe hi.pe hs⟩
end
end L2
namespace Lw
open PySem PySem.Spec PyProof.Rows L2 K02 K04
open Builtin Builtin.Str StrLaws
inductive Ly where
 |box (nm:Str) (p:Nat)
 |grp (nm:Str) (its:List (Bool × Ly))
 |tab (nm:Str) (k:Nat) (its:List (Bool × Ly))
noncomputable def YG:Nat->Str
 |0=>"9(3)"|1=>"S99V9"|2=>"X(4)"|3=>"AA"|4=>"Z9.9"|_=>"X"
noncomputable def szP:Nat->Nat
 |0=>3|1=>3|2=>4|3=>2|4=>4|_=>1
mutual
noncomputable def Ly.dv:Ly->Dv
 | .box nm p=>.tup [.str "box",.str nm,.str (YG p)]
 | .grp nm its=>.tup [.str "group",.str nm,.tup (dvL its)]
 | .tab nm k its=>.tup [.str "table",.str nm,.int (k:Nat),.tup (dvL its)]
noncomputable def dvL:List (Bool × Ly)->List Dv
 |[]=>[]
 |x::xs=>dvI x::dvL xs
noncomputable def dvI:Bool × Ly->Dv
 |(ov,y)=>if ov=true then .tup [.str "over",y.dv]else y.dv
end
mutual
noncomputable def Ly.sz:Ly->Nat
 | .box _ p=>szP p
 | .grp _ its=>szL its
 | .tab _ k its=>szL its*k
noncomputable def szL:List (Bool × Ly)->Nat
 |[]=>0
 |x::xs=>szI x+szL xs
noncomputable def szI:Bool × Ly->Nat
 |(ov,y)=>if ov=true then 0 else y.sz
end
mutual
noncomputable def Ly.cn:Ly->Nat
 | .box _ _=>1
 | .grp _ its=>1+cnL its
 | .tab _ _ its=>1+cnL its
noncomputable def cnL:List (Bool × Ly)->Nat
 |[]=>0
 |x::xs=>cnI x+cnL xs
noncomputable def cnI:Bool × Ly->Nat
 |(_,y)=>y.cn
end
mutual
noncomputable def Ly.okK:Ly->Prop
 | .box _ _=>True
 | .grp _ its=>okL its
 | .tab _ k its=>k<=1000/\okL its
noncomputable def okL:List (Bool × Ly)->Prop
 |[]=>True
 |x::xs=>okI x/\okL xs
noncomputable def okI:Bool × Ly->Prop
 |(_,y)=>y.okK
end
theorem V1:∀{its:List (Bool × Ly)}{j:Nat}{x:Bool × Ly},okL its->its[j]? =some x->okI x
 |[],_,_,_,h=>by simp at h
 |y::ys,0,x,o,h=>by
  rw[okL]at o;have:y=x:=by simpa using h
  subst this;exact o.1
 |y::ys,j+1,x,o,h=>by
  rw[okL]at o;exact V1 (its:=ys) (j:=j) o.2 (by simpa using h)
theorem Jh:∀its:List (Bool × Ly),dvL its=its.map dvI
 |[]=>rfl
 |x::xs=>by rw[dvL,Jh xs];rfl
theorem Ly.Qd5(y:Ly):1<=y.cn:=by cases y<;>rw[Ly.cn]<;>omega
theorem vB(x:Bool × Ly):1<=cnI x:=by obtain⟨o,y⟩:=x;rw[cnI];exact y.Qd5
theorem vC:∀its:List (Bool × Ly),its.length<=cnL its
 |[]=>tK _
 |x::xs=>by
  have:=vC xs;have:=vB x;rw[uT,cnL];omega
theorem W1{l:List Nat}{x:Facts}{z:Str}{n:Nat}(e:z=tx l)(h1:QR l=some x)(h2:40∉l)(h3:l.length<=100)(h4:(l.filter jn).length=n):∃(a l:List Nat)(x:Facts),z=tx l/\PicAt a l x/\(a.filter jn).length=n:=
 ⟨l,l,x,e,⟨h1,wJ l h2,h2,h3,by omega⟩,h4⟩
theorem vD{c d m:Nat}{x:Facts}{z:Str}(e:z=tx [c,40,d,41])(h1:QR [c,40,d,41]=some x)(hc:c≠40)(hn:Num [d] (m+1))(hm:m<=50)(h4:jn c=true):∃(a l:List Nat)(x:Facts),z=tx l/\PicAt a l x/\(a.filter jn).length=m+1:=by
 refine⟨List.replicate (m+1) c,_,x,e,⟨h1,?_,?_,by rw[tj];omega,(show 4<=500 by decide)⟩,?_⟩
 ·exact Sh.brk m Sh.nil hc hn
 ·intro h;exact hc (List.eq_of_mem_replicate h).symm
 ·rw[List.filter_eq_self.mpr (fun y hy=>by rw[List.eq_of_mem_replicate hy];exact h4),tj]
theorem UH(p:Nat):∃(a l:List Nat)(x:Facts),YG p=tx l/\PicAt a l x/\(a.filter jn).length=szP p:=by
 unfold YG szP
 split
 ·exact vD (c:=57) (d:=51) (m:=2) (by decide+kernel) (by first|rfl|decide+kernel) (by decide) ⟨by decide,(fun x hx=>by obtain rfl:=List.mem_singleton.mp hx;decide),by decide,by decide⟩ (by decide) (by decide)
 ·exact W1 (l:=[83,57,57,86,57]) (by decide+kernel) (by first|rfl|decide+kernel) (by decide) (by decide) (by decide)
 ·exact vD (c:=88) (d:=52) (m:=3) (by decide+kernel) (by first|rfl|decide+kernel) (by decide) ⟨by decide,(fun x hx=>by obtain rfl:=List.mem_singleton.mp hx;decide),by decide,by decide⟩ (by decide) (by decide)
 ·exact W1 (l:=[65,65]) (by decide+kernel) (by first|rfl|decide+kernel) (by decide) (by decide) (by decide)
 ·exact W1 (l:=[90,57,46,57]) (by decide+kernel) (by first|rfl|decide+kernel) (by decide) (by decide) (by decide)
 ·exact W1 (l:=[88]) (by decide+kernel) (by first|rfl|decide+kernel) (by decide) (by decide) (by decide)
structure LsSt(Hb H:Hp)(q:Addr)(xs:List V)(acc:List Dv):Prop where
 S:Qo Hb H
 f:Hb q=none
 g:H q=some (.lst xs)
 t:Deeps H xs acc
theorem W2{H H2:Hp}{l:Addr}{o:HO}(S:Qo H H2)(h:H l=none):Qo H (upd H2 l o):=fun b o' e=>by rw[Ql (Qv e h)];exact S _ _ e
theorem LsSt.same{Hb H H':Hp}{q:Addr}{xs:List V}{acc:List Dv}(B:LsSt Hb H q xs acc)(S:Qo H H'):LsSt Hb H' q xs acc:=⟨B.S.trans S,B.f,S _ _ B.g,B.t.same S⟩
theorem LsSt.put{Hb H:Hp}{q:Addr}{xs ys:List V}{acc acc':List Dv}(B:LsSt Hb H q xs acc)(t:Deeps H ys acc'):LsSt Hb (upd H q (.lst ys)) q ys acc':=⟨W2 B.S B.f,B.f,Qd,t.jY B.g (fun zs z=>nomatch z)⟩
section
variable {P:Program}{w:World}{K:PySem.W.Frag}{mg:Str->Option Value}{base:Heap}{f:Addr}{fd:FuncData}{tk:Nat->Tok}{c kr:Nat->Addr}
noncomputable def Ly.word:Ly->Str
 | .box _ _=>"box"
 | .grp _ _=>"group"
 | .tab _ _ _=>"table"
noncomputable def Ly.name:Ly->Str
 | .box nm _=>nm
 | .grp nm _=>nm
 | .tab nm _ _=>nm
theorem WL{H:Hp}{v:V}{nm:Str}{p:Nat}(h:Deep H v (Ly.box nm p).dv):∃a,v=.ref a/\H a=some (.tup [.str "box",.str nm,.str (YG p)]):=by
 rw[Ly.dv]at h;obtain⟨a,xs,rfl,g,t⟩:=Deep.VW h;cases t with
 |cons p1 t=>cases t with
  |cons p2 t=>cases t with
   |cons p3 t=>
    cases t;obtain rfl:=p1.z6;obtain rfl:=p2.z6;obtain rfl:=p3.z6;exact⟨a,rfl,g⟩
theorem KQ{H:Hp}{v:V}{nm:Str}{its:List (Bool × Ly)}(h:Deep H v (Ly.grp nm its).dv):∃a x,v=.ref a/\H a=some (.tup [.str "group",.str nm,x])/\Deep H x (.tup (dvL its)):=by
 rw[Ly.dv]at h;obtain⟨a,xs,rfl,g,t⟩:=Deep.VW h;cases t with
 |cons p1 t=>cases t with
  |cons p2 t=>cases t with
   |cons p3 t=>
    cases t;obtain rfl:=p1.z6;obtain rfl:=p2.z6;exact⟨a,_,rfl,g,p3⟩
theorem KR{H:Hp}{v:V}{nm:Str}{k:Nat}{its:List (Bool × Ly)}(h:Deep H v (Ly.tab nm k its).dv):∃a x,v=.ref a/\H a=some (.tup [.str "table",.str nm,.int (k:Nat),x])/\Deep H x (.tup (dvL its)):=by
 rw[Ly.dv]at h;obtain⟨a,xs,rfl,g,t⟩:=Deep.VW h;cases t with
 |cons p1 t=>cases t with
  |cons p2 t=>cases t with
   |cons p3 t=>cases t with
    |cons p4 t=>
     cases t;obtain rfl:=p1.z6;obtain rfl:=p2.z6;obtain rfl:=p3.QcV;exact⟨a,_,rfl,g,p4⟩
theorem V2{H:Hp}{v:V}{y:Ly}(h:Deep H v (dvI (true,y))):∃a x,v=.ref a/\H a=some (.tup [.str "over",x])/\Deep H x y.dv:=by
 rw[dvI,if_pos rfl]at h;obtain⟨a,xs,rfl,g,t⟩:=Deep.VW h;cases t with
 |cons p1 t=>cases t with
  |cons p2 t=>
   cases t;obtain rfl:=p1.z6;exact⟨a,_,rfl,g,p2⟩
theorem QcA{H:Hp}{v:V}{y:Ly}(h:Deep H v y.dv):∃a xs,v=.ref a/\H a=some (.tup (.str y.word:: .str y.name::xs)):=by
 cases y with
 |box nm p=>obtain⟨a,rfl,g⟩:=WL h;exact⟨a,_,rfl,g⟩
 |grp nm its=>obtain⟨a,x,rfl,g,_⟩:=KQ h;exact⟨a,_,rfl,g⟩
 |tab nm k its=>obtain⟨a,x,rfl,g,_⟩:=KR h;exact⟨a,_,rfl,g⟩
theorem Qfs:decide (V.str "box"=V.str "over")=false:=by decide+kernel
theorem Qft:decide (V.str "group"=V.str "over")=false:=by decide+kernel
theorem Qfu:decide (V.str "table"=V.str "over")=false:=by decide+kernel
theorem QcB:decide (V.str "group"=V.str "box")=false:=by decide+kernel
theorem QcC:decide (V.str "table"=V.str "box")=false:=by decide+kernel
theorem Qfb:decide (V.str "table"=V.str "group")=false:=by decide+kernel
theorem Qfv:decide (V.str "over"=V.str "box")=false:=by decide+kernel
theorem Qfw:decide (V.str "over"=V.str "group")=false:=by decide+kernel
theorem Qfx:decide (V.str "over"=V.str "table")=false:=by decide+kernel
theorem Qf9:decide (V.str "box"=V.str "table")=false:=by decide+kernel
theorem Qfy:decide (V.str "group"=V.str "table")=false:=by decide+kernel
theorem jd(y:Ly):decide (V.str y.word=V.str "over")=false:=by
 cases y with
 |box nm p=>exact Qfs
 |grp nm its=>exact Qft
 |tab nm k its=>exact Qfu
noncomputable def z8:Sp:=fun vs H Q _=>∃(v:V)(o:Bool)(y:Ly),vs=[v]/\Deep H v (dvI (o,y))/\∀u,Deep H u y.dv->Q u H
theorem QcD(F:Fun K "bare" "bare" wq f fd):FnOk P w K mg base (CXE P w) 1 f fd ["item"] z8:=by
 refine zF F QbO (fun vs H Q E h=>?_) (fun cdv A outer s H vs Q E hr h=>?_)
 ·obtain⟨v,o,y,rfl,_⟩:=h;rfl
 ·obtain⟨v,o,y,rfl,D,k⟩:=h;refine⟨_,(QJ (Jg (Qbe (Qj Jc (Qw Qy (pv 0) Qg (fun _ _=>rfl)) Qk (Qm _)) (PEx.mk (Qw Qy (pv 0) Qg (fun _ _=>rfl))) (PEx.mk (pv 0))))),?_⟩;cases o with
  |true=>
   obtain⟨a,x,rfl,g,D2⟩:=V2 D;exact⟨_,rfl,a,_,0,_,rfl,rfl,.inl g,rfl,rfl,true,rfl,QY ⟨_,rfl,a,_,1,_,rfl,rfl,.inl g,rfl,k _ D2⟩⟩
  |false=>
   have D:Deep H v y.dv:=by rw[dvI,if_neg (by decide)]at D;exact D
   obtain⟨a,xs,rfl,g⟩:=QcA D;exact⟨_,rfl,a,_,0,_,rfl,rfl,.inl g,JI (j:=0) rfl,rfl,false,by rw[jd],QO ⟨_,rfl,k _ D⟩⟩
noncomputable def stD(x:List (Bool × Ly) × Nat):Dv:=.tup [.tup (dvL x.1),.int (x.2:Nat)]
noncomputable def wS:List (List (Bool × Ly) × Nat)->Nat
 |[]=>0
 |x::xs=>szL x.1*x.2+wS xs
noncomputable def cS:List (List (Bool × Ly) × Nat)->Nat
 |[]=>0
 |x::xs=>(1+cnL x.1)+cS xs
theorem z9:∀a b,wS (a++b)=wS a+wS b
 |[],b=>by rw[tE,wS];omega
 |x::a,b=>by rw[tD,wS,wS,z9 a b];omega
theorem xb:∀a b,cS (a++b)=cS a+cS b
 |[],b=>by rw[tE,cS];omega
 |x::a,b=>by rw[tD,cS,cS,xb a b];omega
theorem vE:∀st,st.length<=cS st
 |[]=>tK _
 |x::xs=>by
  have:=vE xs;rw[uT,cS];omega
noncomputable def V3:Sp:=fun vs H Q _=>∃(v:V)(its:List (Bool × Ly)),vs=[v]/\Deep H v (.tup (dvL its))/\cnL its<=10000/\okL its/\∀H',Qo H H'->Q (.int (szL its:Nat)) H'
theorem Qd6{its:List (Bool × Ly)}{j:Nat}{x:Bool × Ly}(h:its[j]? =some x):szL (its.drop j)=szI x+szL (its.drop (j+1))/\cnL (its.drop j)=cnI x+cnL (its.drop (j+1)):=by
 have hl:=(List.getElem?_eq_some_iff.mp h).1;rw[List.drop_eq_getElem_cons hl,(List.getElem?_eq_some_iff.mp h).2,szL,cnL];exact⟨rfl,rfl⟩
set_option maxHeartbeats 2000000 in
theorem j4(F:Fun K "signs_in" "signs_in" Wg f fd)(gI:Def P w K mg base 7 "size_of" ["picture"] qQ):FnOk P w K mg base (CXE P w) 8 f fd ["layout"] V3:=by
 refine zF F JK (fun vs H Q E h=>?_) (fun cdv A outer s H vs Q E hr h=>?_)
 ·obtain⟨v,its,rfl,_⟩:=h;rfl
 ·obtain⟨v,its,rfl,D,hc,hok,k⟩:=h;have hz:100000<=sizeLine:=by rw[sizeLine_eq];decide
  refine⟨_,(Qz (Jq (i:=1) JK.nd rfl (Or.inl rfl) (PEx.mk Qg) rfl rfl)
   (Qz (Jq (i:=2) JK.nd rfl (Or.inl rfl) (jC (JU (Xl (JU (PEx.mk (pv 0)) (JU (PEx.mk Qg) Jy rfl) rfl)) Jy rfl)) rfl rfl)
   (Qz (PSy.mk (Z4 PassesOwn.never (Jr (pv 2) (fun _=>rfl)) (Qc (Q0 (zu plainAttrs_list slot_list_pop type_list_pop zy (pv 2)) (QN rfl (Qh (Qi (i:=3) JK.nd rfl (Or.inl rfl)) (Qh (Qi (i:=4) JK.nd rfl (Or.inl rfl)) QA))))
   (Qf (Xq PassesOwn.never rfl (U8 (pv 3)) (Qi (i:=5) JK.nd rfl (Or.inl rfl)) (Qf (QM (Qj Jc (Qw Qy (pv 5) Qg (fun _ _=>rfl)) Qk (Qm _)) (Qf (Kv (i:=1) JK.nd rfl (Or.inl rfl) (QC WE (pv 4) (gI.pe hr (by decide) rfl Qp (QB (Qw Qy (pv 5) Qg (fun _ _=>rfl)) Qb))) WD)) (Qf (QM (Qj Jc (Qw Qy (pv 5) Qg (fun _ _=>rfl)) Qk (Qm _)) (Qf (Jb (JO plainAttrs_list PySem.F.slot_list_append PySem.F.type_list_append JC (pv 2) (QB (QI (QB (Qw Qy (pv 5) Qg (fun _ _=>rfl)) (QB (pv 4) Qb))) Qb)))) (Qf (QM (Qj Jc (Qw Qy (pv 5) Qg (fun _ _=>rfl)) Qk (Qm _)) (Qf (Jb (JO plainAttrs_list PySem.F.slot_list_append PySem.F.type_list_append JC (pv 2) (QB (QI (QB (Qw Qy (pv 5) Qg (fun _ _=>rfl)) (QB (QC WE (pv 4) (Qw Qy (pv 5) Qg (fun _ _=>rfl))) Qb))) Qb)))) Qu)))))))))))
   (QJ (Jg (PEx.mk (pv 1))))))),?_⟩
  dsimp only[QV,Z2,Xu,Js];refine⟨_,rfl,sL2,fun p hp=>⟨sL1,fun lf hlf=>?_⟩⟩;have S1:=Qo.new (o:=.tup [v,.int 1]) hp;have hf0:H lf=none:=by
   cases e:H lf with
   |none=>rfl
   |some o=>rw[S1 _ _ e]at hlf;cases hlf
  have B1:LsSt H (upd (upd H p (.tup [v,.int 1])) lf (.lst [.ref p])) lf [.ref p] ([(its,1)].map stD):=by
   have S2:=Qo.new (o:=.lst [V.ref p]) hlf;exact⟨S1.trans S2,hf0,Qd,.cons ((Deep.tup Qd (.cons (D.same S1) (.cons .int .nil))).same S2) .nil⟩
  generalize upd (upd H p (.tup [v,.int 1])) lf (.lst [.ref p])=H1 at B1;clear S1 hlf hp;refine⟨fun m σ H2=>∃(n:Nat)(xs:List V)(st:List (List (Bool × Ly) × Nat))(y3 y4 y5:Option V),σ=[some v,some (.int (n:Nat)),some (.ref lf),y3,y4,y5]/\LsSt H H2 lf xs (st.map stD)/\n+wS st=szL its/\cS st<=m/\m<=20000/\∀e∈st,okL e.1,⟨20000,0,_,_,none,none,none,rfl,B1,by simp[wS],by simp only[cS];omega,uQ _,fun e he=>by rw[List.mem_singleton.mp he];exact hok⟩,?_⟩;clear B1;rintro m σ H2 ⟨n,xs,st,y3,y4,y5,rfl,B,hw,hcs,hm,hst⟩;have lxs:=B.t.length;rw[uN]at lxs;have lst:=vE st;rcases List.eq_nil_or_concat st with rfl|⟨st0,e0,rfl⟩
  ·have e:xs=[]:=List.eq_nil_of_length_eq_zero (by simpa using lxs);subst e;refine⟨_,rfl,false,.inl ⟨_,.inl (.inl B.g),rfl⟩,QO ⟨_,rfl,?_⟩⟩;rw[wS,Nat.add_zero]at hw;rw[hw];exact k _ B.S
  rw[List.concat_eq_append]at B hw hcs lxs lst;rw[List.concat_eq_append]at hst;obtain⟨its0,t0⟩:=e0;have hok0:okL its0:=hst _ (uU _ uX);have hst0:∀e∈st0,okL e.1:=fun e he=>hst e (uV _ he);rw[z9]at hw;rw[xb]at hcs;have hw:n+(wS st0+(szL its0*t0+0))=szL its:=hw;have hcs:cS st0+((1+cnL its0)+0)<=m:=hcs;rw[tm]at B;obtain⟨xs0,xl,rfl,t1,Dl⟩:∃xs0 xl,xs=xs0++[xl]/\Deeps H2 xs0 (st0.map stD)/\Deep H2 xl (stD (its0,t0)):=by
   rcases List.eq_nil_or_concat xs with rfl|⟨xs0,xl,rfl⟩
   ·simp at lxs
   ·rw[List.concat_eq_append]at B ⊢;have l0:xs0.length=(st0.map stD).length:=by
     have:=B.t.length;rw[uM,uM]at this;simpa using this
    have ht:=B.t.take xs0.length;have hd:=B.t.drop xs0.length;rw[List.take_left' rfl,l0,List.take_left' rfl]at ht;rw[List.drop_left' rfl,l0,List.drop_left' rfl]at hd;cases hd with
    |cons h t=>exact⟨xs0,xl,rfl,ht,h⟩
  refine⟨_,rfl,true,.inl ⟨_,.inl (.inl B.g),by simp⟩,QY ?_⟩;refine⟨fun σ' H'=>∃m',m'<m/\∃(n:Nat)(xs:List V)(st:List (List (Bool × Ly) × Nat))(y3 y4 y5:Option V),σ'=[some v,some (.int (n:Nat)),some (.ref lf),y3,y4,y5]/\LsSt H H' lf xs (st.map stD)/\n+wS st=szL its/\cS st<=m'/\m'<=20000/\∀e∈st,okL e.1,fun _ _ h=>h,?_⟩;refine⟨_,rfl,.inl ⟨rfl,_,.inl (.inl B.g)⟩,?_⟩;refine⟨lf,_,xl,rfl,rfl,B.g,by simp,?_⟩;have B3:LsSt H (upd H2 lf (.lst (xs0++[xl]).dropLast)) lf xs0 (st0.map stD):=by
   rw[List.dropLast_concat];exact B.put t1
  have Dl3:=Dl.jY (o':=.lst (xs0++[xl]).dropLast) B.g (fun zs z=>nomatch z);generalize upd H2 lf (.lst (xs0++[xl]).dropLast)=H3 at B3 Dl3;clear B Dl t1 lxs;obtain⟨pa,px,rfl,gp,tp⟩:=Deep.VW (show Deep H3 xl (.tup [.tup (dvL its0),.int (t0:Nat)])from Dl3);obtain⟨xi,rfl,Di⟩:∃xi,px=[xi,.int (t0:Nat)]/\Deep H3 xi (.tup (dvL its0)):=by
   cases tp with
   |cons p1 t=>cases t with
    |cons p2 t=>
     cases t;obtain rfl:=p2.QcV;exact⟨_,rfl,p1⟩
  refine⟨pa,_,rfl,.inl (.inl gp),rfl,_,_,rfl,_,_,rfl,rfl,?_⟩;obtain⟨ia,ix,rfl,gi,ti⟩:=Deep.VW Di;rw[Jh]at ti;have lix:=ti.length;rw[uN]at lix;dsimp only[QV,Z2,Xu,Js];refine⟨_,rfl,ia,rfl,⟨_,.inl (.inl gi)⟩,?_⟩;refine Wn (Qep (K:=K) (a:=ia) (xs:=ix)) (fun j σ H4=>∃(n':Nat)(xs:List V)(st:List (List (Bool × Ly) × Nat))(y5:Option V),σ=[some v,some (.int (n':Nat)),some (.ref lf),some (.ref ia),some (.int (t0:Nat)),y5]/\LsSt H H4 lf xs (st.map stD)/\n'+wS st+szL (its0.drop j)*t0=szL its/\cS st+cnL (its0.drop j)+1<=m/\H4 ia=some (.tup ix)/\Deeps H4 ix (its0.map dvI)/\∀e∈st,okL e.1) ⟨n,xs0,st0,y5,rfl,B3,by rw[List.drop_zero];omega,by rw[List.drop_zero];omega,gi,ti,hst0⟩ ?_ ?_ ?_
  ·rintro j σ H4 _ ⟨n',xs,st,y5,rfl,_,_,_,g4,_,_⟩;exact .inl (.inl g4)
  ·rintro j x σ H40 H4 hj ⟨n',xs,st,y5,rfl,B4,hw4,hc4,g4,t4,hst4⟩ ⟨rfl,hx⟩;obtain⟨d,hd,Dx⟩:=t4.x0 hx;rw[u5]at hd;cases eo:its0[j]? with
   |none=>rw[eo]at hd;cases hd
   |some oy=>
    rw[eo]at hd;obtain rfl:=uR hd;obtain⟨q1,q2⟩:=Qd6 eo;rw[q1]at hw4;rw[q2]at hc4;have hpos:=vB oy;have lxs:=B4.t.length;rw[uN]at lxs;have lst4:=vE st;have hoky:=V1 hok0 eo;have nia:ia≠lf:=fun z=>by rw[z,B4.g]at g4;cases g4
    obtain⟨ov,y⟩:=oy;cases ov with
    |true=>
     obtain⟨a,x2,rfl,g,_⟩:=V2 Dx;rw[szI,if_pos rfl,Nat.zero_add]at hw4;refine⟨_,rfl,a,_,0,_,rfl,rfl,.inl g,rfl,rfl,false,by rw[Qfv],QO ?_⟩;refine⟨_,rfl,a,_,0,_,rfl,rfl,.inl g,rfl,rfl,false,by rw[Qfw],QO ?_⟩;refine⟨_,rfl,a,_,0,_,rfl,rfl,.inl g,rfl,rfl,false,by rw[Qfx],QO ?_⟩;exact⟨n',xs,st,_,rfl,B4,by omega,by omega,g4,t4,hst4⟩
    |false=>
     rw[dvI,if_neg (by decide)]at Dx;rw[szI,if_neg (by decide)]at hw4;rw[Nat.add_mul]at hw4;rw[cnI]at hc4 hpos;cases y with
     |box nm p=>
      obtain⟨a,rfl,g⟩:=WL Dx;obtain⟨pa2,pl,px2,ep,hp,es⟩:=UH p;rw[Ly.sz]at hw4;refine⟨_,rfl,a,_,0,_,rfl,rfl,.inl g,rfl,rfl,true,rfl,QY ?_⟩;refine⟨_,rfl,_,rfl,_,rfl,a,_,2,_,rfl,rfl,.inl g,rfl,pa2,pl,px2,(by rw[ep];rfl),hp,fun H5 S5=>?_⟩;rw[es];have hszp:szP p<=4:=by unfold szP;split<;>decide
      refine⟨_,_,rfl,rfl,.inr ⟨by omega,by omega⟩,?_⟩;refine⟨_,_,rfl,rfl,?_⟩;refine⟨n'+szP p*t0,xs,st,some (.ref a),?_,B4.same S5,by omega,by rw[Ly.cn]at hc4;omega,S5 _ _ g4,t4.same S5,hst4⟩;have e:((n':Nat):Int)+((t0:Nat):Int)*((szP p:Nat):Int)=((n'+szP p*t0:Nat):Int):=by push_cast;rw[Int.mul_comm]
      rw[←e];rfl
     |grp nm its1=>
      obtain⟨a,x2,rfl,g,D2⟩:=KQ Dx;rw[Ly.sz]at hw4;rw[Ly.cn]at hc4;have hok1:okL its1:=by rw[okI,Ly.okK]at hoky;exact hoky
      refine⟨_,rfl,a,_,0,_,rfl,rfl,.inl g,rfl,rfl,false,by rw[QcB],QO ?_⟩;refine⟨_,rfl,a,_,0,_,rfl,rfl,.inl g,rfl,rfl,true,rfl,QY ?_⟩;refine⟨_,rfl,.inl ⟨rfl,_,.inl (.inl B4.g)⟩,?_⟩;refine⟨_,rfl,a,_,2,_,rfl,rfl,.inl g,rfl,_,rfl,sL2,fun p5 hp5=>?_⟩;have S5:=Qo.new (o:=.tup [x2,.int (t0:Nat)]) hp5;have B5:=B4.same S5;have D5:Deep (upd H4 p5 (.tup [x2,.int (t0:Nat)])) (.ref p5) (stD (its1,t0)):=.tup Qd (.cons (D2.same S5) (.cons .int .nil));have g5:=S5 _ _ g4;have t5:=t4.same S5;generalize upd H4 p5 (.tup [x2,.int (t0:Nat)])=H5 at B5 D5 g5 t5;refine⟨lf,xs,.ref p5,rfl,rfl,B5.g,by omega,?_⟩;refine⟨n',xs++[.ref p5],st++[(its1,t0)],_,rfl,?_,?_,?_,by rw[Ql nia];exact g5,t5.jY B5.g (fun zs z=>nomatch z),?_⟩
      ·rw[tm];exact B5.put (B5.t.append (.cons D5 .nil))
      ·rw[z9];show n'+(wS st+(szL its1*t0+0))+_=_;omega
      ·rw[xb];show cS st+((1+cnL its1)+0)+_+1<=m;omega
      ·intro e he;rcases List.mem_append.mp he with he|he
       ·exact hst4 e he
       ·rw[List.mem_singleton.mp he];exact hok1
     |tab nm k1 its1=>
      obtain⟨a,x2,rfl,g,D2⟩:=KR Dx;rw[Ly.sz]at hw4;rw[Ly.cn]at hc4;obtain⟨hk1,hok1⟩:k1<=1000/\okL its1:=by rw[okI,Ly.okK]at hoky;exact hoky
      refine⟨_,rfl,a,_,0,_,rfl,rfl,.inl g,rfl,rfl,false,by rw[QcC],QO ?_⟩;refine⟨_,rfl,a,_,0,_,rfl,rfl,.inl g,rfl,rfl,false,by rw[Qfb],QO ?_⟩;refine⟨_,rfl,a,_,0,_,rfl,rfl,.inl g,rfl,rfl,true,rfl,QY ?_⟩;refine⟨_,rfl,.inl ⟨rfl,_,.inl (.inl B4.g)⟩,?_⟩;refine⟨_,rfl,a,_,3,_,rfl,rfl,.inl g,rfl,_,rfl,_,rfl,a,_,2,_,rfl,rfl,.inl g,rfl,_,_,rfl,rfl,.inr ⟨by omega,by omega⟩,sL2,fun p5 hp5=>?_⟩;have e:((t0:Nat):Int)*((k1:Nat):Int)=((t0*k1:Nat):Int):=by push_cast;rfl
      dsimp only;rw[e];have S5:=Qo.new (o:=.tup [x2,.int (t0*k1:Nat)]) hp5;have B5:=B4.same S5;have D5:Deep (upd H4 p5 (.tup [x2,.int (t0*k1:Nat)])) (.ref p5) (stD (its1,t0*k1)):=.tup Qd (.cons (D2.same S5) (.cons .int .nil));have g5:=S5 _ _ g4;have t5:=t4.same S5;generalize upd H4 p5 (.tup [x2,.int (t0*k1:Nat)])=H5 at B5 D5 g5 t5;refine⟨lf,xs,.ref p5,rfl,rfl,B5.g,by omega,?_⟩;refine⟨n',xs++[.ref p5],st++[(its1,t0*k1)],_,rfl,?_,?_,?_,by rw[Ql nia];exact g5,t5.jY B5.g (fun zs z=>nomatch z),?_⟩
      ·rw[tm];exact B5.put (B5.t.append (.cons D5 .nil))
      ·rw[z9];show n'+(wS st+(szL its1*(t0*k1)+0))+_=_;have e2:szL its1*k1*t0=szL its1*(t0*k1):=by rw[Nat.mul_assoc,Nat.mul_comm k1 t0]
       omega
      ·rw[xb];show cS st+((1+cnL its1)+0)+_+1<=m;omega
      ·intro e he;rcases List.mem_append.mp he with he|he
       ·exact hst4 e he
       ·rw[List.mem_singleton.mp he];exact hok1
  ·rintro σ H4 ⟨n',xs,st,y5,rfl,B4,hw4,hc4,_,_,hst4⟩;rw[List.drop_eq_nil_of_le (by omega)]at hw4 hc4;simp only[szL,cnL]at hw4 hc4;exact⟨m-1,by omega,n',xs,st,_,_,_,rfl,B4,by omega,by omega,by omega,hst4⟩
end
structure KitL(K:PySem.W.Frag):Prop where
 st:kitOne K (.type "str") (.type "tuple")=some false
 tt:kitOne K (.type "tuple") (.type "tuple")=some true
 ii:kitOne K (.type "int") (.type "int")=some true
 ib:kitOne K (.type "int") (.type "bool")=some false
noncomputable abbrev Step:=Str × Option Nat
noncomputable def XU:Step->Dv
 |(nm,none)=>.str nm
 |(nm,some i)=>.tup [.str nm,.int (i:Nat)]
noncomputable def Qeq:Option Nat->V
 |none=>.non
 |some i=>.int (i:Nat)
section
variable {P:Program}{w:World}{K:PySem.W.Frag}{mg:Str->Option Value}{base:Heap}{f:Addr}{fd:FuncData}{tk:Nat->Tok}{c kr:Nat->Addr}
noncomputable def UI:Sp:=fun vs H Q _=>∃i:Int,vs=[.int i]/\Q (.bl true) H
theorem j5(F:Fun K "is_whole" "is_whole" Wh f fd)(O:Own mg)(KT:KitL K):FnOk P w K mg base (CXE P w) 1 f fd ["thing"] UI:=by
 refine zF F jH (fun vs H Q E h=>?_) (fun cdv A outer s H vs Q E hr h=>?_)
 ·obtain⟨i,rfl,_⟩:=h;rfl
 ·obtain⟨i,rfl,k⟩:=h;refine⟨_,(QJ (Jg (PEx.mk (U6 (Qr KH rfl O.isi PyProof.Rows.boot_isinstance (QB (pv 0) (QB (Vb (v:=V.ty "int") rfl O.int PyProof.Rows.boot_int rfl) Qb))) (U5 (Qc4 (Qr KH rfl O.isi PyProof.Rows.boot_isinstance (QB (pv 0) (QB (Vb (v:=V.ty "bool") rfl O.bool PyProof.Rows.boot_bool rfl) Qb))))))))),?_⟩;refine⟨_,rfl,_,_,true,rfl,rfl,.inl ⟨_,.int _,KT.ii⟩,true,rfl,QY ?_⟩;exact⟨_,rfl,_,_,false,rfl,rfl,.inl ⟨_,.int _,KT.ib⟩,_,rfl,k⟩
noncomputable def j6:Sp:=fun vs H Q _=>∃(v:V)(st:Step),vs=[v]/\Deep H v (XU st)/\∀q H',Qo H H'->H' q=some (.tup [.str st.1,Qeq st.2])->Q (.ref q) H'
theorem UJ(F:Fun K "step_parts" "step_parts" XJ f fd)(O:Own mg)(OT:mg "tuple"=none)(KT:KitL K)(nY:Def P w K mg base 1 "is_whole" ["thing"] UI):FnOk P w K mg base (CXE P w) 2 f fd ["step"] j6:=by
 refine zF F Y7 (fun vs H Q E h=>?_) (fun cdv A outer s H vs Q E hr h=>?_)
 ·obtain⟨v,st,rfl,_⟩:=h;rfl
 ·obtain⟨v,⟨nm,o⟩,rfl,D,k⟩:=h;have hz:1000<=sizeLine:=by decide
  refine⟨_,(Qz (VY (PW.pt (Zi (X7 (Qr KH rfl O.isi PyProof.Rows.boot_isinstance (QB (pv 0) (QB (Vb (v:=V.ty "tuple") rfl OT PyProof.Rows.boot_tuple rfl) Qb)))) (Zi (Qj Jc (Qr QF rfl O.len PySem.boot_len (QB (pv 0) Qb)) Qg (Qm _)) (JX (X7 (nY.pe hr (by decide) rfl Qp (QB (Qw Qy (pv 0) Qg (fun _ _=>rfl)) Qb))))))) (QJ (Jg (PEx.mk (pv 0)))) XT)
   (QJ (Jg (Xl (JU (PEx.mk (pv 0)) (JU (PEx.mk Zu) Jy rfl) rfl))))),?_⟩
  cases o with
  |none=>
   obtain rfl:=Deep.z6 (show Deep H v (.str nm)from D);refine⟨_,rfl,_,_,false,rfl,rfl,.inl ⟨_,.str _,KT.st⟩,_,rfl,QO ?_⟩;exact⟨_,rfl,sL2,fun p hp=>k _ _ (Qo.new hp) Qd⟩
  |some i=>
   obtain⟨a,xs,rfl,g,t⟩:=Deep.VW (show Deep H v (.tup [.str nm,.int (i:Nat)])from D);obtain rfl:xs=[.str nm,.int (i:Nat)]:=by
    cases t with
    |cons p1 t=>cases t with
     |cons p2 t=>cases t;rw[p1.z6,p2.QcV]
   refine⟨_,rfl,_,_,true,rfl,rfl,.inl ⟨_,D.ty,KT.tt⟩,_,rfl,QY ?_⟩;refine⟨_,rfl,a,_,rfl,.inr (.inl (.inl g)),rfl,true,rfl,QY ?_⟩;refine⟨_,rfl,a,_,1,_,rfl,rfl,.inl g,rfl,_,rfl,true,rfl,QY ⟨_,rfl,k _ _ (Qo.refl _) g⟩⟩
noncomputable def pairD(path:Dv)(y:Ly):Dv:=.tup [path,y.dv]
noncomputable def vF:Sp:=fun vs H Q _=>∃(wv iv:V)(pd:Dv)(its:List (Bool × Ly)),vs=[wv,iv]/\Deep H wv pd/\Deep H iv (.tup (dvL its))/\its.length<=10000/\∀q xs H',Qo H H'->H q=none->H' q=some (.lst xs)->Deeps H' xs ((its.map fun x=>pairD pd x.2).reverse)->Q (.ref q) H'
theorem UK(F:Fun K "last_first" "last_first" XI f fd)(O:Own mg)(nG:Def P w K mg base 1 "bare" ["item"] z8):FnOk P w K mg base (CXE P w) 2 f fd ["path","items"] vF:=by
 refine zF F Y6 (fun vs H Q E h=>?_) (fun cdv A outer s H vs Q E hr h=>?_)
 ·obtain⟨wv,iv,pd,its,rfl,_⟩:=h;rfl
 ·obtain⟨wv,iv,pd,its,rfl,DP,DI,hl,k⟩:=h;have hz:100000<=sizeLine:=by rw[sizeLine_eq];decide
  refine⟨_,(QJ (Jg (PEx.mk (VL (NB:=[".0","item"]) (FR:=["path"]) (fi:=[0]) rfl ⟨rfl,by decide+kernel,by decide+kernel,by decide+kernel,by decide+kernel,by decide+kernel⟩ rfl rfl (Qcx rfl O.reversed (QB (pv 1) Qb) rfl) (fun _ _ _=>(Qi (i:=1) (show([".0","item","path"]:List Str).Nodup by decide+kernel) rfl (Or.inl rfl))) (fun _ _ _=>Z7) (fun _ _ _=>(QI (QB (pv 2) (QB (nG.pe hr (by decide) rfl Qp (QB (pv 1) Qb)) Qb)))))))),?_⟩;obtain⟨a,xs,rfl,g,t⟩:=Deep.VW DI;rw[Jh]at t;have lx:=t.length;rw[uN]at lx;refine Qd3 ?_;refine vo ?_;refine⟨_,rfl,a,xs,rfl,.inl (.inl g),?_⟩;refine x6 (fv:=[wv]) (Qfa (K:=K) (a:=a) (xs:=xs)) ((its.map fun x=>pairD pd x.2).reverse) (by rw[u0,uN];omega) (fun R h=>h H (Qo.refl _)) rfl (fun H1 S=>.inl (.inl (S _ _ g))) ?_ ?_ (by omega)
  ·rintro i v H1 H2 d R hd S ⟨rfl,hv⟩ kk;obtain⟨dv,hdv,ddv⟩:=t.x0 hv;rw[u5]at hdv;cases e:its[xs.length-1-i]? with
   |none=>rw[e]at hdv;cases hdv
   |some oy=>
    rw[e]at hdv;obtain rfl:=uR hdv;obtain⟨o,y⟩:=oy;have hil:i<its.length:=by
     have:=(List.getElem?_eq_some_iff.mp hd).1;rw[u0,uN]at this;exact this
    have ed:d=pairD pd y:=by
     rw[List.getElem?_reverse (by rw[uN];exact hil),uN,u5, ←lx,e]at hd;exact(uR hd).symm
    refine⟨rfl,_,rfl,_,rfl,v,o,y,rfl,ddv.same S,fun u Du=>⟨sL2,fun p hp=>kk _ _ (Qo.new hp) ?_⟩⟩;rw[ed];exact .tup Qd (.cons ((DP.same S).same (Qo.new hp)) (.cons (Du.same (Qo.new hp)) .nil))
  ·rintro ys H1 p S t2 hp;refine k _ _ _ (S.trans (Qo.new hp)) ?_ Qd (t2.same (Qo.new hp));cases e:H p with
   |none=>rfl
   |some o=>rw[S _ _ e]at hp;cases hp
noncomputable def UL:Ly->Option Nat->Option Nat
 | .box _ _,none=>some 0
 | .grp _ _,none=>some 0
 | .tab _ k its,some i=>if i<k then some (i*szL its)else none
 |_,_=>none
noncomputable def Ly.cnt(y:Ly):Prop:=y.cn<=10000/\y.okK
noncomputable def j7:Sp:=fun vs H Q _=>∃(v:V)(y:Ly)(o:Option Nat)(n:Nat),vs=[v,Qeq o]/\Deep H v y.dv/\y.cnt/\UL y o=some n/\∀H',Qo H H'->Q (.int (n:Nat)) H'
theorem Wq(F:Fun K "ahead_in_table" "ahead_in_table" JF f fd)(T:Txt K mg tk c kr)(gr:Def P w K mg base 8 "signs_in" ["layout"] V3):FnOk P w K mg base (CXE P w) 9 f fd ["item","number"] j7:=by
 refine okE F Wi (fun vs H Q E h=>?_) (fun cdv A outer s H vs Q E hr h=>?_)
 ·obtain⟨v,y,o,n,rfl,_⟩:=h;rfl
 ·obtain⟨v,y,o,n,rfl,D,⟨hcn,hok⟩,ha,k⟩:=h;have fr:=Jx (P:=P) (w:=w) (K:=K) (mg:=mg) (base:=base) (N:=["item","number"]) (qual:="ahead_in_table") (scope:=Qe JF) (f:=f) (cd:=cdv) (A:=A) (outer:=outer) (s:=s) (H:=H) (E:=E);have ht:=JD fr;have hx:=QL fr;refine⟨_,(Qc (QM (PW.pt (Zi (Qj Z5 (Qw Qy (pv 0) Qg (fun _ _=>rfl)) Qk (Qm _)) (JX (Xp (Ku (pv 1)))))) (Qf (Qn Qg)) Qu)
   (Qc (QM (PW.pt (Z3 (Qj Z5 (Qw Qy (pv 0) Qg (fun _ _=>rfl)) Qk (Qm _)) (Z3 (Xp (Ku (pv 1))) (J7 (Vc (yk Qc8 Kw Qg (pv 1) (Qw Qy (pv 0) Qg (fun _ _=>rfl)))))))) (Qf (J5 ht rfl rfl T.pT T.pU (QB Qk Qb))) Qu)
   (Qf (Qn (QC WE (pv 1) (gr.pe hr (by decide) rfl hx (QB (Qw Qy (pv 0) Qg (fun _ _=>rfl)) Qb))))))),?_⟩
  cases y with
  |box nm p=>
   cases o with
   |some i=>cases ha
   |none=>
    obtain⟨a,rfl,g⟩:=WL D;have:n=0:=(uR ha).symm;subst this;exact⟨_,rfl,a,_,0,_,rfl,rfl,.inl g,rfl,rfl,true,by rw[Qf9];rfl,QY ⟨_,rfl,true,rfl,QY (k _ (Qo.refl _))⟩⟩
  |grp nm its=>
   cases o with
   |some i=>cases ha
   |none=>
    obtain⟨a,x,rfl,g,_⟩:=KQ D;have:n=0:=(uR ha).symm;subst this;exact⟨_,rfl,a,_,0,_,rfl,rfl,.inl g,rfl,rfl,true,by rw[Qfy];rfl,QY ⟨_,rfl,true,rfl,QY (k _ (Qo.refl _))⟩⟩
  |tab nm k1 its=>
   cases o with
   |none=>cases ha
   |some i=>
    obtain⟨a,x,rfl,g,D2⟩:=KR D;rw[Ly.cn]at hcn;rw[Ly.okK]at hok;have ha:(if i<k1 then some (i*szL its)else none)=some n:=ha
    by_cases hik:i<k1
    ·rw[if_pos hik]at ha;have:n=i*szL its:=(uR ha).symm;subst this;refine⟨_,rfl,a,_,0,_,rfl,rfl,.inl g,rfl,rfl,false,by decide+kernel,QO ?_⟩;refine⟨_,rfl,a,_,0,_,rfl,rfl,.inl g,rfl,rfl,false,by decide+kernel,QO ?_⟩;refine⟨_,rfl,false,rfl,QO ?_⟩;refine⟨_,rfl,_,_,rfl,rfl,true,?_,QY ?_⟩
     ·show V.bl (decide ((0:Int)<=(i:Nat)))=_;rw[uP (by omega)]
     refine⟨_,rfl,a,_,2,_,rfl,rfl,.inl g,rfl,_,_,rfl,rfl,true,?_,QO ?_⟩
     ·show V.bl (decide (((i:Nat):Int)<((k1:Nat):Int)))=_;rw[uP (by omega)]
     refine⟨_,rfl,_,rfl,a,_,3,_,rfl,rfl,.inl g,rfl,x,its,rfl,D2,by omega,hok.2,fun H1 S1=>⟨_,_,rfl,rfl,.inl ⟨by omega,by omega⟩,?_⟩⟩;have e:((i:Nat):Int)*((szL its:Nat):Int)=((i*szL its:Nat):Int):=by push_cast;rfl
     dsimp only;rw[e];exact k _ S1
    ·rw[if_neg hik]at ha;cases ha
end
noncomputable def dfI:Bool × Ly:=(false,.box "" 0)
noncomputable def under(its:List (Bool × Ly)):Nat->Nat
 |0=>0
 |j+1=>if(its.getD (j+1) dfI).1=true then under its j else j+1
noncomputable def WM(its:List (Bool × Ly)):Nat->Nat
 |0=>0
 |j+1=>under its j
theorem X4(its:List (Bool × Ly)):∀j,under its j<=j
 |0=>uQ _
 |j+1=>by
  rw[under]
  split
  ·exact Nat.le_succ_of_le (X4 its j)
  ·exact uQ _
theorem ZZ(its:List (Bool × Ly))(j:Nat):under its j=if(its.getD j dfI).1=true then WM its j else j:=by
 cases j with
 |zero=>show 0=_;rw[WM];split<;>rfl
 |succ j=>rfl
structure AtI(its:List (Bool × Ly))(st:Step)(j:Nat)(o:Bool)(y:Ly)(n:Nat):Prop where
 at_:its[j]? =some (o,y)
 nm:y.name=st.1
 no:∀(i:Nat)(x:Bool × Ly),i<j->its[i]? =some x->x.2.name≠st.1
 ah:UL y st.2=some n
theorem xc:∀(its:List (Bool × Ly))(n:Nat),cnL (its.take n)<=cnL its
 |[],n=>by rw[List.take_nil];exact uQ _
 |x::xs,0=>by rw[List.take_zero,cnL];exact tK _
 |x::xs,n+1=>by
  have:=xc xs n;rw[List.take_succ_cons,cnL,cnL];omega
theorem xf:∀(its:List (Bool × Ly))(n:Nat),okL its->okL (its.take n)
 |[],n,h=>by rw[List.take_nil];exact h
 |x::xs,0,h=>by rw[List.take_zero];rw[okL];trivial
 |x::xs,n+1,h=>by
  rw[okL]at h;rw[List.take_succ_cons,okL];exact⟨h.1,xf xs n h.2⟩
theorem j8:∀{its:List (Bool × Ly)}{j:Nat}{x:Bool × Ly},its[j]? =some x->cnI x<=cnL its
 |[],_,_,h=>by simp at h
 |y::ys,0,x,h=>by
  have:y=x:=by simpa using h
  subst this;rw[cnL];omega
 |y::ys,j+1,x,h=>by
  have:=j8 (its:=ys) (j:=j) (x:=x) (by simpa using h);rw[cnL];omega
section
variable {P:Program}{w:World}{K:PySem.W.Frag}{mg:Str->Option Value}{base:Heap}{f:Addr}{fd:FuncData}{tk:Nat->Tok}{c kr:Nat->Addr}
noncomputable def UM:Sp:=fun vs H Q _=>∃(iv sv:V)(its:List (Bool × Ly))(st:Step)(j:Nat)(o:Bool)(y:Ly)(n:Nat),vs=[iv,sv]/\Deep H iv (.tup (dvL its))/\Deep H sv (XU st)/\cnL its<=10000/\okL its/\AtI its st j o y n/\
 ∀q u H',Qo H H'->H' q=some (.tup [.int ((szL (its.take (under its j))+n:Nat)),u])->Deep H' u y.dv->Q (.ref q) H'
theorem Qfc{t u:TS}{D:Ends}{σ:L2.St}{H:Hp}(Good:L2.St->Hp->Prop)(rest:∀σ' H',Good σ' H'->u D σ' H') (h:(∀σ' H',Good σ' H'->u D σ' H')->t {D with nx:=u D} σ H):Xu t u D σ H:=h rest
set_option maxHeartbeats 2000000 in
theorem ka(F:Fun K "item_at" "item_at" KM f fd)(O:Own mg)(OE:mg "enumerate"=none)(T:Txt K mg tk c kr)(mW:Def P w K mg base 2 "step_parts" ["step"] j6)(nG:Def P w K mg base 1 "bare" ["item"] z8)(gr:Def P w K mg base 8 "signs_in" ["layout"] V3)(gR:Def P w K mg base 9 "ahead_in_table" ["item","number"] j7):FnOk P w K mg base (CXE P w) 10 f fd ["items","step"] UM:=by
 refine okE F J1 (fun vs H Q E h=>?_) (fun cdv A outer s H vs Q E hr h=>?_)
 ·obtain⟨iv,sv,its,st,j,o,y,n,rfl,_⟩:=h;rfl
 ·obtain⟨iv,sv,its,st,j,o,y,n,rfl,DI,DS,hc,hok,HA,k⟩:=h;have fr:=Jx (P:=P) (w:=w) (K:=K) (mg:=mg) (base:=base) (N:=["items","step","name","number","under","at","item"]) (qual:="item_at") (scope:=Qe KM) (f:=f) (cd:=cdv) (A:=A) (outer:=outer) (s:=s) (H:=H) (E:=E);have ht:=JD fr;have hx:=QL fr;have hz:100000<=sizeLine:=by rw[sizeLine_eq];decide
  refine⟨_,(Qc (Q0 (mW.pe hr (by decide) rfl hx (QB (pv 1) Qb)) (QN rfl (Qh (Qi (i:=2) J1.nd rfl (Or.inl rfl)) (Qh (Qi (i:=3) J1.nd rfl (Or.inl rfl)) QA))))
   (Qc (Qt (i:=4) J1.nd rfl (Or.inl rfl) Qg)
   (Qc (Xq vk rfl (Qaw .tp rfl OE (QB (pv 0) Qb)) (QN rfl (Qh (Qi (i:=5) J1.nd rfl (Or.inl rfl)) (Qh (Qi (i:=6) J1.nd rfl (Or.inl rfl)) QA))) (Qc (QM (Qj Z5 (Qw Qy (pv 6) Qg (fun _ _=>rfl)) Qk (Qm _)) (Qf (Qt (i:=4) J1.nd rfl (Or.inl rfl) (pv 5))) Qu)
   (Qf (QM (Qj Jc (Qw Qy (nG.pe hr (by decide) rfl hx (QB (pv 6) Qb)) Qg (fun _ _=>rfl)) (pv 2) (Qm _)) (Qf (Qn (QI (QB (QC Jd (gr.pe hr (by decide) rfl hx (QB (QZ Qcu (pv 0) JY (QX (pv 4))) Qb)) (gR.pe hr (by decide) rfl hx (QB (nG.pe hr (by decide) rfl hx (QB (pv 6) Qb)) (QB (pv 3) Qb)))) (QB (nG.pe hr (by decide) rfl hx (QB (pv 6) Qb)) Qb))))) Qu))))
   (Qf (J5 ht rfl rfl T.pT T.pU (QB Qk Qb)))))),?_⟩
  refine⟨_,rfl,sv,st,rfl,DS,fun q0 H1 S1 g0=>?_⟩;refine⟨q0,_,rfl,.inl (.inl g0),rfl,_,_,rfl,_,_,rfl,rfl,?_⟩;obtain⟨ia,ix,rfl,gi,ti⟩:=Deep.VW DI;have ti2:=ti;rw[Jh]at ti2;have lix:=ti2.length;rw[uN]at lix;have hjl:j<its.length:=(List.getElem?_eq_some_iff.mp HA.at_).1;dsimp only[QV,Z2,Xu,Js];refine⟨_,rfl,ia,rfl,⟨_,.inl (.inl (S1 _ _ gi))⟩,?_⟩;refine Wn (Qf6 (k:=.tp) (K:=K) (a:=ia) (xs:=ix)) (fun i σ H2=>∃(y5 y6:Option V),σ=[some (.ref ia),some sv,some (.str st.1),some (Qeq st.2),some (.int (WM its i:Nat)),y5,y6]/\Qo H1 H2/\i<=j) ⟨none,none,rfl,Qo.refl _,tK _⟩ ?_ ?_ ?_
  ·rintro i σ H2 _ ⟨y5,y6,rfl,S2,_⟩;exact .inl (.inl (S2 _ _ (S1 _ _ gi)))
  ·rintro i x σ H2 H3 hi ⟨y5,y6,rfl,S2,hij⟩ ⟨p,x,hp,rfl,hx3,rfl⟩;obtain⟨d,hd,Dx⟩:=ti2.x0 hx3;rw[u5]at hd;cases eo:its[i]? with
   |none=>rw[eo]at hd;cases hd
   |some oy=>
    rw[eo]at hd;obtain rfl:=uR hd;obtain⟨ov,yi⟩:=oy;have S3:=(S1.trans S2).trans (Qo.new (o:=.tup [.int ((i:Nat):Int),x]) hp);have S13:=S2.trans (Qo.new (o:=.tup [.int ((i:Nat):Int),x]) hp);refine⟨p,_,rfl,.inl (.inl Qd),rfl,_,_,rfl,_,_,rfl,rfl,?_⟩;generalize upd H2 p (.tup [.int ((i:Nat):Int),x])=H3 at S3 S13;clear S2 hp;have Dx3:=Dx.same S3;have eg:its.getD i dfI=(ov,yi):=by rw[List.getD_eq_getElem?_getD,eo];rfl
    have eu:(if ov=true then WM its i else i)=under its i:=by rw[ZZ,eg]
    dsimp only[QV,Z2,Js];refine Qfc (fun σ' H4=>σ'=[some (.ref ia),some sv,some (.str st.1),some (Qeq st.2),some (.int (under its i:Nat)),some (.int (i:Nat)),some x]/\H4=H3) ?_ (fun rest=>?_);rotate_left
    ·cases ov with
     |true=>
      obtain⟨a,x2,rfl,g,_⟩:=V2 Dx3;rw[if_pos rfl]at eu;refine⟨_,rfl,a,_,0,_,rfl,rfl,.inl g,rfl,rfl,false,by decide+kernel,QO (rest _ _ ⟨by rw[←eu];rfl,rfl⟩)⟩
     |false=>
      rw[if_neg (by decide)]at eu;have D:Deep H3 x yi.dv:=by rw[dvI,if_neg (by decide)]at Dx3;exact Dx3
      obtain⟨a,xs,rfl,g⟩:=QcA D;refine⟨_,rfl,a,_,0,_,rfl,rfl,.inl g,JI (j:=0) rfl,rfl,true,by rw[jd];rfl,QY ⟨_,rfl,rest _ _ ⟨by rw[←eu];rfl,rfl⟩⟩⟩
    rintro σ4 H4 ⟨rfl,rfl⟩;refine⟨_,rfl,x,ov,yi,rfl,Dx3,fun u Du=>?_⟩;obtain⟨ua,uxs,rfl,gu⟩:=QcA Du;refine⟨ua,_,1,_,rfl,rfl,.inl gu,JI (j:=1) rfl,_,rfl,rfl,_,rfl,?_⟩
    by_cases hij2:i=j
    ·subst hij2;obtain⟨rfl,rfl⟩:ov=o/\yi=y:=by
      have:=HA.at_;rw[eo]at this;have:=uR this;exact⟨congrArg (·.1) this,congrArg (·.2) this⟩
     rw[uP (by rw[HA.nm])];refine QY ?_;refine⟨_,rfl,_,rfl,_,rfl,?_⟩;refine Qct.Qe7 (hi:=under its i) (ds:=dvL its) ((Deep.tup gi ti).same S3) fun v5 H5 S5 D5=>?_;have et:(dvL its).take (under its i)=dvL (its.take (under its i)):=by rw[Jh,Jh,List.map_take]
     rw[et]at D5;refine⟨v5,its.take (under its i),rfl,D5,Nat.le_trans (xc _ _) hc,xf _ _ hok,fun H6 S6=>?_⟩;have S36:=S5.trans S6;refine⟨_,rfl,x,ov,yi,rfl,Dx3.same S36,fun u7 Du7=>⟨_,rfl,u7,yi,st.2,n,rfl,Du7,⟨?_,?_⟩,HA.ah,fun H8 S8=>?_⟩⟩
     ·have:=j8 eo;rw[cnI]at this;omega
     ·have:=V1 hok eo;rw[okI]at this;exact this
     refine⟨_,_,rfl,rfl,_,rfl,x,ov,yi,rfl,(Dx3.same S36).same S8,fun u9 Du9=>⟨sL2,fun p10 hp10=>?_⟩⟩;have S10:=Qo.new (o:=.tup [.int (((szL (its.take (under its i)):Nat):Int)+((n:Nat):Int)),u9]) hp10;refine k _ u9 _ ((S3.trans S36).trans (S8.trans S10)) ?_ (Du9.same S10);rw[Qd]
     congr 3
    ·have hne:yi.name≠st.1:=HA.no i (ov,yi) (by omega) eo;rw[uO (fun z=>hne (V.str.inj z))];exact QO ⟨some (.int (i:Nat)),some x,rfl,S13,by omega⟩
  ·rintro σ H2 ⟨y5,y6,rfl,S2,hij⟩;omega
inductive Res:List (Bool × Ly)->List Step->Nat->Ly->Prop where
 |one {its:List (Bool × Ly)} {st:Step} {j:Nat} {o:Bool} {y:Ly} {n:Nat} (h:AtI its st j o y n):Res its [st] (szL (its.take (under its j))+n) y
 |grp {its in_:List (Bool × Ly)} {st st2:Step} {ss:List Step} {j:Nat} {o:Bool} {nm:Str} {n m:Nat} {y:Ly} (h:AtI its st j o (.grp nm in_) n) (r:Res in_ (st2::ss) m y):Res its (st::st2::ss) (szL (its.take (under its j))+n+m) y
 |tab {its in_:List (Bool × Ly)} {st st2:Step} {ss:List Step} {j k:Nat} {o:Bool} {nm:Str} {n m:Nat} {y:Ly} (h:AtI its st j o (.tab nm k in_) n) (r:Res in_ (st2::ss) m y):Res its (st::st2::ss) (szL (its.take (under its j))+n+m) y
noncomputable def XV(ss:List Step):Dv:=.tup (ss.map XU)
theorem Res.ne{its:List (Bool × Ly)}{ss:List Step}{n:Nat}{y:Ly}(h:Res its ss n y):ss≠[]:=by cases h<;>exact fun z=>nomatch z
structure LyBd(its:List (Bool × Ly)):Prop where
 cn:cnL its<=10000
 ok:okL its
theorem LyBd.grp{its in_:List (Bool × Ly)}{j:Nat}{o:Bool}{nm:Str}(h:LyBd its)(e:its[j]? =some (o,.grp nm in_)):LyBd in_:=by
 have h1:=j8 e;have h2:=V1 h.ok e;have h3:=h.cn;rw[cnI,Ly.cn]at h1;rw[okI,Ly.okK]at h2;exact⟨by omega,h2⟩
theorem LyBd.tab{its in_:List (Bool × Ly)}{j k:Nat}{o:Bool}{nm:Str}(h:LyBd its)(e:its[j]? =some (o,.tab nm k in_)):LyBd in_:=by
 have h1:=j8 e;have h2:=V1 h.ok e;have h3:=h.cn;rw[cnI,Ly.cn]at h1;rw[okI,Ly.okK]at h2;exact⟨by omega,h2.2⟩
noncomputable def j9:Sp:=fun vs H Q _=>∃(iv wv:V)(its:List (Bool × Ly))(ss:List Step)(n:Nat)(y:Ly),vs=[iv,wv]/\Deep H iv (.tup (dvL its))/\Deep H wv (XV ss)/\LyBd its/\Res its ss n y/\ss.length<=1000/\∀q u H',Qo H H'->H' q=some (.tup [.int (n:Nat),u])->Deep H' u y.dv->Q (.ref q) H'
set_option maxHeartbeats 2000000 in
theorem QaH(F:Fun K "found" "found" Y5 f fd)(O:Own mg)(OT:mg "tuple"=none)(KT:KitL K)(T:Txt K mg tk c kr)(pG:Def P w K mg base 10 "item_at" ["items","step"] UM):FnOk P w K mg base (CXE P w) 11 f fd ["layout","path"] j9:=by
 refine okE F Zp (fun vs H Q E h=>?_) (fun cdv A outer s H vs Q E hr h=>?_)
 ·obtain⟨iv,wv,its,ss,n,y,rfl,_⟩:=h;rfl
 ·obtain⟨iv,wv,its,ss,n,y,rfl,DI,DW,hb,HR,hl,k⟩:=h;have fr:=Jx (P:=P) (w:=w) (K:=K) (mg:=mg) (base:=base) (N:=["layout","path","start","items","item","step","ahead"]) (qual:="found") (scope:=Qe Y5) (f:=f) (cd:=cdv) (A:=A) (outer:=outer) (s:=s) (H:=H) (E:=E);have ht:=JD fr;have hx:=QL fr;have hz:100000<=sizeLine:=by rw[sizeLine_eq];decide
  refine⟨_,(Qc (QM (PW.pt (Z3 (Vc (X7 (Qr KH rfl O.isi PyProof.Rows.boot_isinstance (QB (pv 1) (QB (Vb (v:=V.ty "tuple") rfl OT PyProof.Rows.boot_tuple rfl) Qb))))) (J7 (Qj Jc (Qr QF rfl O.len PySem.boot_len (QB (pv 1) Qb)) Qg (Qm _))))) (Qf (J5 ht rfl rfl T.pT T.pU (QB Qk Qb))) Qu)
   (Qc (Qt (i:=2) Zp.nd rfl (Or.inl rfl) Qg)
   (Qc (Qt (i:=3) Zp.nd rfl (Or.inl rfl) (pv 0))
   (Qc (Qt (i:=4) Zp.nd rfl (Or.inl rfl) Zu)
   (Qc (Xq vk rfl (U8 (pv 1)) (Qi (i:=5) Zp.nd rfl (Or.inl rfl)) (Qc (Q0 (pG.pe hr (by decide) rfl hx (QB (pv 3) (QB (pv 5) Qb))) (QN rfl (Qh (Qi (i:=6) Zp.nd rfl (Or.inl rfl)) (Qh (Qi (i:=4) Zp.nd rfl (Or.inl rfl)) QA))))
   (Qc (Kv (i:=2) Zp.nd rfl (Or.inl rfl) (pv 6) WD)
   (Qf (Qt (i:=3) Zp.nd rfl (Or.inl rfl) (Jj (Qj Jc (Qw Qy (pv 4) Qg (fun _ _=>rfl)) Qk (Qm _)) (QI Qb) (Qw Qy (pv 4) (Vf Xx Qg) (fun _ _=>rfl))))))))
   (Qf (Qn (QI (QB (pv 2) (QB (pv 4) Qb)))))))))),?_⟩
  obtain⟨wa,wx,rfl,gw,tw⟩:=Deep.VW (show Deep H wv (.tup (ss.map XU))from DW);have lwx:=tw.length;rw[uN]at lwx;have hss:=HR.ne;refine⟨_,rfl,_,_,true,rfl,rfl,.inl ⟨_,DW.ty,KT.tt⟩,_,rfl,QO ?_⟩;refine⟨_,rfl,wa,_,rfl,.inr (.inl (.inl gw)),rfl,false,?_,QO ?_⟩
  ·show V.bl (decide (V.int ((wx.length:Nat):Int)=V.int 0))=_;rw[uO (fun z=>by injection z with z;exact hss (List.eq_nil_of_length_eq_zero (by omega)))]
  dsimp only[QV,Z2,Xu,Js];refine⟨_,rfl,?_⟩;refine⟨_,rfl,wa,rfl,⟨_,.inl (.inl gw)⟩,?_⟩;refine Wn (Qep (K:=K) (a:=wa) (xs:=wx)) (fun i σ H2=>∃(s0:Nat)(cur:V)(it:V)(y5 y6:Option V),σ=[some iv,some (.ref wa),some (.int (s0:Nat)),some cur,some it,y5,y6]/\Qo H H2/\((ss.drop i=[]/\s0=n/\Deep H2 it y.dv)\/∃(in_:List (Bool × Ly))(m:Nat),Deep H2 cur (.tup (dvL in_))/\LyBd in_/\Res in_ (ss.drop i) m y/\s0+m=n)) ⟨0,iv,.non,none,none,rfl,Qo.refl _,.inr ⟨its,n,DI,hb,by rw[List.drop_zero];exact HR,Nat.zero_add _⟩⟩ ?_ ?_ ?_
  ·rintro i σ H2 _ ⟨s0,cur,it,y5,y6,rfl,S2,_⟩;exact .inl (.inl (S2 _ _ gw))
  ·rintro i x σ H20 H2 hi ⟨s0,cur,it,y5,y6,rfl,S2,hcase⟩ ⟨rfl,hx2⟩;obtain⟨d,hd,Dx⟩:=tw.x0 hx2;have hil:i<ss.length:=by omega
   have hdr:ss.drop i=ss[i]::ss.drop (i+1):=List.drop_eq_getElem_cons hil;have ed:d=XU ss[i]:=by
    rw[u5,List.getElem?_eq_getElem hil]at hd;exact(uR hd).symm
   subst ed;rcases hcase with⟨h1,_⟩|⟨in_,m,Dc,hbc,hres,hsum⟩
   ·rw[hdr]at h1;cases h1
   rw[hdr]at hres;generalize ss[i]=st at hres Dx;generalize hgo:ss.drop (i+1)=rest at hres;dsimp only[QV,Z2,Xu,Js];obtain⟨j,o,y1,n1,HA,hnext⟩:∃(j:Nat)(o:Bool)(y1:Ly)(n1:Nat),AtI in_ st j o y1 n1/\((rest=[]/\y1=y/\szL (in_.take (under in_ j))+n1=m)\/∃(nm:Str)(in2:List (Bool × Ly))(m2:Nat),(y1=.grp nm in2\/∃k2,y1=.tab nm k2 in2)/\LyBd in2/\Res in2 rest m2 y/\szL (in_.take (under in_ j))+n1+m2=m):=by
    cases hres with
    |one h=>exact⟨_,_,_,_,h,.inl ⟨rfl,rfl,rfl⟩⟩
    |grp h r=>exact⟨_,_,_,_,h,.inr ⟨_,_,_,.inl rfl,hbc.grp h.at_,r,rfl⟩⟩
    |tab h r=>exact⟨_,_,_,_,h,.inr ⟨_,_,_,.inr ⟨_,rfl⟩,hbc.tab h.at_,r,rfl⟩⟩
   refine⟨_,rfl,_,rfl,cur,x,in_,st,j,o,y1,n1,rfl,Dc,Dx.same S2,hbc.cn,hbc.ok,HA,fun q u H3 S3 g3 Du=>?_⟩;refine⟨q,_,rfl,.inl (.inl g3),rfl,_,_,rfl,_,_,rfl,rfl,?_⟩;dsimp only[QV,Z2,Xu,Js];refine⟨_,rfl,_,rfl,_,_,rfl,rfl,?_⟩;have es:((s0:Nat):Int)+((szL (in_.take (under in_ j))+n1:Nat):Int)=((s0+(szL (in_.take (under in_ j))+n1):Nat):Int):=by push_cast;rfl
   dsimp only;rw[es];rcases hnext with⟨rfl,rfl,hm⟩|⟨nm,in2,m2,hy,hb2,hr2,hm⟩
   ·
    cases y1 with
    |box nm p=>
     obtain⟨a,rfl,g⟩:=WL Du;refine⟨_,rfl,a,_,0,_,rfl,rfl,.inl g,rfl,rfl,true,rfl,QY ⟨sL0,fun p4 hp4=>?_⟩⟩;exact⟨_,_,_,_,_,rfl,(S2.trans S3).trans (Qo.new hp4),.inl ⟨rfl,by omega,Du.same (Qo.new hp4)⟩⟩
    |grp nm in2=>
     obtain⟨a,x2,rfl,g,D2⟩:=KQ Du;refine⟨_,rfl,a,_,0,_,rfl,rfl,.inl g,rfl,rfl,false,by rw[QcB],QO ⟨_,rfl,_,rfl,a,_,_,_,rfl,rfl,.inl g,rfl,?_⟩⟩;exact⟨_,_,_,_,_,rfl,S2.trans S3,.inl ⟨rfl,by omega,Du⟩⟩
    |tab nm k2 in2=>
     obtain⟨a,x2,rfl,g,D2⟩:=KR Du;refine⟨_,rfl,a,_,0,_,rfl,rfl,.inl g,rfl,rfl,false,by rw[QcC],QO ⟨_,rfl,_,rfl,a,_,_,_,rfl,rfl,.inl g,rfl,?_⟩⟩;exact⟨_,_,_,_,_,rfl,S2.trans S3,.inl ⟨rfl,by omega,Du⟩⟩
   ·rcases hy with rfl|⟨k2,rfl⟩
    ·obtain⟨a,x2,rfl,g,D2⟩:=KQ Du;refine⟨_,rfl,a,_,0,_,rfl,rfl,.inl g,rfl,rfl,false,by rw[QcB],QO ⟨_,rfl,_,rfl,a,_,_,_,rfl,rfl,.inl g,rfl,?_⟩⟩;exact⟨_,_,_,_,_,rfl,S2.trans S3,.inr ⟨in2,m2,D2,hb2,hr2,by omega⟩⟩
    ·obtain⟨a,x2,rfl,g,D2⟩:=KR Du;refine⟨_,rfl,a,_,0,_,rfl,rfl,.inl g,rfl,rfl,false,by rw[QcC],QO ⟨_,rfl,_,rfl,a,_,_,_,rfl,rfl,.inl g,rfl,?_⟩⟩;exact⟨_,_,_,_,_,rfl,S2.trans S3,.inr ⟨in2,m2,D2,hb2,hr2,by omega⟩⟩
  ·rintro σ H2 ⟨s0,cur,it,y5,y6,rfl,S2,hcase⟩;rw[lwx,List.drop_length]at hcase;rcases hcase with⟨_,rfl,Dit⟩|⟨in_,m,_,_,hres,_⟩
   ·refine⟨_,rfl,_,rfl,sL2,fun p hp=>?_⟩;exact k _ _ _ (S2.trans (Qo.new hp)) Qd (Dit.same (Qo.new hp))
   ·exact absurd rfl hres.ne
noncomputable def je:Ly->Nat
 | .box _ p=>szP p
 | .grp _ its=>szL its
 | .tab _ _ its=>szL its
noncomputable def vG:Ly->Dv
 | .box _ p=>.str (YG p)
 |_=>.non
noncomputable def Qbf(n:Nat)(y:Ly):Dv:=.tup [.int (n:Nat),.int (je y:Nat),vG y]
theorem Res.bd{its:List (Bool × Ly)}{ss:List Step}{n:Nat}{y:Ly}(h:Res its ss n y):LyBd its->y.cnt:=by
 induction h with
 |one h=>
  intro hb;have h1:=j8 h.at_;have h2:=V1 hb.ok h.at_;have h3:=hb.cn;rw[cnI]at h1;rw[okI]at h2;exact⟨by omega,h2⟩
 |grp h r ih=>exact fun hb=>ih (hb.grp h.at_)
 |tab h r ih=>exact fun hb=>ih (hb.tab h.at_)
noncomputable def XW:Sp:=fun vs H Q _=>∃(iv wv:V)(its:List (Bool × Ly))(ss:List Step)(n:Nat)(y:Ly),vs=[iv,wv]/\Deep H iv (.tup (dvL its))/\Deep H wv (XV ss)/\LyBd its/\Res its ss n y/\ss.length<=1000/\∀u H',Qo H H'->Deep H' u (Qbf n y)->Q u H'
theorem QaI(F:Fun K "where" "where" jF f fd)(rp:Def P w K mg base 11 "found" ["layout","path"] j9)(gI:Def P w K mg base 7 "size_of" ["picture"] qQ)(gr:Def P w K mg base 8 "signs_in" ["layout"] V3):FnOk P w K mg base (CXE P w) 12 f fd ["layout","path"] XW:=by
 refine zF F Y4 (fun vs H Q E h=>?_) (fun cdv A outer s H vs Q E hr h=>?_)
 ·obtain⟨iv,wv,its,ss,n,y,rfl,_⟩:=h;rfl
 ·obtain⟨iv,wv,its,ss,n,y,rfl,DI,DW,hb,HR,hl,k⟩:=h;have hz:100000<=sizeLine:=by rw[sizeLine_eq];decide
  obtain⟨hcn,hok⟩:=HR.bd hb;refine⟨_,(Qz (PSy.mk (Q0 (rp.pe hr (by decide) rfl Qp (QB (pv 0) (QB (pv 1) Qb))) (QN rfl (Qh (Qi (i:=2) Y4.nd rfl (Or.inl rfl)) (Qh (Qi (i:=3) Y4.nd rfl (Or.inl rfl)) QA)))))
   (Qz (VY (Qj Jc (Qw Qy (pv 3) Qg (fun _ _=>rfl)) Qk (Qm _)) (QJ (Jg (Xl (JU (PEx.mk (pv 2)) (JU (PEx.mk (gI.pe hr (by decide) rfl Qp (QB (Qw Qy (pv 3) Qg (fun _ _=>rfl)) Qb))) (JU (PEx.mk (Qw Qy (pv 3) Qg (fun _ _=>rfl))) Jy rfl) rfl) rfl)))) XT)
   (QJ (Jg (Xl (JU (PEx.mk (pv 2)) (JU (PEx.mk (gr.pe hr (by decide) rfl Qp (QB (Qw Qy (pv 3) (Vf Xx Qg) (fun _ _=>rfl)) Qb))) (JU (PEx.mk Zu) Jy rfl) rfl) rfl)))))),?_⟩
  refine⟨_,rfl,_,rfl,iv,wv,its,ss,n,y,rfl,DI,DW,hb,HR,hl,fun q u H1 S1 g1 Du=>?_⟩;refine⟨q,_,rfl,.inl (.inl g1),rfl,_,_,rfl,_,_,rfl,rfl,?_⟩;dsimp only[QV,Z2,Xu,Js];cases y with
  |box nm p=>
   obtain⟨a,rfl,g⟩:=WL Du;obtain⟨pa,pl,px,ep,hp,es⟩:=UH p;refine⟨_,rfl,a,_,0,_,rfl,rfl,.inl g,rfl,rfl,true,rfl,QY ?_⟩;refine⟨_,rfl,_,rfl,a,_,2,_,rfl,rfl,.inl g,rfl,pa,pl,px,(by rw[ep];rfl),hp,fun H2 S2=>?_⟩;rw[es];refine⟨_,rfl,a,_,2,_,rfl,rfl,.inl (S2 _ _ g),rfl,sL3,fun p3 hp3=>?_⟩;exact k _ _ ((S1.trans S2).trans (Qo.new hp3)) (.tup Qd (.cons .int (.cons .int (.cons .str .nil))))
  |grp nm in_=>
   obtain⟨a,x,rfl,g,D2⟩:=KQ Du;rw[Ly.cn]at hcn;rw[Ly.okK]at hok;refine⟨_,rfl,a,_,0,_,rfl,rfl,.inl g,rfl,rfl,false,by rw[QcB],QO ?_⟩;refine⟨_,rfl,_,rfl,_,rfl,a,_,_,_,rfl,rfl,.inl g,rfl,x,in_,rfl,D2,by omega,hok,fun H2 S2=>⟨sL3,fun p3 hp3=>?_⟩⟩;exact k _ _ ((S1.trans S2).trans (Qo.new hp3)) (.tup Qd (.cons .int (.cons .int (.cons .non .nil))))
  |tab nm k2 in_=>
   obtain⟨a,x,rfl,g,D2⟩:=KR Du;rw[Ly.cn]at hcn;rw[Ly.okK]at hok;refine⟨_,rfl,a,_,0,_,rfl,rfl,.inl g,rfl,rfl,false,by rw[QcC],QO ?_⟩;refine⟨_,rfl,_,rfl,_,rfl,a,_,_,_,rfl,rfl,.inl g,rfl,x,in_,rfl,D2,by omega,hok.2,fun H2 S2=>⟨sL3,fun p3 hp3=>?_⟩⟩;exact k _ _ ((S1.trans S2).trans (Qo.new hp3)) (.tup Qd (.cons .int (.cons .int (.cons .non .nil))))
end
mutual
noncomputable def Ly.bx:Ly->List Step->List (List Step)
 | .box nm _,pre=>[pre++[(nm,none)]]
 | .grp nm its,pre=>bxL its (pre++[(nm,none)])
 | .tab nm k its,pre=>(List.range k).flatMap fun i=>bxL its (pre++[(nm,some i)])
noncomputable def bxL:List (Bool × Ly)->List Step->List (List Step)
 |[],_=>[]
 |x::xs,pre=>bxI x pre++bxL xs pre
noncomputable def bxI:Bool × Ly->List Step->List (List Step)
 |(_,y),pre=>y.bx pre
end
mutual
noncomputable def Ly.wt:Ly->Nat
 | .box _ _=>1
 | .grp _ its=>1+wtL its
 | .tab _ k its=>1+k*wtL its
noncomputable def wtL:List (Bool × Ly)->Nat
 |[]=>0
 |x::xs=>wtI x+wtL xs
noncomputable def wtI:Bool × Ly->Nat
 |(_,y)=>y.wt
end
theorem Ly.xg(y:Ly):1<=y.wt:=by cases y<;>rw[Ly.wt]<;>omega
theorem Kq:∀its:List (Bool × Ly),its.length<=wtL its
 |[]=>tK _
 |(o,y)::xs=>by
  have:=Kq xs;have:=y.xg;rw[uT,wtL,wtI];omega
noncomputable abbrev Pt:=List Step × Ly
noncomputable def ptD(x:Pt):Dv:=.tup [XV x.1,x.2.dv]
noncomputable def ptW:List Pt->Nat
 |[]=>0
 |x::xs=>x.2.wt+ptW xs
theorem Wr:∀a b,ptW (a++b)=ptW a+ptW b
 |[],b=>by rw[tE,ptW];omega
 |x::a,b=>by rw[tD,ptW,ptW,Wr a b];omega
theorem za:∀st,st.length<=ptW st
 |[]=>tK _
 |x::xs=>by
  have:=za xs;have:=x.2.xg;rw[uT,ptW];omega
noncomputable def ptB(st:List Pt):List (List Step):=st.reverse.flatMap fun x=>x.2.bx x.1
theorem UN(a b:List Pt):ptB (a++b)=ptB b++ptB a:=by unfold ptB;rw[List.reverse_append,List.flatMap_append]
noncomputable def pts(pre:List Step)(its:List (Bool × Ly)):List Pt:=(its.map fun x=>(pre,x.2)).reverse
theorem QaJ(pre:List Step):∀its:List (Bool × Ly),ptB (pts pre its)=bxL its pre
 |[]=>rfl
 |(o,y)::xs=>by
  have ih:=QaJ pre xs;unfold ptB pts at ih ⊢;rw[List.reverse_reverse]at ih ⊢;rw[tH,List.flatMap_cons,ih,bxL,bxI]
theorem QcE(pre:List Step)(its:List (Bool × Ly)):ptW (pts pre its)=wtL its:=by
 have rev:∀l:List Pt,ptW l.reverse=ptW l:=by
  intro l
  induction l with
  |nil=>rfl
  |cons x xs ih=>
   rw[List.reverse_cons,Wr,ih];simp only[ptW];omega
 unfold pts;rw[rev]
 induction its with
 |nil=>rfl
 |cons x xs ih=>
  obtain⟨o,y⟩:=x;rw[tH,ptW,ih,wtL,wtI]
theorem QcF(pre:List Step)(its:List (Bool × Ly)):(its.map fun x=>pairD (XV pre) x.2).reverse=(pts pre its).map ptD:=by
 unfold pts;rw[←List.map_reverse, ←List.map_reverse,tG];rfl
theorem vH{a b:Addr}{xs ys:List V}{ds es:List Dv}{H:Hp}{Q:VK}(ga:H a=some (.tup xs))(gb:H b=some (.tup ys))(ta:Deeps H xs ds)(tb:Deeps H ys es)(hl:xs.length+ys.length<=sizeLine)(k:∀u H',Qo H H'->Deep H' u (.tup (ds++es))->Q u H'):Qcs (.ref a) (.ref b) H Q:=by
 refine⟨a,b,xs,ys,rfl,rfl,.inl ga,.inl gb,hl,fun z=>?_,fun _ z=>?_,fun _ _ p hp=>?_⟩
 ·subst z;cases ta;exact k _ _ (Qo.refl _) (.tup gb tb)
 ·subst z;cases tb;rw[tF]at k;exact k _ _ (Qo.refl _) (.tup ga ta)
 ·exact k _ _ (Qo.new hp) (z7 (ta.append tb) hp)
section
variable {P:Program}{w:World}{K:PySem.W.Frag}{mg:Str->Option Value}{base:Heap}{f:Addr}{fd:FuncData}{tk:Nat->Tok}{c kr:Nat->Addr}
structure TwoL(Hb H:Hp)(a1 a2:Addr)(x1 x2:List V)(d1 d2:List Dv):Prop where
 S:Qo Hb H
 f1:Hb a1=none
 f2:Hb a2=none
 n12:a1≠a2
 g1:H a1=some (.lst x1)
 g2:H a2=some (.lst x2)
 t1:Deeps H x1 d1
 t2:Deeps H x2 d2
theorem WN{x:List V}:∀zs:List V,(HO.lst x)≠ .tup zs:=fun zs z=>nomatch z
theorem TwoL.same{Hb H H':Hp}{a1 a2:Addr}{x1 x2:List V}{d1 d2:List Dv}(B:TwoL Hb H a1 a2 x1 x2 d1 d2)(S:Qo H H'):TwoL Hb H' a1 a2 x1 x2 d1 d2:=⟨B.S.trans S,B.f1,B.f2,B.n12,S _ _ B.g1,S _ _ B.g2,B.t1.same S,B.t2.same S⟩
theorem TwoL.Qfz{Hb H:Hp}{a1 a2:Addr}{x1 x2 x:List V}{d1 d2 d:List Dv}(B:TwoL Hb H a1 a2 x1 x2 d1 d2)(t:Deeps H x d):TwoL Hb (upd H a1 (.lst x)) a1 a2 x x2 d d2:=⟨W2 B.S B.f1,B.f1,B.f2,B.n12,Qd,by rw[Ql B.n12.symm];exact B.g2,t.jY B.g1 WN,B.t2.jY B.g1 WN⟩
theorem TwoL.put2{Hb H:Hp}{a1 a2:Addr}{x1 x2 x:List V}{d1 d2 d:List Dv}(B:TwoL Hb H a1 a2 x1 x2 d1 d2)(t:Deeps H x d):TwoL Hb (upd H a2 (.lst x)) a1 a2 x1 x d1 d:=⟨W2 B.S B.f2,B.f1,B.f2,B.n12,by rw[Ql B.n12];exact B.g1,Qd,B.t1.jY B.g2 WN,t.jY B.g2 WN⟩
theorem V4{pre:List Step}{st:Step}:(pre.map XU)++[XU st]=(pre++[st]).map XU:=by rw[tm];rfl
theorem Qd7:∀{its:List (Bool × Ly)}{x:Bool × Ly},x∈its->x.2.wt<=wtL its
 |[],_,h=>nomatch h
 |(o,y)::ys,x,h=>by
  rcases List.mem_cons.mp h with rfl|h
  ·rw[wtL,wtI];show y.wt<=_;omega
  ·have:=Qd7 (its:=ys) h;rw[wtL];omega
theorem Ws{its:List (Bool × Ly)}(h:okL its){x:Bool × Ly}(hx:x∈its):x.2.okK:=by
 obtain⟨j,hj⟩:=List.mem_iff_getElem?.mp hx;have:=V1 h hj;obtain⟨o,y⟩:=x;rw[okI]at this;exact this
noncomputable def QcW(e:Pt):Prop:=e.2.okK/\e.1.length+e.2.wt<=10000
theorem vI{pre:List Step}{its:List (Bool × Ly)}(h:okL its)(hl:pre.length+wtL its<=10000):∀e∈pts pre its,QcW e:=by
 intro e he;unfold pts at he;obtain⟨x,hx,rfl⟩:=List.mem_map.mp (List.mem_reverse.mp he);have:=Qd7 hx;exact⟨Ws h hx,by show pre.length+x.2.wt<=10000;omega⟩
noncomputable def psh(pre:List Step)(nm:Str)(k:Nat)(its:List (Bool × Ly)):Nat->List Pt
 |0=>[]
 |t+1=>psh pre nm k its t++pts (pre++[(nm,some (k-1-t))]) its
theorem QcG(pre:List Step)(nm:Str)(k:Nat)(its:List (Bool × Ly)):∀t,ptW (psh pre nm k its t)=t*wtL its
 |0=>by rw[psh,Nat.zero_mul];rfl
 |t+1=>by rw[psh,Wr,QcG pre nm k its t,QcE,Nat.succ_mul]
theorem Qd8(pre:List Step)(nm:Str)(k:Nat)(its:List (Bool × Ly)):∀t,t<=k->ptB (psh pre nm k its t)=((List.range k).drop (k-t)).flatMap fun i=>bxL its (pre++[(nm,some i)])
 |0,_=>by rw[psh,Nat.sub_zero,List.drop_eq_nil_of_le (by rw[List.length_range];omega)];rfl
 |t+1,h=>by
  have e:(List.range k).drop (k-(t+1))=(k-1-t)::(List.range k).drop (k-t):=by
   rw[List.drop_eq_getElem_cons (by rw[List.length_range];omega),List.getElem_range,show k-(t+1)+1=k-t by omega,show k-(t+1)=k-1-t by omega]
  rw[psh,UN,QaJ,Qd8 pre nm k its t (by omega),e,List.flatMap_cons]
noncomputable def zc:Sp:=fun vs H Q _=>∃(iv:V)(its:List (Bool × Ly)),vs=[iv,.bl true]/\Deep H iv (.tup (dvL its))/\wtL its<=10000/\okL its/\∀q xs H',Qo H H'->H' q=some (.lst xs)->Deeps H' xs ((bxL its []).map XV)->Q (.ref q) H'
set_option maxHeartbeats 4000000 in
theorem Wt(F:Fun K "paths_of_boxes" "paths_of_boxes" Zf f fd)(O:Own mg)(gP:Def P w K mg base 2 "last_first" ["path","items"] vF):FnOk P w K mg base (CXE P w) 3 f fd ["items","with_tables"] zc:=by
 refine zF F Q5 (fun vs H Q E h=>?_) (fun cdv A outer s H vs Q E hr h=>?_)
 ·obtain⟨iv,its,rfl,_⟩:=h;rfl
 ·obtain⟨iv,its,rfl,DI,hw,hok,k⟩:=h;have hz:100000<=sizeLine:=by rw[sizeLine_eq];decide
  refine⟨_,(Qz (Jq (i:=2) Q5.nd rfl (Or.inl rfl) (jC Jy) rfl rfl)
   (Qz (Jq (i:=3) Q5.nd rfl (Or.inl rfl) (PEx.mk (gP.pe hr (by decide) rfl Qp (QB (QI Qb) (QB (pv 0) Qb)))) rfl rfl)
   (Qz (PSy.mk (Z4 PassesOwn.never (Jr (pv 3) (fun _=>rfl)) (Qc (Q0 (zu plainAttrs_list slot_list_pop type_list_pop zy (pv 3)) (QN rfl (Qh (Qi (i:=4) Q5.nd rfl (Or.inl rfl)) (Qh (Qi (i:=5) Q5.nd rfl (Or.inl rfl)) QA))))
   (Qf (QM (Qj Jc (Qw Qy (pv 5) Qg (fun _ _=>rfl)) Qk (Qm _)) (Qf (Jb (JO plainAttrs_list PySem.F.slot_list_append PySem.F.type_list_append JC (pv 2) (QB (QC VX (pv 4) (QI (QB (Qw Qy (pv 5) Qg (fun _ _=>rfl)) Qb))) Qb)))) (Qf (QM (Qj Jc (Qw Qy (pv 5) Qg (fun _ _=>rfl)) Qk (Qm _)) (Qf (Jb (JO plainAttrs_list slot_list_extend type_list_extend KA (pv 3) (QB (gP.pe hr (by decide) rfl Qp (QB (QC VX (pv 4) (QI (QB (Qw Qy (pv 5) Qg (fun _ _=>rfl)) Qb))) (QB (Qw Qy (pv 5) Qg (fun _ _=>rfl)) Qb))) Qb)))) (Qf (QM (Jr (pv 1) (fun _=>rfl)) (Qf (Xq PassesOwn.never rfl (Qcy rfl O.reversed rfl O.range (QB (Qw Qy (pv 5) Qg (fun _ _=>rfl)) Qb) rfl) (Qi (i:=6) Q5.nd rfl (Or.inl rfl)) (Qf (Jb (JO plainAttrs_list slot_list_extend type_list_extend KA (pv 3) (QB (gP.pe hr (by decide) rfl Qp (QB (QC VX (pv 4) (QI (QB (QI (QB (Qw Qy (pv 5) Qg (fun _ _=>rfl)) (QB (pv 6) Qb))) Qb))) (QB (Qw Qy (pv 5) Qg (fun _ _=>rfl)) Qb))) Qb)))))) Qu)))))))))
   (QJ (Jg (PEx.mk (pv 2))))))),?_⟩
  dsimp only[QV,Z2,Xu,Js];refine⟨sL0,fun pa hpa=>?_⟩;have S1:=Qo.new (o:=.lst []) hpa;have g1:upd H pa (.lst []) pa=some (.lst []):=Qd;generalize upd H pa (.lst [])=H1 at S1 g1;refine⟨sL0,fun e0 he0=>?_⟩;have S2:=Qo.new (o:=.tup []) he0;refine⟨_,rfl,.ref e0,iv,XV [],its,rfl,.tup Qd .nil,(DI.same S1).same S2,Nat.le_trans (Kq its) hw,fun lf xs H3 S3 hlf gl tl=>?_⟩;rw[QcF]at tl;have S13:=S2.trans S3;have T3:TwoL H H3 pa lf [] xs [] ((pts [] its).map ptD):=by
   refine⟨S1.trans S13,hpa,?_,?_,S13 _ _ g1,gl,.nil,tl⟩
   ·cases e:H lf with
    |none=>rfl
    |some o=>rw[S2 _ _ (S1 _ _ e)]at hlf;cases hlf
   ·intro z;rw[←z,S2 _ _ g1]at hlf;cases hlf
  clear S1 g1 S2 S3 S13 hlf gl tl he0 hpa;have hB:([]:List (List Step))++ptB (pts [] its)=bxL its []:=by rw[QaJ];rfl
  have hW:ptW (pts [] its)<=10000:=by rw[QcE];exact hw
  have hO:∀e∈pts [] its,QcW e:=vI hok (by simpa using hw);generalize pts [] its=st0 at T3 hB hW hO;refine⟨fun m σ H4=>∃(x1 x2:List V)(acc:List (List Step))(st:List Pt)(y4 y5 y6:Option V),σ=[some iv,some (.bl true),some (.ref pa),some (.ref lf),y4,y5,y6]/\TwoL H H4 pa lf x1 x2 (acc.map XV) (st.map ptD)/\acc++ptB st=bxL its []/\ptW st<=m/\acc.length+m<=10000/\∀e∈st,QcW e,⟨10000,[],xs,[],st0,none,none,none,rfl,T3,hB,hW,by simp,hO⟩,?_⟩;clear T3 hB hW hO;rintro m σ H4 ⟨x1,x2,acc,st,y4,y5,y6,rfl,T4,hB,hW,hm,hO⟩;have l1:=T4.t1.length;have l2:=T4.t2.length;rw[uN]at l1 l2;rcases List.eq_nil_or_concat st with rfl|⟨st0,e0,rfl⟩
  ·have e:x2=[]:=List.eq_nil_of_length_eq_zero (by simpa using l2);subst e;refine⟨_,rfl,false,.inl ⟨_,.inl (.inl T4.g2),rfl⟩,QO ⟨_,rfl,?_⟩⟩;have hB:acc++[]=bxL its []:=hB;rw[tF]at hB;rw[←hB]at k;exact k _ _ _ T4.S T4.g1 T4.t1
  rw[List.concat_eq_append]at T4 hB hW l2 hO;obtain⟨pre,y⟩:=e0;rw[UN]at hB;rw[Wr]at hW;have hB:acc++(y.bx pre++[]++ptB st0)=bxL its []:=hB;rw[tF]at hB;have hW:ptW st0+(y.wt+0)<=m:=hW;obtain⟨hOy,hOl⟩:y.okK/\pre.length+y.wt<=10000:=hO _ (uU _ uX);have hO0:∀e∈st0,QcW e:=fun e he=>hO e (uV _ he);have hyw:=y.xg;have lst0:=za st0;rw[tm]at T4;obtain⟨xs0,xl,rfl,t1,Dl⟩:∃xs0 xl,x2=xs0++[xl]/\Deeps H4 xs0 (st0.map ptD)/\Deep H4 xl (ptD (pre,y)):=by
   rcases List.eq_nil_or_concat x2 with rfl|⟨xs0,xl,rfl⟩
   ·simp at l2
   ·rw[List.concat_eq_append]at T4 ⊢;have l0:xs0.length=(st0.map ptD).length:=by
     have:=T4.t2.length;rw[uM,uM]at this;simpa using this
    have ht:=T4.t2.take xs0.length;have hd:=T4.t2.drop xs0.length;rw[List.take_left' rfl,l0,List.take_left' rfl]at ht;rw[List.drop_left' rfl,l0,List.drop_left' rfl]at hd;cases hd with
    |cons h t=>exact⟨xs0,xl,rfl,ht,h⟩
  refine⟨_,rfl,true,.inl ⟨_,.inl (.inl T4.g2),by simp⟩,QY ?_⟩;refine⟨fun σ' H'=>∃m',m'<m/\∃(x1 x2:List V)(acc:List (List Step))(st:List Pt)(y4 y5 y6:Option V),σ'=[some iv,some (.bl true),some (.ref pa),some (.ref lf),y4,y5,y6]/\TwoL H H' pa lf x1 x2 (acc.map XV) (st.map ptD)/\acc++ptB st=bxL its []/\ptW st<=m'/\acc.length+m'<=10000/\∀e∈st,QcW e,fun _ _ h=>h,?_⟩;refine⟨_,rfl,.inl ⟨rfl,_,.inl (.inl T4.g2)⟩,?_⟩;refine⟨lf,_,xl,rfl,rfl,T4.g2,by simp,?_⟩;have T5:TwoL H (upd H4 lf (.lst (xs0++[xl]).dropLast)) pa lf x1 xs0 (acc.map XV) (st0.map ptD):=by
   rw[List.dropLast_concat];exact T4.put2 t1
  have Dl5:=Dl.jY (o':=.lst (xs0++[xl]).dropLast) T4.g2 WN;generalize upd H4 lf (.lst (xs0++[xl]).dropLast)=H5 at T5 Dl5;clear T4 Dl t1 l2;obtain⟨pb,px,rfl,gp,tp⟩:=Deep.VW (show Deep H5 xl (.tup [XV pre,y.dv])from Dl5);obtain⟨vp,vy,rfl,DP,DY⟩:∃vp vy,px=[vp,vy]/\Deep H5 vp (.tup (pre.map XU))/\Deep H5 vy y.dv:=by
   cases tp with
   |cons p1 t=>cases t with
    |cons p2 t=>cases t;exact⟨_,_,rfl,p1,p2⟩
  refine⟨pb,_,rfl,.inl (.inl gp),rfl,_,_,rfl,_,_,rfl,rfl,?_⟩;obtain⟨va,vx,rfl,gv,tv⟩:=Deep.VW DP;have lvx:=tv.length;rw[uN]at lvx;dsimp only[QV,Z2,Xu,Js];cases y with
  |box nm p=>
   obtain⟨a,rfl,g⟩:=WL DY;refine⟨_,rfl,a,_,0,_,rfl,rfl,.inl g,rfl,rfl,true,rfl,QY ?_⟩;refine⟨_,rfl,.inl ⟨rfl,_,.inl (.inl T5.g1)⟩,?_⟩;refine⟨_,rfl,_,rfl,a,_,1,_,rfl,rfl,.inl g,rfl,sL1,fun p6 hp6=>?_⟩;have S6:=Qo.new (o:=.tup [.str nm]) hp6;refine vH (S6 _ _ gv) Qd (tv.same S6) (ds:=pre.map XU) (es:=[XU (nm,none)]) (.cons .str .nil) (by show vx.length+1<=sizeLine;omega) fun u7 H7 S7 D7=>?_;rw[V4]at D7;have T7:=(T5.same S6).same S7;refine⟨pa,x1,u7,rfl,rfl,T7.g1,by omega,?_⟩;rw[Ly.wt]at hW;rw[Ly.bx]at hB;refine⟨m-1,by omega,x1++[u7],xs0,acc++[pre++[(nm,none)]],st0,_,_,_,rfl,?_,by rw[tq];exact hB,by omega,by rw[uM,uS];omega,hO0⟩;rw[tm];exact T7.Qfz (T7.t1.append (.cons D7 .nil))
  |grp nm in_=>
   obtain⟨a,x3,rfl,g,D3⟩:=KQ DY;rw[Ly.wt]at hW hOl;rw[Ly.bx]at hB;rw[Ly.okK]at hOy;have hlen:=Kq in_;refine⟨_,rfl,a,_,0,_,rfl,rfl,.inl g,rfl,rfl,false,by rw[QcB],QO ?_⟩;refine⟨_,rfl,a,_,0,_,rfl,rfl,.inl g,rfl,rfl,true,rfl,QY ?_⟩;refine⟨_,rfl,.inl ⟨rfl,_,.inl (.inl T5.g2)⟩,?_⟩;refine⟨_,rfl,_,rfl,a,_,1,_,rfl,rfl,.inl g,rfl,sL1,fun p6 hp6=>?_⟩;have S6:=Qo.new (o:=.tup [.str nm]) hp6;refine vH (S6 _ _ gv) Qd (tv.same S6) (ds:=pre.map XU) (es:=[XU (nm,none)]) (.cons .str .nil) (by show vx.length+1<=sizeLine;omega) fun u7 H7 S7 D7=>?_;rw[V4]at D7;have S67:=S6.trans S7;refine⟨_,rfl,a,_,2,_,rfl,rfl,.inl (S67 _ _ g),rfl,u7,x3,XV (pre++[(nm,none)]),in_,rfl,D7,D3.same S67,by omega,fun q8 xs8 H8 S8 hq8 g8 t8=>?_⟩;rw[QcF]at t8;have T8:=(T5.same S67).same S8;have lx0:=T8.t2.length;rw[uN]at lx0;have lx8:=t8.length;have lp8:((pts (pre++[(nm,none)]) in_).map ptD).length=in_.length:=by unfold pts;simp
   refine⟨lf,q8,xs0,xs8,rfl,rfl,T8.g2,g8,by omega,?_⟩;refine⟨m-1,by omega,x1,xs0++xs8,acc,st0++pts (pre++[(nm,none)]) in_,_,_,_,rfl,?_,?_,?_,by omega,?_⟩
   ·rw[tm];exact T8.put2 (T8.t2.append t8)
   ·rw[UN,QaJ];exact hB
   ·rw[Wr,QcE];omega
   ·intro e he;rcases List.mem_append.mp he with he|he
    ·exact hO0 e he
    ·exact vI hOy (by rw[uM,uS];omega) e he
  |tab nm k1 in_=>
   obtain⟨a,x3,rfl,g,D3⟩:=KR DY;rw[Ly.wt]at hW hOl;rw[Ly.bx]at hB;rw[Ly.okK]at hOy;have hlen:=Kq in_;refine⟨_,rfl,a,_,0,_,rfl,rfl,.inl g,rfl,rfl,false,by rw[QcC],QO ?_⟩;refine⟨_,rfl,a,_,0,_,rfl,rfl,.inl g,rfl,rfl,false,by rw[Qfb],QO ?_⟩;refine⟨_,rfl,true,rfl,QY ?_⟩;refine⟨_,rfl,a,_,2,_,rfl,rfl,.inl g,rfl,0,(k1:Nat),rfl,⟨by decide,by decide,by omega,by omega⟩,?_⟩;have hn:(((k1:Nat):Int)-0).toNat=k1:=by omega
   rw[hn];refine Wn (Qe6 (lo:=0+((k1:Nat):Int)-1) (c:= -1) (n:=k1)) (fun t σ H6=>∃(x2:List V)(y6:Option V),σ=[some iv,some (.bl true),some (.ref pa),some (.ref lf),some (.ref va),some (.ref a),y6]/\TwoL H H6 pa lf x1 x2 (acc.map XV) ((st0++psh pre nm k1 in_ t).map ptD)/\H6 va=some (.tup vx)/\Deeps H6 vx (pre.map XU)/\H6 a=some (.tup [.str "table",.str nm,.int (k1:Nat),x3])/\Deep H6 x3 (.tup (dvL in_))) ⟨xs0,y6,rfl,by rw[psh,tF];exact T5,gv,tv,g,D3⟩ ?_ ?_ ?_
   ·intro t σ H6 _ _;trivial
   ·rintro t v σ H60 H6 ht ⟨x2,y6,rfl,T6,gv6,tv6,g6,D6⟩ ⟨rfl,rfl⟩;have e1:0+((k1:Nat):Int)-1+((t:Nat):Int)*(-1)=((k1-1-t:Nat):Int):=by omega
    rw[e1];dsimp only[QV,Z2,Xu,Js];refine⟨_,rfl,.inl ⟨rfl,_,.inl (.inl T6.g2)⟩,?_⟩;refine⟨_,rfl,_,rfl,a,_,1,_,rfl,rfl,.inl g6,rfl,_,rfl,sL2,fun p7 hp7=>⟨sL1,fun p8 hp8=>?_⟩⟩;have S7:=Qo.new (o:=.tup [.str nm,.int (k1-1-t:Nat)]) hp7;have S8:=Qo.new (o:=.tup [.ref p7]) hp8;have D8:Deep (upd (upd H6 p7 (.tup [.str nm,.int (k1-1-t:Nat)])) p8 (.tup [.ref p7])) (.ref p7) (XU (nm,some (k1-1-t))):=(Deep.tup Qd (.cons .str (.cons .int .nil))).same S8;refine vH ((S7.trans S8) _ _ gv6) Qd (tv6.same (S7.trans S8)) (ds:=pre.map XU) (es:=[XU (nm,some (k1-1-t))]) (.cons D8 .nil) (by show vx.length+1<=sizeLine;omega) fun u9 H9 S9 D9=>?_;rw[V4]at D9;have S69:=(S7.trans S8).trans S9;have hlw:in_.length<=k1*wtL in_:=Nat.le_trans hlen (Nat.le_mul_of_pos_left _ (by omega));have hww:wtL in_<=k1*wtL in_:=Nat.le_mul_of_pos_left _ (by omega);refine⟨_,rfl,a,_,3,_,rfl,rfl,.inl (S69 _ _ g6),rfl,u9,x3,XV (pre++[(nm,some (k1-1-t))]),in_,rfl,D9,D6.same S69,by omega,fun q10 xs10 H10 S10 hq10 g10 t10=>?_⟩;rw[QcF]at t10;have T10:=(T6.same S69).same S10;have S610:=S69.trans S10;have lx2:=T10.t2.length;rw[uN,uM]at lx2;have lpsh:=za (psh pre nm k1 in_ t);rw[QcG]at lpsh;have hmul:t*wtL in_<=k1*wtL in_:=Nat.mul_le_mul_right _ (by omega);have lx10:=t10.length;have lp10:((pts (pre++[(nm,some (k1-1-t))]) in_).map ptD).length=in_.length:=by unfold pts;simp
    refine⟨lf,q10,x2,xs10,rfl,rfl,T10.g2,g10,by omega,?_⟩;have nva:va≠lf:=fun z=>by rw[z,T6.g2]at gv6;cases gv6
    have na:a≠lf:=fun z=>by rw[z,T6.g2]at g6;cases g6
    refine⟨x2++xs10,_,rfl,?_,by rw[Ql nva];exact S610 _ _ gv6,(tv6.same S610).jY T10.g2 WN,by rw[Ql na];exact S610 _ _ g6,(D6.same S610).jY T10.g2 WN⟩;rw[psh, ←tq,tm];exact T10.put2 (T10.t2.append t10)
   ·rintro σ H6 ⟨x2,y6,rfl,T6,_,_,_,_⟩;refine⟨m-1,by omega,x1,x2,acc,st0++psh pre nm k1 in_ k1,_,_,_,rfl,T6,?_,?_,by omega,?_⟩
    ·rw[UN,Qd8 _ _ _ _ _ (uQ _),Nat.sub_self,List.drop_zero];exact hB
    ·rw[Wr,QcG];omega
    ·intro e he;rcases List.mem_append.mp he with he|he
     ·exact hO0 e he
     ·have key:∀t,t<=k1->∀e∈psh pre nm k1 in_ t,QcW e:=by
       intro t
       induction t with
       |zero=>intro _ e he;exact nomatch he
       |succ t ih=>
        intro ht e he;rcases List.mem_append.mp he with he|he
        ·exact ih (by omega) e he
        ·have hww:wtL in_<=k1*wtL in_:=Nat.le_mul_of_pos_left _ (by omega);exact vI hOy.2 (by rw[uM,uS];omega) e he
      exact key k1 (uQ _) e he
noncomputable def zd:Sp:=fun vs H Q _=>∃(iv:V)(its:List (Bool × Ly)),vs=[iv]/\Deep H iv (.tup (dvL its))/\wtL its<=10000/\okL its/\∀u H',Qo H H'->Deep H' u (.tup ((bxL its []).map XV))->Q u H'
theorem QaK(F:Fun K "boxes" "boxes" jG f fd)(OT:mg "tuple"=none)(gS:Def P w K mg base 3 "paths_of_boxes" ["items","with_tables"] zc):FnOk P w K mg base (CXE P w) 4 f fd ["layout"] zd:=by
 refine zF F yN (fun vs H Q E h=>?_) (fun cdv A outer s H vs Q E hr h=>?_)
 ·obtain⟨iv,its,rfl,_⟩:=h;rfl
 ·obtain⟨iv,its,rfl,DI,hw,hok,k⟩:=h;refine⟨_,(QJ (Jg (PEx.mk (Xz YR rfl OT PyProof.Rows.boot_tuple (QB (gS.pe hr (by decide) rfl Qp (QB (pv 0) (QB WQ Qb))) Qb))))),?_⟩;refine⟨_,rfl,iv,its,rfl,DI,hw,hok,fun q xs H1 S1 g1 t1=>⟨q,xs,rfl,.inl ⟨.inl (.inl g1),fun l hl=>?_⟩⟩⟩;exact k _ _ (S1.trans (Qo.new hl)) (z7 t1 hl)
end
section
variable {P:Program}{w:World}{K:PySem.W.Frag}{mg:Str->Option Value}{base:Heap}{f:Addr}{fd:FuncData}{tk:Nat->Tok}
theorem UO{H:Hp}{a:Addr}{ns:List Int}(h:SqL K H a (ns.map V.int)):Qej K (.ref a) H (!ns.isEmpty):=.inl ⟨_,h,by cases ns<;>rfl⟩
theorem jf(F:Fun K "_law_draw" "_law_draw" Kp f fd)(O:Own mg):FnOk P w K mg base (CXE P w) 1 f fd ["_law_script","_law_town","_law_many"] (WG K):=by
 refine okN F Zb (fun vs H Q E h=>?_) (fun cdv A outer s H vs Q E hr h=>?_)
 ·obtain⟨a,t,r,ns,c,many,rs,rfl,_⟩:=h;rfl
 ·obtain⟨a,t,r,ns,c,many,rs,rfl,hS,T,nat,nar,hl,hc,hm0,hm1,k⟩:=h;have hu:=Qdq hr;have T1:TownAt (upd H t (.dK [(Sum.inr "count",.int (c+1)),(Sum.inr "rests",.ref r)])) t r (c+1) rs:=⟨Qd,by rw[Ql T.ne.symm];exact T.rt,T.vs,by have:=T.c0;omega,by have:=T.ln;omega,T.ne⟩;have hS1:=hS.upd (o:=.dK [(Sum.inr "count",.int (c+1)),(Sum.inr "rests",.ref r)]) nat;have A1:Apart t r H (upd H t (.dK [(Sum.inr "count",.int (c+1)),(Sum.inr "rests",.ref r)])):=fun b o e n1 n2=>by rw[Ql n1];exact e
  refine⟨_,(Qc (kS hu (pv 1) Qk (QC Jd (K8 hu (pv 1) Qk (fun _ _=>rfl)) Qg) rfl)
   (Qc (Qt (i:=3) Zb.nd rfl (Or.inl rfl) (Jj (Jr (pv 0) (fun _=>rfl)) (QC Vh (K8 hu (pv 1) Qk (fun _ _=>rfl)) (Qr QF rfl O.len PySem.boot_len (Qa (pv 0) Qb))) Qg))
   (Qc (Qt (i:=4) Zb.nd rfl (Or.inl rfl) (yw hu (K8 hu (pv 1) Qk (fun _ _=>rfl)) (pv 3) (Jj (Jr (pv 0) (fun _=>rfl)) (Qw Je (pv 0) (pv 3) (fun _ _=>rfl)) Qg) ⟨rfl,rfl,rfl,rfl⟩))
   (Qc (QM (Qj yj (pv 4) (QC QaV Qg Qg) (Qm _)) (Qc (kS hu (K8 hu (pv 1) Qk (fun _ _=>rfl)) (pv 3) (QC jq (pv 4) (pv 2)) rfl)
   (Qf (Qn (QC Vh (pv 4) (pv 2))))) Qu)
   (Qc (Qt (i:=5) Zb.nd rfl (Or.inl rfl) (QC Vh (QC Jd (pv 4) (QC WE Qg (K8 hu (pv 1) Qk (fun _ _=>rfl)))) Qg))
   (Qc (Qt (i:=5) Zb.nd rfl (Or.inl rfl) (QC Vh (QC QaV (pv 5) Qg) Qg))
   (Qf (Qn (QC Vh (QC jq (QC Vh (QC Jd (QC WE (QC jq (pv 5) Qg) Qg) (pv 5)) Qg) Qg) (pv 2)))))))))),?_⟩
  refine⟨_,rfl,t,_,rfl,XZ T.tw,_,_,rfl,rfl,_,rfl,t,_,rfl,xJ _ T.tw,?_⟩;refine⟨_,rfl,_,UO hS1,?_⟩;refine ifB (fun hz=>?_) (fun hz=>?_)
  ·have hp:0<ns.length:=by cases ns with|nil=>cases hz|cons a r=>exact Nat.succ_pos _
   have hp':(0:Int)<((ns.map V.int).length:Int):=by rw[uN];omega
   refine⟨_,rfl,t,_,rfl,XZ T1.tw,_,rfl,a,_,rfl,.inl hS1,_,_,rfl,rfl,hp',?_⟩;have m1:=Int.emod_nonneg (c+1) (Int.ne_of_gt hp');have m2:=Int.emod_lt_of_pos (c+1) hp';obtain⟨j,hj⟩:=Int.eq_ofNat_of_zero_le m1;have hjl:j<ns.length:=by rw[hj,uN]at m2;omega
   refine⟨_,rfl,t,_,rfl,X0 T1.tw,r,rfl,.inl ⟨rs,.inl T1.rt⟩,_,rfl,_,rfl,_,UO hS1,?_⟩;rw[hz];refine QY ⟨_,rfl,_,rfl,a,_,_,V.int ns[j],rfl,rfl,hS1,?_,_,zC.k (k:=Sum.inl ((c+1) % ((ns.map V.int).length:Int))) T1.rt,?_⟩
   ·show atI (ns.map V.int) ((c+1) % ((ns.map V.int).length:Int))=_;rw[hj];refine JI ?_;rw[u5,List.getElem?_eq_getElem hjl];rfl
   obtain⟨z,hz⟩:=qo T1.vs ((c+1) % ((ns.map V.int).length:Int)) (ns[j]);rw[hz];refine⟨_,rfl,_,_,rfl,rfl,⟨by decide,by decide,by decide⟩,_,_,rfl,rfl,_,rfl,?_⟩;refine ifB (fun g=>?_) (fun g=>?_)
   ·have P2:=qp T1.vs ((c+1) % ((ns.map V.int).length:Int)) (z/many);refine⟨_,rfl,_,rfl,_,_,rfl,rfl,⟨hm0,by omega⟩,_,rfl,t,_,rfl,X0 T1.tw,_,rfl,r,_,rfl,Qa0.k (k:=Sum.inl ((c+1) % ((ns.map V.int).length:Int))) T1.rt (Nat.lt_of_lt_of_le (m:=100001) (by have:=T.ln;omega) (by decide)),?_⟩;refine⟨_,rfl,_,rfl,_,_,rfl,rfl,hm0,?_⟩;refine k _ (putK rs (Sum.inl ((c+1) % ((ns.map V.int).length:Int))) (.int (z/many))) _ (Int.emod_nonneg _ (Int.ne_of_gt hm0)) (Int.emod_lt_of_pos _ hm0) ⟨?_,Qd,P2.1,T1.c0,?_,T.ne⟩ (A1.trans fun b o e n1 n2=>by rw[Ql n2];exact e)
    ·rw[Ql T.ne];exact T1.tw
    ·have:=P2.2;have:=T.ln;omega
   ·refine⟨_,rfl,_,rfl,t,_,rfl,XZ T1.tw,_,_,rfl,rfl,.inl ⟨by decide,by decide⟩,_,_,rfl,rfl,_,_,rfl,rfl,(show(0:Int)<4294967291 by decide),?_⟩;have n1:=Int.emod_nonneg (z+104729*(c+1)) (show(4294967291:Int)≠0 by decide);have n2:=Int.emod_lt_of_pos (z+104729*(c+1)) (show(0:Int)<4294967291 by decide);refine⟨_,rfl,_,_,rfl,rfl,⟨by decide,by decide,by show Int.natAbs _<2^64;omega⟩,_,_,rfl,rfl,(show(0:Int)<4294967279 by decide),?_⟩;refine⟨_,rfl,_,_,rfl,rfl,⟨by decide,by decide⟩,_,_,rfl,rfl,.inr ⟨by decide,by decide⟩,_,rfl,_,_,rfl,rfl,_,_,rfl,rfl,(show(0:Int)<4294967231 by decide),_,_,rfl,rfl,⟨by decide,by decide⟩,_,rfl,_,_,rfl,rfl,hm0,?_⟩;exact k _ rs _ (Int.emod_nonneg _ (Int.ne_of_gt hm0)) (Int.emod_lt_of_pos _ hm0) T1 A1
  ·refine⟨_,rfl,t,_,rfl,X0 T1.tw,r,rfl,.inl ⟨rs,.inl T1.rt⟩,_,rfl,_,rfl,_,UO hS1,?_⟩;rw[hz];refine QO ⟨_,zC.k (k:=Sum.inl (0:Int)) T1.rt,?_⟩;obtain⟨z,hz⟩:=qo T1.vs ((0:Int)) (0);rw[hz];refine⟨_,rfl,_,_,rfl,rfl,⟨by decide,by decide,by decide⟩,_,_,rfl,rfl,_,rfl,?_⟩;refine ifB (fun g=>?_) (fun g=>?_)
   ·have P2:=qp T1.vs ((0:Int)) (z/many);refine⟨_,rfl,_,rfl,_,_,rfl,rfl,⟨hm0,by omega⟩,_,rfl,t,_,rfl,X0 T1.tw,_,rfl,r,_,rfl,Qa0.k (k:=Sum.inl ((0:Int))) T1.rt (Nat.lt_of_lt_of_le (m:=100001) (by have:=T.ln;omega) (by decide)),?_⟩;refine⟨_,rfl,_,rfl,_,_,rfl,rfl,hm0,?_⟩;refine k _ (putK rs (Sum.inl ((0:Int))) (.int (z/many))) _ (Int.emod_nonneg _ (Int.ne_of_gt hm0)) (Int.emod_lt_of_pos _ hm0) ⟨?_,Qd,P2.1,T1.c0,?_,T.ne⟩ (A1.trans fun b o e n1 n2=>by rw[Ql n2];exact e)
    ·rw[Ql T.ne];exact T1.tw
    ·have:=P2.2;have:=T.ln;omega
   ·refine⟨_,rfl,_,rfl,t,_,rfl,XZ T1.tw,_,_,rfl,rfl,.inl ⟨by decide,by decide⟩,_,_,rfl,rfl,_,_,rfl,rfl,(show(0:Int)<4294967291 by decide),?_⟩;have n1:=Int.emod_nonneg (z+104729*(c+1)) (show(4294967291:Int)≠0 by decide);have n2:=Int.emod_lt_of_pos (z+104729*(c+1)) (show(0:Int)<4294967291 by decide);refine⟨_,rfl,_,_,rfl,rfl,⟨by decide,by decide,by show Int.natAbs _<2^64;omega⟩,_,_,rfl,rfl,(show(0:Int)<4294967279 by decide),?_⟩;refine⟨_,rfl,_,_,rfl,rfl,⟨by decide,by decide⟩,_,_,rfl,rfl,.inr ⟨by decide,by decide⟩,_,rfl,_,_,rfl,rfl,_,_,rfl,rfl,(show(0:Int)<4294967231 by decide),_,_,rfl,rfl,⟨by decide,by decide⟩,_,rfl,_,_,rfl,rfl,hm0,?_⟩;exact k _ rs _ (Int.emod_nonneg _ (Int.ne_of_gt hm0)) (Int.emod_lt_of_pos _ hm0) T1 A1
theorem UP(F:Fun K "_law_begun" "_law_begun" XQ f fd):FnOk P w K mg base (CXE P w) 1 f fd [] jz:=by
 refine zF F Ud (fun vs H Q E h=>?_) (fun cdv A outer s H vs Q E hr h=>?_)
 ·obtain⟨rfl,_⟩:=h;rfl
 ·obtain⟨rfl,k⟩:=h;refine⟨_,xI,?_⟩;intro p hp d hd;have npd:d≠p:=fun z=>by rw[z,Qd]at hd;cases hd
  have hd0:H d=none:=by rw[Ql npd]at hd;exact hd
  refine⟨by rw[Ql npd.symm,Qd],[(Sum.inr "count",.int 0),(Sum.inr "rests",.ref d)],rfl,Nat.le_of_ble_eq_true rfl,?_⟩;have e:KE [] [((Sum.inr "count":Key),V.int 0),((Sum.inr "rests":Key),V.ref d)]=[((Sum.inr "count":Key),V.int 0),((Sum.inr "rests":Key),V.ref d)]:=by
   have h:¬ ((Sum.inr "count":Key)=(Sum.inr "rests":Key)):=k7;unfold KE putK;simp[h]
  rw[e];refine k p d _ hp hd0 ⟨Qd,by rw[Ql npd,Qd],(fun kv hm=>nomatch hm),by decide,by decide,npd.symm⟩ fun b o z=>?_;rw[Ql (Qv z hp),Ql (Qv z hd0),Ql (Qv z hp)];exact z
theorem jg{H H':Hp}{t r q:Addr}{c:Int}{rs:List (Key × V)}(A:Apart t r H H')(T:TownAt H' t r c rs)(h:H' q=none):H q=none:=by
 cases e:H q with
 |none=>rfl
 |some o=>
  by_cases z1:q=t
  ·rw[z1,T.tw]at h;cases h
  ·by_cases z2:q=r
   ·rw[z2,T.rt]at h;cases h
   ·rw[A q o e z1 z2]at h;cases h
end
mutual
noncomputable def Ly.dp:Ly->Nat
 | .box _ _=>0
 | .grp _ its=>1+dpL its
 | .tab _ _ its=>1+dpL its
noncomputable def dpL:List (Bool × Ly)->Nat
 |[]=>0
 |x::xs=>max (dpI x) (dpL xs)
noncomputable def dpI:Bool × Ly->Nat
 |(_,y)=>y.dp
end
theorem ze:∀{its:List (Bool × Ly)}{x:Bool × Ly},x∈its->x.2.dp<=dpL its
 |[],_,h=>nomatch h
 |(o,y)::ys,x,h=>by
  rcases List.mem_cons.mp h with rfl|h
  ·rw[dpL,dpI];show y.dp<=_;omega
  ·have:=ze (its:=ys) h;rw[dpL];omega
theorem zf:∀its:List (Bool × Ly),(its.map fun x=>((szI x:Nat):Int)).sum=((szL its:Nat):Int)
 |[]=>rfl
 |x::xs=>by rw[tH,List.sum_cons,zf xs,szL];push_cast;rfl
noncomputable def zg:List (Key × V):=[(Sum.inr "9(3)",.int 3),(Sum.inr "S99V9",.int 3),(Sum.inr "X(4)",.int 4),(Sum.inr "AA",.int 2),(Sum.inr "Z9.9",.int 4),(Sum.inr "X",.int 1)]
theorem QaL:KE [] zg=zg:=by decide+kernel
theorem QaM(p:Nat):WR zg (Sum.inr (YG p))=some (.int (szP p:Nat)):=by
 unfold YG szP
 split<;>decide+kernel
section
variable {P:Program}{w:World}{K:PySem.W.Frag}{mg:Str->Option Value}{base:Heap}{f:Addr}{fd:FuncData}{tk:Nat->Tok}{c kr:Nat->Addr}
noncomputable def jh(d:Nat):Sp:=fun vs H Q _=>∃(v:V)(x:Bool × Ly),vs=[v]/\Deep H v (dvI x)/\x.2.dp<d/\x.2.cn<=10000/\x.2.okK/\∀H',Qo H H'->Q (.int (szI x:Nat)) H'
theorem KS(F:Fun K "_law_item_size" "_law_item_size" JG f fd):FnOk P w K mg base (CXE P w) 1 f fd ["_law_item"] (jh 0):=by
 refine zF F J2 (fun vs H Q E h=>?_) (fun cdv A outer s H vs Q E hr h=>?_)
 ·obtain⟨v,x,rfl,_⟩:=h;rfl
 ·obtain⟨v,x,rfl,_,hd,_⟩:=h;exact absurd hd (Nat.not_lt_zero _)
set_option maxHeartbeats 2000000 in
theorem J4(d:Nat)(F:Fun K "_law_item_size" "_law_item_size" JG f fd)(O:Own mg)(gT:Def P w K mg base (d+1) "_law_item_size" ["_law_item"] (jh d)):FnOk P w K mg base (CXE P w) (d+2) f fd ["_law_item"] (jh (d+1)):=by
 refine zF F J2 (fun vs H Q E h=>?_) (fun cdv A outer s H vs Q E hr h=>?_)
 ·obtain⟨v,x,rfl,_⟩:=h;rfl
 ·obtain⟨v,⟨ov,y⟩,rfl,D,hd,hcn,hok,k⟩:=h;have hz:100000<=sizeLine:=by rw[sizeLine_eq];decide
  have hu:=Qdq hr;refine⟨_,(Qz (VY (Qj Jc (Qw Qy (pv 0) Qg (fun _ _=>rfl)) Qk (Qm _)) (QJ (Jg (PEx.mk Qg))) XT)
   (Qz (VY (Qj Jc (Qw Qy (pv 0) Qg (fun _ _=>rfl)) Qk (Qm _)) (QJ (Jg (QaG hu (vA (X3 (PEx.mk Qk) (PEx.mk Qg) (X3 (PEx.mk Qk) (PEx.mk Qg) (X3 (PEx.mk Qk) (PEx.mk Qg) (X3 (PEx.mk Qk) (PEx.mk Qg) (X3 (PEx.mk Qk) (PEx.mk Qg) (X3 (PEx.mk Qk) (PEx.mk Qg) Qcz)))))) rfl rfl (List.cons_ne_nil _ _) (Nat.le_of_ble_eq_true rfl)) (PEx.mk (Qw Qy (pv 0) Qg (fun _ _=>rfl))) (fun _ _=>rfl)))) XT)
   (Qz (Jq (i:=1) J2.nd rfl (Or.inl rfl) (PEx.mk (Qr (YZ rfl) rfl O.sum L2.boot_sum (QB (ZE (NB:=[".0","_law_one"]) rfl ⟨rfl,by decide+kernel,by decide+kernel,by decide+kernel⟩ (U8 (Qw Qy (pv 0) (Vf Xx Qg) (fun _ _=>rfl))) (fun _ _ _=>(Qi (i:=1) (show([".0","_law_one"]:List Str).Nodup by decide+kernel) rfl (Or.inl rfl))) (fun _ _ _=>Z7) (fun _ _ _=>(gT.pe hr (by omega) rfl Qp (QB (pv 1) Qb)))) Qb))) rfl rfl)
   (QJ (Jg (Qbe (Qj Jc (Qw Qy (pv 0) Qg (fun _ _=>rfl)) Qk (Qm _)) (vt WE (PEx.mk (pv 1)) (PEx.mk (Qw Qy (pv 0) Qg (fun _ _=>rfl)))) (PEx.mk (pv 1)))))))),?_⟩
  cases ov with
  |true=>
   obtain⟨a,x2,rfl,g,_⟩:=V2 D;rw[szI,if_pos rfl]at k;exact⟨_,rfl,a,_,0,_,rfl,rfl,.inl g,rfl,rfl,true,rfl,QY (k _ (Qo.refl _))⟩
  |false=>
   rw[dvI,if_neg (by decide)]at D;rw[szI,if_neg (by decide)]at k;have hd:y.dp<d+1:=hd;have hcn:y.cn<=10000:=hcn;have hok:y.okK:=hok;cases y with
   |box nm p=>
    obtain⟨a,rfl,g⟩:=WL D;rw[Ly.sz]at k;refine⟨_,rfl,a,_,0,_,rfl,rfl,.inl g,rfl,rfl,false,by rw[Qfs],QO ?_⟩;refine⟨_,rfl,a,_,0,_,rfl,rfl,.inl g,rfl,rfl,true,rfl,QY ?_⟩;refine fun pd hpd=>⟨Qd,zg,rfl,by decide,?_⟩;have S2:Qo H (upd (upd H pd (.dK [])) pd (.dK (KE [] zg))):=W2 (Qo.new hpd) hpd;rw[QaL]at S2 ⊢;refine⟨_,rfl,a,_,2,_,rfl,rfl,.inl (S2 _ _ g),rfl,pd,_,rfl,?_,k _ S2⟩;have:=zC.k (k:=Sum.inr (YG p)) (show upd (upd H pd (.dK [])) pd (.dK zg) pd=some (.dK zg)from Qd);rw[QaM]at this;exact this
   |grp nm in_=>
    obtain⟨a,x,rfl,g,D2⟩:=KQ D;rw[Ly.sz]at k;rw[Ly.cn]at hcn;rw[Ly.okK]at hok;rw[Ly.dp]at hd;refine⟨_,rfl,a,_,0,_,rfl,rfl,.inl g,rfl,rfl,false,by rw[Qft],QO ?_⟩;refine⟨_,rfl,a,_,0,_,rfl,rfl,.inl g,rfl,rfl,false,by rw[QcB],QO ?_⟩;dsimp only[QV,Z2,Xu,Js];refine cb1 ?_;obtain⟨xa,ys,rfl,gx,tx⟩:=Deep.VW D2;rw[Jh]at tx;have lx:=tx.length;rw[uN]at lx;have ln:=vC in_;have hok2:okL in_:=hok;refine ja (Qep (K:=K) (a:=xa) (xs:=ys)) (in_.map fun x=>Dv.int (szI x:Nat)) (by rw[uN];omega) (fun R h=>⟨_,rfl,_,rfl,a,_,_,_,rfl,rfl,.inl g,rfl,xa,rfl,⟨_,.inl (.inl gx)⟩,h _ (Qo.refl _)⟩) (fun H1 S=>.inl (.inl (S _ _ gx))) ?_ ?_ (by omega)
    ·rintro i v H1 H2 dd R hd2 S ⟨rfl,hv⟩ kk;obtain⟨dv,hdv,ddv⟩:=tx.x0 hv;rw[u5]at hdv hd2;cases e:in_[i]? with
     |none=>rw[e]at hdv;cases hdv
     |some z=>
      rw[e]at hdv hd2;obtain rfl:=uR hdv;have hm:=u6 e;have h1:=j8 e;have h2:=Ws hok2 hm;have h3:=ze hm;refine⟨_,rfl,v,z,rfl,ddv.same S,by omega,by obtain⟨o,yy⟩:=z;rw[cnI]at h1;show yy.cn<=10000;omega,h2,fun H3 S3=>kk _ _ S3 ?_⟩;rw[←uR hd2];exact .int
    rintro zs H1' p' S' t2 hp';have e:zs=(in_.map fun x=>((szI x:Nat):Int)).map V.int:=by
     have:=Wo (ns:=in_.map fun x=>((szI x:Nat):Int)) (by rw[tG];exact t2);exact this
    subst e;have S1:=S'.trans (Qo.new (o:=.lst ((in_.map fun x=>((szI x:Nat):Int)).map V.int)) hp');refine⟨p',_,rfl,.inl (.inl Qd),?_⟩;rw[zf];generalize upd H1' p' (.lst ((in_.map fun x=>((szI x:Nat):Int)).map V.int))=H1 at S1;refine⟨_,rfl,a,_,0,_,rfl,rfl,.inl (S1 _ _ g),rfl,rfl,false,by rw[Qfy],QO ⟨_,rfl,k _ S1⟩⟩
   |tab nm k1 in_=>
    obtain⟨a,x,rfl,g,D2⟩:=KR D;rw[Ly.sz]at k;rw[Ly.cn]at hcn;rw[Ly.okK]at hok;rw[Ly.dp]at hd;refine⟨_,rfl,a,_,0,_,rfl,rfl,.inl g,rfl,rfl,false,by rw[Qfu],QO ?_⟩;refine⟨_,rfl,a,_,0,_,rfl,rfl,.inl g,rfl,rfl,false,by rw[QcC],QO ?_⟩;dsimp only[QV,Z2,Xu,Js];refine cb1 ?_;obtain⟨xa,ys,rfl,gx,tx⟩:=Deep.VW D2;rw[Jh]at tx;have lx:=tx.length;rw[uN]at lx;have ln:=vC in_;have hok2:okL in_:=hok.2;refine ja (Qep (K:=K) (a:=xa) (xs:=ys)) (in_.map fun x=>Dv.int (szI x:Nat)) (by rw[uN];omega) (fun R h=>⟨_,rfl,_,rfl,a,_,_,_,rfl,rfl,.inl g,rfl,xa,rfl,⟨_,.inl (.inl gx)⟩,h _ (Qo.refl _)⟩) (fun H1 S=>.inl (.inl (S _ _ gx))) ?_ ?_ (by omega)
    ·rintro i v H1 H2 dd R hd2 S ⟨rfl,hv⟩ kk;obtain⟨dv,hdv,ddv⟩:=tx.x0 hv;rw[u5]at hdv hd2;cases e:in_[i]? with
     |none=>rw[e]at hdv;cases hdv
     |some z=>
      rw[e]at hdv hd2;obtain rfl:=uR hdv;have hm:=u6 e;have h1:=j8 e;have h2:=Ws hok2 hm;have h3:=ze hm;refine⟨_,rfl,v,z,rfl,ddv.same S,by omega,by obtain⟨o,yy⟩:=z;rw[cnI]at h1;show yy.cn<=10000;omega,h2,fun H3 S3=>kk _ _ S3 ?_⟩;rw[←uR hd2];exact .int
    rintro zs H1' p' S' t2 hp';have e:zs=(in_.map fun x=>((szI x:Nat):Int)).map V.int:=by
     have:=Wo (ns:=in_.map fun x=>((szI x:Nat):Int)) (by rw[tG];exact t2);exact this
    subst e;have S1:=S'.trans (Qo.new (o:=.lst ((in_.map fun x=>((szI x:Nat):Int)).map V.int)) hp');refine⟨p',_,rfl,.inl (.inl Qd),?_⟩;rw[zf];generalize upd H1' p' (.lst ((in_.map fun x=>((szI x:Nat):Int)).map V.int))=H1 at S1;refine⟨_,rfl,a,_,0,_,rfl,rfl,.inl (S1 _ _ g),rfl,rfl,true,rfl,QY ?_⟩;refine⟨_,rfl,_,rfl,a,_,2,_,rfl,rfl,.inl (S1 _ _ g),rfl,_,_,rfl,rfl,.inr ⟨by have:=hok.1;omega,by have:=hok.1;omega⟩,?_⟩;have e:((szL in_:Nat):Int)*((k1:Nat):Int)=((szL in_*k1:Nat):Int):=by push_cast;rfl
    dsimp only;rw[e];exact k _ S1
end
noncomputable def UQ(j:Nat):Str:=⟨#[97+j]⟩
noncomputable def Z0(its:List (Bool × Ly)):Nat:=if its=[]then 0 else(its.getD (under its (its.length-1)) dfI).2.sz
structure PB(its:List (Bool × Ly)):Prop where
 len:its.length<=4
 nm:∀(j:Nat)(x:Bool × Ly),its[j]? =some x->x.2.name=UQ j
 first:∀x,its[0]? =some x->x.1=false
 ov:∀(j:Nat)(y:Ly),its[j]? =some (true,y)->y.sz<=(its.getD (under its j) dfI).2.sz
noncomputable def Good:Nat->List (Bool × Ly)->Prop
 |0,its=>its≠[]/\PB its/\∀x∈its,∃nm p,x.2=.box nm p
 |d+1,its=>its≠[]/\PB its/\∀x∈its,(∃nm p,x.2=.box nm p)\/(∃nm in_,x.2=.grp nm in_/\Good d in_)\/(∃nm k in_,x.2=.tab nm k in_/\1<=k/\k<=3/\Good d in_)
noncomputable def kc:Nat->Ly->Prop
 |0,y=>∃nm p,y=.box nm p
 |d+1,y=>(∃nm p,y=.box nm p)\/(∃nm in_,y=.grp nm in_/\Good d in_)\/(∃nm k in_,y=.tab nm k in_/\1<=k/\k<=3/\Good d in_)
theorem UR(d:Nat)(its:List (Bool × Ly)):Good d its↔its≠[]/\PB its/\∀x∈its,kc d x.2:=by
 cases d<;>rfl
noncomputable def cnB:Nat->Nat
 |0=>4
 |d+1=>4*(1+cnB d)
noncomputable def wtB:Nat->Nat
 |0=>4
 |d+1=>4*(1+3*wtB d)
theorem V5{g:Bool × Ly->Nat}{gl:List (Bool × Ly)->Nat}(h0:gl []=0)(hc:∀x xs,gl (x::xs)=g x+gl xs) {B:Nat}:∀{its:List (Bool × Ly)},(∀x∈its,g x<=B)->gl its<=its.length*B
 |[],_=>by rw[h0];exact tK _
 |x::xs,h=>by
  have h1:=h x uX;have h2:=V5 h0 hc (its:=xs) fun y hy=>h y (uW _ hy);rw[hc,uT,Nat.succ_mul];omega
theorem vJ:∀{its:List (Bool × Ly)},(∀x∈its,x.2.okK)->okL its
 |[],_=>by rw[okL];trivial
 |(o,y)::xs,h=>by
  rw[okL,okI];exact⟨h _ uX,vJ fun x hx=>h x (uW _ hx)⟩
theorem xh{B:Nat}:∀{its:List (Bool × Ly)},(∀x∈its,x.2.dp<=B)->dpL its<=B
 |[],_=>by rw[dpL];exact tK _
 |(o,y)::xs,h=>by
  have h1:=h _ uX;have h2:=xh (its:=xs) fun x hx=>h x (uW _ hx);rw[dpL,dpI];show max y.dp (dpL xs)<=B;have:y.dp<=B:=h1;omega
structure LBd(d:Nat)(its:List (Bool × Ly)):Prop where
 cn:cnL its<=cnB d
 wt:wtL its<=wtB d
 ok:okL its
 dp:dpL its<=d
theorem V6:∀(d:Nat)(its:List (Bool × Ly)),Good d its->LBd d its
 |0,its,h=>by
  obtain⟨_,hp,hx⟩:=h;have hl:=hp.len;refine⟨?_,?_,vJ fun x hx'=>?_,xh fun x hx'=>?_⟩
  ·have:=V5 (g:=cnI) (gl:=cnL) (by rw[cnL]) (fun x xs=>by rw[cnL]) (B:=1) (its:=its) fun x hx'=>by
    obtain⟨o,y⟩:=x;obtain⟨nm,p,e⟩:=hx _ hx';rw[cnI,show y=.box nm p from e,Ly.cn];exact uQ _
   show cnL its<=4;omega
  ·have:=V5 (g:=wtI) (gl:=wtL) (by rw[wtL]) (fun x xs=>by rw[wtL]) (B:=1) (its:=its) fun x hx'=>by
    obtain⟨o,y⟩:=x;obtain⟨nm,p,e⟩:=hx _ hx';rw[wtI,show y=.box nm p from e,Ly.wt];exact uQ _
   show wtL its<=4;omega
  ·obtain⟨nm,p,e⟩:=hx _ hx';rw[e,Ly.okK];trivial
  ·obtain⟨nm,p,e⟩:=hx _ hx';rw[e,Ly.dp];exact uQ _
 |d+1,its,h=>by
  obtain⟨_,hp,hx⟩:=h;have hl:=hp.len;have each:∀x∈its,x.2.cn<=1+cnB d/\x.2.wt<=1+3*wtB d/\x.2.okK/\x.2.dp<=d+1:=by
   intro x hx';rcases hx x hx' with⟨nm,p,e⟩|⟨nm,in_,e,hg⟩|⟨nm,k,in_,e,hk1,hk3,hg⟩
   ·rw[e,Ly.cn,Ly.wt,Ly.okK,Ly.dp];exact⟨by omega,by omega,trivial,by omega⟩
   ·have b:=V6 d in_ hg;have b1:=b.cn;have b2:=b.wt;have b4:=b.dp;rw[e,Ly.cn,Ly.wt,Ly.okK,Ly.dp];exact⟨by omega,by omega,b.ok,by omega⟩
   ·have b:=V6 d in_ hg;have b1:=b.cn;have b2:=b.wt;have b4:=b.dp;have:k*wtL in_<=3*wtB d:=Nat.mul_le_mul hk3 b2;rw[e,Ly.cn,Ly.wt,Ly.okK,Ly.dp];exact⟨by omega,by omega,⟨by omega,b.ok⟩,by omega⟩
  refine⟨?_,?_,vJ fun x hx'=>(each x hx').2.2.1,xh fun x hx'=>(each x hx').2.2.2⟩
  ·have:=V5 (g:=cnI) (gl:=cnL) (by rw[cnL]) (fun x xs=>by rw[cnL]) (B:=1+cnB d) (its:=its) fun x hx'=>by
    obtain⟨o,y⟩:=x;rw[cnI];exact(each _ hx').1
   show cnL its<=4*(1+cnB d);exact Nat.le_trans this (Nat.mul_le_mul_right _ hl)
  ·have:=V5 (g:=wtI) (gl:=wtL) (by rw[wtL]) (fun x xs=>by rw[wtL]) (B:=1+3*wtB d) (its:=its) fun x hx'=>by
    obtain⟨o,y⟩:=x;rw[wtI];exact(each _ hx').2.1
   show wtL its<=4*(1+3*wtB d);exact Nat.le_trans this (Nat.mul_le_mul_right _ hl)
theorem xj(d:Nat)(hd:d<=2){y:Ly}(h:kc d y):y.cn<=1000/\y.wt<=1000/\y.okK/\y.dp<=d:=by
 cases d with
 |zero=>
  obtain⟨nm,p,rfl⟩:=h;rw[Ly.cn,Ly.wt,Ly.okK,Ly.dp];exact⟨by omega,by omega,trivial,by omega⟩
 |succ d=>
  have c1:cnB d<=20/\wtB d<=52:=by
   obtain rfl|rfl:d=0\/d=1:=by omega
   ·decide
   ·decide
  rcases h with⟨nm,p,rfl⟩|⟨nm,in_,rfl,hg⟩|⟨nm,k,in_,rfl,hk1,hk3,hg⟩
  ·rw[Ly.cn,Ly.wt,Ly.okK,Ly.dp];exact⟨by omega,by omega,trivial,by omega⟩
  ·have b:=V6 d in_ hg;have b1:=b.cn;have b2:=b.wt;have b4:=b.dp;rw[Ly.cn,Ly.wt,Ly.okK,Ly.dp];exact⟨by omega,by omega,b.ok,by omega⟩
  ·have b:=V6 d in_ hg;have b1:=b.cn;have b2:=b.wt;have b4:=b.dp;have:k*wtL in_<=3*wtB d:=Nat.mul_le_mul hk3 b2;rw[Ly.cn,Ly.wt,Ly.okK,Ly.dp];exact⟨by omega,by omega,⟨by omega,b.ok⟩,by omega⟩
theorem KU{its:List (Bool × Ly)}{x:Bool × Ly}{j:Nat}(h:j<its.length):(its++[x]).getD j dfI=its.getD j dfI:=by
 rw[List.getD_eq_getElem?_getD,List.getD_eq_getElem?_getD,List.getElem?_append_left h]
theorem W3(its:List (Bool × Ly))(x:Bool × Ly):(its++[x]).getD its.length dfI=x:=by
 rw[List.getD_eq_getElem?_getD,List.getElem?_append_right (uQ _),Nat.sub_self];rfl
theorem XX{its:List (Bool × Ly)}{x:Bool × Ly}:∀{j:Nat},j<its.length->under (its++[x]) j=under its j
 |0,_=>rfl
 |j+1,h=>by
  rw[under,under,KU h,XX (j:=j) (by omega)]
theorem ke(its:List (Bool × Ly))(y:Ly):Z0 (its++[(false,y)])=y.sz:=by
 unfold Z0;rw[if_neg (by simp),uM,uS,Nat.add_sub_cancel,ZZ,W3];show(((its++[(false,y)]).getD (if false=true then _ else its.length) dfI).2).sz=y.sz;rw[if_neg (by decide),W3]
theorem zh{its:List (Bool × Ly)}(hne:its≠[])(y:Ly):Z0 (its++[(true,y)])=Z0 its:=by
 obtain⟨n,hn⟩:∃n,its.length=n+1:=⟨its.length-1,by
  have:its.length≠0:=fun z=>hne (List.eq_nil_of_length_eq_zero z);omega⟩
 have hu:=X4 its n;unfold Z0;rw[if_neg (by simp),if_neg hne,uM,uS,Nat.add_sub_cancel,ZZ,W3];show(((its++[(true,y)]).getD (if true=true then WM (its++[(true,y)]) its.length else its.length) dfI).2).sz=_;rw[if_pos rfl,hn,WM,XX (by omega),KU (by omega),Nat.add_sub_cancel]
theorem PB.add{its:List (Bool × Ly)}(h:PB its){y:Ly}(hl:its.length<4)(hn:y.name=UQ its.length):PB (its++[(false,y)]):=by
 refine⟨by rw[uM,uS];omega,fun j x hj=>?_,fun x hx=>?_,fun j y' hj=>?_⟩
 ·by_cases e:j<its.length
  ·rw[List.getElem?_append_left e]at hj;exact h.nm j x hj
  ·have e2:j=its.length:=by
    have:=(List.getElem?_eq_some_iff.mp hj).1;rw[uM,uS]at this;omega
   subst e2;rw[List.getElem?_append_right (uQ _),Nat.sub_self]at hj;rw[←uR hj];exact hn
 ·cases its with
  |nil=>rw[←uR hx]
  |cons z zs=>exact h.first x hx
 ·by_cases e:j<its.length
  ·rw[List.getElem?_append_left e]at hj;have:=h.ov j y' hj;have hu:=X4 its j;rw[XX e,KU (by omega)];exact this
  ·have e2:j=its.length:=by
    have:=(List.getElem?_eq_some_iff.mp hj).1;rw[uM,uS]at this;omega
   subst e2;rw[List.getElem?_append_right (uQ _),Nat.sub_self]at hj;cases hj
theorem PB.Qga{its:List (Bool × Ly)}(h:PB its)(hne:its≠[]){y:Ly}(hl:its.length<4)(hn:y.name=UQ its.length)(hs:y.sz<=Z0 its):PB (its++[(true,y)]):=by
 obtain⟨n,hn2⟩:∃n,its.length=n+1:=⟨its.length-1,by
  have:its.length≠0:=fun z=>hne (List.eq_nil_of_length_eq_zero z);omega⟩
 have hu:=X4 its n;refine⟨by rw[uM,uS];omega,fun j x hj=>?_,fun x hx=>?_,fun j y' hj=>?_⟩
 ·by_cases e:j<its.length
  ·rw[List.getElem?_append_left e]at hj;exact h.nm j x hj
  ·have e2:j=its.length:=by
    have:=(List.getElem?_eq_some_iff.mp hj).1;rw[uM,uS]at this;omega
   subst e2;rw[List.getElem?_append_right (uQ _),Nat.sub_self]at hj;rw[←uR hj];exact hn
 ·cases its with
  |nil=>exact absurd rfl hne
  |cons z zs=>exact h.first x hx
 ·by_cases e:j<its.length
  ·rw[List.getElem?_append_left e]at hj;have:=h.ov j y' hj;have hu:=X4 its j;rw[XX e,KU (by omega)];exact this
  ·have e2:j=its.length:=by
    have:=(List.getElem?_eq_some_iff.mp hj).1;rw[uM,uS]at this;omega
   subst e2;rw[List.getElem?_append_right (uQ _),Nat.sub_self]at hj;have hj:(true,y)=(true,y'):=uR hj;have e3:y=y':=congrArg (·.2) hj;subst e3;rw[ZZ,W3];show y.sz<=((its++[(true,y)]).getD (if true=true then WM (its++[(true,y)]) its.length else its.length) dfI).2.sz;rw[if_pos rfl,hn2,WM,XX (by omega),KU (by omega)];unfold Z0 at hs;rw[if_neg hne,hn2,Nat.add_sub_cancel]at hs;exact hs
noncomputable def cb:Nat->Int
 |0=>20
 |d+1=>4*cb d+20
theorem xk{i j:Nat}{te1 te2:TE}{D:Ends}{σ:L2.St}{H:Hp}(h:te1 σ H fun v H1=>te2 σ H1 fun w H2=>∃v' w',[v,w]=[v',w']/\D.nx ((σ.set i (some v')).set j (some w')) H2):Qev i j (Jn te1 (Jn te2 WV)) D σ H:=h
noncomputable def six:List Dv:=[.str "9(3)",.str "S99V9",.str "X(4)",.str "AA",.str "Z9.9",.str "X"]
theorem Qd9{d:Nat}{dv:Dv}(h:six[d]? =some dv):dv=.str (YG d):=by
 unfold six at h
 match d,h with
 |0,h=>exact(uR h).symm
 |1,h=>exact(uR h).symm
 |2,h=>exact(uR h).symm
 |3,h=>exact(uR h).symm
 |4,h=>exact(uR h).symm
 |5,h=>exact(uR h).symm
 |n+6,h=>simp at h
theorem Zt(x:Str)(n:Nat):(Dv.str x).depth<=n:=by unfold Dv.depth;omega
theorem ji{n:Nat}:∀{ds:List Dv},(∀d∈ds,d.depth<=n)->Dv.Ke ds<=n
 |[],_=>by unfold Dv.Ke;omega
 |d::ds,h=>by
  have h1:=h d uX;have h2:=ji (ds:=ds) fun x hx=>h x (uW _ hx);unfold Dv.Ke;omega
theorem ZD{n:Nat}{ds:List Dv}(h:∀d∈ds,d.depth<=n):(Dv.tup ds).depth<=n+1:=by
 have:=ji h;unfold Dv.depth;omega
theorem QaN{a:Addr}{its:List (Bool × Ly)}{σ:L2.St}{H:Hp}{Q:Bool->Hp->Prop}(D:Deep H (.ref a) (.tup (dvL its)))(hd:(Dv.tup (dvL its)).depth<=16)(k:∀H' b,Qo H H'->(b=true↔its≠[])->Q b H'):Qdb WV σ H fun y H1=>QdW 16 true (.ref a) y H1 fun x H2=>∃k',x=.bl k'/\Q k' H2:=by
 refine⟨tK _,fun l0 hl0=>?_⟩;have S:=Qo.new (o:=.tup []) hl0;refine⟨_,.tup [],D.same S,.tup Qd .nil,hd,_,rfl,k _ _ S ?_⟩;cases its with
 |nil=>simp[dvL,Dv.eqb,Dv.Qbb]
 |cons x xs=>simp[dvL,Dv.eqb,Dv.Qbb]
mutual
theorem Qfd:∀y:Ly,y.dv.depth<=3*y.dp+1
 | .box nm p=>by
  rw[Ly.dv,Ly.dp];exact ZD (n:=0) fun d hd=>by
   simp only[List.mem_cons,List.not_mem_nil,or_false]at hd;rcases hd with rfl|rfl|rfl<;>exact Zt _ _
 | .grp nm its=>by
  have h:=QaO its;rw[Ly.dv,Ly.dp];have h2:=ZD h;have:=ZD (n:=3*dpL its+3) (ds:=[.str "group",.str nm,.tup (dvL its)]) fun d hd=>by
   simp only[List.mem_cons,List.not_mem_nil,or_false]at hd;rcases hd with rfl|rfl|rfl
   ·exact Zt _ _
   ·exact Zt _ _
   ·exact h2
  omega
 | .tab nm k its=>by
  have h:=QaO its;rw[Ly.dv,Ly.dp];have h2:=ZD h;have:=ZD (n:=3*dpL its+3) (ds:=[.str "table",.str nm,.int (k:Nat),.tup (dvL its)]) fun d hd=>by
   simp only[List.mem_cons,List.not_mem_nil,or_false]at hd;rcases hd with rfl|rfl|rfl|rfl
   ·exact Zt _ _
   ·exact Zt _ _
   ·unfold Dv.depth;omega
   ·exact h2
  omega
theorem QaO:∀its:List (Bool × Ly),∀d∈dvL its,d.depth<=3*dpL its+2
 |[],d,hd=>by rw[dvL]at hd;cases hd
 |x::xs,d,hd=>by
  have h1:=Qfe x;have h2:=QaO xs;rw[dvL]at hd;rw[dpL];rcases List.mem_cons.mp hd with rfl|hd
  ·omega
  ·have:=h2 d hd;omega
theorem Qfe:∀x:Bool × Ly,(dvI x).depth<=3*dpI x+2
 |(o,y)=>by
  have h:=Qfd y;rw[dvI,dpI]
  split
  ·have:=ZD (n:=3*y.dp+1) (ds:=[.str "over",y.dv]) fun e he=>by
    simp only[List.mem_cons,List.not_mem_nil,or_false]at he;rcases he with rfl|rfl
    ·exact Zt _ _
    ·exact h
   omega
  ·omega
end
theorem QcH:∀i:Nat,i<4->atI ("abcdef":Str).cps.toList (0+(i:Int))=some (97+i):=by decide+kernel
theorem kg:Z0 []=0:=by unfold Z0;rw[if_pos rfl]
section
variable {P:Program}{w:World}{K:PySem.W.Frag}{mg:Str->Option Value}{base:Heap}{f:Addr}{fd:FuncData}{tk:Nat->Tok}{c kr:Nat->Addr}
noncomputable def WO(K:PySem.W.Frag)(e:Nat):Sp:=fun vs H Q _=>∃(a t r:Addr)(ns:List Int)(c:Int)(deep:Nat),vs=[.ref a,.ref t,.int (deep:Nat)]/\deep<e/\deep<=2/\Bag K H a t r ns c/\c+cb deep<90000/\∀(v:V)(H':Hp)(its:List (Bool × Ly))(c':Int),Bag K H' a t r ns c'->c'<=c+cb deep->Apart t r H H'->Deep H' v (.tup (dvL its))->Good deep its->Q v H'
theorem Wu(F:Fun K "_law_a_layout" "_law_a_layout" JS f fd):FnOk P w K mg base (CXE P w) 4 f fd ["_law_script","_law_town","_law_deep"] (WO K 0):=by
 refine zF F Qx (fun vs H Q E h=>?_) (fun cdv A outer s H vs Q E hr h=>?_)
 ·obtain⟨a,t,r,ns,c,deep,rfl,_⟩:=h;rfl
 ·obtain⟨a,t,r,ns,c,deep,rfl,hd,_⟩:=h;exact absurd hd (Nat.not_lt_zero _)
structure LaySt(K:PySem.W.Frag)(H0 H:Hp)(a t r:Addr)(ns:List Int)(c:Int)(fv:V)(its:List (Bool × Ly))(deep:Nat):Prop where
 B:Bag K H a t r ns c
 A:Apart t r H0 H
 D:Deep H fv (.tup (dvL its))
 P:PB its
 G:∀x∈its,kc deep x.2
theorem vK{H0 H:Hp}{a t r:Addr}{ns:List Int}{c:Int}{fv:V}{its:List (Bool × Ly)}{deep:Nat}{σ:L2.St}{E:XK}{Q:VK}{nm:Str}(L:LaySt K H0 H a t r ns c fv its deep)(h0:σ[0]? =some (some (.ref a)))(h1:σ[1]? =some (some (.ref t)))(h8:σ[8]? =some (some (.str nm)))(hc:c<99000)(k:∀(p:Nat)(iv:V)(H':Hp),LaySt K H0 H' a t r ns (c+1) fv its deep->Deep H' iv (Ly.box nm p).dv->Q iv H'):
  Qdb (Jn (tC (.str "box")) (Jn (Kt 8) (Jn (tOp Qcv (Qdc (Jn (tC (.str "9(3)")) (Jn (tC (.str "S99V9")) (Jn (tC (.str "X(4)")) (Jn (tC (.str "AA")) (Jn (tC (.str "Z9.9")) (Jn (tC (.str "X")) WV))))))) (V8 (WG K) [] E (Jn (Kt 0) (Jn (Kt 1) (Jn (tC (.int 6)) WV))))) WV))) σ H Q:=by
 have hz:1000<=sizeLine:=by decide
 refine⟨_,h8,?_⟩;refine L.B.Qe8 (ds:=six) h0 h1 (Wp (Wp (Wp (Wp (Wp (Wp Qcw)))))) rfl (by decide) (by decide) (by omega) fun d x dv H1 hdv Dx B1 A1=>⟨sL3,fun p hp=>?_⟩;obtain rfl:=Qd9 hdv;obtain rfl:=Dx.z6;have S:=Qo.new (o:=.tup [.str "box",.str nm,.str (YG d)]) hp;refine k d _ _ ⟨B1.same S,(L.A.trans A1).trans (Apart.of S),(L.D.keep (L.B.WK A1)).same S,L.P,L.G⟩ ?_;rw[Ly.dv];exact .tup Qd (.cons .str (.cons .str (.cons .str .nil)))
theorem vL{deep:Nat}{its:List (Bool × Ly)}(hd:deep<=2)(h:∀x∈its,kc deep x.2):(Dv.tup (dvL its)).depth<=16:=by
 have h1:dpL its<=2:=xh fun x hx=>by
  obtain⟨_,_,_,b4⟩:=xj deep hd (h x hx);omega
 have:=ZD (QaO its);omega
set_option maxHeartbeats 4000000 in
theorem Zh(e:Nat)(F:Fun K "_law_a_layout" "_law_a_layout" JS f fd)(O:Own mg)(hG:Def P w K mg base 1 "_law_draw" ["_law_script","_law_town","_law_many"] (WG K))(gT:Def P w K mg base 4 "_law_item_size" ["_law_item"] (jh 3))(gK:Def P w K mg base (e+4) "_law_a_layout" ["_law_script","_law_town","_law_deep"] (WO K e)):FnOk P w K mg base (CXE P w) (e+5) f fd ["_law_script","_law_town","_law_deep"] (WO K (e+1)):=by
 refine zF F Qx (fun vs H Q E h=>?_) (fun cdv A outer s H vs Q E hr h=>?_)
 ·obtain⟨a,t,r,ns,c,deep,rfl,_⟩:=h;rfl
 ·obtain⟨a,t,r,ns,c,deep,rfl,hde,hd2,B0,hc,k⟩:=h;have hz:100000<=sizeLine:=by rw[sizeLine_eq];decide
  have hcb:20<=cb deep:=by
   cases deep with
   |zero=>exact Int.le_refl _
   |succ d=>
    have:∀d,20<=cb d:=by
     intro d
     induction d with
     |zero=>exact Int.le_refl _
     |succ d ih=>show 20<=4*cb d+20;omega
    exact this _
  refine⟨_,(Qz (PSy.mk (Q0 (QI (QB (QI Qb) (QB Qg (QB Qk Qb)))) (QN rfl (Qh (Qi (i:=3) Qx.nd rfl (Or.inl rfl)) (Qh (Qi (i:=4) Qx.nd rfl (Or.inl rfl)) (Qh (Qi (i:=5) Qx.nd rfl (Or.inl rfl)) QA))))))
   (Qz (vq PassesOwn.never rfl (Xw rfl O.range (QB (QC Jd Qg (hG.pe hr (by omega) rfl Qp (QB (pv 0) (QB (pv 1) (QB Qg Qb))))) Qb)) (Qi (i:=6) Qx.nd rfl (Or.inl rfl)) (Qz (PSy.mk (U7 (i:=7) (j:=8) rfl Qx.nd rfl rfl (by decide) rfl rfl (QB (hG.pe hr (by omega) rfl Qp (QB (pv 0) (QB (pv 1) (QB Qg Qb)))) (QB (Qw XA (pv 5) (pv 6) (fun _ _=>rfl)) Qb)) rfl))
   (Qz (VY (PW.pt (Z3 (Qj Jc (pv 2) Qg (Qm _)) (J7 (Qj Kw (pv 7) Qg (Qm _))))) (QJ (Jq (i:=9) Qx.nd rfl (Or.inl rfl) (Xl (JU (PEx.mk Qk) (JU (PEx.mk (pv 8)) (JU (QaD (Wa (Wa (Wa (Wa (Wa (Wa Jy)))))) (PEx.mk (hG.pe hr (by omega) rfl Qp (QB (pv 0) (QB (pv 1) (QB Qg Qb))))) (fun _ _=>rfl)) Jy rfl) rfl) rfl)) rfl rfl)) (QJ (VY (Qj Kw (pv 7) Qg (Qm _)) (QJ (Jq (i:=9) Qx.nd rfl (Or.inl rfl) (Xl (JU (PEx.mk Qk) (JU (PEx.mk (pv 8)) (JU (PEx.mk (gK.pe hr (by omega) rfl Qp (QB (pv 0) (QB (pv 1) (QB (QC Vg (pv 2) Qg) Qb))))) Jy rfl) rfl) rfl)) rfl rfl)) (QJ (Jq (i:=9) Qx.nd rfl (Or.inl rfl) (Xl (JU (PEx.mk Qk) (JU (PEx.mk (pv 8)) (JU (vt Jd (PEx.mk Qg) (PEx.mk (hG.pe hr (by omega) rfl Qp (QB (pv 0) (QB (pv 1) (QB Qg Qb)))))) (JU (PEx.mk (gK.pe hr (by omega) rfl Qp (QB (pv 0) (QB (pv 1) (QB (QC Vg (pv 2) Qg) Qb))))) Jy rfl) rfl) rfl) rfl)) rfl rfl)))))
   (Qz (Jq (i:=10) Qx.nd rfl (Or.inl rfl) (PEx.mk (gT.pe hr (by omega) rfl Qp (QB (pv 9) Qb))) rfl rfl)
   (QJ (VY (PW.pt (Zi (Qj (vh (n:=16) (vz hr)) (pv 3) (QI Qb) (Qm _)) (Zi (Qj Jc (hG.pe hr (by omega) rfl Qp (QB (pv 0) (QB (pv 1) (QB Qg Qb)))) Qg (Qm _)) (JX (Qj Qc8 (pv 10) (pv 4) (Qm _)))))) (QJ (Jq (i:=3) Qx.nd rfl (Or.inl rfl) (vt VX (PEx.mk (pv 3)) (Xl (JU (Xl (JU (PEx.mk Qk) (JU (PEx.mk (pv 9)) Jy rfl) rfl)) Jy rfl))) rfl rfl)) (QJ (PSy.mk (U7 (i:=3) (j:=4) rfl Qx.nd rfl rfl (by decide) rfl rfl (QB (QC VX (pv 3) (QI (QB (pv 9) Qb))) (QB (pv 10) Qb)) rfl)))))))) (fun _=>rfl))
   (QJ (Jg (PEx.mk (pv 3)))))),?_⟩
  refine⟨sL0,fun p0 hp0=>⟨sL3,fun p1 hp1=>?_⟩⟩;refine⟨p1,_,rfl,.inl (.inl Qd),rfl,_,_,rfl,_,_,rfl,_,_,rfl,rfl,?_⟩;have S0:=Qo.new (o:=.tup []) hp0;have S01:=Qo.new (o:=.tup [.ref p0,.int 0,.str "abcdef"]) hp1;have L0:LaySt K H (upd (upd H p0 (.tup [])) p1 (.tup [.ref p0,.int 0,.str "abcdef"])) a t r ns c (.ref p0) [] deep:=⟨B0.same (S0.trans S01),Apart.of (S0.trans S01),(Deep.tup Qd (by rw[dvL];exact .nil)).same S01,⟨tK _,fun j x h=>by simp at h,fun x h=>by simp at h,fun j y h=>by simp at h⟩,fun x hx=>nomatch hx⟩;generalize upd (upd H p0 (.tup [])) p1 (.tup [.ref p0,.int 0,.str "abcdef"])=H1 at L0;clear S0 S01 hp0 hp1;dsimp only[QV,Z2,Xu,Js];refine L0.B.draw rfl rfl (fun R h=>h) (by decide) (by decide) (by omega) fun n4 H2 hn4 B2 A2=>?_;have L2':LaySt K H H2 a t r ns (c+1) (.ref p0) [] deep:=⟨B2,L0.A.trans A2,L0.D.keep (L0.B.WK A2),L0.P,L0.G⟩;clear L0 B2 A2;refine⟨_,_,rfl,rfl,_,rfl,by omega,by omega,?_⟩;have en:(1+((n4:Nat):Int)).toNat=n4+1:=by omega
  rw[en];refine Wn (Qe5 (lo:=0) (n:=n4+1)) (fun i σ H3=>∃(fv:V)(its:List (Bool × Ly))(c3:Int)(y6 y7 y8 y9 y10:Option V),σ=[some (.ref a),some (.ref t),some (.int (deep:Nat)),some fv,some (.int (Z0 its:Nat)),some (.str "abcdef"),y6,y7,y8,y9,y10]/\LaySt K H H3 a t r ns c3 fv its deep/\its.length=i/\c3<=c+1+i*((cb deep-1)/4)) ⟨.ref p0,[],c+1,none,none,none,none,none,by rw[kg];rfl,L2',rfl,by omega⟩ ?_ ?_ ?_
  ·intro i σ H3 _ _;trivial
  ·rintro i v σ H30 H3 hi ⟨fv,its,c3,y6,y7,y8,y9,y10,rfl,L3,hli,hc3⟩ ⟨rfl,rfl⟩;have hi4:i<4:=by omega
   have per:∃q:Int,(cb deep-1)/4=q/\4<=q/\∀d,deep=d+1->q=cb d+4:=by
    refine⟨_,rfl,by omega,fun d hd=>?_⟩;subst hd;show(4*cb d+20-1)/4=cb d+4;omega
   obtain⟨q,hq,hq4,hqd⟩:=per;rw[hq]at hc3 ⊢;have hiq:((i:Nat):Int)*q<=3*q:=Int.mul_le_mul_of_nonneg_right (by omega) (by omega);have h4q:4*q<=cb deep-1:=by omega
   dsimp only[QV,Z2,Js];refine xk (L3.B.draw rfl rfl (fun R h=>h) (by decide) (by decide) (by omega) fun tn H4 htn B4 A4=>?_);have L4:LaySt K H H4 a t r ns (c3+1) fv its deep:=⟨B4,L3.A.trans A4,L3.D.keep (L3.B.WK A4),L3.P,L3.G⟩;clear L3 B4 A4;refine⟨_,rfl,_,rfl,"abcdef",_,_,rfl,rfl,by decide+kernel,QcH i hi4,?_⟩;refine⟨_,_,rfl,?_⟩;have hlt:(⟨#[97+i]⟩:Str)=UQ i:=rfl;rw[hlt];dsimp only;refine Qfc (fun σ' H6=>∃(y:Ly)(iv:V)(c6:Int),σ'=[some (.ref a),some (.ref t),some (.int (deep:Nat)),some fv,some (.int (Z0 its:Nat)),some (.str "abcdef"),some (.int (0+(i:Int))),some (.int (tn:Nat)),some (.str (UQ i)),some iv,y10]/\LaySt K H H6 a t r ns c6 fv its deep/\Deep H6 iv y.dv/\kc deep y/\y.name=UQ i/\c6<=c3+q-1) ?_ (fun rest=>?_);rotate_left
   ·refine⟨_,rfl,rfl,_,rfl,?_⟩;refine ifB (fun z=>?_) (fun z=>?_)
    ·have gy:∀p,kc deep (.box (UQ i) p):=fun p=>by
      cases deep with
      |zero=>exact⟨_,_,rfl⟩
      |succ d=>exact .inl ⟨_,_,rfl⟩
     refine QY ?_;exact vK L4 rfl rfl rfl (by omega) fun p iv H5 L5 D5=>rest _ _ ⟨.box (UQ i) p,iv,_,rfl,L5,D5,gy p,rfl,by omega⟩
    have hdz:deep≠0:=fun e=>by rw[e]at z;exact absurd z (by decide)
    obtain⟨d,rfl⟩:∃d,deep=d+1:=⟨deep-1,by omega⟩;have hqd':=hqd d rfl;refine⟨_,rfl,_,_,rfl,rfl,_,rfl,?_⟩;refine ifB (fun z3=>?_) (fun z3=>?_)
    ·exact vK L4 rfl rfl rfl (by omega) fun p iv H5 L5 D5=>rest _ _ ⟨.box (UQ i) p,iv,_,rfl,L5,D5,.inl ⟨_,_,rfl⟩,rfl,by omega⟩
    have ed:(((d+1:Nat):Nat):Int)-1=((d:Nat):Int):=by omega
    refine⟨_,rfl,_,_,rfl,rfl,_,rfl,?_⟩;refine ifB (fun z5=>?_) (fun z5=>?_)
    ·refine⟨_,rfl,_,rfl,_,rfl,_,rfl,_,_,rfl,rfl,a,t,r,ns,c3+1,d,by dsimp only;rw[ed];rfl,by omega,by omega,L4.B,by omega,fun v5 H5 in_ c5 B5 hc5 A5 D5 G5=>⟨sL3,fun p6 hp6=>?_⟩⟩;have S6:=Qo.new (o:=.tup [.str "group",.str (UQ i),v5]) hp6;have L5:LaySt K H H5 a t r ns c5 fv its (d+1):=⟨B5,L4.A.trans A5,L4.D.keep (L4.B.WK A5),L4.P,L4.G⟩;refine rest _ _ ⟨.grp (UQ i) in_,.ref p6,c5,rfl,⟨L5.B.same S6,L5.A.trans (Apart.of S6),L5.D.same S6,L5.P,L5.G⟩,?_,.inr (.inl ⟨_,_,rfl,G5⟩),rfl,by omega⟩;rw[Ly.dv];exact .tup Qd (.cons .str (.cons .str (.cons (D5.same S6) .nil)))
    ·refine⟨_,rfl,?_⟩;refine L4.B.draw rfl rfl (fun R h=>h) (by decide) (by decide) (by omega) fun kd H5 hkd B5 A5=>?_;have L5:LaySt K H H5 a t r ns (c3+1+1) fv its (d+1):=⟨B5,L4.A.trans A5,L4.D.keep (L4.B.WK A5),L4.P,L4.G⟩;refine⟨_,_,rfl,rfl,?_⟩;have ek:(1:Int)+((kd:Nat):Int)=((kd+1:Nat):Int):=by omega
     dsimp only;rw[ek];refine⟨_,rfl,_,rfl,_,rfl,_,_,rfl,rfl,a,t,r,ns,c3+1+1,d,by dsimp only;rw[ed];rfl,by omega,by omega,L5.B,by omega,fun v6 H6 in_ c6 B6 hc6 A6 D6 G6=>⟨sL4,fun p7 hp7=>?_⟩⟩;have S7:=Qo.new (o:=.tup [.str "table",.str (UQ i),.int (kd+1:Nat),v6]) hp7;have L6:LaySt K H H6 a t r ns c6 fv its (d+1):=⟨B6,L5.A.trans A6,L5.D.keep (L5.B.WK A6),L5.P,L5.G⟩;refine rest _ _ ⟨.tab (UQ i) (kd+1) in_,.ref p7,c6,rfl,⟨L6.B.same S7,L6.A.trans (Apart.of S7),L6.D.same S7,L6.P,L6.G⟩,?_,.inr (.inr ⟨_,_,_,rfl,by omega,by omega,G6⟩),rfl,by omega⟩;rw[Ly.dv];exact .tup Qd (.cons .str (.cons .str (.cons .int (.cons (D6.same S7) .nil))))
   rintro σ6 H6 ⟨y,iv,c6,rfl,L6,Dy,Gy,hyn,hc6⟩;obtain⟨b1,b2,b3,b4⟩:=xj deep hd2 Gy;refine⟨_,rfl,iv,(false,y),rfl,by rw[dvI,if_neg (by decide)];exact Dy,by show y.dp<3;omega,by show y.cn<=10000;omega,b3,fun H7 S7=>?_⟩;have esz:szI (false,y)=y.sz:=by rw[szI,if_neg (by decide)]
   rw[esz];have L7:LaySt K H H7 a t r ns c6 fv its deep:=⟨L6.B.same S7,L6.A.trans (Apart.of S7),L6.D.same S7,L6.P,L6.G⟩;have Dy7:=Dy.same S7;clear L6 Dy;obtain⟨fa,fx,rfl,gf,tf⟩:=Deep.VW L7.D;have lfx:=tf.length;rw[Jh,uN]at lfx;have plain:∀H8 c8,LaySt K H H8 a t r ns c8 (.ref fa) its deep->Deep H8 iv y.dv->c8<=c6+1->∀De:Ends,(∀σ' H',(∃(fv:V)(its:List (Bool × Ly))(c3:Int)(y6 y7 y8 y9 y10:Option V),σ'=[some (.ref a),some (.ref t),some (.int (deep:Nat)),some fv,some (.int (Z0 its:Nat)),some (.str "abcdef"),y6,y7,y8,y9,y10]/\LaySt K H H' a t r ns c3 fv its deep/\its.length=i+1/\c3<=c+1+((i+1:Nat):Int)*q)->De.nx σ' H')->Qev 3 4 (Jn (tOp Qcs (Kt 3) (Qdb (Jn (Kt 9) WV))) (Jn (Kt 10) WV)) De [some (.ref a),some (.ref t),some (.int (deep:Nat)),some (.ref fa),some (.int (Z0 its:Nat)),some (.str "abcdef"),some (.int (0+(i:Int))),some (.int (tn:Nat)),some (.str (UQ i)),some iv,some (.int (y.sz:Nat))] H8:=by
    intro H8 c8 L8 D8 hc8 De hnx;obtain⟨fa',fx',e',gf8,tf8⟩:=Deep.VW L8.D;cases e';have l8:=tf8.length;rw[Jh,uN]at l8;refine xk ⟨_,rfl,_,rfl,sL1,fun p9 hp9=>?_⟩;have S9:=Qo.new (o:=.tup [iv]) hp9;refine vH (S9 _ _ gf8) Qd (tf8.same S9) (.cons (D8.same S9) .nil) (by show fx'.length+1<=sizeLine;omega) fun u10 H10 S10 D10=>?_;refine⟨_,rfl,_,_,rfl,?_⟩;have S810:=S9.trans S10;refine hnx _ _ ⟨u10,its++[(false,y)],c8,_,_,_,_,_,by rw[ke];rfl,⟨L8.B.same S810,L8.A.trans (Apart.of S810),?_,L8.P.add (by omega) (by rw[hyn,hli]),?_⟩,by rw[uM,uS,hli],?_⟩
    ·rw[Jh,tm, ←Jh];have:[(false,y)].map dvI=[y.dv]:=by rw[tH,List.map_nil,dvI,if_neg (by decide)]
     rw[this];exact D10
    ·intro x hx;rcases List.mem_append.mp hx with hx|hx
     ·exact L8.G x hx
     ·rw[List.mem_singleton.mp hx];exact Gy
    ·have:((i+1:Nat):Int)*q=((i:Nat):Int)*q+q:=by push_cast;rw[Int.add_mul,Int.one_mul]
     omega
   dsimp only[QV,Z2,Xu,Js];refine⟨_,rfl,?_⟩;refine QaN L7.D (vL hd2 L7.G) fun H8 b8 S8 hb8=>?_;have L8:LaySt K H H8 a t r ns c6 (.ref fa) its deep:=⟨L7.B.same S8,L7.A.trans (Apart.of S8),L7.D.same S8,L7.P,L7.G⟩;refine ifB (fun z=>?_) (fun z=>?_);rotate_left
   ·exact plain H8 c6 L8 (Dy7.same S8) (by omega) _ (fun _ _ h=>h)
   have hne:=hb8.mp z;refine L8.B.draw rfl rfl (fun R h=>h) (by decide) (by decide) (by omega) fun d9 H9 hd9 B9 A9=>?_;have L9:LaySt K H H9 a t r ns (c6+1) (.ref fa) its deep:=⟨B9,L8.A.trans A9,L8.D.keep (L8.B.WK A9),L8.P,L8.G⟩;have Dy9:=(Dy7.same S8).keep (L8.B.WK A9);refine⟨rfl,_,rfl,?_⟩;refine ifB (fun z2=>?_) (fun z2=>?_);rotate_left
   ·exact plain H9 (c6+1) L9 Dy9 (by omega) _ (fun _ _ h=>h)
   refine⟨_,rfl,_,rfl,_,_,rfl,rfl,_,rfl,?_⟩;refine ifB (fun z3=>?_) (fun z3=>?_);rotate_left
   ·exact plain H9 (c6+1) L9 Dy9 (by omega) _ (fun _ _ h=>h)
   have z3:=of_decide_eq_true z3;obtain⟨fa',fx',e',gf9,tf9⟩:=Deep.VW L9.D;cases e';have l9:=tf9.length;rw[Jh,uN]at l9;refine⟨_,rfl,_,rfl,sL2,fun p10 hp10=>⟨sL1,fun p11 hp11=>?_⟩⟩;have S10:=Qo.new (o:=.tup [.str "over",iv]) hp10;have S11:=Qo.new (o:=.tup [.ref p10]) hp11;have D11:Deep (upd (upd H9 p10 (.tup [.str "over",iv])) p11 (.tup [.ref p10])) (.ref p10) (.tup [.str "over",y.dv]):=(Deep.tup Qd (.cons .str (.cons (Dy9.same S10) .nil))).same S11;refine vH ((S10.trans S11) _ _ gf9) Qd (tf9.same (S10.trans S11)) (.cons D11 .nil) (by show fx'.length+1<=sizeLine;omega) fun u12 H12 S12 D12=>?_;have S912:=(S10.trans S11).trans S12;refine⟨u12,its++[(true,y)],c6+1,_,_,_,_,_,by rw[zh hne];rfl,⟨L9.B.same S912,L9.A.trans (Apart.of S912),?_,L9.P.Qga hne (by omega) (by rw[hyn,hli]) (by omega),?_⟩,by rw[uM,uS,hli],?_⟩
   ·rw[Jh,tm, ←Jh];have:[(true,y)].map dvI=[.tup [.str "over",y.dv]]:=by rw[tH,List.map_nil,dvI,if_pos rfl]
    rw[this];exact D12
   ·intro x hx;rcases List.mem_append.mp hx with hx|hx
    ·exact L9.G x hx
    ·rw[List.mem_singleton.mp hx];exact Gy
   ·have:((i+1:Nat):Int)*q=((i:Nat):Int)*q+q:=by push_cast;rw[Int.add_mul,Int.one_mul]
    omega
  ·rintro σ H3 ⟨fv,its,c3,y6,y7,y8,y9,y10,rfl,L3,hli,hc3⟩;refine⟨_,rfl,k _ _ its c3 L3.B ?_ L3.A L3.D ((UR _ _).mpr ⟨fun z=>by rw[z]at hli;simp at hli,L3.P,L3.G⟩)⟩;have:n4=0\/n4=1\/n4=2\/n4=3:=by omega
   rcases this with rfl|rfl|rfl|rfl<;>(push_cast at hc3;omega)
end
theorem QaP{i j:Nat}(h:UQ i=UQ j):i=j:=by
 have h1:(UQ i).cps=(UQ j).cps:=by rw[h]
 have h2:(#[97+i]:Array Nat)= #[97+j]:=h1;have h3:[97+i]=[97+j]:=congrArg Array.toList h2;have:=(List.cons.inj h3).1;omega
theorem PB.ati{its:List (Bool × Ly)}(h:PB its){j:Nat}{o:Bool}{y:Ly}{st:Step}{n:Nat}(e:its[j]? =some (o,y))(hs:st.1=UQ j)(ha:UL y st.2=some n):AtI its st j o y n:=by
 refine⟨e,by rw[hs];exact h.nm j (o,y) e,fun i x hi hx z=>?_,ha⟩;rw[h.nm i x hx,hs]at z;have:=QaP z;omega
theorem Kr:∀a b:List (Bool × Ly),szL (a++b)=szL a+szL b
 |[],b=>by rw[tE,szL];omega
 |x::a,b=>by rw[tD,szL,szL,Kr a b];omega
theorem Res.ne'{its:List (Bool × Ly)}{ss:List Step}{n:Nat}{y:Ly}(h:Res its ss n y):∃s2 t2,ss=s2::t2:=by
 cases ss with
 |nil=>exact absurd rfl h.ne
 |cons a b=>exact⟨a,b,rfl⟩
structure Lead(its:List (Bool × Ly))(ss:List Step)(n:Nat)(nm:Str)(p:Nat):Prop where
 r:Res its ss n (.box nm p)
 e:n+szP p<=szL its
 w:∀k,1<=k->k<ss.length->∃m z,Res its (ss.take k) m z/\vG z=.non/\m<=n/\n+szP p<=m+je z
theorem xm{its:List (Bool × Ly)}(h0:∀x,its[0]? =some x->x.1=false):∀{j:Nat},j<its.length->(its.getD (under its j) dfI).1=false
 |0,hj=>by
  rw[under,List.getD_eq_getElem?_getD,List.getElem?_eq_getElem hj];exact h0 _ (List.getElem?_eq_getElem hj)
 |j+1,hj=>by
  rw[under]
  split
  ·exact xm h0 (by omega)
  ·rename_i h;simpa using h
theorem vM{its:List (Bool × Ly)}{j:Nat}{y:Ly}(h:its[j]? =some (false,y)):szL (its.take j)+y.sz<=szL its:=by
 have hl:=(List.getElem?_eq_some_iff.mp h).1;have e:its=its.take j++(false,y)::its.drop (j+1):=by
  have:=List.take_append_drop j its;rw[List.drop_eq_getElem_cons hl,(List.getElem?_eq_some_iff.mp h).2]at this;exact this.symm
 have e2:szL its=szL (its.take j)+(szI (false,y)+szL (its.drop (j+1))):=by
  conv=>lhs;rw[e]
  rw[Kr,szL]
 rw[szI,if_neg (by decide)]at e2;omega
theorem PB.room{its:List (Bool × Ly)}(hp:PB its){j:Nat}{o:Bool}{y:Ly}(h:its[j]? =some (o,y)):szL (its.take (under its j))+y.sz<=szL its:=by
 have hl:=(List.getElem?_eq_some_iff.mp h).1;have hul:=X4 its j;have hun:=xm hp.first hl;have hu2:its[under its j]? =some (false,(its.getD (under its j) dfI).2):=by
  rw[List.getD_eq_getElem?_getD]at hun ⊢;rw[List.getElem?_eq_getElem (by omega:under its j<its.length)]at hun ⊢;have hun:its[under its j].1=false:=hun;show some its[under its j]=some (false,its[under its j].2);rw[←hun]
 have hc:=vM hu2;cases o with
 |true=>have:=hp.ov j y h;omega
 |false=>
  have e:under its j=j:=by rw[ZZ,List.getD_eq_getElem?_getD,h];rfl
  rw[e];exact vM h
theorem vN{its in_:List (Bool × Ly)}{j n0 n:Nat}{st:Step}{o:Bool}{y:Ly}{ss:List Step}{nm:Str}{p:Nat}(hA:AtI its st j o y n0)(hyz:je y=szL in_)(hyp:vG y=.non)(hroom:szL (its.take (under its j))+n0+szL in_<=szL its)(hin:∀ss m z,Res in_ ss m z->Res its (st::ss) (szL (its.take (under its j))+n0+m) z) (L:Lead in_ ss n nm p):Lead its (st::ss) (szL (its.take (under its j))+n0+n) nm p:=by
 have hle:=L.e;refine⟨hin _ _ _ L.r,by omega,fun k hk1 hk2=>?_⟩
 by_cases ek:k=1
 ·subst ek;refine⟨_,y,?_,hyp,Nat.le_add_right _ n,by rw[hyz];omega⟩;rw[List.take_succ_cons,List.take_zero];exact Res.one hA
 ·obtain⟨k',rfl⟩:∃k',k=k'+1:=⟨k-1,by omega⟩;rw[uT]at hk2;obtain⟨m,z,r,hz,h1,h2⟩:=L.w k' (by omega) (by omega);refine⟨_,z,?_,hz,Nat.add_le_add_left h1 _,by omega⟩;rw[List.take_succ_cons];exact hin _ _ _ r
theorem QcI:∀(d:Nat)(its:List (Bool × Ly)),Good d its->∀(pre path:List Step),path∈bxL its pre->∃ss n nm p,path=pre++ss/\Lead its ss n nm p/\ss.length<=d+1:=by
 have split:∀(its:List (Bool × Ly))(pre path:List Step),path∈bxL its pre->∃(j:Nat)(o:Bool)(y:Ly),its[j]? =some (o,y)/\path∈y.bx pre:=by
  intro its pre path h
  induction its with
  |nil=>rw[bxL]at h;cases h
  |cons x xs ih=>
   rw[bxL]at h;rcases List.mem_append.mp h with h|h
   ·obtain⟨o,y⟩:=x;rw[bxI]at h;exact⟨0,o,y,rfl,h⟩
   ·obtain⟨j,o,y,e,hm⟩:=ih h;exact⟨j+1,o,y,by rw[List.getElem?_cons_succ];exact e,hm⟩
 have boxc:∀(its:List (Bool × Ly)),PB its->∀(j:Nat)(o:Bool)(nm:Str)(p:Nat)(pre path:List Step),its[j]? =some (o,Ly.box nm p)->path∈(Ly.box nm p).bx pre->∃ss n nm' p',path=pre++ss/\Lead its ss n nm' p'/\ss.length<=1:=by
  intro its hp j o nm p pre path ej hm;rw[Ly.bx]at hm;have hr:=hp.room ej;rw[Ly.sz]at hr;refine⟨[(nm,none)],_,nm,p,List.mem_singleton.mp hm,⟨Res.one (hp.ati (st:=(nm,none)) ej (hp.nm _ _ ej) rfl),by omega,fun k h1 h2=>?_⟩,uQ _⟩;rw[uS]at h2;omega
 intro d
 induction d with
 |zero=>
  intro its hg pre path h;obtain⟨-,hp,hx⟩:=(UR 0 its).mp hg;obtain⟨j,o,y,ej,hm⟩:=split its pre path h;obtain⟨nm,p,rfl⟩:∃nm p,y=.box nm p:=hx (o,y) (u6 ej);exact boxc its hp j o nm p pre path ej hm
 |succ d IH=>
  intro its hg pre path h;obtain⟨-,hp,hx⟩:=(UR (d+1) its).mp hg;obtain⟨j,o,y,ej,hm⟩:=split its pre path h;have hnm:=hp.nm _ _ ej;have hr:=hp.room ej;rcases hx (o,y) (u6 ej)with⟨nm,p,e2⟩|⟨nm,in_,e2,hgi⟩|⟨nm,k,in_,e2,hk1,hk3,hgi⟩
  ·have e2:y=.box nm p:=e2;subst e2;obtain⟨ss,n,nm',p',e,L,hl⟩:=boxc its hp j o nm p pre path ej hm;exact⟨ss,n,nm',p',e,L,by omega⟩
  ·have e2:y=.grp nm in_:=e2;subst e2;rw[Ly.bx]at hm;rw[Ly.sz]at hr;obtain⟨ss,n,nm',p',e,L,hl⟩:=IH in_ hgi _ _ hm;have hA:=hp.ati (st:=(nm,none)) ej hnm rfl;refine⟨(nm,none)::ss,_,nm',p',by rw[e,tq];rfl,vN hA rfl rfl (by omega) (fun ss m z r=>?_) L,by rw[uT];omega⟩;obtain⟨s2,t2,rfl⟩:=r.ne';exact Res.grp hA r
  ·have e2:y=.tab nm k in_:=e2;subst e2;rw[Ly.bx]at hm;rw[Ly.sz]at hr;obtain⟨i,hi,hm⟩:=List.mem_flatMap.mp hm;have hi:=List.mem_range.mp hi;obtain⟨ss,n,nm',p',e,L,hl⟩:=IH in_ hgi _ _ hm;have ha:UL (.tab nm k in_) (some i)=some (i*szL in_):=by
    show(if i<k then some (i*szL in_)else none)=_;rw[if_pos hi]
   have hA:=hp.ati (st:=(nm,some i)) ej hnm ha;have hmul:i*szL in_+szL in_<=szL in_*k:=by
    rw[←Nat.succ_mul,Nat.mul_comm];exact Nat.mul_le_mul_left _ hi
   refine⟨(nm,some i)::ss,_,nm',p',by rw[e,tq];rfl,vN hA rfl rfl (by omega) (fun ss m z r=>?_) L,by rw[uT];omega⟩;obtain⟨s2,t2,rfl⟩:=r.ne';exact Res.tab hA r
end Lw
namespace L2
open PySem PySem.Spec PyProof.Rows
structure PTx(X:Cx)(e:Expr)(t:TT):Prop where
 pt:PT X e t
section
variable {X:Cx}{E:XK}{o e f a b c:Expr}{es rest:List Expr}{ks:List Keyword}{pos p apos cpos:Pos}{te ta tb to:TE}{t1 t2:TT}{t:TA}{k k':Nat}{x:Str}{ps:List Str}{sp:Sp}{T id:String}{name:Str}{r:V->List V->Hp->VK->Prop}
theorem Wv{s1 s2:List Stmt}{u1 u2:TS}(hc:PTx X c t1)(ha:PSx X s1 u1)(hb:PSx X s2 u2):PSy X (.If c s1 s2 pos) (Qeg t1 u1 u2):=⟨QM hc.pt ha.ps hb.ps⟩
theorem vO(D:Def X.prog X.w X.K X.mg X.base k x ps sp)(hr:Room k' X.A)(hk:k<=k')(hg:Gl X x)(hx:Passes (CXE X.prog X.w) X E)(ha:PAx X [e,f] t)(h:isStar e=false)(h2:isStar f=false)(hdb:(x==("__debug__":Str))=false):PEx X (.Call (.Name x p) [e,f] [] pos) (V8 sp [] E t):=⟨D.pe hr hk hg hx ha.pa hdb (ZC h) (by rw[ZC h2];rfl)⟩
end
structure DefM(P:Program)(w:World)(K:PySem.W.Frag)(mg:Str->Option Value)(base:Heap)(C:Addr)(k:Nat)(m:Str)(ps:List Str)(sp:Sp):Prop where
 cl:Cls K C
 ex:∃f fd,Meth K C m f/\Binds K fd ps []/\FnOk P w K mg base (CXE P w) k f fd ps sp
structure DefC(P:Program)(w:World)(K:PySem.W.Frag)(mg:Str->Option Value)(base:Heap)(C:Addr)(k:Nat)(x:Str)(ps:List Str)(sp:Sp):Prop where
 mgC:mg x=some (.ref C)
 ex:∃f fd,Mk K C f/\Binds K fd ps []/\FnOk P w K mg base (CXE P w) k f fd ps sp
section
variable {X:Cx}{E:XK}{o e:Expr}{es:List Expr}{ta:TE}{t:TA}{k k':Nat}{x m:Str}{ps:List Str}{sp:Sp}{C:Addr}{pl:Sem Bool}{p pos apos:Pos}
theorem DefM.pe(D:DefM X.prog X.w X.K X.mg X.base C k m ps sp)(hr:Room k' X.A)(hk:k<=k')(hx:Passes (CXE X.prog X.w) X E)(he:PE X o ta)(ha:PA X (e::es) t)
  (hst:starEach (e::es) X.env=(false,eval e X.env)::starEach es X.env:=by rfl) (hpl:(backTo pos (starEach es X.env)).any (·.1)=false:=by rfl)
  (ht:eval (.Call (.Attribute o m apos) (e::es) [] pos) X.env=(do
   let ov←eval o X.env
   standAt apos.atName
   let (f,first)←holding [ov] (getMethod ov m pl)
   callWith pos f first (backTo pos (starEach (e::es) X.env)) (backToKw pos (keywordEach [] X.env))):=by rfl):PE X (.Call (.Attribute o m apos) (e::es) [] pos) (yn C m sp [] E ta t):=by
 obtain⟨f,fd,hm,hb,F⟩:=D.ex;exact Qbo he D.cl hm F (hr.mono hk) hb .nil hx ha hst hpl ht
theorem DefM.pe0(D:DefM X.prog X.w X.K X.mg X.base C k m ps sp)(hr:Room k' X.A)(hk:k<=k')(hx:Passes (CXE X.prog X.w) X E)(he:PE X o ta)
  (ht:eval (.Call (.Attribute o m apos) [] [] pos) X.env=(do
   let ov←eval o X.env
   standAt apos.atName
   let (f,first)←holding [ov] (getMethod ov m pl)
   callWith pos f first (backTo pos (starEach [] X.env)) (backToKw pos (keywordEach [] X.env))):=by rfl):PE X (.Call (.Attribute o m apos) [] [] pos) (yn C m sp [] E ta WV):=by
 obtain⟨f,fd,hm,hb,F⟩:=D.ex;exact yp he D.cl hm F (hr.mono hk) hb .nil hx ht
theorem DefC.pe(D:DefC X.prog X.w X.K X.mg X.base C k x ps sp)(hr:Room k' X.A)(hk:k+1<=k')(hg:Gl X x)(hx:Passes (CXE X.prog X.w) X E)(ha:PA X (e::es) t)(hdb:(x==("__debug__":Str))=false:=by decide)
  (he:starEach (e::es) X.env=(false,eval e X.env)::starEach es X.env:=by rfl) (hpl:(backTo pos (starEach es X.env)).any (·.1)=false:=by rfl):PE X (.Call (.Name x p) (e::es) [] pos) (Qdd C sp [] E t):=by
 obtain⟨f,fd,M,hb,F⟩:=D.ex;exact Qbp M F (hr.mono hk) hg D.mgC hb .nil hx ha hdb he hpl
end
open Builtin in
section
variable {P:Program}{w:World}{K:PySem.W.Frag}{mg:Str->Option Value}{base h:Heap}{x:Str}{st:Stmt}{k:Nat}{sp:Sp}{p1 p2 p3 p4:Str}
theorem DefAt.d0(D:DefAt K x st)(X:K.In h)(G:h.Ns mainGlobals mg)(hok:∀f fd,Fun K x x st f fd->FnOk P w K mg base (CXE P w) k f fd [] sp)
  (hb:∀(kV doc pm:Value)(an:Option Addr)(cdv ct:Value),bindArgs (fnOf x x (Jp st) (Q6 st) (Qe st) .none kV doc pm an cdv ct) ⟨[],[]⟩=pure []):Def P w K mg base k x [] sp:=
 D.def X G hok fun kV doc pm an cdv ct us hl=>match us,hl with|[],_=>hb kV doc pm an cdv ct
theorem DefAt.d1(D:DefAt K x st)(X:K.In h)(G:h.Ns mainGlobals mg)(hok:∀f fd,Fun K x x st f fd->FnOk P w K mg base (CXE P w) k f fd [p1] sp)
  (hb:∀(kV doc pm:Value)(an:Option Addr)(cdv ct:Value)(u1:Value),bindArgs (fnOf x x (Jp st) (Q6 st) (Qe st) .none kV doc pm an cdv ct) ⟨[u1],[]⟩=pure [(p1,u1)]):Def P w K mg base k x [p1] sp:=
 D.def X G hok fun kV doc pm an cdv ct us hl=>match us,hl with|[u1],_=>hb kV doc pm an cdv ct u1
theorem DefAt.d2(D:DefAt K x st)(X:K.In h)(G:h.Ns mainGlobals mg)(hok:∀f fd,Fun K x x st f fd->FnOk P w K mg base (CXE P w) k f fd [p1,p2] sp)
  (hb:∀(kV doc pm:Value)(an:Option Addr)(cdv ct:Value)(u1 u2:Value),bindArgs (fnOf x x (Jp st) (Q6 st) (Qe st) .none kV doc pm an cdv ct) ⟨[u1,u2],[]⟩=pure [(p1,u1),(p2,u2)]):Def P w K mg base k x [p1,p2] sp:=
 D.def X G hok fun kV doc pm an cdv ct us hl=>match us,hl with|[u1,u2],_=>hb kV doc pm an cdv ct u1 u2
theorem DefAt.d3(D:DefAt K x st)(X:K.In h)(G:h.Ns mainGlobals mg)(hok:∀f fd,Fun K x x st f fd->FnOk P w K mg base (CXE P w) k f fd [p1,p2,p3] sp)
  (hb:∀(kV doc pm:Value)(an:Option Addr)(cdv ct:Value)(u1 u2 u3:Value),bindArgs (fnOf x x (Jp st) (Q6 st) (Qe st) .none kV doc pm an cdv ct) ⟨[u1,u2,u3],[]⟩=pure [(p1,u1),(p2,u2),(p3,u3)]):Def P w K mg base k x [p1,p2,p3] sp:=
 D.def X G hok fun kV doc pm an cdv ct us hl=>match us,hl with|[u1,u2,u3],_=>hb kV doc pm an cdv ct u1 u2 u3
theorem DefAt.d4(D:DefAt K x st)(X:K.In h)(G:h.Ns mainGlobals mg)(hok:∀f fd,Fun K x x st f fd->FnOk P w K mg base (CXE P w) k f fd [p1,p2,p3,p4] sp)
  (hb:∀(kV doc pm:Value)(an:Option Addr)(cdv ct:Value)(u1 u2 u3 u4:Value),bindArgs (fnOf x x (Jp st) (Q6 st) (Qe st) .none kV doc pm an cdv ct) ⟨[u1,u2,u3,u4],[]⟩=pure [(p1,u1),(p2,u2),(p3,u3),(p4,u4)]):Def P w K mg base k x [p1,p2,p3,p4] sp:=
 D.def X G hok fun kV doc pm an cdv ct us hl=>match us,hl with|[u1,u2,u3,u4],_=>hb kV doc pm an cdv ct u1 u2 u3 u4
end
structure MethAt(K:PySem.W.Frag)(C:Addr)(m q:Str)(st:Stmt):Prop where
 ex:∃f fd,Meth K C m f/\Fun K m q st f fd
theorem vP{K:PySem.W.Frag}{C:Addr}{m q:Str}{st:Stmt}{f:Addr}{oc:Value}{od an:Option Addr}{osl:Array (Option Value)}{kV doc pm cdv ct:Value}(a:findIn K (.ref C) m=some (some (.ref f)))(i:isFn K (.ref f)=true)
  (l:K.lookup f=some ⟨oc,od,.func (fnOf m q (Jp st) (Q6 st) (Qe st) .none kV doc pm an cdv ct),osl⟩) (c:codeIn K cdv q=true) (k:keepIn K (.ref f)=true):MethAt K C m q st:=
 ⟨f,_,⟨a,i,k⟩,⟨⟨oc,od,kV,doc,pm,an,cdv,ct,osl,rfl,l,c⟩,k⟩⟩
section
variable {P:Program}{w:World}{K:PySem.W.Frag}{mg:Str->Option Value}{base:Heap}{C:Addr}{x m q:Str}{st:Stmt}{k:Nat}{p1 p2:Str}{sp:Sp}
theorem MethAt.dm1(D:MethAt K C m q st)(cl:Cls K C)(hok:∀f fd,Fun K m q st f fd->FnOk P w K mg base (CXE P w) k f fd [p1] sp)
  (hb:∀(kV doc pm:Value)(an:Option Addr)(cdv ct:Value)(u1:Value),bindArgs (fnOf m q (Jp st) (Q6 st) (Qe st) .none kV doc pm an cdv ct) ⟨[u1],[]⟩=pure [(p1,u1)]):DefM P w K mg base C k m [p1] sp:=by
 obtain⟨f,fd,M,F⟩:=D.ex;exact⟨cl,f,fd,M,F.binds (ps:=[p1]) fun kV doc pm an cdv ct us hl=>match us,hl with|[u1],_=>hb kV doc pm an cdv ct u1,hok f fd F⟩
theorem MethAt.dm2(D:MethAt K C m q st)(cl:Cls K C)(hok:∀f fd,Fun K m q st f fd->FnOk P w K mg base (CXE P w) k f fd [p1,p2] sp)
  (hb:∀(kV doc pm:Value)(an:Option Addr)(cdv ct:Value)(u1 u2:Value),bindArgs (fnOf m q (Jp st) (Q6 st) (Qe st) .none kV doc pm an cdv ct) ⟨[u1,u2],[]⟩=pure [(p1,u1),(p2,u2)]):DefM P w K mg base C k m [p1,p2] sp:=by
 obtain⟨f,fd,M,F⟩:=D.ex;exact⟨cl,f,fd,M,F.binds (ps:=[p1,p2]) fun kV doc pm an cdv ct us hl=>match us,hl with|[u1,u2],_=>hb kV doc pm an cdv ct u1 u2,hok f fd F⟩
theorem MethAt.dc2(D:MethAt K C "__init__" q st)(hx:mg x=some (.ref C))(mk:makesIn K C=true)(kp:keepIn K (.ref C)=true)(hok:∀f fd,Fun K "__init__" q st f fd->FnOk P w K mg base (CXE P w) k f fd [p1,p2] sp)
  (hb:∀(kV doc pm:Value)(an:Option Addr)(cdv ct:Value)(u1 u2:Value),bindArgs (fnOf "__init__" q (Jp st) (Q6 st) (Qe st) .none kV doc pm an cdv ct) ⟨[u1,u2],[]⟩=pure [(p1,u1),(p2,u2)]):DefC P w K mg base C k x [p1,p2] sp:=by
 obtain⟨f,fd,M,F⟩:=D.ex;exact⟨hx,f,fd,⟨mk,M.at_,M.fn,kp⟩,F.binds (ps:=[p1,p2]) fun kV doc pm an cdv ct us hl=>match us,hl with|[u1,u2],_=>hb kV doc pm an cdv ct u1 u2,hok f fd F⟩
end
noncomputable def g21{α:Type}:List α->List α->List α
 |[s,a],[b]=>[s,a,b]
 |_,_=>[]
theorem QcJ{vs zs:List V}{us ws:List Value}(r:Vals vs us)(r2:Vals zs ws):Vals (g21 vs zs) (g21 us ws):=by
 cases r with
 |nil=>exact .nil
 |cons s r=>cases r with
  |nil=>exact .nil
  |cons a r=>cases r with
   |nil=>cases r2 with
    |nil=>exact .nil
    |cons b r2=>cases r2 with
     |nil=>exact .cons s (.cons a (.cons b .nil))
     |cons _ _=>exact .nil
   |cons _ _=>exact .nil
theorem QcK{α:Type}{us ws:List α}(h:(g21 us ws).length=3):∃s a b,us=[s,a]/\ws=[b]:=by
 match us,ws,h with
 |[s,a],[b],_=>exact⟨s,a,b,rfl,rfl⟩
structure DefMK(P:Program)(w:World)(K:PySem.W.Frag)(mg:Str->Option Value)(base:Heap)(C:Addr)(k:Nat)(m:Str)(ps ks:List Str)(sp:Sp):Prop where
 cl:Cls K C
 ex:∃f fd,Meth K C m f/\KBinds K fd ps ks g21 g21/\FnOk P w K mg base (CXE P w) k f fd ps sp
noncomputable def Qea(C:Addr)(m:Str)(sp:Sp)(E:XK)(ta:TE)(t tk:TA):TE:=fun σ H Q=>ta σ H fun x H1=>∃a dx fs,x=.ref a/\H1 a=some (.ins C dx fs)/\fs.lookup m=none/\
 t σ H1 fun vs H2=>tk σ H2 fun zs H3=>sp (g21 (.ref a::vs) zs) H3 Q E
section
variable {X:Cx}{E:XK}{o e:Expr}{es:List Expr}{ta:TE}{t tk:TA}{k k':Nat}{m:Str}{ps ks:List Str}{sp:Sp}{C:Addr}{pl:Sem Bool}{pos apos:Pos}{kws:List Keyword}
theorem DefMK.pe(D:DefMK X.prog X.w X.K X.mg X.base C k m ps ks sp)(hr:Room k' X.A)(hk:k<=k')(hx:Passes (CXE X.prog X.w) X E)(he:PE X o ta)(ha:PA X (e::es) t)(hkw:PK X kws tk)
  (hall:(backToKw pos (keywordEach kws X.env)).all (·.1.isSome)=true:=by rfl) (hks:(backToKw pos (keywordEach kws X.env)).filterMap (·.1)=ks:=by rfl)
  (hst:starEach (e::es) X.env=(false,eval e X.env)::starEach es X.env:=by rfl)
  (hpl:((backTo pos (starEach (e::es) X.env)).any (·.1)||(backToKw pos (keywordEach kws X.env)).any (·.1.isNone))=false:=by rfl)
  (ht:eval (.Call (.Attribute o m apos) (e::es) kws pos) X.env=(do
   let ov←eval o X.env
   standAt apos.atName
   let (f,first)←holding [ov] (getMethod ov m pl)
   callWith pos f first (backTo pos (starEach (e::es) X.env)) (backToKw pos (keywordEach kws X.env))):=by rfl):PE X (.Call (.Attribute o m apos) (e::es) kws pos) (Qea C m sp E ta t tk):=by
 obtain⟨f,fd,hm,hb,F⟩:=D.ex;intro pins s σ H Q I h;refine methodCall_KW (pl:=pl) (thn (he pins s σ H _ I h) fun u s1⟨x,H1,I1,rx,a,dx,fs,ex,ea,l,q⟩=>?_) ht;subst ex;obtain rfl:u=Value.ref a:=rx;refine K6 I1 ea D.cl hm l ?_;refine callWith_KW (first:=[.ref a]) (h₀:=X.base) I.ok.mod.kin hm.kp hall (thn (ha pos pins s1 σ H1 _ I1 q) fun us s2⟨vs,H2,I2,r,q2⟩=>?_) hpl hst;refine thn (hkw pos pins s2 σ H2 _ I2 q2) fun ws s3⟨zs,H3,I3,rz,q3⟩=>⟨I3.kIn,?_⟩;rw[hks];exact Qbr (us:=.ref a::us) (vs:=.ref a::vs) F (hr.mono hk) hb hx I3 (.cons rfl r) rz q3
end
section
variable {P:Program}{w:World}{K:PySem.W.Frag}{mg:Str->Option Value}{base:Heap}{C:Addr}{m q:Str}{st:Stmt}{k:Nat}{p1 p2 p3:Str}{sp:Sp}
theorem MethAt.dm3(D:MethAt K C m q st)(cl:Cls K C)(hok:∀f fd,Fun K m q st f fd->FnOk P w K mg base (CXE P w) k f fd [p1,p2,p3] sp)
  (hb:∀(kV doc pm:Value)(an:Option Addr)(cdv ct:Value)(u1 u2 u3:Value),bindArgs (fnOf m q (Jp st) (Q6 st) (Qe st) .none kV doc pm an cdv ct) ⟨[u1,u2,u3],[]⟩=pure [(p1,u1),(p2,u2),(p3,u3)]):DefM P w K mg base C k m [p1,p2,p3] sp:=by
 obtain⟨f,fd,M,F⟩:=D.ex;exact⟨cl,f,fd,M,F.binds (ps:=[p1,p2,p3]) fun kV doc pm an cdv ct us hl=>match us,hl with|[u1,u2,u3],_=>hb kV doc pm an cdv ct u1 u2 u3,hok f fd F⟩
end
open Builtin Builtin.Str
theorem vQ:typeLookup (.type "reversed") "__len__"=pure none:=by rw[typeLookup_type,builtinLookup_eq_fast];kernel_rfl
theorem Xn:Slot "reversed" (Str.ofString "__length_hint__") "reversed.__length_hint__":=Slot.of (owner:="reversed") (n:="__length_hint__") (by rw[typeLookup_type,builtinLookup_eq_fast];kernel_rfl) (by decide+kernel) (by decide+kernel) (by decide+kernel) (Or.inr (by decide+kernel)) F.sub_reversed_self (by decide+kernel)
theorem Yk:entryFor table "reversed.__length_hint__"=some Builtin.«reversed.__length_hint__»:=entryFor_of_tree (by kernel_rfl)
theorem US(a:Value):argsOk "reversed.__length_hint__" {pos:=[a]}:=by first|with_unfolding_all rfl|kernel_rfl
section
variable {prog:Program}{w:World}{A:Around}{E:Value->Shared->Prop}{s:Shared}
theorem UT{it a:Addr}{xs:Array Value}{Q:Value->Shared->Prop}(h:Zm s.heap it a ((xs.size:Int)-1))(hT:IsTup s.heap a xs)(hl:((xs.size:Nat):Int)<2^63)
  (hQ:∀t k,Q (.int (xs.size:Nat) t) {s with toks:=k}):wpAny (model prog w) A (call (.builtin "reversed.__length_hint__") [.ref it]) Q E s:=by
 refine wpAny_call_entry Xn ⟨_,h,rfl⟩ Yk ?_ (US _);show wpAny _ _ (field (.ref it) 0>>=_) _ _ _;refine wpAny_bind (wpAny_field h rfl (x:=.ref a) rfl ?_);refine wpAny_ite_split (fun hab=>Bool.noConfusion hab) (fun _=>?_);refine wpAny_bind (len_tuple hT (by omega) ?_);refine wpAny_bind (m:=asInt? _) (wpAny_pure ?_);refine wpAny_bind (wpAny_field (s:={s with toks:=s.toks+1+1}) h rfl (x:=rawInt ((xs.size:Int)-1)) rfl ?_);refine wpAny_ite_split (fun hab=>absurd hab (by omega)) (fun _=>?_);have e:(xs.size:Int)-1+1=((xs.size:Nat):Int):=by omega
 rw[e];exact wpAny_bind (wpAny_mkInt (wpAny_pure ⟨_,rfl,hQ _ _⟩))
theorem vR{it a:Addr}{xs:Array Value}{Q:Bool->Shared->Prop}(h:Zm s.heap it a ((xs.size:Int)-1))(hT:IsTup s.heap a xs)(hl:xs.size<=sizeLine)
  (hQ:∀b k,Q b {s with toks:=k}):wpAny (model prog w) A (Builtin.List.listLengthHint (.ref it)) Q E s:=by
 have hR:s.TypeIs (.ref it) "reversed":=⟨_,h,rfl⟩;have h63:=ZW;unfold Builtin.List.listLengthHint;refine wpAny_bind (wpAny_specialOf hR vQ ?_);refine wpAny_ite_split (fun hab=>Bool.noConfusion hab) (fun _=>?_);refine wpAny_ite_split (fun hab=>Bool.noConfusion hab) (fun _=>?_);refine wpAny_bind (wpAny_specialOf hR Xn.lookup ?_);generalize hid:("reversed.__length_hint__":String)=id0
 wp_delta
 rw[show splitId id0=some ("reversed","__length_hint__")from by subst hid;decide+kernel];subst hid;refine wpAny_bind (wpAny_isInstance (T:="reversed") (b:=true) hR (by rw[isSubtype_type];kernel_rfl) ?_);refine wpAny_ite_split (fun hab=>absurd hab (by decide)) (fun _=>?_);refine wpAny_ite_split (fun hab=>absurd hab (by decide+kernel)) (fun _=>?_);refine wpAny_bind (wpAny_rule ?_);refine wpAny_bind (wpAny_of_eq (Xn.bind _) ?_);refine wpAny_bind (wpAny_attempt (UT h hT (by omega) fun t k=>?_));dsimp only;have e1:asInt? (Value.int ((xs.size:Nat):Int) t)=pure (some ((xs.size:Nat):Int)):=rfl;have htl:Builtin.List.listTooLong (((xs.size:Nat):Int).toNat)=false:=by
  show decide (_>sizeLine)=false;exact uO (by omega)
 have hfi:Builtin.List.listFitsIndex ((xs.size:Nat):Int)=true:=by
  unfold Builtin.List.listFitsIndex;rw[Bool.and_eq_true];exact⟨uP (by omega),uP (by omega)⟩
 have hn0:¬ ((xs.size:Nat):Int)<0:=by omega
 generalize ((xs.size:Nat):Int)=n at e1 htl hfi hn0 ⊢;refine wpAny_bind (wpAny_of_eq e1 ?_);dsimp only;rw[hfi,htl,if_neg (by decide),if_neg hn0,if_neg (by decide)];exact wpAny_pure (hQ _ _)
noncomputable def xn(xs:Array Value)(i:Nat)(v:Value):Prop:=xs[xs.size-1-i]? =some v
theorem kh(hh:A.handled=none)(I a:Addr)(hne:I≠a)(xs:Array Value)(hl:((xs.size:Nat):Int)<2^63):
  Walks prog w A I [I,a] [I] xs.size (xn xs) (fun i h=>i<=xs.size/\Zm h I a ((xs.size:Int)-1-(i:Int))/\IsTup h a xs) where
 sub:=fun b hb=>by simp at hb;simp[hb]
 frame:=fun i h h' st hk=>⟨st.1,hk I (by simp) _ st.2.1,by obtain⟨o,e,r⟩:=st.2.2;exact⟨o,hk a (by simp) o e,r⟩⟩
 item:=fun i s Q E hi st hQ=>by
  have e1:(xs.size:Int)-1-(i:Int)=((xs.size-1-i:Nat):Int):=by omega
  have st2:=st.2.1;rw[e1]at st2;obtain⟨x,hx⟩:∃x,xs[xs.size-1-i]? =some x:=⟨_,Array.getElem?_eq_getElem (by omega)⟩;refine V0 st2 st.2.2 (by omega) hl hx fun h' k st' sb=>hQ x h' k hx ⟨hi,?_,?_⟩ fun b o hb e=>(sb.2 b (fun z=>hb (by simp[z]))).trans e
  ·rw[show(xs.size:Int)-1-((i+1:Nat):Int)=((xs.size-1-i:Nat):Int)-1 by omega];exact st'
  ·obtain⟨o,e,r⟩:=st.2.2;exact⟨o,(sb.2 a (Ne.symm hne)).trans e,r⟩
 done:=fun s Q E st hQ=>by
  have st2:=st.2.1;rw[show(xs.size:Int)-1-(xs.size:Int)= -1 by omega]at st2;exact YF st2 hh fun h' k eb=>hQ h' k fun b o hb e=>eb b o (fun z=>hb (by simp[z])) e
 self:=fun _ _ _ _ st hQ=>Xm st.2.1 hQ
theorem vS{R:Result->Shared->Prop}{it a:Addr}{xs:Array Value}(hh:A.handled=none)(hr:Zm s.heap it a ((xs.size:Int)-1))(hT:IsTup s.heap a xs)(hlen:xs.size<=sizeLine)(S:Addr)(hS:s.heap.get? S=some {cls:=.type "list",data:=.seq #[]})
  (hR:∀h' tk acc' c',(∀b o,b≠S->b≠it->s.heap.get? b=some o->h'.get? b=some o)->h'.get? S=some {cls:=.type "list",dict:=none,data:=.seq acc' c',slots:= #[]}->ItemsOf (xn xs) acc' xs.size->R (.ok (.ret .none)) {s with heap:=h',toks:=tk}):
  wpAny (model prog w) A.in1 (Builtin.«list.__init__» ⟨[.ref S,.ref it],[]⟩) (fun fin s'=>match fin with| .done f=>R (.ok f) s'| .again c'=>c'.quiet=true/\codeAny (model prog w) A c' R s') (fun e s'=>R (.error e) s') s:=by
 have h63:=ZW;have hne:it≠a:=fun z=>by
  obtain⟨o,e,c,n,d⟩:=hT;rw[←z,hr]at e;cases e;cases d
 have hSit:S≠it:=fun z=>by rw[z,hr]at hS;simp at hS
 have hSa:S≠a:=fun z=>by
  obtain⟨o,e,c,n,d⟩:=hT;rw[←z,hS]at e;cases e;simp at c
 show wpAny _ _ (do let old←Builtin.List.listItems (.ref S);Builtin.List.listUpdate (.ref S) (fun _=> #[]);letGo old.toList.reverse;Builtin.List.listExtendWith (.ref S) (.ref it) .none) _ _ s;refine wpAny_bind ?_;unfold Builtin.List.listItems;refine wpAny_bind (wpAny_seqItems hS rfl (wpAny_pure ?_));show wpAny _ _ (updateSeq S (fun _=> #[])>>=fun _=>letGo (#[]:Array Value).toList.reverse>>=fun _=>Builtin.List.listExtendWith (.ref S) (.ref it) .none) _ _ s;refine wpAny_bind (wpAny_updateSeq hS rfl (wpAny_bind (wpAny_letGo ?_)));have g2:=Heap.get?_update_self (Obj.mapSeq (fun _=>(#[]:Array Value))) hS rfl;have oth:∀b o,b≠S->s.heap.get? b=some o->(s.heap.update S (Obj.mapSeq (fun _=>(#[]:Array Value)))).get? b=some o:=fun b o hb e=>(Heap.get?_update_other _ _ (Ne.symm hb)).trans e;generalize s.heap.update S (Obj.mapSeq (fun _=>(#[]:Array Value)))=hp at g2 oth;have hr2:Zm hp it a ((xs.size:Int)-1):=oth _ _ (Ne.symm hSit) hr;have hT2:IsTup hp a xs:=by obtain⟨o,e,r⟩:=hT;exact⟨o,oth _ _ (Ne.symm hSa) e,r⟩
 have hI:Shared.TypeIs {s with heap:=hp} (.ref it) "reversed":=⟨_,hr2,rfl⟩;have W:=(kh (prog:=prog) (w:=w) (A:=A.in1) hh it a hne xs (by omega)).toS;have key:∀(h:Heap)(c₁ tk:Nat),Zm h it a ((xs.size:Int)-1)->IsTup h a xs->(∀b o,b≠S->s.heap.get? b=some o->h.get? b=some o)->
   h.get? S=some {cls:=.type "list",data:=.seq #[] c₁}->codeAny (model prog w) A (.builtin "list.extend.loop" ⟨[.ref S,.ref it,.none],[]⟩) R {s with heap:=h,toks:=tk}:=by
  intro h c₁ tk hit htt hk hS₁;refine codeAny_extend_loopS W hlen S (fun hm=>by simp at hm;rcases hm with z|z;exact hSit z;exact hSa z) .none xs.size 0 _ #[] c₁ rfl (tK _) ⟨tK _,by simpa using hit,htt⟩ hS₁ (ItemsOf.nil _) fun s' acc' c' hm hS' hacc=>?_;rw[Moved.eq_with hm];refine hR s'.heap s'.toks acc' c' (fun b o hb hb2 e=>hm.heap b o (fun hmem=>?_) (hk b o hb e)) hS' hacc;rcases List.mem_cons.mp hmem with e'|hmem
  ·exact hb e'
  ·exact hb2 (List.mem_singleton.mp hmem)
 unfold Builtin.List.listExtendWith;refine wpAny_bind (wpAny_typeOf (T:="reversed") hI ?_);have h1:Builtin.List.listSameRef (.ref S) (.ref it)=false:=by simp[Builtin.List.listSameRef,hSit]
 have h2:(Value.type "reversed"==Value.type "list")=false:=by decide
 have h3:(Value.type "reversed"==Value.type "tuple")=false:=by decide
 simp only[h1,h2,h3,Bool.or_false,Bool.false_eq_true,if_false];refine wpAny_bind (Xm (s:={s with heap:=hp}) hr2 ?_);refine wpAny_bind (wpAny_holding (vR (s:={s with heap:=hp}) hr2 hT2 hlen fun b k=>?_));refine wpAny_ite_split (fun _=>?_) (fun _=>wpAny_pure ⟨plainId_quiet F.plain_extend_loop _,key _ _ _ hr2 hT2 oth g2⟩);refine wpAny_bind (wpAny_rule ?_);refine wpAny_bind ?_;show wpAny _ _ (updateSeq S (·.push .none)>>=fun _=>updateSeq S (·.pop)) _ _ _;refine wpAny_bind (wpAny_updateSeq (s:={s with heap:=hp,toks:=k}) g2 rfl ?_);have hS₂:=Heap.get?_update_self (Obj.mapSeq (·.push Value.none)) g2 rfl;refine wpAny_updateSeq (hz:=by seq_fits) hS₂ rfl ?_;have hS₃:=Heap.get?_update_self (Obj.mapSeq (·.pop)) hS₂ rfl;have oth2:∀b o,b≠S->hp.get? b=some o->((hp.update S (Obj.mapSeq (·.push Value.none))).update S (Obj.mapSeq (·.pop))).get? b=some o:=fun b o hb e=>(Heap.get?_update_other _ _ (Ne.symm hb)).trans ((Heap.get?_update_other _ _ (Ne.symm hb)).trans e);refine wpAny_pure ⟨plainId_quiet F.plain_extend_loop _,key _ _ _ (oth2 _ _ (Ne.symm hSit) hr2) ?_ (fun b o hb e=>oth2 b o hb (oth b o hb e)) hS₃⟩;obtain⟨o,e,r⟩:=hT2;exact⟨o,oth2 _ _ (Ne.symm hSa) e,r⟩
end
theorem vT{xs:List V}{its:List Value}{acc:Array Value}(r:Vals xs its)(h:ItemsOf (xn its.toArray) acc its.toArray.size):Vals xs.reverse acc.toList:=by
 have hl:=r.length;have e:acc.toList=its.reverse:=by
  apply List.ext_getElem?;intro j
  by_cases hj:j<its.length
  ·have h1:acc.size=its.length:=by rw[h.1,tJ]
   obtain⟨v,hv⟩:∃v,acc[j]? =some v:=⟨_,Array.getElem?_eq_getElem (by omega)⟩;have h2:=h.2 j v hv;unfold xn at h2;rw[tJ,List.getElem?_toArray]at h2;rw[Array.getElem?_toList,hv,List.getElem?_reverse hj,h2]
  ·have h1:acc.size=its.length:=by rw[h.1,tJ]
   rw[List.getElem?_eq_none (by rw[tI];omega),List.getElem?_eq_none (by rw[u0];omega)]
 rw[e];clear h e hl
 induction r with
 |nil=>exact .nil
 |cons a r ih=>
  rw[List.reverse_cons,List.reverse_cons];exact ih.append (.cons a .nil)
section
variable {X:Cx}
noncomputable def Qff(K:PySem.W.Frag)(ta:TA):TE:=fun σ H Q=>ta σ H fun vs H1=>∃a xs,vs=[.ref a]/\SqT K H1 a xs/\∀l,H1 l=none->Q (.ref l) (upd H1 l (.lst xs.reverse))
theorem Ww{e:Expr}{ta:TA}{p q rpos cpos:Pos}(hc:X.calm=true)(hgl:Gl X "list")(hml:X.mg "list"=none)(hg:Gl X "reversed")(hm:X.mg "reversed"=none)(ha:PA X [e] ta)(h1:isStar e=false):
  PE X (.Call (.Name "list" q) [.Call (.Name "reversed" p) [e] [] rpos] [] cpos) (Qff X.K ta):=by
 intro pins s σ H Q I h;refine wpAny_Call_Name_kw (ZV I hgl hml PyProof.Rows.boot_list ?_ (by decide) (by decide));refine PyProof.Rows.callWith_type1 ?_ (ZC rfl) rfl;rw[ZC (e:=.Call (.Name "reversed" p) [e] [] rpos) rfl];refine Calls.spliced_cons ?_;refine wpAny_Call_Name_kw (ZV I hg hm boot_reversed ?_ (by decide) (by decide));refine PyProof.Rows.callWith_type1 (thn (ha rpos pins s σ H _ I h) fun us s1⟨vs,H1,I1,r1,a,xs,e,hq,q⟩=>?_) (ZC h1) rfl;subst e;obtain⟨u,rfl,rfl⟩:=vals1 r1;obtain⟨its,rv,pp,hz⟩:=I1.tuple hq;have hlen:=rv.length;have h63:=ZW;refine jc (xs:=its.toArray) pp (by rw[tJ];omega) fun k=>?_;refine Calls.spliced_nil ?_;have g:Zm (s1.heap.push {cls:=.type "reversed",data:=.fields #[.ref a,rawInt ((its.toArray.size:Int)-1)]}) s1.heap.objs.size a ((its.toArray.size:Int)-1):=Heap.get?_push_size _ rfl;have pp2:IsTup (s1.heap.push {cls:=.type "reversed",data:=.fields #[.ref a,rawInt ((its.toArray.size:Int)-1)]}) a its.toArray:=by obtain⟨o,e,r⟩:=pp;exact⟨o,Heap.get?_push_of_some _ e,r⟩
 have up:∀b o,s1.heap.get? b=some o->(s1.heap.push {cls:=.type "reversed",data:=.fields #[.ref a,rawInt ((its.toArray.size:Int)-1)]}).get? b=some o:=fun b o e=>Heap.get?_push_of_some _ e;have hsz:s1.heap.objs.size<(s1.heap.push {cls:=.type "reversed",data:=.fields #[.ref a,rawInt ((its.toArray.size:Int)-1)]}).objs.size:=Heap.lt_size g;generalize s1.heap.push {cls:=.type "reversed",data:=.fields #[.ref a,rawInt ((its.toArray.size:Int)-1)]}=h2 at g pp2 up hsz;refine callType_codes (Q₁:=fun obj s₁=>obj=.ref h2.objs.size/\s₁={s1 with heap:=h2.push {cls:=.type "list",data:=.seq #[]},toks:=k}) F.called_list (F.typeCall_list_1 _) F.entry_list_init (code_list_new _ ⟨rfl,rfl⟩) fun obj s₁ h₁=>?_;obtain⟨rfl,rfl⟩:=h₁;have g1:(h2.push {cls:=.type "list",data:=.seq #[]}).get? h2.objs.size=some {cls:=.type "list",data:=.seq #[]}:=Heap.get?_push_size _ rfl;have pp3:IsTup (h2.push {cls:=.type "list",data:=.seq #[]}) a its.toArray:=by obtain⟨o,e,r⟩:=pp2;exact⟨o,Heap.get?_push_of_some _ e,r⟩
 refine⟨⟨_,g1,rfl⟩,F.args_list_init_2 _ _,vS (s:={s1 with heap:=h2.push {cls:=.type "list",data:=.seq #[]},toks:=k}) (A:=X.A.in1) (I1.ok.hd hc) (Heap.get?_push_of_some _ g) pp3 (by rw[tJ];omega) _ g1 fun h' tk acc c' hk hS hacc=>⟨rfl,?_⟩⟩;have rv2:=vT rv hacc;have hfr:H1 h2.objs.size=none:=I1.hok.fresh (Nat.le_of_lt hsz);refine⟨.ref h2.objs.size,_,I1.laid (t':=tk) (fun b o e=>hk b o (Nat.ne_of_lt (Heap.lt_size (up b o e))) (Nat.ne_of_lt (Heap.lt_size e)) (Heap.get?_push_of_some _ (up b o e))) (Nat.le_of_lt hsz) (show Jw X.prog X.w _ h' _ (.lst xs.reverse)from⟨?_,acc.toList,c',rv2,by rw[Array.toArray_toList];exact hS⟩),rfl,q _ hfr⟩;rw[u0];omega
end
end L2
namespace K15
open K02 K04 PySem.NumText
theorem QcL{d:Nat}(h:48<=d/\d<=57):([112,113,114,115,116,117,118,119,120,121]:List Nat).contains d=false:=by
 simp;omega
theorem xo(s:Bool){a b:Nat}(u o:Int)(h1:1<=a+b):xY s a b (cont s a b u o)/\(ZB s (cont s a b u o)=if s=true/\fit u o a b<0 then-((fit u o a b).natAbs:Int)else((fit u o a b).natAbs:Int))/\(cont s a b u o).length=a+b/\(s=false->AllDigits (cont s a b u o))/\(∀x∈cont s a b u o,x<128):=by
 have hlt:=wV u o a b;unfold cont;generalize (fit u o a b).natAbs=n at hlt;have hl:=jS hlt h1;have hd:=wU n (a+b);have hne:=Qa8 n (a+b);have hv:=Qb9 n (a+b);generalize pad n (a+b)=pl at hl hd hne hv;obtain⟨d,hd1,hd2⟩:=Wl hne;have hdb:=hd d (by rw[hd1];exact uU _ (List.mem_singleton.mpr rfl))
 by_cases hc:s=true/\fit u o a b<0
 ·rw[if_pos hc,if_pos hc];have e:Us pl=pl.dropLast++[d+64]:=by unfold Us;rw[hd2];rfl
  have hin:([112,113,114,115,116,117,118,119,120,121]:List Nat).contains (d+64)=true:=(by decide:∀d:Nat,d<58->48<=d->([112,113,114,115,116,117,118,119,120,121]:List Nat).contains (d+64)=true) d (Nat.lt_succ_of_le hdb.2) hdb.1
  have hb:Xk s (Us pl)=true:=by
   unfold Xk;rw[e,List.getLast?_concat,hc.1];exact hin
  have hf:Zc s (Us pl)=pl:=by
   unfold Zc;rw[if_pos hb,e,List.dropLast_concat,List.getLast?_concat];show pl.dropLast++[d+64-64]=pl;rw[Nat.add_sub_cancel];exact hd1.symm
  have hll:(Us pl).length=a+b:=by
   rw[e,uM,List.length_dropLast];simp;omega
  refine⟨⟨hll,by rw[hf];exact hd⟩,?_,hll,(fun z=>by rw[z]at hc;exact absurd hc.1 (by decide)),fun x hx=>?_⟩
  ·unfold ZB;rw[if_pos hb,hf,hv]
  ·rw[e]at hx;rcases List.mem_append.mp hx with hx|hx
   ·have:=hd x (List.dropLast_subset _ hx);omega
   ·have:=List.mem_singleton.mp hx;omega
 ·rw[if_neg hc,if_neg hc];have hb:Xk s pl=false:=by
   unfold Xk;rw[hd2];show(s&&List.contains _ d)=false;rw[QcL hdb,Bool.and_false]
  have hf:Zc s pl=pl:=by unfold Zc;rw[if_neg (by rw[hb];decide)]
  refine⟨⟨hl,by rw[hf];exact hd⟩,?_,hl,fun _=>hd,fun x hx=>?_⟩
  ·unfold ZB;rw[if_neg (by rw[hb];decide),hf,hv]
  ·have:=hd x hx;omega
end K15
namespace Lw
open PySem PySem.Spec PyProof.Rows L2 K02 K04 K15 K09
open Builtin Builtin.Str StrLaws
noncomputable def v9:Nat->List Nat
 |0=>[57,40,51,41]|1=>[83,57,57,86,57]|2=>[88,40,52,41]|3=>[65,65]|4=>[90,57,46,57]|_=>[88]
theorem YH:∀p:Nat,YG p=tx (v9 p)
 |0=>by decide+kernel
 |1=>by decide+kernel
 |2=>by decide+kernel
 |3=>by decide+kernel
 |4=>by decide+kernel
 |n+5=>by show("X":Str)=tx [88];decide+kernel
theorem X5(p:Nat):(v9 p).length<=500:=by unfold v9;split<;>decide
noncomputable def kdP:Nat->Nat
 |0=>2|1=>2|2=>0|3=>1|4=>3|_=>0
noncomputable def sgP(p:Nat):Bool:=p==1
noncomputable def bfP(p:Nat):Nat:=if p=0 then 3 else 2
noncomputable def bhP(p:Nat):Nat:=if p=0 then 0 else 1
theorem KY(p:Nat):∃x,QR (v9 p)=some x/\x.kind=kdP p/\(kdP p=2->jT x/\x.signed=sgP p/\x.before=bfP p/\x.behind=bhP p):=by
 unfold v9 kdP
 split
 ·exact⟨⟨2,false,3,0⟩,by first|rfl|decide+kernel,rfl,fun _=>⟨⟨rfl,by decide,by decide⟩,rfl,rfl,rfl⟩⟩
 ·exact⟨⟨2,true,2,1⟩,by first|rfl|decide+kernel,rfl,fun _=>⟨⟨rfl,by decide,by decide⟩,rfl,rfl,rfl⟩⟩
 ·obtain⟨x,h⟩:∃x,QR [88,40,52,41]=some x:=⟨_,by first|rfl|decide+kernel⟩;have e:(QR [88,40,52,41]).map (·.kind)=some 0:=by decide+kernel
  rw[h]at e;exact⟨x,h,uR e,fun z=>by cases z⟩
 ·obtain⟨x,h⟩:∃x,QR [65,65]=some x:=⟨_,by first|rfl|decide+kernel⟩;have e:(QR [65,65]).map (·.kind)=some 1:=by decide+kernel
  rw[h]at e;exact⟨x,h,uR e,fun z=>by cases z⟩
 ·obtain⟨x,h⟩:∃x,QR [90,57,46,57]=some x:=⟨_,by first|rfl|decide+kernel⟩;have e:(QR [90,57,46,57]).map (·.kind)=some 3:=by decide+kernel
  rw[h]at e;exact⟨x,h,uR e,fun z=>by cases z⟩
 ·obtain⟨x,h⟩:∃x,QR [88]=some x:=⟨_,by first|rfl|decide+kernel⟩;have e:(QR [88]).map (·.kind)=some 0:=by decide+kernel
  rw[h]at e;exact⟨x,h,uR e,fun z=>by cases z⟩
theorem ed4:Ed [] 90 [90] [57] [57] [] where
 w:=⟨rfl,by decide,by decide⟩
 n:=.inr ⟨by decide,⟨rfl,by decide,by decide⟩⟩
 f:=by decide
 fl:=by decide
 br:=.inr ⟨0,57,by decide,rfl,.inl rfl⟩
 ld:=by decide
 l1:=by decide
 l2:=by decide
 tl:=by decide
 ts:=fun z=>absurd rfl z
 nn:=by decide
noncomputable def putL(p:Nat)(u o:Int):List Nat:=if p=4 then edT [] [90,57,46,57] [] (fit u o 2 1)else cont (sgP p) (bfP p) (bhP p) u o
theorem Z1(p:Nat):(kdP p=2/\p≠4/\szP p=bfP p+bhP p/\1<=bfP p+bhP p)\/(kdP p=3/\p=4)\/kdP p=0\/kdP p=1:=by
 unfold kdP szP bfP bhP
 split
 ·exact .inl ⟨rfl,by decide,by decide,by decide⟩
 ·exact .inl ⟨rfl,by decide,by decide,by decide⟩
 ·exact .inr (.inr (.inl rfl))
 ·exact .inr (.inr (.inr rfl))
 ·exact .inr (.inl ⟨rfl,rfl⟩)
 ·exact .inr (.inr (.inl rfl))
theorem QaQ(d:Nat)(r:List Nat)(u:Nat)(b:Bool)(h:flo d=false):(qS (d::r) u b).length=(d::r).length:=by
 unfold qS;rw[if_neg (by rw[List.headD_cons,h];decide),uM,tj,uZ,jW];have:=vd (d::r) (spr (d::r) (pad u (many (d::r))));omega
theorem W4{p:Nat}(u o:Int)(h:kdP p=2\/kdP p=3):(putL p u o).length=szP p:=by
 unfold putL;rcases Z1 p with⟨h1,h2,h3,h4⟩|⟨h1,rfl⟩|h1|h1
 ·rw[if_neg h2,h3];exact(xo (sgP p) u o h4).2.2.1
 ·rw[if_pos rfl];unfold edT;rw[if_neg (fun z=>z.2.1 (by decide))];simp only[List.map_nil,tE,tF];exact QaQ 90 _ _ _ (by decide)
 ·omega
 ·omega
theorem Xo(p:Nat):szP p<=4/\1<=szP p:=by unfold szP;split<;>decide
section
variable {P:Program}{w:World}{K:PySem.W.Frag}{mg:Str->Option Value}{base:Heap}{f:Addr}{fd:FuncData}{tk:Nat->Tok}{c kr:Nat->Addr}
noncomputable def QaR(K:PySem.W.Frag):Sp:=fun vs H Q _=>∃(p:Nat)(a:Addr)(u:Int)(o:Nat),vs=[.str (YG p),.ref a]/\Amt K H a u o/\(kdP p=2\/kdP p=3)/\∀H',Qo H H'->Q (.str (tx (putL p u o))) H'
theorem W5(p:Nat):decide (V.str (kindS (kdP p))=V.str "number")=decide (kdP p=2):=by
 have h:kdP p<=3:=by rcases Z1 p with h|h|h|h<;>omega
 rw[show V.str "number"=V.str (kindS 2)from rfl,Uv _ h 2 (by decide)]
theorem zi(p:Nat):decide (V.str (kindS (kdP p))=V.str "edited")=decide (kdP p=3):=by
 have h:kdP p<=3:=by rcases Z1 p with h|h|h|h<;>omega
 rw[show V.str "edited"=V.str (kindS 3)from rfl,Uv _ h 3 (by decide)]
theorem Wy{p:Nat}{σ:L2.St}{H:Hp}{Q:VK}{E:XK}{te:TE}(he:∀R:VK,R (.str (YG p)) H->te σ H R) (k:∀H',Qo H H'->Q (.str (kindS (kdP p))) H'):V8 (WJ c) [] E (Jn te WV) σ H Q:=by
 refine he _ ?_;obtain⟨x,hp,hk,_⟩:=KY p;refine⟨v9 p,by rw[YH];rfl,X5 p,(fun z=>by rw[hp]at z;cases z),fun y hy H' S=>?_⟩;obtain rfl:=uR (hp.symm.trans hy);rw[hk];exact k H' S
theorem Qeb(F:Fun K "put" "put" yO f fd)(hU:Def P w K mg base 7 "kind_of" ["picture"] (WJ c))(gJ:Def P w K mg base 7 "content_of" ["picture","amount"] (zU K c))(pW:Def P w K mg base 7 "edited" ["picture","amount"] (UC K c)):FnOk P w K mg base (CXE P w) 8 f fd ["picture","amount"] (QaR K):=by
 refine okE F Qdy (fun vs H Q E h=>?_) (fun cdv A outer s H vs Q E hr h=>?_)
 ·obtain⟨p,a,u,o,rfl,_⟩:=h;rfl
 ·obtain⟨p,a,u,o,rfl,M,hk,k⟩:=h;have fr:=Jx (P:=P) (w:=w) (K:=K) (mg:=mg) (base:=base) (N:=["picture","amount"]) (qual:="put") (scope:=Qe yO) (f:=f) (cd:=cdv) (A:=A) (outer:=outer) (s:=s) (H:=H) (E:=E);have hx:=QL fr;refine⟨_,(Qc (QM (Qj Jc (hU.pe hr (by decide) rfl hx (Qa (pv 0) Qb)) Qk (Qm _)) (Qf (Qn (gJ.pe hr (by decide) rfl hx (Qa (pv 0) (Qa (pv 1) Qb))))) Qu)
   (Qf (Qn (pW.pe hr (by decide) rfl hx (Qa (pv 0) (Qa (pv 1) Qb)))))),?_⟩
  refine Wy (p:=p) (fun R h=>⟨_,rfl,h⟩) fun H1 S1=>?_;refine⟨rfl,_,rfl,?_⟩;rw[W5];unfold putL at k;obtain⟨x,hp,hkx,hx2⟩:=KY p;rcases Z1 p with⟨h1,h2,h3,h4⟩|⟨h1,rfl⟩|h1|h1
  ·rw[if_neg h2]at k;rw[uP h1];obtain⟨nr,e1,e2,e3⟩:=hx2 h1;refine QY ⟨_,rfl,_,rfl,v9 p,a,u,o,by rw[YH];rfl,X5 p,M.same S1,.inr ⟨x,hp,nr,fun H2 S2=>?_⟩⟩;rw[e1,e2,e3];exact k _ (S1.trans S2)
  ·rw[if_pos rfl]at k;rw[uO (by rw[h1];decide)];exact QO ⟨_,rfl,_,rfl,_,a,u,o,by rw[YH];rfl,X5 4,M.same S1,.inr ⟨[],90,[90],[57],[57],[],ed4,by decide,rfl,fun H2 S2=>k _ (S1.trans S2)⟩⟩
  ·omega
  ·omega
noncomputable def blL(p:Nat):List Nat:=if kdP p=2\/kdP p=3 then putL p 0 0 else List.replicate (szP p) 32
theorem QcM(p:Nat):(blL p).length=szP p:=by
 unfold blL
 split
 ·exact W4 0 0 ‹_›
 ·exact tj
noncomputable def zj:Sp:=fun vs H Q _=>∃p:Nat,vs=[.str (YG p)]/\∀H',Qo H H'->Q (.str (tx (blL p))) H'
theorem QaS:(" ":Str)=tx [32]:=by decide+kernel
theorem QaT(F:Fun K "blank" "blank" jI f fd)(hU:Def P w K mg base 7 "kind_of" ["picture"] (WJ c))(pX:Def P w K mg base 8 "put" ["picture","amount"] (QaR K))(gI:Def P w K mg base 7 "size_of" ["picture"] qQ):FnOk P w K mg base (CXE P w) 9 f fd ["picture"] zj:=by
 refine okN F zI (fun vs H Q E h=>?_) (fun cdv A outer s H vs Q E hr h=>?_)
 ·obtain⟨p,rfl,_⟩:=h;rfl
 ·obtain⟨p,rfl,k⟩:=h;have hz:1000<=sizeLine:=by decide
  refine⟨_,(Qc (Qt (i:=1) zI.nd rfl (Or.inl rfl) (hU.pe hr (by decide) rfl Qp (Qa (pv 0) Qb)))
   (Qc (QM (PW.pt (Z3 (Qj Jc (pv 1) Qk (Qm _)) (J7 (Qj Jc (pv 1) Qk (Qm _))))) (Qf (Qn (pX.pe hr (by decide) rfl Qp (Qa (pv 0) (Qa (QI (Qa Qg (Qa Qg Qb))) Qb))))) Qu)
   (Qf (Qn (QC Zw Qk (gI.pe hr (by decide) rfl Qp (Qa (pv 0) Qb))))))),?_⟩
  refine Wy (p:=p) (fun R h=>⟨_,rfl,h⟩) fun H1 S1=>?_;dsimp only[QV,Z2,Xu,Js];refine⟨_,rfl,rfl,_,rfl,?_⟩;rw[W5];obtain⟨pa,pl,px,ep,hp,es⟩:=UH p;have sz:=Xo p;unfold blL at k;rcases Z1 p with⟨h1,_⟩|⟨h1,_⟩|h1|h1
  ·rw[if_pos (.inl h1)]at k;rw[uP h1];refine QY (QY ⟨_,rfl,sL2,fun q hq=>?_⟩);exact⟨p,q,0,0,rfl,⟨.inl (.inl Qd),by decide,by decide,by decide⟩,.inl h1,fun H2 S2=>k _ ((S1.trans (Qo.new hq)).trans S2)⟩
  ·rw[if_pos (.inr h1)]at k;rw[uO (by rw[h1];decide)];refine QO ⟨_,rfl,rfl,_,rfl,?_⟩;rw[zi,uP h1];refine QY ⟨_,rfl,sL2,fun q hq=>?_⟩;exact⟨p,q,0,0,rfl,⟨.inl (.inl Qd),by decide,by decide,by decide⟩,.inr h1,fun H2 S2=>k _ ((S1.trans (Qo.new hq)).trans S2)⟩
  all_goals
   rw[if_neg (by omega)]at k;rw[uO (by omega)];refine QO ⟨_,rfl,rfl,_,rfl,?_⟩;rw[zi,uO (by omega)];refine QO ⟨_,rfl,pa,pl,px,(by rw[ep];rfl),hp,fun H2 S2=>?_⟩;rw[es,QaS];refine⟨tx [32],(szP p:Nat),rfl,rfl,by omega,by rw[Qq,tM,uS];omega,by omega,?_⟩;rw[tM,qP];exact k _ (S1.trans S2)
theorem Wz:∀a b:List (Bool × Ly),wtL (a++b)=wtL a+wtL b
 |[],b=>by rw[tE,wtL,Nat.zero_add]
 |x::a,b=>by rw[tD,wtL,wtL,Wz a b];omega
theorem zk(l:List (Bool × Ly)):szL l.reverse=szL l:=by
 induction l with
 |nil=>rfl
 |cons x r ih=>rw[List.reverse_cons,Kr,ih,szL,szL,szL];omega
theorem zl(l:List (Bool × Ly)):wtL l.reverse=wtL l:=by
 induction l with
 |nil=>rfl
 |cons x r ih=>rw[List.reverse_cons,Wz,ih,wtL,wtL,wtL];omega
theorem vU(l:List (Bool × Ly)):∀k,szL (List.replicate k l).flatten=szL l*k
 |0=>by rw[List.replicate_zero,List.flatten_nil,szL];omega
 |k+1=>by rw[List.replicate_succ,List.flatten_cons,Kr,vU l k,Nat.mul_succ];omega
theorem vV(l:List (Bool × Ly)):∀k,wtL (List.replicate k l).flatten=k*wtL l
 |0=>by rw[List.replicate_zero,List.flatten_nil,wtL];omega
 |k+1=>by rw[List.replicate_succ,List.flatten_cons,Wz,vV l k,Nat.succ_mul];omega
theorem KZ{H:Hp}:∀{xs:List V}{ds:List Dv},Deeps H xs ds->Deeps H xs.reverse ds.reverse
 |_,_,.nil=>.nil
 |_,_,.cons h t=>by rw[List.reverse_cons,List.reverse_cons];exact(KZ t).append (.cons h .nil)
theorem jj{H:Hp}{xs:List V}{ds:List Dv}(h:Deeps H xs ds):∀k,Deeps H (List.replicate k xs).flatten (List.replicate k ds).flatten
 |0=>.nil
 |k+1=>by rw[List.replicate_succ,List.replicate_succ,List.flatten_cons,List.flatten_cons];exact h.append (jj h k)
theorem jk{H:Hp}:∀{ps:List (List Nat)}{xs:List V},Deeps H xs (ps.map fun l=>Dv.str (tx l))->xs=(ps.map tx).map V.str
 |[],_,h=>by cases h;rfl
 |p::ps,_,h=>by
  cases h with
  |cons h t=>
   obtain rfl:=h.z6;rw[jk t];rfl
theorem xp{ls:List (List Nat)}(h:ls.flatten.length<=100000):JoinOk "" (ls.map tx)=true:=by
 unfold JoinOk;rw[←Array.foldl_toList,List.toList_toArray,qO];unfold tooLong;have hz:100000<=sizeLine:=by rw[sizeLine_eq];decide
 rw[uO (by omega)];rfl
noncomputable def zm:Sp:=fun vs H Q _=>∃(v:V)(its:List (Bool × Ly)),vs=[v]/\Deep H v (.tup (dvL its))/\wtL its<=10000/\szL its<=10000/\okL its/\∀s H',Qo H H'->s.length=szL its->Q (.str (tx s)) H'
set_option maxHeartbeats 4000000 in
theorem XY(F:Fun K "signs_at_beginning" "signs_at_beginning" JA f fd)(O:Own mg)(OL:mg "list"=none)(rq:Def P w K mg base 9 "blank" ["picture"] zj):FnOk P w K mg base (CXE P w) 10 f fd ["layout"] zm:=by
 refine zF F Q9 (fun vs H Q E h=>?_) (fun cdv A outer s H vs Q E hr h=>?_)
 ·obtain⟨v,its,rfl,_⟩:=h;rfl
 ·obtain⟨v,its,rfl,D,hw,hs,hok,k⟩:=h;have hz:100000<=sizeLine:=by rw[sizeLine_eq];decide
  refine⟨_,(Qz (Jq (i:=1) Q9.nd rfl (Or.inl rfl) (jC Jy) rfl rfl)
   (Qz (Jq (i:=2) Q9.nd rfl (Or.inl rfl) (PEx.mk (Ww rfl rfl OL rfl O.reversed (QB (pv 0) Qb) rfl)) rfl rfl)
   (Qz (PSy.mk (Z4 PassesOwn.never (Jr (pv 2) (fun _=>rfl)) (Qc (Qt (i:=3) Q9.nd rfl (Or.inl rfl) (zu plainAttrs_list slot_list_pop type_list_pop zy (pv 2)))
   (Qf (QM (Qj Jc (Qw Qy (pv 3) Qg (fun _ _=>rfl)) Qk (Qm _)) (Qf (Jb (JO plainAttrs_list PySem.F.slot_list_append PySem.F.type_list_append JC (pv 1) (QB (rq.pe hr (by decide) rfl Qp (QB (Qw Qy (pv 3) Qg (fun _ _=>rfl)) Qb)) Qb)))) (Qf (QM (Qj Jc (Qw Qy (pv 3) Qg (fun _ _=>rfl)) Qk (Qm _)) (Qf (Jb (JO plainAttrs_list slot_list_extend type_list_extend KA (pv 2) (QB (Ww rfl rfl OL rfl O.reversed (QB (Qw Qy (pv 3) Qg (fun _ _=>rfl)) Qb) rfl) Qb)))) (Qf (QM (Qj Jc (Qw Qy (pv 3) Qg (fun _ _=>rfl)) Qk (Qm _)) (Qf (Jb (JO plainAttrs_list slot_list_extend type_list_extend KA (pv 2) (QB (QC Qdj (Ww rfl rfl OL rfl O.reversed (QB (Qw Qy (pv 3) Qg (fun _ _=>rfl)) Qb) rfl) (Qw Qy (pv 3) Qg (fun _ _=>rfl))) Qb)))) Qu)))))))))
   (QJ (Jg (jb (JU (PEx.mk (pv 1)) Jy rfl) rfl rfl)))))),?_⟩
  dsimp only[QV,Z2,Xu,Js];refine⟨sL0,fun pa hpa=>?_⟩;obtain⟨va,vx,rfl,gv,tv⟩:=Deep.VW D;have S1:=Qo.new (o:=.lst []) hpa;refine⟨_,rfl,va,vx,rfl,.inl (.inl (S1 _ _ gv)),fun lf hlf=>?_⟩;have S2:=Qo.new (o:=.lst vx.reverse) hlf;have T1:TwoL H (upd (upd H pa (.lst [])) lf (.lst vx.reverse)) pa lf [] vx.reverse (([]:List (List Nat)).map fun l=>Dv.str (tx l)) (its.reverse.map dvI):=by
   refine⟨S1.trans S2,hpa,?_,?_,S2 _ _ Qd,Qd,.nil,?_⟩
   ·cases e:H lf with
    |none=>rfl
    |some o=>rw[S1 _ _ e]at hlf;cases hlf
   ·intro z;rw[←z,Qd]at hlf;cases hlf
   ·rw[Jh]at tv;rw[List.map_reverse];exact KZ (tv.same (S1.trans S2))
  generalize upd (upd H pa (.lst [])) lf (.lst vx.reverse)=H1 at T1;clear S1 S2 hlf hpa;refine⟨fun m σ H2=>∃(x1 x2:List V)(ps:List (List Nat))(st:List (Bool × Ly))(y3:Option V),σ=[some (.ref va),some (.ref pa),some (.ref lf),y3]/\TwoL H H2 pa lf x1 x2 (ps.map fun l=>Dv.str (tx l)) (st.map dvI)/\ps.flatten.length+szL st=szL its/\wtL st<=m/\ps.length+m<=10000/\∀x∈st,x.2.okK,
   ⟨10000,[],vx.reverse,[],its.reverse,none,rfl,T1,by simp[zk],by rw[zl];exact hw,by simp,fun x hx=>Ws hok (List.mem_reverse.mp hx)⟩,?_⟩
  clear T1;rintro m σ H2 ⟨x1,x2,ps,st,y3,rfl,T2,hsz,hwt,hm,hO⟩;have l1:=T2.t1.length;have l2:=T2.t2.length;rw[uN]at l1 l2;rcases List.eq_nil_or_concat st with rfl|⟨st0,e0,rfl⟩
  ·have e:x2=[]:=List.eq_nil_of_length_eq_zero (by simpa using l2);subst e;refine⟨_,rfl,false,.inl ⟨_,.inl (.inl T2.g2),rfl⟩,QO ?_⟩;rw[szL,Nat.add_zero]at hsz;obtain rfl:=jk T2.t1;refine⟨rfl,_,rfl,_,pa,_,rfl,rfl,.inl (.inl T2.g1),xp (by omega),?_⟩;rw[Ut];exact k _ _ T2.S hsz
  rw[List.concat_eq_append]at T2 hsz hwt l2 hO;obtain⟨ov,y⟩:=e0;rw[Kr]at hsz;rw[Wz]at hwt
  replace hsz:ps.flatten.length+(szL st0+(szI (ov,y)+0))=szL its:=hsz
  replace hwt:wtL st0+(y.wt+0)<=m:=hwt
  have hOy:y.okK:=hO _ (uU _ uX);have hO0:∀x∈st0,x.2.okK:=fun e he=>hO e (uV _ he);have hyw:=y.xg;rw[tm]at T2;obtain⟨xs0,xl,rfl,t1,Dl⟩:∃xs0 xl,x2=xs0++[xl]/\Deeps H2 xs0 (st0.map dvI)/\Deep H2 xl (dvI (ov,y)):=by
   rcases List.eq_nil_or_concat x2 with rfl|⟨xs0,xl,rfl⟩
   ·simp at l2
   ·rw[List.concat_eq_append]at T2 ⊢;have l0:xs0.length=(st0.map dvI).length:=by
     have:=T2.t2.length;rw[uM,uM]at this;simpa using this
    have ht:=T2.t2.take xs0.length;have hd:=T2.t2.drop xs0.length;rw[List.take_left' rfl,l0,List.take_left' rfl]at ht;rw[List.drop_left' rfl,l0,List.drop_left' rfl]at hd;cases hd with
    |cons h t=>exact⟨xs0,xl,rfl,ht,h⟩
  refine⟨_,rfl,true,.inl ⟨_,.inl (.inl T2.g2),by simp⟩,QY ?_⟩;refine⟨fun σ' H'=>∃m',m'<m/\∃(x1 x2:List V)(ps:List (List Nat))(st:List (Bool × Ly))(y3:Option V),σ'=[some (.ref va),some (.ref pa),some (.ref lf),y3]/\TwoL H H' pa lf x1 x2 (ps.map fun l=>Dv.str (tx l)) (st.map dvI)/\ps.flatten.length+szL st=szL its/\wtL st<=m'/\ps.length+m'<=10000/\∀x∈st,x.2.okK,fun _ _ h=>h,?_⟩;refine⟨_,rfl,.inl ⟨rfl,_,.inl (.inl T2.g2)⟩,?_⟩;refine⟨lf,_,xl,rfl,rfl,T2.g2,by simp,?_⟩;have T3:TwoL H (upd H2 lf (.lst (xs0++[xl]).dropLast)) pa lf x1 xs0 (ps.map fun l=>Dv.str (tx l)) (st0.map dvI):=by
   rw[List.dropLast_concat];exact T2.put2 t1
  have Dl3:=Dl.jY (o':=.lst (xs0++[xl]).dropLast) T2.g2 WN;generalize upd H2 lf (.lst (xs0++[xl]).dropLast)=H3 at T3 Dl3;clear T2 Dl t1 l2;have l0:=T3.t2.length;rw[uN]at l0;have lst0:=Kq st0;dsimp only[QV,Z2,Xu,Js];cases ov with
  |true=>
   obtain⟨a,x2,rfl,g,_⟩:=V2 Dl3;rw[szI,if_pos rfl]at hsz;refine⟨_,rfl,a,_,0,_,rfl,rfl,.inl g,rfl,rfl,false,by rw[Qfv],QO ?_⟩;refine⟨_,rfl,a,_,0,_,rfl,rfl,.inl g,rfl,rfl,false,by rw[Qfw],QO ?_⟩;refine⟨_,rfl,a,_,0,_,rfl,rfl,.inl g,rfl,rfl,false,by rw[Qfx],QO ?_⟩;exact⟨m-1,by omega,x1,xs0,ps,st0,_,rfl,T3,by omega,by omega,by omega,hO0⟩
  |false=>
   rw[dvI,if_neg (by decide)]at Dl3;rw[szI,if_neg (by decide)]at hsz;cases y with
   |box nm p=>
    obtain⟨a,rfl,g⟩:=WL Dl3;rw[Ly.sz]at hsz;refine⟨_,rfl,a,_,0,_,rfl,rfl,.inl g,rfl,rfl,true,rfl,QY ?_⟩;refine⟨_,rfl,.inl ⟨rfl,_,.inl (.inl T3.g1)⟩,?_⟩;refine⟨_,rfl,a,_,2,_,rfl,rfl,.inl g,rfl,p,rfl,fun H4 S4=>?_⟩;have T4:=T3.same S4;refine⟨pa,x1,_,rfl,rfl,T4.g1,by omega,?_⟩;refine⟨m-1,by omega,x1++[.str (tx (blL p))],xs0,ps++[blL p],st0,_,rfl,?_,?_,by omega,by rw[uM,uS];omega,hO0⟩
    ·rw[tm];exact T4.Qfz (T4.t1.append (.cons .str .nil))
    ·rw[List.flatten_append,uM,List.flatten_singleton,QcM];omega
   |grp nm in_=>
    obtain⟨a,x3,rfl,g,D3⟩:=KQ Dl3;rw[Ly.sz]at hsz;rw[Ly.wt]at hwt;rw[Ly.okK]at hOy;have hlen:=Kq in_;refine⟨_,rfl,a,_,0,_,rfl,rfl,.inl g,rfl,rfl,false,by rw[QcB],QO ?_⟩;refine⟨_,rfl,a,_,0,_,rfl,rfl,.inl g,rfl,rfl,true,rfl,QY ?_⟩;refine⟨_,rfl,.inl ⟨rfl,_,.inl (.inl T3.g2)⟩,?_⟩;obtain⟨ia,ix,rfl,gi,ti⟩:=Deep.VW D3;have li:=ti.length;rw[Jh]at ti;rw[Jh,uN]at li;refine⟨_,rfl,a,_,2,_,rfl,rfl,.inl g,rfl,ia,ix,rfl,.inl (.inl gi),fun q8 hq8=>?_⟩;have S8:=Qo.new (o:=.lst ix.reverse) hq8;have T8:=T3.same S8;refine⟨lf,q8,xs0,ix.reverse,rfl,rfl,T8.g2,Qd,by rw[u0];omega,?_⟩;refine⟨m-1,by omega,x1,xs0++ix.reverse,ps,st0++in_.reverse,_,rfl,?_,?_,?_,by omega,?_⟩
    ·rw[tm,List.map_reverse];exact T8.put2 (T8.t2.append (KZ (ti.same S8)))
    ·rw[Kr,zk];omega
    ·rw[Wz,zl];omega
    ·intro x hx;rcases List.mem_append.mp hx with hx|hx
     ·exact hO0 x hx
     ·exact Ws hOy (List.mem_reverse.mp hx)
   |tab nm k1 in_=>
    obtain⟨a,x3,rfl,g,D3⟩:=KR Dl3;rw[Ly.sz]at hsz;rw[Ly.wt]at hwt;rw[Ly.okK]at hOy;have hlen:=Kq in_;have hk1:=hOy.1;refine⟨_,rfl,a,_,0,_,rfl,rfl,.inl g,rfl,rfl,false,by rw[QcC],QO ?_⟩;refine⟨_,rfl,a,_,0,_,rfl,rfl,.inl g,rfl,rfl,false,by rw[Qfb],QO ?_⟩;refine⟨_,rfl,a,_,0,_,rfl,rfl,.inl g,rfl,rfl,true,rfl,QY ?_⟩;refine⟨_,rfl,.inl ⟨rfl,_,.inl (.inl T3.g2)⟩,?_⟩;obtain⟨ia,ix,rfl,gi,ti⟩:=Deep.VW D3;have li:=ti.length;rw[Jh]at ti;rw[Jh,uN]at li;have hmul:k1*in_.length<=k1*wtL in_:=Nat.mul_le_mul_left _ hlen;have hixk:ix.length*k1<=10000:=by rw[li,Nat.mul_comm];omega
    refine⟨_,rfl,a,_,3,_,rfl,rfl,.inl g,rfl,ia,ix,rfl,.inl (.inl gi),fun q8 hq8=>?_⟩;have S8:=Qo.new (o:=.lst ix.reverse) hq8;refine⟨_,rfl,a,_,2,_,rfl,rfl,.inl (S8 _ _ g),rfl,q8,(k1:Nat),_,rfl,rfl,Qd,by omega,by omega,by rw[tM,u0];omega,fun q9 hq9=>?_⟩;rw[tM];have S9:=Qo.new (o:=.lst (List.replicate k1 ix.reverse).flatten) hq9;have T9:=(T3.same S8).same S9;have lrep:(List.replicate k1 ix.reverse).flatten.length<=10000:=by rw[len_rep,u0,Nat.mul_comm];exact hixk
    refine⟨lf,q9,xs0,_,rfl,rfl,T9.g2,Qd,by omega,?_⟩;refine⟨m-1,by omega,x1,xs0++(List.replicate k1 ix.reverse).flatten,ps,st0++(List.replicate k1 in_.reverse).flatten,_,rfl,?_,?_,?_,by omega,?_⟩
    ·rw[tm,List.map_flatten,List.map_replicate,List.map_reverse];exact T9.put2 (T9.t2.append (jj (KZ (ti.same (S8.trans S9))) k1))
    ·rw[Kr,vU,zk];omega
    ·rw[Wz,vV,zl];omega
    ·intro x hx;rcases List.mem_append.mp hx with hx|hx
     ·exact hO0 x hx
     ·obtain⟨l,hl,hx⟩:=List.mem_flatten.mp hx;rw[List.eq_of_mem_replicate hl]at hx;exact Ws hOy.2 (List.mem_reverse.mp hx)
end
noncomputable def Kx(H H':Hp):Prop:=∀b o,H b=some o->(∀xs,o≠ .lst xs)->(∀C dx fs,o≠ .ins C dx fs)->H' b=some o
theorem Kx.of{H H':Hp}(S:Qo H H'):Kx H H':=fun b o e _ _=>S b o e
theorem Kx.trans{H H1 H2:Hp}(a:Kx H H1)(b:Kx H1 H2):Kx H H2:=fun c o e n1 n2=>b c o (a c o e n1 n2) n1 n2
theorem Kx.jY{H:Hp}{q:Addr}{xs:List V}{o:HO}(h:H q=some (.lst xs)):Kx H (upd H q o):=fun b o' e n1 _=>by
 rw[Ql (fun z=>by rw[z,h]at e;exact n1 xs (uR e).symm)];exact e
theorem Kx.Qfg{H:Hp}{q C dx:Addr}{fs:List (Str × V)}{o:HO}(h:H q=some (.ins C dx fs)):Kx H (upd H q o):=fun b o' e _ n2=>by
 rw[Ql (fun z=>by rw[z,h]at e;exact n2 C dx fs (uR e).symm)];exact e
theorem Kx.WK{H H':Hp}(a:Kx H H'):∀b ys,H b=some (.tup ys)->H' b=some (.tup ys):=fun b ys e=>a b _ e (fun _ z=>nomatch z) (fun _ _ _ z=>nomatch z)
theorem Kx.deep{H H':Hp}(a:Kx H H'){x:V}{d:Dv}(D:Deep H x d):Deep H' x d:=D.keep a.WK
theorem QfA:¬ (("layout":Str)="held"):=by decide+kernel
theorem Qgb:¬ (("layout":Str)="done"):=by decide+kernel
theorem QfB:¬ (("layout":Str)="undone"):=by decide+kernel
theorem QfC:¬ (("held":Str)="done"):=by decide+kernel
theorem QfD:¬ (("held":Str)="undone"):=by decide+kernel
theorem QfE:¬ (("done":Str)="undone"):=by decide+kernel
structure FdA(fs:List (Str × V))(lv:V)(h:Str)(dq uq:Addr)(n:Nat):Prop where
 ly:fs.lookup ("layout":Str)=some lv
 hd:fs.lookup ("held":Str)=some (.str h)
 dn:fs.lookup ("done":Str)=some (.ref dq)
 un:fs.lookup ("undone":Str)=some (.ref uq)
 no:∀m:Str,m≠"layout"->m≠"held"->m≠"done"->m≠"undone"->fs.lookup m=none
 ln:fs.length<=n
theorem FdA.mk0(lv:V)(h:Str)(dq uq:Addr):FdA (Zj "undone" (.ref uq) (Zj "done" (.ref dq) (Zj "held" (.str h) (Zj "layout" lv [])))) lv h dq uq 4:=by
 refine⟨?_,?_,?_,?_,fun m h1 h2 h3 h4=>?_,?_⟩
 ·rw[Qs,if_neg QfB,Qs,if_neg Qgb,Qs,if_neg QfA,Qs,if_pos rfl]
 ·rw[Qs,if_neg QfD,Qs,if_neg QfC,Qs,if_pos rfl]
 ·rw[Qs,if_neg QfE,Qs,if_pos rfl]
 ·rw[Qs,if_pos rfl]
 ·rw[Qs,if_neg h4,Qs,if_neg h3,Qs,if_neg h2,Qs,if_neg h1];rfl
 ·have a:=QW "undone" (.ref uq) (Zj "done" (.ref dq) (Zj "held" (.str h) (Zj "layout" lv [])));have b:=QW "done" (.ref dq) (Zj "held" (.str h) (Zj "layout" lv []));have c:=QW "held" (.str h) (Zj "layout" lv []);have d:=QW "layout" lv [];simp only[List.length_nil]at d;omega
theorem FdA.change{fs:List (Str × V)}{lv:V}{h h2:Str}{dq uq q:Addr}{n:Nat}(F:FdA fs lv h dq uq n):FdA (Zj "held" (.str h2) (Zj "undone" (.ref q) fs)) lv h2 dq q (n+2):=by
 refine⟨?_,?_,?_,?_,fun m h1 h2 h3 h4=>?_,?_⟩
 ·rw[Qs,if_neg QfA,Qs,if_neg QfB];exact F.ly
 ·rw[Qs,if_pos rfl]
 ·rw[Qs,if_neg (fun z=>QfC z.symm),Qs,if_neg QfE];exact F.dn
 ·rw[Qs,if_neg (fun z=>QfD z.symm),Qs,if_pos rfl]
 ·rw[Qs,if_neg h2,Qs,if_neg h4];exact F.no m h1 h2 h3 h4
 ·have a:=QW "held" (.str h2) (Zj "undone" (.ref q) fs);have b:=QW "undone" (.ref q) fs;have:=F.ln;omega
structure ClsR(K:PySem.W.Frag)(C:Addr):Prop where
 cl:Cls K C
 nl:X8 K C "layout"
 nh:X8 K C "held"
 nd:X8 K C "done"
 nu:X8 K C "undone"
structure AreaAt(C:Addr)(H:Hp)(x:Addr)(lv:V)(s:List Nat)(n:Nat):Prop where
 ob:∃dx fs dq uq ds,H x=some (.ins C dx fs)/\FdA fs lv (tx s) dq uq n/\H dq=some (.lst ds)/\ds.length<=n
theorem AreaAt.same{C:Addr}{H H':Hp}{x:Addr}{lv:V}{s:List Nat}{n:Nat}(R:AreaAt C H x lv s n)(S:Qo H H'):AreaAt C H' x lv s n:=by
 obtain⟨dx,fs,dq,uq,ds,h,F,g,l⟩:=R.ob;exact⟨dx,fs,dq,uq,ds,S _ _ h,F,S _ _ g,l⟩
section
variable {P:Program}{w:World}{K:PySem.W.Frag}{mg:Str->Option Value}{base:Heap}{f:Addr}{fd:FuncData}{tk:Nat->Tok}{c kr:Nat->Addr}{C:Addr}
noncomputable def lay(s:List Nat)(n:Nat)(t:List Nat):List Nat:=s.take n++t++s.drop (n+t.length)
noncomputable def xq:Sp:=fun vs H Q _=>∃(s t:List Nat)(n:Nat),vs=[.str (tx s),.int (n:Nat),.str (tx t)]/\n<=s.length/\s.length<=10000/\t.length<=10000/\Q (.str (tx (lay s n t))) H
theorem UU(F:Fun K "with_signs" "with_signs" XO f fd)(O:Own mg):FnOk P w K mg base (CXE P w) 1 f fd ["held","start","text"] xq:=by
 refine okN F Uc (fun vs H Q E h=>?_) (fun cdv A outer s H vs Q E hr h=>?_)
 ·obtain⟨s,t,n,rfl,_⟩:=h;rfl
 ·obtain⟨s,t,n,rfl,hn,hs,ht,k⟩:=h;have hz:100000<=sizeLine:=by rw[sizeLine_eq];decide
  have ls:=Qq s;have lt:=Qq t;refine⟨_,(Qf (Qn (QC Q3 (QC Q3 (QZ ZF (pv 0) JY (QX (pv 1))) (pv 2)) (QZ ZF (pv 0) (QX (QC Jd (pv 1) (Qr Q2 rfl O.len PySem.boot_len (Qa (pv 2) Qb)))) JY)))),?_⟩;refine⟨_,rfl,_,rfl,_,rfl,tx s,rfl,by omega,?_⟩;rw[X1 s hn];refine⟨_,rfl,_,_,rfl,rfl,by rw[Qq,uY];omega,?_⟩;rw[Zl];refine⟨_,rfl,_,rfl,_,rfl,tx t,rfl,by omega,_,_,rfl,rfl,_,rfl,tx s,rfl,by omega,?_⟩;rw[lt,show((n:Nat):Int)+((t.length:Nat):Int)=((n+t.length:Nat):Int) by omega,X2];refine⟨_,_,rfl,rfl,by rw[Qq,Qq,uM,uY,uZ];omega,?_⟩;rw[Zl];exact k
noncomputable def UV(kr:Nat->Addr):Sp:=fun vs H Q _=>∃p:Nat,vs=[.str (YG p),.ref (kr 6)]/\(kdP p=2\/kdP p=3)/\∀H',Qo H H'->Q .non H'
theorem UW(F:Fun K "check_kind" "check_kind" ZM f fd)(T:Txt K mg tk c kr)(hU:Def P w K mg base 7 "kind_of" ["picture"] (WJ c)):FnOk P w K mg base (CXE P w) 8 f fd ["picture","kinds"] (UV kr):=by
 refine okE F Ub (fun vs H Q E h=>?_) (fun cdv A outer s H vs Q E hr h=>?_)
 ·obtain⟨p,rfl,_⟩:=h;rfl
 ·obtain⟨p,rfl,hk,k⟩:=h;have fr:=Jx (P:=P) (w:=w) (K:=K) (mg:=mg) (base:=base) (N:=["picture","kinds"]) (qual:="check_kind") (scope:=Qe ZM) (f:=f) (cd:=cdv) (A:=A) (outer:=outer) (s:=s) (H:=H) (E:=E);have ht:=JD fr;have hx:=QL fr;refine⟨_,(Qf (QM (PW.pt (Z3 (Xp (Ku (pv 0))) (J7 (Qj XB (hU.pe hr (by decide) rfl hx (Qa (pv 0) Qb)) (pv 1) (by with_unfolding_all rfl))))) (Qf (J5 ht rfl rfl T.rO T.rP (Qa Qk Qb))) Qu)),?_⟩;refine⟨_,rfl,false,rfl,QO ?_⟩;refine Wy (p:=p) (fun R h=>⟨_,rfl,h⟩) fun H1 S1=>?_;refine⟨_,rfl,kr 6,_,rfl,.inr (T.uA H1),rfl,rfl,?_⟩;have e:inV (.str (kindS (kdP p))) [.str "number",.str "edited"]=true:=by
   rcases hk with h|h<;>(rw[h];decide+kernel)
  refine⟨_,rfl,?_⟩;rw[if_pos rfl,e];exact QO (k _ S1)
noncomputable def vW:Sp:=fun vs H Q _=>∃(t:List Nat)(p:Nat),vs=[.str (tx t),.str (YG p)]/\kdP p=2/\t.length<=100/\xY (sgP p) (bfP p) (bhP p) t/\∀q H',Qo H H'->H' q=some (.tup [.int (ZB (sgP p) t),.int (bhP p:Nat)])->Q (.ref q) H'
noncomputable def Qfh:Sp:=fun _ _ _ _=>False
theorem Yl(F:Fun K "read_edited" "read_edited" Xd f fd):FnOk P w K mg base (CXE P w) 1 f fd ["picture","text"] Qfh:=by
 refine okN F Yc (fun vs H Q E h=>h.elim) (fun cdv A outer s H vs Q E hr h=>h.elim)
theorem Ym(F:Fun K "amount_from" "amount_from" Zq f fd)(O:Own mg)(T:Txt K mg tk c kr)(hU:Def P w K mg base 7 "kind_of" ["picture"] (WJ c))(gN:Def P w K mg base 7 "amount_in" ["picture","content"] (Ux K c))(mJ:Def P w K mg base 1 "read_edited" ["picture","text"] Qfh)(hV:Def P w K mg base 1 "is_figures" ["text"] VC)(gd:Def P w K mg base 2 "number_of" ["text"] wz):FnOk P w K mg base (CXE P w) 8 f fd ["content","picture"] vW:=by
 refine okE F ZU (fun vs H Q E h=>?_) (fun cdv A outer s H vs Q E hr h=>?_)
 ·obtain⟨t,p,rfl,_⟩:=h;rfl
 ·obtain⟨t,p,rfl,hk,hl,ha,k⟩:=h;have fr:=Jx (P:=P) (w:=w) (K:=K) (mg:=mg) (base:=base) (N:=["content","picture","kind","figures"]) (qual:="amount_from") (scope:=Qe Zq) (f:=f) (cd:=cdv) (A:=A) (outer:=outer) (s:=s) (H:=H) (E:=E);have hx:=QL fr;have ht:=JD fr;refine⟨_,(Qc (Qt (i:=2) ZU.nd rfl (Or.inl rfl) (hU.pe hr (by decide) rfl hx (Qa (pv 1) Qb)))
   (Qc (QM (Qj Jc (pv 2) Qk (Qm _)) (Qf (Qn (gN.pe hr (by decide) rfl hx (Qa (pv 1) (Qa (pv 0) Qb))))) Qu)
   (Qc (QM (Qj Jc (pv 2) Qk (Qm _)) (Qf (Qn (mJ.pe hr (by decide) rfl hx (Qa (pv 1) (Qa (pv 0) Qb))))) Qu)
   (Qc (Qt (i:=3) ZU.nd rfl (Or.inl rfl) (JO plainAttrs_str slot_str_strip type_str_strip zG (pv 0) (Qa Qk Qb)))
   (Qc (QM (PW.pt (Z3 (Vc (X7 (hV.pe hr (by decide) rfl hx (Qa (pv 3) Qb)))) (J7 (Qj YK (Qr Q2 rfl O.len PySem.boot_len (Qa (pv 3) Qb)) (QG (v:=V.int 18) rfl T.hZ ⟨_,rfl⟩) (Qm _))))) (Qf (J5 ht rfl rfl T.ny T.nB (Qa Qk Qb))) Qu)
   (Qf (Qn (QI (Qa (gd.pe hr (by decide) rfl hx (Qa (pv 3) Qb)) (Qa Qg Qb)))))))))),?_⟩
  refine Wy (p:=p) (fun R h=>⟨_,rfl,h⟩) fun H1 S1=>?_;dsimp only[QV,Z2,Xu,Js];refine⟨_,rfl,rfl,_,rfl,?_⟩;rw[W5,uP hk];obtain⟨x,hp,hkx,hx2⟩:=KY p;obtain⟨nr,e1,e2,e3⟩:=hx2 hk;refine QY ⟨_,rfl,_,rfl,v9 p,t,by rw[YH];rfl,X5 p,by omega,.inr ⟨x,hp,nr,?_,?_⟩⟩
  ·rw[e1,e2,e3];exact fun z=>absurd ha z
  ·rw[e1,e2,e3];exact fun _ q H2 S2 hq g=>k q H2 (S1.trans S2) g
noncomputable def vX(C:Addr):Sp:=fun vs H Q _=>∃(x dx:Addr)(lv:V)(its:List (Bool × Ly)),vs=[.ref x,lv]/\H x=some (.ins C dx [])/\Deep H lv (.tup (dvL its))/\wtL its<=10000/\szL its<=10000/\okL its/\∀(s:List Nat)(H':Hp),s.length=szL its->AreaAt C H' x lv s 4->(∀b o,H b=some o->b≠x->H' b=some o)->Q .non H'
theorem WU(F:Fun K "__init__" "Area.__init__" Zz f fd)(R:ClsR K C)(gE:Def P w K mg base 10 "signs_at_beginning" ["layout"] zm):FnOk P w K mg base (CXE P w) 11 f fd ["self","layout"] (vX C):=by
 refine okN F WS (fun vs H Q E h=>?_) (fun cdv A outer s H vs Q E hr h=>?_)
 ·obtain⟨x,dx,lv,its,rfl,_⟩:=h;rfl
 ·obtain⟨x,dx,lv,its,rfl,hx,D,hw,hs,hok,k⟩:=h;refine⟨_,(Qc (Yr (pv 0) (pv 1) rfl)
   (Qc (Yr (pv 0) (gE.pe hr (by decide) rfl Qp (QB (pv 1) Qb)) rfl)
   (Qc (Yr (pv 0) (X9 Qb) rfl)
   (Qf (Yr (pv 0) (X9 Qb) rfl))))),?_⟩
  refine⟨_,rfl,_,rfl,x,C,dx,_,rfl,hx,R.cl,R.nl,by show 0<1000;decide,?_⟩;have l1:=QW "layout" lv [];have K1:∀b o,H b=some o->b≠x->upd H x (.ins C dx (Zj "layout" lv [])) b=some o:=fun b o e n=>by rw[Ql n];exact e
  have D1:Deep (upd H x (.ins C dx (Zj "layout" lv []))) lv (.tup (dvL its)):=(Kx.Qfg hx).deep D;have g1:upd H x (.ins C dx (Zj "layout" lv [])) x=some (.ins C dx (Zj "layout" lv [])):=Qd;generalize upd H x (.ins C dx (Zj "layout" lv []))=H1 at K1 D1 g1;refine⟨_,rfl,lv,its,rfl,D1,hw,hs,hok,fun s2 H2 S2 ls2=>?_⟩;have l2:=QW "held" (.str (tx s2)) (Zj "layout" lv []);simp only[List.length_nil]at l1;refine⟨_,rfl,x,C,dx,_,rfl,S2 _ _ g1,R.cl,R.nh,by omega,?_⟩;have K3:∀b o,H b=some o->b≠x->upd H2 x (.ins C dx (Zj "held" (.str (tx s2)) (Zj "layout" lv []))) b=some o:=fun b o e n=>by rw[Ql n];exact S2 _ _ (K1 b o e n)
  have g3:upd H2 x (.ins C dx (Zj "held" (.str (tx s2)) (Zj "layout" lv []))) x=some (.ins C dx (Zj "held" (.str (tx s2)) (Zj "layout" lv []))):=Qd;generalize upd H2 x (.ins C dx (Zj "held" (.str (tx s2)) (Zj "layout" lv [])))=H3 at K3 g3;refine⟨by show 0<=sizeLine;exact tK _,fun dq hdq=>?_⟩;have nx:x≠dq:=fun z=>by rw[←z,g3]at hdq;cases hdq
  have l3:=QW "done" (.ref dq) (Zj "held" (.str (tx s2)) (Zj "layout" lv []));refine⟨_,rfl,x,C,dx,_,rfl,by rw[Ql nx];exact g3,R.cl,R.nd,by omega,?_⟩;refine⟨by show 0<=sizeLine;exact tK _,fun uq huq=>?_⟩;have nx2:x≠uq:=fun z=>by rw[←z,Qd]at huq;cases huq
  have nd2:dq≠uq:=fun z=>by rw[←z,Ql nx.symm,Qd]at huq;cases huq
  have hu3:H3 uq=none:=by rw[Ql nx2.symm,Ql nd2.symm]at huq;exact huq
  refine⟨_,rfl,x,C,dx,_,rfl,by rw[Ql nx2,Qd],R.cl,R.nu,by omega,?_⟩;refine k s2 _ ls2 ⟨dx,_,dq,uq,[],Qd,FdA.mk0 lv (tx s2) dq uq,?_,tK _⟩ fun b o e n=>?_
  ·rw[Ql nx.symm,Ql nd2,Ql nx.symm,Qd]
  ·have e3:=K3 b o e n;rw[Ql n,Ql (Qv e3 hu3),Ql n,Ql (Qv e3 hdq)];exact e3
noncomputable def W6(C:Addr):Sp:=fun vs H Q _=>∃(x:Addr)(wd:Str)(s2:List Nat)(lv:V)(s:List Nat)(n:Nat),vs=[.ref x,.str wd,.str (tx s2)]/\AreaAt C H x lv s n/\n<=900/\∀H',Kx H H'->AreaAt C H' x lv s2 (n+2)->Q .non H'
theorem Yn(F:Fun K "change" "Area.change" Xj f fd)(R:ClsR K C):FnOk P w K mg base (CXE P w) 1 f fd ["self","word","held"] (W6 C):=by
 refine okN F Ye (fun vs H Q E h=>?_) (fun cdv A outer s H vs Q E hr h=>?_)
 ·obtain⟨x,wd,s2,lv,s,n,rfl,_⟩:=h;rfl
 ·obtain⟨x,wd,s2,lv,s1,n,rfl,AA,hn,k⟩:=h;have hz:100000<=sizeLine:=by rw[sizeLine_eq];decide
  obtain⟨dx,fs,dq,uq,ds,hx,F1,g,l⟩:=AA.ob;have lf:=F1.ln;refine⟨_,(Qc (Jb (JO plainAttrs_list PySem.F.slot_list_append PySem.F.type_list_append JC (Xy (pv 0) rfl) (QB (QI (QB (pv 1) (QB (Xy (pv 0) rfl) Qb))) Qb)))
   (Qc (Yr (pv 0) (X9 Qb) rfl)
   (Qf (Yr (pv 0) (pv 2) rfl)))),?_⟩
  refine⟨_,rfl,x,C,dx,fs,_,rfl,hx,R.cl,R.nd,F1.dn,.inl ⟨rfl,_,.inl (.inl g)⟩,?_⟩;refine⟨_,rfl,_,rfl,x,C,dx,fs,_,rfl,hx,R.cl,R.nh,F1.hd,sL2,fun p hp=>?_⟩;have S1:=Qo.new (o:=.tup [.str wd,.str (tx s1)]) hp;refine⟨dq,ds,.ref p,rfl,rfl,S1 _ _ g,by omega,?_⟩;have nxd:x≠dq:=fun z=>by rw[z,g]at hx;cases hx
  have k2:Kx H (upd (upd H p (.tup [.str wd,.str (tx s1)])) dq (.lst (ds++[.ref p]))):=(Kx.of S1).trans (Kx.jY (S1 _ _ g));have g2:upd (upd H p (.tup [.str wd,.str (tx s1)])) dq (.lst (ds++[.ref p])) dq=some (.lst (ds++[.ref p])):=Qd;have hx2:upd (upd H p (.tup [.str wd,.str (tx s1)])) dq (.lst (ds++[.ref p])) x=some (.ins C dx fs):=by rw[Ql nxd];exact S1 _ _ hx
  generalize upd (upd H p (.tup [.str wd,.str (tx s1)])) dq (.lst (ds++[.ref p]))=H2 at k2 g2 hx2;refine⟨by show 0<=sizeLine;exact tK _,fun q hq=>?_⟩;have S3:=Qo.new (o:=.lst []) hq;refine⟨_,rfl,x,C,dx,fs,rfl,S3 _ _ hx2,R.cl,R.nu,by omega,?_⟩;have l2:=QW "undone" (.ref q) fs;have hx3:upd (upd H2 q (.lst [])) x (.ins C dx (Zj "undone" (.ref q) fs)) x=some (.ins C dx (Zj "undone" (.ref q) fs)):=Qd;have g3:upd (upd H2 q (.lst [])) x (.ins C dx (Zj "undone" (.ref q) fs)) dq=some (.lst (ds++[.ref p])):=by rw[Ql nxd.symm];exact S3 _ _ g2
  have k3:=(k2.trans (Kx.of S3)).trans (Kx.Qfg (o:=.ins C dx (Zj "undone" (.ref q) fs)) (S3 _ _ hx2));generalize upd (upd H2 q (.lst [])) x (.ins C dx (Zj "undone" (.ref q) fs))=H3 at hx3 g3 k3;refine⟨_,rfl,_,rfl,x,C,dx,_,rfl,hx3,R.cl,R.nh,by omega,?_⟩;exact k _ (k3.trans (Kx.Qfg hx3)) ⟨dx,_,dq,q,_,Qd,F1.change,by rw[Ql nxd.symm];exact g3,by rw[uM,uS];omega⟩
end
theorem V7{H:Hp}{u:V}{n:Nat}{y:Ly}(D:Deep H u (Qbf n y)):∃q z,u=.ref q/\H q=some (.tup [.int (n:Nat),.int (je y:Nat),z])/\Deep H z (vG y):=by
 obtain⟨a,xs,rfl,g,t⟩:=Deep.VW (show Deep H u (.tup [.int (n:Nat),.int (je y:Nat),vG y])from D);cases t with
 |cons p1 t=>cases t with
  |cons p2 t=>cases t with
   |cons p3 t=>
    cases t;obtain rfl:=p1.QcV;obtain rfl:=p2.QcV;exact⟨a,_,rfl,g,p3⟩
structure At(C:Addr)(H:Hp)(x:Addr)(lv wv:V)(s:List Nat)(k:Nat)(its:List (Bool × Ly))(ss:List Step)(n:Nat)(nm:Str)(p:Nat):Prop where
 ar:AreaAt C H x lv s k
 dl:Deep H lv (.tup (dvL its))
 dp:Deep H wv (XV ss)
 bd:LyBd its
 rs:Res its ss n (.box nm p)
 ls:ss.length<=1000
 len:s.length<=10000
 rm:n+szP p<=s.length
noncomputable def part(s:List Nat)(n k:Nat):List Nat:=(s.drop n).take k
section
variable {P:Program}{w:World}{K:PySem.W.Frag}{mg:Str->Option Value}{base:Heap}{f:Addr}{fd:FuncData}{tk:Nat->Tok}{c kr:Nat->Addr}{C:Addr}
theorem W7{E:XK}{σ:L2.St}{H:Hp}{Q:VK}{te tf:TE}{x:Addr}{lv wv:V}{s:List Nat}{k:Nat}{its:List (Bool × Ly)}{ss:List Step}{n:Nat}{nm:Str}{p:Nat}(A:At C H x lv wv s k its ss n nm p)(he:∀R:VK,R lv H->te σ H R) (hf:∀R:VK,R wv H->tf σ H R)
  (kk:∀q H',Qo H H'->H' q=some (.tup [.int (n:Nat),.int (szP p:Nat),.str (YG p)])->Q (.ref q) H'):V8 XW [] E (Jn te (Jn tf WV)) σ H Q:=by
 refine he _ (hf _ ?_);refine⟨lv,wv,its,ss,n,_,rfl,A.dl,A.dp,A.bd,A.rs,A.ls,fun u H' S D=>?_⟩;obtain⟨q,z,rfl,g,Dz⟩:=V7 D;obtain rfl:=Deep.z6 (show Deep H' z (.str (YG p))from Dz);exact kk q H' S g
noncomputable def QcN(C:Addr):Sp:=fun vs H Q _=>∃(x:Addr)(lv wv:V)(s:List Nat)(k:Nat)(its:List (Bool × Ly))(ss:List Step)(n:Nat)(nm:Str)(p:Nat),vs=[.ref x,wv]/\At C H x lv wv s k its ss n nm p/\∀H',Qo H H'->Q (.str (tx (part s n (szP p)))) H'
theorem zn(F:Fun K "get" "Area.get" Wj f fd)(R:ClsR K C)(gh:Def P w K mg base 12 "where" ["layout","path"] XW):FnOk P w K mg base (CXE P w) 13 f fd ["self","path"] (QcN C):=by
 refine okN F Xg (fun vs H Q E h=>?_) (fun cdv A outer s H vs Q E hr h=>?_)
 ·obtain⟨x,lv,wv,s,k,its,ss,n,nm,p,rfl,_⟩:=h;rfl
 ·obtain⟨x,lv,wv,s1,k,its,ss,n,nm,p,rfl,A1,kk⟩:=h;have hz:100000<=sizeLine:=by rw[sizeLine_eq];decide
  obtain⟨dx,fs,dq,uq,ds,hx,F1,g,l⟩:=A1.ar.ob;have hl:=A1.len;have hrm:=A1.rm;refine⟨_,(Qc (Q0 (gh.pe hr (by decide) rfl Qp (QB (Xy (pv 0) rfl) (QB (pv 1) Qb))) (QN rfl (Qh (Qi (i:=2) Xg.nd rfl (Or.inl rfl)) (Qh (Qi (i:=3) Xg.nd rfl (Or.inl rfl)) (Qh (Qi (i:=4) Xg.nd rfl (Or.inl rfl)) QA)))))
   (Qf (Qn (QZ ZF (Xy (pv 0) rfl) (QX (pv 2)) (QX (QC Jd (pv 2) (pv 3))))))),?_⟩
  refine W7 A1 (fun R' h=>⟨_,rfl,x,C,dx,fs,_,rfl,hx,R.cl,R.nl,F1.ly,h⟩) (fun R' h=>⟨_,rfl,h⟩) fun q H1 S1 gq=>?_;refine⟨q,_,rfl,.inl (.inl gq),rfl,_,_,rfl,_,_,rfl,_,_,rfl,rfl,?_⟩;dsimp only[QV,Z2,Xu,Js];refine⟨_,rfl,x,C,dx,fs,_,rfl,S1 _ _ hx,R.cl,R.nh,F1.hd,_,rfl,_,rfl,_,rfl,_,rfl,_,_,rfl,rfl,_,rfl,tx s1,rfl,by rw[Qq];omega,?_⟩;rw[show((n:Nat):Int)+((szP p:Nat):Int)=((n+szP p:Nat):Int) by omega,ZX s1 (by omega) (by omega),show n+szP p-n=szP p by omega];exact kk _ S1
noncomputable def vY(C:Addr):Sp:=fun vs H Q _=>∃(x:Addr)(lv wv:V)(s:List Nat)(k:Nat)(its:List (Bool × Ly))(ss:List Step)(n:Nat)(nm:Str)(p:Nat),vs=[.ref x,wv]/\At C H x lv wv s k its ss n nm p/\kdP p=2/\xY (sgP p) (bfP p) (bhP p) (part s n (szP p))/\
 ∀q H',Qo H H'->H' q=some (.tup [.int (ZB (sgP p) (part s n (szP p))),.int (bhP p:Nat)])->Q (.ref q) H'
theorem Yo(F:Fun K "amount" "Area.amount" Zr f fd)(R:ClsR K C)(T:Txt K mg tk c kr)(gh:Def P w K mg base 12 "where" ["layout","path"] XW)(gs:Def P w K mg base 8 "check_kind" ["picture","kinds"] (UV kr))(mK:Def P w K mg base 8 "amount_from" ["content","picture"] vW):FnOk P w K mg base (CXE P w) 13 f fd ["self","path"] (vY C):=by
 refine okE F J6 (fun vs H Q E h=>?_) (fun cdv A outer s H vs Q E hr h=>?_)
 ·obtain⟨x,lv,wv,s,k,its,ss,n,nm,p,rfl,_⟩:=h;rfl
 ·obtain⟨x,lv,wv,s1,k,its,ss,n,nm,p,rfl,A1,hkd,ha,kk⟩:=h;have fr:=Jx (P:=P) (w:=w) (K:=K) (mg:=mg) (base:=base) (N:=["self","path","start","size","picture"]) (qual:="Area.amount") (scope:=Qe Zr) (f:=f) (cd:=cdv) (A:=A) (outer:=outer) (s:=s) (H:=H) (E:=E);have hx0:=QL fr;have hx:=QL fr;have hz:100000<=sizeLine:=by rw[sizeLine_eq];decide
  obtain⟨dx,fs,dq,uq,ds,hx1,F1,g,l⟩:=A1.ar.ob;have hl:=A1.len;have hrm:=A1.rm;have hsz:=Xo p;refine⟨_,(Qc (Q0 (gh.pe hr (by decide) rfl hx (QB (Xy (pv 0) rfl) (QB (pv 1) Qb))) (QN rfl (Qh (Qi (i:=2) J6.nd rfl (Or.inl rfl)) (Qh (Qi (i:=3) J6.nd rfl (Or.inl rfl)) (Qh (Qi (i:=4) J6.nd rfl (Or.inl rfl)) QA)))))
   (Qc (Jb (gs.pe hr (by decide) rfl hx (QB (pv 4) (QB (QG (v:=V.ref (kr 6)) rfl T.gj rfl) Qb))))
   (Qf (Qn (mK.pe hr (by decide) rfl hx (QB (QZ ZF (Xy (pv 0) rfl) (QX (pv 2)) (QX (QC Jd (pv 2) (pv 3)))) (QB (pv 4) Qb))))))),?_⟩
  refine W7 A1 (fun R' h=>⟨_,rfl,x,C,dx,fs,_,rfl,hx1,R.cl,R.nl,F1.ly,h⟩) (fun R' h=>⟨_,rfl,h⟩) fun q H1 S1 gq=>?_;refine⟨q,_,rfl,.inl (.inl gq),rfl,_,_,rfl,_,_,rfl,_,_,rfl,rfl,?_⟩;dsimp only[QV,Z2,Xu,Js];refine⟨_,rfl,p,rfl,.inl hkd,fun H2 S2=>?_⟩;have S12:=S1.trans S2;refine⟨_,rfl,x,C,dx,fs,_,rfl,S12 _ _ hx1,R.cl,R.nh,F1.hd,_,rfl,_,rfl,_,rfl,_,rfl,_,_,rfl,rfl,_,rfl,tx s1,rfl,by rw[Qq];omega,?_⟩;rw[show((n:Nat):Int)+((szP p:Nat):Int)=((n+szP p:Nat):Int) by omega,ZX s1 (by omega) (by omega),show n+szP p-n=szP p by omega];refine⟨_,rfl,part s1 n (szP p),p,rfl,hkd,by unfold part;rw[uY];omega,ha,fun q3 H3 S3 g3=>kk q3 H3 (S12.trans S3) g3⟩
theorem Qbg:("change":Str)≠"layout"/\("change":Str)≠"held"/\("change":Str)≠"done"/\("change":Str)≠"undone":=by decide+kernel
noncomputable def vZ(C:Addr):Sp:=fun vs H Q _=>∃(x:Addr)(lv wv:V)(s:List Nat)(k:Nat)(its:List (Bool × Ly))(ss:List Step)(n:Nat)(nm:Str)(p:Nat)(t:List Nat),vs=[.ref x,wv,.str (tx t)]/\At C H x lv wv s k its ss n nm p/\k<=900/\t.length=szP p/\
 ∀H',Kx H H'->AreaAt C H' x lv (lay s n t) (k+2)->Q .non H'
theorem jl(F:Fun K "load" "Area.load" Xh f fd)(R:ClsR K C)(O:Own mg)(T:Txt K mg tk c kr)(gh:Def P w K mg base 12 "where" ["layout","path"] XW)(gz:Def P w K mg base 1 "with_signs" ["held","start","text"] xq)(gg:DefM P w K mg base C 1 "change" ["self","word","held"] (W6 C)):FnOk P w K mg base (CXE P w) 13 f fd ["self","path","text"] (vZ C):=by
 refine okE F ZK (fun vs H Q E h=>?_) (fun cdv A outer s H vs Q E hr h=>?_)
 ·obtain⟨x,lv,wv,s,k,its,ss,n,nm,p,t,rfl,_⟩:=h;rfl
 ·obtain⟨x,lv,wv,s1,k,its,ss,n,nm,p,t,rfl,A1,hk9,hlt,kk⟩:=h;have fr:=Jx (P:=P) (w:=w) (K:=K) (mg:=mg) (base:=base) (N:=["self","path","text","start","size","picture"]) (qual:="Area.load") (scope:=Qe Xh) (f:=f) (cd:=cdv) (A:=A) (outer:=outer) (s:=s) (H:=H) (E:=E);have hx:=QL fr;have ht:=JD fr;have hz:100000<=sizeLine:=by rw[sizeLine_eq];decide
  obtain⟨dx,fs,dq,uq,ds,hx1,F1,g,l⟩:=A1.ar.ob;have hl:=A1.len;have hrm:=A1.rm;have hsz:=Xo p;refine⟨_,(Qc (Q0 (gh.pe hr (by decide) rfl hx (QB (Xy (pv 0) rfl) (QB (pv 1) Qb))) (QN rfl (Qh (Qi (i:=3) ZK.nd rfl (Or.inl rfl)) (Qh (Qi (i:=4) ZK.nd rfl (Or.inl rfl)) (Qh (Qi (i:=5) ZK.nd rfl (Or.inl rfl)) QA)))))
   (Qc (QM (Qj Z5 (Qr Q2 rfl O.len PySem.boot_len (QB (pv 2) Qb)) (pv 4) (Qm _)) (Qf (J5 ht rfl rfl T.rW T.rX (QB Qk Qb))) Qu)
   (Qf (Jb (gg.pe hr (by decide) hx (pv 0) (QB Qk (QB (gz.pe hr (by decide) rfl hx (QB (Xy (pv 0) rfl) (QB (pv 3) (QB (pv 2) Qb)))) Qb))))))),?_⟩
  refine W7 A1 (fun R' h=>⟨_,rfl,x,C,dx,fs,_,rfl,hx1,R.cl,R.nl,F1.ly,h⟩) (fun R' h=>⟨_,rfl,h⟩) fun q H1 S1 gq=>?_;refine⟨q,_,rfl,.inl (.inl gq),rfl,_,_,rfl,_,_,rfl,_,_,rfl,rfl,?_⟩;dsimp only[QV,Z2,Xu,Js];refine⟨_,rfl,tx t,rfl,by rw[Qq];omega,_,rfl,rfl,_,rfl,?_⟩;rw[Qq,hlt,uP rfl];refine QO ?_;refine⟨_,rfl,x,dx,fs,rfl,S1 _ _ hx1,F1.no _ Qbg.1 Qbg.2.1 Qbg.2.2.1 Qbg.2.2.2,?_⟩;refine⟨_,rfl,x,C,dx,fs,_,rfl,S1 _ _ hx1,R.cl,R.nh,F1.hd,_,rfl,_,rfl,s1,t,n,rfl,by omega,by omega,by omega,?_⟩;exact⟨x,"load",_,lv,s1,k,rfl,A1.ar.same S1,hk9,fun H2 K2 A2=>kk H2 ((Kx.of S1).trans K2) A2⟩
noncomputable def jm(K:PySem.W.Frag)(C:Addr):Sp:=fun vs H Q _=>∃(x:Addr)(lv wv:V)(s:List Nat)(k:Nat)(its:List (Bool × Ly))(ss:List Step)(n:Nat)(nm:Str)(p:Nat)(a:Addr)(u:Int)(o:Nat),vs=[.ref x,wv,.ref a]/\At C H x lv wv s k its ss n nm p/\k<=900/\Amt K H a u o/\(kdP p=2\/kdP p=3)/\
 ∀H',Kx H H'->AreaAt C H' x lv (lay s n (putL p u o)) (k+2)->Q .non H'
theorem WP(F:Fun K "give" "Area.give" Xi f fd)(R:ClsR K C)(T:Txt K mg tk c kr)(gh:Def P w K mg base 12 "where" ["layout","path"] XW)(gs:Def P w K mg base 8 "check_kind" ["picture","kinds"] (UV kr))(pX:Def P w K mg base 8 "put" ["picture","amount"] (QaR K))(gz:Def P w K mg base 1 "with_signs" ["held","start","text"] xq)(gg:DefM P w K mg base C 1 "change" ["self","word","held"] (W6 C)):FnOk P w K mg base (CXE P w) 13 f fd ["self","path","amount"] (jm K C):=by
 refine okE F ZL (fun vs H Q E h=>?_) (fun cdv A outer s H vs Q E hr h=>?_)
 ·obtain⟨x,lv,wv,s,k,its,ss,n,nm,p,a,u,o,rfl,_⟩:=h;rfl
 ·obtain⟨x,lv,wv,s1,k,its,ss,n,nm,p,a,u,o,rfl,A1,hk9,M,hkd,kk⟩:=h;have fr:=Jx (P:=P) (w:=w) (K:=K) (mg:=mg) (base:=base) (N:=["self","path","amount","start","size","picture"]) (qual:="Area.give") (scope:=Qe Xi) (f:=f) (cd:=cdv) (A:=A) (outer:=outer) (s:=s) (H:=H) (E:=E);have hx:=QL fr;have hz:100000<=sizeLine:=by rw[sizeLine_eq];decide
  obtain⟨dx,fs,dq,uq,ds,hx1,F1,g,l⟩:=A1.ar.ob;have hl:=A1.len;have hrm:=A1.rm;have hsz:=Xo p;have hpl:=W4 u o hkd;refine⟨_,(Qc (Q0 (gh.pe hr (by decide) rfl hx (QB (Xy (pv 0) rfl) (QB (pv 1) Qb))) (QN rfl (Qh (Qi (i:=3) ZL.nd rfl (Or.inl rfl)) (Qh (Qi (i:=4) ZL.nd rfl (Or.inl rfl)) (Qh (Qi (i:=5) ZL.nd rfl (Or.inl rfl)) QA)))))
   (Qc (Jb (gs.pe hr (by decide) rfl hx (QB (pv 5) (QB (QG (v:=V.ref (kr 6)) rfl T.gj rfl) Qb))))
   (Qf (Jb (gg.pe hr (by decide) hx (pv 0) (QB Qk (QB (gz.pe hr (by decide) rfl hx (QB (Xy (pv 0) rfl) (QB (pv 3) (QB (pX.pe hr (by decide) rfl hx (QB (pv 5) (QB (pv 2) Qb))) Qb)))) Qb))))))),?_⟩
  refine W7 A1 (fun R' h=>⟨_,rfl,x,C,dx,fs,_,rfl,hx1,R.cl,R.nl,F1.ly,h⟩) (fun R' h=>⟨_,rfl,h⟩) fun q H1 S1 gq=>?_;refine⟨q,_,rfl,.inl (.inl gq),rfl,_,_,rfl,_,_,rfl,_,_,rfl,rfl,?_⟩;dsimp only[QV,Z2,Xu,Js];refine⟨_,rfl,p,rfl,hkd,fun H2 S2=>?_⟩;have S12:=S1.trans S2;refine⟨_,rfl,x,dx,fs,rfl,S12 _ _ hx1,F1.no _ Qbg.1 Qbg.2.1 Qbg.2.2.1 Qbg.2.2.2,?_⟩;refine⟨_,rfl,x,C,dx,fs,_,rfl,S12 _ _ hx1,R.cl,R.nh,F1.hd,_,rfl,_,rfl,_,rfl,p,a,u,o,rfl,M.same S12,hkd,fun H3 S3=>?_⟩;refine⟨s1,putL p u o,n,rfl,by omega,by omega,by omega,?_⟩;have S13:=S12.trans S3;exact⟨x,"give",_,lv,s1,k,rfl,A1.ar.same S13,hk9,fun H2 K2 A2=>kk H2 ((Kx.of S13).trans K2) A2⟩
noncomputable def UX(C:Addr):Sp:=fun vs H Q _=>∃(x:Addr)(lv:V)(s:List Nat)(k:Nat),vs=[.ref x]/\AreaAt C H x lv s k/\Q (.str (tx s)) H
theorem UY(F:Fun K "signs" "Area.signs" XN f fd)(R:ClsR K C):FnOk P w K mg base (CXE P w) 1 f fd ["self"] (UX C):=by
 refine okN F Ua (fun vs H Q E h=>?_) (fun cdv A outer s H vs Q E hr h=>?_)
 ·obtain⟨x,lv,s,k,rfl,_⟩:=h;rfl
 ·obtain⟨x,lv,s1,k,rfl,A1,kk⟩:=h;obtain⟨dx,fs,dq,uq,ds,hx,F1,g,l⟩:=A1.ob;refine⟨_,(Qf (Qn (Xy (pv 0) rfl))),?_⟩;exact⟨_,rfl,x,C,dx,fs,_,rfl,hx,R.cl,R.nh,F1.hd,kk⟩
end
section
variable {P:Program}{w:World}{K:PySem.W.Frag}{mg:Str->Option Value}{base:Heap}{f:Addr}{fd:FuncData}{tk:Nat->Tok}{c kr:Nat->Addr}
noncomputable def UZ(K:PySem.W.Frag):Sp:=fun vs H Q _=>∃(a t r:Addr)(ns:List Int)(c figs far:Int)(rs:List (Key × V)),vs=[.ref a,.ref t,.int figs,.int far]/\SqL K H a (ns.map V.int)/\TownAt H t r c rs/\a≠t/\a≠r/\ns.length<=63/\c<90000/\0<=figs/\figs<=9/\0<=far/\far<=9/\
 ∀(u o c':Int)(rs':List (Key × V))(H':Hp)(q:Addr),u.natAbs<10^9->0<=o->o<=far->H q=none->H' q=some (.tup [.int u,.int o])->TownAt H' t r c' rs'->c'<=c+20->Apart t r H H'->Q (.ref q) H'
theorem WA(F:Fun K "_law_an_amount" "_law_an_amount" Zg f fd)(O:Own mg)(hG:Def P w K mg base 1 "_law_draw" ["_law_script","_law_town","_law_many"] (WG K)):
  FnOk P w K mg base (CXE P w) 2 f fd ["_law_script","_law_town","_law_figures","_law_far"] (UZ K):=by
 refine okN F Jv (fun vs H Q E h=>?_) (fun cdv A outer s H vs Q E hr h=>?_)
 ·obtain⟨a,t,r,ns,c,figs,far,rs,rfl,_⟩:=h;rfl
 ·obtain⟨a,t,r,ns,c,figs,far,rs,rfl,hS,T,nat,nar,hl,hc,hf0,hf1,hg0,hg1,k⟩:=h;refine⟨_,(Qc (U7 (i:=4) (j:=5) rfl Jv.nd rfl rfl (by decide) rfl rfl (Qa Qg (Qa (hG.pe hr (by decide) rfl Qp (Qa (pv 0) (Qa (pv 1) (Qa (QC Jd (pv 3) Qg) Qb)))) Qb)) rfl)
   (Qc (Xq PassesOwn.never rfl (Xw rfl O.range (Qa (hG.pe hr (by decide) rfl Qp (Qa (pv 0) (Qa (pv 1) (Qa (QC Jd (pv 2) Qg) Qb)))) Qb)) (Qi (i:=6) Jv.nd rfl (Or.inl rfl)) (Qf (Qt (i:=4) Jv.nd rfl (Or.inl rfl) (QC Jd (QC WE (pv 4) Qg) (hG.pe hr (by decide) rfl Qp (Qa (pv 0) (Qa (pv 1) (Qa Qg Qb))))))))
   (Qf (Qn (QI (Qa (Jj (Qj Jc (hG.pe hr (by decide) rfl Qp (Qa (pv 0) (Qa (pv 1) (Qa Qg Qb)))) Qg (Qm _)) (pv 4) (QC Vg Qg (pv 4))) (Qa (pv 5) Qb))))))),?_⟩
  refine⟨_,rfl,_,rfl,_,rfl,_,_,rfl,rfl,a,t,r,ns,c,_,rs,rfl,hS,T,nat,nar,hl,by omega,by omega,by omega,fun o rs1 H1 o0 o1 T1 A1=>⟨_,_,rfl,?_⟩⟩;refine⟨_,rfl,_,rfl,_,rfl,_,_,rfl,rfl,a,t,r,ns,_,_,rs1,rfl,A1.seq hS nat nar,T1,nat,nar,hl,by omega,by omega,by omega,fun n rs2 H2 n0 n1 T2 A2=>?_⟩;refine⟨n,rfl,by omega,by omega,U9 (n:=n.toNat) (fun i σ H3=>∃z x c3 rs3,σ=[some (.ref a),some (.ref t),some (.int figs),some (.int far),some (.int z),some (.int o),x]/\0<=z/\z<10^i/\TownAt H3 t r c3 rs3/\c3<=c+2+i/\Apart t r H H3)
   ⟨0,none,_,rs2,rfl,by decide,by decide,T2,by omega,A1.trans A2⟩ ?_ ?_⟩
  ·rintro i σ H3 hi ⟨z,x,c3,rs3,rfl,z0,z1,T3,hc3,A3⟩;refine⟨_,rfl,_,_,rfl,rfl,.inr ⟨by decide,by decide⟩,_,rfl,_,rfl,a,t,r,ns,c3,_,rs3,rfl,A3.seq hS nat nar,T3,nat,nar,hl,by omega,by decide,by decide,fun d rs4 H4 d0 d1 T4 A4=>?_⟩;refine⟨_,_,rfl,rfl,_,_,_,rs4,rfl,by omega,?_,T4,by omega,A3.trans A4⟩;rw[Int.pow_succ];omega
  ·rintro σ H3 ⟨z,x,c3,rs3,rfl,z0,z1,T3,hc3,A3⟩;have zb:z<10^9:=Int.lt_of_lt_of_le z1 (by
    have:n.toNat<=9:=by omega
    have h:=Nat.pow_le_pow_right (n:=10) (by decide) this
    exact_mod_cast h)
   refine⟨_,rfl,_,rfl,a,t,r,ns,c3,_,rs3,rfl,A3.seq hS nat nar,T3,nat,nar,hl,by omega,by decide,by decide,fun d rs4 H4 d0 d1 T4 A4=>?_⟩;refine⟨rfl,_,rfl,?_⟩;refine ifB (fun g=>?_) (fun g=>?_)
   ·refine⟨_,rfl,_,rfl,by show 2<=sizeLine;decide,fun q hq=>?_⟩;exact k z o _ rs4 _ q (by omega) o0 (by omega) (jg (A3.trans A4) T4 hq) Qd (T4.same (Qo.new hq)) (by omega) ((A3.trans A4).trans (.of (Qo.new hq)))
   ·refine⟨_,rfl,_,_,rfl,rfl,_,rfl,by show 2<=sizeLine;decide,fun q hq=>?_⟩;exact k (0-z) o _ rs4 _ q (by omega) o0 (by omega) (jg (A3.trans A4) T4 hq) Qd (T4.same (Qo.new hq)) (by omega) ((A3.trans A4).trans (.of (Qo.new hq)))
end
theorem U0{s t:List Nat}{n:Nat}(h:n<=s.length):part (lay s n t) n t.length=t:=by
 unfold part lay;rw[tq,List.drop_append_of_le_length (by rw[uY];omega),List.drop_eq_nil_of_le (by rw[uY];omega),tE,List.take_left]
theorem zo{s t:List Nat}{n:Nat}(h:n+t.length<=s.length):(lay s n t).length=s.length:=by
 unfold lay;rw[uM,uM,uY,uZ];omega
theorem QcO:∀(d:Nat)(its:List (Bool × Ly)),Good d its->∀pre,bxL its pre≠[]:=by
 intro d
 induction d with
 |zero=>
  intro its hg pre;obtain⟨hne,_,hx⟩:=hg;cases its with
  |nil=>exact absurd rfl hne
  |cons x xs=>
   obtain⟨nm,p,e⟩:=hx x uX;obtain⟨o,y⟩:=x;have e:y=.box nm p:=e;subst e;rw[bxL,bxI,Ly.bx];exact fun z=>nomatch z
 |succ d ih=>
  intro its hg pre;obtain⟨hne,_,hx⟩:=hg;cases its with
  |nil=>exact absurd rfl hne
  |cons x xs=>
   obtain⟨o,y⟩:=x;rw[bxL,bxI];rcases hx (o,y) uX with⟨nm,p,e⟩|⟨nm,in_,e,hgi⟩|⟨nm,k,in_,e,hk1,hk3,hgi⟩
   ·have e:y=.box nm p:=e;subst e;rw[Ly.bx];exact fun z=>nomatch z
   ·have e:y=.grp nm in_:=e;subst e;rw[Ly.bx];intro z;exact ih in_ hgi _ (List.append_eq_nil_iff.mp z).1
   ·have e:y=.tab nm k in_:=e;subst e;rw[Ly.bx];intro z;have z1:=(List.append_eq_nil_iff.mp z).1;obtain⟨k',rfl⟩:∃k',k=k'+1:=⟨k-1,by omega⟩;rw[List.range_succ_eq_map,List.flatMap_cons]at z1;exact ih in_ hgi _ (List.append_eq_nil_iff.mp z1).1
noncomputable def szB:Nat->Nat
 |0=>16
 |d+1=>4*(3*szB d)
theorem zp:∀(d:Nat)(its:List (Bool × Ly)),Good d its->szL its<=szB d
 |0,its,h=>by
  obtain⟨_,hp,hx⟩:=h;have hl:=hp.len;have:=V5 (g:=szI) (gl:=szL) (by rw[szL]) (fun x xs=>by rw[szL]) (B:=4) (its:=its) fun x hx'=>by
   obtain⟨o,y⟩:=x;obtain⟨nm,p,e⟩:=hx _ hx';have e:y=.box nm p:=e;rw[szI,e,Ly.sz];have:=Xo p
   split<;>omega
  show szL its<=16;omega
 |d+1,its,h=>by
  obtain⟨_,hp,hx⟩:=h;have hl:=hp.len;have h16:16<=szB d:=by
   have:∀d,16<=szB d:=by
    intro d
    induction d with
    |zero=>exact uQ _
    |succ d ih=>show 16<=4*(3*szB d);omega
   exact this d
  have:=V5 (g:=szI) (gl:=szL) (by rw[szL]) (fun x xs=>by rw[szL]) (B:=3*szB d) (its:=its) fun x hx'=>by
   obtain⟨o,y⟩:=x;rw[szI]
   split
   ·exact tK _
   rcases hx (o,y) hx' with⟨nm,p,e⟩|⟨nm,in_,e,hg⟩|⟨nm,k,in_,e,hk1,hk3,hg⟩
   ·have e:y=.box nm p:=e;rw[e,Ly.sz];have:=Xo p;omega
   ·have e:y=.grp nm in_:=e;rw[e,Ly.sz];have:=zp d in_ hg;omega
   ·have e:y=.tab nm k in_:=e;rw[e,Ly.sz];have h1:=zp d in_ hg;have:szL in_*k<=szB d*3:=Nat.mul_le_mul h1 hk3;omega
  show szL its<=4*(3*szB d);exact Nat.le_trans this (Nat.mul_le_mul_right _ hl)
theorem xr{α:Type}(f:Nat->List α)(B:Nat)(h:∀i,(f i).length<=B):∀k,((List.range k).flatMap f).length<=k*B
 |0=>by rw[List.range_zero,List.flatMap_nil];exact tK _
 |k+1=>by
  have h1:=xr f B h k;have h2:=h k;rw[List.range_succ,List.flatMap_append,uM,List.flatMap_singleton,Nat.succ_mul];omega
mutual
theorem Ly.Qec:∀(y:Ly)(pre:List Step),(y.bx pre).length<=y.wt
 | .box nm p,pre=>by rw[Ly.bx,Ly.wt];exact uQ _
 | .grp nm its,pre=>by
  have:=U1 its (pre++[(nm,none)]);rw[Ly.bx,Ly.wt];omega
 | .tab nm k its,pre=>by
  have:=xr (fun i=>bxL its (pre++[(nm,some i)])) (wtL its) (fun i=>U1 its (pre++[(nm,some i)])) k;rw[Ly.bx,Ly.wt];omega
theorem U1:∀(its:List (Bool × Ly))(pre:List Step),(bxL its pre).length<=wtL its
 |[],pre=>by rw[bxL,wtL];exact uQ _
 |x::xs,pre=>by
  have h1:=QcP x pre;have h2:=U1 xs pre;rw[bxL,wtL,uM];omega
theorem QcP:∀(x:Bool × Ly)(pre:List Step),(bxI x pre).length<=wtI x
 |(_,y),pre=>by rw[bxI,wtI];exact y.Qec pre
end
structure LwSt(C:Addr)(H0 H:Hp)(a t r:Addr)(ns:List Int)(c:Int)(x:Addr)(lv:V)(s:List Nat)(k:Nat):Prop where
 fz:∃o,H a=some (.frz o (.lst (ns.map V.int)))
 tw:∃rs,TownAt H t r c rs
 ln:ns.length<=63
 kt:∀b ys,H0 b=some (.tup ys)->H b=some (.tup ys)
 ar:AreaAt C H x lv s k
section
variable {K:PySem.W.Frag}{C:Addr}{H0 H H':Hp}{a t r:Addr}{ns:List Int}{c c':Int}{x:Addr}{lv:V}{s s':List Nat}{k k':Nat}
theorem LwSt.bag(S:LwSt C H0 H a t r ns c x lv s k):Bag K H a t r ns c:=by
 obtain⟨o,h⟩:=S.fz;obtain⟨rs,T⟩:=S.tw;exact⟨.inl (.inr ⟨o,h⟩),S.tw,(fun z=>by rw[z,T.tw]at h;cases h),(fun z=>by rw[z,T.rt]at h;cases h),S.ln⟩
theorem LwSt.same(S:LwSt C H0 H a t r ns c x lv s k)(e:Qo H H'):LwSt C H0 H' a t r ns c x lv s k:=by
 obtain⟨o,h⟩:=S.fz;obtain⟨rs,T⟩:=S.tw;exact⟨⟨o,e _ _ h⟩,⟨rs,T.same e⟩,S.ln,fun b ys q=>e _ _ (S.kt b ys q),S.ar.same e⟩
theorem LwSt.Qfi(S:LwSt C H0 H a t r ns c x lv s k)(A:Apart t r H H'){rs':List (Key × V)}(T':TownAt H' t r c' rs'):LwSt C H0 H' a t r ns c' x lv s k:=by
 obtain⟨o,h⟩:=S.fz;obtain⟨rs,T⟩:=S.tw;have keep:∀b o,H b=some o->(∀kvs,o≠ .dK kvs)->H' b=some o:=fun b o e n=>A b o e (fun z=>by rw[z,T.tw]at e;exact n _ (uR e).symm) (fun z=>by rw[z,T.rt]at e;exact n _ (uR e).symm);obtain⟨dx,fs,dq,uq,ds,hx,F1,g,l⟩:=S.ar.ob;exact⟨⟨o,keep _ _ h (fun _ z=>nomatch z)⟩,⟨rs',T'⟩,S.ln,fun b ys q=>keep _ _ (S.kt b ys q) (fun _ z=>nomatch z),⟨dx,fs,dq,uq,ds,keep _ _ hx (fun _ z=>nomatch z),F1,keep _ _ g (fun _ z=>nomatch z),l⟩⟩
theorem LwSt.kx(S:LwSt C H0 H a t r ns c x lv s k)(e:Kx H H')(A:AreaAt C H' x lv s' k'):LwSt C H0 H' a t r ns c x lv s' k':=by
 obtain⟨o,h⟩:=S.fz;obtain⟨rs,T⟩:=S.tw;have d1:=e _ _ T.tw (fun _ z=>nomatch z) (fun _ _ _ z=>nomatch z);have d2:=e _ _ T.rt (fun _ z=>nomatch z) (fun _ _ _ z=>nomatch z);exact⟨⟨o,e _ _ h (fun _ z=>nomatch z) (fun _ _ _ z=>nomatch z)⟩,⟨rs,⟨d1,d2,T.vs,T.c0,T.ln,T.ne⟩⟩,S.ln,fun b ys q=>e.WK _ _ (S.kt b ys q),A⟩
end
noncomputable def QcQ:Sp:=fun vs H Q _=>∃(a:Addr)(ns:List Int),vs=[.ref a]/\ns.length<=63/\(∃o,H a=some (.frz o (.lst (ns.map V.int))))/\∀H',Q (.bl true) H'
theorem Qfj:("ab 0Z":Str)=tx [97,98,32,48,90]:=by decide+kernel
theorem W8:∀m∈([("give":Str),"get","amount","load","signs"]:List Str),m≠"layout"/\m≠"held"/\m≠"done"/\m≠"undone":=by decide+kernel
section
variable {P:Program}{w:World}{K:PySem.W.Frag}{mg:Str->Option Value}{base:Heap}{f:Addr}{fd:FuncData}{tk:Nat->Tok}{c kr:Nat->Addr}{ca:Value}{C:Addr}
set_option maxHeartbeats 8000000 in
theorem Qed(F:FunC K "law" "law" qz f fd ca)(O:Own mg)(mX:Def P w K mg base 1 "_law_begun" [] jz)(hG:Def P w K mg base 1 "_law_draw" ["_law_script","_law_town","_law_many"] (WG K))(gK:Def P w K mg base 7 "_law_a_layout" ["_law_script","_law_town","_law_deep"] (WO K 3))(gU:Def P w K mg base 2 "_law_an_amount" ["_law_script","_law_town","_law_figures","_law_far"] (UZ K))
  (gh:Def P w K mg base 12 "where" ["layout","path"] XW) (rA:Def P w K mg base 4 "boxes" ["layout"] zd) (hU:Def P w K mg base 7 "kind_of" ["picture"] (WJ c)) (gJ:Def P w K mg base 7 "content_of" ["picture","amount"] (zU K c)) (gN:Def P w K mg base 7 "amount_in" ["picture","content"] (Ux K c))
  (rQ:DefC P w K mg base C 11 "Area" ["self","layout"] (vX C)) (mY:DefM P w K mg base C 13 "get" ["self","path"] (QcN C)) (mL:DefM P w K mg base C 13 "amount" ["self","path"] (vY C)) (nH:DefM P w K mg base C 13 "load" ["self","path","text"] (vZ C)) (nI:DefM P w K mg base C 13 "give" ["self","path","amount"] (jm K C)) (mZ:DefMK P w K mg base C 13 "give" ["self","path","amount"] ["amount"] (jm K C)) (ma:DefM P w K mg base C 1 "signs" ["self"] (UX C)):
  FnOk P w K mg base (CXE P w) 15 f fd ["_law_script"] QcQ:=by
 refine QeP F ZY (fun vs H Q E h=>?_) (fun A outer s H vs Q E hr h=>?_)
 ·obtain⟨a,ns,rfl,_⟩:=h;rfl
 ·obtain⟨a,ns,rfl,hln,⟨oa,hsc⟩,k⟩:=h;have hz:100000<=sizeLine:=by rw[sizeLine_eq];decide
  refine⟨_,(Qz (Jq (i:=1) ZY.nd rfl (Or.inr rfl) (PEx.mk (mX.pe0 hr (by decide) rfl Qp)) rfl rfl)
   (Qz (Jq (i:=2) ZY.nd rfl (Or.inl rfl) (PEx.mk (gK.pe hr (by decide) rfl Qp (QB (pv 0) (QB (pv 1) (QB Qg Qb))))) rfl rfl)
   (Qz (PSy.mk (U7 (i:=3) (j:=4) rfl ZY.nd rfl rfl (by decide) rfl rfl (QB (rQ.pe hr (by decide) rfl Qp (QB (pv 2) Qb)) (QB (rA.pe hr (by decide) rfl Qp (QB (pv 2) Qb)) Qb)) rfl))
   (Qz (vq PassesOwn.never rfl (Xw rfl O.range (QB Qg Qb)) (Qi (i:=5) ZY.nd rfl (Or.inl rfl)) (Qz (Jq (i:=6) ZY.nd rfl (Or.inl rfl) (PEx.mk (Qw Qy (pv 4) (hG.pe hr (by decide) rfl Qp (QB (pv 0) (QB (pv 1) (QB (Qr QF rfl O.len PySem.boot_len (QB (pv 4) Qb)) Qb)))) (fun _ _=>rfl))) rfl rfl)
   (Qz (PSy.mk (Q0 (gh.pe hr (by decide) rfl Qp (QB (pv 2) (QB (pv 6) Qb))) (QN rfl (Qh (Qi (i:=7) ZY.nd rfl (Or.inl rfl)) (Qh (Qi (i:=8) ZY.nd rfl (Or.inl rfl)) (Qh (Qi (i:=9) ZY.nd rfl (Or.inl rfl)) QA))))))
   (Qz (PSy.mk (U7 (i:=10) (j:=11) rfl ZY.nd rfl rfl (by decide) rfl rfl (QB (ma.pe0 hr (by decide) Qp (pv 3)) (QB (gU.pe hr (by decide) rfl Qp (QB (pv 0) (QB (pv 1) (QB Qg (QB Qg Qb))))) Qb)) rfl))
   (Qz (Wv (PTx.mk (Qj Jc (hU.pe hr (by decide) rfl Qp (QB (pv 9) Qb)) Qk (Qm _))) (Qz (PSy.mk (Jb (mZ.pe hr (by decide) Qp (pv 3) (QB (pv 6) Qb) (Qbq (pv 11) Qde))))
   (Qz (Jq (i:=12) ZY.nd rfl (Or.inl rfl) (vO gJ hr (by decide) rfl Qp (JU (PEx.mk (pv 9)) (JU (PEx.mk (pv 11)) Jy rfl) rfl) rfl rfl rfl) rfl rfl)
   (QJ (Wv (PTx.mk (Qj (vh (n:=16) (vz hr)) (mL.pe hr (by decide) Qp (pv 3) (QB (pv 6) Qb)) (gN.pe hr (by decide) rfl Qp (QB (pv 9) (QB (pv 12) Qb))) (Qm _))) (QJ (Jg (PEx.mk WQ))) XT)))) (QJ (Wv (PTx.mk (Qj Jc (hU.pe hr (by decide) rfl Qp (QB (pv 9) Qb)) Qk (Qm _))) (Qz (PSy.mk (Jb (nI.pe hr (by decide) Qp (pv 3) (QB (pv 6) (QB (pv 11) Qb)))))
   (QJ (Jq (i:=12) ZY.nd rfl (Or.inl rfl) (PEx.mk (mY.pe hr (by decide) Qp (pv 3) (QB (pv 6) Qb))) rfl rfl))) (Qz (Jq (i:=12) ZY.nd rfl (Or.inl rfl) (jb (JU (PEx.mk (VL (NB:=[".0","_law_j"]) (FR:=["_law_script","_law_town"]) (fi:=[0,1]) rfl ⟨rfl,by decide+kernel,by decide+kernel,by decide+kernel,by decide+kernel,by decide+kernel⟩ rfl rfl (Xw rfl O.range (QB (pv 8) Qb)) (fun _ _ _=>(Qi (i:=1) (show([".0","_law_j","_law_script","_law_town"]:List Str).Nodup by decide+kernel) rfl (Or.inl rfl))) (fun _ _ _=>Z7) (fun _ _ _=>(Qw XA Qk (hG.pe hr (by decide) rfl Qp (QB (pv 2) (QB (pv 3) (QB Qg Qb)))) (fun _ _=>rfl))))) Jy rfl) rfl rfl) rfl rfl)
   (QJ (PSy.mk (Jb (nH.pe hr (by decide) Qp (pv 3) (QB (pv 6) (QB (pv 12) Qb))))))))))
   (Qz (Wv (PTx.mk (Qj Z5 (mY.pe hr (by decide) Qp (pv 3) (QB (pv 6) Qb)) (pv 12) (Qm _))) (QJ (Jg (PEx.mk WQ))) XT)
   (Qz (Wv (PTx.mk (Qj Z5 (Qr Q2 rfl O.len PySem.boot_len (QB (pv 12) Qb)) (pv 8) (Qm _))) (QJ (Jg (PEx.mk WQ))) XT)
   (QJ (Wv (PTx.mk (Qj Z5 (ma.pe0 hr (by decide) Qp (pv 3)) (QC Q3 (QC Q3 (QZ ZF (pv 10) JY (QX (pv 7))) (pv 12)) (QZ ZF (pv 10) (QX (QC Jd (pv 7) (pv 8))) JY)) (Qm _))) (QJ (Jg (PEx.mk WQ))) XT)))))))) (fun _=>rfl))
   (QJ (Jg (PEx.mk WQ))))))),?_⟩
  refine⟨rfl,fun t r H1 ht hr1 T1 S1=>?_⟩;have B1:Bag K H1 a t r ns 0:=⟨.inl (.inr ⟨oa,S1 _ _ hsc⟩),⟨[],T1⟩,(fun z=>by rw[←z,hsc]at ht;cases ht),(fun z=>by rw[←z,hsc]at hr1;cases hr1),hln⟩;dsimp only[QV,Z2,Xu,Js];refine⟨_,rfl,_,rfl,a,t,r,ns,0,2,rfl,by decide,by decide,B1,by decide,fun v H2 its c2 B2 hc2 A2 DI G=>?_⟩;have hc2:c2<=420:=hc2;have bd:=V6 2 its G;have hcn:cnL its<=84:=bd.cn;have hwt:wtL its<=628:=bd.wt;have hsz:szL its<=2304:=zp 2 its G;have hbd:LyBd its:=⟨by omega,bd.ok⟩;have hfz:∃o,H2 a=some (.frz o (.lst (ns.map V.int))):=⟨oa,A2 _ _ (S1 _ _ hsc) B1.nat B1.nar⟩;refine xk ⟨_,rfl,fun x dx hx hdx hne=>?_⟩;have S3:Qo H2 (upd (upd H2 dx (.own x)) x (.ins C dx [])):=fun b o e=>by rw[Ql (Qv e hx),Ql (Qv e hdx)];exact e
  refine⟨x,dx,v,its,rfl,Qd,DI.same S3,by omega,by omega,bd.ok,fun s0 H4 ls0 A4 keep=>⟨rfl,?_⟩⟩;have S4:Qo H2 H4:=fun b o e=>keep b o (S3 b o e) (Qv e hx);refine⟨_,rfl,v,its,rfl,DI.same S4,by omega,bd.ok,fun u H5 S5 DU=>⟨_,_,rfl,?_⟩⟩;have S25:=S4.trans S5;obtain⟨ua,ux,rfl,gu,tu⟩:=Deep.VW DU;have lu:=tu.length;rw[uN]at lu;have hbne:bxL its []≠[]:=QcO 2 its G [];have hbl:=U1 its [];have L5:LwSt C H5 H5 a t r ns c2 x v s0 4:=by
   obtain⟨o,h⟩:=hfz;obtain⟨rs,T⟩:=B2.tw;exact⟨⟨o,S25 _ _ h⟩,⟨rs,T.same S25⟩,hln,fun _ _ q=>q,A4.same S5⟩
  have DV:=DI.same S25;clear S3 S4 keep A4 hfz hx hdx hne DU;refine⟨10,rfl,by decide,by decide,?_⟩;refine Wn (Qe5 (lo:=0) (n:=10)) (fun i σ H6=>∃(y5 y6 y7 y8 y9 y10 y11 y12:Option V)(s:List Nat)(c6:Int),σ=[some (.ref a),some (.ref t),some v,some (.ref x),some (.ref ua),y5,y6,y7,y8,y9,y10,y11,y12]/\LwSt C H5 H6 a t r ns c6 x v s (4+2*i)/\s.length=szL its/\c6<=c2+40*i) ⟨none,none,none,none,none,none,none,none,s0,c2,rfl,L5,ls0,by omega⟩ ?_ ?_ ?_
  ·intro i σ H6 _ _;trivial
  ·rintro i iv σ H60 H6 hi ⟨y5,y6,y7,y8,y9,y10,y11,y12,s,c6,rfl,L6,ls,hc6⟩ ⟨rfl,rfl⟩;have hux:0<ux.length:=by
    rw[lu];exact List.length_pos_iff.mpr hbne
   dsimp only[QV,Z2,Xu,Js];have gu6:=L6.kt _ _ gu;refine⟨_,rfl,?_⟩;refine L6.bag.draw rfl rfl (fun R h=>⟨_,rfl,ua,ux,rfl,.inr (.inl (.inl gu6)),h⟩) (by omega) (by omega) (by omega) fun d H7 hd B7 A7=>?_;obtain⟨rs7,T7⟩:=B7.tw;have L7:=L6.Qfi A7 T7;clear B7 A7 T7 L6 gu6;obtain⟨wv,hwv⟩:∃wv,ux[d]? =some wv:=⟨_,List.getElem?_eq_getElem (by omega)⟩;refine⟨ua,ux,d,wv,rfl,rfl,.inl (L7.kt _ _ gu),JI hwv,?_⟩;obtain⟨dv,hdv,Dw⟩:=tu.x0 hwv;rw[u5]at hdv;obtain⟨path,hpath,rfl⟩:∃path,(bxL its [])[d]? =some path/\XV path=dv:=by
    cases e:(bxL its [])[d]? with
    |none=>rw[e]at hdv;cases hdv
    |some q=>rw[e]at hdv;exact⟨q,rfl,uR hdv⟩
   obtain⟨ss,n,nm,p,ep,LD,hls⟩:=QcI 2 its G [] path (u6 hpath)
   replace Dw:Deep H5 wv (XV ss):=by rw[←(show path=ss from ep)];exact Dw
   have Dw7:=Dw.keep L7.kt;have DV7:=DV.keep L7.kt;have hroom:=LD.e;have hszp:=Xo p;refine⟨_,rfl,_,rfl,v,wv,its,ss,n,.box nm p,rfl,DV7,Dw7,hbd,LD.r,by omega,fun u8 H8 S8 D8=>?_⟩;obtain⟨qw,zw,rfl,gw,Dz⟩:=V7 D8;obtain rfl:=Deep.z6 (show Deep H8 zw (.str (YG p))from Dz);refine⟨qw,_,rfl,.inl (.inl gw),rfl,_,_,rfl,_,_,rfl,_,_,rfl,rfl,?_⟩;have L8:=L7.same S8;clear D8 gw Dz L7;dsimp only[QV,Z2,Xu,Js];obtain⟨dx8,fs8,dq8,uq8,ds8,hx8,F8,_,_⟩:=L8.ar.ob;have nos:=fun m hm=>F8.no m (W8 m hm).1 (W8 m hm).2.1 (W8 m hm).2.2.1 (W8 m hm).2.2.2;refine xk ⟨_,rfl,x,dx8,fs8,rfl,hx8,nos _ (by decide+kernel),x,v,s,_,rfl,L8.ar,?_⟩;obtain⟨rs8,T8⟩:=L8.tw;refine⟨_,rfl,_,rfl,a,t,r,ns,_,5,2,rs8,rfl,L8.bag.sq,T8,(L8.bag (K:=K)).nat,(L8.bag (K:=K)).nar,hln,by omega,by decide,by decide,by decide,by decide,fun u o c9 rs9 H9 q9 hu9 o0 o2 hq9 g9 T9 hc9 A9=>?_⟩;have L9:=L8.Qfi A9 T9;refine⟨_,_,rfl,?_⟩;obtain⟨o,rfl⟩:∃o':Nat,o=(o':Int):=⟨o.toNat,by omega⟩;have M9:Amt K H9 q9 u o:=⟨.inl (.inl g9),Nat.lt_of_lt_of_le hu9 (by decide),by omega,by omega⟩;have Dw9:=Dw.keep L9.kt;have DV9:=DV.keep L9.kt;clear L8 T8 T9 A9 hq9 hx8 F8 nos;have A1:At C H9 x v wv s (4+2*i) its ss n nm p:=⟨L9.ar,DV9,Dw9,hbd,LD.r,by omega,by omega,by omega⟩;dsimp only[QV,Z2,Js];refine Qfc (fun σ' H'=>∃(due:List Nat)(c':Int),σ'=[some (.ref a),some (.ref t),some v,some (.ref x),some (.ref ua),some (.int (0+(i:Int))),some wv,some (.int (n:Nat)),some (.int (szP p:Nat)),some (.str (YG p)),some (.str (tx s)),some (.ref q9),some (.str (tx due))]/\LwSt C H5 H' a t r ns c' x v (lay s n due) (4+2*(i+1))/\due.length=szP p/\c'<=c2+40*(i+1:Nat)) ?_ (fun rest=>?_);rotate_left
   ·
    refine Wy (p:=p) (fun R h=>⟨_,rfl,h⟩) fun H10 S10=>?_;refine⟨rfl,_,rfl,?_⟩;rw[W5];have L10:=L9.same S10;have A2:At C H10 x v wv s (4+2*i) its ss n nm p:=⟨L10.ar,DV.keep L10.kt,Dw.keep L10.kt,hbd,LD.r,by omega,by omega,by omega⟩;have M10:=M9.same S10;have g10:=S10 _ _ g9;clear L9 A1 M9 Dw9 DV9 S10 g9;obtain⟨dx,fs,dq,uq,ds,hx,F1,_,_⟩:=L10.ar.ob;have nos:=fun m hm=>F1.no m (W8 m hm).1 (W8 m hm).2.1 (W8 m hm).2.2.1 (W8 m hm).2.2.2;refine ifB (fun hk=>?_) (fun hk=>?_)
    ·have hk:=of_decide_eq_true hk;refine⟨_,rfl,x,dx,fs,rfl,hx,nos _ (by decide+kernel),_,rfl,_,rfl,x,v,wv,s,_,its,ss,n,nm,p,q9,u,o,rfl,A2,by omega,M10,.inl hk,fun H11 K11 A11=>?_⟩;have L11:=L10.kx K11 A11;have M11:Amt K H11 q9 u o:=⟨.inl (.inl (K11.WK _ _ g10)),M10.bd,M10.lo,M10.hi⟩;clear L10 A2 M10 g10 hx F1 nos K11 A11;have hpl:=W4 u o (.inl hk);obtain⟨fx,hp,hkx,hx2⟩:=KY p;obtain⟨nr,e1,e2,e3⟩:=hx2 hk;have ec:cont (sgP p) (bfP p) (bhP p) u o=putL p u o:=by
      unfold putL;rw[if_neg (fun z=>by rw[z]at hk;exact absurd hk (by decide))]
     have ca:=(xo (sgP p) (a:=bfP p) (b:=bhP p) u o (by rcases Z1 p with h|h|h|h<;>omega)).1;dsimp only[QV,Z2,Xu,Js];refine⟨_,rfl,_,rfl,v9 p,q9,u,o,by rw[YH];rfl,X5 p,M11,.inr ⟨fx,hp,nr,fun H12 S12=>?_⟩⟩;rw[e1,e2,e3,ec];rw[ec]at ca;have L12:=L11.same S12;have ll:=zo (s:=s) (t:=putL p u o) (n:=n) (by omega);have A12:At C H12 x v wv (lay s n (putL p u o)) (4+2*i+2) its ss n nm p:=⟨L12.ar,DV.keep L12.kt,Dw.keep L12.kt,hbd,LD.r,by omega,by omega,by omega⟩;obtain⟨dx2,fs2,dq2,uq2,ds2,hx2,F2,_,_⟩:=L12.ar.ob;have nos2:=fun m hm=>F2.no m (W8 m hm).1 (W8 m hm).2.1 (W8 m hm).2.2.1 (W8 m hm).2.2.2;have ep2:part (lay s n (putL p u o)) n (szP p)=putL p u o:=by rw[←hpl];exact U0 (by omega)
     refine⟨_,rfl,x,dx2,fs2,rfl,hx2,nos2 _ (by decide+kernel),_,rfl,x,v,wv,_,_,its,ss,n,nm,p,rfl,A12,hk,by rw[ep2];exact ca,fun q13 H13 S13 g13=>?_⟩;rw[ep2]at g13;refine⟨_,rfl,_,rfl,v9 p,putL p u o,by rw[YH];rfl,X5 p,by omega,.inr ⟨fx,hp,nr,?_,?_⟩⟩
     ·rw[e1,e2,e3];exact fun z=>absurd ca z
     ·rw[e1,e3];intro _ q14 H14 S14 hq14 g14;refine⟨.tup [.int (ZB (sgP p) (putL p u o)),.int (bhP p:Nat)],_,.tup (S14 _ _ g13) (.cons .int (.cons .int .nil)),.tup g14 (.cons .int (.cons .int .nil)),by simp[Dv.depth,Dv.Ke],_,rfl,?_⟩;rw[Dv.UD];refine QO (rest _ _ ⟨putL p u o,c9,rfl,(L12.same (S13.trans S14)),hpl,by omega⟩)
    ·have hk:=of_decide_eq_false hk;refine Wy (p:=p) (fun R h=>⟨_,rfl,h⟩) fun H11 S11=>?_;refine⟨rfl,_,rfl,?_⟩;rw[zi];have L11:=L10.same S11;have A3:At C H11 x v wv s (4+2*i) its ss n nm p:=⟨L11.ar,DV.keep L11.kt,Dw.keep L11.kt,hbd,LD.r,by omega,by omega,by omega⟩;have M11:=M10.same S11;refine ifB (fun hk3=>?_) (fun hk3=>?_)
     ·have hk3:=of_decide_eq_true hk3;refine⟨_,rfl,x,dx,fs,rfl,S11 _ _ hx,nos _ (by decide+kernel),_,rfl,_,rfl,x,v,wv,s,_,its,ss,n,nm,p,q9,u,o,rfl,A3,by omega,M11,.inr hk3,fun H12 K12 A12=>?_⟩;have L12:=L11.kx K12 A12;have hpl:=W4 u o (.inr hk3);have ll:=zo (s:=s) (t:=putL p u o) (n:=n) (by omega);have A4:At C H12 x v wv (lay s n (putL p u o)) (4+2*i+2) its ss n nm p:=⟨L12.ar,DV.keep L12.kt,Dw.keep L12.kt,hbd,LD.r,by omega,by omega,by omega⟩;obtain⟨dx2,fs2,dq2,uq2,ds2,hx2,F2,_,_⟩:=L12.ar.ob;have nos2:=fun m hm=>F2.no m (W8 m hm).1 (W8 m hm).2.1 (W8 m hm).2.2.1 (W8 m hm).2.2.2;have ep2:part (lay s n (putL p u o)) n (szP p)=putL p u o:=by rw[←hpl];exact U0 (by omega)
      dsimp only[QV,Z2,Xu,Js];refine⟨_,rfl,x,dx2,fs2,rfl,hx2,nos2 _ (by decide+kernel),_,rfl,x,v,wv,_,_,its,ss,n,nm,p,rfl,A4,fun H13 S13=>?_⟩;rw[ep2];exact rest _ _ ⟨putL p u o,c9,rfl,L12.same S13,hpl,by omega⟩
     ·refine⟨rfl,?_⟩;refine qX (Qe5 (lo:=0) (n:=szP p)) (fun m vs H12=>∃(ds:List Nat)(c12:Int),vs=ds.map (fun d=>V.str (tx [d]))/\ds.length=m/\LwSt C H5 H12 a t r ns c12 x v s (4+2*i)/\c12<=c9+m) (fun R h=>⟨_,rfl,(szP p:Nat),rfl,by omega,by omega,h _ ⟨[],c9,rfl,rfl,L11,by omega⟩⟩) (fv:=[.ref a,.ref t]) rfl (fun m vs H12 hm⟨ds,c12,e1,e2,_,_⟩=>⟨trivial,by rw[e1,uN];omega⟩) ?_ ?_ (by omega)
      ·rintro m mv vs H12 H12' hm ⟨ds,c12,rfl,lds,L12,hc12⟩ ⟨rfl,rfl⟩;dsimp only[QV,yD];refine⟨rfl,QY ?_⟩;refine L12.bag.draw rfl rfl (fun R h=>h) (by decide) (by decide) (by omega) fun d H13 hd B13 A13=>?_;obtain⟨rs13,T13⟩:=B13.tw;obtain⟨cc,hcc⟩:∃cc,([97,98,32,48,90]:List Nat)[d]? =some cc:=⟨_,List.getElem?_eq_getElem (show d<5 by omega)⟩;refine⟨"ab 0Z",d,cc,rfl,rfl,by decide+kernel,by rw[Qfj];exact JI (by simpa using hcc),?_⟩;exact⟨ds++[cc],c12+1,by rw[tm];rfl,by rw[uM,uS,lds],L12.Qfi A13 T13,by omega⟩
      ·rintro vs H12 ⟨ds,c12,rfl,lds,L12,hc12⟩ q12 hq12;have S12:=Qo.new (o:=.lst (ds.map (fun d=>V.str (tx [d])))) hq12;have efl:(ds.map fun d=>[d]).flatten=ds:=by
        clear lds hq12 S12
        induction ds with
        |nil=>rfl
        |cons d r ih=>rw[tH,List.flatten_cons,ih];rfl
       have eys:ds.map (fun d=>V.str (tx [d]))=((ds.map fun d=>[d]).map tx).map V.str:=by rw[tG,tG];rfl
       refine⟨_,q12,(ds.map fun d=>[d]).map tx,rfl,rfl,.inl (.inl (by rw[←eys];exact Qd)),xp (by rw[efl];omega),?_⟩;rw[Ut,efl];have L13:=L12.same S12;generalize upd H12 q12 (.lst (ds.map (fun d=>V.str (tx [d]))))=H13 at L13;have A4:At C H13 x v wv s (4+2*i) its ss n nm p:=⟨L13.ar,DV.keep L13.kt,Dw.keep L13.kt,hbd,LD.r,by omega,by omega,by omega⟩;obtain⟨dx2,fs2,dq2,uq2,ds2,hx2,F2,_,_⟩:=L13.ar.ob;have nos2:=fun m hm=>F2.no m (W8 m hm).1 (W8 m hm).2.1 (W8 m hm).2.2.1 (W8 m hm).2.2.2;dsimp only[QV,Z2,Xu,Js];refine⟨_,rfl,x,dx2,fs2,rfl,hx2,nos2 _ (by decide+kernel),_,rfl,_,rfl,x,v,wv,s,_,its,ss,n,nm,p,ds,rfl,A4,by omega,lds,fun H14 K14 A14=>?_⟩;exact rest _ _ ⟨ds,c12,rfl,L13.kx K14 A14,lds,by omega⟩
   rintro σ10 H10 ⟨due,c10,rfl,L10,ldue,hc10⟩;have ll:=zo (s:=s) (t:=due) (n:=n) (by omega);have A2:At C H10 x v wv (lay s n due) (4+2*(i+1)) its ss n nm p:=⟨L10.ar,DV.keep L10.kt,Dw.keep L10.kt,hbd,LD.r,by omega,by omega,by omega⟩;obtain⟨dx,fs,dq,uq,ds,hx,F1,_,_⟩:=L10.ar.ob;have nos:=fun m hm=>F1.no m (W8 m hm).1 (W8 m hm).2.1 (W8 m hm).2.2.1 (W8 m hm).2.2.2;refine⟨_,rfl,x,dx,fs,rfl,hx,nos _ (by decide+kernel),_,rfl,x,v,wv,lay s n due,_,its,ss,n,nm,p,rfl,A2,fun H11 S11=>?_⟩;have ep2:part (lay s n due) n (szP p)=due:=by rw[←ldue];exact U0 (by omega)
   rw[ep2];refine⟨_,rfl,rfl,_,rfl,?_⟩;rw[uP rfl];refine QO ?_;dsimp only[QV,Z2,Xu,Js];refine⟨_,rfl,tx due,rfl,by rw[Qq];omega,_,rfl,rfl,_,rfl,?_⟩;rw[Qq,ldue,uP rfl];refine QO ?_;have L11:=L10.same S11;refine⟨_,rfl,x,dx,fs,rfl,S11 _ _ hx,nos _ (by decide+kernel),x,v,lay s n due,_,rfl,L11.ar,?_⟩;refine⟨_,rfl,_,rfl,_,rfl,tx s,rfl,by rw[Qq];omega,?_⟩;rw[X1 s (by omega)];refine⟨_,rfl,_,_,rfl,rfl,by rw[Qq,Qq,uY];omega,?_⟩;rw[Zl];refine⟨_,rfl,_,rfl,_,rfl,_,_,rfl,rfl,_,rfl,tx s,rfl,by rw[Qq];omega,?_⟩;rw[show((n:Nat):Int)+((szP p:Nat):Int)=((n+szP p:Nat):Int) by omega,X2];refine⟨_,_,rfl,rfl,by rw[Qq,Qq,uM,uY,uZ];omega,?_⟩;rw[Zl];have el:s.take n++due++s.drop (n+szP p)=lay s n due:=by unfold lay;rw[ldue]
   rw[el];refine⟨rfl,_,rfl,?_⟩;rw[uP rfl];refine QO ?_;exact⟨_,_,_,_,_,_,_,_,lay s n due,c10,rfl,L11,by omega,hc10⟩
  ·rintro σ H6 ⟨y5,y6,y7,y8,y9,y10,y11,y12,s,c6,rfl,L6,ls,hc6⟩;exact k _
end
end Lw
namespace L2
open PySem PySem.Spec PyProof.Rows
theorem Qee{K:PySem.W.Frag}{H:Hp}{a:Addr}{xs:List V}(nL:jy K=true)(hO:Qem H)(h:SqL K H a xs):∃o,H a=some (.frz o (.lst xs)):=by
 rcases h with h|⟨o,its,n,hk,hc,_⟩
 ·rcases h with h|⟨o,h⟩
  ·rcases hO a with z|⟨o,ys,z⟩
   ·rw[z]at h;cases h
   ·rw[z]at h;cases h
  ·exact⟨o,h⟩
 ·exact absurd hc (xH nL hk)
theorem QaU{l:PySem.W.OpenLaw}{n k:Nat}{q:Program}{loose:List Str}{XP:(Str->Option Value)->Heap->Prop}{YP:World->Heap->Prop}{d:DefRec}{K:Params->PySem.W.Frag}{CX:World->CXT}{sp:World->Sp}{x:Str}
  (hn:l.most=some n) (hn2:n<=sizeLine) (hdf:d.params.defaults=[]) (hr:Room k callerA) (hY:∀(w:World)(h:Heap),YP w h->(K w.params).In h) (nL:∀w:World,jy (K w.params)=true)
  (F:∀(w:World)(mg:Str->Option Value)(fa:Addr)(h:Heap),(K w.params).In h->h.Ns mainGlobals mg->mg d.name=some (.ref fa)->
   ∃fd:FuncData,(∀(s:Shared)(u:Value),BindsTo s fd ⟨[u],[]⟩ [(x,u)])/\∀base:Heap,(K w.params).In base->base.Ns mainGlobals mg->FnOk l.prog w (K w.params) mg base (CX w) k fa fd [x] (sp w))
  (hsp:∀(w:World)(H:Hp)(a:Addr)(ns:List Int),ns.length<=n->(∃o,H a=some (.frz o (.lst (ns.map V.int))))->sp w [.ref a] H (fun v _=>v=.bl true) fun _ _ _=>False)
  (hCX:∀(w:World)(H:Hp)(s:Shared)(e:Value)(s':Shared),CX w [] H s (fun _ _ _=>False) e s'->False):PySem.W.WalkO q loose XP YP l.row.toRowW d [] (fun f vs=>PySem.call f vs):=
 Qbx hn hn2 hdf hr hY F (fun w H a ns h1 h2 h3=>hsp w H a ns h1 (Qee (nL w) h2 h3)) hCX
section
variable {P:Program}{w:World}{K:PySem.W.Frag}{mg:Str->Option Value}{base:Heap}{C:Addr}{m q:Str}{st:Stmt}{k:Nat}{p1 p2 p3:Str}{sp:Sp}
theorem MethAt.Qgc(D:MethAt K C m q st)(cl:Cls K C)(hok:∀f fd,Fun K m q st f fd->FnOk P w K mg base (CXE P w) k f fd [p1,p2,p3] sp)
  (hb:∀(kV doc pm:Value)(an:Option Addr)(cdv ct:Value)(u1 u2 u3:Value),bindArgs (fnOf m q (Jp st) (Q6 st) (Qe st) .none kV doc pm an cdv ct) ⟨[u1,u2],[(p3,u3)]⟩=pure [(p1,u1),(p2,u2),(p3,u3)]):DefMK P w K mg base C k m [p1,p2,p3] [p3] sp:=by
 obtain⟨f,fd,M,F⟩:=D.ex;refine⟨cl,f,fd,M,⟨fun s us ws _ hl=>?_,QcJ⟩,hok f fd F⟩;obtain⟨s1,u,v,rfl,rfl⟩:=QcK hl;obtain⟨oc,od,kV,doc,pm,an,cdv,ct,osl,rfl,lk,hcd⟩:=F.ex;exact .of_eq (hb kV doc pm an cdv ct s1 u v)
end
theorem v4{K:PySem.W.Frag}{a:Addr}{xs:List V}{its:Array Value}{n:Nat}{od:Option Addr}{osl:Array (Option Value)}(l:K.lookup a=some ⟨.type "tuple",od,.seq its n,osl⟩)(z:its.size<=sizeLine)(v:Vals xs its.toList)(H:Hp):SqT K H a xs:=.inr ⟨_,its,n,l,rfl,rfl,z,v⟩
theorem v7{P:Program}{w:World}{K:PySem.W.Frag}{a:Addr}{h1 h2:Int}{x1 x2 y1 y2:Str}{t1 t2 u1 u2:Tok}{n:Nat}(ne:(a==sysModules)=false)(l:K.lookup a=some ⟨.type "dict",none,.dict #[⟨h1,.str x1 t1,.str y1 u1⟩,⟨h2,.str x2 t2,.str y2 u2⟩] n, #[]⟩)
  (e1:h1=QcX w (.inr x1)) (e2:h2=QcX w (.inr x2)) (hx:x1≠x2):KDict P w K a [(Sum.inr x1,.str y1),(Sum.inr x2,.str y2)]:=by
 refine⟨ne,fun h KX=>⟨[(Sum.inr x1,.str y1 u1),(Sum.inr x2,.str y2 u2)],.cons ⟨rfl,_,rfl⟩ (.cons ⟨rfl,_,rfl⟩ .nil),_,_,_,KX a _ l,⟨rfl,rfl,rfl⟩,rfl,fun e he=>?_,.cons (JH P w x1 t1) rfl (.cons (JH P w x2 t2) rfl .nil),?_⟩⟩
 ·have he:e=⟨h1,.str x1 t1,.str y1 u1⟩\/e=⟨h2,.str x2 t2,.str y2 u2⟩:=by simpa using he
  rcases he with rfl|rfl
  ·exact⟨_,JH P w x1 t1,e1⟩
  ·exact⟨_,JH P w x2 t2,e2⟩
 ·have hk:¬ (Sum.inr x1:Key)=Sum.inr x2:=fun q=>hx (Sum.inr.inj q);simp[hk]
end L2
namespace Lw
open PySem PySem.Spec PyProof.Rows L2 K02 K04 K15 K09
set_option maxHeartbeats 8000000 in
theorem all_mk{l:PySem.W.OpenLaw}{w:World}{K:PySem.W.Frag}{h:Heap}{mg:Str->Option Value}{ca:Value}{fa fl R0 R1 R2 R3 R4 R5 R6 CR C0 C1 C2 C5 C8 C9 C11 C12:Addr}{t0 t1 t2 t3 t4 t5 t6 t7 t8:Tok}{oc kV doc pm ct:Value}{od an:Option Addr}{osl:Array (Option Value)}(X:K.In h)(G:h.Ns mainGlobals mg)(hfa:mg "law"=some (.ref fa))
  (pY:DefAt K "ten_to" Y2)
  (m3:DefAt K "is_figures" XF)
  (nJ:DefAt K "number_of" Ki)
  (nZ:DefAt K "times_at" We)
  (pH:DefAt K "rows_of" Vv)
  (nK:DefAt K "floats_at" Kk)
  (nM:DefAt K "places_of" Kl)
  (m4:DefAt K "whole_part" XH)
  (mM:DefAt K "broken_part" Xc)
  (pI:DefAt K "lead_of" Vw)
  (pJ:DefAt K "tail_of" Vy)
  (mw:DefAt K "number_facts" ZN)
  (mO:DefAt K "plain_facts" Xb)
  (pK:DefAt K "body_of" Vx)
  (mx:DefAt K "edited_facts" ZP)
  (n5:DefAt K "facts_of" Wf)
  (m5:DefAt K "understood" ZG)
  (pL:DefAt K "kind_of" KK)
  (my:DefAt K "quotient_cut" ZS)
  (r8:DefAt K "cut" QbP)
  (pZ:DefAt K "fitted" Y8)
  (m7:DefAt K "figures_of" XG)
  (g7:DefAt K "understood_as" JR)
  (mP:DefAt K "written_out" Z9)
  (pM:DefAt K "size_of" KL)
  (nN:DefAt K "sign_text" Km)
  (mz:DefAt K "hides_nought" ZT)
  (mQ:DefAt K "nought_text" Xe)
  (ra:DefAt K "spread" Y9)
  (nO:DefAt K "hidden_in" Ko)
  (nP:DefAt K "body_text" Kn)
  (mB:DefAt K "edited_parts" ZQ)
  (rb:DefAt K "edited" WZ)
  (m8:DefAt K "content_of" ZJ)
  (nQ:DefAt K "amount_in" Xf)
  (rR:DefAt K "bare" wq)
  (n6:DefAt K "signs_in" Wg)
  (n8:DefAt K "is_whole" Wh)
  (m9:DefAt K "step_parts" XJ)
  (ng:DefAt K "last_first" XI)
  (gW:DefAt K "ahead_in_table" JF)
  (pN:DefAt K "item_at" KM)
  (rB:DefAt K "found" Y5)
  (rC:DefAt K "where" jF)
  (gX:DefAt K "paths_of_boxes" Zf)
  (rD:DefAt K "boxes" jG)
  (nR:DefAt K "_law_draw" Kp)
  (ni:DefAt K "_law_begun" XQ)
  (hX:DefAt K "_law_item_size" JG)
  (gc:DefAt K "_law_a_layout" JS)
  (r9:DefAt K "put" yO)
  (rE:DefAt K "blank" jI)
  (gF:DefAt K "signs_at_beginning" JA)
  (nj:DefAt K "with_signs" XO)
  (nk:DefAt K "check_kind" ZM)
  (mR:DefAt K "read_edited" Xd)
  (mS:DefAt K "amount_from" Zq)
  (nS:MethAt K CR "__init__" "Area.__init__" Zz)
  (pO:MethAt K CR "change" "Area.change" Xj)
  (rS:MethAt K CR "get" "Area.get" Wj)
  (pP:MethAt K CR "amount" "Area.amount" Zr)
  (rF:MethAt K CR "load" "Area.load" Xh)
  (pS:MethAt K CR "give" "Area.give" Xi)
  (rf:MethAt K CR "signs" "Area.signs" XN)
  (gY:DefAt K "_law_an_amount" Zg)
  (k_0:nsIn K mainGlobals "BoxError"=some (some (.ref C0)))
  (k_1:nsIn K mainGlobals "NoPicture"=some (some (.ref C1)))
  (k_2:nsIn K mainGlobals "NoRoom"=some (some (.ref C2)))
  (k_5:nsIn K mainGlobals "NoFigures"=some (some (.ref C5)))
  (k_8:nsIn K mainGlobals "NoPath"=some (some (.ref C8)))
  (k_9:nsIn K mainGlobals "NoAmount"=some (some (.ref C9)))
  (uB:nsIn K mainGlobals "BadSize"=some (some (.ref C11)))
  (uC:nsIn K mainGlobals "NoBack"=some (some (.ref C12)))
  (k_R:nsIn K mainGlobals "Area"=some (some (.ref CR)))
  (uD:plainGet K CR Str.empty=true)
  (uE:hasDictIn K CR=true)
  (uF:plainOver K CR=true)
  (uG:findIn K (.ref CR) "__setattr__"=some (some (.builtin "object.__setattr__")))
  (uH:makesIn K CR=true)
  (uI:keepIn K (.ref CR)=true)
  (n9:findIn K (.ref CR) "layout"=some none)
  (rg:findIn K (.ref CR) "held"=some none)
  (rh:findIn K (.ref CR) "done"=some none)
  (pf:findIn K (.ref CR) "undone"=some none)
  (md:nsIn K mainGlobals "FIGURES"=some (some (.str "0123456789" t0)))
  (gL:nsIn K mainGlobals "INSERTED"=some (some (.str ",B0/" t2)))
  (pA:nsIn K mainGlobals "SIGNS"=some (some (.str "+-" t3)))
  (gB:nsIn K mainGlobals "FLOATING"=some (some (.str "+-$" t4)))
  (nA:nsIn K mainGlobals "PLACES"=some (some (.str "9Z*+-$" t5)))
  (gm:nsIn K mainGlobals "LAST_BELOW"=some (some (.str "pqrstuvwxy" t8)))
  (nz:nsIn K mainGlobals "PART"=some (some (.int 18 t1)))
  (hZ:nsIn K mainGlobals "MOST_FIGURES"=some (some (.int 18 t6)))
  (gO:nsIn K mainGlobals "MOST_SIGNS"=some (some (.int 60 t7)))
  (gC:nsIn K mainGlobals "NUMBER_FORMS"=some (some (.ref R0)))
  (nV:nsIn K mainGlobals "SHOWN"=some (some (.ref R1)))
  (gA:nsIn K mainGlobals "PLAIN_KINDS"=some (some (.ref R2)))
  (mC:∀H,SqT K H R0 [.str "9",.str "S9",.str "V9",.str "SV9",.str "9V9",.str "S9V9"])
  (nW:∀H,SqT K H R1 [.str "+",.str "-",.str "CR",.str "DB"])
  (kd:KDict l.prog w K R2 qA)
  (mj:nsIn K mainGlobals "BESIDE"=some (some (.ref R3)))
  (pQ:KDict l.prog w K R3 QdR)
  (gZ:nsIn K mainGlobals "NOT_BELOW"=some (some (.ref R4)))
  (nt:KDict l.prog w K R4 nbV)
  (pB:nsIn K mainGlobals "BELOW"=some (some (.ref R5)))
  (rj:KDict l.prog w K R5 bwV)
  (gj:nsIn K mainGlobals "WITH_AMOUNTS"=some (some (.ref R6)))
  (mD:∀H,SqT K H R6 [.str "number",.str "edited"])
  (rl:nsIn K mainGlobals "tuple"=some none)
  (nv:nsIn K mainGlobals "enumerate"=some none)
  (rG:nsIn K mainGlobals "list"=some none)
  (nU:kitOne K (.type "str") (.type "tuple")=some false)
  (mT:kitOne K (.type "tuple") (.type "tuple")=some true)
  (pR:kitOne K (.type "int") (.type "int")=some true)
  (ph:kitOne K (.type "int") (.type "bool")=some false)
  (rM:kitOne K (.type "str") (.type "str")=some true)
  (rN:kitOne K (.type "int") (.type "str")=some false)
  (pj:kitOne K (.type "NoneType") (.type "str")=some false)
  (rH:kitOne K (.type "tuple") (.type "str")=some false)
  (ub:nsIn K mainGlobals "len"=some none)
  (rJ:nsIn K mainGlobals "range"=some none)
  (uc:nsIn K mainGlobals "abs"=some none)
  (ud:nsIn K mainGlobals "max"=some none)
  (ue:nsIn K mainGlobals "int"=some none)
  (uf:nsIn K mainGlobals "isinstance"=some none)
  (rT:nsIn K mainGlobals "bool"=some none)
  (ug:nsIn K mainGlobals "ValueError"=some none)
  (pk:nsIn K mainGlobals "reversed"=some none)
  (rn:nsIn K mainGlobals "divmod"=some none)
  (uh:nsIn K mainGlobals "str"=some none)
  (ui:nsIn K mainGlobals "sum"=some none)
  (uj:excIn K C1 [.type "ValueError",.type "Exception",.type "BaseException",.type "object"] "ValueError.__new__"=true)
  (uk:excIn K C2 [.type "ValueError",.type "Exception",.type "BaseException",.type "object"] "ValueError.__new__"=true)
  (um:excIn K C5 [.type "ValueError",.type "Exception",.type "BaseException",.type "object"] "ValueError.__new__"=true)
  (uo:excIn K C8 [.type "ValueError",.type "Exception",.type "BaseException",.type "object"] "ValueError.__new__"=true)
  (ur:excIn K C9 [.type "ValueError",.type "Exception",.type "BaseException",.type "object"] "ValueError.__new__"=true)
  (rV:excIn K C11 [.type "ValueError",.type "Exception",.type "BaseException",.type "object"] "ValueError.__new__"=true)
  (uu:nsIn K mainGlobals "law"=some (some (.ref fl)))
  (uv:K.lookup fl=some ⟨oc,od,.func (fnOf "law" "law" (Jp qz) (Q6 qz) (Qe qz) .none kV doc pm an ca ct),osl⟩)
  (uw:codeIn K ca "law"=true)
  :∃fd:FuncData,(∀(s:Shared)(v:Value),BindsTo s fd ⟨[v],[]⟩ [("_law_script",v)])/\∀base:Heap,K.In base->base.Ns mainGlobals mg->FnOk l.prog w K mg base (CXE l.prog w) 15 fa fd ["_law_script"] QcQ:=by
 have e:=hfa.symm.trans (mg_of X G uu);cases e;have O:Own mg:=⟨mg_none_of X G ub,mg_none_of X G rJ,mg_none_of X G uc,mg_none_of X G ud,mg_none_of X G ue,mg_none_of X G uf,mg_none_of X G rT,mg_none_of X G ug,mg_none_of X G pk,mg_none_of X G rn,mg_none_of X G uh,mg_none_of X G ui⟩;have T:Txt K mg (fun i=>([t0,t1,t2,t3,t4,t5,t6,t7,t8]:List Tok).getD i 0) (fun i=>([C0,C1,C2,0,0,C5,0,0,C8,C9,0,C11,C12,0,0]:List Addr).getD i 0) (fun i=>([R0,R1,R2,R3,R4,R5,R6]:List Addr).getD i 0):=⟨mg_of X G k_0,mg_of X G k_1,mg_of X G k_2,mg_of X G k_5,mg_of X G k_8,mg_of X G k_9,mg_of X G uB,mg_of X G uC,mg_of X G md,mg_of X G nz,mg_of X G gL,mg_of X G pA,mg_of X G gB,mg_of X G nA,mg_of X G hZ,mg_of X G gO,mg_of X G gm,mg_of X G mj,mg_of X G gZ,mg_of X G pB,mg_of X G gj,mg_of X G gC,mg_of X G nV,mg_of X G gA,mC,nW,mD,⟨uj⟩,⟨uk⟩,⟨um⟩,⟨uo⟩,⟨ur⟩,⟨rV⟩,rM,rN,pj,rH⟩;have KD:KDict l.prog w K ((fun i=>([R0,R1,R2,R3,R4,R5,R6]:List Addr).getD i 0) 2) qA:=kd;have KB:KDict l.prog w K ((fun i=>([R0,R1,R2,R3,R4,R5,R6]:List Addr).getD i 0) 3) QdR:=pQ;have KN:KDict l.prog w K ((fun i=>([R0,R1,R2,R3,R4,R5,R6]:List Addr).getD i 0) 4) nbV:=nt;have KW:KDict l.prog w K ((fun i=>([R0,R1,R2,R3,R4,R5,R6]:List Addr).getD i 0) 5) bwV:=rj;have OT:mg "tuple"=none:=mg_none_of X G rl;have OE:mg "enumerate"=none:=mg_none_of X G nv;have OL:mg "list"=none:=mg_none_of X G rG;generalize (fun i=>([C0,C1,C2,0,0,C5,0,0,C8,C9,0,C11,C12,0,0]:List Addr).getD i 0)=c at T;generalize (fun i=>([R0,R1,R2,R3,R4,R5,R6]:List Addr).getD i 0)=kr at T KD KB KN KW;generalize (fun i=>([t0,t1,t2,t3,t4,t5,t6,t7,t8]:List Tok).getD i 0)=tk at T;refine⟨fnOf "law" "law" (Jp qz) (Q6 qz) (Qe qz) .none kV doc pm an ca ct,fun s v=>.of_eq rfl,fun base kb nb=>?_⟩;have KT:KitL K:=⟨nU,mT,pR,ph⟩;have cl:Cls K CR:=⟨uD,uE,uF,uG⟩;have R:ClsR K CR:=⟨cl,n9,rg,rh,pf⟩;have gk:Def l.prog w K mg base 1 "ten_to" ["many"] (xO):=pY.d1 X G (fun f fd F=>ww F O) fun _ _ _ _ _ _ _=>rfl;have hV:Def l.prog w K mg base 1 "is_figures" ["text"] (VC):=m3.d1 X G (fun f fd F=>Ue F T) fun _ _ _ _ _ _ _=>rfl;have gd:Def l.prog w K mg base 2 "number_of" ["text"] (wz):=nJ.d1 X G (fun f fd F=>qB F O T gk) fun _ _ _ _ _ _ _=>rfl;have nX:Def l.prog w K mg base 3 "times_at" ["text","at"] (jJ):=nZ.d2 X G (fun f fd F=>jK F O T hV gd) fun _ _ _ _ _ _ _ _=>rfl;have mi:Def l.prog w K mg base 4 "rows_of" ["thing"] (zJ K):=pH.d1 X G (fun f fd F=>xQ F O T nX) fun _ _ _ _ _ _ _=>rfl;have nC:Def l.prog w K mg base 1 "floats_at" ["rows","at"] (Ug K):=nK.d2 X G (fun f fd F=>qD F O T) fun _ _ _ _ _ _ _ _=>rfl;have mE:Def l.prog w K mg base 1 "places_of" ["rows","at","place"] (Uh K):=nM.d3 X G (fun f fd F=>qE F O T) fun _ _ _ _ _ _ _ _ _=>rfl;have mV:Def l.prog w K mg base 2 "whole_part" ["rows","at"] (jL K):=m4.d2 X G (fun f fd F=>Ui F O T mE) fun _ _ _ _ _ _ _ _=>rfl;have mF:Def l.prog w K mg base 1 "broken_part" ["rows","at","place"] (Uj K):=mM.d3 X G (fun f fd F=>Yf F O T) fun _ _ _ _ _ _ _ _ _=>rfl;have me:Def l.prog w K mg base 2 "lead_of" ["rows"] (zK K):=pI.d1 X G (fun f fd F=>xS F O T nC) fun _ _ _ _ _ _ _=>rfl;have mh:Def l.prog w K mg base 1 "tail_of" ["rows","at"] (zL K):=pJ.d2 X G (fun f fd F=>xT F O T) fun _ _ _ _ _ _ _ _=>rfl;have ml:Def l.prog w K mg base 1 "number_facts" ["rows"] (J3 K QQ):=mw.d1 X G (fun f fd F=>VG F O T) fun _ _ _ _ _ _ _=>rfl;have mG:Def l.prog w K mg base 1 "plain_facts" ["rows"] (J3 K Jo):=mO.d1 X G (fun f fd F=>Yg F O T KD) fun _ _ _ _ _ _ _=>rfl;have mf:Def l.prog w K mg base 3 "body_of" ["rows","at"] (zM K):=pK.d2 X G (fun f fd F=>xV F mV mF) fun _ _ _ _ _ _ _ _=>rfl;have mm:Def l.prog w K mg base 4 "edited_facts" ["rows"] (J3 K Q7):=mx.d1 X G (fun f fd F=>VH F O T me mf mh) fun _ _ _ _ _ _ _=>rfl;have gQ:Def l.prog w K mg base 5 "facts_of" ["rows"] (J3 K Jz):=n5.d1 X G (fun f fd F=>jN F ml mG mm) fun _ _ _ _ _ _ _=>rfl;have gG:Def l.prog w K mg base 6 "understood" ["picture"] (Um K c):=m5.d1 X G (fun f fd F=>Uo F T mi gQ) fun _ _ _ _ _ _ _=>rfl;have hU:Def l.prog w K mg base 7 "kind_of" ["picture"] (WJ c):=pL.d1 X G (fun f fd F=>xW F gG) fun _ _ _ _ _ _ _=>rfl;have mn:Def l.prog w K mg base 1 "quotient_cut" ["number","by"] (wW):=my.d2 X G (fun f fd F=>VM F O) fun _ _ _ _ _ _ _ _=>rfl;have r6:Def l.prog w K mg base 2 "cut" ["amount","places"] (Qcc K):=r8.d2 X G (fun f fd F=>QdO F O gk mn) fun _ _ _ _ _ _ _ _=>rfl;have mU:Def l.prog w K mg base 3 "fitted" ["amount","before","behind"] (Qak K):=pZ.d3 X G (fun f fd F=>wY F O gk r6) fun _ _ _ _ _ _ _ _ _=>rfl;have gH:Def l.prog w K mg base 2 "figures_of" ["number"] (zT):=m7.d1 X G (fun f fd F=>Uu F O T gk) fun _ _ _ _ _ _ _=>rfl;have hJ:Def l.prog w K mg base 6 "understood_as" ["kind","picture"] (VO K c):=g7.d2 X G (fun f fd F=>WT F T mi gQ) fun _ _ _ _ _ _ _ _=>rfl;have mH:Def l.prog w K mg base 1 "written_out" ["rows"] (Qce K):=mP.d1 X G (fun f fd F=>Yh F O) fun _ _ _ _ _ _ _=>rfl;have gI:Def l.prog w K mg base 7 "size_of" ["picture"] (qQ):=pM.d1 X G (fun f fd F=>xZ F O gG) fun _ _ _ _ _ _ _=>rfl;have gD:Def l.prog w K mg base 1 "sign_text" ["symbols","is_below"] (zZ):=nN.d2 X G (fun f fd F=>qT F T KN KW) fun _ _ _ _ _ _ _ _=>rfl;have mr:Def l.prog w K mg base 1 "hides_nought" ["body"] (jV):=mz.d1 X G (fun f fd F=>VS F T) fun _ _ _ _ _ _ _=>rfl;have mI:Def l.prog w K mg base 1 "nought_text" ["symbols"] (Uy):=mQ.d1 X G (fun f fd F=>Yi F O) fun _ _ _ _ _ _ _=>rfl;have pV:Def l.prog w K mg base 3 "spread" ["body","units"] (Uz):=ra.d2 X G (fun f fd F=>ve F O T KB gH) fun _ _ _ _ _ _ _ _=>rfl;have nE:Def l.prog w K mg base 1 "hidden_in" ["body","signs"] (UA):=nO.d2 X G (fun f fd F=>qU F O OE T) fun _ _ _ _ _ _ _ _=>rfl;have nF:Def l.prog w K mg base 4 "body_text" ["body","units","is_below"] (jX):=nP.d3 X G (fun f fd F=>qV F T pV nE gD) fun _ _ _ _ _ _ _ _ _=>rfl;have mq:Def l.prog w K mg base 4 "edited_parts" ["rows"] (UB K):=mB.d1 X G (fun f fd F=>VT F me mf mH mh) fun _ _ _ _ _ _ _=>rfl;have pW:Def l.prog w K mg base 7 "edited" ["picture","amount"] (UC K c):=rb.d2 X G (fun f fd F=>vg F O hJ mq mU mr mI gD nF) fun _ _ _ _ _ _ _ _=>rfl;have gJ:Def l.prog w K mg base 7 "content_of" ["picture","amount"] (zU K c):=m8.d2 X G (fun f fd F=>Uw F O T hJ mU gH) fun _ _ _ _ _ _ _ _=>rfl;have gN:Def l.prog w K mg base 7 "amount_in" ["picture","content"] (Ux K c):=nQ.d2 X G (fun f fd F=>qR F O T hJ hV gd) fun _ _ _ _ _ _ _ _=>rfl;have nG:Def l.prog w K mg base 1 "bare" ["item"] (z8):=rR.d1 X G (fun f fd F=>QcD F) fun _ _ _ _ _ _ _=>rfl;have gr:Def l.prog w K mg base 8 "signs_in" ["layout"] (V3):=n6.d1 X G (fun f fd F=>j4 F gI) fun _ _ _ _ _ _ _=>rfl;have nY:Def l.prog w K mg base 1 "is_whole" ["thing"] (UI):=n8.d1 X G (fun f fd F=>j5 F O KT) fun _ _ _ _ _ _ _=>rfl;have mW:Def l.prog w K mg base 2 "step_parts" ["step"] (j6):=m9.d1 X G (fun f fd F=>UJ F O OT KT nY) fun _ _ _ _ _ _ _=>rfl;have gP:Def l.prog w K mg base 2 "last_first" ["path","items"] (vF):=ng.d2 X G (fun f fd F=>UK F O nG) fun _ _ _ _ _ _ _ _=>rfl;have gR:Def l.prog w K mg base 9 "ahead_in_table" ["item","number"] (j7):=gW.d2 X G (fun f fd F=>Wq F T gr) fun _ _ _ _ _ _ _ _=>rfl;have pG:Def l.prog w K mg base 10 "item_at" ["items","step"] (UM):=pN.d2 X G (fun f fd F=>ka F O OE T mW nG gr gR) fun _ _ _ _ _ _ _ _=>rfl;have rp:Def l.prog w K mg base 11 "found" ["layout","path"] (j9):=rB.d2 X G (fun f fd F=>QaH F O OT KT T pG) fun _ _ _ _ _ _ _ _=>rfl;have gh:Def l.prog w K mg base 12 "where" ["layout","path"] (XW):=rC.d2 X G (fun f fd F=>QaI F rp gI gr) fun _ _ _ _ _ _ _ _=>rfl;have gS:Def l.prog w K mg base 3 "paths_of_boxes" ["items","with_tables"] (zc):=gX.d2 X G (fun f fd F=>Wt F O gP) fun _ _ _ _ _ _ _ _=>rfl;have rA:Def l.prog w K mg base 4 "boxes" ["layout"] (zd):=rD.d1 X G (fun f fd F=>QaK F OT gS) fun _ _ _ _ _ _ _=>rfl;have hG:Def l.prog w K mg base 1 "_law_draw" ["_law_script","_law_town","_law_many"] (WG K):=nR.d3 X G (fun f fd F=>jf F O) fun _ _ _ _ _ _ _ _ _=>rfl;have mX:Def l.prog w K mg base 1 "_law_begun" [] (jz):=ni.d0 X G (fun f fd F=>UP F) fun _ _ _ _ _ _=>rfl;have pq:Def l.prog w K mg base 1 "_law_item_size" ["_law_item"] (jh 0):=hX.d1 X G (fun f fd F=>KS F) fun _ _ _ _ _ _ _=>rfl;have pw:Def l.prog w K mg base 2 "_law_item_size" ["_law_item"] (jh 1):=hX.d1 X G (fun f fd F=>J4 0 F O pq) fun _ _ _ _ _ _ _=>rfl;have pz:Def l.prog w K mg base 3 "_law_item_size" ["_law_item"] (jh 2):=hX.d1 X G (fun f fd F=>J4 1 F O pw) fun _ _ _ _ _ _ _=>rfl;have gM:Def l.prog w K mg base 4 "_law_item_size" ["_law_item"] (jh 3):=hX.d1 X G (fun f fd F=>J4 2 F O pz) fun _ _ _ _ _ _ _=>rfl;have pC:Def l.prog w K mg base 4 "_law_a_layout" ["_law_script","_law_town","_law_deep"] (WO K 0):=gc.d3 X G (fun f fd F=>Wu F) fun _ _ _ _ _ _ _ _ _=>rfl;have pD:Def l.prog w K mg base 5 "_law_a_layout" ["_law_script","_law_town","_law_deep"] (WO K 1):=gc.d3 X G (fun f fd F=>Zh 0 F O hG gM pC) fun _ _ _ _ _ _ _ _ _=>rfl;have pE:Def l.prog w K mg base 6 "_law_a_layout" ["_law_script","_law_town","_law_deep"] (WO K 2):=gc.d3 X G (fun f fd F=>Zh 1 F O hG gM pD) fun _ _ _ _ _ _ _ _ _=>rfl;have pF:Def l.prog w K mg base 7 "_law_a_layout" ["_law_script","_law_town","_law_deep"] (WO K 3):=gc.d3 X G (fun f fd F=>Zh 2 F O hG gM pE) fun _ _ _ _ _ _ _ _ _=>rfl;have pX:Def l.prog w K mg base 8 "put" ["picture","amount"] (QaR K):=r9.d2 X G (fun f fd F=>Qeb F hU gJ pW) fun _ _ _ _ _ _ _ _=>rfl;have rq:Def l.prog w K mg base 9 "blank" ["picture"] (zj):=rE.d1 X G (fun f fd F=>QaT F hU pX gI) fun _ _ _ _ _ _ _=>rfl;have gE:Def l.prog w K mg base 10 "signs_at_beginning" ["layout"] (zm):=gF.d1 X G (fun f fd F=>XY F O OL rq) fun _ _ _ _ _ _ _=>rfl;have gz:Def l.prog w K mg base 1 "with_signs" ["held","start","text"] (xq):=nj.d3 X G (fun f fd F=>UU F O) fun _ _ _ _ _ _ _ _ _=>rfl;have gs:Def l.prog w K mg base 8 "check_kind" ["picture","kinds"] (UV kr):=nk.d2 X G (fun f fd F=>UW F T hU) fun _ _ _ _ _ _ _ _=>rfl;have mJ:Def l.prog w K mg base 1 "read_edited" ["picture","text"] (Qfh):=mR.d2 X G (fun f fd F=>Yl F) fun _ _ _ _ _ _ _ _=>rfl;have mK:Def l.prog w K mg base 8 "amount_from" ["content","picture"] (vW):=mS.d2 X G (fun f fd F=>Ym F O T hU gN mJ hV gd) fun _ _ _ _ _ _ _ _=>rfl;have rQ:DefC l.prog w K mg base CR 11 "Area" ["self","layout"] (vX CR):=nS.dc2 (mg_of X G k_R) uH uI (fun f fd F=>WU F R gE) fun _ _ _ _ _ _ _ _=>rfl;have gg:DefM l.prog w K mg base CR 1 "change" ["self","word","held"] (W6 CR):=pO.dm3 cl (fun f fd F=>Yn F R) fun _ _ _ _ _ _ _ _ _=>rfl;have mY:DefM l.prog w K mg base CR 13 "get" ["self","path"] (QcN CR):=rS.dm2 cl (fun f fd F=>zn F R gh) fun _ _ _ _ _ _ _ _=>rfl;have mL:DefM l.prog w K mg base CR 13 "amount" ["self","path"] (vY CR):=pP.dm2 cl (fun f fd F=>Yo F R T gh gs mK) fun _ _ _ _ _ _ _ _=>rfl;have nH:DefM l.prog w K mg base CR 13 "load" ["self","path","text"] (vZ CR):=rF.dm3 cl (fun f fd F=>jl F R O T gh gz gg) fun _ _ _ _ _ _ _ _ _=>rfl;have mZ:DefMK l.prog w K mg base CR 13 "give" ["self","path","amount"] ["amount"] (jm K CR):=pS.Qgc cl (fun f fd F=>WP F R T gh gs pX gz gg) fun _ _ _ _ _ _ _ _ _=>rfl;have nI:DefM l.prog w K mg base CR 13 "give" ["self","path","amount"] (jm K CR):=pS.dm3 cl (fun f fd F=>WP F R T gh gs pX gz gg) fun _ _ _ _ _ _ _ _ _=>rfl;have ma:DefM l.prog w K mg base CR 1 "signs" ["self"] (UX CR):=rf.dm1 cl (fun f fd F=>UY F R) fun _ _ _ _ _ _ _=>rfl;have gU:Def l.prog w K mg base 2 "_law_an_amount" ["_law_script","_law_town","_law_figures","_law_far"] (UZ K):=gY.d4 X G (fun f fd F=>WA F O hG) fun _ _ _ _ _ _ _ _ _ _=>rfl;exact Qed (P:=l.prog) (w:=w) (base:=base) ⟨oc,od,kV,doc,pm,an,ct,osl,rfl,uv,uw⟩ O mX hG pF gU gh rA hU gJ gN rQ mY mL nH nI mZ ma
theorem Qef{P:Program}{w:World}{H:Hp}{s:Shared}{e:Value}{s':Shared}(z:CXE P w [] H s (fun _ _ _=>False) e s'):False:=by
 obtain⟨_,_,_,_,_,_,_,_,_,_,_,_,_,_,h⟩:=z;exact h
end Lw
structure PySem.W.Fast:Prop where
 (tw6845878668420335616 tw10040221121855875168 tw9719373021840777440 tw16291128785712243968 tw13307569820571603232 tw10406655440329478528 tw6202151055062882688 tw17736810899053664704 tw17928365284037058016 tw1985810619613897184 tw10163559250890019328 tw4643570958449894912 tw10442225569789863520 tw12614501801800140544 tw6443634835116100416 tw13892312255091843968 tw8696271006979113856 tw10096387712696678336 tw5136658374866595841 tw2390528771808245761 tw14767267988497265729 tw7972949209217026241 tw582512061453081953 tw6713549823736680833 tw3257171004082329057 tw3072641905745120737 tw10079949486750371329 tw12200578198716388865 tw8770756140841540097 tw7728899071149009441 tw15676275509042440801 tw12757144901799289601 tw7300634459437712257 tw17937675112647327617 tw16087643874707717089 tw11796186966313338978 tw7328769201373270146 tw10605517770793980034 tw6777638450397514882 tw7855405497482383522 tw2551502935336129730 tw8489696399463183586 tw3951212027076941090 tw16396473663244839202 tw5575508839964768546 tw5375406681765162306 tw13697210200182125890 tw4659067942198575458 tw1398683067713235298 tw7720205916370709954 tw14319209720016320962 tw12108275018911179202 tw9374175729767691778 tw7079993907672128034 tw667020120635526722 tw5433924762282188418 tw10545542919148484354 tw17232289038956567330 tw13706733752668860226 tw15724292791887870786 tw11512807290466314082 tw1176343678073358210 tw1661691693072132099 tw7525901937880227843 tw4740252012007156803 tw9314823740747620483 tw6635142176825607395 tw2154802621487975651 tw2662410317540096291 tw12698775825964959043 tw5667831351199193443 tw7895987026301913539 tw16378717851421826499 tw12449282890561921539 tw13950391988170344963 tw10339805604505776643 tw8066879712644367939 tw9195913071838681699 tw12997763893766763139 tw3593772295220092579 tw5343081526374431587 tw14162698864003143555 tw12615121328194312131 tw10930244699154576323 tw1281572100970064932 tw10881312200431767620 tw5662134687139921988 tw10006917815977666660 tw1800981720399359108 tw21065150311923876 tw12370737675872073892 tw17811677005535580388 tw6067185595922158980 tw9697456985782535620 tw3472028878202212868 tw13216382575140761092 tw3509480118614723108 tw598102641318269476 tw17599482508908012068 tw4264481142936110660 tw8748974147521869380 tw10554018817038759588 tw4663222566890652324 tw4603137999085429412 tw10656220496683940644 tw15904400169876724548 tw14509255396980646756 tw482215779957714949 tw9411604220828399621 tw16967318433592025125 tw2076105254726674533 tw14902316734692489349 tw13376610511143516293 tw3261375014575847589 tw8821336171257989285 tw17924328914882396389 tw9450718874032406789 tw1145227744003862789 tw18400917229629587845 tw106052831683821957 tw12625094133114348997 tw11009211884015430181 tw5067473075535954469 tw5174394825476991525 tw4873448829559586373 tw13440298026014041669 tw9888028308531262053 tw10390143287085392517 tw12684390107444594341 tw3801622243195320069 tw13655982822487873349 tw17590180387281616741 tw5436078453211677734 tw758238850235689222 tw7542823464746922342 tw11317666609747935622 tw2156859977736847942 tw4222972134920088166 tw11012508674894230118 tw3328381092089286342 tw18137465041077201606 tw14736210606204792550 tw2526136226551229190 tw7786149790853260038 tw650563045352802086 tw17840685611706195814 tw12975190030895096710 tw8284708592258331526 tw11558160441053970310 tw13403545366728259494 tw14058556938613047238 tw12162033231931036646 tw8535851899182169127 tw18375012679356782727 tw10919942261832589447 tw17276232982931157159 tw3632348123605488839 tw17862820889565939943 tw2370899165263290599 tw9498262373775176071 tw4631874822346116519 tw16776723562237101575 tw4276088182228406791 tw14480944671049278023 tw16475557299299757671 tw2932411888981660359 tw11635987631436440295 tw1699133887235264231 tw12190322931264871207 tw2387705334031051751 tw5536707703580010504 tw13247876079111549992 tw11586657204142356616 tw12147867204464745672 tw780483681294040264 tw9497544892071454952 tw17053993351215290696 tw4963655808684839272 tw14684515177807487336 tw7242495690036400616 tw8848555303282845224 tw12217016549080672840 tw2019282519375854152 tw980471285701361224 tw14827148924923398728 tw15590016785129168520 tw17599778969083143880 tw13833188430318893768 tw15203670126322789128 tw12615938473731707688 tw96219982246249288 tw9156214489474206568 tw5679889957372262248 tw5130572434516490120 tw409656052487652264 tw4382841871272789928 tw4497690504921114536 tw12265380886769099752 tw15359296218290551784 tw18141011080517311561 tw16467042366243316873 tw4821646407584391305 tw18065776508977398985 tw4004611359437532393 tw2487864416392812777 tw2939969616737841449 tw7268674070476114313 tw13173986542310356425 tw18075742723333295625 tw10328565483654630921 tw7621169419904452169 tw17941182185653154537 tw12033877706607756041 tw8516183079818354537 tw7199092052742445098 tw9455608726644128874 tw8259882532627991786 tw15761458382302638314 tw7103552286248058090 tw1511046554735936778 tw8991921118297835786 tw7281893480069670282 tw2707211520479332746 tw10334700716623610282 tw15552865386375468522 tw10363545148428909034 tw14498083337471953450 tw17993828295562331754 tw5514838378520384106 tw6495026707608649322 tw13714446961407524490 tw3496182130363061066 tw10688644246416153418 tw16608410728000545642 tw17272369479102331786 tw9268893635556870122 tw9282562519721550859 tw17074031012343773227 tw11685929593125485675 tw4560212261421935723 tw13239075067496793259 tw4082312421077147851 tw16706218647819395307 tw15684090897694514411 tw3117660132787741931 tw13880236604682086699 tw16647581633186227499 tw11885667472882328939 tw4359041089245606347 tw16213692943623439947 tw12656000958866704971 tw6925456656876659307 tw17817538804575357611 tw6741099772845479659 tw15520546398958577419 tw10829672850941089611 tw18176646442354912075 tw10157561278398690219 tw4517079597619691499 tw8467532054096822251 tw12028495689428612108 tw1789993260881567820 tw6157123930561853580 tw5074872159765978252 tw524887949930959020 tw1237809647335651564 tw4448810806139950412 tw436035019426895244 tw14723303627000280492 tw11840923614388083308 tw14004009136812982892 tw7585916923088978572 tw13102789976065292940 tw6779792702453881580 tw1966981097289819916 tw10226925747215568684 tw4225457505050365772 tw11861413382032160652 tw10857240539587437516 tw3614231769588152300 tw11781723594732405740 tw6166887084130843661 tw4528895774611759213 tw14721766065567767725 tw15588254781063843181 tw15199376626726551981 tw16219112231126923789 tw12333698433478761997 tw17472841811254812173 tw11971064972152120941 tw18424740762975000173 tw13913590635476727501 tw13242159587655596781 tw1184391008991184653 tw4975930236240467725 tw11085173546983103341 tw17526085288720812909 tw7684828124593795981 tw17049919121682296749 tw3271876107110135725 tw5266859000530902989 tw5875868483040018446 tw7582406235362962446 tw14372975508465480782 tw2672325838659005646 tw15716487345220032814 tw101969036792628590 tw6135482387427808654 tw4747675236003536366 tw101800250821292526 tw1433227981490701870 tw7978306920296839758 tw17429458854100354638 tw1674752601418115694 tw13988053638105590446 tw6027158887999377134 tw17788645466017823470 tw4666844785066426158 tw3634261952666617646 tw854573651730386734 tw14787161878254150478 tw2213697491056184174 tw7366137366149709742 tw8085829368047697870 tw4983657548809584783 tw17522499963380251887 tw13946559360929086735 tw4200744196351846671 tw3622584715130692943 tw11091106456364872015 tw5443317337079572847 tw3198264669393370543 tw11338945345905764815 tw8887158833228470799 tw1432695806816810543 tw13885930143150562895 tw11645156120360002159 tw14721345434265948783 tw12727505765080546991 tw11429051868487427791 tw14275801225448999663 tw610967561687397167 tw6635186239563645775 tw5161381889687730063 tw16844679791555816399 tw4160763076523290672 tw8020724161624783024 tw8290401012394099952 tw9922801428057788656 tw15146755906052272432 tw8375794804985570768 tw13546564828216162800 tw18023740135939934736 tw17616283152751526448 tw3016955837448240688 tw8687710385012215376 tw3785623664356085488 tw6793164561014062896 tw17652205988920252240 tw1183680698362633233 tw10811944558258429041 tw12263084567165155441 tw18311583986937514097 tw7005785806054993137 tw9353281065578466545 tw17892693294004037905 tw16136171244446155089 tw14523895927998676337 tw2846242457135747537 tw5856952943437394417 tw8424881923707390513 tw8788340638900182577 tw6077879509478632017 tw4404497462655694513 tw14872427966749181649 tw10293546881913512657 tw12327688054589208305 tw3598377033377528561 tw17390519869974136561 tw12289505307982745329 tw1695714537216748305 tw13852982774171066129 tw4607040705073314641 tw3146000719382326193 tw1542323415894795185 tw4053616836213741521 tw5725491104354907154 tw12274274152736441362 tw4718824050675832882 tw17836370203197469874 tw8046559953892346066 tw11338412106934815954 tw15469114033218291058 tw9850655211019670962 tw5464443382023652818 tw5157866261586069202 tw12864230476669824818 tw12975474155051548466 tw15249580558854738866 tw886964932046324722 tw1524196505121508338 tw17631243157878903827 tw17872097317277899859 tw4754813891663669363 tw10181595577844480179 tw165830147974939859 tw984108362869969171 tw2753783635089215795 tw7901574433846914387 tw11056624981057870195 tw9507173839097813491 tw3310985030338296435 tw909898687751212659 tw9299778809133985395 tw7960274442756019955 tw16172372267129248499 tw1625227046333769491 tw8065213417809384243 tw1321889438656099155 tw423186703388063764 tw8373079154068795444 tw13077565335852249172 tw2941837279365283956 tw12930575281452226804 tw3776632002437176628 tw4548963676472328532 tw14250129417942856052 tw9569930511621123476 tw6031281010317741524 tw2839925860599254516 tw1941923200350776820 tw12617591047554568756 tw17121071717478501044 tw12780316490152611636 tw9574792187739019124 tw3166598331955707860 tw13724470040297650164 tw2018413533680617589 tw2967758049785883829 tw12188590292983837909 tw18205718619790049589 tw574822771482532181 tw2685395477477230965 tw8785186906320055765 tw5072069070310755829 tw12620425206277137941 tw11323326539059932725 tw14283825505327049269 tw9101940360274566773 tw14936955620239354645 tw15924521578830520085 tw8813013956827563829 tw10588038239142128469 tw5329942785917649781 tw1390620941329014741 tw13596842850793863157 tw15626267945535671318 tw8073623919575394390 tw9420938595940198582 tw3156206392536610998 tw13922575347473054934 tw11050478948432562390 tw9766690840936979798 tw4434903009759623542 tw1508089202893700534 tw10081037546510810582 tw9127807756799249878 tw17783555572020045334 tw12565759324685926966 tw959785966280775318 tw5318019869599108790 tw13285286943104700118 tw3288300557752076022 tw7524212420565918486 tw9380898834444530518 tw330354966462770102 tw522786008031682518 tw8229831429399161911 tw9933300916761502839 tw10142595472629714071 tw6982025565339212951 tw2893930607730786487 tw4732681504886703447 tw4235952403848714615 tw10282521280001932727 tw7933319879575481783 tw11331907666812098007 tw15298966839647610519 tw15060175314527953655 tw13631694078827884503 tw17192203917612317687 tw11007746364485107736 tw7043025839121026104 tw565337452412107864 tw17232106964807127288 tw18031067362706560248 tw2499244998374802680 tw12447994249335470328 tw6438858218340035864 tw6536426621650093368 tw6027313856109881688 tw11062163949932925304 tw16911401957162116696 tw3604888554289878648 tw17035738326529465976 tw7986878740675699352 tw5933680772314867352 tw17267370754324512408 tw7587553622295900824 tw4098851953542699800 tw13702922390950805368 tw15344646654725306264 tw7494290123978365880 tw9698524725730302904 tw14095621416763871192 tw9046485033786502136 tw12059016583106629657 tw6463497693304502297 tw7541586136745271353 tw16652031814326030457 tw18269706542481313913 tw5985922687595149465 tw12422207929493014777 tw14097462362993634617 tw2019847730198031705 tw460226918352238937 tw8173155183873800601 tw8002479353514650073 tw11412136997333563929 tw13227008361739981401 tw15695585072599532249 tw6349680504651358937 tw147877609136278233 tw17220124192746186553 tw5814935331907193721 tw13261127652384038809 tw5475333293120207865 tw12762740540652231866 tw16404609534001146042 tw6425992959716624602 tw4368260303013189850 tw6307377336235158778 tw4497945022627895546 tw704666246553007354 tw6510801897591150906 tw12087966197460505946 tw18003126494209243706 tw7755663765280399962 tw2048817884497297018 tw12963992029134511802 tw6460587730467488506 tw8084860479179962106 tw3447657847487765274 tw10939039956190445434 tw15325475019572285338 tw4687679596701501370 tw5782328165550810074 tw3135162359155938298 tw17464118009103074298 tw9884977187993674779 tw6138948143554167899 tw18028258353237133403 tw15173613829766570075 tw16434058115526493307 tw16392800690989392027 tw15819987012058838171 tw5872047059567561051 tw875398863056816475 tw9453353294062703003 tw623605914476551611 tw8816792943784197627 tw3421131358834151963 tw9480566054587622971 tw9392580028254125659 tw9210791445548956251 tw7970933456922529403 tw3062104219415545531 tw17087807549105005275 tw11726782521619261243 tw15415399757058760571 tw3045387630996782043 tw14954864226566635515 tw1064942859187329084 tw2394155625759649948 tw14893132375928231068 tw4425695858850500892 tw16663366680797834524 tw10571581154055141692 tw7683722554128089404 tw16604703749144852828 tw10263986512638688668 tw17786846571137469916 tw4957055979852606940 tw15083093873812704764 tw10623201552835697148 tw9290616886386071100 tw4966341918327850556 tw7762385957396779644 tw7810012132843025084 tw3754458595918074620 tw14514878464668565276 tw1024475642988743484 tw4758184621523003196 tw3569882104302005052 tw14564584659672309628 tw8005579696814341020 tw16626428330377594844 tw9125215782350283772 tw2138408331106704413 tw8207138648931000349 tw5843516280968144925 tw14776390918246759453 tw12498827449249547357 tw15954780339899451485 tw11468648007755223133 tw1762718045011708029 tw4561913976151194781 tw7665184648836103357 tw453204920857838813 tw14939186348986110205 tw8203584348580254013 tw5773011167154409821 tw16112657559178632541 tw875784884267915677 tw11204043470308524445 tw8956432489101191613 tw14036850055078611421 tw9966973288371876349 tw16267066626759697021 tw3167975292352319197 tw9904034378678616797 tw8809448554885882621 tw784785781561666301 tw17467890424772078333 tw12264683296952071933 tw3779091530909338397 tw13573670809255162717 tw5183512835184563165 tw5026096954140464093 tw971914105045327837 tw13297361423771402205 tw1198025169973842941 tw15461428200321122366 tw6854571737213803646 tw8484150385146259614 tw6841365454546277598 tw1939225129195014462 tw2710722373799342430 tw1571163898612242846 tw13815442879560187294 tw2439194455015592414 tw9917611035856290270 tw722646786429546142 tw14817996749071852318 tw12947675250728823710 tw2403208008045181950 tw11912759691481944095 tw8373909539371160671 tw16373425635246053503 tw17475707087413109983 tw8722511563272533311 tw10969357590239825247 tw1699675654480587391 tw5439004688630997759 tw6305567474555091711 tw6758926159576534815 tw15117781528968314687 tw3938304290430725087 tw8220659174180404191 tw13242280679437124607 tw5882768837424184435:True)
open PySem PySem.W PyProof.Rows
set_option maxRecDepth 100000 in
set_option maxHeartbeats 0 in
theorem PySem.Challenge.cw_boxmoves_k31_whole_one_box_holds : PySem.Challenge.rw_boxmoves_k31_whole_one_box.Holds := by
 w_on;o_law;k_head;(case hw=>w_witness2)
 k_fill
 refine L2.QaU (l:=PySem.Challenge.rw_boxmoves_k31_whole_one_box) (n:=63) (k:=15) (x:="_law_script") (CX:=fun w=>L2.CXE PySem.Challenge.rw_boxmoves_k31_whole_one_box.prog w) (sp:=fun _=>Lw.QcQ) rfl (by decide) rfl ⟨rfl,by decide,by decide⟩ (fun w h Y=>kIn_of Y) ?nL ?F (fun w H a ns hl hS=>⟨a,ns,rfl,hl,hS,fun _=>rfl⟩) (fun w H s e s' z=>Lw.Qef z)
 case nL=>intro w;kernel_rfl
 case F=>
  intro w mg fa h KX G hmg;refine' Lw.all_mk KX G hmg ?pY ?m3 ?nJ ?nZ ?pH ?nK ?nM ?m4 ?mM ?pI ?pJ ?mw ?mO ?pK ?mx ?n5 ?m5 ?pL ?my ?r8 ?pZ ?m7 ?g7 ?mP ?pM ?nN ?mz ?mQ ?ra ?nO ?nP ?mB ?rb ?m8 ?nQ ?rR ?n6 ?n8 ?m9 ?ng ?gW ?pN ?rB ?rC ?gX ?rD ?nR ?ni ?hX ?gc ?r9 ?rE ?gF ?nj ?nk ?mR ?mS ?nS ?pO ?rS ?pP ?rF ?pS ?rf ?gY ?k_0 ?k_1 ?k_2 ?k_5 ?k_8 ?k_9 ?uB ?uC ?k_R ?uD ?uE ?uF ?uG ?uH ?uI ?n9 ?rg ?rh ?pf ?md ?gL ?pA ?gB ?nA ?gm ?nz ?hZ ?gO ?gC ?nV ?gA ?mC ?nW ?kd ?mj ?pQ ?gZ ?nt ?pB ?rj ?gj ?mD ?rl ?nv ?rG ?nU ?mT ?pR ?ph ?rM ?rN ?pj ?rH ?ub ?rJ ?uc ?ud ?ue ?uf ?rT ?ug ?pk ?rn ?uh ?ui ?uj ?uk ?um ?uo ?ur ?rV ?uu ?uv ?uw
  (case k_R=>k_is)
  (case pY|m3|nJ|nZ|pH|nK|nM|m4|mM|pI|pJ|mw|mO|pK|mx|n5|m5|pL|my|r8|pZ|m7|g7|mP|pM|nN|mz|mQ|ra|nO|nP|mB|rb|m8|nQ|rR|n6|n8|m9|ng|gW|pN|rB|rC|gX|rD|nR|ni|hX|gc|r9|rE|gF|nj|nk|mR|mS|gY=>(refine' L2.yC ?a ?l ?c ?k;(case a=>k_is);(case l=>k_is);(case c=>k_is);(case k=>k_is)))
  (case nS|pO|rS|pP|rF|pS|rf=>(refine' L2.vP ?a ?i ?l ?c ?k;(case a=>k_is);(case i=>k_is);(case l=>k_is);(case c=>k_is);(case k=>k_is)))
  (case k_0|k_1|k_2|k_5|k_8|k_9|uB|uC|uD|uE|uF|uG|uH|uI|n9|rg|rh|pf|md|gL|pA|gB|nA|gm|nz|hZ|gO|gC|nV|gA|mj|gZ|pB|gj|rl|nv|rG|ub|rJ|uc|ud|ue|uf|rT|ug|pk|rn|uh|ui|uu|uv|uw=>k_is)
  (case mC=>(refine' L2.v4 ?l ?z ?v;(case l=>k_is);(case z=>show 6<=sizeLine;decide);(case v=>exact(.cons ⟨_,rfl⟩ (.cons ⟨_,rfl⟩ (.cons ⟨_,rfl⟩ (.cons ⟨_,rfl⟩ (.cons ⟨_,rfl⟩ (.cons ⟨_,rfl⟩ .nil)))))))))
  (case nW=>(refine' L2.v4 ?l ?z ?v;(case l=>k_is);(case z=>show 4<=sizeLine;decide);(case v=>exact(.cons ⟨_,rfl⟩ (.cons ⟨_,rfl⟩ (.cons ⟨_,rfl⟩ (.cons ⟨_,rfl⟩ .nil)))))))
  (case kd=>(refine' L2.v7 ?ne ?l ?e1 ?e2 ?hx;(case l=>k_is);(case ne=>exact rfl);(case e1=>exact rfl);(case e2=>exact rfl);(case hx=>decide+kernel)))
  (case pQ|nt|rj=>(refine' L2.wT ?ne ?l ?h ?nd;(case l=>k_is);(case ne=>exact rfl);(case h=>repeat (first|exact .nil|refine .cons rfl ?_));(case nd=>decide+kernel)))
  (case mD=>(refine' L2.v4 ?l ?z ?v;(case l=>k_is);(case z=>show 2<=sizeLine;decide);(case v=>exact(.cons ⟨_,rfl⟩ (.cons ⟨_,rfl⟩ .nil)))))
  (case nU|mT|pR|ph|rM|rN|pj|rH=>kit_is)
  (case uj|uk|um|uo|ur|rV=>k_exc)
