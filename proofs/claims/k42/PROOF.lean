import PyProof.Rows.All
import Wide.All
import OpenK.AllK
import Wide.FinOn
import Lean
import PyProof.EqAt
import PyProof.EqKinds
import PyProof.TupleCall
import PyProof.NeKinds
import PyProof.WalksMore
import PyProof.Rows.SetFrom
import PyProof.FString5
import PyProof.FactsLen
import PyProof.StrLawsTight
import PyProof.StrLawsChain
import PyProof.MeetsStr2
import PySem.Challenge.RW_boxmoves_k42_layout_texts
set_option Elab.async false
set_option linter.all false
set_option maxRecDepth 100000
theorem uj{α:Type}{a b:List α}:(a++b).length=a.length+b.length:=List.length_append
theorem uk{α β:Type}{l:List α}(f:α->β):(l.map f).length=l.length:=List.length_map f
theorem um{p:Prop}[Decidable p](h:¬p):decide p=false:=decide_eq_false h
theorem uo{p:Prop}[Decidable p](h:p):decide p=true:=decide_eq_true h
theorem uq(n:Nat):n<=n:=Nat.le_refl n
theorem ur{α:Type}{a b:α}(h:some a=some b):a=b:=Option.some.inj h
theorem uu{α:Type}{a:α}:[a].length=1:=rfl
theorem uw{α:Type}{a:α}{l:List α}:(a::l).length=l.length+1:=rfl
theorem ux{α:Type}{a:α}(l:List α){m:List α}(h:a∈m):a∈l++m:=List.mem_append_right l h
theorem uy{α:Type}{a:α}{l:List α}(m:List α)(h:a∈l):a∈l++m:=List.mem_append_left m h
theorem uz{α:Type}(b:α){a:α}{l:List α}(h:a∈l):a∈b::l:=List.mem_cons_of_mem b h
theorem uA{α:Type}{a:α}{l:List α}:a∈a::l:=List.mem_cons_self
theorem uB{α:Type}{i:Nat}{l:List α}:(l.take i).length=min i l.length:=List.length_take
theorem uC{α:Type}{i:Nat}{l:List α}:(l.drop i).length=l.length-i:=List.length_drop
theorem uD{α:Type}{l:List α}:l.reverse.length=l.length:=List.length_reverse
theorem uE{α β:Type}{f:α->β}{l:List α}{i:Nat}:(l.map f)[i]?=Option.map f l[i]?:=List.getElem?_map
theorem uF{α:Type}{l:List α}{i:Nat}{a:α}(h:l[i]?=some a):a∈l:=List.mem_of_getElem? h
theorem uG{α:Type}{n:Nat}{a:α}:(List.replicate n a).length=n:=List.length_replicate
theorem uH{α β:Type}{l m:List α}{f:α->β}:(l++m).map f=l.map f++m.map f:=List.map_append
theorem uI{α:Type}(a b c:List α):a++b++c=a++(b++c):=List.append_assoc a b c
theorem uJ{α:Type}{a:α}{l m:List α}:a::l++m=a::(l++m):=rfl
theorem uK{α:Type}(l:List α):[]++l=l:=rfl
theorem uL{α:Type}(l:List α):l++[]=l:=List.append_nil l
theorem uM{α β γ:Type}{g:β->γ}{f:α->β}{l:List α}:(l.map f).map g=l.map (g∘f):=List.map_map
theorem uN{α β:Type}{f:α->β}{a:α}{l:List α}:(a::l).map f=f a::l.map f:=rfl
theorem uO{α:Type}{a:Array α}:a.toList.length=a.size:=Array.length_toList
theorem uP{α:Type}{l:List α}:l.toArray.size=l.length:=List.size_toArray
theorem uQ(n:Nat):0<=n:=Nat.zero_le n
theorem uR(n:Nat):¬n<n:=Nat.lt_irrefl n
theorem uS(n:Nat):(n:Int).toNat=n:=rfl
open PySem.W (CodeHd KitX Looks callWith_K callWith_K0 callWith_KW0 callWith_of cellsFrom_some codeIn codeRec_of envX eq_bytes excIn exmOne exm_one findIn fnOf funFrames_hide hasDictIn hideAll hideAll_get hideAll_none hideAll_size instObj isNs_of_in keepIn ki_setAt ki_setBack kia_one kitOne kitx_bool kitx_dict kitx_float kitx_int kitx_list kitx_none kitx_own kitx_str kitx_tuple kla_callFunE kla_codeExpr kla_eval kla_fn kla_makeFunction kla_makeFunctionHit kla_obj km_in_of lookIn looks_findIn mem_of_lookupK methodObj mg_none_of mg_of mroIn ne_bytes noTabs nsIn nsMap_none_of_in of_hideAll plainGet plainOver specialIn tabIn tabObj tab_of tail_of_in takesIn truthy_bytes)
open PySem.F (args_dict_get_3 args_list_count_2 args_list_index_2 args_tuple_add_2 entry_dict_get entry_list_count entry_list_index entry_tuple_add excBase_ValueError plainAttrs_dict plainAttrs_list plainAttrs_str slot_dict_get slot_list_count slot_list_extend slot_list_index slot_list_pop slot_str_find slot_str_join slot_str_lstrip slot_str_split slot_str_startswith slot_str_strip slot_str_zfill slot_tuple_add type_dict_get type_list_count type_list_extend type_list_index type_list_pop type_str_find type_str_join type_str_lstrip type_str_split type_str_startswith type_str_strip type_str_zfill)
namespace L2
open PySem PySem.Spec PyProof.Rows
noncomputable abbrev Key:=Sum Int Str
noncomputable def zA:Key->Value->Bool
 | .inl k,v=>Value.isInt k v
 | .inr x,v=>Value.isStrOf x v
noncomputable def QdF(w:World):Key->Int
 | .inl k=>hashInt k
 | .inr x=>hashStr w x
theorem Q7:∀{k:Key}{v:Value},zA k v=true->(∃i t,k=Sum.inl i/\v=Value.int i t)\/(∃x t,k=Sum.inr x/\v=Value.str x t)
 | .inl i,v,h=>by
  obtain⟨t,e⟩:=Value.isInt_shape (k:=i) (v:=v) h;exact .inl ⟨i,t,rfl,e⟩
 | .inr x,v,h=>by
  obtain⟨t,e⟩:=Value.isStrOf_shape (x:=x) (v:=v) h;exact .inr ⟨x,t,rfl,e⟩
theorem xy(i:Int)(t:Tok):zA (.inl i) (.int i t)=true:=by simp[zA,Value.isInt]
theorem xz(x:Str)(t:Tok):zA (.inr x) (.str x t)=true:=by simp[zA,Value.isStrOf]
theorem Qce(a b:Int):decide ((Sum.inl a:Key)=Sum.inl b)=(a==b):=by
 by_cases e:a=b
 ·subst e;simp
 ·have h:¬ (Sum.inl a:Key)=Sum.inl b:=fun q=>e (Sum.inl.inj q);rw[um h];exact(beq_eq_false_iff_ne.mpr e).symm
theorem Qcf(a b:Str):decide ((Sum.inr a:Key)=Sum.inr b)=decide (a=b):=by
 by_cases e:a=b
 ·subst e;simp
 ·have h:¬ (Sum.inr a:Key)=Sum.inr b:=fun q=>e (Sum.inr.inj q);rw[um h,um e]
theorem Qcg(a:Int)(b:Str):decide ((Sum.inl a:Key)=Sum.inr b)=false:=um (fun q=>nomatch q)
theorem Qch(a:Str)(b:Int):decide ((Sum.inr a:Key)=Sum.inl b)=false:=um (fun q=>nomatch q)
noncomputable def Q8(prog:Program)(w:World):PySem.KeyKind prog w Key where
 is:=zA
 hash:=QdF w
 inj:=fun v a b ha hb=>by
  rcases Q7 ha with⟨i,t,rfl,rfl⟩|⟨x,t,rfl,rfl⟩
  ·rcases Q7 hb with⟨j,u,rfl,e⟩|⟨y,u,rfl,e⟩
   ·injection e with e1 _;rw[e1]
   ·exact nomatch e
  ·rcases Q7 hb with⟨j,u,rfl,e⟩|⟨y,u,rfl,e⟩
   ·exact nomatch e
   ·injection e with e1 _;rw[e1]
 byValue:=fun k v h=>by
  rcases Q7 h with⟨i,t,rfl,rfl⟩|⟨x,t,rfl,rfl⟩<;>rfl
 pyHash:=fun hv h=>by
  rcases Q7 hv with⟨i,t,rfl,rfl⟩|⟨x,t,rfl,rfl⟩
  ·exact wpAny_pyHash_int h
  ·exact wpAny_pyHash_str h
 eqBool:=fun hu hv h=>by
  rcases Q7 hu with⟨i,t,rfl,rfl⟩|⟨x,t,rfl,rfl⟩
  ·rcases Q7 hv with⟨j,u,rfl,rfl⟩|⟨y,u,rfl,rfl⟩
   ·rw[Qce]at h;exact wpAny_eqBool_int h
   ·rw[Qcg]at h;exact SeqAt.EqAt.int_str i t y u _ _ _ _ h
  ·rcases Q7 hv with⟨j,u,rfl,rfl⟩|⟨y,u,rfl,rfl⟩
   ·rw[Qch]at h;exact SeqAt.EqAt.str_int x t j u _ _ _ _ h
   ·rw[Qcf]at h;exact wpAny_eqBool_str h
 «strs»:=fun k x t v h=>by
  rcases Q7 h with⟨i,u,rfl,e⟩|⟨y,u,rfl,e⟩
  ·exact nomatch e
  ·injection e with e1 _;subst e1;cases v<;>rfl
theorem qg(prog:Program)(w:World)(i:Int)(t:Tok):(Q8 prog w).is (.inl i) (.int i t)=true:=xy i t
theorem Zo(prog:Program)(w:World)(x:Str)(t:Tok):(Q8 prog w).is (.inr x) (.str x t)=true:=xz x t
inductive V where
 |non|bl (b:Bool)|int (i:Int)|str (x:Str)|byt (b:Array UInt8)|flt (b:UInt64)|ref (a:Addr)|ty (n:String)
 deriving DecidableEq
noncomputable def RelV:V->Value->Prop
 | .non,u=>u=Value.none
 | .bl b,u=>u=Value.bool b
 | .int i,u=>∃t,u=Value.int i t
 | .str x,u=>∃t,u=Value.str x t
 | .byt b,u=>∃t,u=Value.bytes b t
 | .flt b,u=>∃t,u=Value.float b t
 | .ref a,u=>u=Value.ref a
 | .ty n,u=>u=Value.type n
noncomputable abbrev Vals:List V->List Value->Prop:=Paired RelV
theorem Vals.length{xs:List V}{us:List Value}(r:Vals xs us):xs.length=us.length:=Paired.length r
theorem Vals.get:∀{xs:List V}{us:List Value}{i:Nat}{x:V},Vals xs us->xs[i]? =some x->∃u,us[i]? =some u/\RelV x u
 |_,_,_,_,.nil,e=>by simp at e
 |_,_,0,_,.cons r _,e=>by simp at e;subst e;exact⟨_,rfl,r⟩
 |_,_,i+1,x,.cons _ t,e=>by
  obtain⟨u,h1,h2⟩:=Vals.get (i:=i) (x:=x) t (by simpa using e);exact⟨u,by simpa using h1,h2⟩
theorem Vals.set{x:V}{u:Value}(r:RelV x u):∀{xs:List V}{us:List Value}(i:Nat),Vals xs us->Vals (xs.set i x) (us.set i u)
 |_,_,_,.nil=>.nil
 |_,_,0,.cons _ t=>.cons r t
 |_,_,i+1,.cons q t=>.cons q (Vals.set r i t)
theorem Vals.append:∀{xs ys:List V}{us ws:List Value},Vals xs us->Vals ys ws->Vals (xs++ys) (us++ws)
 |_,_,_,_,.nil,s=>s
 |_,_,_,_,.cons r t,s=>.cons r (Vals.append t s)
theorem Vals.take:∀{xs:List V}{us:List Value}(n:Nat),Vals xs us->Vals (xs.take n) (us.take n)
 |_,_,0,_=>.nil
 |_,_,_+1,.nil=>.nil
 |_,_,n+1,.cons r t=>.cons r (Vals.take n t)
theorem Vals.drop:∀{xs:List V}{us:List Value}(n:Nat),Vals xs us->Vals (xs.drop n) (us.drop n)
 |_,_,0,r=>r
 |_,_,_+1,.nil=>.nil
 |_,_,n+1,.cons _ t=>Vals.drop n t
noncomputable def jA:Option V->Option Value->Prop
 |some v,some u=>RelV v u
 |none,none=>True
 |_,_=>False
noncomputable def KV{κ:Type}:List (κ × V)->List (κ × Value)->Prop:=Paired fun(p:κ × V)(q:κ × Value)=>p.1=q.1/\RelV p.2 q.2
noncomputable def kV:Key->V
 | .inl i=>.int i
 | .inr x=>.str x
inductive HO where
 |lst (xs:List V)
 |tup (xs:List V)
 |dK (kvs:List (Key × V))|dT (kvs:List (List Key × V))
 |set (S:Int->Bool) (n:Nat)
 |ins (C dx:Addr) (fs:List (Str × V))
 |own (x:Addr)
 |xd (fs:List (Str × V))
 |met (f x:Addr)
 |rng (lo hi:Int)
 |frz (o:Obj) (u:HO)
 |tbl (ps:Array Value)
 |ext (φ:Heap->Prop)
noncomputable abbrev Hp:=Addr->Option HO
noncomputable def upd(H:Hp)(a:Addr)(o:HO):Hp:=fun b=>if b=a then some o else H b
theorem Qa{H:Hp}{a:Addr}{o:HO}:upd H a o a=some o:=by unfold upd;rw[if_pos rfl]
theorem Qp{H:Hp}{a b:Addr}{o:HO}(h:b≠a):upd H a o b=H b:=by unfold upd;rw[if_neg h]
theorem QaW{H:Hp}{a b:Addr}{o u:HO}(h:H a=some o)(h':H b=some u)(d:o≠u):a≠b:=by
 intro e;subst e;rw[h]at h';exact d (ur h')
theorem Qv{H:Hp}{a b:Addr}{o:HO}(h:H a=some o)(h':H b=none):a≠b:=by
 intro e;subst e;rw[h]at h';cases h'
noncomputable def Wf(h:Heap)(a:Addr)(items:Array Value):Prop:=∃o,h.get? a=some o/\o.cls=.type "tuple"/\∃n,o.data=.seq items n/\o.dict=none
theorem Wf.tup{h:Heap}{a:Addr}{items:Array Value}(p:Wf h a items):IsTup h a items:=let ⟨o,h1,h2,n,h3,_⟩:=p;⟨o,h1,h2,n,h3⟩
theorem Wf.new(h:Heap)(items:Array Value):Wf (h.push {cls:=.type "tuple",data:=.seq items}) h.objs.size items:=⟨_,Heap.get?_push_size _ rfl,rfl,_,rfl,rfl⟩
section
variable (P:Program)(w:World)
noncomputable def Jk(H:Hp)(h:Heap)(a:Addr):HO->Prop
 | .lst xs=>xs.length<=sizeLine/\∃(its:List Value)(n:Nat),Vals xs its/\h.get? a=some {cls:=.type "list",data:=.seq its.toArray n}
 | .tup xs=>xs.length<=sizeLine/\∃its:List Value,Vals xs its/\Wf h a its.toArray
 | .dK kvs=>kvs.length<=sizeLine/\(a==sysModules)=false/\∃vs,KV kvs vs/\h.DictOf (Q8 P w) a vs
 | .dT kvs=>kvs.length<=sizeLine/\(a==sysModules)=false/\∃xs:List (List Key × Addr × Value),
   Paired (fun(p:List Key × V)(q:List Key × Addr × Value)=>p.1=q.1/\H q.2.1=some (.tup (p.1.map kV))/\RelV p.2 q.2.2) kvs xs/\
   ∃o es ep,h.get? a=some o/\o.ExactDict/\o.data=.dict es ep/\es.toList=xs.map (entryOfKey (tupleKind (Q8 P w)))/\(xs.map (·.1)).Nodup
 | .set S n=>h.SetOf (intKind P w) a S n
 | .ins C dx fs=>H dx=some (.own a)/\fs.length<=1000/\dx≠a/\h.get? a=some (instObj C dx)/\
   ∃mA,h.Ns1 dx mA/\(∀f,jA (fs.lookup f) (mA f))/\PySem.Within mA (fs.map (·.1))
 | .own _=>∃o,h.get? a=some o
 | .xd fs=>∃mA,h.Ns1 a mA/\∀f,jA (fs.lookup f) (mA f)
 | .rng lo hi=>∃t u v,h.get? a=some {cls:=.type "range",data:=.fields #[.int lo t,.int hi u,.int 1 v]}
 | .frz o u=>h.get? a=some o/\Jk H h a u
 | .tbl ps=>h.get? a=some {cls:=.none,data:=.fields ps}
 | .met f x=>h.get? a=some (methodObj (.ref f) (.ref x))
 | .ext φ=>φ h/\(∃o,h.get? a=some o)/\∀h1 h2:Heap,φ h1->(∀o,h1.get? a=some o->h2.get? a=some o)->φ h2
noncomputable def HOk(H:Hp)(h:Heap):Prop:=∀a o,H a=some o->Jk P w H h a o
end
section
variable {P:Program}{w:World}{H H':Hp}{h h':Heap}{a:Addr}{o:HO}
theorem Jk.lt(x:Jk P w H h a o):a<h.objs.size:=by
 cases o with
 |lst xs=>obtain⟨_,_,_,_,e⟩:=x;exact Heap.lt_size e
 |tup xs=>obtain⟨_,_,_,p⟩:=x;exact p.tup.lt
 |dK kvs=>obtain⟨_,_,_,_,o,_,_,e,_⟩:=x;exact Heap.lt_size e
 |dT kvs=>obtain⟨_,_,_,_,o,_,_,e,_⟩:=x;exact Heap.lt_size e
 |set S n=>obtain⟨o,_,_,_,e,_⟩:=x;exact Heap.lt_size e
 |ins C dx fs=>obtain⟨_,_,_,e,_⟩:=x;exact Heap.lt_size e
 |own y=>obtain⟨_,e⟩:=x;exact Heap.lt_size e
 |xd fs=>obtain⟨_,⟨_,_,_,e,_⟩,_⟩:=x;exact Heap.lt_size e
 |rng lo hi=>obtain⟨_,_,_,e⟩:=x;exact Heap.lt_size e
 |frz ob u=>obtain⟨e,_⟩:=x;exact Heap.lt_size e
 |tbl ps=>exact Heap.lt_size (show h.get? a=some _ from x)
 |met f y=>exact Heap.lt_size (show h.get? a=some _ from x)
 |ext φ=>obtain⟨_,⟨_,e⟩,_⟩:=x;exact Heap.lt_size e
theorem Paired.QdG{α β:Type}{F G:α->β->Prop}:∀{l₁:List α}{l₂:List β},Paired F l₁ l₂->(∀a b,F a b->G a b)->Paired G l₁ l₂
 |_,_,.nil,_=>.nil
 |_,_,.cons r t,f=>.cons (f _ _ r) (Paired.QdG t f)
theorem Jk.zB(x:Jk P w H h a o)(k:∀b u,(b=a\/H b=some (.own a))->h.get? b=some u->h'.get? b=some u)
  (ho:∀b,H b=some (.own a)->H' b=some (.own a)) (ht:∀b xs,H b=some (.tup xs)->H' b=some (.tup xs)):Jk P w H' h' a o:=by
 induction o with
 |lst xs=>obtain⟨z,its,n,r,e⟩:=x;exact⟨z,its,n,r,k _ _ (.inl rfl) e⟩
 |tup xs=>obtain⟨z,its,r,ob,e,c⟩:=x;exact⟨z,its,r,ob,k _ _ (.inl rfl) e,c⟩
 |dK kvs=>obtain⟨z,y,vs,r,ob,es,ep,e,c⟩:=x;exact⟨z,y,vs,r,ob,es,ep,k _ _ (.inl rfl) e,c⟩
 |dT kvs=>
  obtain⟨z,y,xs,r,ob,es,ep,e,c⟩:=x;exact⟨z,y,xs,Paired.QdG r fun p q z=>⟨z.1,ht _ _ z.2.1,z.2.2⟩,ob,es,ep,k _ _ (.inl rfl) e,c⟩
 |set S n=>obtain⟨ob,es,ep,t,e,c⟩:=x;exact⟨ob,es,ep,t,k _ _ (.inl rfl) e,c⟩
 |ins C dx fs=>
  obtain⟨d,z,ne,e,mA,⟨od,es,ep,e2,c⟩,r⟩:=x;exact⟨ho _ d,z,ne,k _ _ (.inl rfl) e,mA,⟨od,es,ep,k _ _ (.inr d) e2,c⟩,r⟩
 |own y=>obtain⟨ob,e⟩:=x;exact⟨ob,k _ _ (.inl rfl) e⟩
 |xd fs=>obtain⟨mA,⟨od,es,ep,e,c⟩,r⟩:=x;exact⟨mA,⟨od,es,ep,k _ _ (.inl rfl) e,c⟩,r⟩
 |rng lo hi=>obtain⟨t,u,v,e⟩:=x;exact⟨t,u,v,k _ _ (.inl rfl) e⟩
 |frz ob u ih=>obtain⟨e,q⟩:=x;exact⟨k _ _ (.inl rfl) e,ih q⟩
 |tbl ps=>
  have e:h.get? a=some {cls:=.none,data:=.fields ps}:=x;show h'.get? a=some {cls:=.none,data:=.fields ps};exact k a _ (.inl rfl) e
 |met f y=>
  have e:h.get? a=some (methodObj (.ref f) (.ref y)):=x;show h'.get? a=some (methodObj (.ref f) (.ref y));exact k a _ (.inl rfl) e
 |ext φ=>obtain⟨p,⟨o,e⟩,st⟩:=x;exact⟨st _ _ p fun o q=>k _ _ (.inl rfl) q,⟨o,k _ _ (.inl rfl) e⟩,st⟩
theorem HOk.lt(x:HOk P w H h)(e:H a=some o):a<h.objs.size:=(x a o e).lt
theorem HOk.fresh(x:HOk P w H h)(e:h.objs.size<=a):H a=none:=by
 cases q:H a with
 |none=>rfl
 |some u=>exact absurd (Nat.lt_of_lt_of_le (x.lt q) e) (uR _)
theorem HOk.kept(x:HOk P w H h)(k:∀b u,h.get? b=some u->h'.get? b=some u):HOk P w H h':=fun a o e=>
 (x a o e).zB (fun b u _ q=>k b u q) (fun _ q=>q) fun _ _ q=>q
theorem HOk.laid(x:HOk P w H h)(k:∀b u,h.get? b=some u->h'.get? b=some u) (hp:h.objs.size<=a) (new:Jk P w (upd H a o) h' a o):HOk P w (upd H a o) h':=fun b u e=>by
 have hn:=x.fresh hp
 by_cases hb:b=a
 ·subst hb;rw[Qa]at e;cases e;exact new
 ·rw[Qp hb]at e;exact(x b u e).zB (fun c v _ q=>k c v q) (fun c q=>by rw[Qp (Qv q hn)];exact q) fun c xs q=>by rw[Qp (Qv q hn)];exact q
end
noncomputable def Rd(H:Hp)(a:Addr)(u:HO):Prop:=H a=some u\/∃o,H a=some (.frz o u)
theorem Rd.ok{P:Program}{w:World}{H:Hp}{h:Heap}{a:Addr}{u:HO}(r:Rd H a u)(x:HOk P w H h):Jk P w H h a u:=by
 rcases r with r|⟨o,r⟩
 ·exact x a u r
 ·obtain⟨_,q⟩:=x a _ r;exact q
noncomputable def Mut:Option HO->Prop
 |some (.lst _)=>True
 |some (.dK _)=>True
 |some (.dT _)=>True
 |some (.set _ _)=>True
 |some (.ins _ _ _)=>True
 |some (.ext _)=>True
 |_=>False
section
variable {P:Program}{w:World}{H:Hp}{h h':Heap}{x e:Addr}{o':HO}
theorem HOk.write(ok:HOk P w H h)(mu:Mut (H x))(he:e=x\/H e=some (.own x))(k:∀b u,b≠e->h.get? b=some u->h'.get? b=some u) (heo:∃u,h'.get? e=some u)
  (new:Jk P w (upd H x o') h' x o'):HOk P w (upd H x o') h':=fun b u q=>by
 have nown:∀c y,H c=some (.own y)->c≠x:=fun c y r z=>by subst z;rw[r]at mu;exact mu
 have ntup:∀c xs,H c=some (.tup xs)->c≠x:=fun c xs r z=>by subst z;rw[r]at mu;exact mu
 by_cases hb:b=x
 ·subst hb;rw[Qa]at q;cases q;exact new
 ·rw[Qp hb]at q
  by_cases hbe:b=e
  ·have q':H b=some (.own x):=by
    rcases he with z|z
    ·exact absurd (hbe.trans z) hb
    ·rw[hbe];exact z
   rw[q]at q';cases q';obtain⟨v,hv⟩:=heo;exact⟨v,by rw[hbe];exact hv⟩
  ·refine(ok b u q).zB (fun c v hc r=>k c v ?_ r) (fun c r=>by rw[Qp (nown c b r)];exact r) fun c xs r=>by rw[Qp (ntup c xs r)];exact r
   rcases hc with rfl|hc
   ·exact hbe
   ·rintro rfl;rcases he with z|z
    ·exact nown c b hc z
    ·rw[hc]at z;cases z;exact hb rfl
end
structure Un(fs ex:List Addr)(H H':Hp)(h h':Heap):Prop where
 keep:∀b o,h.get? b=some o->H b=none->b∉fs->b∉ex->h'.get? b=some o
 slot:∀b o,h.get? b=some o->H b=none->b∈fs->b∉ex->∃sl,h'.get? b=some {o with slots:=sl}
 free:∀b o,h.get? b=some o->H b=none->b∉ex->H' b=none
 there:∀b o,h.get? b=some o->b∉ex->∃o',h'.get? b=some o'
 Wz:∀b xs,H b=some (.tup xs)->H' b=some (.tup xs)
 frzs:∀b o u,H b=some (.frz o u)->H' b=some (.frz o u)
 tbls:∀b ps,H b=some (.tbl ps)->∃more,H' b=some (.tbl (ps++more))
section
variable {fs fs' ex ex':List Addr}{H H1 H2:Hp}{h h1 h2 h':Heap}{a x e:Addr}{o:HO}
theorem Un.any(u:Un fs ex H H1 h h1){b:Addr}{ob:Obj}(q:h.get? b=some ob)(n:H b=none)(hx:b∉ex):∃sl,h1.get? b=some {ob with slots:=sl}:=by
 by_cases hb:b∈fs
 ·exact u.slot b ob q n hb hx
 ·exact⟨ob.slots,u.keep b ob q n hb hx⟩
theorem Un.kept(k:∀b u,h.get? b=some u->h'.get? b=some u):Un fs ex H H h h':=
 ⟨fun b ob q _ _ _=>k b ob q,fun b ob q _ _ _=>⟨ob.slots,k b ob q⟩,fun _ _ _ n _=>n,fun b ob q _=>⟨ob,k b ob q⟩,fun _ _ q=>q,fun _ _ _ q=>q,fun _ ps q=>⟨#[],by rw[q];simp⟩⟩
theorem Un.refl:Un fs ex H H h h:=Un.kept fun _ _ q=>q
theorem Un.laid(k:∀b u,h.get? b=some u->h'.get? b=some u) (hp:h.objs.size<=a) (hn:H a=none):Un fs ex H (upd H a o) h h' where
 keep:=fun b u q _ _ _=>k b u q
 slot:=fun b u q _ _ _=>⟨u.slots,k b u q⟩
 free:=fun b u q n _=>by rw[Qp (Nat.ne_of_lt (Nat.lt_of_lt_of_le (Heap.lt_size q) hp))];exact n
 there:=fun b u q _=>⟨u,k b u q⟩
 Wz:=fun b xs q=>by rw[Qp (Qv q hn)];exact q
 frzs:=fun b u xs q=>by rw[Qp (Qv q hn)];exact q
 tbls:=fun b ps q=>⟨#[],by rw[Qp (Qv q hn),q];simp⟩
theorem Un.write(mu:Mut (H x))(he:e=x\/H e=some (.own x))(k:∀b u,b≠e->h.get? b=some u->h'.get? b=some u) (heo:∃u,h'.get? e=some u):Un fs ex H (upd H x o) h h':=by
 have hx:∀b,H b=none->b≠x:=fun b n z=>by subst z;rw[n]at mu;exact mu
 have hb:∀b,H b=none->b≠e:=fun b n z=>by
  subst z;rcases he with r|r
  ·exact hx b n r
  ·rw[n]at r;cases r
 have hm:∀b u,H b=some u->¬ Mut (some u)->b≠x:=fun b u q nm z=>by subst z;rw[q]at mu;exact nm mu
 refine⟨fun b u q n _ _=>k b u (hb b n) q,fun b u q n _ _=>⟨u.slots,k b u (hb b n) q⟩,fun b u q n _=>by rw[Qp (hx b n)];exact n,fun b u q _=>?_,
  fun b xs q=>by rw[Qp (hm b _ q fun z=>z)];exact q,fun b u xs q=>by rw[Qp (hm b _ q fun z=>z)];exact q,fun b ps q=>⟨#[],by rw[Qp (hm b _ q fun z=>z),q];simp⟩⟩
 by_cases hbe:b=e
 ·subst hbe;exact heo
 ·exact⟨u,k b u hbe q⟩
end
noncomputable def trk(h:Heap)(H:Hp):List Addr:=(List.range h.objs.size).filter fun a=>(H a).isSome
noncomputable def vq(h:Heap)(H:Hp):Heap:=hideAll h (trk h H)
theorem xA(h:Heap)(H:Hp):(vq h H).objs.size=h.objs.size:=hideAll_size _ _
theorem vA{h:Heap}{H:Hp}{b:Addr}{o:Obj}(e:h.get? b=some o)(n:H b=none):(vq h H).get? b=some o:=
 hideAll_get _ e fun hm=>by
  have q:(H b).isSome=true:=(List.mem_filter.mp hm).2;rw[n]at q;simp at q
theorem QaX{h:Heap}{H:Hp}{b:Addr}{o:Obj}(e:(vq h H).get? b=some o):h.get? b=some o/\H b=none:=by
 have e':h.get? b=some o:=of_hideAll (trk h H) e;refine⟨e',?_⟩;cases q:H b with
 |none=>rfl
 |some x=>
  have hm:b∈trk h H:=List.mem_filter.mpr ⟨List.mem_range.mpr (Heap.lt_size e'),by simp[q]⟩;have z:(vq h H).get? b=none:=hideAll_none (trk h H) hm;rw[z]at e;cases e
structure Mod(K:PySem.W.Frag)(mg:Str->Option Value)(base:Heap):Prop where
 kin:K.In base
 glob:base.Ns mainGlobals mg
 blt:∃mb,base.Ns builtinsNs mb/\∀x:Str,x≠"__name__"->mb x=bootBuiltins x
 nolimit:base.NoLimit
structure Cx where
 prog:Program
 w:World
 K:PySem.W.Frag
 mg:Str->Option Value
 base:Heap
 A:Around
 N:List Str
 s₀:Shared
 H₀:Hp
 env:Env
 outer:List Env
 stack:List Env
 ex:List Addr
 fn:Str->Bool
 calm:Bool
 pn:List (Addr × Obj)
 xe:Value->Shared->Prop
noncomputable def frs(l:List Env):List Addr:=l.filterMap (·.frame)
noncomputable abbrev Cx.fs(X:Cx):List Addr:=frs X.outer
noncomputable def Vis(sc:Scope)(x:Str):Prop:=sc.names.lookup x=some .local\/sc.names.lookup x=some .cell\/sc.names.lookup x=some .free
noncomputable def Loc(sc:Scope)(x:Str):Prop:=sc.names.lookup x=some .local\/sc.names.lookup x=some .cell
noncomputable def Look(env:Env)(h:Heap)(m:Str->Option Value)(x:Str)(u:Value):Prop:=
 (env.kindOf x=some .local/\m x=some u)\/((env.kindOf x=some .cell\/env.kindOf x=some .free)/\∃c,env.cells.lookup x=some c/\h.IsCell c (some u))
structure Cx.Ok(X:Cx):Prop where
 mod:Mod X.K X.mg X.base
 kind:X.env.scope.kind=.function
 glob:X.env.globals=mainGlobals
 blt:X.env.builtins=builtinsNs
 above:X.s₀.heap.objs.size<=X.env.locals
 inj:∀x y c,X.env.cells.lookup x=some c->X.env.cells.lookup y=some c->x=y
 has:∀x,(X.env.kindOf x=some .cell\/X.env.kindOf x=some .free)->∃c,X.env.cells.lookup x=some c
 cab:∀x c,X.fn x=true->X.env.cells.lookup x=some c->X.s₀.heap.objs.size<=c
 hd:X.calm=true->X.A.handled=none
 frames:X.A.frames=some X.stack
 stk:X.stack=X.outer\/(X.stack=X.env::X.outer/\X.env.frame=some X.env.locals)
 exf:∀b∈X.ex,b≠X.env.locals/\∀x c,X.env.cells.lookup x=some c->c≠b
 bs:∀b o,X.base.get? b=some o->X.s₀.heap.get? b=some o/\X.H₀ b=none
 bsz:X.base.objs.size<=X.s₀.heap.objs.size
 noex:∀b o,X.base.get? b=some o->b∉X.ex
 exfs:∀b∈X.ex,b∉X.fs
 qf:X.s₀.heap.FunFrames X.base X.outer
 frf:∀b∈X.fs,X.H₀ b=none
structure Inv(X:Cx)(pins:List (Addr × Obj))(σ:List (Option V))(H:Hp)(s:Shared):Prop where
 ok:X.Ok
 os:s.os=X.s₀.os
 bare:AllBare s.gens
 base:Un X.fs X.ex X.H₀ H X.s₀.heap s.heap
 loc:∃m,s.heap.Ns X.env.locals m/\∀(i:Nat)(x:Str)(v:V),X.N[i]? =some x->σ[i]? =some (some v)->Vis X.env.scope x->∃u,RelV v u/\Look X.env s.heap m x u
 cell:∀x c,X.env.cells.lookup x=some c->∃v,s.heap.IsCell c v
 free:H X.env.locals=none
 freeC:∀x c,X.env.cells.lookup x=some c->H c=none
 pin:∀p∈X.pn++pins,s.heap.get? p.1=some p.2/\H p.1=none/\p.1≠X.env.locals/\p.1∉X.fs/\∀v,p.2.data≠ .cell v
 hok:HOk X.prog X.w H s.heap
 len:σ.length=X.N.length
section
variable {X:Cx}{pins:List (Addr × Obj)}{σ:List (Option V)}{H H':Hp}{s:Shared}{h':Heap}
theorem Cx.Ok.QeT(ok:X.Ok){b:Addr}{o:Obj}(e:X.base.get? b=some o):b∉X.fs:=fun hb=>by
 have:=(ok.qf.mem hb).1;rw[e]at this;cases this
theorem Inv.bs(I:Inv X pins σ H s):∀b o,X.base.get? b=some o->s.heap.get? b=some o/\H b=none:=fun b o e=>
 ⟨I.base.keep b o (I.ok.bs b o e).1 (I.ok.bs b o e).2 (I.ok.QeT e) (I.ok.noex b o e),I.base.free b o (I.ok.bs b o e).1 (I.ok.bs b o e).2 (I.ok.noex b o e)⟩
theorem Inv.bk(I:Inv X pins σ H s):∀b o,X.base.get? b=some o->s.heap.get? b=some o:=fun b o e=>(I.bs b o e).1
theorem Inv.mod(I:Inv X pins σ H s):Mod X.K X.mg X.base:=I.ok.mod
theorem Inv.kIn(I:Inv X pins σ H s):X.K.In s.heap:=I.ok.mod.kin.keeps I.bk
theorem Inv.nolimit(I:Inv X pins σ H s):s.heap.NoLimit:=I.ok.mod.nolimit.keeps I.bk
theorem Inv.lt(I:Inv X pins σ H s):X.env.locals<s.heap.objs.size:=let ⟨_,hn,_⟩:=I.loc;hn.lt
theorem Inv.sz(I:Inv X pins σ H s):X.s₀.heap.objs.size<=s.heap.objs.size:=Nat.le_trans I.ok.above (Nat.le_of_lt I.lt)
theorem Inv.QeU(I:Inv X pins σ H s){a:Addr}(h:s.heap.objs.size<=a):a∉X.fs:=fun hb=>by
 obtain⟨_,o,ho,_⟩:=I.ok.qf.mem hb;exact absurd (Nat.lt_of_lt_of_le (Heap.lt_size ho) (Nat.le_trans I.sz h)) (uR _)
theorem Inv.cne(I:Inv X pins σ H s):∀x c,X.env.cells.lookup x=some c->c≠X.env.locals:=fun x c e z=>by
 obtain⟨v,o,ho,hd⟩:=I.cell x c e;obtain⟨m,⟨o',es,ep,ho',hd',_⟩,_⟩:=I.loc;rw[z,ho']at ho;cases ho;rw[hd']at hd;cases hd
theorem Inv.qf(I:Inv X pins σ H s):s.heap.FunFrames X.base X.outer:=by
 have all:∀(l:List Env),(∀b∈frs l,b∈X.fs)->X.s₀.heap.FunFrames X.base l->s.heap.FunFrames X.base l:=by
  intro l
  induction l with
  |nil=>intro _ _;trivial
  |cons env r ih=>
   intro hs hl;obtain⟨hk,⟨L,o,hf,hn,ho,hd⟩,hr⟩:=hl;have hL:L∈X.fs:=hs L (by unfold frs;rw[List.filterMap_cons,hf];exact uA);obtain⟨sl,e⟩:=I.base.slot L o ho (I.ok.frf L hL) hL fun z=>I.ok.exfs L z hL;exact⟨hk,⟨L,_,hf,hn,e,hd⟩,ih (fun b hb=>hs b (by unfold frs;rw[List.filterMap_cons,hf];exact uz _ hb)) hr⟩
 exact all X.outer (fun _ hb=>hb) I.ok.qf
theorem Inv.stack(I:Inv X pins σ H s):s.heap.FunFrames X.base X.stack:=by
 rcases I.ok.stk with e|⟨e,hf⟩
 ·rw[e];exact I.qf
 ·rw[e];obtain⟨m,hn,_⟩:=I.loc;refine .cons (by rw[I.ok.kind];decide) hf hn ?_ I.qf;exact Heap.get?_none_of_le (Nat.le_trans I.ok.bsz I.ok.above)
theorem Inv.Kc(I:Inv X pins σ H s):∀b∈frs X.stack,b∈X.env.locals::X.fs:=fun b hb=>by
 rcases I.ok.stk with e|⟨e,hf⟩
 ·rw[e]at hb;exact uz _ hb
 ·rw[e]at hb;unfold frs at hb;rw[List.filterMap_cons,hf]at hb;exact hb
theorem Inv.XV(I:Inv X pins σ H s):∀b∈frs X.stack,H b=none:=fun b hb=>by
 rcases List.mem_cons.mp (I.Kc b hb)with e|hb
 ·rw[e];exact I.free
 ·obtain⟨_,o,ho,_⟩:=I.ok.qf.mem hb;exact I.base.free b o ho (I.ok.frf b hb) fun z=>I.ok.exfs b z hb
theorem Inv.step{g':Array GenState}{t':Nat}{d':Drawn}{ch:List Addr}(I:Inv X pins σ H s)
  (hch:∀b∈ch,(b∈X.ex\/X.s₀.heap.objs.size<=b)/\b≠X.env.locals/\(∀x c,X.env.cells.lookup x=some c->c≠b)/\∀p∈X.pn++pins,p.1≠b)
  (keep:∀b o,b≠X.env.locals->b∉X.fs->b∉ch->s.heap.get? b=some o->H b=none->h'.get? b=some o)
  (slot:∀b o,b≠X.env.locals->b∈X.fs->b∉ch->s.heap.get? b=some o->H b=none->∃sl,h'.get? b=some {o with slots:=sl}) (free:∀b o,b∉ch->s.heap.get? b=some o->H b=none->H' b=none)
  (there:∀b o,b∉ch->s.heap.get? b=some o->∃o',h'.get? b=some o')
  (Wz:∀b xs,H b=some (.tup xs)->H' b=some (.tup xs)) (frzs:∀b o u,H b=some (.frz o u)->H' b=some (.frz o u)) (tbls:∀b ps,H b=some (.tbl ps)->∃more,H' b=some (.tbl (ps++more)))
  (ns:∀m,s.heap.Ns X.env.locals m->h'.Ns X.env.locals m) (hok:HOk X.prog X.w H' h') (hg:AllBare g'):
  Inv X pins σ H' {s with heap:=h',gens:=g',drawn:=d',toks:=t'}:=by
 have neL:∀b o,X.s₀.heap.get? b=some o->b≠X.env.locals:=fun b o e=>Nat.ne_of_lt (Nat.lt_of_lt_of_le (Heap.lt_size e) I.ok.above);have neC:∀b o,X.s₀.heap.get? b=some o->b∉X.ex->b∉ch:=fun b o e hx hb=>by
  rcases(hch b hb).1 with z|z
  ·exact hx z
  ·exact absurd (Nat.lt_of_lt_of_le (Heap.lt_size e) z) (uR _)
 have cellK:∀x c,X.env.cells.lookup x=some c->∀v,s.heap.IsCell c v->h'.IsCell c v:=fun x c e v⟨o,ho,hd⟩=>by
  have nch:c∉ch:=fun z=>(hch c z).2.2.1 x c e rfl
  by_cases hc:c∈X.fs
  ·obtain⟨sl,q⟩:=slot c o (I.cne x c e) hc nch ho (I.freeC x c e);exact⟨_,q,hd⟩
  ·exact⟨o,keep c o (I.cne x c e) hc nch ho (I.freeC x c e),hd⟩
 refine⟨I.ok,I.os,hg,⟨fun b o e n hb hx=>?_,fun b o e n hb hx=>?_,fun b o e n hx=>?_,fun b o e hx=>?_,fun b xs e=>Wz b xs (I.base.Wz b xs e),fun b o xs e=>frzs b o xs (I.base.frzs b o xs e),fun b ps e=>?_⟩,?_,fun x c e=>?_,?_,fun x c e=>?_,fun p hp=>?_,hok,I.len⟩
 ·exact keep b o (neL b o e) hb (neC b o e hx) (I.base.keep b o e n hb hx) (I.base.free b o e n hx)
 ·obtain⟨sl,e1⟩:=I.base.slot b o e n hb hx;obtain⟨sl',e2⟩:=slot b _ (neL b o e) hb (neC b o e hx) e1 (I.base.free b o e n hx);exact⟨sl',e2⟩
 ·obtain⟨o',e1⟩:=I.base.there b o e hx;exact free b o' (neC b o e hx) e1 (I.base.free b o e n hx)
 ·obtain⟨o',e1⟩:=I.base.there b o e hx;exact there b o' (neC b o e hx) e1
 ·obtain⟨m1,e1⟩:=I.base.tbls b ps e;obtain⟨m2,e2⟩:=tbls b _ e1;exact⟨m1++m2,by rw[e2,Array.append_assoc]⟩
 ·obtain⟨m,hn,hl⟩:=I.loc;refine⟨m,ns m hn,fun i x v e1 e2 e3=>?_⟩;obtain⟨u,r,l⟩:=hl i x v e1 e2 e3;refine⟨u,r,?_⟩;rcases l with l|⟨k,c,e,z⟩
  ·exact .inl l
  ·exact .inr ⟨k,c,e,cellK x c e _ z⟩
 ·obtain⟨v,z⟩:=I.cell x c e;exact⟨v,cellK x c e v z⟩
 ·obtain⟨m,⟨o,_,_,ho,_⟩,_⟩:=I.loc;exact free _ o (fun z=>(hch _ z).2.1 rfl) ho I.free
 ·obtain⟨v,o,ho,hd⟩:=I.cell x c e;exact free c o (fun z=>(hch c z).2.2.1 x c e rfl) ho (I.freeC x c e)
 ·obtain⟨e,n,ne,nf,d⟩:=I.pin p hp;have nch:p.1∉ch:=fun z=>(hch p.1 z).2.2.2 p hp rfl;exact⟨keep p.1 p.2 ne nf nch e n,free p.1 p.2 nch e n,ne,nf,d⟩
theorem Inv.un{t':Nat}(I:Inv X pins σ H s)(u:Un X.fs [] H H' s.heap h')(hok:HOk X.prog X.w H' h'):Inv X pins σ H' {s with heap:=h',toks:=t'}:=by
 obtain⟨m,⟨o,es,ep,ho,r⟩,_⟩:=id I.loc;obtain⟨sl,hL⟩:=u.any ho I.free (by simp);exact I.step (g':=s.gens) (d':=s.drawn) (ch:=[]) (fun _ z=>nomatch z) (fun b o _ hb _ e n=>u.keep b o e n hb (by simp)) (fun b o _ hb _ e n=>u.slot b o e n hb (by simp)) (fun b o _ e n=>u.free b o e n (by simp)) (fun b o _ e=>u.there b o e (by simp)) u.Wz u.frzs u.tbls (fun m' hm=>by
  obtain⟨o',es',ep',ho',r'⟩:=hm;rw[ho]at ho';cases ho';exact⟨_,es',ep',hL,r'⟩) hok I.bare
theorem Inv.call{g':Array GenState}{t':Nat}{d':Drawn}{ch:List Addr}(I:Inv X pins σ H s)(u:Un (frs X.stack) ch H H' s.heap h')(hok:HOk X.prog X.w H' h')(hg:AllBare g')
  (hch:∀b∈ch,(b∈X.ex\/X.s₀.heap.objs.size<=b)/\b≠X.env.locals/\(∀x c,X.env.cells.lookup x=some c->c≠b)/\∀p∈X.pn++pins,p.1≠b):
  Inv X pins σ H' {s with heap:=h',gens:=g',drawn:=d',toks:=t'}:=by
 obtain⟨m,⟨o,es,ep,ho,r⟩,_⟩:=id I.loc;obtain⟨sl,hL⟩:=u.any ho I.free fun z=>(hch _ z).2.1 rfl;exact I.step (ch:=ch) hch (fun b o hL hb hc e n=>u.keep b o e n (fun z=>(List.mem_cons.mp (I.Kc b z)).elim hL hb) hc) (fun b o _ _ hc e n=>u.any e n hc) (fun b o hc e n=>u.free b o e n hc) (fun b o hc e=>u.there b o e hc) u.Wz u.frzs u.tbls (fun m' hm=>by
  obtain⟨o',es',ep',ho',r'⟩:=hm;rw[ho]at ho';cases ho';exact⟨_,es',ep',hL,r'⟩) hok hg
theorem Inv.turned{t':Nat}{it:Addr}(I:Inv X pins σ H s)(k:∀b o,b≠it->s.heap.get? b=some o->h'.get? b=some o) (hn:H it=none) (hL:it≠X.env.locals)
  (h1:it∈X.ex\/X.s₀.heap.objs.size<=it) (h2:∀x c,X.env.cells.lookup x=some c->c≠it) (h3:∀p∈X.pn++pins,p.1≠it):Inv X pins σ H {s with heap:=h',toks:=t'}:=by
 have nit:∀b u,H b=some u->b≠it:=fun b u e z=>by rw[z,hn]at e;cases e
 refine I.step (g':=s.gens) (d':=s.drawn) (ch:=[it]) (fun b hb=>?_) (fun b o _ _ hc e _=>k b o (fun z=>hc (by simp[z])) e) (fun b o _ _ hc e _=>⟨o.slots,k b o (fun z=>hc (by simp[z])) e⟩) (fun _ _ _ _ n=>n)
  (fun b o hc e=>⟨o,k b o (fun z=>hc (by simp[z])) e⟩) (fun _ _ e=>e) (fun _ _ _ e=>e) (fun b ps e=>⟨#[],by rw[e];simp⟩) (fun m hm=>?_) (fun b u e=>?_) I.bare
 ·have e:b=it:=by simpa using hb
  subst e;exact⟨h1,hL,h2,h3⟩
 ·obtain⟨o,es,ep,ho,r⟩:=hm;exact⟨o,es,ep,k _ o (Ne.symm hL) ho,r⟩
 ·refine(I.hok b u e).zB (fun c v hc q=>k c v ?_ q) (fun _ q=>q) fun _ _ q=>q;rcases hc with z|z
  ·rw[z];exact nit b u e
  ·exact nit c _ z
theorem Inv.tok(I:Inv X pins σ H s)(t:Nat):Inv X pins σ H {s with toks:=t}:=I.un (h':=s.heap) (t':=t) Un.refl I.hok
theorem Inv.kept{t':Nat}(I:Inv X pins σ H s)(k:∀b u,s.heap.get? b=some u->h'.get? b=some u):Inv X pins σ H {s with heap:=h',toks:=t'}:=I.un (Un.kept k) (I.hok.kept k)
theorem Inv.laid{a:Addr}{o:HO}{t':Nat}(I:Inv X pins σ H s)(k:∀b u,s.heap.get? b=some u->h'.get? b=some u) (hp:s.heap.objs.size<=a) (new:Jk X.prog X.w (upd H a o) h' a o):
  Inv X pins σ (upd H a o) {s with heap:=h',toks:=t'}:=I.un (Un.laid k hp (I.hok.fresh hp)) (I.hok.laid k hp new)
theorem Inv.write{x e:Addr}{o:HO}{t':Nat}(I:Inv X pins σ H s)(mu:Mut (H x))(he:e=x\/H e=some (.own x))(k:∀b u,b≠e->s.heap.get? b=some u->h'.get? b=some u) (heo:∃u,h'.get? e=some u)
  (new:Jk X.prog X.w (upd H x o) h' x o):Inv X pins σ (upd H x o) {s with heap:=h',toks:=t'}:=I.un (Un.write mu he k heo) (I.hok.write mu he k heo new)
theorem Inv.weak{σ':List (Option V)}(I:Inv X pins σ H s)(hl:σ'.length=σ.length)(w:∀(i:Nat) v,σ'[i]? =some (some v)->σ[i]? =some (some v)):Inv X pins σ' H s:=
 ⟨I.ok,I.os,I.bare,I.base,let ⟨m,hn,hl'⟩:=I.loc;⟨m,hn,fun i x v e1 e2 e3=>hl' i x v e1 (w i v e2) e3⟩,I.cell,I.free,I.freeC,I.pin,I.hok,hl.trans I.len⟩
theorem Inv.Xb{pins':List (Addr × Obj)}(I:Inv X pins σ H s)(h:∀p∈pins',s.heap.get? p.1=some p.2/\H p.1=none/\p.1≠X.env.locals/\p.1∉X.fs/\∀v,p.2.data≠ .cell v):Inv X pins' σ H s:=
 ⟨I.ok,I.os,I.bare,I.base,I.loc,I.cell,I.free,I.freeC,fun p hp=>(List.mem_append.mp hp).elim (fun z=>I.pin p (uy _ z)) (h p),I.hok,I.len⟩
theorem Yc{N:List Str}(hN:N.Nodup){i j:Nat}{x:Str}(a:N[i]? =some x)(b:N[j]? =some x):i=j:=by
 obtain⟨h1,e1⟩:=List.getElem?_eq_some_iff.mp a;obtain⟨h2,e2⟩:=List.getElem?_eq_some_iff.mp b;exact(List.getElem_inj hN).mp (e1.trans e2.symm)
theorem WG{M:Model}{A:Around}{E:Value->Shared->Prop}{i:Nat}{x:Str}{v:V}{u:Value}{Q:Unit->Shared->Prop}(I:Inv X pins σ H s)(hN:X.N.Nodup)(hi:X.N[i]? =some x)(hx:Loc X.env.scope x)(r:RelV v u)
  (h:∀s',Inv X pins (σ.set i (some v)) H s'->(∃a,Heap.SameBut a s.heap s'.heap/\(a=X.env.locals\/X.env.cells.lookup x=some a))->Q () s') (hf:X.fn x=true\/X.env.scope.names.lookup x=some .local:=by first|exact .inl rfl|exact .inr rfl|assumption):wpAny M A (storeName X.env x u) Q E s:=by
 obtain⟨m,hn,hl⟩:=id I.loc;have hcls:(X.env.scope.kind==.class||(X.env.scope.kind==.module&&X.env.locals !=X.env.globals))=false:=by rw[I.ok.kind];rfl
 have hiσ:i<σ.length:=by rw[I.len];exact(List.getElem?_eq_some_iff.mp hi).1
 have cne:=I.cne;have tracked:∀{a:Addr}{h':Heap},(∃o,s.heap.get? a=some o/\H a=none)->Heap.SameBut a s.heap h'->HOk X.prog X.w H h':=fun{a h'} ha hs b ob e=>by
  obtain⟨_,_,hfree⟩:=ha;refine(I.hok b ob e).zB (fun c w' hc q=>(hs.2 c ?_).trans q) (fun _ q=>q) fun _ _ q=>q;rintro rfl;rcases hc with rfl|hc
  ·rw[hfree]at e;cases e
  ·rw[hfree]at hc;cases hc
 rcases hx with hk|hk
 ·refine wpAny_storeName_local hk hn (fun h' hn' hs=>?_) hcls;obtain⟨oL,_,_,hoL,_⟩:=id hn;refine h _ ⟨I.ok,I.os,I.bare,⟨fun b o e n hb hx=>?_,fun b o e n hb hx=>?_,I.base.free,fun b o e hx=>?_,I.base.Wz,I.base.frzs,I.base.tbls⟩,⟨_,hn',fun j y v' e1 e2 e3=>?_⟩,fun y c e=>?_,I.free,I.freeC,fun p hp=>?_,tracked ⟨oL,hoL,I.free⟩ hs,by simpa using I.len⟩ ⟨_,hs,.inl rfl⟩
  ·exact(hs.2 b (Nat.ne_of_lt (Nat.lt_of_lt_of_le (Heap.lt_size e) I.ok.above))).trans (I.base.keep b o e n hb hx)
  ·obtain⟨sl,e1⟩:=I.base.slot b o e n hb hx;exact⟨sl,(hs.2 b (Nat.ne_of_lt (Nat.lt_of_lt_of_le (Heap.lt_size e) I.ok.above))).trans e1⟩
  ·obtain⟨o',e1⟩:=I.base.there b o e hx;exact⟨o',(hs.2 b (Nat.ne_of_lt (Nat.lt_of_lt_of_le (Heap.lt_size e) I.ok.above))).trans e1⟩
  ·by_cases hj:j=i
   ·subst hj;rw[hi]at e1;cases e1;rw[List.getElem?_set_self hiσ]at e2;cases e2;exact⟨u,r,.inl ⟨hk,by simp⟩⟩
   ·rw[List.getElem?_set_ne (Ne.symm hj)]at e2;obtain⟨u',r',q⟩:=hl j y v' e1 e2 e3;refine⟨u',r',?_⟩;rcases q with⟨k,e⟩|⟨k,c,e,z⟩
    ·refine .inl ⟨k,?_⟩;have:y≠x:=fun e=>hj (Yc hN e1 (e▸hi));simp[this,e]
    ·exact .inr ⟨k,c,e,z.sameBut hs (cne y c e)⟩
  ·obtain⟨w',z⟩:=I.cell y c e;exact⟨w',z.sameBut hs (cne y c e)⟩
  ·obtain⟨e,n,ne,nf,d⟩:=I.pin p hp;exact⟨(hs.2 p.1 ne).trans e,n,ne,nf,d⟩
 ·have hfn:X.fn x=true:=by
   rcases hf with z|z
   ·exact z
   ·rw[z]at hk;cases hk
  obtain⟨c,hc⟩:=I.ok.has x (.inl hk);obtain⟨w',z⟩:=I.cell x c hc;refine wpAny_storeName_cell I.ok.kind hk hc z (fun h' hc' hs=>?_);obtain⟨oc,hoc,hocd⟩:=id z;refine h {s with heap:=h'} ⟨I.ok,I.os,I.bare,⟨fun b o e n hb hx=>?_,fun b o e n hb hx=>?_,I.base.free,fun b o e hx=>?_,I.base.Wz,I.base.frzs,I.base.tbls⟩,⟨m,hn.sameBut hs (Ne.symm (cne x c hc)),fun j y v' e1 e2 e3=>?_⟩,fun y c' e=>?_,I.free,I.freeC,fun p hp=>?_,tracked ⟨oc,hoc,I.freeC x c hc⟩ hs,by simpa using I.len⟩ ⟨c,hs,.inr hc⟩
  ·exact(hs.2 b (Nat.ne_of_lt (Nat.lt_of_lt_of_le (Heap.lt_size e) (I.ok.cab x c hfn hc)))).trans (I.base.keep b o e n hb hx)
  ·obtain⟨sl,e1⟩:=I.base.slot b o e n hb hx;exact⟨sl,(hs.2 b (Nat.ne_of_lt (Nat.lt_of_lt_of_le (Heap.lt_size e) (I.ok.cab x c hfn hc)))).trans e1⟩
  ·obtain⟨o',e1⟩:=I.base.there b o e hx;exact⟨o',(hs.2 b (Nat.ne_of_lt (Nat.lt_of_lt_of_le (Heap.lt_size e) (I.ok.cab x c hfn hc)))).trans e1⟩
  ·by_cases hj:j=i
   ·subst hj;rw[hi]at e1;cases e1;rw[List.getElem?_set_self hiσ]at e2;cases e2;exact⟨u,r,.inr ⟨.inl hk,c,hc,hc'⟩⟩
   ·rw[List.getElem?_set_ne (Ne.symm hj)]at e2;obtain⟨u',r',q⟩:=hl j y v' e1 e2 e3;refine⟨u',r',?_⟩;rcases q with q|⟨k,c',e,z'⟩
    ·exact .inl q
    ·refine .inr ⟨k,c',e,z'.sameBut hs ?_⟩;rintro rfl;exact hj (Yc hN e1 (I.ok.inj _ _ _ e hc▸hi))
  ·by_cases hcc:c'=c
   ·subst hcc;exact⟨_,hc'⟩
   ·obtain⟨w2,z2⟩:=I.cell y c' e;exact⟨w2,z2.sameBut hs hcc⟩
  ·obtain⟨e,n,ne,nf,d⟩:=I.pin p hp;refine⟨(hs.2 p.1 ?_).trans e,n,ne,nf,d⟩;intro q;rw[q,hoc]at e;have q':oc=p.2:=ur e;exact d w' (by rw[←q'];exact hocd)
theorem Xv{M:Model}{A:Around}{E:Value->Shared->Prop}{i:Nat}{x:Str}{v:V}{u:Value}{Q:Unit->Shared->Prop}(I:Inv X pins σ H s)(hN:X.N.Nodup)(hi:X.N[i]? =some x)(hx:Loc X.env.scope x)(r:RelV v u)
  (h:∀s',Inv X pins (σ.set i (some v)) H s'->Q () s') (hf:X.fn x=true\/X.env.scope.names.lookup x=some .local:=by first|exact .inl rfl|exact .inr rfl|assumption):wpAny M A (storeName X.env x u) Q E s:=
 WG I hN hi hx r (fun s' I' _=>h s' I') hf
theorem Inv.xB{s':Shared}{ch:List Addr}(I:Inv X pins σ H s)(ho:s'.os=s.os)(u:Un (frs X.stack) ch H H' s.heap s'.heap)(hok:HOk X.prog X.w H' s'.heap)(hg:AllBare s'.gens)
  (hch:∀b∈ch,(b∈X.ex\/X.s₀.heap.objs.size<=b)/\b≠X.env.locals/\(∀x c,X.env.cells.lookup x=some c->c≠b)/\∀p∈X.pn++pins,p.1≠b):Inv X pins σ H' s':=by
 obtain⟨h',g',d',t',o'⟩:=s';have e:o'=s.os:=ho;subst e;exact I.call (g':=g') (t':=t') (d':=d') u hok hg hch
end
noncomputable abbrev XK:=Value->Option Addr->Hp->Prop
noncomputable abbrev St:=List (Option V)
noncomputable abbrev VK:=V->Hp->Prop
noncomputable abbrev TE:=St->Hp->VK->Prop
noncomputable abbrev TT:=St->Hp->(Bool->Hp->Prop)->Prop
noncomputable abbrev TA:=St->Hp->(List V->Hp->Prop)->Prop
structure Ends where
 nx:St->Hp->Prop
 rt:VK
 bk:St->Hp->Prop:=fun _ _=>False
 ct:St->Hp->Prop:=fun _ _=>False
noncomputable abbrev TS:=Ends->St->Hp->Prop
noncomputable def EP(X:Cx)(pins:List (Addr × Obj))(σ:St)(Q:VK)(u:Value)(s':Shared):Prop:=∃v H',Inv X pins σ H' s'/\RelV v u/\Q v H'
noncomputable def TP(X:Cx)(pins:List (Addr × Obj))(σ:St)(Q:Bool->Hp->Prop)(b:Bool)(s':Shared):Prop:=∃H',Inv X pins σ H' s'/\Q b H'
noncomputable def AP(X:Cx)(pins:List (Addr × Obj))(σ:St)(Q:List V->Hp->Prop)(us:List Value)(s':Shared):Prop:=∃vs H',Inv X pins σ H' s'/\Vals vs us/\Q vs H'
noncomputable def SP(X:Cx)(pins:List (Addr × Obj))(D:Ends)(f:Flow)(s':Shared):Prop:=
 match f with
 | .next=>∃σ' H',Inv X pins σ' H' s'/\D.nx σ' H'
 | .brk=>∃σ' H',Inv X pins σ' H' s'/\D.bk σ' H'
 | .cont=>∃σ' H',Inv X pins σ' H' s'/\D.ct σ' H'
 | .ret u=>∃v σ' H',Inv X pins σ' H' s'/\RelV v u/\D.rt v H'
noncomputable def PE(X:Cx)(e:Expr)(t:TE):Prop:=
 ∀(pins:List (Addr × Obj))(s:Shared)(σ:St)(H:Hp)(Q:VK),Inv X pins σ H s->t σ H Q->wpAny (model X.prog X.w) X.A (eval e X.env) (EP X pins σ Q) X.xe s
noncomputable def PT(X:Cx)(e:Expr)(t:TT):Prop:=
 ∀(pins:List (Addr × Obj))(s:Shared)(σ:St)(H:Hp)(Q:Bool->Hp->Prop),Inv X pins σ H s->t σ H Q->wpAny (model X.prog X.w) X.A (isTrue e X.env (eval e X.env)) (TP X pins σ Q) X.xe s
noncomputable def PW(X:Cx)(e:Expr)(t:TT):Prop:=
 ∀(whole:Sem Value)(pins:List (Addr × Obj))(s:Shared)(σ:St)(H:Hp)(Q:Bool->Hp->Prop),Inv X pins σ H s->t σ H Q->wpAny (model X.prog X.w) X.A (isTrue e X.env whole) (TP X pins σ Q) X.xe s
theorem PW.pt{X:Cx}{e:Expr}{t:TT}(h:PW X e t):PT X e t:=h _
noncomputable def PA(X:Cx)(es:List Expr)(t:TA):Prop:=
 ∀(pos:Pos)(pins:List (Addr × Obj))(s:Shared)(σ:St)(H:Hp)(Q:List V->Hp->Prop),Inv X pins σ H s->t σ H Q->wpAny (model X.prog X.w) X.A (spliced (backTo pos (starEach es X.env))) (AP X pins σ Q) X.xe s
noncomputable def PS(X:Cx)(st:Stmt)(t:TS):Prop:=
 ∀(pins:List (Addr × Obj))(s:Shared)(σ:St)(H:Hp)(D:Ends),Inv X pins σ H s->t D σ H->wpAny (model X.prog X.w) X.A (exec st X.env) (SP X pins D) X.xe s
noncomputable def PSs(X:Cx)(st:List Stmt)(t:TS):Prop:=
 ∀(pins:List (Addr × Obj))(s:Shared)(σ:St)(H:Hp)(D:Ends),Inv X pins σ H s->t D σ H->wpAny (model X.prog X.w) X.A (execs st X.env) (SP X pins D) X.xe s
theorem thn{α:Type}{t:Sem α}{Q Q':α->Shared->Prop}{M:Model}{A:Around}{E:Value->Shared->Prop}{s:Shared}(h:wpAny M A t Q E s)(hQ:∀a s,Q a s->Q' a s):wpAny M A t Q' E s:=wpAny_mono h hQ fun _ _ x=>x
section
variable {X:Cx}
noncomputable def Xa(i:Nat):TE:=fun σ H Q=>∃v,σ[i]? =some (some v)/\Q v H
noncomputable def tC(v:V):TE:=fun _ H Q=>Q v H
theorem Qai{i:Nat}{x:Str}{pos:Pos}(hN:X.N[i]? =some x)(hv:Vis X.env.scope x)(hd:(x==("__debug__":Str))=false:=by decide)(hcd:(x==("__classdict__":Str))=false:=by decide):PE X (.Name x pos) (Xa i):=by
 intro pins s σ H Q I h;obtain⟨v,e,h⟩:=h;obtain⟨m,hn,hl⟩:=I.loc;obtain⟨u,r,l⟩:=hl i x v hN e hv;have fin:EP X pins σ Q u s:=⟨v,H,I,r,h⟩;rcases l with⟨hk,hm⟩|⟨hk,c,hc,hcell⟩
 ·exact wpAny_Name (wpAny_loadName_local I.ok.kind hk hn hm fin) hd
 ·rcases hk with hk|hk
  ·exact wpAny_Name (wpAny_loadName_cell I.ok.kind hk hc hcell fin) hd
  ·exact wpAny_Name (wpAny_loadName_free I.ok.kind hk hc hcell fin hcd) hd
theorem Qd{i j pos}:PE X (.Constant (.int i) j pos) (tC (.int i)):=fun _ _ _ H _ I h=>wpAny_Constant_int ⟨.int i,H,I.tok _,⟨_,rfl⟩,h⟩
theorem ZQ{b j pos}:PE X (.Constant (.bool b) j pos) (tC (.bl b)):=fun _ _ _ H _ I h=>Constant_bool ⟨.bl b,H,I,rfl,h⟩
theorem Zv{j pos}:PE X (.Constant .none j pos) (tC .non):=fun _ _ _ H _ I h=>Constant_none ⟨.non,H,I,rfl,h⟩
theorem Qg{x j pos}:PE X (.Constant (.str x) j pos) (tC (.str x)):=fun _ _ _ H _ I h=>Calls.Constant_str ⟨.str x,H,I.tok _,⟨_,rfl⟩,h⟩
noncomputable def Gl(X:Cx)(x:Str):Prop:=X.env.kindOf x=some .globalImplicit
theorem XW{E:Value->Shared->Prop}{pins:List (Addr × Obj)}{s:Shared}{σ:St}{H:Hp}{x:Str}{u:Value}{pos:Pos}{Q:Value->Shared->Prop}(I:Inv X pins σ H s)(hg:Gl X x)(hm:X.mg x=some u)(h:Q u s)
  (hd:(x==("__debug__":Str))=false:=by decide):wpAny (model X.prog X.w) X.A (eval (.Name x pos) X.env) Q E s:=
 Calls.Name_function_global I.ok.kind hg (Calls.loadGlobal_global (by rw[I.ok.glob];exact I.mod.glob.keeps I.bk) hm h) hd
theorem WH{E:Value->Shared->Prop}{pins:List (Addr × Obj)}{s:Shared}{σ:St}{H:Hp}{x:Str}{u:Value}{pos:Pos}{Q:Value->Shared->Prop}(I:Inv X pins σ H s)(hg:Gl X x)(hm:X.mg x=none)(hv:bootBuiltins x=some u)(h:Q u s)
  (hn:x≠"__name__":=by decide) (hd:(x==("__debug__":Str))=false:=by decide):wpAny (model X.prog X.w) X.A (eval (.Name x pos) X.env) Q E s:=by
 obtain⟨mb,h1,h2⟩:=I.mod.blt;exact Calls.Name_function_global I.ok.kind hg (Calls.loadGlobal_builtin (by rw[I.ok.glob];exact I.mod.glob.keeps I.bk) hm (by rw[I.ok.blt];exact h1.keeps I.bk) ((h2 x hn).trans hv) h) hd
theorem QB{x:Str}{v:V}{u:Value}{pos:Pos}(hg:Gl X x)(hm:X.mg x=some u)(r:RelV v u)(hd:(x==("__debug__":Str))=false:=by decide):PE X (.Name x pos) (tC v):=
 fun _ _ _ H _ I h=>XW I hg hm ⟨v,H,I,r,h⟩ hd
theorem ZR{x:Str}{v:V}{u:Value}{pos:Pos}(hg:Gl X x)(hm:X.mg x=none)(hv:bootBuiltins x=some u)(r:RelV v u)(hn:x≠"__name__":=by decide)(hd:(x==("__debug__":Str))=false:=by decide):PE X (.Name x pos) (tC v):=
 fun _ _ _ H _ I h=>WH I hg hm hv ⟨v,H,I,r,h⟩ hn hd
variable {a b:Expr}{ta tb:TE}{pos:Pos}
noncomputable def PC(X:Cx)(op:CmpOp)(a b:Expr)(t:TE):Prop:=
 ∀(pins:List (Addr × Obj))(s:Shared)(σ:St)(H:Hp)(Q:VK),Inv X pins σ H s->t σ H Q->
  wpAny (model X.prog X.w) X.A (eval a X.env) (fun v s₁=>wpAny (model X.prog X.w) X.A (eval b X.env) (fun u s₂=>wpAny (model X.prog X.w) X.A (compareOp op v u) (EP X pins σ Q) X.xe s₂) X.xe s₁) X.xe s
theorem jB(b:Expr){op:CmpOp}(h:op≠ .In)(h2:op≠ .NotIn):behindInMarks op b=false:=by
 have e1:(op==CmpOp.In)=false:=by cases op<;>first|rfl|exact absurd rfl h
 have e2:(op==CmpOp.NotIn)=false:=by cases op<;>first|rfl|exact absurd rfl h2
 cases b<;>simp[behindInMarks,e1,e2]
noncomputable def QeV(ta:TE):TE:=fun σ H Q=>ta σ H fun x H1=>Q (.bl (decide (x=.non))) H1
noncomputable def QdH(ta:TE):TE:=fun σ H Q=>ta σ H fun x H1=>Q (.bl (!decide (x=.non))) H1
theorem RelV.jC{x:V}{v:Value}(r:RelV x v):(v==Value.none)=decide (x=.non):=by
 cases x with
 |non=>cases r;rfl
 |bl _=>cases r;rfl
 |int _=>obtain⟨t,rfl⟩:=r;rfl
 |str _=>obtain⟨t,rfl⟩:=r;rfl
 |byt _=>obtain⟨t,rfl⟩:=r;rfl
 |flt _=>obtain⟨t,rfl⟩:=r;rfl
 |ref _=>cases r;rfl
 |ty _=>cases r;rfl
theorem VN{j pos'}(ha:PE X a ta):PC X .Is a (.Constant .none j pos') (QeV ta):=by
 intro pins s σ H Q I h;refine thn (ha pins s σ H _ I h) fun v s1⟨x,H1,I1,r1,q1⟩=>?_;exact Constant_none (is_none_gen ⟨.bl _,H1,I1,by rw[r1.jC];rfl,q1⟩)
theorem QaY{j pos'}(ha:PE X a ta):PC X .IsNot a (.Constant .none j pos') (QdH ta):=by
 intro pins s σ H Q I h;refine thn (ha pins s σ H _ I h) fun v s1⟨x,H1,I1,r1,q1⟩=>?_;exact Constant_none (isnot_none_gen ⟨.bl _,H1,I1,by rw[r1.jC];rfl,q1⟩)
noncomputable def tB(t:TE):TT:=fun σ H Q=>t σ H fun x H1=>∃c,x=.bl c/\Q c H1
theorem Qci{op:CmpOp}{t:TE}(h:PC X op a b t)(h1:behindInMarks op b=false:=by first|exact jB _ (by decide) (by decide)|rfl):PE X (.Compare a [op] [b] pos) t:=fun pins s σ H Q I hw=>wpAny_Compare1 (h pins s σ H Q I hw) h1
theorem WI{op:CmpOp}{t:TE}(h:PC X op a b t)(h1:behindInMarks op b=false:=by first|exact jB _ (by decide) (by decide)|rfl):PT X (.Compare a [op] [b] pos) (tB t):=by
 intro pins s σ H Q I hw;refine wpAny_isTrue_Compare1 (thn (h pins s σ H _ I hw) fun v s1 h1=>thn h1 fun u s2 h2=>thn h2 fun c s3⟨x,H1,I1,r1,q1⟩=>?_) h1;obtain⟨d,rfl,q⟩:=q1;cases r1;exact wpAny_truthy_bool ⟨H1,I1,q⟩
theorem Zp{e:Expr}{t:TE}(h:PE X e t)(he:∀whole,isTrue e X.env whole=(do let v←whole;standAt e.pos;holding [v] (truthy v)):=by intro _;rfl):PT X e (tB t):=by
 intro pins s σ H Q I hw;refine isTrue_plain (thn (h pins s σ H _ I hw) fun v s1⟨x,H1,I1,r1,q1⟩=>?_) (he _);obtain⟨d,rfl,q⟩:=q1;cases r1;exact wpAny_truthy_bool ⟨H1,I1,q⟩
variable {tA tB':TT}{rest:List Expr}
noncomputable def QeW(t u:TT):TT:=fun σ H Q=>t σ H fun c H1=>if c=true then u σ H1 Q else Q false H1
noncomputable def tOr(t u:TT):TT:=fun σ H Q=>t σ H fun c H1=>if c=true then Q true H1 else u σ H1 Q
noncomputable def QeB(t:TT):TT:=fun σ H Q=>t σ H fun c H1=>Q (!c) H1
theorem Zq(ha:PT X a tA):PW X (.BoolOp .And [a] pos) tA:=by
 intro wh pins s σ H Q I h;refine isTrue_and (thn (ha pins s σ H Q I h) fun c s1 e=>?_);cases c with
 |true=>exact isTrue_and_nil e
 |false=>exact e
theorem J3(ha:PT X a tA):PW X (.BoolOp .Or [a] pos) tA:=by
 intro wh pins s σ H Q I h;refine isTrue_or (thn (ha pins s σ H Q I h) fun c s1 e=>?_);cases c with
 |false=>exact isTrue_or_nil e
 |true=>exact e
theorem ZJ(ha:PT X a tA)(hb:PW X (.BoolOp .And (b::rest) pos) tB'):PW X (.BoolOp .And (a::b::rest) pos) (QeW tA tB'):=by
 intro wh pins s σ H Q I h;refine isTrue_and (thn (ha pins s σ H _ I h) fun c s1⟨H1,I1,q1⟩=>?_);cases c with
 |true=>exact hb wh pins s1 σ H1 Q I1 q1
 |false=>exact⟨H1,I1,q1⟩
theorem ZS(ha:PT X a tA)(hb:PW X (.BoolOp .Or (b::rest) pos) tB'):PW X (.BoolOp .Or (a::b::rest) pos) (tOr tA tB'):=by
 intro wh pins s σ H Q I h;refine isTrue_or (thn (ha pins s σ H _ I h) fun c s1⟨H1,I1,q1⟩=>?_);cases c with
 |true=>exact⟨H1,I1,q1⟩
 |false=>exact hb wh pins s1 σ H1 Q I1 q1
theorem Z5(ha:PT X a tA):PT X (.UnaryOp .Not a pos) (QeB tA):=by
 intro pins s σ H Q I h;exact isTrue_not (ha pins s σ H (fun c H1=>Q (!c) H1) I h)
noncomputable def QdI(ta tb:TE):TE:=fun σ H Q=>ta σ H fun x H1=>∃c,x=.bl c/\if c=true then tb σ H1 Q else Q (.bl false) H1
noncomputable def QdJ(ta:TE):TE:=fun σ H Q=>ta σ H fun x H1=>∃c,x=.bl c/\Q (.bl (!c)) H1
theorem XI{op}{t:TE}(h:PE X a t):PE X (.BoolOp op [a] pos) t:=fun pins s σ H Q I hw=>BoolOp_one (h pins s σ H Q I hw)
theorem ZK(ha:PE X a ta)(hb:PE X (.BoolOp .And (b::rest) pos) tb):PE X (.BoolOp .And (a::b::rest) pos) (QdI ta tb):=by
 intro pins s σ H Q I h;refine BoolOp_and (thn (ha pins s σ H _ I h) fun v s1⟨x,H1,I1,r1,q1⟩=>?_);obtain⟨c,rfl,q1⟩:=q1;cases r1;refine wpAny_truthy_bool ?_;cases c with
 |true=>exact hb pins s1 σ H1 Q I1 q1
 |false=>exact⟨.bl false,H1,I1,rfl,q1⟩
theorem Qcj(ha:PE X a ta):PE X (.UnaryOp .Not a pos) (QdJ ta):=by
 intro pins s σ H Q I h;refine UnaryOp_ (thn (ha pins s σ H _ I h) fun v s1⟨x,H1,I1,r1,q1⟩=>?_);obtain⟨c,rfl,q1⟩:=q1;cases r1;exact not_of (wpAny_truthy_bool ⟨.bl (!c),H1,I1,rfl,q1⟩)
noncomputable def tIf(t:TT)(ta tb:TE):TE:=fun σ H Q=>t σ H fun c H1=>if c=true then ta σ H1 Q else tb σ H1 Q
theorem Ze{c:Expr}(hc:PT X c tA)(ha:PE X a ta)(hb:PE X b tb):PE X (.IfExp c a b pos) (tIf tA ta tb):=by
 intro pins s σ H Q I h;refine wpAny_IfExp (thn (hc pins s σ H _ I h) fun d s1⟨H1,I1,q1⟩=>?_);cases d with
 |true=>exact ha pins s1 σ H1 Q I1 q1
 |false=>exact hb pins s1 σ H1 Q I1 q1
end
noncomputable def SqL(K:PySem.W.Frag)(H:Hp)(a:Addr)(xs:List V):Prop:=
 Rd H a (.lst xs)\/
  ∃(o:Obj)(its:Array Value)(n:Nat),K.lookup a=some o/\o.cls=.type "list"/\o.dict=none/\o.data=.seq its n/\its.size<=sizeLine/\Vals xs its.toList
noncomputable def SqT(K:PySem.W.Frag)(H:Hp)(a:Addr)(xs:List V):Prop:=
 Rd H a (.tup xs)\/
  ∃(o:Obj)(its:Array Value)(n:Nat),K.lookup a=some o/\o.cls=.type "tuple"/\o.data=.seq its n/\its.size<=sizeLine/\Vals xs its.toList
noncomputable def QeX:Value->Option V
 | .none=>some .non
 | .bool b=>some (.bl b)
 | .int i _=>some (.int i)
 | .str x _=>some (.str x)
 | .bytes b _=>some (.byt b)
 | .float b _=>some (.flt b)
 | .ref a=>some (.ref a)
 | .type n=>some (.ty n)
 |_=>none
theorem RelV.abs{x:V}{u:Value}(r:RelV x u):QeX u=some x:=by
 cases x with
 |non=>cases r;rfl
 |bl _=>cases r;rfl
 |int _=>obtain⟨t,rfl⟩:=r;rfl
 |str _=>obtain⟨t,rfl⟩:=r;rfl
 |byt _=>obtain⟨t,rfl⟩:=r;rfl
 |flt _=>obtain⟨t,rfl⟩:=r;rfl
 |ref _=>cases r;rfl
 |ty _=>cases r;rfl
theorem RelV.inj{x y:V}{u:Value}(r:RelV x u)(q:RelV y u):x=y:=ur (r.abs.symm.trans q.abs)
theorem Vals.inj:∀{xs ys:List V}{us:List Value},Vals xs us->Vals ys us->xs=ys
 |_,_,_,.nil,.nil=>rfl
 |_,_,_,.cons r t,.cons r' t'=>by rw[r.inj r',Vals.inj t t']
section
variable {X:Cx}{pins:List (Addr × Obj)}{σ:St}{H:Hp}{s:Shared}{a:Addr}{xs ys:List V}
theorem SqL.of{K:PySem.W.Frag}(h:H a=some (.lst xs)):SqL K H a xs:=.inl (.inl h)
theorem SqT.of{K:PySem.W.Frag}(h:H a=some (.tup xs)):SqT K H a xs:=.inl (.inl h)
theorem Inv.list(I:Inv X pins σ H s)(h:SqL X.K H a xs):∃its:List Value,Vals xs its/\PlainL s.heap a its.toArray/\xs.length<=sizeLine:=by
 rcases h with h|⟨o,its,n,hk,hc,hd,hs,hz,r⟩
 ·obtain⟨z,its,n,r,e⟩:=h.ok I.hok;exact⟨its,r,⟨_,n,e,rfl,rfl,rfl⟩,z⟩
 ·refine⟨its.toList,r,⟨o,n,I.kIn a o hk,hc,hd,by simpa using hs⟩,?_⟩;have e:=r.length;simp only[uO]at e;omega
theorem Inv.tuple(I:Inv X pins σ H s)(h:SqT X.K H a xs):∃its:List Value,Vals xs its/\IsTup s.heap a its.toArray/\xs.length<=sizeLine:=by
 rcases h with h|⟨o,its,n,hk,hc,hs,hz,r⟩
 ·obtain⟨z,its,r,p⟩:=h.ok I.hok;exact⟨its,r,p.tup,z⟩
 ·refine⟨its.toList,r,⟨o,I.kIn a o hk,hc,n,by simpa using hs⟩,?_⟩;have e:=r.length;simp only[uO]at e;omega
theorem Inv.vB(I:Inv X pins σ H s)(h:SqL X.K H a xs)(h':SqL X.K H a ys):xs=ys:=by
 obtain⟨its,r,⟨o,n,e,_,_,d⟩,_⟩:=I.list h;obtain⟨its',r',⟨o',n',e',_,_,d'⟩,_⟩:=I.list h';rw[e]at e';cases e';rw[d]at d';injection d' with d1 _;have:its=its':=by simpa using congrArg Array.toList d1
 subst this;exact r.inj r'
theorem Inv.WJ(I:Inv X pins σ H s)(h:SqT X.K H a xs)(h':SqT X.K H a ys):xs=ys:=by
 obtain⟨its,r,⟨o,e,_,n,d⟩,_⟩:=I.tuple h;obtain⟨its',r',⟨o',e',_,n',d'⟩,_⟩:=I.tuple h';rw[e]at e';cases e';rw[d]at d';injection d' with d1 _;have:its=its':=by simpa using congrArg Array.toList d1
 subst this;exact r.inj r'
end
noncomputable abbrev Cx.vt(X:Cx)(E:Value->Shared->Prop):Cx:={X with xe:=E}
noncomputable abbrev Cx.nox(X:Cx):Cx:=X.vt fun _ _=>False
theorem Cx.Ok.vt{X:Cx}(ok:X.Ok)(E:Value->Shared->Prop):(X.vt E).Ok:=
 ⟨ok.mod,ok.kind,ok.glob,ok.blt,ok.above,ok.inj,ok.has,ok.cab,ok.hd,ok.frames,ok.stk,ok.exf,ok.bs,ok.bsz,ok.noex,ok.exfs,ok.qf,ok.frf⟩
theorem Cx.Ok.Wg{X:Cx}{E:Value->Shared->Prop}(ok:(X.vt E).Ok):X.Ok:=
 ⟨ok.mod,ok.kind,ok.glob,ok.blt,ok.above,ok.inj,ok.has,ok.cab,ok.hd,ok.frames,ok.stk,ok.exf,ok.bs,ok.bsz,ok.noex,ok.exfs,ok.qf,ok.frf⟩
section
variable {X:Cx}{pins:List (Addr × Obj)}{σ:St}{H:Hp}{s:Shared}{E:Value->Shared->Prop}
theorem Inv.vt(I:Inv X pins σ H s)(E:Value->Shared->Prop):Inv (X.vt E) pins σ H s:=⟨I.ok.vt E,I.os,I.bare,I.base,I.loc,I.cell,I.free,I.freeC,I.pin,I.hok,I.len⟩
theorem Inv.Wg(I:Inv (X.vt E) pins σ H s):Inv X pins σ H s:=⟨I.ok.Wg,I.os,I.bare,I.base,I.loc,I.cell,I.free,I.freeC,I.pin,I.hok,I.len⟩
theorem SP.Wg{D:Ends}{f:Flow}{s':Shared}(h:SP (X.vt E) pins D f s'):SP X pins D f s':=by
 cases f with
 |next=>obtain⟨σ',H',I,q⟩:=h;exact⟨σ',H',I.Wg,q⟩
 |brk=>obtain⟨σ',H',I,q⟩:=h;exact⟨σ',H',I.Wg,q⟩
 |cont=>obtain⟨σ',H',I,q⟩:=h;exact⟨σ',H',I.Wg,q⟩
 |ret u=>obtain⟨v,σ',H',I,r,q⟩:=h;exact⟨v,σ',H',I.Wg,r,q⟩
theorem PSs.nox{st:List Stmt}{t:TS}(h:PSs X.nox st t):PSs X st t:=fun pins s σ H D I hw=>
 wpAny_mono (h pins s σ H D (I.vt _) hw) (fun _ _ q=>q.Wg) fun _ _ z=>False.elim z
end
section
variable {X:Cx}{st:Stmt}{rest:List Stmt}{t u:TS}{e:Expr}{te:TE}{pos:Pos}
noncomputable def QU:TS:=fun D σ H=>D.nx σ H
noncomputable def XX(t u:TS):TS:=fun D σ H=>t {D with nx:=u D} σ H
theorem QI:PSs X [] QU:=fun _ _ σ H _ I h=>wpAny_execs_nil ⟨σ,H,I,h⟩
theorem Qe(h1:PS X st t)(h2:PSs X rest u):PSs X (st::rest) (XX t u):=by
 intro pins s σ H D I h;refine wpAny_execs_cons (thn (h1 pins s σ H {D with nx:=u D} I h) fun f s1 q=>?_);cases f with
 |next=>
  obtain⟨σ',H',I',q⟩:=q;exact h2 pins s1 σ' H' D I' q
 |ret v=>exact q
 |brk=>exact q
 |cont=>exact q
theorem Qh(h1:PS X st t):PSs X [st] t:=by
 intro pins s σ H D I h;refine wpAny_execs_cons (thn (h1 pins s σ H D I h) fun f s1 q=>?_);cases f with
 |next=>exact wpAny_execs_nil q
 |ret v=>exact q
 |brk=>exact q
 |cont=>exact q
theorem Inv.quiet{pins:List (Addr × Obj)}{σ:St}{H:Hp}{s:Shared}(I:Inv X pins σ H s):interactive X.env=false:=by simp[interactive,I.ok.kind]
noncomputable def Qck(te:TE):TS:=fun D σ H=>te σ H fun _ H1=>D.nx σ H1
theorem Jw(he:PE X e te)(hs:swapsWith e none pos.line X.env=pure false:=by rfl):PS X (.Expr e pos) (Qck te):=by
 intro pins s σ H D I h;exact wpAny_Expr_any (thn (he pins s σ H _ I h) fun v s1⟨x,H1,I1,r1,q1⟩=>⟨σ,H1,I1,q1⟩) I.quiet hs
noncomputable def QaZ(te:TE):TS:=fun D σ H=>te σ H D.rt
theorem QD(he:PE X e te):PS X (.Return (some e) pos) (QaZ te):=by
 intro pins s σ H D I h;exact wpAny_Return_some (thn (he pins s σ H _ I h) fun v s1⟨x,H1,I1,r1,q1⟩=>⟨x,σ,H1,I1,r1,q1⟩)
noncomputable def qh(c:TT)(t u:TS):TS:=fun D σ H=>c σ H fun b H1=>if b=true then t D σ H1 else u D σ H1
theorem Jh{c:Expr}{a b:List Stmt}{tc:TT}(hc:PT X c tc)(ha:PSs X a t)(hb:PSs X b u):PS X (.If c a b pos) (qh tc t u):=by
 intro pins s σ H D I h;refine wpAny_If (thn (hc pins s σ H _ I h) fun d s1⟨H1,I1,q1⟩=>?_);cases d with
 |true=>exact ha pins s1 σ H1 D I1 q1
 |false=>exact hb pins s1 σ H1 D I1 q1
end
noncomputable abbrev TG:=V->St->Hp->(St->Hp->Prop)->Prop
noncomputable abbrev TGs:=List V->St->Hp->(St->Hp->Prop)->Prop
noncomputable def PG(X:Cx)(target:Expr)(t:TG):Prop:=
 ∀(pins:List (Addr × Obj))(s:Shared)(σ:St)(H:Hp)(v:V)(u:Value)(Q:St->Hp->Prop),Inv X pins σ H s->RelV v u->t v σ H Q->
  wpAny (model X.prog X.w) X.A (assign target X.env u) (fun _ s'=>∃σ' H',Inv X pins σ' H' s'/\Q σ' H') X.xe s
noncomputable def PGs(X:Cx)(ts:List Expr)(t:TGs):Prop:=
 ∀(pins:List (Addr × Obj))(s:Shared)(σ:St)(H:Hp)(vs:List V)(us:List Value)(Q:St->Hp->Prop),Inv X pins σ H s->Vals vs us->t vs σ H Q->
  wpAny (model X.prog X.w) X.A (assignInOrder ((assignEach ts X.env).map (·.2)) us) (fun _ s'=>∃σ' H',Inv X pins σ' H' s'/\Q σ' H') X.xe s
noncomputable abbrev QdK:=V->V->V->Hp->(Hp->Prop)->Prop
noncomputable def QeC(X:Cx)(t:QdK):Prop:=
 ∀(pins:List (Addr × Obj))(s:Shared)(σ:St)(H:Hp)(o i v:V)(ov iv u:Value)(Q:Hp->Prop),Inv X pins σ H s->RelV o ov->RelV i iv->RelV v u->t o i v H Q->
  wpAny (model X.prog X.w) X.A (setItem ov iv u) (fun _ s'=>∃H',Inv X pins σ H' s'/\Q H') X.xe s
noncomputable abbrev TIp:=V->V->Hp->VK->Prop
noncomputable def PIp(X:Cx)(op:Operator)(t:TIp):Prop:=
 ∀(pins:List (Addr × Obj))(s:Shared)(σ:St)(H:Hp)(x y:V)(v u:Value)(Q:VK),Inv X pins σ H s->RelV x v->RelV y u->t x y H Q->
  wpAny (model X.prog X.w) X.A (inplaceOp op v u) (EP X pins σ Q) X.xe s
section
variable {X:Cx}{pos:Pos}
noncomputable def QH(i:Nat):TG:=fun v σ H Q=>Q (σ.set i (some v)) H
theorem Qm{i:Nat}{x:Str}(hN:X.N.Nodup)(hi:X.N[i]? =some x)(hx:Loc X.env.scope x)(hf:X.fn x=true\/X.env.scope.names.lookup x=some .local:=by first|exact .inl rfl|exact .inr rfl|assumption):PG X (.Name x pos) (QH i):=by
 intro pins s σ H v u Q I r h;exact wpAny_assign_Name (Xv I hN hi hx r (fun s' I'=>⟨_,H,I',h⟩) hf)
noncomputable def Qdv:TGs:=fun vs σ H Q=>vs=[]/\Q σ H
noncomputable def qi(t:TG)(u:TGs):TGs:=fun vs σ H Q=>∃v r,vs=v::r/\t v σ H fun σ' H'=>u r σ' H' Q
theorem QV:PGs X [] Qdv:=by
 intro pins s σ H vs us Q I r h;obtain⟨e,h⟩:=h;subst e;cases r;exact assignInOrder_nil ⟨σ,H,I,h⟩
theorem Qn{e:Expr}{es:List Expr}{t:TG}{u:TGs}(h1:PG X e t)(h2:PGs X es u)
  (hs:(assignEach (e::es) X.env).map (·.2)=assign e X.env::(assignEach es X.env).map (·.2):=by rfl):PGs X (e::es) (qi t u):=by
 intro pins s σ H vs us Q I r h;obtain⟨v,vr,e1,h⟩:=h;subst e1;cases r with
 |cons r rr=>
  rw[hs];refine assignInOrder_cons (thn (h1 pins s σ H _ _ _ I r h) fun _ s1⟨σ1,H1,I1,q1⟩=>?_);exact h2 pins s1 σ1 H1 _ _ Q I1 rr q1
noncomputable def Qcl(K:PySem.W.Frag)(n:Nat)(t:TGs):TG:=fun v σ H Q=>∃a xs,v=.ref a/\SqT K H a xs/\xs.length=n/\t xs σ H Q
theorem JA{es:List Expr}{k:Nat}{t:TGs}{n:Nat}(hc:X.calm=true)(h:PGs X es t)
  (hn:(assignEach es X.env).length=n:=by rfl) (hst:(assignEach es X.env).findIdx? (·.1)=none:=by rfl):PG X (.Tuple es k pos) (Qcl X.K n t):=by
 intro pins s σ H v u Q I r hw;obtain⟨a,xs,e1,hq,hl,hw⟩:=hw;subst e1;cases r;obtain⟨its,rv,ht,hz⟩:=I.tuple hq;refine assign_Tuple_tuple (I.ok.hd hc) ht (by simp[hn, ←hl,rv.length]) hst fun h' hx=>?_;have I1:Inv X pins σ H {s with heap:=h'}:=I.kept (t':=s.toks) fun b o e=>hx b o (Nat.ne_of_lt (Heap.lt_size e)) e;exact h pins _ σ H xs _ Q I1 (by simpa using rv) hw
noncomputable def QeY(to ti:TE)(t:QdK):TG:=fun v σ H Q=>to σ H fun o H1=>ti σ H1 fun i H2=>t o i v H2 fun H3=>Q σ H3
theorem Qaj{o i:Expr}{to ti:TE}{t:QdK}(ho:PE X o to)(hi:PE X i ti)(hs:QeC X t)
  (ha:∀v,assign (.Subscript o i pos) X.env v=(do
   let ov←holding [v] (eval o X.env)
   let iv←holding [v,ov] (eval i X.env)
   standAt pos
   holding [v,ov,iv] (setItem ov iv v)
   release [v,ov,iv] []):=by intro _;rfl):PG X (.Subscript o i pos) (QeY to ti t):=by
 intro pins s σ H v u Q I r h;rw[ha];refine wpAny_bind (wpAny_holding (thn (ho pins s σ H _ I h) fun ov s1⟨x,H1,I1,r1,q1⟩=>?_));refine wpAny_bind (wpAny_holding (thn (hi pins s1 σ H1 _ I1 q1) fun iv s2⟨y,H2,I2,r2,q2⟩=>?_));refine wpAny_bind (wpAny_standAt (wpAny_bind (wpAny_holding (thn (hs pins s2 σ H2 x y v ov iv u _ I2 r1 r2 r q2) fun _ s3⟨H3,I3,q3⟩=>?_))));exact wpAny_release ⟨σ,H3,I3,q3⟩
noncomputable def JP(te:TE)(g:TG):TS:=fun D σ H=>te σ H fun x H1=>g x σ H1 D.nx
theorem JB{tg e:Expr}{te:TE}{g:TG}(he:PE X e te)(hg:PG X tg g)(hs:swapsWithSole [tg] e pos.line X.env=pure false:=by rfl)(hw:swappedStores [tg] e X.env=pure none:=by rfl)
  (h1:(assignEach [tg] X.env).map (·.2)=[assign tg X.env]:=by rfl):PS X (.Assign [tg] e pos) (JP te g):=by
 intro pins s σ H D I h;refine wpAny_Assign_stores (thn (he pins s σ H _ I h) fun v s1⟨x,H1,I1,r1,q1⟩=>?_) hs hw;rw[h1];exact thn (hg pins s1 σ H1 x v _ I1 r1 q1) fun _ s2 q=>q
theorem QE{i:Nat}{x:Str}{e:Expr}{te:TE}{pos':Pos}(hN:X.N.Nodup)(hi:X.N[i]? =some x)(hx:Loc X.env.scope x)(he:PE X e te)(hs:swapsWith e (some (.Name x pos')) pos.line X.env=pure false:=by rfl)(hf:X.fn x=true\/X.env.scope.names.lookup x=some .local:=by first|exact .inl rfl|exact .inr rfl|assumption):
  PS X (.Assign [.Name x pos'] e pos) (JP te (QH i)):=by
 intro pins s σ H D I h;refine wpAny_Assign_Name (thn (he pins s σ H _ I h) fun v s1⟨y,H1,I1,r1,q1⟩=>?_) hs;exact Xv I1 hN hi hx r1 (fun s2 I2=>⟨_,H1,I2,q1⟩) hf
noncomputable def QdL(i j:Nat)(ta:TA):TS:=fun D σ H=>ta σ H fun vs H1=>∃v w,vs=[v,w]/\D.nx ((σ.set i (some v)).set j (some w)) H1
theorem Qak{i j:Nat}{x y:Str}{a b:Expr}{ta:TA}{px py pt:Pos}{kt k2 pt2}(hc:X.calm=true)(hN:X.N.Nodup)(hi:X.N[i]? =some x)(hj:X.N[j]? =some y)(hij:i≠j)
  (hx:X.env.scope.names.lookup x=some .local) (hy:X.env.scope.names.lookup y=some .local) (ha:PA X [a,b] ta)
  (hw:swappedStores [.Tuple [.Name x px,.Name y py] kt pt] (.Tuple [a,b] k2 pt2) X.env=pure (some [x,y]))
  (hs:swapsWithSole [.Tuple [.Name x px,.Name y py] kt pt] (.Tuple [a,b] k2 pt2) pos.line X.env=pure false:=by rfl):
  PS X (.Assign [.Tuple [.Name x px,.Name y py] kt pt] (.Tuple [a,b] k2 pt2) pos) (QdL i j ta):=by
 intro pins s σ H D I h;rw[exec_Assign_arm];refine wpAny_bind (wpAny_standAt ?_);rw[hs];refine wpAny_bind (wpAny_pure ?_);rw[if_neg (by decide)];refine wpAny_bind (Tuple_ (thn (ha _ pins s σ H _ I h) fun us s1⟨vs,H1,I1,r1,q1⟩=>?_));obtain⟨v,w,e1,q1⟩:=q1;subst e1;obtain⟨u1,u2,rfl,rv,rw'⟩:∃u1 u2,us=[u1,u2]/\RelV v u1/\RelV w u2:=by
  cases r1 with
  |cons p q=>
   cases q with
   |cons p' q'=>
    cases q';exact⟨_,_,rfl,p,p'⟩
 refine wpAny_newObj_type ?_ (by show 2<=sizeLine;decide);have I2:Inv X pins σ H1 {s1 with heap:=s1.heap.push {cls:=.type "tuple",data:=.seq [u1,u2].toArray}}:=I1.kept (t':=s1.toks) fun b o e=>Heap.get?_push_of_some _ e;rw[hw];refine wpAny_bind (wpAny_pure ?_);show wpAny (model X.prog X.w) X.A (do rule "assign.swapped-stores";let items←unpackItems (.ref s1.heap.objs.size) 2 none;assignInOrder [fun v=>bindName X.env y v,fun v=>bindName X.env x v] items.reverse;pure Flow.next) _ _ _;refine wpAny_bind (wpAny_rule (wpAny_bind (unpackItems_tuple (items:= #[u1,u2]) (I.ok.hd hc) (IsTup.new s1.heap _) fun h' hx'=>?_)));have I3:=I2.kept (h':=h') (t':=s1.toks) fun b o e=>hx' b o (Nat.ne_of_lt (Heap.lt_size e)) e;show wpAny _ _ (assignInOrder [fun v=>bindName X.env y v,fun v=>bindName X.env x v] [u2,u1]>>=fun _=>pure Flow.next) _ _ _;refine wpAny_bind (assignInOrder_cons (wpAny_bindName (Xv I3 hN hj (.inl hy) rw' (fun s2 I4=>?_) (.inr hy))));refine assignInOrder_cons (wpAny_bindName (Xv I4 hN hi (.inl hx) rv (fun s3 I5=>assignInOrder_nil (wpAny_pure ?_)) (.inr hx)));rw[List.set_comm _ _ (Ne.symm hij)]at I5;exact⟨_,H1,I5,q1⟩
noncomputable def QeZ(i:Nat)(te:TE)(ti:TIp):TS:=fun D σ H=>∃x,σ[i]? =some (some x)/\te σ H fun y H1=>ti x y H1 fun z H2=>D.nx (σ.set i (some z)) H2
theorem WK{i:Nat}{x:Str}{e:Expr}{te:TE}{op:Operator}{ti:TIp}{pos':Pos}(hN:X.N.Nodup)(hi:X.N[i]? =some x)(hx:Loc X.env.scope x)(he:PE X e te)(ho:PIp X op ti)(hf:X.fn x=true\/X.env.scope.names.lookup x=some .local:=by first|exact .inl rfl|exact .inr rfl|assumption):
  PS X (.AugAssign (.Name x pos') op e pos) (QeZ i te ti):=by
 intro pins s σ H D I h;obtain⟨v,e1,h⟩:=h;obtain⟨m,hn,hl⟩:=I.loc;have vis:Vis X.env.scope x:=by rcases hx with k|k;exact .inl k;exact .inr (.inl k)
 obtain⟨u,r,l⟩:=hl i x v hi e1 vis;refine wpAny_AugAssign_Name ?_;have go:wpAny (model X.prog X.w) X.A (eval e X.env) (fun w s₂=>wpAny (model X.prog X.w) X.A (inplaceOp op u w) (fun r s₃=>wpAny (model X.prog X.w) X.A (storeName X.env x r) (fun _=>SP X pins D .next) X.xe s₃) X.xe s₂) X.xe s:=by
  refine thn (he pins s σ H _ I h) fun w s1⟨y,H1,I1,r1,q1⟩=>?_;refine thn (ho pins s1 σ H1 v y u w _ I1 r r1 q1) fun z s2⟨zv,H2,I2,r2,q2⟩=>?_;exact Xv I2 hN hi hx r2 (fun s3 I3=>⟨_,H2,I3,q2⟩) hf
 rcases l with⟨hk,hm⟩|⟨hk,c,hc,hcell⟩
 ·exact wpAny_loadName_local I.ok.kind hk hn hm go
 ·rcases hk with hk|hk
  ·exact wpAny_loadName_cell I.ok.kind hk hc hcell go
  ·rcases hx with k|k
   ·have:X.env.scope.names.lookup x=some .free:=hk;rw[k]at this;cases this
   ·have:X.env.scope.names.lookup x=some .free:=hk;rw[k]at this;cases this
noncomputable def ipI(f:Int->Int->Int):TIp:=fun x y H Q=>∃i j,x=.int i/\y=.int j/\Q (.int (f i j)) H
theorem VO:PIp X .Add (ipI fun i j=>i+j):=by
 intro pins s σ H x y v u Q I r1 r2 h;obtain⟨i,j,e1,e2,q⟩:=h;subst e1;subst e2;obtain⟨t,rfl⟩:=r1;obtain⟨t',rfl⟩:=r2;exact iadd_int ⟨.int _,H,I.tok _,⟨_,rfl⟩,q⟩
end
section
variable {X:Cx}{pos:Pos}
noncomputable def Qcm(c:TT)(tb:TS):TS:=fun D σ H=>∃W:Nat->St->Hp->Prop,(∃m,W m σ H)/\∀m σ H,W m σ H->
 c σ H fun b H1=>if b=true then ∃N:St->Hp->Prop,(∀σ' H',N σ' H'->∃m',m'<m/\W m' σ' H')/\tb {D with nx:=N,ct:=N,bk:=D.nx} σ H1 else D.nx σ H1
theorem Zf{c:Expr}{body:List Stmt}{tc:TT}{tb:TS}(hp:PassesOwn (model X.prog X.w) X.A X.env X.xe)(hc:PT X c tc)(hb:PSs X body tb):PS X (.While c body [] pos) (Qcm tc tb):=by
 intro pins s σ H D I h;obtain⟨W,⟨m0,w0⟩,turn⟩:=h;refine wpAny_While (codeAny_whileLoop (fun n s'=>∃σ' H',Inv X pins σ' H' s'/\W n σ' H') ?_ m0 ⟨σ,H,I,w0⟩);rintro n s1 ⟨σ1,H1,I1,w1⟩;refine wpAny_passesOwn hp (thn (hc pins s1 σ1 H1 _ I1 (turn n σ1 H1 w1)) fun b s2⟨H2,I2,q2⟩=>?_);cases b with
 |true=>
  obtain⟨N,hN,q2⟩:=q2;rw[if_pos rfl];refine wpAny_passesOwn hp (thn (hb pins s2 σ1 H2 _ I2 q2) fun f s3 q3=>?_);cases f with
  |next=>
   obtain⟨σ3,H3,I3,n3⟩:=q3;obtain⟨m',hm,w3⟩:=hN σ3 H3 n3;exact⟨m',hm,σ3,H3,I3,w3⟩
  |cont=>
   obtain⟨σ3,H3,I3,n3⟩:=q3;obtain⟨m',hm,w3⟩:=hN σ3 H3 n3;exact⟨m',hm,σ3,H3,I3,w3⟩
  |brk=>exact q3
  |ret v=>exact q3
 |false=>
  rw[if_neg Bool.false_ne_true];exact wpAny_execs_nil ⟨σ1,H2,I2,q2⟩
end
structure It where
 go:Nat->Hp->Prop
 yld:Nat->Hp->V->Hp->Prop
 stop:Nat->Hp->Prop
noncomputable def vv(X:Cx)(pins:List (Addr × Obj))(H:Hp)(b:Addr):Prop:=
 H b=none/\b≠X.env.locals/\b∉X.fs/\(b∈X.ex\/X.s₀.heap.objs.size<=b)/\(∀x c,X.env.cells.lookup x=some c->c≠b)/\∀p∈X.pn++pins,p.1≠b
theorem Inv.vC{X:Cx}{pins:List (Addr × Obj)}{σ:St}{H H':Hp}{s:Shared}{b:Addr}(I:Inv X pins σ H s)(hb:s.heap.objs.size<=b)(hn:H' b=none):vv X pins H' b:=by
 refine⟨hn,Nat.ne_of_gt (Nat.lt_of_lt_of_le I.lt hb),I.QeU hb,.inr (Nat.le_trans I.sz hb),fun x c e z=>?_,fun p hp z=>?_⟩
 ·obtain⟨v,q⟩:=I.cell x c e;exact absurd (Nat.lt_of_lt_of_le q.lt (by rw[z];exact hb)) (uR _)
 ·exact absurd (Nat.lt_of_lt_of_le (Heap.lt_size (I.pin p hp).1) (by rw[z];exact hb)) (uR _)
structure Turn(P:Program)(w:World)(K:PySem.W.Frag)(tg:Expr)(J:It)(fp:List Addr)(it:Addr)(tn:Nat->Heap->Prop):Prop where
 mem:it∈fp
 obj:∀i h,tn i h->∀b∈fp,∃o,h.get? b=some o/\∀v,o.data≠ .cell v
 keep:∀i h h',tn i h->(∀b∈fp,∀o,h.get? b=some o->h'.get? b=some o)->tn i h'
 item:∀(X:Cx),X.prog=P->X.w=w->X.K=K->X.calm=true->∀(i:Nat)(pins:List (Addr × Obj))(s:Shared)(σ:St)(H:Hp)(E:Value->Shared->Prop),Inv X pins σ H s->(∀b∈fp,vv X pins H b)->tn i s.heap->J.go i H->
  wpAny (model P w) X.A (pyNext (.ref it)) (fun r s1=>∃u,r=some u/\
   wpAny (model P w) X.A (letOwnedTupleGo tg (.ref it) u) (fun _ s2=>∃x H',Inv X pins σ H' s2/\RelV x u/\J.yld i H x H'/\tn (i+1) s2.heap/\∀b∈fp,H' b=none) E s1) E s
 done:∀(X:Cx),X.prog=P->X.w=w->X.K=K->X.calm=true->∀(i:Nat)(pins:List (Addr × Obj))(s:Shared)(σ:St)(H:Hp)(E:Value->Shared->Prop),Inv X pins σ H s->(∀b∈fp,vv X pins H b)->tn i s.heap->J.stop i H->
  wpAny (model P w) X.A (pyNext (.ref it)) (fun r s1=>r=none/\Inv X pins σ H s1) E s
 self:∀(A:Around)(i:Nat)(s:Shared)(Q:Value->Shared->Prop)(E:Value->Shared->Prop),tn i s.heap->Q (.ref it) s->wpAny (model P w) A (pyIter (.ref it)) Q E s
noncomputable abbrev TI:=St->Hp->(It->Hp->Prop)->Prop
noncomputable def PIE(X:Cx)(pins:List (Addr × Obj))(σ:St)(tg:Expr)(R:It->Hp->Prop)(itv:Value)(s2:Shared):Prop:=
 ∃(it:Addr)(fp:List Addr)(tn:Nat->Heap->Prop)(J:It)(H':Hp),itv=.ref it/\Inv X pins σ H' s2/\Turn X.prog X.w X.K tg J fp it tn/\tn 0 s2.heap/\(∀b∈fp,vv X pins H' b)/\R J H'
noncomputable def PI(X:Cx)(tg iter:Expr)(wi:TI):Prop:=
 ∀(pins:List (Addr × Obj))(s:Shared)(σ:St)(H:Hp)(R:It->Hp->Prop),Inv X pins σ H s->wi σ H R->
  wpAny (model X.prog X.w) X.A (eval iter X.env) (fun v s1=>wpAny (model X.prog X.w) X.A (pyIter v) (PIE X pins σ tg R) X.xe s1) X.xe s
theorem xC{M:Model}{A:Around}{E:Value->Shared->Prop}{s:Shared}{tg:Expr}{it:Addr}{u:Value}{o:Obj}{n:String}{vs:Array Value}{Q:Unit->Shared->Prop}(ho:s.heap.get? it=some o)(hc:o.cls=.type n)(hd:o.data=.fields vs)
  (hn:["enumerate","zip","dict_itemiterator","dict_reverseitemiterator","odict_iterator","itertools.zip_longest","itertools.pairwise"].contains n=false) (hQ:Q () s):wpAny M A (letOwnedTupleGo tg (.ref it) u) Q E s:=by
 unfold letOwnedTupleGo;cases tg<;>first
  |exact wpAny_pure hQ
  |(cases u<;>first
    |exact wpAny_pure hQ
    |(refine wpAny_bind (wpAny_load ho ?_)
      rw[hc,hd];show wpAny M A (if(["enumerate","zip","dict_itemiterator","dict_reverseitemiterator","odict_iterator","itertools.zip_longest","itertools.pairwise"].contains n&&vs[0]? ==some (rawInt _))=true then _ else _) Q E s;rw[if_neg (by intro h;rw[hn,Bool.false_and]at h;cases h)];exact wpAny_pure hQ))
noncomputable def Itl(K:PySem.W.Frag)(a:Addr):It:=
 ⟨fun i H=>∃xs x,SqL K H a xs/\xs[i]? =some x,fun i H x H'=>H'=H/\∀xs,SqL K H a xs->xs[i]? =some x,fun i H=>∃xs,SqL K H a xs/\xs.length<=i⟩
noncomputable def Itt(K:PySem.W.Frag)(a:Addr):It:=
 ⟨fun i H=>∃xs x,SqT K H a xs/\xs[i]? =some x,fun i H x H'=>H'=H/\∀xs,SqT K H a xs->xs[i]? =some x,fun i H=>∃xs,SqT K H a xs/\xs.length<=i⟩
noncomputable def Itr(lo:Int)(n:Nat):It:=⟨fun i _=>i<n,fun i H x H'=>H'=H/\x=.int (lo+i),fun i _=>n<=i⟩
theorem xD{P:Program}{w:World}{K:PySem.W.Frag}{tg:Expr}(a it:Addr):Turn P w K tg (Itl K a) [it] it (fun i h=>h.IsListIter it a i) where
 mem:=by simp
 obj:=fun i h st b hb=>by
  have e:b=it:=by simpa using hb
  subst e;obtain⟨o,e,c,d⟩:=st;exact⟨o,e,fun v z=>by rw[d]at z;cases z⟩
 keep:=fun i h h' st k=>st.at fun o e=>k it (by simp) o e
 item:=by
  intro X hP hw hK hc i pins s σ H E I hf st hg;subst hP hw hK;obtain⟨xs,x,hq,hx⟩:=hg;obtain⟨its,rv,p,hz⟩:=I.list hq;obtain⟨u,hu,ru⟩:=rv.get hx;obtain⟨f0,f1,f2,f3,f4,f5⟩:=hf it (by simp);refine wpAny_pyNext_list_item st p.isList (x:=u) (by simpa using hu) fun h' st' sb=>?_;have I1:Inv X pins σ H {s with heap:=h'}:=I.turned (t':=s.toks) (fun b o hb e=>(sb.2 b hb).trans e) f0 f1 f3 f4 f5;obtain⟨o,e,c,d⟩:=id st';exact⟨u,rfl,xC (s:={s with heap:=h'}) e c d (by decide) ⟨x,H,I1,ru,⟨rfl,fun ys hy=>by rw[I.vB hy hq];exact hx⟩,st',fun b hb=>(hf b hb).1⟩⟩
 done:=by
  intro X hP hw hK hc i pins s σ H E I hf st hg;subst hP hw hK;obtain⟨xs,hq,hx⟩:=hg;obtain⟨its,rv,p,hz⟩:=I.list hq;obtain⟨f0,f1,f2,f3,f4,f5⟩:=hf it (by simp);have hl:=rv.length;exact wpAny_pyNext_list_end (I.ok.hd hc) st p.isList (by simp;omega) fun h' eb=>⟨rfl,I.turned (t':=s.toks) (fun b o hb e=>eb b o hb e) f0 f1 f3 f4 f5⟩
 self:=fun _ _ _ _ _ st h=>wpAny_pyIter_listiter st h
theorem zC{P:Program}{w:World}{K:PySem.W.Frag}{tg:Expr}(a it:Addr):Turn P w K tg (Itt K a) [it] it (fun i h=>h.IsTupleIter it a i) where
 mem:=by simp
 obj:=fun i h st b hb=>by
  have e:b=it:=by simpa using hb
  subst e;obtain⟨o,e,c,d⟩:=st;exact⟨o,e,fun v z=>by rw[d]at z;cases z⟩
 keep:=fun i h h' st k=>st.at fun o e=>k it (by simp) o e
 item:=by
  intro X hP hw hK hc i pins s σ H E I hf st hg;subst hP hw hK;obtain⟨xs,x,hq,hx⟩:=hg;obtain⟨its,rv,p,hz⟩:=I.tuple hq;obtain⟨u,hu,ru⟩:=rv.get hx;obtain⟨f0,f1,f2,f3,f4,f5⟩:=hf it (by simp);refine wpAny_pyNext_tuple_item st (show s.heap.IsTuple a its.toArray from p) (x:=u) (by simpa using hu) fun h' st' sb=>?_;have I1:Inv X pins σ H {s with heap:=h'}:=I.turned (t':=s.toks) (fun b o hb e=>(sb.2 b hb).trans e) f0 f1 f3 f4 f5;obtain⟨o,e,c,d⟩:=id st';exact⟨u,rfl,xC (s:={s with heap:=h'}) e c d (by decide) ⟨x,H,I1,ru,⟨rfl,fun ys hy=>by rw[I.WJ hy hq];exact hx⟩,st',fun b hb=>(hf b hb).1⟩⟩
 done:=by
  intro X hP hw hK hc i pins s σ H E I hf st hg;subst hP hw hK;obtain⟨xs,hq,hx⟩:=hg;obtain⟨its,rv,p,hz⟩:=I.tuple hq;obtain⟨f0,f1,f2,f3,f4,f5⟩:=hf it (by simp);have hl:=rv.length;exact wpAny_pyNext_tuple_end (I.ok.hd hc) st (show s.heap.IsTuple a its.toArray from p) (by simp;omega) fun h' eb=>⟨rfl,I.turned (t':=s.toks) (fun b o hb e=>eb b o hb e) f0 f1 f3 f4 f5⟩
 self:=fun _ _ _ _ _ st h=>wpAny_pyIter_tupleiter st h
theorem zD{P:Program}{w:World}{K:PySem.W.Frag}{tg:Expr}(it:Addr)(lo:Int)(n:Nat):Turn P w K tg (Itr lo n) [it] it (fun i h=>IsRangeIter h it (lo+(i:Nat)*1) ((n:Int)-(i:Nat)) 1) where
 mem:=by simp
 obj:=fun i h st b hb=>by
  have e:b=it:=by simpa using hb
  subst e;exact⟨_,st,fun v z=>by
   have z':Data.fields _=Data.cell v:=z;cases z'⟩
 keep:=fun i h h' st k=>k it (by simp) _ st
 item:=by
  intro X hP hw hK hc i pins s σ H E I hf st hg;subst hP hw hK;obtain⟨f0,f1,f2,f3,f4,f5⟩:=hf it (by simp);have W:=Walks.range (prog:=X.prog) (w:=X.w) (I.ok.hd hc) it lo 1 n;refine W.item i s _ _ hg st fun v h' tk hv st' kk=>?_;obtain⟨t,rfl⟩:=hv;have I1:Inv X pins σ H {s with heap:=h',toks:=tk}:=I.turned (fun b o hb e=>kk b o (by simpa using hb) e) f0 f1 f3 f4 f5;refine⟨_,rfl,xC (s:={s with heap:=h',toks:=tk}) (n:="range_iterator") st' rfl rfl (by decide) ⟨.int (lo+i),H,I1,⟨t,?_⟩,⟨rfl,rfl⟩,st',fun b hb=>(hf b hb).1⟩⟩;rw[Int.mul_one]
 done:=by
  intro X hP hw hK hc i pins s σ H E I hf st hg;subst hP hw hK;obtain⟨f0,f1,f2,f3,f4,f5⟩:=hf it (by simp);exact wpAny_pyNext_range_end (I.ok.hd hc) st (by have:n<=i:=hg;omega) fun h' eb=>⟨rfl,I.turned (t':=s.toks) (fun b o hb e=>eb b o hb e) f0 f1 f3 f4 f5⟩
 self:=fun _ _ _ _ _ st h=>wpAny_pyIter_rangeiter st h
section
variable {X:Cx}{tg:Expr}
noncomputable def qj(K:PySem.W.Frag)(tl:TE):TI:=fun σ H R=>tl σ H fun x H1=>∃a,x=.ref a/\(∃xs,SqL K H1 a xs)/\R (Itl K a) H1
noncomputable def QeD(K:PySem.W.Frag)(tl:TE):TI:=fun σ H R=>tl σ H fun x H1=>∃a,x=.ref a/\(∃xs,SqT K H1 a xs)/\R (Itt K a) H1
theorem Zb{l:Expr}{tl:TE}(hl:PE X l tl):PI X tg l (qj X.K tl):=by
 intro pins s σ H R I h;refine thn (hl pins s σ H _ I h) fun v s1⟨x,H1,I1,r1,q1⟩=>?_;obtain⟨a,e,⟨xs,hq⟩,q⟩:=q1;subst e;cases r1;obtain⟨its,rv,p,hz⟩:=I1.list hq;refine wpAny_pyIter_list p.isList ?_;refine⟨s1.heap.objs.size,[s1.heap.objs.size],_,_,H1,rfl,I1.kept (t':=s1.toks) fun b o e=>Heap.get?_push_of_some _ e,xD a _,⟨_,Heap.get?_push_size _ rfl,rfl,rfl⟩,fun b hb=>?_,q⟩;have e:b=s1.heap.objs.size:=by simpa using hb
 subst e;exact I1.vC (uq _) (I1.hok.fresh (uq _))
theorem XJ{l:Expr}{tl:TE}(hl:PE X l tl):PI X tg l (QeD X.K tl):=by
 intro pins s σ H R I h;refine thn (hl pins s σ H _ I h) fun v s1⟨x,H1,I1,r1,q1⟩=>?_;obtain⟨a,e,⟨xs,hq⟩,q⟩:=q1;subst e;cases r1;obtain⟨its,rv,p,hz⟩:=I1.tuple hq;refine wpAny_pyIter_tuple (show s1.heap.IsTuple a its.toArray from p) ?_;refine⟨s1.heap.objs.size,[s1.heap.objs.size],_,_,H1,rfl,I1.kept (t':=s1.toks) fun b o e=>Heap.get?_push_of_some _ e,zC a _,⟨_,Heap.get?_push_size _ rfl,rfl,rfl⟩,fun b hb=>?_,q⟩;have e:b=s1.heap.objs.size:=by simpa using hb
 subst e;exact I1.vC (uq _) (I1.hok.fresh (uq _))
theorem vD{pins:List (Addr × Obj)}{σ:St}{H:Hp}{s:Shared}{R:It->Hp->Prop}{E:Value->Shared->Prop}{lo hi:Int}{t u v:Tok}{tk:Nat}(I:Inv X pins σ H s)(h1: -(2^62)<=lo)(h2:lo<2^62)(h3: -(2^62)<=hi)(h4:hi<2^62)
  (q:R (Itr lo (hi-lo).toNat) H):wpAny (model X.prog X.w) X.A (pyIter (.ref s.heap.objs.size)) (PIE X pins σ tg R) E {s with heap:=s.heap.push {cls:=.type "range",data:=.fields #[.int lo t,.int hi u,.int 1 v]},toks:=tk}:=by
 refine wpAny_pyIter_range (IsRange.new ..) (small_one h1 h2 h3 h4) ?_;have I1:Inv X pins σ H {s with heap:=s.heap.push {cls:=.type "range",data:=.fields #[.int lo t,.int hi u,.int 1 v]},toks:=tk}:=I.kept fun b o e=>Heap.get?_push_of_some _ e;refine⟨(s.heap.push {cls:=.type "range",data:=.fields #[.int lo t,.int hi u,.int 1 v]}).objs.size,[(s.heap.push {cls:=.type "range",data:=.fields #[.int lo t,.int hi u,.int 1 v]}).objs.size],_,_,H,rfl,
  I1.kept (t':=tk) fun b o e=>Heap.get?_push_of_some _ e,zD _ lo (hi-lo).toNat,?_,fun b hb=>?_,q⟩
 ·have e1:lo+((0:Nat):Int)*1=lo:=by simp
  have e2:(((hi-lo).toNat:Nat):Int)-((0:Nat):Int)=Builtin.Range.rangeSize lo hi 1:=by rw[rangeSize_one];split<;>omega
  show IsRangeIter _ _ (lo+((0:Nat):Int)*1) ((((hi-lo).toNat:Nat):Int)-((0:Nat):Int)) 1;rw[e1,e2];exact Heap.get?_push_size _ rfl
 ·have e:b=(s.heap.push {cls:=.type "range",data:=.fields #[.int lo t,.int hi u,.int 1 v]}).objs.size:=by simpa using hb
  subst e;exact I1.vC (uq _) (I1.hok.fresh (uq _))
noncomputable def QdM(ta:TA):TI:=fun σ H R=>ta σ H fun vs H1=>∃j:Int,vs=[.int j]/\ -(2^62)<=j/\j<2^62/\R (Itr 0 j.toNat) H1
theorem WL{a:Expr}{ta:TA}{p pos:Pos}(hg:Gl X "range")(hm:X.mg "range"=none)(ha:PA X [a] ta)(hs:starEach [a] X.env=[(false,eval a X.env)]:=by rfl):PI X tg (.Call (.Name "range" p) [a] [] pos) (QdM ta):=by
 intro pins s σ H R I h;refine Call_ (WH I hg hm boot_range (PyProof.Rows.callWith_type1 (thn (ha pos pins s σ H _ I h) fun us s1⟨vs,H1,I1,r1,q1⟩=>?_) hs rfl));obtain⟨j,e,q1,q2,q⟩:=q1;subst e;cases r1 with
 |cons r rr=>
  cases rr;obtain⟨t,rfl⟩:=r;exact call_range_1 (vD I1 (by omega) (by omega) q1 q2 (by simpa using q))
noncomputable def QeE(wi:TI)(g:TG)(tb:TS):TS:=fun D σ H=>wi σ H fun J H1=>∃W:Nat->Nat->St->Hp->Prop,(∃m,W 0 m σ H1)/\∀i m σ H,W i m σ H->
 (J.stop i H/\D.nx σ H)\/(J.go i H/\∃N:St->Hp->Prop,(∀σ' H',N σ' H'->∃m',m'<m/\W (i+1) m' σ' H')/\∀x H',J.yld i H x H'->g x σ H' fun σ2 H2=>tb {D with nx:=N,ct:=N,bk:=D.nx} σ2 H2)
noncomputable def WM(fp:List Addr)(h:Heap):List (Addr × Obj):=fp.filterMap fun b=>(h.get? b).map fun o=>(b,o)
theorem JC{fp:List Addr}{h:Heap}{b:Addr}{o:Obj}(hb:b∈fp)(e:h.get? b=some o):(b,o)∈WM fp h:=List.mem_filterMap.mpr ⟨b,hb,by rw[e];rfl⟩
theorem xE{fp:List Addr}{h:Heap}{p:Addr × Obj}(hp:p∈WM fp h):p.1∈fp/\h.get? p.1=some p.2:=by
 obtain⟨b,hb,e⟩:=List.mem_filterMap.mp hp;cases q:h.get? b with
 |none=>rw[q]at e;cases e
 |some o=>
  rw[q]at e;have e':(b,o)=p:=ur e;subst e';exact⟨hb,q⟩
theorem Inv.pinned{pins:List (Addr × Obj)}{σ:St}{H:Hp}{s:Shared}{fp:List Addr}(I:Inv X pins σ H s)(hf:∀b∈fp,vv X pins H b) (ho:∀b∈fp,∃o,s.heap.get? b=some o/\∀v,o.data≠ .cell v):Inv X (pins++WM fp s.heap) σ H s:=
 I.Xb fun p hp=>(List.mem_append.mp hp).elim (fun z=>I.pin p (ux _ z)) fun z=>by
  obtain⟨hb,e⟩:=xE z;obtain⟨f0,f1,f2,_⟩:=hf p.1 hb;obtain⟨o,e',d⟩:=ho p.1 hb;rw[e]at e';cases e';exact⟨e,f0,f1,f2,d⟩
theorem Inv.Zg{pins pl:List (Addr × Obj)}{σ:St}{H:Hp}{s:Shared}(I:Inv X (pins++pl) σ H s):Inv X pins σ H s:=I.Xb fun p hp=>I.pin p (ux _ (uy _ hp))
theorem VP{iter:Expr}{body:List Stmt}{wi:TI}{g:TG}{tb:TS}{pos:Pos}(hp:PassesOwn (model X.prog X.w) X.A X.env X.xe)(hc:X.calm=true)(hi:PI X tg iter wi)(hg:PG X tg g)(hb:PSs X body tb)
  (hs:∀x,foldedSetIterable iter X.env x=pure x:=by intro _;rfl):PS X (.For tg iter body [] pos) (QeE wi g tb):=by
 intro pins s σ H D I h;refine wpAny_For (thn (hi pins s σ H _ I h) fun v s1 h1=>thn h1 fun itv s2 h2=>?_) hs;obtain⟨it,fp,tn,J,H2,e,I2,T,st2,f2,W,⟨m0,w0⟩,turn⟩:=h2;subst e;have stat:∀{H':Hp},(∀b∈fp,H' b=none)->∀b∈fp,vv X pins H' b:=fun hn b hb=>⟨hn b hb,(f2 b hb).2⟩;refine codeAny_forLoop_any (fun n s'=>∃i σ' H',Inv X pins σ' H' s'/\tn i s'.heap/\(∀b∈fp,H' b=none)/\W i n σ' H') ?_ m0 ⟨0,σ,H2,I2,st2,fun b hb=>(f2 b hb).1,w0⟩;rintro n s3 ⟨i,σ3,H3,I3,st3,fr3,w3⟩;rcases turn i n σ3 H3 w3 with⟨stop,qn⟩|⟨go,N,hN,step⟩
 ·refine wpAny_passesOwn hp (thn (T.done X rfl rfl rfl hc i pins s3 σ3 H3 X.xe I3 (stat fr3) st3 stop) fun r s4⟨hr,I4⟩=>?_);subst hr;exact wpAny_execs_nil ⟨σ3,H3,I4,qn⟩
 ·refine wpAny_passesOwn hp (thn (T.item X rfl rfl rfl hc i pins s3 σ3 H3 X.xe I3 (stat fr3) st3 go) fun r s4⟨u,hr,h4⟩=>?_);subst hr;refine wpAny_passesOwn hp (thn h4 fun _ s5⟨x,H5,I5,r5,y5,st5,fr5⟩=>?_);have I5':=I5.pinned (stat fr5) (T.obj _ _ st5);refine wpAny_passesOwn hp (thn (hg _ s5 σ3 H5 x u _ I5' r5 (step x H5 y5)) fun _ s6⟨σ6,H6,I6,q6⟩=>?_);refine wpAny_passesOwn hp (thn (hb _ s6 σ6 H6 _ I6 q6) fun f s7 q7=>?_);have again:∀{σ7:St}{H7:Hp},Inv X (pins++WM fp s5.heap) σ7 H7 s7->N σ7 H7->∃m,m<n/\∃i σ' H',Inv X pins σ' H' s7/\tn i s7.heap/\(∀b∈fp,H' b=none)/\W i m σ' H':=fun{σ7 H7} I7 n7=>by
   obtain⟨m',hm,w7⟩:=hN σ7 H7 n7;refine⟨m',hm,i+1,σ7,H7,I7.Zg,T.keep _ _ _ st5 fun b hb o e=>(I7.pin (b,o) (ux _ (ux _ (JC hb e)))).1,fun b hb=>?_,w7⟩;obtain⟨o,e,d⟩:=T.obj _ _ st5 b hb;exact(I7.pin (b,o) (ux _ (ux _ (JC hb e)))).2.1
  cases f with
  |next=>obtain⟨σ7,H7,I7,n7⟩:=q7;exact again I7 n7
  |cont=>obtain⟨σ7,H7,I7,n7⟩:=q7;exact again I7 n7
  |brk=>obtain⟨σ7,H7,I7,q7⟩:=q7;exact⟨σ7,H7,I7.Zg,q7⟩
  |ret v=>obtain⟨x7,σ7,H7,I7,r7,q7⟩:=q7;exact⟨x7,σ7,H7,I7.Zg,r7,q7⟩
end
theorem vE{K:PySem.W.Frag}{a:Addr}{xs:List V}{g:TG}{tb:TS}{D:Ends}{σ:St}{H:Hp}(Pv:Nat->St->Hp->Prop)(h0:Pv 0 σ H)(hl:∀i σ H,i<=xs.length->Pv i σ H->SqL K H a xs)
  (hs:∀i x σ H,xs[i]? =some x->Pv i σ H->g x σ H fun σ2 H2=>tb {D with nx:=Pv (i+1),ct:=Pv (i+1),bk:=D.nx} σ2 H2) (hd:∀σ H,Pv xs.length σ H->D.nx σ H):
  ∃W:Nat->Nat->St->Hp->Prop,(∃m,W 0 m σ H)/\∀i m σ H,W i m σ H->
   ((Itl K a).stop i H/\D.nx σ H)\/((Itl K a).go i H/\∃N:St->Hp->Prop,(∀σ' H',N σ' H'->∃m',m'<m/\W (i+1) m' σ' H')/\∀x H',(Itl K a).yld i H x H'->g x σ H' fun σ2 H2=>tb {D with nx:=N,ct:=N,bk:=D.nx} σ2 H2):=by
 refine⟨fun i m σ H=>m=xs.length-i/\i<=xs.length/\Pv i σ H,⟨xs.length,by simp,uQ _,h0⟩,?_⟩;rintro i m σ H ⟨rfl,hi,p⟩;have q:=hl i σ H hi p
 by_cases hlt:i<xs.length
 ·refine .inr ⟨⟨xs,xs[i],q,by simp[hlt]⟩,Pv (i+1),fun σ' H' p'=>⟨xs.length-(i+1),by omega,rfl,hlt,p'⟩,fun x H' y=>?_⟩;obtain⟨e,y⟩:=y;subst e;exact hs i x σ _ (y xs q) p
 ·have e:i=xs.length:=by omega
  subst e;exact .inl ⟨⟨xs,q,uq _⟩,hd σ H p⟩
theorem Qa0{K:PySem.W.Frag}{a:Addr}{xs:List V}{g:TG}{tb:TS}{D:Ends}{σ:St}{H:Hp}(Pv:Nat->St->Hp->Prop)(h0:Pv 0 σ H)(hl:∀i σ H,i<=xs.length->Pv i σ H->SqT K H a xs)
  (hs:∀i x σ H,xs[i]? =some x->Pv i σ H->g x σ H fun σ2 H2=>tb {D with nx:=Pv (i+1),ct:=Pv (i+1),bk:=D.nx} σ2 H2) (hd:∀σ H,Pv xs.length σ H->D.nx σ H):
  ∃W:Nat->Nat->St->Hp->Prop,(∃m,W 0 m σ H)/\∀i m σ H,W i m σ H->
   ((Itt K a).stop i H/\D.nx σ H)\/((Itt K a).go i H/\∃N:St->Hp->Prop,(∀σ' H',N σ' H'->∃m',m'<m/\W (i+1) m' σ' H')/\∀x H',(Itt K a).yld i H x H'->g x σ H' fun σ2 H2=>tb {D with nx:=N,ct:=N,bk:=D.nx} σ2 H2):=by
 refine⟨fun i m σ H=>m=xs.length-i/\i<=xs.length/\Pv i σ H,⟨xs.length,by simp,uQ _,h0⟩,?_⟩;rintro i m σ H ⟨rfl,hi,p⟩;have q:=hl i σ H hi p
 by_cases hlt:i<xs.length
 ·refine .inr ⟨⟨xs,xs[i],q,by simp[hlt]⟩,Pv (i+1),fun σ' H' p'=>⟨xs.length-(i+1),by omega,rfl,hlt,p'⟩,fun x H' y=>?_⟩;obtain⟨e,y⟩:=y;subst e;exact hs i x σ _ (y xs q) p
 ·have e:i=xs.length:=by omega
  subst e;exact .inl ⟨⟨xs,q,uq _⟩,hd σ H p⟩
theorem Uf{lo:Int}{n:Nat}{g:TG}{tb:TS}{D:Ends}{σ:St}{H:Hp}(Pv:Nat->St->Hp->Prop)(h0:Pv 0 σ H)
  (hs:∀i σ H,i<n->Pv i σ H->g (.int (lo+i)) σ H fun σ2 H2=>tb {D with nx:=Pv (i+1),ct:=Pv (i+1),bk:=D.nx} σ2 H2) (hd:∀σ H,Pv n σ H->D.nx σ H):
  ∃W:Nat->Nat->St->Hp->Prop,(∃m,W 0 m σ H)/\∀i m σ H,W i m σ H->
   ((Itr lo n).stop i H/\D.nx σ H)\/((Itr lo n).go i H/\∃N:St->Hp->Prop,(∀σ' H',N σ' H'->∃m',m'<m/\W (i+1) m' σ' H')/\∀x H',(Itr lo n).yld i H x H'->g x σ H' fun σ2 H2=>tb {D with nx:=N,ct:=N,bk:=D.nx} σ2 H2):=by
 refine⟨fun i m σ H=>m=n-i/\i<=n/\Pv i σ H,⟨n,by simp,uQ _,h0⟩,?_⟩;rintro i m σ H ⟨rfl,hi,p⟩
 by_cases hlt:i<n
 ·refine .inr ⟨hlt,Pv (i+1),fun σ' H' p'=>⟨n-(i+1),by omega,rfl,hlt,p'⟩,fun x H' y=>?_⟩;obtain⟨e,y⟩:=y;subst e y;exact hs i σ _ hlt p
 ·have e:i=n:=by omega
  subst e;exact .inl ⟨uq _,hd σ H p⟩
noncomputable abbrev R2:=V->V->Hp->VK->Prop
noncomputable def OpR(X:Cx)(f:Value->Value->Sem Value)(r:R2):Prop:=
 ∀(pins:List (Addr × Obj))(s:Shared)(σ:St)(H:Hp)(x y:V)(v u:Value)(Q:VK),Inv X pins σ H s->RelV x v->RelV y u->r x y H Q->
  wpAny (model X.prog X.w) X.A (f v u) (EP X pins σ Q) X.xe s
noncomputable def UnR(X:Cx)(f:Value->Sem Value)(r:V->Hp->VK->Prop):Prop:=
 ∀(pins:List (Addr × Obj))(s:Shared)(σ:St)(H:Hp)(x:V)(v:Value)(Q:VK),Inv X pins σ H s->RelV x v->r x H Q->
  wpAny (model X.prog X.w) X.A (f v) (EP X pins σ Q) X.xe s
noncomputable def XG(X:Cx)(f:Value)(r:List V->Hp->VK->Prop):Prop:=
 ∀(pins:List (Addr × Obj))(s:Shared)(σ:St)(H:Hp)(xs:List V)(us:List Value)(Q:VK),Inv X pins σ H s->Vals xs us->r xs H Q->
  wpAny (model X.prog X.w) X.A (call f us) (EP X pins σ Q) X.xe s
noncomputable def Qe0(X:Cx)(r:V->Hp->(Bool->Hp->Prop)->Prop):Prop:=
 ∀(pins:List (Addr × Obj))(s:Shared)(σ:St)(H:Hp)(x:V)(v:Value)(Q:Bool->Hp->Prop),Inv X pins σ H s->RelV x v->r x H Q->
  wpAny (model X.prog X.w) X.A (truthy v) (TP X pins σ Q) X.xe s
noncomputable def tOp(r:R2)(ta tb:TE):TE:=fun σ H Q=>ta σ H fun x H1=>tb σ H1 fun y H2=>r x y H2 Q
noncomputable def tUn(r:V->Hp->VK->Prop)(ta:TE):TE:=fun σ H Q=>ta σ H fun x H1=>r x H1 Q
noncomputable def rI(C:Int->Int->Prop)(g:Int->Int->V):R2:=fun x y H Q=>∃i j,x=.int i/\y=.int j/\C i j/\Q (g i j) H
noncomputable def rI0(g:Int->Int->V):R2:=fun x y H Q=>∃i j,x=.int i/\y=.int j/\Q (g i j) H
noncomputable def rU(g:Int->V):V->Hp->VK->Prop:=fun x H Q=>∃i,x=.int i/\Q (g i) H
section
variable {X:Cx}{a b c:Expr}{ta tb tc:TE}{pos:Pos}
theorem QdN(ha:PE X a ta)(hb:PE X b tb){pins:List (Addr × Obj)}{s:Shared}{σ:St}{H:Hp}{R:V->V->Hp->Prop}(I:Inv X pins σ H s)
  (h:ta σ H fun x H1=>tb σ H1 fun y H2=>R x y H2) {Q:Value->Shared->Prop} {f:Value->Value->Sem Value}
  (hf:∀v u s2 x y H2,Inv X pins σ H2 s2->RelV x v->RelV y u->R x y H2->wpAny (model X.prog X.w) X.A (f v u) Q X.xe s2):
  wpAny (model X.prog X.w) X.A (eval a X.env) (fun v s₁=>wpAny (model X.prog X.w) X.A (eval b X.env) (fun u s₂=>wpAny (model X.prog X.w) X.A (f v u) Q X.xe s₂) X.xe s₁) X.xe s:=by
 refine thn (ha pins s σ H _ I h) fun v s1⟨x,H1,I1,r1,q1⟩=>?_;refine thn (hb pins s1 σ H1 _ I1 q1) fun u s2⟨y,H2,I2,r2,q2⟩=>?_;exact hf v u s2 x y H2 I2 r1 r2 q2
theorem QP{op:Operator}{r:R2}(ho:OpR X (binaryOp op) r)(ha:PE X a ta)(hb:PE X b tb):PE X (.BinOp a op b pos) (tOp r ta tb):=by
 intro pins s σ H Q I h;exact wpAny_BinOp (QdN ha hb I h fun v u s2 x y H2 I2 rx ry q=>ho pins s2 σ H2 x y v u Q I2 rx ry q)
theorem KL{op:UnaryOp}{r:V->Hp->VK->Prop}(ho:UnR X (unaryOp op) r)(ha:PE X a ta):PE X (.UnaryOp op a pos) (tUn r ta):=by
 intro pins s σ H Q I h;exact UnaryOp_ (thn (ha pins s σ H _ I h) fun v s1⟨x,H1,I1,r1,q1⟩=>ho pins s1 σ H1 x v Q I1 r1 q1)
theorem opI{f:Value->Value->Sem Value}{C:Int->Int->Prop}{g:Int->Int->Int}
  (rule:∀(i j:Int)(t u:Tok)(s:Shared)(Q:Value->Shared->Prop)(E:Value->Shared->Prop),C i j->Q (.int (g i j) s.toks) {s with toks:=s.toks+1}->wpAny (model X.prog X.w) X.A (f (.int i t) (.int j u)) Q E s):
  OpR X f (rI C fun i j=>.int (g i j)):=by
 intro pins s σ H x y v u Q I rx ry h;obtain⟨i,j,rfl,rfl,hc,q⟩:=h;obtain⟨t,rfl⟩:=rx;obtain⟨t',rfl⟩:=ry;exact rule i j t t' s _ _ hc ⟨.int (g i j),H,I.tok _,⟨_,rfl⟩,q⟩
theorem QeF{f:Value->Value->Sem Value}{g:Int->Int->Int}
  (rule:∀(i j:Int)(t u:Tok)(s:Shared)(Q:Value->Shared->Prop)(E:Value->Shared->Prop),Q (.int (g i j) s.toks) {s with toks:=s.toks+1}->wpAny (model X.prog X.w) X.A (f (.int i t) (.int j u)) Q E s):
  OpR X f (rI0 fun i j=>.int (g i j)):=by
 intro pins s σ H x y v u Q I rx ry h;obtain⟨i,j,rfl,rfl,q⟩:=h;obtain⟨t,rfl⟩:=rx;obtain⟨t',rfl⟩:=ry;exact rule i j t t' s _ _ ⟨.int (g i j),H,I.tok _,⟨_,rfl⟩,q⟩
theorem Qdw{f:Value->Value->Sem Value}{g:Int->Int->Bool}
  (rule:∀(i j:Int)(t u:Tok)(s:Shared)(Q:Value->Shared->Prop)(E:Value->Shared->Prop),Q (.bool (g i j)) s->wpAny (model X.prog X.w) X.A (f (.int i t) (.int j u)) Q E s):
  OpR X f (rI0 fun i j=>.bl (g i j)):=by
 intro pins s σ H x y v u Q I rx ry h;obtain⟨i,j,rfl,rfl,q⟩:=h;obtain⟨t,rfl⟩:=rx;obtain⟨t',rfl⟩:=ry;exact rule i j t t' s _ _ ⟨.bl (g i j),H,I,rfl,q⟩
noncomputable def QeG(i j:Int):Prop:=0<j/\j<1073741824
noncomputable def Qe1(i j:Int):Prop:=0<=j/\j<=1000000/\i.natAbs<2^64
noncomputable def QdO(i j:Int):Prop:=(-(2^64)<i/\i<2^64)\/(-(2^64)<j/\j<2^64)
theorem QdO.ok{i j:Int}(h:QdO i j):IntMulOk i j:=by
 rcases h with⟨h1,h2⟩|⟨h1,h2⟩
 ·exact .of_left (intBits_le_64 h1 h2)
 ·exact .of_right (intBits_le_64 h1 h2)
theorem Jd:OpR X (binaryOp .Add) (rI0 fun i j=>.int (i+j)):=QeF fun _ _ _ _ _ _ _ q=>add_int q
theorem jD:OpR X (binaryOp .Sub) (rI0 fun i j=>.int (i-j)):=QeF fun _ _ _ _ _ _ _ q=>sub_int q
theorem jE:OpR X (binaryOp .Mult) (rI QdO fun i j=>.int (i*j)):=opI fun _ _ _ _ _ _ _ hc q=>mul_int q hc.ok
theorem Yd:OpR X (binaryOp .FloorDiv) (rI QeG fun i j=>.int (i/j)):=opI fun i j _ _ _ _ _ hc q=>by
 have h1:(0:Int)<j:=hc.1;have h2:j<1073741824:=hc.2;exact floordiv_int (by omega) (by rw[Int.fdiv_eq_ediv_of_nonneg i (by omega)];exact q) (.inl (PyProof.noPylong_small (by omega)))
theorem VQ:OpR X (binaryOp .Mod) (rI (fun _ j=>0<j) fun i j=>.int (i % j)):=opI fun i j _ _ _ _ _ hc q=>by
 have h1:(0:Int)<j:=hc;exact mod_int' (by omega) (by rw[Int.fmod_eq_emod_of_nonneg i (by omega)];exact q)
theorem Qal:OpR X (binaryOp .Pow) (rI Qe1 fun i j=>.int (i^j.toNat)):=opI fun _ _ _ _ _ _ _ hc q=>pow_int_small hc.1 hc.2.1 hc.2.2 q
theorem unI{f:Value->Sem Value}{g:Int->Int}
  (rule:∀(i:Int)(t:Tok)(s:Shared)(Q:Value->Shared->Prop)(E:Value->Shared->Prop),Q (.int (g i) s.toks) {s with toks:=s.toks+1}->wpAny (model X.prog X.w) X.A (f (.int i t)) Q E s):
  UnR X f (rU fun i=>.int (g i)):=by
 intro pins s σ H x v Q I rx h;obtain⟨i,rfl,q⟩:=h;obtain⟨t,rfl⟩:=rx;exact rule i t s _ _ ⟨.int (g i),H,I.tok _,⟨_,rfl⟩,q⟩
theorem ZL:UnR X (unaryOp .USub) (rU fun i=>.int (-i)):=unI fun _ _ _ _ _ q=>neg_int q
end
noncomputable def QeH:V->V->Bool
 | .non,.non=>true| .non,.int _=>true| .int _,.non=>true| .non,.bl _=>true| .bl _,.non=>true| .non,.str _=>true| .str _,.non=>true
 | .int _,.int _=>true| .bl _,.bl _=>true| .str _,.str _=>true| .byt _,.byt _=>true
 | .int _,.str _=>true| .str _,.int _=>true| .bl _,.str _=>true| .str _,.bl _=>true
 |_,_=>false
noncomputable def rEq:R2:=fun x y H Q=>QeH x y=true/\Q (.bl (decide (x=y))) H
noncomputable def rNe:R2:=fun x y H Q=>QeH x y=true/\Q (.bl (!decide (x=y))) H
theorem xF{i j:Int}:decide (V.int i=V.int j)=(i==j):=by
 rw[Bool.eq_iff_iff];simp
theorem Qam{i j:Bool}:decide (V.bl i=V.bl j)=(i==j):=by
 rw[Bool.eq_iff_iff];simp
theorem WN{i j:Str}:decide (V.str i=V.str j)=(i==j):=by
 rw[Bool.eq_iff_iff];simp
theorem xG{i j:Array UInt8}:decide (V.byt i=V.byt j)=(i.toList==j.toList):=by
 rw[Bool.eq_iff_iff];cases i;cases j;simp
section
variable {X:Cx}{a b c:Expr}{ta tb tc:TE}{pos:Pos}
theorem QW{pins:List (Addr × Obj)}{σ:St}{H:Hp}{s:Shared}{Q:VK}{k k':Bool}(I:Inv X pins σ H s)(q:Q (.bl k) H)(e:k=k'):EP X pins σ Q (.bool k') s:=by
 subst e;exact⟨.bl k,H,I,rfl,q⟩
theorem QZ:OpR X (compareOp .Eq) rEq:=by
 intro pins s σ H x y v u Q I rx ry h;obtain⟨hs,q⟩:=h;cases x with
 |non=>
  cases rx;cases y with
  |non=>cases ry;exact PySem.EqNone.eq_none_none (QW I q (by simp))
  |bl j=>cases ry;exact PySem.EqNone.eq_none_bool (QW I q (by simp))
  |int j=>obtain⟨t',rfl⟩:=ry;exact PySem.EqNone.eq_none_int (QW I q (by simp))
  |str j=>obtain⟨t',rfl⟩:=ry;exact PySem.EqNone.eq_none_str (QW I q (by simp))
  |_=>exact absurd (show false=true from hs) Bool.false_ne_true
 |bl i=>
  cases rx;cases y with
  |non=>cases ry;exact PySem.EqNone.eq_bool_none (QW I q (by simp))
  |bl j=>cases ry;exact eq_bool (QW I q Qam)
  |str j=>obtain⟨t',rfl⟩:=ry;exact PySem.EqMixed.eq_bool_str (QW I q (by simp))
  |_=>exact absurd (show false=true from hs) Bool.false_ne_true
 |int i=>
  obtain⟨t,rfl⟩:=rx;cases y with
  |non=>cases ry;exact PySem.EqNone.eq_int_none (QW I q (by simp))
  |int j=>obtain⟨t',rfl⟩:=ry;exact eq_int (QW I q xF)
  |str j=>obtain⟨t',rfl⟩:=ry;exact PySem.EqMixed.eq_int_str (QW I q (by simp))
  |_=>exact absurd (show false=true from hs) Bool.false_ne_true
 |str i=>
  obtain⟨t,rfl⟩:=rx;cases y with
  |non=>cases ry;exact PySem.EqNone.eq_str_none (QW I q (by simp))
  |bl j=>cases ry;exact PySem.EqMixed.eq_str_bool (QW I q (by simp))
  |int j=>obtain⟨t',rfl⟩:=ry;exact PySem.EqMixed.eq_str_int (QW I q (by simp))
  |str j=>obtain⟨t',rfl⟩:=ry;exact eq_str (QW I q WN)
  |_=>exact absurd (show false=true from hs) Bool.false_ne_true
 |byt i=>
  obtain⟨t,rfl⟩:=rx;cases y with
  |byt j=>obtain⟨t',rfl⟩:=ry;exact eq_bytes (QW I q xG)
  |_=>exact absurd (show false=true from hs) Bool.false_ne_true
 |_=>cases y<;>exact absurd (show false=true from hs) Bool.false_ne_true
theorem Kd:OpR X (compareOp .NotEq) rNe:=by
 intro pins s σ H x y v u Q I rx ry h;obtain⟨hs,q⟩:=h;cases x with
 |non=>
  cases rx;cases y with
  |non=>cases ry;exact PySem.EqNone.ne_none_none (QW I q (by simp))
  |bl j=>cases ry;exact PySem.EqNone.ne_none_bool (QW I q (by simp))
  |int j=>obtain⟨t',rfl⟩:=ry;exact PySem.EqNone.ne_none_int (QW I q (by simp))
  |str j=>obtain⟨t',rfl⟩:=ry;exact PySem.EqNone.ne_none_str (QW I q (by simp))
  |_=>exact absurd (show false=true from hs) Bool.false_ne_true
 |bl i=>
  cases rx;cases y with
  |non=>cases ry;exact PySem.EqNone.ne_bool_none (QW I q (by simp))
  |bl j=>cases ry;exact ne_bool (QW I q (congrArg not Qam))
  |str j=>obtain⟨t',rfl⟩:=ry;exact PySem.EqMixed.ne_bool_str (QW I q (by simp))
  |_=>exact absurd (show false=true from hs) Bool.false_ne_true
 |int i=>
  obtain⟨t,rfl⟩:=rx;cases y with
  |non=>cases ry;exact PySem.EqNone.ne_int_none (QW I q (by simp))
  |int j=>obtain⟨t',rfl⟩:=ry;exact ne_int (QW I q (congrArg not xF))
  |str j=>obtain⟨t',rfl⟩:=ry;exact PySem.EqMixed.ne_int_str (QW I q (by simp))
  |_=>exact absurd (show false=true from hs) Bool.false_ne_true
 |str i=>
  obtain⟨t,rfl⟩:=rx;cases y with
  |non=>cases ry;exact PySem.EqNone.ne_str_none (QW I q (by simp))
  |bl j=>cases ry;exact PySem.EqMixed.ne_str_bool (QW I q (by simp))
  |int j=>obtain⟨t',rfl⟩:=ry;exact PySem.EqMixed.ne_str_int (QW I q (by simp))
  |str j=>obtain⟨t',rfl⟩:=ry;exact ne_str (QW I q (congrArg not WN))
  |_=>exact absurd (show false=true from hs) Bool.false_ne_true
 |byt i=>
  obtain⟨t,rfl⟩:=rx;cases y with
  |byt j=>obtain⟨t',rfl⟩:=ry;exact ne_bytes (QW I q (congrArg not xG))
  |_=>exact absurd (show false=true from hs) Bool.false_ne_true
 |_=>cases y<;>exact absurd (show false=true from hs) Bool.false_ne_true
theorem Ye:OpR X (compareOp .Lt) (rI0 fun i j=>.bl (decide (i<j))):=Qdw fun _ _ _ _ _ _ _ q=>lt_int q
theorem xH:OpR X (compareOp .LtE) (rI0 fun i j=>.bl (decide (i<=j))):=Qdw fun _ _ _ _ _ _ _ q=>le_int q
theorem KM:OpR X (compareOp .Gt) (rI0 fun i j=>.bl (decide (j<i))):=Qdw fun _ _ _ _ _ _ _ q=>gt_int q
theorem vF:OpR X (compareOp .GtE) (rI0 fun i j=>.bl (decide (j<=i))):=Qdw fun _ _ _ _ _ _ _ q=>ge_int q
theorem Xc:OpR X (compareOp .In) (fun x y H Q=>∃i j,x=.str i/\y=.str j/\Q (.bl (!(Builtin.Str.occurrences j i 0 j.length 1).isEmpty)) H):=by
 intro pins s σ H x y v u Q I rx ry h;obtain⟨i,j,rfl,rfl,q⟩:=h;obtain⟨t,rfl⟩:=rx;obtain⟨t',rfl⟩:=ry;exact in_str (QW I q rfl)
theorem Ug:OpR X (compareOp .NotIn) (fun x y H Q=>∃i j,x=.str i/\y=.str j/\Q (.bl (!(!(Builtin.Str.occurrences j i 0 j.length 1).isEmpty))) H):=by
 intro pins s σ H x y v u Q I rx ry h;obtain⟨i,j,rfl,rfl,q⟩:=h;obtain⟨t,rfl⟩:=rx;obtain⟨t',rfl⟩:=ry;exact notIn_str (QW I q rfl)
theorem Qo(b:Expr){op:CmpOp}(h:op≠ .In:=by decide)(h2:op≠ .NotIn:=by decide):behindInMarks op b=false:=by
 have e1:(op==CmpOp.In)=false:=by cases op<;>first|rfl|exact absurd rfl h
 have e2:(op==CmpOp.NotIn)=false:=by cases op<;>first|rfl|exact absurd rfl h2
 cases b<;>simp[behindInMarks,e1,e2]
theorem Q9{op:CmpOp}{r:R2}(ho:OpR X (compareOp op) r)(ha:PE X a ta)(hb:PE X b tb)(hm:behindInMarks op b=false):PE X (.Compare a [op] [b] pos) (tOp r ta tb):=by
 intro pins s σ H Q I h;exact wpAny_Compare1 (QdN ha hb I h fun v u s2 x y H2 I2 rx ry q=>ho pins s2 σ H2 x y v u Q I2 rx ry q) hm
noncomputable def VA(t:TE):TT:=fun σ H Q=>t σ H fun x H'=>∃k,x=.bl k/\Q k H'
theorem Ql{op:CmpOp}{r:R2}(ho:OpR X (compareOp op) r)(ha:PE X a ta)(hb:PE X b tb)(hm:behindInMarks op b=false):PT X (.Compare a [op] [b] pos) (VA (tOp r ta tb)):=by
 intro pins s σ H Q I h;refine wpAny_isTrue_Compare1 (thn (ha pins s σ H _ I h) fun v s1⟨x,H1,I1,r1,q1⟩=>thn (hb pins s1 σ H1 _ I1 q1) fun u s2⟨y,H2,I2,r2,q2⟩=>
  thn (ho pins s2 σ H2 x y v u _ I2 r1 r2 q2) fun c s3⟨z,H3,I3,r3,k,e,q3⟩=>?_) hm
 subst e;cases r3;exact wpAny_truthy_bool ⟨H3,I3,q3⟩
noncomputable def Qcn(r r':R2)(ta tb tc:TE):TE:=fun σ H Q=>ta σ H fun x H1=>tb σ H1 fun y H2=>r x y H2 fun z H3=>∃k,z=.bl k/\
 (if k=true then tc σ H3 fun w' H4=>r' y w' H4 Q else Q (.bl false) H3)
theorem jF{op op':CmpOp}{r r':R2}(ho:OpR X (compareOp op) r)(ho':OpR X (compareOp op') r')(ha:PE X a ta)(hb:PE X b tb)(hc:PE X c tc)
  (hm:lastMarks [op,op'] [b,c]=false:=by with_unfolding_all rfl):PE X (.Compare a [op,op'] [b,c] pos) (Qcn r r' ta tb tc):=by
 intro pins s σ H Q I h;refine Compare_chain (thn (ha pins s σ H _ I h) fun v s1⟨x,H1,I1,r1,q1⟩=>chain_link (thn (hb pins s1 σ H1 _ I1 q1) fun u s2⟨y,H2,I2,r2,q2⟩=>
  thn (ho pins s2 σ H2 x y v u _ I2 r1 r2 q2) fun d s3⟨z,H3,I3,r3,k,e,q3⟩=>?_)) hm
 subst e;cases r3;refine wpAny_truthy_bool ?_;cases k with
 |false=>exact ite_ff ⟨.bl false,H3,I3,rfl,q3⟩
 |true=>exact ite_tt (chain_last (thn (hc pins s3 σ H3 _ I3 q3) fun w' s4⟨z',H4,I4,r4,q4⟩=>ho' pins s4 σ H4 y z' u w' Q I4 r2 r4 q4))
noncomputable def QdP(K:PySem.W.Frag)(x:V)(H:Hp)(k:Bool):Prop:=
 match x with
 | .non=>k=false
 | .bl b=>k=b
 | .int i=>k=(i !=0)
 | .str y=>y.length<=sizeLine/\k=((y.length:Int) !=0)
 | .byt y=>y.size<=sizeLine/\k=((y.size:Int) !=0)
 | .ref p=>(∃xs,SqL K H p xs/\k= !xs.isEmpty)\/(∃xs,SqT K H p xs/\k= !xs.isEmpty)\/∃kvs,H p=some (.dK kvs)/\k= !kvs.isEmpty
 |_=>False
theorem zE{κ:Type}{kvs:List (κ × V)}{vs:List (κ × Value)}(r:KV kvs vs):(!vs.isEmpty)= !kvs.isEmpty:=by
 cases r<;>rfl
theorem VR{xs:List V}{its:List Value}(r:Vals xs its):(!its.toArray.isEmpty)= !xs.isEmpty:=by
 cases r<;>simp
theorem Xd:(sizeLine:Nat)<2^63:=by rw[sizeLine_eq];decide
theorem Qco:Qe0 X (fun x H Q=>∃k,QdP X.K x H k/\Q k H):=by
 intro pins s σ H x v Q I rx h;obtain⟨k,e,q⟩:=h;have hl:=Xd;have hs:sizeLine=16777216:=sizeLine_eq;cases x with
 |non=>
  cases rx;have e':k=false:=e;subst e';exact truthy_none ⟨H,I,q⟩
 |bl b=>
  cases rx;have e':k=b:=e;subst e';exact wpAny_truthy_bool ⟨H,I,q⟩
 |int i=>
  obtain⟨t,rfl⟩:=rx;have e':k=(i !=0):=e;subst e';exact PySem.P.truthy_int ⟨H,I,q⟩
 |str y=>
  obtain⟨t,rfl⟩:=rx;obtain⟨hy,e'⟩:y.length<=sizeLine/\k=((y.length:Int) !=0):=e;subst e';exact PySem.P.truthy_str (by omega) ⟨H,I.tok _,q⟩
 |byt y=>
  obtain⟨t,rfl⟩:=rx;obtain⟨hy,e'⟩:y.size<=sizeLine/\k=((y.size:Int) !=0):=e;subst e';exact truthy_bytes (by omega) ⟨H,I.tok _,q⟩
 |ref p=>
  cases rx;have e':(∃xs,SqL X.K H p xs/\k= !xs.isEmpty)\/(∃xs,SqT X.K H p xs/\k= !xs.isEmpty)\/∃kvs,H p=some (.dK kvs)/\k= !kvs.isEmpty:=e;rcases e' with⟨xs,hx,e'⟩|⟨xs,hx,e'⟩|⟨kvs,hx,e'⟩
  ·subst e';obtain⟨its,r,pl,hz⟩:=I.list hx;have hlen:=r.length;exact wpAny_truthy_list pl.isList (by simp only[uP];omega) ⟨H,I.tok _,by rw[VR r];exact q⟩
  ·subst e';obtain⟨its,r,pl,hz⟩:=I.tuple hx;have hlen:=r.length;exact truthy_tuple pl (by simp only[uP];omega) ⟨H,I.tok _,by rw[VR r];exact q⟩
  ·subst e';obtain⟨hz,hS,vs,r,m⟩:kvs.length<=sizeLine/\(p==sysModules)=false/\∃vs,KV kvs vs/\s.heap.DictOf (Q8 X.prog X.w) p vs:=I.hok p _ hx;have hlen:kvs.length=vs.length:=Paired.length r;exact wpAny_truthy_dict hS m (by omega) ⟨H,I.tok _,by rw[zE r];exact q⟩
 |_=>exact(show False from e).elim
theorem Ji(ha:PE X a ta)(he:∀whole,isTrue a X.env whole=(do let v←whole;standAt a.pos;holding [v] (truthy v))):
  PT X a (fun σ H Q=>ta σ H fun x H'=>∃k,QdP X.K x H' k/\Q k H'):=by
 intro pins s σ H Q I h;exact isTrue_plain (thn (ha pins s σ H _ I h) fun v s1⟨x,H1,I1,r1,q1⟩=>Qco pins s1 σ H1 x v Q I1 r1 q1) (he _)
theorem QJ:OpR X (binaryOp .Add) (fun x y H Q=>∃i j,x=.str i/\y=.str j/\i.length+j.length<=sizeLine/\Q (.str (i++j)) H):=by
 intro pins s σ H x y v u Q I rx ry h;obtain⟨i,j,rfl,rfl,hz,q⟩:=h;obtain⟨t,rfl⟩:=rx;obtain⟨t',rfl⟩:=ry;exact add_str (fun t' tk=>⟨.str (i++j),H,I.tok _,⟨_,rfl⟩,q⟩) hz
theorem vals1{x:V}{us:List Value}(r:Vals [x] us):∃u,us=[u]/\RelV x u:=by
 cases r with
 |cons r1 r2=>cases r2;exact⟨_,rfl,r1⟩
theorem vals2{x y:V}{us:List Value}(r:Vals [x,y] us):∃u w',us=[u,w']/\RelV x u/\RelV y w':=by
 cases r with
 |cons r1 r2=>
  cases r2 with
  |cons r3 r4=>cases r4;exact⟨_,_,rfl,r1,r3⟩
theorem xI(hc:X.calm=true):XG X (.builtin "max") (fun xs H Q=>∃i j,xs=[.int i,.int j]/\Q (.int (if j>i then j else i)) H):=by
 intro pins s σ H xs us Q I r h;obtain⟨i,j,rfl,q⟩:=h;obtain⟨u,w',rfl,⟨t,rfl⟩,⟨t',rfl⟩⟩:=vals2 r;refine max_two_ints (I.ok.hd hc) fun h' tk k=>⟨_,H,I.kept k,?_,q⟩
 by_cases hj:j>i
 ·rw[if_pos hj,if_pos hj];exact⟨_,rfl⟩
 ·rw[if_neg hj,if_neg hj];exact⟨_,rfl⟩
theorem Xe:XG X (.type "str") (fun xs H Q=>∃i,xs=[.int i]/\i.natAbs.log2<1920/\Q (.str (toString i)) H):=by
 intro pins s σ H xs us Q I r h;obtain⟨i,rfl,hz,q⟩:=h;obtain⟨u,rfl,t,rfl⟩:=vals1 r;exact PySem.P.str_of_int hz ⟨.str _,H,I.tok _,⟨_,rfl⟩,q⟩
theorem qk:XG X (.builtin "divmod") (fun xs H Q=>∃i j,xs=[.int i,.int j]/\QeG i j/\∀p,H p=none->Q (.ref p) (upd H p (.tup [.int (i/j),.int (i % j)]))):=by
 intro pins s σ H xs us Q I r h;obtain⟨i,j,rfl,⟨h1,h2⟩,q⟩:=h;obtain⟨u,w',rfl,⟨t,rfl⟩,⟨t',rfl⟩⟩:=vals2 r;refine divmod_int (by omega) ?_ (.inl (PyProof.noPylong_small (by omega)));rw[Int.fdiv_eq_ediv_of_nonneg i (by omega),Int.fmod_eq_emod_of_nonneg i (by omega)];have hn:H s.heap.objs.size=none:=I.hok.fresh (uq _);refine⟨.ref s.heap.objs.size,_,?_,rfl,q _ hn⟩;refine I.laid (fun b o e=>Heap.get?_push_of_some _ e) (uq _) ⟨by simp only[uw,List.length_nil];rw[sizeLine_eq];decide,[.int (i/j) s.toks,.int (i % j) (s.toks+1)],.cons ⟨_,rfl⟩ (.cons ⟨_,rfl⟩ .nil),?_⟩;exact⟨_,Heap.get?_push_size s.heap rfl,rfl,0,rfl,rfl⟩
end
structure ObjM(h:Heap)(x dx C:Addr)(mA:Str->Option Value):Prop where
 obj:h.get? x=some (instObj C dx)
 ns:h.Ns1 dx mA
 ne:dx≠x
theorem xJ{h:Heap}{dx:Addr}{mA:Str->Option Value}(n:h.Ns1 dx mA):∃od,h.get? dx=some od/\∀name,lookIn name od=some (mA name):=by
 obtain⟨o,es,ep,ho,hd,hk,_,hm⟩:=n;refine⟨o,ho,fun name=>?_⟩;have e:=hm name;unfold nsFind findBy at e;rw[←Array.find?_toList]at e;unfold lookIn;rw[hd];dsimp only
 split
 ·rename_i y q;rw[q]at e;exact congrArg some e
 ·rename_i q;rw[q]at e;have a:es.toList.any (·.refKey)=false:=by
   rw[List.any_eq_false];intro y hy;obtain⟨z,t,hkey⟩:=hk y (Array.mem_toList_iff.mp hy);simp[DictEntry.refKey,hkey]
  have a':¬ es.toList.any (·.refKey)=true:=by rw[a];exact Bool.false_ne_true
  rw[if_neg a'];exact congrArg some e
theorem ObjM.look{h:Heap}{x dx C:Addr}{mA:Str->Option Value}(I:ObjM h x dx C mA):∃od,PySem.W.InstAt h x (instObj C dx) C (some od)/\∀name,lookIn name od=some (mA name):=
 let ⟨od,ho,hl⟩:=xJ I.ns
 ⟨od,⟨I.obj,rfl,rfl,ho⟩,hl⟩
theorem jA.some_of{v:V}{o:Option Value}(r:jA (some v) o):∃u,o=some u/\RelV v u:=by
 cases o with
 |none=>exact(show False from r).elim
 |some u=>exact⟨u,rfl,r⟩
section
variable {P:Program}{w:World}{H H':Hp}{h h':Heap}{a C dx:Addr}{fs fs':List (Str × V)}
theorem Qa1(hok:HOk P w H h)(e:H a=some (.ins C dx fs)):∃mA,ObjM h a dx C mA/\(∀f,jA (fs.lookup f) (mA f))/\PySem.Within mA (fs.map (·.1))/\fs.length<=1000/\H dx=some (.own a):=by
 obtain⟨d,z,ne,ob,mA,n,r,q⟩:=(show Jk P w H h a (.ins C dx fs)from hok a _ e);exact⟨mA,⟨ob,n,ne⟩,r,q,z,d⟩
end
structure Cls(K:PySem.W.Frag)(C:Addr):Prop where
 pg:plainGet K C Str.empty=true
 hd:hasDictIn K C=true
 po:plainOver K C=true
 sa:findIn K (.ref C) "__setattr__"=some (some (.builtin "object.__setattr__"))
theorem Cls.get{K:PySem.W.Frag}{C:Addr}(c:Cls K C)(f:Str):plainGet K C f=true:=c.pg
section
variable {X:Cx}{pins:List (Addr × Obj)}{σ:St}{H:Hp}{s:Shared}{A:Around}{E:Value->Shared->Prop}{Q:Value->Shared->Prop}{c:Value}{b:Bool}
inductive TyOf (K:PySem.W.Frag) (H:Hp):V->Value->Prop where
 |non:TyOf K H .non (.type "NoneType")
 |bl (x:Bool):TyOf K H (.bl x) (.type "bool")
 |int (i:Int):TyOf K H (.int i) (.type "int")
 |str (x:Str):TyOf K H (.str x) (.type "str")
 |flt (x:UInt64):TyOf K H (.flt x) (.type "float")
 |lst {a:Addr} {xs:List V} (e:H a=some (.lst xs)):TyOf K H (.ref a) (.type "list")
 |frz {a:Addr} {o:Obj} {xs:List V} (e:H a=some (.frz o (.lst xs))):TyOf K H (.ref a) (.type "list")
 |tup {a:Addr} {xs:List V} (e:H a=some (.tup xs)):TyOf K H (.ref a) (.type "tuple")
 |dK {a:Addr} {kvs:List (Key × V)} (e:H a=some (.dK kvs)):TyOf K H (.ref a) (.type "dict")
 |dT {a:Addr} {kvs:List (List Key × V)} (e:H a=some (.dT kvs)):TyOf K H (.ref a) (.type "dict")
 |ins {a C dx:Addr} {fs:List (Str × V)} (e:H a=some (.ins C dx fs)) (cl:Cls K C) (ha:findIn K (.ref C) "__class__"=some (some (.builtin "object.__class__")))
   (hn:specialIn K (.builtin "object.__class__") "__get__"=some (some (.builtin "getset_descriptor.__get__"))) (htk:takesIn K (.builtin "object.__class__")=some true)
   (hm:mroIn K C (.type "object")=some true):TyOf K H (.ref a) (.ref C)
theorem xK{x:V}{u t:Value}(I:Inv X pins σ H s)(rx:RelV x u)(ty:TyOf X.K H x t)(e:kitOne X.K t c=some b)(h:∀tk,Q (.bool b) {s with toks:=tk}):
  wpAny (model X.prog X.w) A (call (.builtin "isinstance") [u,c]) Q E s:=by
 cases ty with
 |non=>cases(show u=Value.none from rx);exact kia_one kitx_none I.kIn True.intro e (fun z=>nomatch z) h
 |bl y=>cases(show u=Value.bool y from rx);exact kia_one kitx_bool I.kIn True.intro e (fun z=>nomatch z) h
 |int i=>obtain⟨t,q⟩:=(show ∃t,u=Value.int i t from rx);cases q;exact kia_one kitx_int I.kIn True.intro e (fun z=>nomatch z) h
 |str y=>obtain⟨t,q⟩:=(show ∃t,u=Value.str y t from rx);cases q;exact kia_one kitx_str I.kIn True.intro e (fun z=>nomatch z) h
 |flt y=>obtain⟨t,q⟩:=(show ∃t,u=Value.float y t from rx);cases q;exact kia_one kitx_float I.kIn True.intro e (fun z=>nomatch z) h
 |@lst a xs ea=>
  cases(show u=Value.ref a from rx);obtain⟨_,_,n,_,h1⟩:=(show Jk X.prog X.w H s.heap a (.lst xs)from I.hok a _ ea);exact kia_one kitx_list I.kIn ⟨_,h1,rfl⟩ e (fun z=>nomatch z) h
 |@frz a ob xs ea=>
  cases(show u=Value.ref a from rx);obtain⟨_,_,_,n,_,h1⟩:=(show Jk X.prog X.w H s.heap a (.frz ob (.lst xs))from I.hok a _ ea);exact kia_one kitx_list I.kIn ⟨_,h1,rfl⟩ e (fun z=>nomatch z) h
 |@tup a xs ea=>
  cases(show u=Value.ref a from rx);obtain⟨_,_,_,p⟩:=(show Jk X.prog X.w H s.heap a (.tup xs)from I.hok a _ ea);obtain⟨o,h1,h2,_⟩:=p;exact kia_one kitx_tuple I.kIn ⟨o,h1,h2⟩ e (fun z=>nomatch z) h
 |@dK a kvs ea=>
  cases(show u=Value.ref a from rx);obtain⟨_,_,vs,_,p⟩:=(show Jk X.prog X.w H s.heap a (.dK kvs)from I.hok a _ ea);obtain⟨o,es,ep,h1,h2,_⟩:=p;exact kia_one kitx_dict I.kIn ⟨o,h1,h2.1⟩ e (fun z=>nomatch z) h
 |@dT a kvs ea=>
  cases(show u=Value.ref a from rx);obtain⟨_,_,xs,_,o,es,ep,h1,h2,_⟩:=(show Jk X.prog X.w H s.heap a (.dT kvs)from I.hok a _ ea);exact kia_one kitx_dict I.kIn ⟨o,h1,h2.1⟩ e (fun z=>nomatch z) h
 |@ins a C dx fs ea cl ha hn htk hm=>
  cases(show u=Value.ref a from rx);obtain⟨mA,O,_⟩:=Qa1 I.hok ea;obtain⟨od,J,_⟩:=O.look;exact kia_one (kitx_own (cl.get _) cl.hd ha hn htk hm) I.kIn J e (fun z=>nomatch z) h
end
structure Room(k:Nat)(A:Around):Prop where
 hd:A.handled=none
 dp:A.depth+3*k+5<recursionLimit
 un:A.units+16*k+200<cLine
theorem Room.mono{j k:Nat}{A:Around}(r:Room k A)(h:j<=k):Room j A:=⟨r.hd,by have:=r.dp;omega,by have:=r.un;omega⟩
theorem Room.deeper{k:Nat}{A:Around}(r:Room (k+1) A)(env:Env):Room k (A.deeper env):=
 ⟨r.hd,by have:=r.dp;show A.depth+1+3*k+5<_;omega,by have:=r.un;show A.units+3+16*k+200<_;omega⟩
theorem Room.depth{k:Nat}{A:Around}(r:Room k A):A.depth<recursionLimit:=by have:=r.dp;omega
theorem Room.units{k:Nat}{A:Around}(r:Room k A):A.units+64<cLine:=by have:=r.un;omega
noncomputable def WO:TA:=fun _ H Q=>Q [] H
noncomputable def Ja(ta:TE)(tr:TA):TA:=fun σ H Q=>ta σ H fun x H1=>tr σ H1 fun xs H2=>Q (x::xs) H2
section
variable {X:Cx}{e:Expr}{es:List Expr}{te:TE}{t:TA}{pos:Pos}
theorem Qc:PA X [] WO:=fun _ _ _ _ H Q I h=>Calls.spliced_nil ⟨[],H,I,.nil,h⟩
theorem Qb(ha:PE X e te)(hr:PA X es t)(hs:starEach (e::es) X.env=(false,eval e X.env)::starEach es X.env:=by rfl):PA X (e::es) (Ja te t):=by
 intro pos pins s σ H Q I h;rw[hs];show wpAny _ _ (spliced ((false,eval e X.env)::backTo pos (starEach es X.env))) _ _ s;refine Calls.spliced_cons (thn (ha pins s σ H _ I h) fun u s1⟨x,H1,I1,r1,q1⟩=>?_);exact thn (hr pos pins s1 σ H1 _ I1 q1) fun us s2⟨xs,H2,I2,r2,q2⟩=>⟨x::xs,H2,I2,.cons r1 r2,q2⟩
noncomputable def Qcp(t:TA):TE:=fun σ H Q=>t σ H fun xs H1=>xs.length<=sizeLine/\∀p,H1 p=none->Q (.ref p) (upd H1 p (.tup xs))
noncomputable def Qca(t:TA):TE:=fun σ H Q=>t σ H fun xs H1=>xs.length<=sizeLine/\∀p,H1 p=none->Q (.ref p) (upd H1 p (.lst xs))
theorem QO{x1}(h:PA X es t):PE X (.Tuple es x1 pos) (Qcp t):=by
 intro pins s σ H Q I hq;refine wpAny_Tuple_spliced (thn (h pos pins s σ H _ I hq) fun us s1⟨xs,H1,I1,r,z,q⟩=>⟨by rw[←r.length];exact z,?_⟩);have hf:H1 s1.heap.objs.size=none:=I1.hok.fresh (uq _);refine⟨.ref s1.heap.objs.size,upd H1 s1.heap.objs.size (.tup xs),I1.laid (t':=s1.toks) (fun b u e=>Heap.get?_push_of_some _ e) (uq _) ?_,rfl,q _ hf⟩;exact⟨z,us,r,⟨_,Heap.get?_push_size _ rfl,rfl,_,rfl,rfl⟩⟩
theorem Zw(h:PA X es t):PE X (.List es pos) (Qca t):=by
 intro pins s σ H Q I hq;refine wpAny_List_spliced (thn (h pos pins s σ H _ I hq) fun us s1⟨xs,H1,I1,r,z,q⟩=>⟨by rw[←r.length];exact z,?_⟩);have hf:H1 s1.heap.objs.size=none:=I1.hok.fresh (uq _);refine⟨.ref s1.heap.objs.size,upd H1 s1.heap.objs.size (.lst xs),I1.laid (t':=s1.toks) (fun b u e=>Heap.get?_push_of_some _ e) (uq _) ?_,rfl,q _ hf⟩;exact⟨z,us,0,r,Heap.get?_push_size _ rfl⟩
end
noncomputable abbrev Sp:=List V->Hp->VK->XK->Prop
noncomputable abbrev CXT:=List Env->Hp->Shared->XK->Value->Shared->Prop
structure Env0(P:Program)(w:World)(K:PySem.W.Frag)(mg:Str->Option Value)(base:Heap)(A:Around)(outer:List Env)(s:Shared)(H:Hp):Prop where
 frames:A.frames=some outer
 mod:Mod K mg base
 bs:∀b o,base.get? b=some o->s.heap.get? b=some o/\H b=none
 bsz:base.objs.size<=s.heap.objs.size
 qf:s.heap.FunFrames base outer
 frf:∀b∈frs outer,H b=none
 hok:HOk P w H s.heap
 bare:AllBare s.gens
noncomputable def CE(outer:List Env)(P:Program)(w:World)(H:Hp)(s:Shared)(Q:VK)(u:Value)(s':Shared):Prop:=
 ∃v H',s'.os=s.os/\AllBare s'.gens/\Un (frs outer) [] H H' s.heap s'.heap/\HOk P w H' s'.heap/\RelV v u/\Q v H'
noncomputable def CR(CX:CXT)(outer:List Env)(P:Program)(w:World)(H:Hp)(s:Shared)(Q:VK)(E:XK)(r:Result)(s':Shared):Prop:=
 match r with
 | .ok (.ret u)=>CE outer P w H s Q u s'
 | .ok _=>False
 | .error e=>CX outer H s E e s'
structure FnOk(P:Program)(w:World)(K:PySem.W.Frag)(mg:Str->Option Value)(base:Heap)(CX:CXT)(k:Nat)(f:Addr)(fd:FuncData)(ps:List Str)(sp:Sp):Prop where
 len:∀vs H Q E,sp vs H Q E->vs.length=ps.length
 run:∀(A:Around)(outer:List Env)(s:Shared)(H:Hp)(args:Args)(us:List Value)(vs:List V)(Q:VK)(E:XK),Room k A->Env0 P w K mg base A outer s H->BindsTo s fd args (ps.zip us)->Vals vs us->sp vs H Q E->
  codeAny (model P w) A (.call (.ref f) args) (CR CX outer P w H s Q E) s
section
variable {X:Cx}{pins:List (Addr × Obj)}{σ:St}{H:Hp}{s s':Shared}
theorem Inv.QdQ(I:Inv X pins σ H s):Env0 X.prog X.w X.K X.mg X.base X.A X.stack s H:=
 ⟨I.ok.frames,I.ok.mod,I.bs,Nat.le_trans I.ok.bsz I.sz,I.stack,I.XV,I.hok,I.bare⟩
theorem Inv.after{Q:VK}{u:Value}(I:Inv X pins σ H s)(h:CE X.stack X.prog X.w H s Q u s'):EP X pins σ Q u s':=by
 obtain⟨v,H',os,bare,un,hok,r,q⟩:=h;obtain⟨hh,g,d,t,os'⟩:=s';obtain rfl:os'=s.os:=os;exact⟨v,H',I.call (h':=hh) (g':=g) (d':=d) (t':=t) (ch:=[]) un hok bare (fun b z=>absurd z (by simp)),r,q⟩
end
noncomputable def VB(sp:Sp)(dvs:List V)(E:XK)(t:TA):TE:=fun σ H Q=>t σ H fun vs H1=>sp (vs++dvs) H1 Q E
noncomputable def Binds(K:PySem.W.Frag)(fd:FuncData)(ps:List Str)(ds:List Value):Prop:=
 ∀(s:Shared)(us:List Value),K.In s.heap->(us++ds).length=ps.length->BindsTo s fd ⟨us,[]⟩ (ps.zip (us++ds))
theorem Binds.all{K:PySem.W.Frag}{fd:FuncData}{ps:List Str}(h:∀us:List Value,us.length=ps.length->bindArgs fd ⟨us,[]⟩=pure (ps.zip us)):Binds K fd ps []:=fun s us _ hl=>by
 rw[uL]at hl ⊢;exact .of_eq (h us hl)
noncomputable def Passes(CX:CXT)(X:Cx)(E:XK):Prop:=∀(pins:List (Addr × Obj))(σ:St)(H:Hp)(s:Shared)(e:Value)(s':Shared),Inv X pins σ H s->CX X.stack H s E e s'->X.xe e s'
section
variable {X:Cx}{CX:CXT}{k:Nat}{f C:Addr}{fd:FuncData}{ps:List Str}{sp:Sp}{dvs:List V}{ds:List Value}{E:XK}{x m:Str}{p pos apos:Pos}{e o:Expr}{es:List Expr}{ta:TE}{t:TA}
theorem Qan{pins:List (Addr × Obj)}{σ:St}{H:Hp}{s:Shared}{Q:VK}{us:List Value}{vs:List V}(F:FnOk X.prog X.w X.K X.mg X.base CX k f fd ps sp)(hr:Room k X.A)(hb:Binds X.K fd ps ds)(hd:Vals dvs ds)(hx:Passes CX X E)
  (I:Inv X pins σ H s) (r:Vals vs us) (h:sp (vs++dvs) H Q E):wpAny (model X.prog X.w) X.A (call (.ref f) us) (EP X pins σ Q) X.xe s:=by
 have r2:Vals (vs++dvs) (us++ds):=r.append hd;have hl:(us++ds).length=ps.length:=by rw[←r2.length];exact F.len _ _ _ _ h
 refine wpAny_call (codeAny_mono (F.run X.A X.stack s H ⟨us,[]⟩ (us++ds) (vs++dvs) Q E hr I.QdQ (hb s us I.kIn hl) r2 h) fun r s' hq=>?_);cases r with
 |error e=>exact hx pins σ H s e s' I hq
 |ok fl=>
  cases fl with
  |ret u=>exact I.after hq
  |next=>exact False.elim hq
  |brk=>exact False.elim hq
  |cont=>exact False.elim hq
theorem Qa2(F:FnOk X.prog X.w X.K X.mg X.base CX k f fd ps sp)(hr:Room k X.A)(hg:Gl X x)(hm:X.mg x=some (.ref f))(hk:keepIn X.K (.ref f)=true)(hb:Binds X.K fd ps ds)(hd:Vals dvs ds)(hx:Passes CX X E)
  (ha:PA X (e::es) t) (hdb:(x==("__debug__":Str))=false:=by decide) (he:starEach (e::es) X.env=(false,eval e X.env)::starEach es X.env:=by rfl) (hpl:(backTo pos (starEach es X.env)).any (·.1)=false:=by rfl):
  PE X (.Call (.Name x p) (e::es) [] pos) (VB sp dvs E t):=by
 intro pins s σ H Q I h;refine wpAny_Call_Name_kw (XW I hg hm ?_ hdb);refine callWith_K (h₀:=X.base) I.ok.mod.kin hk (thn (ha pos pins s σ H _ I h) fun us s1⟨vs,H1,I1,r,q⟩=>⟨I1.kIn,?_⟩) he hpl;exact Qan F hr hb hd hx I1 r q
theorem vG(F:FnOk X.prog X.w X.K X.mg X.base CX k f fd ps sp)(hr:Room k X.A)(hg:Gl X x)(hm:X.mg x=some (.ref f))(hk:keepIn X.K (.ref f)=true)(hb:Binds X.K fd ps ds)(hd:Vals dvs ds)(hx:Passes CX X E)
  (hdb:(x==("__debug__":Str))=false:=by decide):PE X (.Call (.Name x p) [] [] pos) (VB sp dvs E WO):=by
 intro pins s σ H Q I h;refine wpAny_Call_Name_kw (XW I hg hm ?_ hdb);exact callWith_K0 I.kIn hk (Qan (us:=[]) F hr hb hd hx I .nil h)
end
noncomputable def PK(X:Cx)(kws:List Keyword)(t:TA):Prop:=
 ∀(pos:Pos)(pins:List (Addr × Obj))(s:Shared)(σ:St)(H:Hp)(Q:List V->Hp->Prop),Inv X pins σ H s->t σ H Q->wpAny (model X.prog X.w) X.A (evalAll ((backToKw pos (keywordEach kws X.env)).map (·.2))) (AP X pins σ Q) X.xe s
section
variable {X:Cx}{CX:CXT}{k:Nat}{f C:Addr}{fd:FuncData}{ps ks:List Str}{sp:Sp}{E:XK}{x m:Str}{p pos apos kpos:Pos}{e o:Expr}{es:List Expr}{kws:List Keyword}{te ta:TE}{t tk:TA}{nm:Option Str}
theorem Qcq:PK X [] WO:=fun _ _ _ _ H Q I h=>wpAny_evalAll_nil ⟨[],H,I,.nil,h⟩
theorem Qa3(ha:PE X e te)(hr:PK X kws t):PK X (⟨nm,e,kpos⟩::kws) (Ja te t):=by
 intro pos pins s σ H Q I h;show wpAny _ _ (evalAll ((do let v←eval e X.env;standAt pos;pure v)::(backToKw pos (keywordEach kws X.env)).map (·.2))) _ _ s;refine wpAny_evalAll_cons (wpAny_bind (thn (ha pins s σ H _ I h) fun u s1⟨x,H1,I1,r1,q1⟩=>wpAny_bind (wpAny_standAt (wpAny_pure ?_))));exact thn (hr pos pins s1 σ H1 _ I1 q1) fun us s2⟨xs,H2,I2,r2,q2⟩=>⟨x::xs,H2,I2,.cons r1 r2,q2⟩
variable {g:List Value->List Value->List Value}{gV:List V->List V->List V}
end
structure FnScope(N P:List Str)(sc:Scope):Prop where
 kind:sc.kind=.function
 co:sc.isCoroutine=false
 gen:sc.isGenerator=false
 nd:N.Nodup
 pre:N.take P.length=P
 par:∀x∈P,sc.names.lookup x=some .local\/sc.names.lookup x=some .cell
 nofree:∀y∈sc.names,y.2≠ .free
theorem Uh{kindOf:Str->Option NameKind}{x:Str}:∀{binds:List (Str × Value)}{m:Str->Option Value},(∀v,(x,v)∉binds)->bindL kindOf binds m x=m x
 |[],_,_=>rfl
 |(n,v)::r,m,h=>by
  unfold bindL;rw[Uh fun w hw=>h w (uz _ hw)]
  split
  ·have:x≠n:=by rintro rfl;exact h v uA
   simp[this]
  ·rfl
theorem Ui{kindOf:Str->Option NameKind}{x:Str}:∀{binds:List (Str × Value)}{m:Str->Option Value},(∀v,(x,v)∉binds)->bindC kindOf binds m x=m x
 |[],_,_=>rfl
 |(n,v)::r,m,h=>by
  unfold bindC;rw[Ui fun w hw=>h w (uz _ hw)]
  split
  ·rfl
  ·have:x≠n:=by rintro rfl;exact h v uA
   simp[this]
theorem Uj{kindOf:Str->Option NameKind}{x:Str}{v:Value}:∀{P:List Str}{vs:List Value}{i:Nat}{m:Str->Option Value},P.Nodup->P[i]? =some x->vs[i]? =some v->kindOf x=some .local->
  bindL kindOf (P.zip vs) m x=some v
 |[],_,_,_,_,h,_,_=>by simp at h
 |_::_,[],_,_,_,_,h,_=>by simp at h
 |p::P,w::vs,0,m,nd,h1,h2,hk=>by
  simp at h1 h2;subst h1;subst h2;show bindL kindOf ((p,w)::P.zip vs) m p=_;unfold bindL;rw[Uh fun v hv=>(List.nodup_cons.mp nd).1 (List.of_mem_zip hv).1,if_pos hk];simp
 |p::P,w::vs,i+1,m,nd,h1,h2,hk=>by
  show bindL kindOf ((p,w)::P.zip vs) m x=_;unfold bindL;exact Uj (i:=i) (List.nodup_cons.mp nd).2 (by simpa using h1) (by simpa using h2) hk
theorem Uk{kindOf:Str->Option NameKind}{x:Str}{v:Value}:∀{P:List Str}{vs:List Value}{i:Nat}{m:Str->Option Value},P.Nodup->P[i]? =some x->vs[i]? =some v->kindOf x≠some .local->
  bindC kindOf (P.zip vs) m x=some v
 |[],_,_,_,_,h,_,_=>by simp at h
 |_::_,[],_,_,_,_,h,_=>by simp at h
 |p::P,w::vs,0,m,nd,h1,h2,hk=>by
  simp at h1 h2;subst h1;subst h2;show bindC kindOf ((p,w)::P.zip vs) m p=_;unfold bindC;rw[Ui fun v hv=>(List.nodup_cons.mp nd).1 (List.of_mem_zip hv).1,if_neg hk];simp
 |p::P,w::vs,i+1,m,nd,h1,h2,hk=>by
  show bindC kindOf ((p,w)::P.zip vs) m x=_;unfold bindC;exact Uk (i:=i) (List.nodup_cons.mp nd).2 (by simpa using h1) (by simpa using h2) hk
noncomputable def start(N:List Str)(vs:List V):St:=vs.map some++List.replicate (N.length-vs.length) none
noncomputable def Yf(CX:CXT)(P:Program)(w:World)(K:PySem.W.Frag)(mg:Str->Option Value)(base:Heap)(N:List Str)(qual:Str)(scope:Scope)(f:Addr)(cd:Value)(A:Around)(outer:List Env)(s:Shared)(H:Hp)(E:XK):Cx where
 prog:=P
 w:=w
 K:=K
 mg:=mg
 base:=base
 A:=A.deeper (envOfC qual scope s.heap.objs.size f cd)
 N:=N
 s₀:=s
 H₀:=H
 env:=envOfC qual scope s.heap.objs.size f cd
 outer:=outer
 stack:=envOfC qual scope s.heap.objs.size f cd::outer
 ex:=[]
 calm:=true
 fn:=fun _=>true
 pn:=[]
 xe:=fun e s'=>wpAny (model P w) (A.deeper (envOfC qual scope s.heap.objs.size f cd)) (leaving (envOfC qual scope s.heap.objs.size f cd) e) (fun _ s''=>CX outer H s E e s'') (fun e' s''=>CX outer H s E e' s'') s'
theorem Wq{sc:Scope}{n:Nat}{x:Str}(h:sc.names.lookup x=some .cell):∃c,(cellsFrom n sc.names []).lookup x=some c:=by
 have q:=cellsFrom_some sc.names n [] (.inl h);exact Option.isSome_iff_exists.mp q
theorem Ul{CX:CXT}{P:Program}{w:World}{K:PySem.W.Frag}{mg:Str->Option Value}{base:Heap}{N ps:List Str}{qual:Str}{scope:Scope}{f:Addr}{cd:Value}{A:Around}{outer:List Env}{s s1:Shared}{H:Hp}{E:XK}{us:List Value}{vs:List V}
  (S:FnScope N ps scope) (hd:A.handled=none) (e0:Env0 P w K mg base A outer s H) (hl:vs.length=ps.length) (r:Vals vs us)
  (x:InCallC s s.heap.objs.size (bindL (envOfC qual scope s.heap.objs.size f cd).kindOf (ps.zip us) fun _=>none) (cellsFrom (s.heap.objs.size+1) scope.names []) (bindC (envOfC qual scope s.heap.objs.size f cd).kindOf (ps.zip us) fun _=>none) s1):
  Inv (Yf CX P w K mg base N qual scope f cd A outer s H E) [] (start N vs) H s1:=by
 have hpl:ps.length<=N.length:=by have:=congrArg List.length S.pre;rw[uB]at this;omega
 obtain⟨h1,tk,rfl,hk⟩:=x.done;have noA:∀b:Addr,b∉(Yf CX P w K mg base N qual scope f cd A outer s H E).ex:=fun b z=>absurd (show b∈([]:List Addr)from z) (by simp);refine⟨⟨e0.mod,S.kind,rfl,rfl,uq _,fun y z c h1 h2=>?_,fun y hy=>?_,fun y c _ h=>?_,fun _=>hd,Around.frames_deeper e0.frames,.inr ⟨rfl,rfl⟩,fun b z=>absurd z (noA b),e0.bs,e0.bsz,fun b _ _=>noA b,fun b z=>absurd z (noA b),e0.qf,e0.frf⟩,
  rfl,e0.bare,Un.kept hk,⟨_,x.toInCall.ns,fun i y v h1 h2 h3=>?_⟩,fun y c h=>⟨_,x.cell y c h⟩,e0.hok.fresh (uq _),fun y c h=>?_,fun p hp=>absurd (show p∈([]:List (Addr × Obj))from hp) (by simp),e0.hok.kept hk,?_⟩
 ·exact name_of_addr x.apart (PySem.mem_of_lookup h1) (PySem.mem_of_lookup h2)
 ·have hy:scope.names.lookup y=some .cell\/scope.names.lookup y=some .free:=hy;rcases hy with hy|hy
  ·exact Wq hy
  ·exact absurd rfl (S.nofree _ (PySem.mem_of_lookup hy))
 ·exact Nat.le_of_lt (x.above y c (PySem.mem_of_lookup h))
 ·have hi:i<vs.length:=by
   unfold start at h2
   by_cases hi:i<vs.length
   ·exact hi
   ·rw[List.getElem?_append_right (by simpa using hi)]at h2;rw[List.getElem?_replicate]at h2
    split at h2<;>cases h2
  have ha:vs[i]? =some v:=by
   unfold start at h2;rw[List.getElem?_append_left (by simpa using hi),uE]at h2;cases e:vs[i]? with
   |none=>rw[e]at h2;cases h2
   |some a=>rw[e]at h2;cases h2;rfl
  obtain⟨u,hu,rv⟩:=r.get ha;have hp:ps[i]? =some y:=by
   rw[←S.pre,List.getElem?_take_of_lt (by omega)];exact h1
  have ndP:ps.Nodup:=by rw[←S.pre];exact S.nd.sublist (List.take_sublist _ _)
  refine⟨u,rv,?_⟩;rcases S.par y (uF hp)with k|k
  ·exact .inl ⟨k,Uj ndP hp hu k⟩
  ·obtain⟨c,e⟩:=Wq (n:=s.heap.objs.size+1) k;refine .inr ⟨.inl k,c,e,?_⟩;have q:=x.cell y c e;rw[Uk ndP hp hu (by show scope.names.lookup y≠_;rw[k];decide)]at q;exact q
 ·exact e0.hok.fresh (Nat.le_of_lt (x.above y c (PySem.mem_of_lookup h)))
 ·unfold start;show _=N.length;rw[uj,uk,uG];omega
theorem Qcr{CX:CXT}{P:Program}{w:World}{K:PySem.W.Frag}{mg:Str->Option Value}{base:Heap}{k:Nat}{f:Addr}{name qual:Str}{params:Arguments}{body:List Stmt}{scope:Scope}{dV kV doc pm cdv ct oc:Value}{an od:Option Addr}
  {osl:Array (Option Value)} {N ps:List Str} {sp:Sp} (lk:K.lookup f=some ⟨oc,od,.func (fnOf name qual params body scope dV kV doc pm an cdv ct),osl⟩) (hcd:codeIn K cdv qual=true) (S:FnScope N ps scope)
  (len:∀vs H Q E,sp vs H Q E->vs.length=ps.length)
  (hbody:∀(A:Around)(outer:List Env)(s:Shared)(H:Hp)(vs:List V)(Q:VK)(E:XK),Room k (A.deeper (envOfC qual scope s.heap.objs.size f cdv))->sp vs H Q E->
   ∃t,PSs (Yf CX P w K mg base N qual scope f cdv A outer s H E) body t/\t {nx:=fun _ H'=>Q .non H',rt:=Q} (start N vs) H):
  FnOk P w K mg base CX (k+1) f (fnOf name qual params body scope dV kV doc pm an cdv ct) ps sp:=by
 refine⟨len,fun A outer s H args us vs Q E hr e0 hb r hsp=>?_⟩;have hl:=len _ _ _ _ hsp;have KX:K.In s.heap:=e0.mod.kin.keeps fun b o e=>(e0.bs b o e).1;have lim:s.heap.NoLimit:=e0.mod.nolimit.keeps fun b o e=>(e0.bs b o e).1;have hkind:∀y∈ps.zip us,scope.names.lookup y.1=some .local\/(scope.names.lookup y.1=some .cell/\((cellsFrom (s.heap.objs.size+1) scope.names []).lookup y.1).isSome=true):=fun⟨n,v⟩ hy=>by
  rcases S.par n (List.of_mem_zip hy).1 with q|q
  ·exact .inl q
  ·exact .inr ⟨q,cellsFrom_some _ _ _ (.inl q)⟩
 refine codeAny_call_function hr.depth (KX _ _ lk) rfl S.co S.gen rfl (codeRec_of KX hcd) (hb _ _ _ _ ?_);refine wpAny_newFunctionEnv_cells S.kind hkind fun env he s1 x=>?_;subst he;refine⟨lim.keeps x.toInCall.keep,codeAny_func ?_⟩;obtain⟨t,ht,hq⟩:=hbody A outer s H vs Q E (hr.deeper _) hsp;have I:Inv (Yf CX P w K mg base N qual scope f cdv A outer s H E) [] (start N vs) H s1:=Ul S hr.hd e0 hl r x;refine wpAny_mono (ht [] s1 (start N vs) H _ I hq) (fun fl s' hs=>?_) fun e s' hs=>hs;have fin:∀{σ':St}{H':Hp}{v:V}{u:Value},Inv (Yf CX P w K mg base N qual scope f cdv A outer s H E) [] σ' H' s'->RelV v u->Q v H'->CE outer P w H s Q u s':=
  fun{σ' H' v u} J rv q=>⟨v,H',J.os,J.bare,J.base,J.hok,rv,q⟩
 cases fl with
 |ret u=>
  obtain⟨v,σ',H',J,rv,q⟩:=hs;exact fin J rv q
 |next=>
  obtain⟨σ',H',J,q⟩:=hs;exact fin (v:=V.non) (u:=Value.none) J rfl q
 |brk=>
  obtain⟨_,_,_,q⟩:=hs;exact False.elim q
 |cont=>
  obtain⟨_,_,_,q⟩:=hs;exact False.elim q
section
variable {X:Cx}{x:Str}{p pos:Pos}{e:Expr}{es:List Expr}{t:TA}{id T:String}{r:List V->Hp->VK->Prop}
noncomputable def tCB(r:List V->Hp->VK->Prop)(t:TA):TE:=fun σ H Q=>t σ H fun vs H1=>r vs H1 Q
theorem Qj(hc:XG X (.builtin id) r)(hg:Gl X x)(hm:X.mg x=none)(hv:bootBuiltins x=some (.builtin id))(ha:PA X (e::es) t)(hn:x≠"__name__":=by decide)(hdb:(x==("__debug__":Str))=false:=by decide)
  (he:starEach (e::es) X.env=(false,eval e X.env)::starEach es X.env:=by rfl) (hpl:(backTo pos (starEach es X.env)).any (·.1)=false:=by rfl):PE X (.Call (.Name x p) (e::es) [] pos) (tCB r t):=by
 intro pins s σ H Q I h;refine wpAny_Call_Name_kw (WH I hg hm hv ?_ hn hdb);exact PyProof.Rows.callWith_builtin1 (thn (ha pos pins s σ H _ I h) fun us s1⟨vs,H1,I1,r1,q1⟩=>hc pins s1 σ H1 vs us Q I1 r1 q1) he hpl
theorem J4(hc:XG X (.type T) r)(hg:Gl X x)(hm:X.mg x=none)(hv:bootBuiltins x=some (.type T))(ha:PA X (e::es) t)(hn:x≠"__name__":=by decide)(hdb:(x==("__debug__":Str))=false:=by decide)
  (he:starEach (e::es) X.env=(false,eval e X.env)::starEach es X.env:=by rfl) (hpl:(backTo pos (starEach es X.env)).any (·.1)=false:=by rfl):PE X (.Call (.Name x p) (e::es) [] pos) (tCB r t):=by
 intro pins s σ H Q I h;refine wpAny_Call_Name_kw (WH I hg hm hv ?_ hn hdb);exact PyProof.Rows.callWith_type1 (thn (ha pos pins s σ H _ I h) fun us s1⟨vs,H1,I1,r1,q1⟩=>hc pins s1 σ H1 vs us Q I1 r1 q1) he hpl
end
end L2
namespace HT
open PySem PyProof.Rows
section
open PySem.SeqAt
open PySem.AutoSeq1 (wpAny_loadPart')
open PySem.MeetsSeq PySem.MeetsSeq2 PySem.MeetsSeq3
end
section
variable {prog:Program}{w:World}{A:Around}{E:Value->Shared->Prop}{s:Shared}
theorem Qa4{t b:Addr}{vs ws:List Value}{Q:Value->Shared->Prop}(ht:IsTup s.heap t vs.toArray)(hb:IsTup s.heap b ws.toArray)(hv:vs≠[])
  (h1:ws=[]->Q (.ref t) s) (h2:ws≠[]->Q (.ref s.heap.objs.size) {s with heap:=s.heap.push {cls:=.type "tuple",data:=.seq (vs++ws).toArray}})
  (hsz:vs.length+ws.length<=sizeLine):wpAny (model prog w) A (binaryOp .Add (.ref t) (.ref b)) Q E s:=by
 obtain⟨⟨cls,dd,data,sl⟩,ho,hc,n,hd⟩:=id ht;obtain⟨⟨cls2,dd2,data2,sl2⟩,ho2,hc2,n2,hd2⟩:=id hb;simp only at hc hd hc2 hd2;subst hc hd hc2 hd2;have e:vs.toArray++ws.toArray=(vs++ws).toArray:=by simp
 by_cases hw:ws=[]
 ·exact concat_meets ⟨_,ho,rfl⟩ ⟨_,ho2,rfl⟩ noFill_tuple_add seq_tuple_add slot_tuple_add entry_tuple_add (args_tuple_add_2 _ _)
   (tuple_addW1 t b vs.toArray ws.toArray n n2 dd dd2 sl sl2 (by simpa using hv) (by simp[hw])) ⟨ho,ho2,h1 hw⟩
 ·refine concat_meets ⟨_,ho,rfl⟩ ⟨_,ho2,rfl⟩ noFill_tuple_add seq_tuple_add slot_tuple_add entry_tuple_add (args_tuple_add_2 _ _)
   (tuple_addW2 t b vs.toArray ws.toArray n n2 dd dd2 sl sl2 (by simpa using hv) (by simpa using hw) (by rw[uP,uP];exact hsz)) ⟨ho,ho2,?_⟩
  rw[e];exact h2 hw
noncomputable def sIx(n d:Nat):Option Int->Nat
 |none=>d
 |some v=>if v<0 then(v+(n:Int)).toNat else min v.toNat n
theorem Yg(n d:Nat):sIx n d none=d:=rfl
theorem ql(n d k:Nat):sIx n d (some (k:Int))=min k n:=by
 show(if(k:Int)<0 then((k:Int)+(n:Int)).toNat else min (k:Int).toNat n)=min k n;rw[if_neg (by omega),uS]
theorem Qcs(n d:Nat)(hd:d<=n)(o:Option Int):sIx n d o<=n:=by
 cases o with
 |none=>exact hd
 |some v=>
  show(if v<0 then(v+(n:Int)).toNat else min v.toNat n)<=n
  by_cases hv:v<0
  ·rw[if_pos hv];omega
  ·rw[if_neg hv];exact Nat.min_le_right _ _
theorem xL(v:Int)(n d:Nat):(if v<0 then max (v+(n:Int)) 0 else min v (n:Int))=((sIx n d (some v):Nat):Int):=by
 show(if v<0 then max (v+(n:Int)) 0 else min v (n:Int))=(((if v<0 then(v+(n:Int)).toNat else min v.toNat n):Nat):Int)
 by_cases hv:v<0
 ·simp only[if_pos hv];omega
 ·simp only[if_neg hv];omega
theorem zF(lo hi:Option Int)(n:Nat):Builtin.Slice.sliceAdjust lo hi 1 (n:Int)=(((sIx n 0 lo:Nat):Int),((sIx n n hi:Nat):Int)):=by
 have h1:¬ ((1:Int)<0):=by omega
 unfold Builtin.Slice.sliceAdjust;simp only[h1,if_false];refine Prod.ext ?_ ?_
 ·cases lo with
  |none=>rfl
  |some v=>exact xL v n 0
 ·cases hi with
  |none=>rfl
  |some v=>exact xL v n n
theorem zG(i j:Nat):Builtin.Slice.slicePlaces (i:Int) (j:Int) 1=j-i:=by
 unfold Builtin.Slice.slicePlaces;have h1:(1:Int)>0:=by omega
 simp only[h1,if_true,Int.ediv_one]
 split<;>omega
theorem VS{v:Value}{o:Option Int}{Q:Option Int->Shared->Prop}(p:IsPart v o)(h:Q o s):wpAny (model prog w) A (Builtin.Slice.slicePartIndex v) Q E s:=by
 cases p with
 |none=>exact slicePart_none h
 |int i t=>exact slicePart_int h
theorem Z6{sl:Addr}{vl vu:Value}{lo hi:Option Int}{n:Nat}{Q:Int × Int × Nat->Shared->Prop}(hs:s.heap.IsSliceOf sl vl vu .none)(pl:IsPart vl lo)(pu:IsPart vu hi)
  (h:Q (((sIx n 0 lo:Nat):Int),1,sIx n n hi-sIx n 0 lo) s):wpAny (model prog w) A (Builtin.Slice.sliceApplied (.ref sl) (pure (n:Int))) Q E s:=by
 obtain⟨os,hos,hcs,hds⟩:=id hs;unfold Builtin.Slice.sliceApplied Builtin.Slice.sliceFields;refine wpAny_bind (wpAny_bind (wpAny_field hos hds (x:=vl) rfl (wpAny_bind (wpAny_field hos hds (x:=vu) rfl (wpAny_bind (wpAny_field hos hds (x:=.none) rfl (wpAny_pure ?_)))))));refine wpAny_bind (slicePart_none ?_);show wpAny _ _ (if((1:Int)==0)=true then _ else _) _ _ s;rw[if_neg (by decide)];refine wpAny_bind (VS pl (wpAny_bind (VS pu (wpAny_bind (wpAny_pure ?_)))));show wpAny _ _ (match Builtin.Slice.sliceAdjust lo hi 1 (n:Int)with|(lo,hi)=>pure (lo,(1:Int),Builtin.Slice.slicePlaces lo hi 1)) _ _ s;rw[zF lo hi n];show wpAny _ _ (pure (((sIx n 0 lo:Nat):Int),(1:Int),Builtin.Slice.slicePlaces ((sIx n 0 lo:Nat):Int) ((sIx n n hi:Nat):Int) 1)) _ _ s;rw[zG];exact wpAny_pure h
theorem vH(xs:Array Value)(i k:Nat):((List.range k).filterMap fun(m:Nat)=>xs[((i:Int)+(m:Int)*1).toNat]?).toArray=((xs.toList.drop i).take k).toArray:=by
 have e:(fun(m:Nat)=>xs[((i:Int)+(m:Int)*1).toNat]?)=fun m=>xs[i+m]? :=by
  funext m
  have:((i:Int)+(m:Int)*1).toNat=i+m:=by omega
  rw[this]
 rw[e];have:=pick_run xs i k;rw[List.filterMap_map]at this;have e2:((fun x=>xs[x]?)∘fun x=>i+x)=fun m=>xs[i+m]? :=rfl;rw[e2]at this;rw[this]
theorem KN{t sl:Addr}{items:Array Value}{vl vu:Value}{lo hi:Option Int}{Q:Value->Shared->Prop}(ht:IsTup s.heap t items)(hs:s.heap.IsSliceOf sl vl vu .none)(pl:IsPart vl lo)(pu:IsPart vu hi)
  (hw:¬ (sIx items.size 0 lo=0/\sIx items.size items.size hi=items.size))
  (h:Q (.ref s.heap.objs.size) {s with heap:=s.heap.push {cls:=.type "tuple",data:=.seq ((items.toList.drop (sIx items.size 0 lo)).take (sIx items.size items.size hi-sIx items.size 0 lo)).toArray}})
  (hsz:items.size<=sizeLine):wpAny (model prog w) A (getItem (.ref t) (.ref sl)) Q E s:=by
 have htake:sizeOk (.seq ((items.toList.drop (sIx items.size 0 lo)).take (sIx items.size items.size hi-sIx items.size 0 lo)).toArray):=by
  show((items.toList.drop (sIx items.size 0 lo)).take (sIx items.size items.size hi-sIx items.size 0 lo)).toArray.size<=sizeLine;rw[uP,uB,uC,uO];omega
 have hj:sIx items.size items.size hi<=items.size:=Qcs _ _ (uq _) hi;obtain⟨os,hos,hcs,hds⟩:=id hs;have hTs:s.TypeIs (.ref sl) "slice":=⟨os,hos,hcs⟩;unfold getItem
 try with_reducible refine wpAny_holding ?_
 first|refine wpAny_bind (wpAny_pure ?_)|skip
 refine wpAny_bind (wpAny_sequenceKey ht.typeIs (by decide) ?_);refine wpAny_bind (wpAny_callSpecial?_slot (name:=Str.ofString "__getitem__") ht.typeIs PyProof.Rows.slot_tuple_getitem
  (wpAny_call_entry PyProof.Rows.slot_tuple_getitem ht.typeIs entry_tuple_getitem ?_ (args_tuple_getitem _ _)))
 show wpAny _ _ (Builtin.Tuple.tupleItemsOf (.ref t)>>=_) _ _ s;refine wpAny_bind (tupleItemsOf_ ht ?_);refine wpAny_bind (wpAny_typeOf hTs ?_);rw[if_pos (by decide)];refine wpAny_bind (Z6 hs pl pu ?_);have hno:¬ ((((sIx items.size 0 lo:Nat):Int)==0&&(1:Int)==1&&(sIx items.size items.size hi-sIx items.size 0 lo)==items.size)=true):=by
  intro q;rw[Bool.and_eq_true,Bool.and_eq_true]at q;have q1:((sIx items.size 0 lo:Nat):Int)=0:=eq_of_beq q.1.1;have q2:sIx items.size items.size hi-sIx items.size 0 lo=items.size:=eq_of_beq q.2;exact hw ⟨by omega,by omega⟩
 show wpAny _ _ (if(((sIx items.size 0 lo:Nat):Int)==0&&(1:Int)==1&&(sIx items.size items.size hi-sIx items.size 0 lo)==items.size)=true then _ else _) _ _ s;rw[if_neg hno,vH]
 first
  |exact wpAny_bind (m:=Builtin.Tuple.tupleExact _) (wpAny_newObj_type (wpAny_pure ⟨_,rfl,wpAny_pure h⟩) htake)
  |exact wpAny_bind (m:=Builtin.Tuple.tupleExact _) (wpAny_newObj_type (wpAny_bind (wpAny_pure (wpAny_pure ⟨_,rfl,wpAny_pure h⟩))) htake)
  |exact wpAny_bind (wpAny_bind (m:=Builtin.Tuple.tupleExact _) (wpAny_newObj_type (wpAny_pure (wpAny_pure ⟨_,rfl,wpAny_pure h⟩)) htake))
  |exact wpAny_bind (wpAny_bind (m:=Builtin.Tuple.tupleExact _) (wpAny_newObj_type (wpAny_pure ⟨_,rfl,wpAny_pure h⟩) htake))
end
end HT
namespace L2
open PySem PySem.Spec PyProof.Rows
noncomputable abbrev TO:=St->Hp->(Option Int->Hp->Prop)->Prop
noncomputable def PO(X:Cx)(e:Option Expr)(t:TO):Prop:=
 ∀(pins:List (Addr × Obj))(s:Shared)(σ:St)(H:Hp)(Q:Option Int->Hp->Prop),Inv X pins σ H s->t σ H Q->
  wpAny (model X.prog X.w) X.A (evalPart e X.env) (fun u s'=>∃o H',Inv X pins σ H' s'/\IsPart u o/\Q o H') X.xe s
noncomputable def qm:TO:=fun _ H Q=>Q none H
noncomputable def Qa5(t:TE):TO:=fun σ H Q=>t σ H fun x H1=>∃i,x=.int i/\Q (some i) H1
section
variable {X:Cx}{e:Expr}{te:TE}{lo hi:Option Expr}{tl th:TO}{pos p2:Pos}
theorem Jl:PO X none qm:=by
 intro pins s σ H Q I h;rw[evalPart_none];exact wpAny_pure ⟨none,H,I,.none,h⟩
theorem QX(h:PE X e te):PO X (some e) (Qa5 te):=by
 intro pins s σ H Q I hw;rw[evalPart_some];refine thn (h pins s σ H _ I hw) fun u s1⟨x,H1,I1,r1,q1⟩=>?_;obtain⟨i,rfl,q⟩:=q1;obtain⟨t,rfl⟩:=r1;exact⟨some i,H1,I1,.int i t,q⟩
noncomputable def SlR(X:Cx)(r:V->Option Int->Option Int->Hp->VK->Prop):Prop:=
 ∀(pins:List (Addr × Obj))(s:Shared)(σ:St)(H:Hp)(x:V)(v vl vu:Value)(lo hi:Option Int)(sl:Addr)(Q:VK),Inv X pins σ H s->RelV x v->s.heap.IsSliceOf sl vl vu .none->IsPart vl lo->IsPart vu hi->r x lo hi H Q->
  ∃T id,typeLookup (.type T) "__getitem__"=pure (some (.builtin id))/\s.TypeIs v T/\wpAny (model X.prog X.w) X.A (getItem v (.ref sl)) (EP X pins σ Q) X.xe s
noncomputable def tSl(r:V->Option Int->Option Int->Hp->VK->Prop)(te:TE)(tl th:TO):TE:=fun σ H Q=>te σ H fun x H1=>tl σ H1 fun l H2=>th σ H2 fun u H3=>r x l u H3 Q
theorem QS{r:V->Option Int->Option Int->Hp->VK->Prop}(hr:SlR X r)(he:PE X e te)(hl:PO X lo tl)(hu:PO X hi th):PE X (.Subscript e (.Slice lo hi none p2) pos) (tSl r te tl th):=by
 intro pins s σ H Q I h;refine Subscript_ (thn (he pins s σ H _ I h) fun v s1⟨x,H1,I1,r1,q1⟩=>?_);refine wpAny_Slice (thn (hl pins s1 σ H1 _ I1 q1) fun vl s2⟨l,H2,I2,pl,q2⟩=>thn (hu pins s2 σ H2 _ I2 q2) fun vu s3⟨u,H3,I3,pu,q3⟩=>?_);rw[evalPart_none];refine wpAny_pure ?_;have I4:Inv X pins σ H3 {s3 with heap:=s3.heap.push {cls:=.type "slice",data:=.fields #[vl,vu,.none]}}:=I3.kept (t':=s3.toks) fun b ob q=>Heap.get?_push_of_some _ q;obtain⟨T,id,hT,ht,hg⟩:=hr pins {s3 with heap:=s3.heap.push {cls:=.type "slice",data:=.fields #[vl,vu,.none]}} σ H3 x v vl vu l u s3.heap.objs.size Q I4 r1 (Heap.IsSliceOf.new ..) pl pu q3;show wpAny (model X.prog X.w) X.A (subscriptTail e (.Slice lo hi none p2) v (.ref s3.heap.objs.size)) (EP X pins σ Q) X.xe {s3 with heap:=s3.heap.push {cls:=.type "slice",data:=.fields #[vl,vu,.none]}};exact tail_any (ops:=[.ref s3.heap.objs.size,v]) ht hT hg (by with_unfolding_all rfl)
noncomputable def Vz(xs:List V)(lo hi:Option Int):List V:=(xs.drop (HT.sIx xs.length 0 lo)).take (HT.sIx xs.length xs.length hi-HT.sIx xs.length 0 lo)
theorem WP(xs:List V)(lo hi:Option Int):(Vz xs lo hi).length<=xs.length:=by
 unfold Vz;rw[uB,uC];omega
noncomputable def Qe2(K:PySem.W.Frag):V->Option Int->Option Int->Hp->VK->Prop:=fun x lo hi H Q=>∃a xs,x=.ref a/\SqT K H a xs/\
 ¬ (HT.sIx xs.length 0 lo=0/\HT.sIx xs.length xs.length hi=xs.length)/\∀p,H p=none->Q (.ref p) (upd H p (.tup (Vz xs lo hi)))
theorem Qct:SlR X (Qe2 X.K):=by
 intro pins s σ H x v vl vu lo hi sl Q I rx hs pl pu h;obtain⟨a,xs,rfl,hx,hw,q⟩:=h;cases rx;obtain⟨its,r,ht,hz⟩:=I.tuple hx;have hlen:its.toArray.size=xs.length:=by rw[uP];exact r.length.symm
 refine⟨"tuple",_,PyProof.Rows.slot_tuple_getitem.lookup,ht.typeIs,?_⟩;refine HT.KN ht hs pl pu (by rw[hlen];exact hw) ?_ (by rw[hlen];exact hz);rw[hlen];refine⟨.ref s.heap.objs.size,_,I.laid (t':=s.toks) (o:=.tup (Vz xs lo hi)) (fun b ob q=>Heap.get?_push_of_some _ q) (uq _) ?_,rfl,q _ (I.hok.fresh (uq _))⟩;exact⟨Nat.le_trans (WP xs lo hi) hz,_,(r.drop (HT.sIx xs.length 0 lo)).take (HT.sIx xs.length xs.length hi-HT.sIx xs.length 0 lo),Wf.new _ _⟩
noncomputable def QdR(K:PySem.W.Frag):R2:=fun x y H Q=>∃a b xs ys,x=.ref a/\y=.ref b/\SqT K H a xs/\SqT K H b ys/\xs≠[]/\xs.length+ys.length<=sizeLine/\
 (ys=[]->Q (.ref a) H)/\(ys≠[]->∀p,H p=none->Q (.ref p) (upd H p (.tup (xs++ys))))
theorem Vals.Yh{xs:List V}{us:List Value}(r:Vals xs us):us=[]↔xs=[]:=by
 cases r with
 |nil=>simp
 |cons _ _=>simp
theorem Qa6:OpR X (binaryOp .Add) (QdR X.K):=by
 intro pins s σ H x y v u Q I rx ry h;obtain⟨a,b,xs,ys,rfl,rfl,ha,hb,hx,hz,q1,q2⟩:=h;cases rx;cases ry;obtain⟨its,r1,p1,_⟩:=I.tuple ha;obtain⟨its2,r2,p2,_⟩:=I.tuple hb;refine HT.Qa4 p1 p2 (fun z=>hx (r1.Yh.mp z)) (fun z=>⟨.ref a,H,I,rfl,q1 (r2.Yh.mp z)⟩) (fun z=>?_) (by rw[←r1.length, ←r2.length];exact hz);refine⟨.ref s.heap.objs.size,_,I.laid (t':=s.toks) (o:=.tup (xs++ys)) (fun b ob q=>Heap.get?_push_of_some _ q) (uq _) ?_,rfl,q2 (fun w=>z (r2.Yh.mpr w)) _ (I.hok.fresh (uq _))⟩;exact⟨by rw[uj];exact hz,_,r1.append r2,Wf.new _ _⟩
end
noncomputable def ixN(n:Nat)(i:Int):Option Nat:=if 0<=i then(if i<n then some i.toNat else none)else if-(n:Int)<=i then some (i+n).toNat else none
noncomputable def atI{α:Type}(xs:List α)(i:Int):Option α:=(ixN xs.length i).bind fun j=>xs[j]?
theorem xM{n:Nat}{i:Int}{j:Nat}(h:ixN n i=some j):seqIndex? i n=some j/\j<n/\ -(n:Int)<=i/\i<n:=by
 unfold ixN at h
 by_cases h0:0<=i
 ·rw[if_pos h0]at h
  by_cases h1:i<n
  ·rw[if_pos h1]at h;have e:i.toNat=j:=ur h;exact⟨by rw[seqIndex_of h0 h1,e],by omega,by omega,h1⟩
  ·rw[if_neg h1]at h;cases h
 ·rw[if_neg h0]at h
  by_cases h1: -(n:Int)<=i
  ·rw[if_pos h1]at h;have e:(i+n).toNat=j:=ur h;exact⟨by rw[seqIndex_neg (by omega) h1,e],by omega,h1,by omega⟩
  ·rw[if_neg h1]at h;cases h
theorem qo{α:Type}{xs:List α}{i:Int}{v:α}(h:atI xs i=some v):∃j,seqIndex? i xs.length=some j/\xs[j]? =some v/\j<xs.length/\ -(xs.length:Int)<=i/\i<xs.length:=by
 unfold atI at h;cases e:ixN xs.length i with
 |none=>rw[e]at h;cases h
 |some j=>
  rw[e]at h;obtain⟨h1,h2,h3,h4⟩:=xM e;exact⟨j,h1,h,h2,h3,h4⟩
theorem QK{α:Type}{xs:List α}{j:Nat}{v:α}(h:xs[j]? =some v):atI xs (j:Int)=some v:=by
 have hj:j<xs.length:=(List.getElem?_eq_some_iff.mp h).1;have e:ixN xs.length (j:Int)=some j:=by
  unfold ixN;rw[if_pos (by omega),if_pos (by omega)];simp
 unfold atI;rw[e];exact h
theorem Ke{α:Type}(xs:List α)(v:α):atI (xs++[v]) (-1)=some v:=by
 have hl:(xs++[v]).length=xs.length+1:=by simp
 have e:ixN (xs++[v]).length (-1)=some xs.length:=by
  unfold ixN;rw[hl,if_neg (by decide),if_pos (by omega)]
  congr 1
  omega
 unfold atI;rw[e];show(xs++[v])[xs.length]? =some v;simp
noncomputable def xN(b:Expr):Prop:=∀o i,subscripted b false o i=operate [o,i] (getItem o i)
noncomputable def IxR(X:Cx)(r:R2):Prop:=
 ∀(value slice:Expr)(pins:List (Addr × Obj))(s:Shared)(σ:St)(H:Hp)(x y:V)(v u:Value)(Q:VK),Inv X pins σ H s->RelV x v->RelV y u->r x y H Q->
  subscripted slice false v u=operate [v,u] (getItem v u)->wpAny (model X.prog X.w) X.A (subscriptTail value slice v u) (EP X pins σ Q) X.xe s
noncomputable def MtR(X:Cx)(id:String)(r:V->List V->Hp->VK->Prop):Prop:=
 ∀(pins:List (Addr × Obj))(s:Shared)(σ:St)(H:Hp)(x:V)(xs:List V)(v:Value)(us:List Value)(Q:VK),Inv X pins σ H s->RelV x v->Vals xs us->r x xs H Q->
  wpAny (model X.prog X.w) X.A (call (.builtin id) (v::us)) (EP X pins σ Q) X.xe s
section
variable {X:Cx}{a b:Expr}{ta tb:TE}{pos:Pos}
theorem Qw{r:R2}(hr:IxR X r)(ha:PE X a ta)(hb:PE X b tb)(hs:xN b):PE X (.Subscript a b pos) (tOp r ta tb):=by
 intro pins s σ H Q I h;exact Subscript_ (QdN ha hb I h fun v u s2 x y H2 I2 rx ry q=>hr a b pins s2 σ H2 x y v u Q I2 rx ry q (hs _ _))
noncomputable def Qdx(K:PySem.W.Frag):R2:=fun x y H Q=>∃p xs i v,x=.ref p/\y=.int i/\SqL K H p xs/\atI xs i=some v/\Q v H
noncomputable def QdS(K:PySem.W.Frag):R2:=fun x y H Q=>∃p xs i v,x=.ref p/\y=.int i/\SqT K H p xs/\atI xs i=some v/\Q v H
noncomputable def Qe3:R2:=fun x y H Q=>∃z i c,x=.str z/\y=.int i/\z.length<=sizeLine/\atI z.cps.toList i=some c/\Q (.str ⟨#[c]⟩) H
theorem Q0:IxR X (Qdx X.K):=by
 intro value slice pins s σ H x y v u Q I rx ry h hs;obtain⟨p,xs,i,z,rfl,rfl,hq,he,q⟩:=h;cases rx;obtain⟨t,rfl⟩:=ry;obtain⟨its,r,pl,hz⟩:=I.list hq;obtain⟨j,h1,h2,h3,h4,h5⟩:=qo he;obtain⟨w,ew,rw'⟩:=r.get h2;have hl:=r.length;have hn:=Xd;have fin:EP X pins σ Q w s:=⟨z,H,I,rw',q⟩
 by_cases h0:0<=i
 ·have hj:i.toNat=j:=by
   rw[seqIndex_of h0 h5]at h1;exact ur h1
  exact item_listR pl.isList h0 (by omega) (by rw[hj];simpa using ew) fin hs
 ·have hj:(i+(its.toArray.size:Int)).toNat=j:=by
   rw[seqIndex_neg (by omega) h4]at h1;rw[uP, ←hl];exact ur h1
  exact subscriptTail_builtinR (x:=w) pl.isList.typeIs slot_list_getitem.lookup
   (wpAny_getItem_list_neg (Q:=fun r s'=>r=w/\EP X pins σ Q r s') pl.isList (by omega) (by rw[uP]<;>omega) (by omega) (by rw[hj];simpa using ew) ⟨rfl,fin⟩) hs
theorem Zr:IxR X (QdS X.K):=by
 intro value slice pins s σ H x y v u Q I rx ry h hs;obtain⟨p,xs,i,z,rfl,rfl,hq,he,q⟩:=h;cases rx;obtain⟨t,rfl⟩:=ry;obtain⟨its,r,pl,hz⟩:=I.tuple hq;obtain⟨j,h1,h2,h3,h4,h5⟩:=qo he;obtain⟨w,ew,rw'⟩:=r.get h2;have hl:=r.length;have hn:=Xd;have fin:EP X pins σ Q w s:=⟨z,H,I,rw',q⟩;exact subscriptTail_builtinR (x:=w) pl.typeIs slot_tuple_getitem.lookup
  (getItem_tuple (j:=j) (Q:=fun r s'=>r=w/\EP X pins σ Q r s') pl (by omega) (by omega) (by rw[uP, ←hl];exact h1) (by simpa using ew) ⟨rfl,fin⟩) hs
theorem xO:IxR X Qe3:=by
 intro value slice pins s σ H x y v u Q I rx ry h hs;obtain⟨z,i,c,rfl,rfl,hz,he,q⟩:=h;obtain⟨t,rfl⟩:=rx;obtain⟨t',rfl⟩:=ry;obtain⟨j,h1,h2,h3,h4,h5⟩:=qo he;have hl:z.cps.toList.length=z.length:=by simp[Str.length]
 rw[hl]at h1 h4 h5;have hn:=Xd;exact tail_any (typeIs_str s z t) slot_str_getitem.lookup (getItem_str (c:=c) (by
  have e1:decide (i< -(2^63:Int))=false:=um (by omega);have e2:decide (i≥2^63)=false:=um (by omega);rw[e1,e2,Bool.or_false]) (by rw[h1];simpa using h2) ⟨.str ⟨#[c]⟩,H,I.tok _,⟨_,rfl⟩,q⟩) hs
theorem zH(its:List Value)(n j:Nat)(u:Value):Obj.mapSeq (·.setIfInBounds j u) {cls:=.type "list",data:=.seq its.toArray n}={cls:=.type "list",data:=.seq (its.set j u).toArray n}:=by
 simp[Obj.mapSeq]
theorem Inv.lst{pins:List (Addr × Obj)}{σ:St}{H:Hp}{s:Shared}{p:Addr}{xs:List V}(I:Inv X pins σ H s)(h:H p=some (.lst xs)):
  ∃(its:List Value)(n:Nat),Vals xs its/\s.heap.get? p=some {cls:=.type "list",data:=.seq its.toArray n}/\xs.length<=sizeLine:=by
 obtain⟨z,its,n,r,e⟩:=I.hok p _ h;exact⟨its,n,r,e,z⟩
theorem Inv.Qcu{pins:List (Addr × Obj)}{σ:St}{H:Hp}{s:Shared}{p:Addr}{xs ys:List V}{its its':List Value}{n n':Nat}{f:Obj->Obj}(I:Inv X pins σ H s)(h:H p=some (.lst xs))
  (ho:s.heap.get? p=some {cls:=.type "list",data:=.seq its.toArray n}) (hf:f {cls:=.type "list",data:=.seq its.toArray n}={cls:=.type "list",data:=.seq its'.toArray n'}) (r:Vals ys its') (hz:ys.length<=sizeLine) (t:Nat):
  Inv X pins σ (upd H p (.lst ys)) {s with heap:=s.heap.update p f,toks:=t}:=by
 have e:(s.heap.update p f).get? p=some {cls:=.type "list",data:=.seq its'.toArray n'}:=by
  rw[Heap.get?_update_self f ho (by rw[hf]<;>rfl),hf]
 refine I.write (x:=p) (e:=p) (by rw[h];trivial) (.inl rfl) (fun b u hb q=>(Heap.get?_update_other _ _ (Ne.symm hb)).trans q) ⟨_,e⟩ ?_;exact⟨hz,its',n',r,e⟩
noncomputable def QdT:V->V->V->Hp->(Hp->Prop)->Prop:=fun o i v H Q=>∃p xs k j,o=.ref p/\i=.int k/\H p=some (.lst xs)/\ixN xs.length k=some j/\Q (upd H p (.lst (xs.set j v)))
theorem set_list:QeC X QdT:=by
 intro pins s σ H o i v ov iv u Q I ro ri rv h;obtain⟨p,xs,k,j,rfl,rfl,hp,hj,q⟩:=h;cases ro;obtain⟨t,rfl⟩:=ri;obtain⟨its,n,r,ho,hz⟩:=I.lst hp;obtain⟨h1,h2,h3,h4⟩:=xM hj;have hl:=r.length;have hn:=Xd;have I':Inv X pins σ (upd H p (.lst (xs.set j v))) {s with heap:=s.heap.update p (Obj.mapSeq (·.setIfInBounds j u))}:=
  I.Qcu hp ho (zH its n j u) (r.set rv j) (by rw[List.length_set];exact hz) s.toks
 by_cases h0:0<=k
 ·have hk:k.toNat=j:=by
   rw[seqIndex_of h0 h4]at h1;exact ur h1
  exact ki_setAt ho h0 (by omega) (by rw[uP, ←hl];exact h4) (by rw[hk];exact⟨_,I',q⟩)
 ·have hk:(k+(its.toArray.size:Int)).toNat=j:=by
   rw[seqIndex_neg (by omega) h3]at h1;rw[uP, ←hl];exact ur h1
  exact ki_setBack ho (by omega) (by rw[uP, ←hl];exact h3) (by omega) (by rw[hk];exact⟨_,I',q⟩)
theorem Um(lo hi:Option Int)(n:Nat):(sliceBounds lo hi none n).1=((HT.sIx n 0 lo:Nat):Int)/\(sliceBounds lo hi none n).2.1=((HT.sIx n n hi:Nat):Int)/\(sliceBounds lo hi none n).2.2=1:=by
 refine⟨?_,?_,rfl⟩
 ·cases lo with
  |none=>simp[sliceBounds,HT.sIx]
  |some i=>
   simp only[sliceBounds,HT.sIx,Option.getD_none,show(1:Int)>0 by decide,if_true]
   by_cases h:i<0
   ·simp only[h,if_true]<;>omega
   ·simp only[h,if_false]<;>omega
 ·cases hi with
  |none=>simp[sliceBounds,HT.sIx]
  |some i=>
   simp only[sliceBounds,HT.sIx,Option.getD_none,show(1:Int)>0 by decide,if_true]
   by_cases h:i<0
   ·simp only[h,if_true]<;>omega
   ·simp only[h,if_false]<;>omega
theorem Yi(its:List Value)(lo hi:Option Int):slicePick its.toArray lo hi none=((its.drop (HT.sIx its.length 0 lo)).take (HT.sIx its.length its.length hi-HT.sIx its.length 0 lo)).toArray:=by
 obtain⟨h1,h2,h3⟩:=Um lo hi its.toArray.size;unfold slicePick;rw[h1,h2,h3];simp only[sliceRange_one,pick_run,uP]<;>rfl
noncomputable def QdU(K:PySem.W.Frag):V->Option Int->Option Int->Hp->VK->Prop:=fun x lo hi H Q=>∃a xs,x=.ref a/\SqL K H a xs/\∀p,H p=none->Q (.ref p) (upd H p (.lst (Vz xs lo hi)))
theorem ZT:SlR X (QdU X.K):=by
 intro pins s σ H x v vl vu lo hi sl Q I rx hs pl pu h;obtain⟨a,xs,rfl,hx,q⟩:=h;cases rx;obtain⟨its,r,ht,hz⟩:=I.list hx;have hlen:=r.length;refine⟨"list",_,slot_list_getitem.lookup,ht.isList.typeIs,?_⟩;refine wpAny_getItem_list_slice ht.isList hs pl pu .none (by simp) ?_ (by rw[uP]<;>omega);rw[Yi, ←hlen];refine⟨.ref s.heap.objs.size,_,I.laid (t':=s.toks) (o:=.lst (Vz xs lo hi)) (fun b ob q=>Heap.get?_push_of_some _ q) (uq _) ?_,rfl,q _ (I.hok.fresh (uq _))⟩;exact⟨Nat.le_trans (WP xs lo hi) hz,_,0,(r.drop (HT.sIx xs.length 0 lo)).take (HT.sIx xs.length xs.length hi-HT.sIx xs.length 0 lo),Heap.get?_push_size _ rfl⟩
noncomputable def Z9:V->Bool
 | .non=>true
 | .bl _=>true
 | .int _=>true
 | .str _=>true
 |_=>false
noncomputable def eqV:V->V->Bool
 | .non,.non=>true
 | .bl a,.bl b=>a==b
 | .bl a,.int b=>(if a then 1 else 0)==b
 | .int a,.bl b=>a==(if b then 1 else 0)
 | .int a,.int b=>a==b
 | .str a,.str b=>a==b
 |_,_=>false
theorem Qao{A:Around}{s:Shared}{y x:V}{u v:Value}(ry:RelV y u)(rx:RelV x v)(fy:Z9 y=true)(fx:Z9 x=true):SeqAt.EqAt A s u v (eqV y x):=by
 cases y with
 |non=>
  cases ry;cases x with
  |non=>cases rx;exact SeqAt.EqAt.same _
  |bl b=>cases rx;exact SeqAt.EqAt.none_bool b
  |int b=>obtain⟨t,rfl⟩:=rx;exact SeqAt.EqAt.none_int b t
  |str b=>obtain⟨t,rfl⟩:=rx;exact SeqAt.EqAt.none_str b t
  |_=>exact absurd (show false=true from fx) Bool.false_ne_true
 |bl a=>
  cases ry;cases x with
  |non=>cases rx;exact SeqAt.EqAt.bool_none a
  |bl b=>cases rx;exact SeqAt.EqAt.bool_bool a b
  |int b=>obtain⟨t,rfl⟩:=rx;exact SeqAt.EqAt.bool_int a b t
  |str b=>obtain⟨t,rfl⟩:=rx;exact SeqAt.EqAt.bool_str a b t
  |_=>exact absurd (show false=true from fx) Bool.false_ne_true
 |int a=>
  obtain⟨t',rfl⟩:=ry;cases x with
  |non=>cases rx;exact SeqAt.EqAt.int_none a t'
  |bl b=>cases rx;exact SeqAt.EqAt.int_bool a t' b
  |int b=>obtain⟨t,rfl⟩:=rx;exact SeqAt.EqAt.int_int a t' b t
  |str b=>obtain⟨t,rfl⟩:=rx;exact SeqAt.EqAt.int_str a t' b t
  |_=>exact absurd (show false=true from fx) Bool.false_ne_true
 |str a=>
  obtain⟨t',rfl⟩:=ry;cases x with
  |non=>cases rx;exact SeqAt.EqAt.str_none a t'
  |bl b=>cases rx;exact SeqAt.EqAt.str_bool a t' b
  |int b=>obtain⟨t,rfl⟩:=rx;exact SeqAt.EqAt.str_int a t' b t
  |str b=>obtain⟨t,rfl⟩:=rx;exact SeqAt.EqAt.str_str a t' b t
  |_=>exact absurd (show false=true from fx) Bool.false_ne_true
 |_=>exact absurd (show false=true from fy) Bool.false_ne_true
noncomputable def eqU(x:V)(u:Value):Bool:=match u with
 | .none=>eqV .non x
 | .bool b=>eqV (.bl b) x
 | .int i _=>eqV (.int i) x
 | .str z _=>eqV (.str z) x
 |_=>false
theorem jG{x y:V}{u:Value}(r:RelV y u)(f:Z9 y=true):eqU x u=eqV y x:=by
 cases y with
 |non=>cases r;rfl
 |bl b=>cases r;rfl
 |int i=>obtain⟨t,rfl⟩:=r;rfl
 |str z=>obtain⟨t,rfl⟩:=r;rfl
 |_=>exact absurd (show false=true from f) Bool.false_ne_true
theorem WQ{x:V}:∀{xs:List V}{us:List Value},Vals xs us->xs.all Z9=true->us.any (eqU x)=xs.any fun y=>eqV y x
 |_,_,.nil,_=>rfl
 |y::xs,u::us,.cons r t,f=>by
  rw[List.all_cons,Bool.and_eq_true]at f;rw[List.any_cons,List.any_cons,jG r f.1,WQ t f.2]
theorem ZU{A:Around}{s:Shared}{x:V}{v:Value}(rx:RelV x v)(fx:Z9 x=true):∀{xs:List V}{us:List Value},Vals xs us->xs.all Z9=true->∀u∈us,SeqAt.EqAt A s u v (eqU x u)
 |_,_,.nil,_=>fun u hu=>by cases hu
 |y::xs,u::us,.cons r t,f=>fun u' hu=>by
  rw[List.all_cons,Bool.and_eq_true]at f;rcases List.mem_cons.mp hu with rfl|hu
  ·rw[jG r f.1];exact Qao r rx f.1 fx
  ·exact ZU rx fx t f.2 u' hu
noncomputable def inV(x:V)(xs:List V):Bool:=xs.any fun y=>eqV y x
noncomputable def rIn(K:PySem.W.Frag)(neg:Bool):R2:=fun x y H Q=>∃p xs,y=.ref p/\(SqL K H p xs\/SqT K H p xs)/\Z9 x=true/\xs.all Z9=true/\Q (.bl (if neg then !inV x xs else inV x xs)) H
theorem xP:OpR X (compareOp .In) (rIn X.K false):=by
 intro pins s σ H x y v u Q I rx ry h;obtain⟨p,xs,rfl,hq,fx,fs,q⟩:=h;cases ry;rcases hq with hq|hq
 ·obtain⟨its,r,pl,hz⟩:=I.list hq;refine SeqAt.in_listAt (eqU x) pl.isList (fun w hw=>ZU rx fx r fs w (by simpa using hw)) ⟨.bl _,H,I,rfl,?_⟩;rw[show its.toArray.any (eqU x)=its.any (eqU x) by simp,WQ r fs];exact q
 ·obtain⟨its,r,pl,hz⟩:=I.tuple hq;refine SeqAt.in_tupleAt (eqU x) pl (fun w hw=>ZU rx fx r fs w (by simpa using hw)) ⟨.bl _,H,I,rfl,?_⟩;rw[show its.toArray.any (eqU x)=its.any (eqU x) by simp,WQ r fs];exact q
theorem Xf:OpR X (compareOp .NotIn) (rIn X.K true):=by
 intro pins s σ H x y v u Q I rx ry h;obtain⟨p,xs,rfl,hq,fx,fs,q⟩:=h;cases ry;rcases hq with hq|hq
 ·obtain⟨its,r,pl,hz⟩:=I.list hq;refine SeqAt.notIn_listAt (eqU x) pl.isList (fun w hw=>ZU rx fx r fs w (by simpa using hw)) ⟨.bl _,H,I,rfl,?_⟩;rw[show its.toArray.any (eqU x)=its.any (eqU x) by simp,WQ r fs];exact q
 ·obtain⟨its,r,pl,hz⟩:=I.tuple hq;refine SeqAt.notIn_tupleAt (eqU x) pl (fun w hw=>ZU rx fx r fs w (by simpa using hw)) ⟨.bl _,H,I,rfl,?_⟩;rw[show its.toArray.any (eqU x)=its.any (eqU x) by simp,WQ r fs];exact q
theorem Qr:XG X (.builtin "len") (fun xs H Q=>∃p ys,xs=[.ref p]/\(SqL X.K H p ys\/SqT X.K H p ys)/\Q (.int ys.length) H):=by
 intro pins s σ H xs us Q I r h;obtain⟨p,ys,rfl,hq,q⟩:=h;obtain⟨u,rfl,rx⟩:=vals1 r;cases rx;have hn:=Xd;rcases hq with hq|hq
 ·obtain⟨its,r',pl,hz⟩:=I.list hq;have hlen:=r'.length;exact Calls.call_len_list pl.isList (by simp only[uP]<;>omega) ⟨.int ys.length,H,I.tok _,⟨s.toks+1,by rw[uP,hlen]⟩,q⟩
 ·obtain⟨its,r',pl,hz⟩:=I.tuple hq;have hlen:=r'.length;exact len_tuple pl (by simp only[uP]<;>omega) ⟨.int ys.length,H,I.tok _,⟨s.toks+1,by rw[uP,hlen]⟩,q⟩
theorem Q4:XG X (.builtin "len") (fun xs H Q=>∃z,xs=[.str z]/\z.length<=sizeLine/\Q (.int z.length) H):=by
 intro pins s σ H xs us Q I r h;obtain⟨z,rfl,hz,q⟩:=h;obtain⟨u,rfl,t,rfl⟩:=vals1 r;have hn:=Xd;exact len_str (by omega) ⟨.int z.length,H,I.tok _,⟨_,rfl⟩,q⟩
theorem ZV:XG X (.type "tuple") (fun xs H Q=>∃p ys,xs=[.ref p]/\((SqL X.K H p ys/\∀l,H l=none->Q (.ref l) (upd H l (.tup ys)))\/(SqT X.K H p ys/\Q (.ref p) H))):=by
 intro pins s σ H xs us Q I r h;obtain⟨p,ys,rfl,h⟩:=h;obtain⟨u,rfl,rx⟩:=vals1 r;cases rx;rcases h with⟨hq,q⟩|⟨hq,q⟩
 ·obtain⟨its,r',pl,hz⟩:=I.list hq;have hlen:=r'.length;refine call_tuple_list pl.isList (fun h' kp=>?_) (by simp only[uP]<;>omega);have I1:Inv X pins σ H {s with heap:=h'}:=I.kept (t':=s.toks) kp;have I2:Inv X pins σ (upd H h'.objs.size (.tup ys)) {s with heap:=h'.push {cls:=.type "tuple",data:=.seq its.toArray}}:=
   I1.laid (t':=s.toks) (fun b o e=>Heap.get?_push_of_some _ e) (uq _) (show Jk X.prog X.w _ _ _ (.tup ys)from⟨hz,its,r',Wf.new _ _⟩)
  exact⟨.ref h'.objs.size,_,I2,rfl,q _ (I1.hok.fresh (uq _))⟩
 ·obtain⟨its,r',pl,hz⟩:=I.tuple hq;exact call_tuple_same pl ⟨.ref p,H,I,rfl,q⟩
noncomputable def tyV(K:PySem.W.Frag)(T:String)(x:V)(H:Hp):Prop:=match x with
 | .str _=>T="str"
 | .int _=>T="int"
 | .ref p=>(T="list"/\∃xs,SqL K H p xs)\/(T="tuple"/\∃o,K.lookup p=some o/\o.cls=.type "tuple"/\o.dict=none)\/
   (T="dict"/\((∃kvs,H p=some (.dK kvs))\/∃kvs,H p=some (.dT kvs)))\/(T="set"/\∃S n,H p=some (.set S n))\/(T="tuple"/\∃xs,H p=some (.tup xs))
 |_=>False
theorem Qap{pins:List (Addr × Obj)}{σ:St}{H:Hp}{s:Shared}{T:String}{x:V}{v:Value}(I:Inv X pins σ H s)(r:RelV x v)(ty:tyV X.K T x H):
  s.TypeIs v T/\∀a,v=.ref a->∃ob,s.heap.get? a=some ob/\ob.dict=none:=by
 cases x with
 |str z=>
  obtain⟨t,rfl⟩:=r;cases(show T="str" from ty);exact⟨typeIs_str s z t,fun _ e=>nomatch e⟩
 |int i=>
  obtain⟨t,rfl⟩:=r;cases(show T="int" from ty);exact⟨typeIs_int s i t,fun _ e=>nomatch e⟩
 |ref p=>
  cases r;rcases ty with⟨rfl,xs,hq⟩|⟨rfl,o,hk,hc,hd⟩|⟨rfl,hk⟩|⟨rfl,S,n,hk⟩|⟨rfl,xs,hk⟩
  ·obtain⟨its,_,pl,_⟩:=I.list hq;refine⟨pl.isList.typeIs,fun a e=>?_⟩;cases e;obtain⟨o,n,e,c,hd,_⟩:=pl;exact⟨o,e,hd⟩
  ·refine⟨⟨o,I.kIn p o hk,hc⟩,fun a e=>?_⟩;cases e;exact⟨o,I.kIn _ o hk,hd⟩
  ·have z:∃o,s.heap.get? p=some o/\o.ExactDict:=by
    rcases hk with⟨kvs,hk⟩|⟨kvs,hk⟩
    ·obtain⟨_,_,_,_,o,_,_,e,ex,_⟩:=I.hok p _ hk;exact⟨o,e,ex⟩
    ·obtain⟨_,_,_,_,o,_,_,e,ex,_⟩:=I.hok p _ hk;exact⟨o,e,ex⟩
   obtain⟨o,e,ex⟩:=z;refine⟨⟨o,e,ex.1⟩,fun a e2=>?_⟩;cases e2;exact⟨o,e,ex.2.1⟩
  ·obtain⟨o,_,_,_,e,ex,_⟩:=I.hok p _ hk;refine⟨⟨o,e,ex.1⟩,fun a e2=>?_⟩;cases e2;exact⟨o,e,ex.2.1⟩
  ·obtain⟨_,its,_,o,h1,h2,n,h3,h4⟩:=(show Jk X.prog X.w H s.heap p (.tup xs)from I.hok p _ hk);exact⟨⟨o,h1,h2⟩,fun a e=>by cases e;exact⟨o,h1,h4⟩⟩
 |_=>exact False.elim ty
noncomputable def Qe4(K:PySem.W.Frag)(T:String)(r:V->List V->Hp->VK->Prop)(to:TE):TE:=fun σ H Q=>to σ H fun x H1=>tyV K T x H1/\r x [] H1 Q
noncomputable def tBM(K:PySem.W.Frag)(T:String)(r:V->List V->Hp->VK->Prop)(to:TE)(t:TA):TE:=fun σ H Q=>to σ H fun x H1=>tyV K T x H1/\t σ H1 fun xs H2=>r x xs H2 Q
variable {o e:Expr}{es:List Expr}{to:TE}{t:TA}{name:Str}{apos cpos:Pos}{T id:String}{r:V->List V->Hp->VK->Prop}
theorem Uo(pa:PlainAttrs T)(slot:Slot T name id)(hty:typeOf (.builtin id)=pure (.type "method_descriptor"))(hm:MtR X id r)(ho:PE X o to)
  (hbase:attributeBase o name X.env (eval o X.env)=eval o X.env:=by rfl) (hline:(apos.endLine==cpos.line)=true:=by rfl):PE X (.Call (.Attribute o name apos) [] [] cpos) (Qe4 X.K T r to):=by
 intro pins s σ H Q I h;refine wpAny_Call_method0_late hbase hline (thn (ho pins s σ H _ I h) fun v s1⟨x,H1,I1,r1,ty,q1⟩=>?_);obtain⟨h1,h2⟩:=Qap I1 r1 ty;exact⟨T,id,pa,slot,hty,h1,h2,Calls.callWith_builtin rfl (PySem.evalArgs_none (hm pins s1 σ H1 x [] v [] Q I1 r1 .nil q1))⟩
theorem JQ(pa:PlainAttrs T)(slot:Slot T name id)(hty:typeOf (.builtin id)=pure (.type "method_descriptor"))(hm:MtR X id r)(ho:PE X o to)(ha:PA X (e::es) t)
  (hbase:attributeBase o name X.env (eval o X.env)=eval o X.env:=by rfl)
  (hfew:((backTo cpos (starEach (e::es) X.env)).all (fun x=> !x.1)&&(backToKw cpos (keywordEach [] X.env)).all (fun x=>x.1.isSome)
   &&decide ((e::es).length+([]:List Keyword).length+(if([]:List Keyword).isEmpty then 0 else 1)<30))=true:=by rfl)
  (hline:(apos.endLine==cpos.line)=true:=by rfl) (hs:starEach (e::es) X.env=(false,eval e X.env)::starEach es X.env:=by rfl) (hplain:(backTo cpos (starEach es X.env)).any (·.1)=false:=by rfl):
  PE X (.Call (.Attribute o name apos) (e::es) [] cpos) (tBM X.K T r to t):=by
 intro pins s σ H Q I h;refine wpAny_Call_method_late hbase hfew hline rfl (thn (ho pins s σ H _ I h) fun v s1⟨x,H1,I1,r1,ty,q1⟩=>?_);obtain⟨h1,h2⟩:=Qap I1 r1 ty;refine⟨T,id,pa,slot,hty,h1,h2,?_⟩;have hA:=ha cpos pins s1 σ H1 _ I1 q1;rw[hs]at hA ⊢;refine Calls.callWith_builtin (by show(false||(backTo cpos (starEach es X.env)).any (·.1))=false;rw[hplain]<;>rfl) (Calls.evalArgs_plain ?_);exact thn hA fun us s2⟨vs,H2,I2,r2,q2⟩=>hm pins s2 σ H2 x vs v us Q I2 r1 r2 q2
end
noncomputable def MtM(X:Cx)(id:String)(r:V->List V->Hp->VK->Prop):Prop:=
 ∀(pins:List (Addr × Obj))(s:Shared)(σ:St)(H:Hp)(x:V)(xs:List V)(v:Value)(us:List Value)(Q:VK),Inv X pins σ H s->RelV x v->Vals xs us->r x xs H Q->
  wpAny (model X.prog X.w) X.A (call (.builtin id) (v::us)) (EP X pins σ Q) X.xe s
theorem Vals.one:∀{x:V}{us:List Value},Vals [x] us->∃u,us=[u]/\RelV x u
 |_,_,.cons r .nil=>⟨_,rfl,r⟩
theorem Vals.zero:∀{us:List Value},Vals [] us->us=[]
 |_,.nil=>rfl
theorem Vals.dropLast{xs:List V}{us:List Value}(h:Vals xs us):Vals xs.dropLast us.dropLast:=by
 induction h with
 |nil=>exact .nil
 |cons r t ih=>
  cases t with
  |nil=>exact .nil
  |cons q t'=>exact .cons r ih
theorem zI{α:Type}(l:List α):l.eraseIdx (l.length-1)=l.dropLast:=by
 induction l with
 |nil=>rfl
 |cons a r ih=>
  cases r with
  |nil=>rfl
  |cons b r=>
   have e:(a::b::r).length-1=((b::r).length-1)+1:=by
    have h1:(a::b::r).length=r.length+2:=rfl;have h2:(b::r).length=r.length+1:=rfl;omega
   rw[e,List.eraseIdx_cons_succ,ih]
   all_goals rfl
section
variable {X:Cx}{pins:List (Addr × Obj)}{σ:St}{H:Hp}{s:Shared}{l b:Addr}{xs ys zs:List V}
theorem Inv.QdV{its its':List Value}{n:Nat}{f:Array Value->Array Value}{t':Nat}(I:Inv X pins σ H s)(hH:H l=some (.lst xs))
  (e:s.heap.get? l=some {cls:=.type "list",data:=.seq its.toArray n}) (hf:f its.toArray=its'.toArray) (hv:Vals ys its') (hz:ys.length<=sizeLine):
  Inv X pins σ (upd H l (.lst ys)) {s with heap:=s.heap.update l (Obj.mapSeq f),toks:=t'}:=by
 have q:=PySem.IsL.update e f;rw[hf]at q;refine I.write (x:=l) (e:=l) (by rw[hH];exact trivial) (.inl rfl) (fun b' u hb hu=>(Heap.get?_update_other s.heap (Obj.mapSeq f) (Ne.symm hb)).trans hu) ⟨_,q⟩ ?_;exact⟨hz,its',_,hv,q⟩
theorem Inv.Qe5{its:List Value}{t':Nat}(I:Inv X pins σ H s)(hv:Vals ys its)(hz:ys.length<=sizeLine):
  Inv X pins σ (upd H s.heap.objs.size (.lst ys)) {s with heap:=s.heap.push {cls:=.type "list",data:=.seq its.toArray},toks:=t'}:=
 I.laid (fun _ _ q=>Heap.get?_push_of_some _ q) (uq _) ⟨hz,its,0,hv,Heap.get?_push_size _ rfl⟩
theorem Inv.fresh(I:Inv X pins σ H s):H s.heap.objs.size=none:=I.hok.fresh (uq _)
theorem Inv.vI(I:Inv X pins σ H s)(hH:H l=some (.lst xs)):xs.length<=sizeLine/\∃(its:List Value)(n:Nat),Vals xs its/\xs.length=its.length/\s.heap.get? l=some {cls:=.type "list",data:=.seq its.toArray n}:=by
 obtain⟨z,its,n,r,e⟩:=I.hok l _ hH;exact⟨z,its,n,r,r.length,e⟩
theorem vJ{n:Nat}(h:n<=sizeLine):Builtin.List.listTooLong n=false:=by
 unfold Builtin.List.listTooLong;exact um (by omega)
end
section
variable {X:Cx}
noncomputable def Qa7:V->List V->Hp->VK->Prop:=fun x vs H Q=>∃l xs y,x=.ref l/\vs=[y]/\H l=some (.lst xs)/\xs.length<sizeLine/\Q .non (upd H l (.lst (xs++[y])))
theorem Jm:MtM X "list.append" Qa7:=by
 intro pins s σ H x vs v us Q I rx rv h;obtain⟨l,xs,y,rfl,rfl,hH,hz,q⟩:=h;cases rx;obtain⟨u,rfl,ru⟩:=rv.one;obtain⟨z,its,n,r,hl,e⟩:=I.vI hH;refine call_meets F.slot_list_append ⟨_,e,rfl⟩ F.entry_list_append (F.args_list_append_2 _ _) (PySem.list_append l its.toArray n u (by rw[uP];omega)) ⟨e,?_⟩;refine⟨.non,_,I.QdV (its':=its++[u]) hH e (by simp) (r.append (.cons ru .nil)) ?_,rfl,q⟩;rw[uj,uu];omega
noncomputable def Qa8:V->List V->Hp->VK->Prop:=fun x vs H Q=>∃l b xs zs,x=.ref l/\vs=[.ref b]/\H l=some (.lst xs)/\H b=some (.lst zs)/\xs.length+zs.length<=sizeLine/\Q .non (upd H l (.lst (xs++zs)))
theorem Up:MtM X "list.extend" Qa8:=by
 intro pins s σ H x vs v us Q I rx rv h;obtain⟨l,b,xs,zs,rfl,rfl,hH,hB,hz,q⟩:=h;cases rx;obtain⟨u,rfl,ru⟩:=rv.one;cases ru;obtain⟨z,its,n,r,hl,e⟩:=I.vI hH;obtain⟨z2,its2,n2,r2,hl2,e2⟩:=I.vI hB;have hsz:its.toArray.size+its2.toArray.size<=sizeLine:=by rw[uP,uP];omega
 have hlong:¬ (!its.toArray.isEmpty&&Builtin.List.listTooLong (its.toArray.size+its2.toArray.size))=true:=by
  rw[vJ hsz,Bool.and_false];exact Bool.false_ne_true
 refine call_meets F.slot_list_extend ⟨_,e,rfl⟩ F.entry_list_extend (F.args_list_extend_2 _ _)
  (AutoSeq1.list_extend_list_list_0 l its.toArray n b its2.toArray n2 hlong (by rw[uP];omega) (by omega)) ⟨e,e2,?_⟩
 refine⟨.non,_,I.QdV (its':=its++its2) hH e (by simp) (r.append r2) ?_,rfl,q⟩;rw[uj];omega
noncomputable def Qe6:V->List V->Hp->VK->Prop:=fun x vs H Q=>∃l xs y,x=.ref l/\vs=[]/\H l=some (.lst xs)/\xs[xs.length-1]? =some y/\Q y (upd H l (.lst xs.dropLast))
theorem Uq:MtM X "list.pop" Qe6:=by
 intro pins s σ H x vs v us Q I rx rv h;obtain⟨l,xs,y,rfl,rfl,hH,hy,q⟩:=h;cases rx;have hus:=rv.zero;subst hus;obtain⟨z,its,n,r,hl,e⟩:=I.vI hH;obtain⟨u,hu,ru⟩:=r.get hy;have hy':its.toArray[its.toArray.size-1]? =some u:=by
  show its.toArray[its.length-1]? =some u;rw[←Array.getElem?_toList, ←hl];exact hu
 refine call_meets F.slot_list_pop ⟨_,e,rfl⟩ F.entry_list_pop (F.args_list_pop_1 _) (MeetsSeq.list_pop_last l its.toArray n u hy' (by rw[uP];omega)) ⟨e,?_⟩;refine⟨y,_,I.QdV (its':=its.dropLast) hH e ?_ r.dropLast ?_,ru,q⟩
 ·show its.toArray.eraseIdxIfInBounds (its.toArray.size-1)=its.dropLast.toArray;rw[uP,List.eraseIdxIfInBounds_toArray,zI]
 ·rw[List.length_dropLast];omega
noncomputable def Qe7:R2:=fun x y H Q=>∃l b xs zs,x=.ref l/\y=.ref b/\H l=some (.lst xs)/\H b=some (.lst zs)/\xs.length+zs.length<=sizeLine/\∀p,H p=none->Q (.ref p) (upd H p (.lst (xs++zs)))
theorem Xg:OpR X (binaryOp .Add) Qe7:=by
 intro pins s σ H x y v u Q I rx ry h;obtain⟨l,b,xs,zs,rfl,rfl,hH,hB,hz,q⟩:=h;cases rx;cases ry;obtain⟨z,its,n,r,hl,e⟩:=I.vI hH;obtain⟨z2,its2,n2,r2,hl2,e2⟩:=I.vI hB;refine PySem.P.add_list e e2 ?_ (by rw[uP,uP];omega);have ea:its.toArray++its2.toArray=(its++its2).toArray:=by simp
 rw[ea];exact⟨.ref _,_,I.Qe5 (t':=s.toks) (r.append r2) (by rw[uj];omega),rfl,q _ I.fresh⟩
end
section
variable {κ:Type}[DecidableEq κ]
noncomputable def VT(kvs:List (κ × V))(k:κ):Option V:=(kvs.find? fun kv=>decide (kv.1=k)).map (·.2)
noncomputable def putK(kvs:List (κ × V))(k:κ)(v:V):List (κ × V):=
 if(kvs.any fun kv=>decide (kv.1=k))=true then kvs.map (fun kv=>if kv.1=k then(kv.1,v)else kv)else kvs++[(k,v)]
theorem Kf{p:κ × V}{r:List (κ × V)}{k:κ}(e:p.1=k):VT (p::r) k=some p.2:=by simp[VT,List.find?_cons,e]
theorem Wr{p:κ × V}{r:List (κ × V)}{k:κ}(e:¬ p.1=k):VT (p::r) k=VT r k:=by simp[VT,List.find?_cons,e]
theorem jH(k:κ):∀kvs:List (κ × V),(kvs.any fun kv=>decide (kv.1=k))=(VT kvs k).isSome
 |[]=>rfl
 |p::r=>by
  rw[List.any_cons]
  by_cases e:p.1=k
  ·simp only[Kf e,uo e,Bool.true_or,Option.isSome_some]
  ·rw[Wr e,um e,Bool.false_or];exact jH k r
theorem XY(kvs:List (κ × V))(k:κ)(v:V):(putK kvs k v).length<=kvs.length+1:=by
 unfold putK
 split
 ·rw[uk];omega
 ·rw[uj,uw,List.length_nil];omega
theorem jA.Ur{o:Option V}{u:Option Value}(r:jA o u):o.isSome=u.isSome:=by
 cases o with
 |none=>cases u with
  |none=>rfl
  |some _=>exact(show False from r).elim
 |some _=>cases u with
  |none=>exact(show False from r).elim
  |some _=>rfl
theorem jA.getD{o:Option V}{u:Option Value}{d:V}{d':Value}(r:jA o u)(rd:RelV d d'):RelV (o.getD d) (u.getD d'):=by
 cases o with
 |none=>cases u with
  |none=>exact rd
  |some _=>exact(show False from r).elim
 |some _=>cases u with
  |none=>exact(show False from r).elim
  |some _=>exact r
theorem KV.val{kvs:List (κ × V)}{vs:List (κ × Value)}(r:KV kvs vs)(k:κ):jA (VT kvs k) (valueAt vs k):=by
 unfold KV at r
 induction r with
 |nil=>exact True.intro
 |@cons p q ps qs h t ih=>
  obtain⟨h1,h2⟩:=h
  by_cases e:p.1=k
  ·have e':q.1=k:=h1.symm.trans e;have b:valueAt (q::qs) k=some q.2:=by simp[valueAt,List.find?_cons,e']
   rw[Kf e,b];exact h2
  ·have e':¬ q.1=k:=fun z=>e (h1.trans z);have b:valueAt (q::qs) k=valueAt qs k:=by simp[valueAt,List.find?_cons,e']
   rw[Wr e,b];exact ih
theorem KV.any{kvs:List (κ × V)}{vs:List (κ × Value)}(r:KV kvs vs)(k:κ):(kvs.any fun kv=>decide (kv.1=k))=vs.any fun kv=>decide (kv.1=k):=by
 unfold KV at r
 induction r with
 |nil=>rfl
 |cons h t ih=>rw[List.any_cons,List.any_cons,ih,h.1]
theorem KV.QdW{kvs:List (κ × V)}{vs:List (κ × Value)}(r:KV kvs vs)(k:κ){y:V}{u:Value}(ry:RelV y u):
  KV (kvs.map fun kv=>if kv.1=k then(kv.1,y)else kv) (vs.map fun kv=>if kv.1=k then(kv.1,u)else kv):=by
 unfold KV at r ⊢
 induction r with
 |nil=>exact .nil
 |@cons p q ps qs h t ih=>
  rw[uN,uN];refine .cons ?_ ih;obtain⟨h1,h2⟩:=h
  by_cases e:p.1=k
  ·rw[if_pos e,if_pos (h1.symm.trans e)];exact⟨h1,ry⟩
  ·rw[if_neg e,if_neg (fun z=>e (h1.trans z))];exact⟨h1,h2⟩
theorem KV.put{kvs:List (κ × V)}{vs:List (κ × Value)}(r:KV kvs vs)(k:κ){y:V}{u:Value}(ry:RelV y u):KV (putK kvs k y) (stored vs k u):=by
 unfold putK stored;rw[r.any k]
 by_cases e:(vs.any fun kv=>decide (kv.1=k))=true
 ·rw[if_pos e,if_pos e];exact r.QdW k ry
 ·rw[if_neg e,if_neg e];exact Paired.snoc r ⟨rfl,ry⟩
theorem KV.length{kvs:List (κ × V)}{vs:List (κ × Value)}(r:KV kvs vs):kvs.length=vs.length:=Paired.length r
end
theorem qp{P:Program}{w:World}{k:Key}{u:Value}(r:RelV (kV k) u):(Q8 P w).is k u=true:=by
 cases k with
 |inl i=>obtain⟨t,e⟩:=(show ∃t,u=Value.int i t from r);subst e;exact qg P w i t
 |inr x=>obtain⟨t,e⟩:=(show ∃t,u=Value.str x t from r);subst e;exact Zo P w x t
theorem Us{P:Program}{w:World}:∀{ks:List Key}{us:List Value},Vals (ks.map kV) us->ItemsAre (Q8 P w) ks us
 |[],_,r=>by rw[List.map_nil]at r;cases r;exact .nil
 |k::ks,_,r=>by
  rw[uN]at r;cases r with
  |cons h t=>exact .cons (qp h) (Us t)
noncomputable abbrev KT(H:Hp):List (List Key × V)->List (List Key × Addr × Value)->Prop:=Paired fun p q=>p.1=q.1/\H q.2.1=some (.tup (p.1.map kV))/\RelV p.2 q.2.2
theorem KT.val{H:Hp}{kvs:List (List Key × V)}{xs:List (List Key × Addr × Value)}(r:KT H kvs xs)(k:List Key):jA (VT kvs k) ((atKey xs k).map (·.2)):=by
 induction r with
 |nil=>exact True.intro
 |@cons p q ps qs h t ih=>
  obtain⟨h1,_,h2⟩:=h
  by_cases e:p.1=k
  ·have e':q.1=k:=h1.symm.trans e;have b:atKey (q::qs) k=some q.2:=by simp[atKey,List.find?_cons,e']
   rw[Kf e,b];exact h2
  ·have e':¬ q.1=k:=fun z=>e (h1.trans z);have b:atKey (q::qs) k=atKey qs k:=by simp[atKey,List.find?_cons,e']
   rw[Wr e,b];exact ih
theorem KT.QdW{H:Hp}{kvs:List (List Key × V)}{xs:List (List Key × Addr × Value)}(r:KT H kvs xs)(k:List Key){y:V}{u:Value}(ry:RelV y u):
  KT H (kvs.map fun kv=>if kv.1=k then(kv.1,y)else kv) (xs.map (putAt k u)):=by
 induction r with
 |nil=>exact .nil
 |@cons p q ps qs h t ih=>
  rw[uN,uN];refine .cons ?_ ih;obtain⟨h1,h2,h3⟩:=h;unfold putAt
  by_cases e:p.1=k
  ·rw[if_pos e,if_pos (h1.symm.trans e)];exact⟨h1,h2,ry⟩
  ·rw[if_neg e,if_neg (fun z=>e (h1.trans z))];exact⟨h1,h2,h3⟩
theorem KT.put{H:Hp}{kvs:List (List Key × V)}{xs:List (List Key × Addr × Value)}(r:KT H kvs xs)(k:List Key){b:Addr}{y:V}{u:Value}(hb:H b=some (.tup (k.map kV)))(ry:RelV y u):
  KT H (putK kvs k y) (storedH xs k b u):=by
 have e:(kvs.any fun kv=>decide (kv.1=k))=(atKey xs k).isSome:=by
  rw[jH,(r.val k).Ur,Option.isSome_map]
 unfold putK storedH;rw[e]
 by_cases q:(atKey xs k).isSome=true
 ·rw[if_pos q,if_pos q];exact r.QdW k ry
 ·rw[if_neg q,if_neg q];exact Paired.snoc r ⟨rfl,hb,ry⟩
theorem KT.keeps{H H':Hp}{kvs:List (List Key × V)}{xs:List (List Key × Addr × Value)}(r:KT H kvs xs)(ht:∀b ys,H b=some (.tup ys)->H' b=some (.tup ys)):KT H' kvs xs:=
 Paired.QdG r fun _ _ z=>⟨z.1,ht _ _ z.2.1,z.2.2⟩
section
variable {P:Program}{w:World}{H:Hp}{h:Heap}{a:Addr}
theorem Qcv{u:HO}(ok:HOk P w H h)(e:Rd H a u):Jk P w H h a u:=e.ok ok
theorem xQ{kvs:List (Key × V)}(ok:HOk P w H h)(e:Rd H a (.dK kvs)):kvs.length<=sizeLine/\(a==sysModules)=false/\∃vs,KV kvs vs/\h.DictOf (Q8 P w) a vs:=
 show Jk P w H h a (.dK kvs)from Qcv ok e
theorem Qcw{kvs:List (Key × V)}(ok:HOk P w H h)(e:H a=some (.dK kvs)):kvs.length<=sizeLine/\(a==sysModules)=false/\∃vs,KV kvs vs/\h.DictOf (Q8 P w) a vs:=xQ ok (.inl e)
theorem jI{ks:List Key}(ok:HOk P w H h)(e:H a=some (.tup (ks.map kV))):(tupleKind (Q8 P w)).is h ks a:=by
 obtain⟨_,its,r,o,h1,h2,n,h3,_⟩:=(show Jk P w H h a (.tup (ks.map kV))from ok a _ e);exact⟨o,its.toArray,n,h1,h2,h3,by simpa using Us r⟩
theorem xR{kvs:List (List Key × V)}(ok:HOk P w H h)(e:Rd H a (.dT kvs)):kvs.length<=sizeLine/\(a==sysModules)=false/\
  ∃xs,KT H kvs xs/\h.DictOfH (tupleKind (Q8 P w)) a xs:=by
 obtain⟨z,y,xs,r,o,es,ep,h1,h2,h3,h4,h5⟩:=(show Jk P w H h a (.dT kvs)from Qcv ok e);refine⟨z,y,xs,r,o,es,ep,h1,h2,h3,h4,fun x hx=>?_,h5⟩;have all:∀{l:List (List Key × V)}{m:List (List Key × Addr × Value)},KT H l m->∀x∈m,(tupleKind (Q8 P w)).is h x.1 x.2.1:=by
  intro l m q
  induction q with
  |nil=>intro x hx;exact nomatch hx
  |@cons p q ps qs hq t ih=>
   intro x hx;rcases List.mem_cons.mp hx with e|hx
   ·subst e;exact jI ok (by rw[←hq.1];exact hq.2.1)
   ·exact ih x hx
 exact all r x hx
theorem QdX{kvs:List (List Key × V)}(ok:HOk P w H h)(e:H a=some (.dT kvs)):kvs.length<=sizeLine/\(a==sysModules)=false/\
  ∃xs,KT H kvs xs/\h.DictOfH (tupleKind (Q8 P w)) a xs:=xR ok (.inl e)
end
noncomputable def jJ(H:Hp)(a:Addr)(y:V)(r:Option V):Prop:=
 (∃kvs k,Rd H a (.dK kvs)/\y=kV k/\r=VT kvs k)\/∃kvs k b,Rd H a (.dT kvs)/\y=.ref b/\H b=some (.tup (k.map kV))/\r=VT kvs k
noncomputable def Qaq(H:Hp)(a:Addr)(y v:V)(H':Hp):Prop:=
 (∃kvs k,H a=some (.dK kvs)/\y=kV k/\kvs.length<sizeLine/\H'=upd H a (.dK (putK kvs k v)))\/
 ∃kvs k b,H a=some (.dT kvs)/\y=.ref b/\H b=some (.tup (k.map kV))/\kvs.length<sizeLine/\H'=upd H a (.dT (putK kvs k v))
theorem jJ.k{H:Hp}{a:Addr}{kvs:List (Key × V)}{k:Key}(e:H a=some (.dK kvs)):jJ H a (kV k) (VT kvs k):=.inl ⟨kvs,k,.inl e,rfl,rfl⟩
theorem Qaq.k{H:Hp}{a:Addr}{kvs:List (Key × V)}{k:Key}{v:V}(e:H a=some (.dK kvs))(hl:kvs.length<sizeLine):Qaq H a (kV k) v (upd H a (.dK (putK kvs k v))):=.inl ⟨kvs,k,e,rfl,hl,rfl⟩
section
variable {X:Cx}{pins:List (Addr × Obj)}{σ:St}{H:Hp}{s:Shared}{a:Addr}{y v:V}{u r:Value}{o:Option V}{A:Around}{E:Value->Shared->Prop}
theorem Inv.big(I:Inv X pins σ H s):sysModules<s.heap.objs.size:=by
 have h:mainGlobals<s.heap.objs.size:=(I.mod.glob.keeps I.bk).lt;exact Nat.lt_trans (by decide) h
theorem xS{Q:Value->Shared->Prop}(hu:A.units+1<cLine)(I:Inv X pins σ H s)(g:jJ H a y (some v))(ry:RelV y u)(h:∀w' s',Inv X pins σ H s'->RelV v w'->Q w' s'):
  wpAny (model X.prog X.w) A (getItem (.ref a) u) Q E s:=by
 rcases g with⟨kvs,k,e,ey,l⟩|⟨kvs,k,b,e,ey,eb,l⟩
 ·subst ey;obtain⟨z,hd,vs,rel,dd⟩:=xQ I.hok e;obtain⟨w',hw,rw'⟩:=jA.some_of (v:=v) (o:=valueAt vs k) (by rw[l];exact rel.val k);exact wpAny_getItem_of (qp ry) dd.mapOf hw (h w' _ (I.tok _) rw')
 ·subst ey;cases(show u=Value.ref b from ry);obtain⟨z,hd,xs,rel,dd⟩:=xR I.hok e;obtain⟨w',hw,rw'⟩:=jA.some_of (v:=v) (o:=(atKey xs k).map (·.2)) (by rw[l];exact rel.val k);obtain⟨p,hp,hp2⟩:=Option.map_eq_some_iff.mp hw;refine wpAny_getItem_heap (tupleKind_room_in1 hu) (jI I.hok eb) dd hp ?_;rw[hp2];exact h w' _ (I.tok _) rw'
theorem qr{h':Heap}{t':Nat}{ob:HO}(I:Inv X pins σ H s)(mu:Mut (H a))(hs:Heap.SameBut a s.heap h')(he:∃q,h'.get? a=some q) (new:Jk X.prog X.w (upd H a ob) h' a ob):
  Inv X pins σ (upd H a ob) {s with heap:=h',toks:=t'}:=
 I.write (x:=a) (e:=a) mu (.inl rfl) (fun b q hb z=>(hs.2 b hb).trans z) he new
theorem Qar{P:Program}{w:World}{H':Hp}{h':Heap}{kvs:List (Key × V)}{vs:List (Key × Value)}(z:kvs.length<=sizeLine)(hd:(a==sysModules)=false)(rel:KV kvs vs)(dd:h'.DictOf (Q8 P w) a vs):
  Jk P w H' h' a (.dK kvs):=⟨z,hd,vs,rel,dd⟩
theorem xT{H':Hp}{Q:Unit->Shared->Prop}(hu:A.units+1<cLine)(I:Inv X pins σ H s)(g:Qaq H a y v H')(ry:RelV y u)(rv:RelV v r)(h:∀s',Inv X pins σ H' s'->Q () s'):
  wpAny (model X.prog X.w) A (setItem (.ref a) u r) Q E s:=by
 rcases g with⟨kvs,k,e,ey,l,eH⟩|⟨kvs,k,b,e,ey,eb,l,eH⟩
 ·subst ey eH;obtain⟨z,hd,vs,rel,dd⟩:=Qcw I.hok e;have hz:vs.length<=sizeLine:=by rw[←rel.length];exact z
  have hl:(putK kvs k v).length<=sizeLine:=by have:=XY kvs k v;omega
  refine wpAny_setItem_pairs (hsz:=hz) (qp ry) dd fun h' dd' hs=>h _ ?_;have he:∃q,h'.get? a=some q:=let ⟨q,_,_,hq,_⟩:=dd';⟨q,hq⟩;exact qr I (by rw[e];exact True.intro) hs he (Qar hl hd (rel.put k rv) dd')
 ·subst ey eH;cases(show u=Value.ref b from ry);obtain⟨z,hd,xs,rel,dd⟩:=QdX I.hok e;have hz:xs.length<=sizeLine:=by rw[←Paired.length rel];exact z
  have hl:(putK kvs k v).length<=sizeLine:=by have:=XY kvs k v;omega
  refine wpAny_setItem_heap (hsz:=hz) (tupleKind_room_in1 hu) (jI I.hok eb) dd fun h' dd' hs=>h _ ?_;obtain⟨q,es,ep,hq,h2,h3,h4,_,h5⟩:=dd';refine qr I (by rw[e];exact True.intro) hs ⟨q,hq⟩ ⟨hl,hd,_,(rel.put k eb rv).keeps fun c ys ec=>?_,q,es,ep,hq,h2,h3,h4,h5⟩;rw[Qp (QaW ec e (fun z=>nomatch z))];exact ec
end
noncomputable def Qdy(i:Expr):Prop:=∀ov iv,subscripted i false ov iv=operate [ov,iv] (getItem ov iv)
theorem xU{prog:Program}{w:World}{A:Around}{E:Value->Shared->Prop}{s:Shared}{env:Env}{value slice:Expr}{pos:Pos}{T id:String}{Q:Value->Shared->Prop}
  (hl:typeLookup (.type T) "__getitem__"=pure (some (.builtin id))) (hs:Qdy slice)
  (h:wpAny (model prog w) A (eval value env) (fun o s₁=>wpAny (model prog w) A (eval slice env) (fun i s₂=>s₂.TypeIs o T/\wpAny (model prog w) A (getItem o i) Q E s₂) E s₁) E s):
  wpAny (model prog w) A (eval (.Subscript value slice pos) env) Q E s:=by
 refine Subscript_ (wpAny_mono h (fun o s₁ h₁=>wpAny_mono h₁ (fun i s₂ h₂=>?_) fun _ _ x=>x) fun _ _ x=>x);obtain⟨hT,h₂⟩:=h₂;unfold subscriptTail;refine wpAny_bind ?_;rw[getitemInPython_of_ne hT.not_modules];refine wpAny_bind (wpAny_specialOf hT hl ?_);have fin:wpAny (model prog w) A (subscripted slice false o i) (fun r s₃=>wpAny (model prog w) A (letTemporaryGo value o r>>=fun _=>pure r) Q E s₃) E s₂:=by
  rw[hs o i];exact wpAny_operating (wpAny_mono h₂ (fun r s₃ h₃=>wpAny_bind (wpAny_letTemporaryGo (wpAny_pure h₃))) fun _ _ x=>x)
 first
  |exact wpAny_pure (wpAny_bind fin)
  |exact wpAny_bind (wpAny_pure (wpAny_bind fin))
  |exact wpAny_bind fin
theorem qt{X:Cx}{pins:List (Addr × Obj)}{σ:St}{H:Hp}{s:Shared}{a:Addr}{y:V}{o:Option V}(I:Inv X pins σ H s)(g:jJ H a y o):s.TypeIs (.ref a) "dict":=by
 rcases g with⟨kvs,k,e,_,_⟩|⟨kvs,k,b,e,_,_,_⟩
 ·obtain⟨_,_,vs,_,dd⟩:=xQ I.hok e;exact dd.typeIs
 ·obtain⟨_,_,xs,_,dd⟩:=xR I.hok e;exact dd.typeIs
noncomputable def Qcx(td ty:TE):TE:=fun σ H Q=>td σ H fun x H1=>ty σ H1 fun y H2=>∃a v,x=.ref a/\jJ H2 a y (some v)/\Q v H2
noncomputable def QdY(td ty tv:TE):TS:=fun D σ H=>tv σ H fun v H1=>td σ H1 fun x H2=>ty σ H2 fun y H3=>∃a H4,x=.ref a/\Qaq H3 a y v H4/\D.nx σ H4
section
variable {X:Cx}{o i e value:Expr}{pos pos' tpos:Pos}{td ty tv:TE}
theorem KO(hu:X.A.units+1<cLine)(ho:PE X o td)(hi:PE X i ty)(hs:Qdy i):PE X (.Subscript o i pos) (Qcx td ty):=by
 intro pins s σ H Q I h;refine xU PySem.F.slot_dict_getitem.lookup hs (thn (ho pins s σ H _ I h) fun u s1⟨x,H1,I1,rx,q1⟩=>thn (hi pins s1 σ H1 _ I1 q1) fun iv s2⟨y,H2,I2,ry,a,v,ex,g,q2⟩=>?_);subst ex;obtain rfl:u=Value.ref a:=rx;exact⟨qt I2 g,xS hu I2 g ry fun w' s3 I3 rw'=>⟨v,H2,I3,rw',q2⟩⟩
theorem xV(hu:X.A.units+1<cLine)(ho:PE X o td)(hi:PE X i ty)(hv:PE X value tv)(hs:swapsWith value (some (.Subscript o i pos')) pos.line X.env=pure false):
  PS X (.Assign [.Subscript o i pos'] value pos) (QdY td ty tv):=by
 intro pins s σ H D I h;refine wpAny_Assign_Subscript (thn (hv pins s σ H _ I h) fun r s1⟨v,H1,I1,rv,q1⟩=>thn (ho pins s1 σ H1 _ I1 q1) fun u s2⟨x,H2,I2,rx,q2⟩=>thn (hi pins s2 σ H2 _ I2 q2) fun iv s3⟨y,H3,I3,ry,a,H4,ex,g,q3⟩=>?_) hs;subst ex;obtain rfl:u=Value.ref a:=rx;exact xT hu I3 g ry rv fun s4 I4=>⟨σ,H4,I4,q3⟩
end
theorem jK{P:Program}{w:World}{H:Hp}(h:Heap)(hb:sysModules<h.objs.size):Jk P w H (h.push {cls:=.type "dict",data:=.dict #[]}) h.objs.size (.dK []):=
 ⟨uQ _,beq_eq_false_iff_ne.mpr (Ne.symm (Nat.ne_of_lt hb)),[],.nil,Heap.DictOf.new h⟩
noncomputable def Qas:TE:=fun _ H Q=>∀p,H p=none->Q (.ref p) (upd H p (.dK []))
section
variable {X:Cx}{pos:Pos}
theorem vK:PE X (.Dict [] [] pos) Qas:=fun pins s σ H Q I h=>
 wpAny_Dict_empty ⟨.ref s.heap.objs.size,_,I.laid (a:=s.heap.objs.size) (o:=.dK []) (t':=s.toks) (fun _ _ q=>Heap.get?_push_of_some _ q) (uq _) (jK s.heap I.big),rfl,h _ (I.hok.fresh (uq _))⟩
end
noncomputable def xW:List (TE × TE)->St->Hp->(List (V × V)->Hp->Prop)->Prop
 |[],_,H,Q=>Q [] H
 |(tk,tv)::r,σ,H,Q=>tk σ H fun x H1=>tv σ H1 fun y H2=>xW r σ H2 fun ps H3=>Q ((x,y)::ps) H3
noncomputable abbrev VV:List (V × V)->List (Value × Value)->Prop:=Paired fun p q=>RelV p.1 q.1/\RelV p.2 q.2
noncomputable def PPs(X:Cx)(pos:Pos)(keys:List (Option Expr))(values:List Expr)(trs:List (TE × TE)):Prop:=
 ∀(pins:List (Addr × Obj))(s:Shared)(σ:St)(H:Hp)(Q:List (V × V)->Hp->Prop),Inv X pins σ H s->xW trs σ H Q->
  wpAny (model X.prog X.w) X.A (evalPairs (pairTrees keys values X.env pos)) (fun vs s'=>∃ps H',Inv X pins σ H' s'/\VV ps vs/\Q ps H') X.xe s
theorem xX{X:Cx}{pos:Pos}:PPs X pos [] [] []:=fun pins s σ H Q I h=>pairTrees_nil_walk ⟨[],H,I,.nil,h⟩
theorem Yj{X:Cx}{pos:Pos}{k v:Expr}{ks:List (Option Expr)}{vs:List Expr}{tk tv:TE}{trs:List (TE × TE)}(hk:PE X k tk)(hv:PE X v tv)(hr:PPs X pos ks vs trs):
  PPs X pos (some k::ks) (v::vs) ((tk,tv)::trs):=fun pins s σ H Q I h=>
 pairTrees_cons_walk (thn (hk pins s σ H _ I h) fun u s1⟨x,H1,I1,rx,q1⟩=>thn (hv pins s1 σ H1 _ I1 q1) fun w2 s2⟨y,H2,I2,ry,q2⟩=>
  thn (hr pins s2 σ H2 _ I2 q2) fun ws s3⟨ps,H3,I3,rel,q3⟩=>⟨(x,y)::ps,H3,I3,.cons ⟨rx,ry⟩ rel,q3⟩)
noncomputable def Kg(kvs more:List (Key × V)):List (Key × V):=more.foldl (fun acc kv=>putK acc kv.1 kv.2) kvs
theorem KV.merge:∀{more:List (Key × V)}{rs:List (Key × Value)}{kvs:List (Key × V)}{vs:List (Key × Value)},KV more rs->KV kvs vs->KV (Kg kvs more) (merged vs rs):=by
 intro more rs kvs vs r;unfold KV at r
 induction r generalizing kvs vs with
 |nil=>intro q;exact q
 |@cons p q ps qs h t ih=>
  intro r0;have e:KV (putK kvs p.1 p.2) (stored vs q.1 q.2):=by
   have:=r0.put p.1 h.2;rw[←h.1];exact this
  exact ih e
theorem Kh:∀(more kvs:List (Key × V)),(Kg kvs more).length<=kvs.length+more.length
 |[],kvs=>by show kvs.length<=kvs.length+0;omega
 |p::r,kvs=>by
  have h1:=Kh r (putK kvs p.1 p.2);have h2:=XY kvs p.1 p.2;show(Kg (putK kvs p.1 p.2) r).length<=_;rw[uw];omega
theorem VU{P:Program}{w:World}:∀{kvs:List (Key × V)}{ws:List (Value × Value)},VV (kvs.map fun kv=>(kV kv.1,kv.2)) ws->∃rs,Carries (Q8 P w) ws rs/\KV kvs rs
 |[],_,r=>by rw[List.map_nil]at r;cases r;exact⟨[],True.intro,.nil⟩
 |p::kvs,_,r=>by
  rw[uN]at r;cases r with
  |@cons a b as bs h t=>
   obtain⟨rs,c,q⟩:=VU (P:=P) (w:=w) t;obtain⟨b1,b2⟩:=b;exact⟨(p.1,b2)::rs,⟨qp h.1,rfl,c⟩,.cons ⟨rfl,h.2⟩ q⟩
noncomputable def vL(trs:List (TE × TE)):TE:=fun σ H Q=>∀p,H p=none->xW trs σ (upd H p (.dK [])) fun ps H2=>H2 p=some (.dK [])/\∃kvs:List (Key × V),ps=kvs.map (fun kv=>(kV kv.1,kv.2))/\kvs.length<=15/\Q (.ref p) (upd H2 p (.dK (Kg [] kvs)))
theorem xY{X:Cx}{pos:Pos}{keys:List (Option Expr)}{values:List Expr}{trs:List (TE × TE)}(h:PPs X pos keys values trs)(hall:keys.all (·.isSome)=true)(hl:keys.length=values.length)(h0:keys≠[])
  (h15:keys.length<=15):PE X (.Dict keys values pos) (vL trs):=by
 intro pins s σ H Q I q;have hn:=I.hok.fresh (uq s.heap.objs.size);have I1:=I.laid (a:=s.heap.objs.size) (o:=.dK []) (h':=s.heap.push {cls:=.type "dict",data:=.dict #[]}) (t':=s.toks) (fun _ _ q=>Heap.get?_push_of_some _ q) (uq _) (jK s.heap I.big);refine wpAny_Dict_walk (knd:=Q8 X.prog X.w) hall hl h0 h15 (thn (h pins _ σ _ _ I1 (q _ hn)) fun ws s2⟨ps,H2,I2,rel,e,kvs,ep,lk,q2⟩=>?_);subst ep;obtain⟨rs,c,rk⟩:=VU (P:=X.prog) (w:=X.w) rel;obtain⟨z,hd,vs0,r0,dd⟩:=Qcw I2.hok e;cases r0;refine⟨rs,c,dd,fun h' dd' hs=>⟨.ref s.heap.objs.size,_,?_,rfl,q2⟩⟩;have hz:(Kg [] kvs).length<=sizeLine:=by
  have h1:=Kh kvs [];rw[List.length_nil]at h1;rw[sizeLine_eq];omega
 have he:∃q,h'.get? s.heap.objs.size=some q:=let ⟨q,_,_,hq,_⟩:=dd';⟨q,hq⟩;exact qr I2 (by rw[e];exact True.intro) hs he (Qar hz hd (rk.merge .nil) dd')
structure M2(X:Cx)(o:Expr)(m:Str)(apos:Pos)(e f:Expr)(cpos:Pos):Prop where
 base:attributeBase o m X.env (eval o X.env)=eval o X.env
 few:((backTo cpos (starEach [e,f] X.env)).all (fun x=> !x.1)&&(backToKw cpos (keywordEach [] X.env)).all (fun x=>x.1.isSome)
  &&decide (([e,f]:List Expr).length+([]:List Keyword).length+(if([]:List Keyword).isEmpty then 0 else 1)<30))=true
 line:(apos.endLine==cpos.line)=true
 trees:backTo cpos (starEach [e,f] X.env)=[(false,eval e X.env),(false,eval f X.env)]
noncomputable def IsD(H:Hp)(a:Addr):Prop:=(∃kvs,Rd H a (.dK kvs))\/∃kvs,Rd H a (.dT kvs)
theorem Qcy{X:Cx}{pins:List (Addr × Obj)}{σ:St}{H:Hp}{s:Shared}{a:Addr}(I:Inv X pins σ H s)(d:IsD H a):
  s.TypeIs (.ref a) "dict"/\(∀b,Value.ref a=.ref b->∃ob,s.heap.get? b=some ob/\ob.dict=none)/\(a==sysModules)=false:=by
 rcases d with⟨kvs,e⟩|⟨kvs,e⟩
 ·obtain⟨_,hd,vs,_,dd⟩:=xQ I.hok e;refine⟨dd.typeIs,fun b q=>?_,hd⟩;cases q;obtain⟨ob,_,_,h1,h2,_⟩:=dd;exact⟨ob,h1,h2.2.1⟩
 ·obtain⟨_,hd,xs,_,dd⟩:=xR I.hok e;refine⟨dd.typeIs,fun b q=>?_,hd⟩;cases q;obtain⟨ob,_,_,h1,h2,_⟩:=dd;exact⟨ob,h1,h2.2.1⟩
section
variable {X:Cx}{pins:List (Addr × Obj)}{σ:St}{H:Hp}{s:Shared}{a:Addr}{y d:V}{u r:Value}{o:Option V}{A:Around}{E:Value->Shared->Prop}
theorem Qcz{Q:Value->Shared->Prop}(hu:A.units+1<cLine)(I:Inv X pins σ H s)(g:jJ H a y o)(ry:RelV y u)(rd:RelV d r)(h:∀w' s',Inv X pins σ H s'->RelV (o.getD d) w'->Q w' s'):
  wpAny (model X.prog X.w) A (call (.builtin "dict.get") [.ref a,u,r]) Q E s:=by
 rcases g with⟨kvs,k,e,ey,l⟩|⟨kvs,k,b,e,ey,eb,l⟩
 ·subst ey;obtain⟨z,hd,vs,rel,dd⟩:=xQ I.hok e;refine call_meetsIn slot_dict_get dd.typeIs entry_dict_get (args_dict_get_3 _ _ _) (meets_dict_get_default (Q8 X.prog X.w) a (qp ry) hd r) ⟨_,dd.mapOf,h _ _ (I.tok _) ?_⟩;rw[l];exact(rel.val k).getD rd
 ·subst ey;cases(show u=Value.ref b from ry);obtain⟨z,hd,xs,rel,dd⟩:=xR I.hok e;refine call_meetsIn slot_dict_get dd.typeIs entry_dict_get (args_dict_get_3 _ _ _) (meetsH_dict_get_default (tupleKind (Q8 X.prog X.w)) a b hd r) ⟨tupleKind_room_in1 hu,k,xs,jI I.hok eb,dd,h _ _ (I.tok _) ?_⟩;rw[l];exact(rel.val k).getD rd
end
noncomputable def QcA(td ty tx:TE):TE:=fun σ H Q=>td σ H fun x H1=>∃a,x=.ref a/\IsD H1 a/\ty σ H1 fun y H2=>tx σ H2 fun z H3=>∃o,jJ H3 a y o/\Q (o.getD z) H3
section
variable {X:Cx}{o e f:Expr}{apos cpos:Pos}{td ty tx:TE}
theorem vM(hu:X.A.units+1<cLine)(ho:PE X o td)(he:PE X e ty)(hf:PE X f tx)(m:M2 X o "get" apos e f cpos):PE X (.Call (.Attribute o "get" apos) [e,f] [] cpos) (QcA td ty tx):=by
 intro pins s σ H Q I h;refine wpAny_Call_method m.base m.few m.line plainAttrs_dict slot_dict_get type_dict_get (thn (ho pins s σ H _ I h) fun u s1⟨x,H1,I1,rx,a,ex,d,q1⟩=>?_);subst ex;obtain rfl:u=Value.ref a:=rx;obtain⟨t1,t2,_⟩:=Qcy I1 d;refine⟨t1,t2,?_⟩;rw[m.trees];refine Calls.callWith_builtin rfl (Calls.evalArgs_plain (Calls.spliced_cons (thn (he pins s1 σ H1 _ I1 q1) fun iv s2⟨y,H2,I2,ry,q2⟩=>
  Calls.spliced_cons (thn (hf pins s2 σ H2 _ I2 q2) fun fv s3⟨z,H3,I3,rz,ov,g,q3⟩=>Calls.spliced_nil ?_))))
 exact Qcz hu I3 g ry rz fun w' s4 I4 rw'=>⟨_,H3,I4,rw',q3⟩
end
end L2
namespace Att
open PySem PySem.W PySem.Calls PyProof.Rows
theorem WR{P:Params}{h:Heap}:∀(ns:List Int)(vs:List Value),WellAll P h vs (ns.map WData.int)->IntsAre vs ns:=by
 intro ns
 induction ns with
 |nil=>
  intro vs w;rw[List.map_nil]at w;cases w;exact .nil
 |cons n ns ih=>
  intro vs w;rw[uN]at w;cases w with
  |cons a b=>
   cases a;exact .cons _ _ (ih _ b)
theorem xZ{l:OpenLaw}{n:Nat}(hn:l.most=some n){P:Params}{h:Heap}{args:List WData}{vals:List Value}
  (hpre:l.row.toRowW.claim.pre args=true) (hwl:WellAll P h vals args):
  ∃a vs ns,vals=[Value.ref a]/\args=[WData.list (ns.map WData.int)]/\h.get? a=some {cls:=.type "list",data:=.seq vs.toArray}/\IntsAre vs ns/\ns.length<=n:=by
 have hsh:WShape.hasAll [] args [.list .int]=true:=(pre_splitW hpre).1;have hc:l.pre.holds [] {args:=args}=true:=(pre_splitW hpre).2;obtain⟨d,r,rfl,h1,h2⟩:=hasAllW_cons hsh;obtain rfl:=hasAllW_nil h2;obtain⟨xs,rfl,h3⟩:=hasW_list h1;obtain⟨ns,rfl⟩:=items_int h3;have hlen:ns.length<=n:=by
  unfold OpenLaw.pre at hc;have h4:(WTm.not (.lt (.lit (.int (n:Int))) (.len (.arg 0)))).holds [] {args:=[.list (ns.map .int)]}=true:=by
   have h4:=(holds_andW hc).1;rw[hn]at h4;exact h4
  have h5:=condW_of h4 (w_not (w_lt w_lit (w_len_list (w_arg rfl))));rw[uk]at h5;refine Nat.le_of_not_lt fun q=>?_;have q':(n:Int)<((ns.length:Nat):Int):=by omega
  first
   |(rw[uo q']at h5;exact absurd h5 (by decide))
   |(simp at h5;omega)
 cases hwl with
 |cons w1 w2=>
  cases w2;cases w1 with
  |list ho hall=>exact⟨_,_,ns,rfl,rfl,ho,WR ns _ hall,hlen⟩
theorem x5(l:OpenLaw)(args:List WData):l.row.toRowW.claim.post args (.bool true) args=true:=
 postW_of (r:=l.row.toRowW) (X:=(true==true))
  (show WShape.has [] (.bool true) .bool=true by first|rfl|decide|simp[WShape.has,WShape.arms,WShape.armsAll])
  (show(WTm.eq .res (.lit (.bool true))).value [] {args:=args,res:=some (.bool true),after:=args}=some (.bool (true==true))from w_eq_bool (w_res rfl) w_lit) rfl
theorem qu{l:OpenLaw}{n:Nat}{q:Program}{loose:List Str}{XP:(Str->Option Value)->Heap->Prop}{YP:World->Heap->Prop}{d:DefRec}
  (hn:l.most=some n) (hdf:d.params.defaults=[])
  (call:∀(w:World)(s₀ s₁:Shared)(mg mb:Str->Option Value)(fa:Addr)(o:Obj)(pm cd doc:Value)(a:Addr)(vs:List Value)(ns:List Int),
   Ground q loose [] XP w s₀ mg mb s₁.heap->YP w s₁.heap->
   s₁.heap.get? fa=some o->o.data=.func (docDef d.name d.params d.body d.scope pm cd doc)->s₁.heap.CodeRec cd d.name->mg d.name=some (.ref fa)->
   s₁.heap.get? a=some {cls:=.type "list",data:=.seq vs.toArray}->IntsAre vs ns->ns.length<=n->s₁.gens= #[]->
   codeAny (model l.prog w) callerA (.call (.ref fa) ⟨[.ref a],[]⟩) (fun r s'=>r=.ok (.ret (.bool true))/\OldK s₁.heap s'.heap/\s'.os=s₁.os/\AllBare s'.gens) s₁):
  WalkO q loose XP YP l.row.toRowW d [] (fun f vs=>PySem.call f vs):=by
 intro w s₀ s₁ mg mb G Y fa o pm cd doc dV kV ho hd hcd hD hmg hg args vals as hpre hlay hrd hwl hlo;obtain rfl:dV=.none:=Dflts.none hD hdf;obtain rfl:kV=.none:=Dflts.noKw hD;obtain⟨a,vs,ns,rfl,rfl,hobj,hints,hlen⟩:=xZ hn hpre hwl;refine enter_call (codeAny_mono (call w s₀ s₁ mg mb fa o pm cd doc a vs ns G Y ho (fd_plain hd) hcd hmg hobj hints hlen hg) fun r s' hq=>?_);obtain⟨rfl,h2,h3,h4⟩:=hq;exact⟨.inl ⟨.bool true,.bool true,[],rfl,fun _=>rfl,.bool true,x5 l _,fun _=>⟨List.Pairwise.nil,fun _ hm=>(nomatch hm)⟩⟩,h2,h3,h4⟩
end Att
namespace L2
open PySem PySem.Spec PyProof.Rows
theorem Ut:∀{vs:List Value}{ns:List Int},IntsAre vs ns->Vals (ns.map V.int) vs
 |_,_,.nil=>.nil
 |_,_,.cons n t h=>.cons ⟨t,rfl⟩ (Ut h)
noncomputable def JR(s:Stmt):Arguments:=match s with
 | .FunctionDef _ a _ _ _ _ _ _ _ _=>a
 |_=>{posonlyargs:=[],args:=[],vararg:=none,kwonlyargs:=[],kw_defaults:=[],kwarg:=none,defaults:=[]}
noncomputable def Q3(s:Stmt):List Stmt:=match s with
 | .FunctionDef _ _ b _ _ _ _ _ _ _=>b
 |_=>[]
noncomputable def Qf(s:Stmt):Scope:=match s with
 | .FunctionDef _ _ _ _ _ _ sc _ _ _=>sc
 |_=>{kind:=.function,names:=[],isGenerator:=false,isCoroutine:=false}
noncomputable abbrev E0:XK:=fun _ _ _=>False
structure Fun(K:PySem.W.Frag)(x qual:Str)(st:Stmt)(f:Addr)(fd:FuncData):Prop where
 ex:∃(oc:Value)(od:Option Addr)(kV doc pm:Value)(an:Option Addr)(cdv ct:Value)(osl:Array (Option Value)),
  fd=fnOf x qual (JR st) (Q3 st) (Qf st) .none kV doc pm an cdv ct/\K.lookup f=some ⟨oc,od,.func fd,osl⟩/\codeIn K cdv qual=true
 kp:keepIn K (.ref f)=true
section
variable {P:Program}{w:World}{K:PySem.W.Frag}{mg:Str->Option Value}{base:Heap}
theorem Fun.binds{x qual:Str}{st:Stmt}{f:Addr}{fd:FuncData}{ps:List Str}(F:Fun K x qual st f fd)
  (h:∀(kV doc pm:Value)(an:Option Addr)(cdv ct:Value)(us:List Value),us.length=ps.length->bindArgs (fnOf x qual (JR st) (Q3 st) (Qf st) .none kV doc pm an cdv ct) ⟨us,[]⟩=pure (ps.zip us)):Binds K fd ps []:=by
 obtain⟨oc,od,kV,doc,pm,an,cdv,ct,osl,rfl,lk,hcd⟩:=F.ex;exact .all (h kV doc pm an cdv ct)
end
theorem QcB{A:Around}{k:Nat}(hr:Room k A):A.units+1<cLine:=Nat.lt_of_le_of_lt (Nat.add_le_add_left (by decide:1<=64) _) hr.units
section
variable {X:Cx}
theorem pv(i:Nat){x:Str}{pos:Pos}(hN:X.N[i]? =some x:=by rfl)(hv:Vis X.env.scope x:=by first|exact Or.inl rfl|exact Or.inr (Or.inl rfl)|exact Or.inr (Or.inr rfl))(hd:(x==("__debug__":Str))=false:=by decide)
  (hcd:(x==("__classdict__":Str))=false:=by decide):PE X (.Name x pos) (Xa i):=Qai hN hv hd hcd
end
theorem QN{A B:Prop}(h:B):if false=true then A else B:=by
 rw[if_neg Bool.false_ne_true];exact h
theorem QQ{A B:Prop}(h:A):if true=true then A else B:=by
 rw[if_pos rfl];exact h
noncomputable def Qk(H H':Hp):Prop:=∀b o,H b=some o->H' b=some o
theorem Qk.refl(H:Hp):Qk H H:=fun _ _ h=>h
theorem Qk.trans{H H1 H2:Hp}(a:Qk H H1)(b:Qk H1 H2):Qk H H2:=fun c o h=>b c o (a c o h)
theorem Qk.free{H H':Hp}(e:Qk H H'){l:Addr}(h:H' l=Option.none):H l=Option.none:=by
 cases q:H l with
 |none=>rfl
 |some o=>
  rw[e l o q]at h;cases h
theorem Jk.ex{P:Program}{w:World}{H:Hp}{h:Heap}{a:Addr}{o:HO}(x:Jk P w H h a o):∃ob,h.get? a=some ob:=by
 cases o with
 |lst xs=>obtain⟨_,_,_,_,e⟩:=x;exact⟨_,e⟩
 |tup xs=>obtain⟨_,_,_,ob,e,_⟩:=x;exact⟨_,e⟩
 |dK kvs=>obtain⟨_,_,_,_,o,_,_,e,_⟩:=x;exact⟨_,e⟩
 |dT kvs=>obtain⟨_,_,_,_,o,_,_,e,_⟩:=x;exact⟨_,e⟩
 |set S n=>obtain⟨o,_,_,_,e,_⟩:=x;exact⟨_,e⟩
 |ins C dx fs=>obtain⟨_,_,_,e,_⟩:=x;exact⟨_,e⟩
 |own y=>exact x
 |xd fs=>obtain⟨_,⟨_,_,_,e,_⟩,_⟩:=x;exact⟨_,e⟩
 |rng lo hi=>obtain⟨_,_,_,e⟩:=x;exact⟨_,e⟩
 |frz ob u=>obtain⟨e,_⟩:=x;exact⟨_,e⟩
 |tbl ps=>exact⟨_,(show h.get? a=some _ from x)⟩
 |met f y=>exact⟨_,(show h.get? a=some _ from x)⟩
 |ext φ=>obtain⟨_,e,_⟩:=x;exact e
noncomputable def Qa9(h:Heap)(e T:Addr)(cls:Value):Prop:=
 ∃oe vs oT ts a0,h.get? e=some oe/\oe.cls=cls/\oe.data=.fields vs/\vs[0]? =some a0/\vs[1]? =some (.ref T)/\T≠e/\h.get? T=some oT/\oT.data=.fields ts/\ts[3]? =some .none
noncomputable def CXE(P:Program)(w:World):CXT:=fun outer H s E e s'=>
 ∃a T cls H',e=.ref a/\Qa9 s'.heap a T cls/\s.heap.get? a=none/\s.heap.get? T=none/\H' a=none/\H' T=none/\s'.os=s.os/\AllBare s'.gens/\
  Un (frs outer) [] H H' s.heap s'.heap/\HOk P w H' s'.heap/\E cls none H'
theorem Qu{P:Program}{w:World}{X:Cx}:Passes (CXE P w) X E0:=by
 rintro _ _ _ _ _ _ _ ⟨_,_,_,_,_,_,_,_,_,_,_,_,_,_,h⟩;exact h.elim
section
variable {X:Cx}{pins:List (Addr × Obj)}{σ:St}{H:Hp}{s:Shared}
theorem Uu{E:XK}{a:Addr}{cls a0:Value}{ys:List Addr}{h'':Heap}(I:Inv X pins σ H s)(hex:X.ex=[])(hstk:X.stack=X.env::X.outer)
  (hys:∀y∈ys,H y=none/\X.s₀.heap.get? y=none) (ha:H a=none) (ha0:X.s₀.heap.get? a=none)
  (fl:Heap.FlyingW (hideAll s.heap (frs X.stack++ys)) X.outer a cls a0 h'') (up:∀b∈frs X.stack,∀o,s.heap.get? b=some o->(∀vs,o.data≠ .fields vs)->∃sl,h''.get? b=some {o with slots:=sl}) (hE:E cls none H):
  CXE X.prog X.w X.outer X.H₀ X.s₀ E (.ref a) {s with heap:=h''}:=by
 obtain⟨f1,f2,f3,oe,vs,T,oT,ts,t1,⟨t2,t3⟩,t4,t5,t6,t7,t8,t9,t10⟩:=fl;have nex:∀b:Addr,b∉X.ex:=fun b hb=>by rw[hex]at hb;cases hb
 have inB:∀b o,s.heap.get? b=some o->b∉frs X.stack->b∉ys->h''.get? b=some o:=fun b o e n1 n2=>
  f1 b o (hideAll_get _ e fun hm=>(List.mem_append.mp hm).elim n1 n2)
 have fr:∀b∈frs X.stack,∃o,s.heap.get? b=some o/\∀vs,o.data≠ .fields vs:=fun b hb=>(I.stack.mem hb).2;have old:∀b o,X.s₀.heap.get? b=some o->b∉ys:=fun b o e hb=>by rw[(hys b hb).2]at e;cases e
 have notF:∀b,b∈frs X.stack->b∈X.env.locals::X.fs:=I.Kc;have neL:∀b o,X.s₀.heap.get? b=some o->b≠X.env.locals:=fun b o e=>Nat.ne_of_lt (Nat.lt_of_lt_of_le (Heap.lt_size e) I.ok.above);have noT:∀o,s.heap.get? T=some o->T∉ys->False:=fun o e n2=>by
  by_cases hf:T∈frs X.stack
  ·obtain⟨o2,e2,d2⟩:=fr T hf;obtain⟨sl,e3⟩:=up T hf o2 e2 d2;rw[t8]at e3;cases e3;exact d2 _ t9
  ·have:=hideAll_get (frs X.stack++ys) e fun hm=>(List.mem_append.mp hm).elim hf n2;rw[t6]at this;cases this
 refine⟨a,T,cls,H,rfl,⟨oe,vs,oT,ts,a0,t1,t2,t4,t3,t5,t7,t8,t9,t10⟩,ha0,?_,ha,?_,I.os,I.bare,⟨fun b o e n hb hx=>?_,fun b o e n hb hx=>?_,fun b o e n hx=>I.base.free b o e n (nex b),fun b o e hx=>?_,I.base.Wz,I.base.frzs,I.base.tbls⟩,fun b o e=>?_,hE⟩
 ·cases q:X.s₀.heap.get? T with
  |none=>rfl
  |some o=>
   obtain⟨o',e'⟩:=I.base.there T o q (nex T);exact(noT o' e' (old T o q)).elim
 ·cases q:H T with
  |none=>rfl
  |some u=>
   obtain⟨ob,e⟩:=(I.hok T u q).ex;exact(noT ob e fun hm=>by rw[(hys T hm).1]at q;cases q).elim
 ·refine inB b o (I.base.keep b o e n hb (nex b)) (fun hm=>?_) (old b o e);rcases List.mem_cons.mp (notF b hm)with z|z
  ·exact neL b o e z
  ·exact hb z
 ·obtain⟨sl,e1⟩:=I.base.slot b o e n hb (nex b);have hm:b∈frs X.stack:=by rw[hstk];unfold frs;rw[List.filterMap_cons];split<;>first|exact hb|exact uz _ hb
  obtain⟨o2,e2,d2⟩:=fr b hm;rw[e1]at e2;cases e2;obtain⟨sl',e3⟩:=up b hm _ e1 d2;exact⟨sl',e3⟩
 ·obtain⟨o',e1⟩:=I.base.there b o e (nex b)
  by_cases hm:b∈frs X.stack
  ·obtain⟨o2,e2,d2⟩:=fr b hm;obtain⟨sl',e3⟩:=up b hm _ e2 d2;exact⟨_,e3⟩
  ·exact⟨o',inB b o' e1 hm (old b o e)⟩
 ·refine(I.hok b o e).zB (fun c u hc q=>inB c u q (fun hm=>?_) fun hm=>?_) (fun _ q=>q) fun _ _ q=>q
  ·have z:=I.XV c hm;rcases hc with rfl|hc
   ·rw[e]at z;cases z
   ·rw[hc]at z;cases z
  ·have z:=(hys c hm).1;rcases hc with rfl|hc
   ·rw[e]at z;cases z
   ·rw[hc]at z;cases z
theorem XZ(I:Inv X pins σ H s)(ys:List Addr):s.heap.FunFrames (hideAll s.heap (frs X.stack++ys)) X.stack:=
 funFrames_hide I.stack fun env he a hf=>uy _ (List.mem_filterMap.mpr ⟨env,he,hf⟩)
end
noncomputable def QcC(X:Cx)(E:XK):Prop:=∀(pins:List (Addr × Obj))(σ:St)(H:Hp)(s:Shared)(h':Heap)(a:Addr)(cls:Value)(args:List Value),
 Inv X pins σ H s->Heap.MadeExcOf s.heap h' a cls args->E cls none H->X.xe (.ref a) {s with heap:=h'}
structure Fram(X:Cx)(E:XK):Prop where
 ex:X.ex=[]
 stk:X.stack=X.env::X.outer
 fr:X.env.frame=some X.env.locals
 xe:∀e s',wpAny (model X.prog X.w) X.A (leaving X.env e) (fun _ s''=>CXE X.prog X.w X.outer X.H₀ X.s₀ E e s'') (fun e' s''=>CXE X.prog X.w X.outer X.H₀ X.s₀ E e' s'') s'->X.xe e s'
theorem qv{P:Program}{w:World}{K:PySem.W.Frag}{mg:Str->Option Value}{base:Heap}{N:List Str}{qual:Str}{scope:Scope}{f:Addr}{cd:Value}{A:Around}{outer:List Env}{s:Shared}{H:Hp}{E:XK}:
  Fram (Yf (CXE P w) P w K mg base N qual scope f cd A outer s H E) E:=⟨rfl,rfl,rfl,fun _ _ h=>h⟩
section
variable {X:Cx}{E:XK}
theorem Uv(F:Fram X E):QcC X E:=by
 intro pins σ H1 s1 h' a cls args I hx hE;have nex:∀b:Addr,b∉X.ex:=fun b hb=>by rw[F.ex]at hb;cases hb
 refine F.xe _ _ ?_;have ff:s1.heap.FunFrames (hideAll s1.heap (frs X.stack++[])) (X.env::X.outer):=by
  have z:=XZ I [];rw[F.stk]at z ⊢;exact z
 refine wpAny_leaves_madeW (s:={s1 with heap:=h'}) (h:=s1.heap) (base:=hideAll s1.heap (frs X.stack++[])) (by rw[←F.stk];exact I.ok.frames) F.fr
  (fun b o q=>of_hideAll _ q) ff hx fun h'' t fl _ _ up=>?_
 refine Uu (s:=s1) (ys:=[]) I F.ex F.stk (fun y hy=>nomatch hy) ?_ ?_ fl (fun b _ o e d=>?_) hE
 ·cases q:H1 a with
  |none=>rfl
  |some u=>
   obtain⟨ob,e⟩:=(I.hok a u q).ex;have:=hx.new;rw[e]at this;cases this
 ·cases q:X.s₀.heap.get? a with
  |none=>rfl
  |some o=>
   obtain⟨o',e'⟩:=I.base.there a o q (nex a);have:=hx.new;rw[e']at this;cases this
 ·exact up b o (hx.keeps b o e) d
theorem ZM(F:Fram X E):Passes (CXE X.prog X.w) X E:=by
 intro pins σ H1 s1 e s' I h;obtain⟨a,T,cls,H',rfl,⟨oe,vs,oT,ts,a0,t1,t2,t3,t4,t5,t6,t7,t8,t9⟩,n1,n2,ha,hT,os,bare,un,hok,hE⟩:=h;have nex:∀b:Addr,b∉X.ex:=fun b hb=>by rw[F.ex]at hb;cases hb
 have I':Inv X pins σ H' s':=I.xB os un hok bare fun b hb=>nomatch hb;have old:∀b,s1.heap.get? b=none->X.s₀.heap.get? b=none:=fun b hb=>by
  cases q:X.s₀.heap.get? b with
  |none=>rfl
  |some o=>
   obtain⟨o',e'⟩:=I.base.there b o q (nex b);rw[hb]at e';cases e'
 refine F.xe _ _ ?_;have ff:s'.heap.FunFrames (hideAll s'.heap (frs X.stack++[a,T])) (X.env::X.outer):=by
  have z:=XZ I' [a,T];rw[F.stk]at z ⊢;exact z
 refine wpAny_leaves_onW (base:=hideAll s'.heap (frs X.stack++[a,T])) (cls:=cls) (a0:=a0) (by rw[←F.stk];exact I.ok.frames) F.fr
  ⟨fun b o q=>of_hideAll _ q,hideAll_none _ (ux _ (by simp)),ff,oe,vs,T,oT,ts,t1,⟨t2,t4⟩,t3,t5,hideAll_none _ (ux _ (by simp)),t6,t7,t8,t9⟩
  fun h'' fl up=>?_
 refine Uu I' F.ex F.stk (fun y hy=>?_) ha (old a n1) fl (fun b _ o e d=>up b o e d) hE;rcases List.mem_cons.mp hy with rfl|hy
 ·exact⟨ha,old _ n1⟩
 ·obtain rfl:=List.mem_singleton.mp hy;exact⟨hT,old _ n2⟩
end
section
variable {X:Cx}
structure Err(K:PySem.W.Frag)(C:Addr):Prop where
 ex:excIn K C [.type "ValueError",.type "Exception",.type "BaseException",.type "object"] "ValueError.__new__"=true
noncomputable def QcD(C:Addr)(E:XK)(t:TA):TS:=fun _ σ H=>t σ H fun vs H1=>vs.length<=sizeLine/\E (.ref C) none H1
theorem jL{C:Addr}{x:Str}{np cpos pos:Pos}{e₀:Expr}{rest:List Expr}{t:TA}{E:XK}(T:QcC X E)(hc:X.calm=true)(hg:Gl X x)(hm:X.mg x=some (.ref C))(hC:Err X.K C)(ha:PA X (e₀::rest) t)
  (he:starEach (e₀::rest) X.env=(false,eval e₀ X.env)::starEach rest X.env:=by rfl) (hpl:(backTo cpos (starEach rest X.env)).any (·.1)=false:=by rfl) (hdb:(x==("__debug__":Str))=false:=by decide):
  PS X (.Raise (some (.Call (.Name x np) (e₀::rest) [] cpos)) none pos) (QcD C E t):=by
 intro pins s σ H D I h;have q:=hC.ex;have O:∃bm N nm q bs hdct sn sub ab col dd k0 k1 k2 k3 k5 mN,X.base.get? C=some (excClassObj nm q C N bs bm hdct sn sub ab col dd k0 k1 k2 k3 k5 "ValueError.__new__")/\X.base.Ns N mN/\mN "__init__"=none/\
   OwnTail X.base [.type "ValueError",.type "Exception",.type "BaseException",.type "object"] bm:=by
  have KX:=I.mod.kin;unfold excIn at q
  split at q
  ·rename_i dd cd sl ho
   split at q
   ·rename_i C' bm k0 k1 k2 k3 n k5 hm hs;simp only[Bool.and_eq_true,beq_iff_eq,Bool.not_eq_true']at q;obtain⟨⟨⟨⟨⟨rfl,rfl⟩,hdel⟩,ht⟩,hok⟩,hni⟩:=q;obtain⟨nm,bs,mro,ns,qn,hd,sn,sub,ab,col,del⟩:=cd;dsimp only at hm hdel hok hni;subst hm hdel;have hsl:sl= #[k0,k1,k2,k3,some (.builtin "ValueError.__new__"),k5]:=by
     obtain⟨l⟩:=sl;simp only at hs;rw[hs]
    subst hsl;exact⟨bm,ns,nm,qn,bs,hd,sn,sub,ab,col,dd,k0,k1,k2,k3,k5,_,KX _ _ ho,.of_isNs (isNs_of_in KX hok),nsMap_none_of_in KX hok hni,tail_of_in KX ht⟩
   ·cases q
  ·cases q
 obtain⟨tl,Nn,nm,qq,bs,hdct,sn,sub,ab,col,dd,k0,k1,k2,k3,k5,mN,h1,h2,h3,h4⟩:=O;refine wpAny_Raise_call_subT (C:=C) (nm:=nm) (q:=qq) (N:=Nn) (bs:=bs) (bm:=tl) (hdct:=hdct) (sn:=sn) (sub:=sub) (ab:=ab) (col:=col) (dd:=dd) (k0:=k0) (k1:=k1) (k2:=k2) (k3:=k3) (k5:=k5)
  excBase_ValueError (mN:=mN) (h4.hasType excBase_ValueError.hasBase) (I.ok.hd hc) (by rw[he];show(false||(backTo cpos (starEach rest X.env)).any (·.1))=false;rw[hpl];rfl) h3 ?_
 refine XW I hg hm ⟨rfl,?_⟩ (hd:=hdb);have w1:=ha cpos pins s σ H _ I h;rw[he]at w1 ⊢;refine Calls.evalArgs_plain (wpAny_mono w1 (fun us s2 q2=>?_) fun _ _ y=>y);obtain⟨vs,H',I2,rv,hl,hE⟩:=q2;refine⟨rfl,?_,I2.bk _ _ h1,h2.keeps I2.bk,h4.keeps I2.bk,fun h' e hm=>T pins σ H' s2 h' e (.ref C) _ I2 hm hE⟩;show us.length<=sizeLine;rw[←rv.length];exact hl
end
section
variable {X:Cx}{pins:List (Addr × Obj)}{σ:St}{H H':Hp}{s:Shared}{h':Heap}
theorem Inv.QdZ{t':Nat}{ch:List Addr}(I:Inv X pins σ H s)
  (hch:∀b∈ch,X.s₀.heap.get? b=none/\b≠X.env.locals/\(∀x c,X.env.cells.lookup x=some c->c≠b)/\∀p∈X.pn++pins,p.1≠b)
  (keep:∀b o,b≠X.env.locals->b∉X.fs->b∉ch->s.heap.get? b=some o->H b=none->h'.get? b=some o)
  (slot:∀b o,b≠X.env.locals->b∈X.fs->b∉ch->s.heap.get? b=some o->H b=none->∃sl,h'.get? b=some {o with slots:=sl})
  (there:∀b o,b∉ch->s.heap.get? b=some o->∃o',h'.get? b=some o')
  (ns:∀m,s.heap.Ns X.env.locals m->h'.Ns X.env.locals m) (hok:HOk X.prog X.w H h'):
  Inv X pins σ H {s with heap:=h',toks:=t'}:=by
 have neL:∀b o,X.s₀.heap.get? b=some o->b≠X.env.locals:=fun b o e=>Nat.ne_of_lt (Nat.lt_of_lt_of_le (Heap.lt_size e) I.ok.above);have neC:∀b o,X.s₀.heap.get? b=some o->b∉ch:=fun b o e hb=>by
  have z:=(hch b hb).1;rw[e]at z;cases z
 have cellK:∀x c,X.env.cells.lookup x=some c->∀v,s.heap.IsCell c v->h'.IsCell c v:=fun x c e v⟨o,ho,hd⟩=>by
  have nch:c∉ch:=fun z=>(hch c z).2.2.1 x c e rfl
  by_cases hc:c∈X.fs
  ·obtain⟨sl,q⟩:=slot c o (I.cne x c e) hc nch ho (I.freeC x c e);exact⟨_,q,hd⟩
  ·exact⟨o,keep c o (I.cne x c e) hc nch ho (I.freeC x c e),hd⟩
 refine⟨I.ok,I.os,I.bare,⟨fun b o e n hb hx=>?_,fun b o e n hb hx=>?_,I.base.free,fun b o e hx=>?_,I.base.Wz,I.base.frzs,I.base.tbls⟩,?_,fun x c e=>?_,I.free,I.freeC,fun p hp=>?_,hok,I.len⟩
 ·exact keep b o (neL b o e) hb (neC b o e) (I.base.keep b o e n hb hx) (I.base.free b o e n hx)
 ·obtain⟨sl,e1⟩:=I.base.slot b o e n hb hx;obtain⟨sl',e2⟩:=slot b _ (neL b o e) hb (neC b o e) e1 (I.base.free b o e n hx);exact⟨sl',e2⟩
 ·obtain⟨o',e1⟩:=I.base.there b o e hx;exact there b o' (neC b o e) e1
 ·obtain⟨m,hn,hl⟩:=I.loc;refine⟨m,ns m hn,fun i x v e1 e2 e3=>?_⟩;obtain⟨u,r,l⟩:=hl i x v e1 e2 e3;refine⟨u,r,?_⟩;rcases l with l|⟨k,c,e,z⟩
  ·exact .inl l
  ·exact .inr ⟨k,c,e,cellK x c e _ z⟩
 ·obtain⟨v,z⟩:=I.cell x c e;exact⟨v,cellK x c e v z⟩
 ·obtain⟨e,n,ne,nf,d⟩:=I.pin p hp;have nch:p.1∉ch:=fun z=>(hch p.1 z).2.2.2 p hp rfl;exact⟨keep p.1 p.2 ne nf nch e n,n,ne,nf,d⟩
noncomputable def zJ(a:Addr)(cls:Value):HO:=.ext fun h=>∃o vs,h.get? a=some o/\o.cls=cls/\o.data=.fields vs
theorem Qba{P:Program}{w:World}{H:Hp}{h:Heap}{a:Addr}{cls:Value}{o:Obj}{vs:Array Value}(e:h.get? a=some o)(hc:o.cls=cls)(hd:o.data=.fields vs):Jk P w H h a (zJ a cls):=
 ⟨⟨o,vs,e,hc,hd⟩,⟨o,e⟩,fun _ _⟨o,vs,e,r⟩ k=>⟨o,vs,k o e,r⟩⟩
theorem Inv.vN{a:Addr}{o:HO}(I:Inv X pins σ H s)(hn:H a=none)(h0:X.s₀.heap.get? a=none)(hL:a≠X.env.locals)(hc:∀x c,X.env.cells.lookup x=some c->c≠a) (hp:∀p∈X.pn++pins,p.1≠a)
  (new:Jk X.prog X.w (upd H a o) s.heap a o):Inv X pins σ (upd H a o) s:=by
 refine⟨I.ok,I.os,I.bare,⟨I.base.keep,I.base.slot,fun b u e n hx=>?_,I.base.there,fun b xs e=>?_,fun b u xs e=>?_,fun b ps e=>?_⟩,I.loc,I.cell,?_,fun x c e=>?_,fun p q=>?_,fun b u e=>?_,I.len⟩
 ·rw[Qp fun z=>by rw[z,h0]at e;cases e];exact I.base.free b u e n hx
 ·have q:=I.base.Wz b xs e;rw[Qp (Qv q hn)];exact q
 ·have q:=I.base.frzs b u xs e;rw[Qp (Qv q hn)];exact q
 ·obtain⟨m,q⟩:=I.base.tbls b ps e;exact⟨m,by rw[Qp (Qv q hn)];exact q⟩
 ·rw[Qp hL.symm];exact I.free
 ·rw[Qp (hc x c e)];exact I.freeC x c e
 ·obtain⟨e,n,r⟩:=I.pin p q;exact⟨e,by rw[Qp (hp p q)];exact n,r⟩
 ·by_cases hb:b=a
  ·subst hb;rw[Qa]at e;cases e;exact new
  ·rw[Qp hb]at e;exact(I.hok b u e).zB (fun c v _ q=>q) (fun c q=>by rw[Qp (Qv q hn)];exact q) fun c xs q=>by rw[Qp (Qv q hn)];exact q
end
noncomputable abbrev Cx.alt(X:Cx)(pn:List (Addr × Obj))(xe:Value->Shared->Prop):Cx:={X with pn:=pn,xe:=xe}
noncomputable abbrev Cx.marked(X:Cx)(v:Value)(xe:Value->Shared->Prop):Cx:={X with A:=X.A.mark (some v),calm:=false,xe:=xe}
section
variable {X:Cx}{pins:List (Addr × Obj)}{σ:St}{H H':Hp}{s:Shared}
theorem Inv.Qd0(I:Inv X pins σ H s)(xe:Value->Shared->Prop):Inv (X.alt (X.pn++pins) xe) [] σ H s:=
 ⟨⟨I.ok.mod,I.ok.kind,I.ok.glob,I.ok.blt,I.ok.above,I.ok.inj,I.ok.has,I.ok.cab,I.ok.hd,I.ok.frames,I.ok.stk,I.ok.exf,I.ok.bs,I.ok.bsz,I.ok.noex,I.ok.exfs,I.ok.qf,I.ok.frf⟩,I.os,I.bare,I.base,I.loc,I.cell,I.free,I.freeC,
  fun p hp=>I.pin p (by simpa using hp),I.hok,I.len⟩
theorem Inv.ofAlt{xe:Value->Shared->Prop}{pins2:List (Addr × Obj)}(I:Inv (X.alt (X.pn++pins) xe) pins2 σ H s):Inv X pins σ H s:=
 ⟨⟨I.ok.mod,I.ok.kind,I.ok.glob,I.ok.blt,I.ok.above,I.ok.inj,I.ok.has,I.ok.cab,I.ok.hd,I.ok.frames,I.ok.stk,I.ok.exf,I.ok.bs,I.ok.bsz,I.ok.noex,I.ok.exfs,I.ok.qf,I.ok.frf⟩,I.os,I.bare,I.base,I.loc,I.cell,I.free,I.freeC,
  fun p hp=>I.pin p (uy _ hp),I.hok,I.len⟩
theorem Inv.jM(I:Inv X pins σ H s)(v:Value)(xe:Value->Shared->Prop):Inv (X.marked v xe) pins σ H s:=
 ⟨⟨I.ok.mod,I.ok.kind,I.ok.glob,I.ok.blt,I.ok.above,I.ok.inj,I.ok.has,I.ok.cab,(fun z=>nomatch z),I.ok.frames,I.ok.stk,I.ok.exf,I.ok.bs,I.ok.bsz,I.ok.noex,I.ok.exfs,I.ok.qf,I.ok.frf⟩,I.os,I.bare,I.base,I.loc,I.cell,I.free,I.freeC,
  I.pin,I.hok,I.len⟩
theorem Inv.Wt{v:Value}{xe:Value->Shared->Prop}(I:Inv (X.marked v xe) pins σ H s)(hh:X.A.handled=none):Inv X pins σ H s:=
 ⟨⟨I.ok.mod,I.ok.kind,I.ok.glob,I.ok.blt,I.ok.above,I.ok.inj,I.ok.has,I.ok.cab,fun _=>hh,I.ok.frames,I.ok.stk,I.ok.exf,I.ok.bs,I.ok.bsz,I.ok.noex,I.ok.exfs,I.ok.qf,I.ok.frf⟩,I.os,I.bare,I.base,I.loc,I.cell,I.free,I.freeC,
  I.pin,I.hok,I.len⟩
theorem name_goes{n:Str}{i:Nat}{pos:Pos}{E:Value->Shared->Prop}{M:Model}{A:Around}{Q:Unit->Shared->Prop}(I:Inv X pins σ H s)(hN:X.N.Nodup)(hi:X.N[i]? =some n)(hl:X.env.scope.names.lookup n=some .local)
  (h:∀s',Inv X pins (σ.set i none) H s'->Q () s'):wpAny M A (do bindName X.env n .none;unbindBehindTheSuite X.env n pos) Q E s:=by
 have hp:(X.env.scope.kind==.class||(X.env.scope.kind==.module&&X.env.locals !=X.env.globals))=false:=by rw[I.ok.kind];rfl
 have hk:X.env.kindOf n=some .local:=hl;refine wpAny_bind (wpAny_bindName (Xv (v:=V.non) I hN hi (.inl hl) rfl (fun s1 I1=>?_) (.inr hl)));unfold unbindBehindTheSuite;refine wpAny_onRaise ?_;unfold unbindName;refine wpAny_bind (wpAny_point (wpAny_bind ?_));unfold deleteName;simp only[hk,hp];rw[if_neg (by decide)];obtain⟨m,hn,hloc⟩:=id I1.loc;obtain⟨u,ru,lk⟩:=hloc i n V.non hi (by rw[List.getElem?_set_self (by rw[I.len];exact(List.getElem?_eq_some_iff.mp hi).1)]) (.inl hl);have hmn:(m n).isSome=true:=by
  rcases lk with⟨_,e⟩|⟨z,_⟩
  ·rw[e];rfl
  ·have z':X.env.scope.names.lookup n=some .cell\/X.env.scope.names.lookup n=some .free:=z;rcases z' with z'|z'<;>(rw[hl]at z';cases z')
 refine wpAny_bind (wpAny_nsDel_keeps hn fun h' v hn' hs=>?_);rw[hmn];simp only[Bool.not_true,Bool.false_eq_true,if_false];refine wpAny_pure (wpAny_point (h _ ?_));obtain⟨oL,_,_,hoL,_⟩:=id hn;have kp:∀b o,b≠X.env.locals->s1.heap.get? b=some o->h'.get? b=some o:=fun b o hb e=>(hs.2 b hb).trans e;refine⟨I1.ok,I1.os,I1.bare,⟨fun b o e n hb hx=>?_,fun b o e n hb hx=>?_,I1.base.free,fun b o e hx=>?_,I1.base.Wz,I1.base.frzs,I1.base.tbls⟩,⟨_,hn',fun j y w e1 e2 e3=>?_⟩,fun y c e=>?_,I1.free,I1.freeC,fun p hp=>?_,fun b ob e=>?_,?_⟩
 ·exact kp b o (Nat.ne_of_lt (Nat.lt_of_lt_of_le (Heap.lt_size e) I1.ok.above)) (I1.base.keep b o e n hb hx)
 ·obtain⟨sl,e1⟩:=I1.base.slot b o e n hb hx;exact⟨sl,kp b _ (Nat.ne_of_lt (Nat.lt_of_lt_of_le (Heap.lt_size e) I1.ok.above)) e1⟩
 ·obtain⟨o',e1⟩:=I1.base.there b o e hx;exact⟨o',kp b _ (Nat.ne_of_lt (Nat.lt_of_lt_of_le (Heap.lt_size e) I1.ok.above)) e1⟩
 ·by_cases hj:j=i
  ·subst hj;rw[List.getElem?_set]at e2;simp only[if_true]at e2
   split at e2<;>cases e2
  ·rw[List.getElem?_set_ne (Ne.symm hj)]at e2;obtain⟨u',r',q⟩:=hloc j y w e1 (by rw[List.getElem?_set_ne (Ne.symm hj)];exact e2) e3;refine⟨u',r',?_⟩;rcases q with⟨k,e⟩|⟨k,c,e,z⟩
   ·refine .inl ⟨k,?_⟩;have:y≠n:=fun e=>hj (Yc hN e1 (e▸hi));simp only[this,if_false];exact e
   ·exact .inr ⟨k,c,e,z.sameBut hs (I1.cne y c e)⟩
 ·obtain⟨w',z⟩:=I1.cell y c e;exact⟨w',z.sameBut hs (I1.cne y c e)⟩
 ·obtain⟨e,n,ne,nf,d⟩:=I1.pin p hp;exact⟨kp p.1 p.2 ne e,n,ne,nf,d⟩
 ·refine(I1.hok b ob e).zB (fun c w' hc q=>kp c w' ?_ q) (fun _ q=>q) fun _ _ q=>q;rintro rfl;have z:=I1.free;rcases hc with rfl|hc
  ·rw[e]at z;cases z
  ·rw[hc]at z;cases z
 ·rw[List.length_set];exact I.len
theorem Inv.looked{a T:Addr}{cls:Value}{h5:Heap}{t':Nat}(I:Inv X pins σ H s)(hstk:X.stack=X.env::X.outer)(F:Qa9 s.heap a T cls)(ha:H a=none)(hT:H T=none)(f1:X.s₀.heap.get? a=none)(f2:X.s₀.heap.get? T=none)
  (hpn:∀p∈X.pn++pins,p.1≠a/\p.1≠T) (st:(hideAll s.heap (frs X.stack++[a,T])).StaysIn h5) (up:s.heap.UpToSlots h5):
  Inv X pins σ H {s with heap:=h5,toks:=t'}:=by
 obtain⟨oe,vs,oT,ts,a0,t1,t2,t3,t4,t5,t6,t7,t8,t9⟩:=F;have two:∀b,b∈[a,T]->b=a\/b=T:=fun b hb=>by simpa using hb
 have recd:∀b,b∈[a,T]->∃o vs,s.heap.get? b=some o/\o.data=.fields vs:=fun b hb=>by
  rcases two b hb with rfl|rfl
  ·exact⟨_,_,t1,t3⟩
  ·exact⟨_,_,t7,t8⟩
 have inB:∀b o,s.heap.get? b=some o->b∉frs X.stack->b∉[a,T]->h5.get? b=some o:=fun b o e n1 n2=>
  st b o (hideAll_get _ e fun hm=>(List.mem_append.mp hm).elim n1 n2)
 have fr:∀b∈frs X.stack,∃o,s.heap.get? b=some o/\∀vs,o.data≠ .fields vs:=fun b hb=>(I.stack.mem hb).2;have inS:∀b∈X.fs,b∈frs X.stack:=fun b hb=>by rw[hstk];unfold frs;rw[List.filterMap_cons];split<;>first|exact hb|exact uz _ hb
 refine I.QdZ (ch:=[a,T]) (fun b hb=>⟨?_,?_,fun x c e z=>?_,fun p hp=>?_⟩) (fun b o hL hb hc e n=>?_) (fun b o hL hb hc e n=>?_) (fun b o hc e=>?_) (fun m hm=>up.ns hm) fun b u e=>?_
 ·rcases two b hb with rfl|rfl
  ·exact f1
  ·exact f2
 ·obtain⟨o,ws,e,d⟩:=recd b hb;rintro rfl;obtain⟨m,⟨o',es,ep,e',d',_⟩,_⟩:=I.loc;rw[e]at e';cases e';rw[d]at d';cases d'
 ·obtain⟨o,ws,e1,d⟩:=recd b hb;obtain⟨v,o',e',d'⟩:=I.cell x c e;rw[z,e1]at e';cases e';rw[d]at d';cases d'
 ·rcases two b hb with rfl|rfl
  ·exact(hpn p hp).1
  ·exact(hpn p hp).2
 ·exact inB b o e (fun hm=>(List.mem_cons.mp (I.Kc b hm)).elim hL hb) hc
 ·obtain⟨o2,e2,d2⟩:=fr b (inS b hb);rw[e]at e2;cases e2;exact up b o e d2
 ·by_cases hm:b∈frs X.stack
  ·obtain⟨o2,e2,d2⟩:=fr b hm;obtain⟨sl,q⟩:=up b o2 e2 d2;exact⟨_,q⟩
  ·exact⟨o,inB b o e hm hc⟩
 ·refine(I.hok b u e).zB (fun c v hc q=>inB c v q (fun hm=>?_) fun hm=>?_) (fun _ q=>q) fun _ _ q=>q
  ·have z:=I.XV c hm;rcases hc with rfl|hc
   ·rw[e]at z;cases z
   ·rw[hc]at z;cases z
  ·have z:H c=none:=by
    rcases two c hm with rfl|rfl
    ·exact ha
    ·exact hT
   rcases hc with rfl|hc
   ·rw[e]at z;cases z
   ·rw[hc]at z;cases z
noncomputable def Qe8(K:PySem.W.Frag)(C:Addr)(i n:Nat)(tb:XK->TS)(th:TS):TS:=fun D σ H=>
 tb (fun cls _ H'=>exmOne K cls (.ref C)=some true/\∀a,H' a=none->
  th {nx:=fun σ2 H2=>D.nx (σ2.set i none) H2,rt:=D.rt,bk:=fun σ2 H2=>D.bk (σ2.set i none) H2,ct:=fun σ2 H2=>D.ct (σ2.set i none) H2} ((List.replicate n none).set i (some (.ref a))) (upd H' a (zJ a cls))) D σ H
theorem QcE{body suite:List Stmt}{b₀:Stmt}{x nm:Str}{np hpos pos:Pos}{C:Addr}{i:Nat}{tb:XK->TS}{th:TS}(hc:X.calm=true)(hex:X.ex=[])(hstk:X.stack=X.env::X.outer)(hfr:X.env.frame=some X.env.locals)
  (hg:Gl X x) (hm:X.mg x=some (.ref C)) (hN:X.N.Nodup) (hi:X.N[i]? =some nm) (hl:X.env.scope.names.lookup nm=some .local)
  (hb:∀(E:XK)(pn:List (Addr × Obj))(xe:Value->Shared->Prop),Passes (CXE X.prog X.w) (X.alt pn xe) E->PSs (X.alt pn xe) body (tb E))
  (hs:∀v:Value,PSs (X.marked v fun _ _=>False) (b₀::suite) th) (hdb:(x==("__debug__":Str))=false:=by decide):
  PS X (.Try body [.ExceptHandler (some (.Name x np)) (some nm) (b₀::suite) hpos] [] [] pos) (Qe8 X.K C i X.N.length tb th):=by
 intro pins s σ H D I h;refine wpAny_Try_except ?_;have hpass:Passes (CXE X.prog X.w) (X.alt (X.pn++pins) fun e s'=>∃a T cls σ' H',e=.ref a/\Inv X pins σ' H' s'/\Qa9 s'.heap a T cls/\H' a=none/\H' T=none/\X.s₀.heap.get? a=none/\X.s₀.heap.get? T=none/\
   (∀p∈X.pn++pins,p.1≠a/\p.1≠T)/\exmOne X.K cls (.ref C)=some true/\∀a,H' a=none->
  th {nx:=fun σ2 H2=>D.nx (σ2.set i none) H2,rt:=D.rt,bk:=fun σ2 H2=>D.bk (σ2.set i none) H2,ct:=fun σ2 H2=>D.ct (σ2.set i none) H2} ((List.replicate X.N.length none).set i (some (.ref a))) (upd H' a (zJ a cls)))
   (fun cls _ H'=>exmOne X.K cls (.ref C)=some true/\∀a,H' a=none->
  th {nx:=fun σ2 H2=>D.nx (σ2.set i none) H2,rt:=D.rt,bk:=fun σ2 H2=>D.bk (σ2.set i none) H2,ct:=fun σ2 H2=>D.ct (σ2.set i none) H2} ((List.replicate X.N.length none).set i (some (.ref a))) (upd H' a (zJ a cls))):=by
  intro pins2 σ2 H2 s2 e s' I2 q;obtain⟨a,T,cls,H',rfl,fl,n1,n2,ha,hT,os,bare,un,hok,hE⟩:=q;have I3:=I2.xB os un hok bare fun b hb=>nomatch hb;have frs0:∀b,s2.heap.get? b=none->X.s₀.heap.get? b=none:=fun b hb=>by
   cases q:X.s₀.heap.get? b with
   |none=>rfl
   |some o=>
    obtain⟨o',e'⟩:=I2.base.there b o q (by show b∉X.ex;rw[hex];simp);rw[hb]at e';cases e'
  have pn:∀b,s2.heap.get? b=none->∀p∈X.pn++pins,p.1≠b:=fun b hb p hp z=>by
   have:=(I2.pin p (uy _ hp)).1;rw[z,hb]at this;cases this
  exact⟨a,T,cls,σ2,H',rfl,I3.ofAlt,fl,ha,hT,frs0 a n1,frs0 T n2,fun p hp=>⟨pn a n1 p hp,pn T n2 p hp⟩,hE⟩
 refine wpAny_mono (hb _ (X.pn++pins) _ hpass [] s σ H D (I.Qd0 _) h) (fun f s1 q=>?_) (fun e s1 q=>?_)
 ·cases f with
  |next=>obtain⟨σ',H',I',q⟩:=q;exact wpAny_execs_nil ⟨σ',H',I'.ofAlt,q⟩
  |brk=>obtain⟨σ',H',I',q⟩:=q;exact⟨σ',H',I'.ofAlt,q⟩
  |cont=>obtain⟨σ',H',I',q⟩:=q;exact⟨σ',H',I'.ofAlt,q⟩
  |ret u=>obtain⟨v,σ',H',I',q⟩:=q;exact⟨v,σ',H',I'.ofAlt,q⟩
 ·obtain⟨a,T,cls,σ',H',rfl,I1,F1,ha,hT,f1,f2,hpn,hx,hh⟩:=q;obtain⟨oe,vs,oT,ts,a0,t1,t2,t3,t4,t5,t6,t7,t8,t9⟩:=id F1;have hfrm:X.A.frames=some (X.env::X.outer):=by rw[←hstk];exact I1.ok.frames
  have ff:s1.heap.FunFrames (hideAll s1.heap (frs X.stack++[a,T])) (X.env::X.outer):=by
   have z:=XZ I1 [a,T];rw[hstk]at z ⊢;exact z
  have fl0:Heap.FlyingW (hideAll s1.heap (frs X.stack++[a,T])) (X.env::X.outer) a cls a0 s1.heap:=
   ⟨fun b o q=>of_hideAll _ q,hideAll_none _ (ux _ (by simp)),ff,oe,vs,T,oT,ts,t1,⟨t2,t4⟩,t3,t5,hideAll_none _ (ux _ (by simp)),t6,t7,t8,t9⟩
  refine wpAny_looks_onW hfrm hfr fl0 fun h4 held up4=>?_;refine wpAny_landsW held fun h5 fl5 up5=>?_;have up15:s1.heap.UpToSlots h5:=up4.trans up5;have I5:Inv X pins σ' H' {s1 with heap:=h5}:=I1.looked (t':=s1.toks) hstk F1 ha hT f1 f2 hpn fl5.1 up15;obtain⟨oe5,vs5,e5,c5,d5,_⟩:=fl5.first;refine wpAny_handleBy_cons (codeAny_handlers_test ?_) (by intro q;cases q);refine XW (X:=X.marked (.ref a) fun _ _=>False) (I5.jM (.ref a) _) hg hm ?_ (hd:=hdb);have LT:Looks (model X.prog X.w) h5 (typeOf (.ref a)) cls:=by
   subst c5;exact(Looks.ld e5).andThen .now
  refine(exm_one (M:=model X.prog X.w) I5.kIn LT hx).here ?_;show codeAny _ _ (.handlers (.ref a) [.ExceptHandler none (some nm) (b₀::suite) hpos] X.env) _ _;refine codeAny_handlers_suite_as ?_;refine lands_againW fl5 fun h6 fl6 up6=>?_;have up16:s1.heap.UpToSlots h6:=up15.trans up6;have I6:Inv X pins σ' H' {s1 with heap:=h6}:=I1.looked (t':=s1.toks) hstk F1 ha hT f1 f2 hpn fl6.1 up16;obtain⟨oe6,vs6,e6,c6,d6,_⟩:=fl6.first;have aL:a≠X.env.locals:=by
   rintro rfl;obtain⟨m,⟨o',es,ep,e',d',_⟩,_⟩:=I1.loc;rw[t1]at e';cases e';rw[t3]at d';cases d'
  have aC:∀x c,X.env.cells.lookup x=some c->c≠a:=fun x c e z=>by
   obtain⟨v,o',e',d'⟩:=I1.cell x c e;rw[z,t1]at e';cases e';rw[t3]at d';cases d'
  refine WG (X:=X.marked (.ref a) fun _ _=>False) (v:=V.ref a) (I6.jM (.ref a) fun _ _=>False) hN hi (.inl hl) rfl (fun s7 I7 sb=>?_) (.inr hl);have e7:s7.heap.get? a=some oe6:=by
   obtain⟨b,hs,hb⟩:=sb;rw[hs.2 a ?_]
   ·exact e6
   ·rcases hb with rfl|hb
    ·exact aL
    ·exact(aC _ _ hb).symm
  have I8:Inv (X.marked (.ref a) fun _ _=>False) pins ((List.replicate X.N.length none).set i (some (.ref a))) H' s7:=I7.weak (by rw[List.length_set,List.length_set,uG];exact I1.len.symm) fun j v e=>by
   by_cases hj:j=i
   ·subst hj;rw[List.getElem?_set]at e ⊢;simp only[if_true,uG]at e ⊢
    split at e
    ·rename_i hlt;rw[if_pos (by rw[I1.len];exact hlt)];exact e
    ·cases e
   ·rw[List.getElem?_set_ne (Ne.symm hj),List.getElem?_replicate]at e
    split at e<;>cases e
  have I9:=I8.vN (o:=zJ a cls) ha f1 aL aC (fun p hp=>(hpn p hp).1) (Qba e7 c6 d6);refine wpAny_mono (hs (.ref a) pins s7 _ _ _ I9 (hh a ha)) (fun f s8 q8=>?_) (fun _ _ z=>z.elim);have hnd:=I.ok.hd hc;cases f with
  |next=>obtain⟨σ8,H8,J,q⟩:=q8;exact name_goes (J.Wt hnd) hN hi hl fun s9 J9=>⟨_,_,J9,q⟩
  |brk=>obtain⟨σ8,H8,J,q⟩:=q8;exact name_goes (J.Wt hnd) hN hi hl fun s9 J9=>⟨_,_,J9,q⟩
  |cont=>obtain⟨σ8,H8,J,q⟩:=q8;exact name_goes (J.Wt hnd) hN hi hl fun s9 J9=>⟨_,_,J9,q⟩
  |ret u=>obtain⟨v,σ8,H8,J,q⟩:=q8;exact name_goes (J.Wt hnd) hN hi hl fun s9 J9=>⟨v,_,_,J9,q⟩
end
noncomputable def KP(a:Addr)(q:Str):HO:=.ext fun h=>∃o vs t,h.get? a=some o/\o.data=.fields vs/\vs[1]? =some (.str q t)
theorem vO{P:Program}{w:World}{H:Hp}{h:Heap}{a:Addr}{q:Str}(e:h.CodeRec (.ref a) q):Jk P w H h a (KP a q):=by
 obtain⟨c,o,vs,t,e1,e2,e3,e4⟩:=e;cases e1;exact⟨⟨o,vs,t,e2,e3,e4⟩,⟨o,e2⟩,fun _ _⟨o,vs,t,e,r⟩ k=>⟨o,vs,t,k o e,r⟩⟩
theorem x6{P:Program}{w:World}{H:Hp}{h:Heap}{a:Addr}{q:Str}(e:Jk P w H h a (KP a q)):h.CodeRec (.ref a) q:=by
 obtain⟨⟨o,vs,t,e2,e3,e4⟩,_⟩:=e;exact⟨a,o,vs,t,rfl,e2,e3,e4⟩
noncomputable def VC(H:Hp)(P:Addr)(q:Str):Prop:=
 ∃ps:Array Value,H P=some (.tbl ps)/\TriplesOk ps.toList/\∀pos cv,codeAmong pos ps.toList=some cv->∃a,cv=.ref a/\H a=some (KP a q)
structure Lamb(mg:Str->Option Value)(base:Heap)(c P:Addr):Prop where
 hd:CodeHd base c P
 bm:∃bm ob,mg "__builtins__"=some (.ref bm)/\bm≠builtinsNs/\base.get? bm=some ob/\ob.cls=.type "module"/\ob.dict=some builtinsNs/\ob.data=.plain
theorem Uw{a b:Int}{ta tb:Tok}{c:Value}(l:List Value)(h:TriplesOk l):TriplesOk (l++[.int a ta,.int b tb,c]):=by
 fun_induction TriplesOk l with
 |case1=>simp[TriplesOk]
 |case2 a' t b' u x rest ih=>exact ih h
 |case3=>exact h.elim
theorem zK{p:Pos}{a b:Int}{ta tb:Tok}{c cv:Value}(l:List Value)(h:TriplesOk l)(e:codeAmong p (l++[.int a ta,.int b tb,c])=some cv):codeAmong p l=some cv\/cv=c:=by
 fun_induction TriplesOk l with
 |case1=>
  simp only[uK,codeAmong]at e
  split at e
  ·cases e;exact .inr rfl
  ·cases e
 |case2 a' t b' u x rest ih=>
  simp only[uJ,codeAmong]at e ⊢
  split at e
  ·rename_i q;rw[if_pos q];exact .inl e
  ·rename_i q;rw[if_neg q];exact ih h e
 |case3=>exact h.elim
section
variable {X:Cx}{pins:List (Addr × Obj)}{σ:St}{H:Hp}{s:Shared}
theorem vP{c P:Addr}{q:Str}{params:Arguments}{body:Expr}{scope:Scope}{pos:Pos}{cl:List (Str × Addr)}{Q:Value->Shared->Prop}(I:Inv X pins σ H s)(L:Lamb X.mg X.base c P)(hcode:X.env.code=.ref c)(hq:q=X.env.qual++"<lambda>")
  (hdef:defaultsOf params X.env=([],[])) (hcl:closureFor scope X.env=pure cl) (T:VC H P q)
  (h:∀f c' pm ctv H' s',Inv X pins σ H' s'->s'.heap.get? f=some (kla_obj "<lambda>" q params body scope cl pm c' ctv)->H' f=none->s.heap.objs.size<=f->H' c'=some (KP c' q)->VC H' P q->
   (∀b o,H b=some o->b≠P->H' b=some o)->(∀b o,s.heap.get? b=some o->b≠P->s'.heap.get? b=some o)->Q (.ref f) s'):
  wpAny (model X.prog X.w) X.A (eval (.Lambda params body scope pos) X.env) Q X.xe s:=by
 subst hq;obtain⟨ps,hP,ht,hc⟩:=T;obtain⟨bm,ob,b1,b2,b3,b4,b5,b6⟩:=L.bm;have hPo:s.heap.get? P=some (tabObj ps):=I.hok P _ hP;have hg:s.heap.Ns mainGlobals X.mg:=I.mod.glob.keeps I.bk;have hgP:mainGlobals≠P:=fun z=>by
  obtain⟨o,es,ep,e,hd,_⟩:=hg;rw[z,hPo]at e;cases e;cases hd
 have b3':=I.bk _ _ b3;have hbG:bm≠mainGlobals:=fun z=>by
  obtain⟨o,es,ep,e,hd,_⟩:=hg;rw[z,e]at b3';cases b3';rw[hd]at b6;cases b6
 have hbP:bm≠P:=fun z=>by
  rw[z,hPo]at b3';cases b3';cases b4
 have hB:s.heap.BuiltinsAt X.mg P:=⟨bm,ob,b1,b2,hbG,hbP,b3',b4,b5,b6⟩;refine kla_eval hdef ?_;cases ha:codeAmong pos ps.toList with
 |some cv=>
  obtain⟨c',rfl,hc'⟩:=hc pos cv ha;refine kla_makeFunctionHit hcl I.ok.glob hg hcode (L.hd.keeps I.bk) hPo ht ha hB fun ctv h' tk k hsz=>?_;have kp:∀b o,s.heap.get? b=some o->(h'.push (kla_obj "<lambda>" (X.env.qual++"<lambda>") params body scope cl ((X.mg "__name__").getD .none) c' ctv)).get? b=some o:=fun b o e=>Heap.get?_push_of_some _ (k b o e);exact h h'.objs.size c' _ ctv H _ (I.kept kp) (Heap.get?_push_size _ rfl) (I.hok.fresh hsz) hsz hc' ⟨ps,hP,ht,hc⟩ (fun _ _ e _=>e) fun b o e _=>kp b o e
 |none=>
  refine kla_makeFunction hcl I.ok.glob hg hcode (L.hd.keeps I.bk) hPo ht ha hgP hB fun c' ctv h' tk ext hge hlt hrec htb=>?_;have kp:∀b o,s.heap.get? b=some o->b≠P->(h'.push (kla_obj "<lambda>" (X.env.qual++"<lambda>") params body scope cl ((X.mg "__name__").getD .none) c' ctv)).get? b=some o:=fun b o e n=>Heap.get?_push_of_some _ (ext b o n e);have hc0:H c'=none:=I.hok.fresh hge;have ncP:c'≠P:=fun z=>by rw[z,hP]at hc0;cases hc0
  have Hk:∀b o,H b=some o->b≠P->upd (upd H P (.tbl (ps++ #[rawInt pos.line,rawInt pos.col,.ref c']))) c' (KP c' (X.env.qual++"<lambda>")) b=some o:=fun b o e n=>by
   rw[Qp (Qv e hc0),Qp n];exact e
  have HP:upd (upd H P (.tbl (ps++ #[rawInt pos.line,rawInt pos.col,.ref c']))) c' (KP c' (X.env.qual++"<lambda>")) P=some (.tbl (ps++ #[rawInt pos.line,rawInt pos.col,.ref c'])):=by
   rw[Qp ncP.symm,Qa]
  have hsz:s.heap.objs.size<=h'.objs.size:=Nat.le_of_lt (Nat.lt_of_le_of_lt hge hlt);refine h h'.objs.size c' _ ctv (upd (upd H P (.tbl (ps++ #[rawInt pos.line,rawInt pos.col,.ref c']))) c' (KP c' (X.env.qual++"<lambda>"))) _ (I.un (t':=tk) ⟨fun b o e n hb hx=>?_,fun b o e n hb hx=>?_,fun b o e n hx=>?_,fun b o e hx=>?_,fun b xs e=>?_,fun b o u e=>?_,fun b qs e=>?_⟩ fun b u e=>?_) (Heap.get?_push_size _ rfl) ?_ hsz (Qa) ⟨_,HP,?_,fun p cv e=>?_⟩ Hk fun b o e n=>kp b o e n
  ·exact kp b o e fun z=>by rw[z,hP]at n;cases n
  ·exact⟨o.slots,kp b o e fun z=>by rw[z,hP]at n;cases n⟩
  ·have n1:b≠P:=fun z=>by rw[z,hP]at n;cases n
   have n2:b≠c':=Nat.ne_of_lt (Nat.lt_of_lt_of_le (Heap.lt_size e) hge);rw[Qp n2,Qp n1];exact n
  ·by_cases z:b=P
   ·exact⟨_,by rw[z];exact Heap.get?_push_of_some _ htb⟩
   ·exact⟨o,kp b o e z⟩
  ·exact Hk b _ e fun z=>by rw[z,hP]at e;cases e
  ·exact Hk b _ e fun z=>by rw[z,hP]at e;cases e
  ·by_cases z:b=P
   ·subst z;rw[hP]at e;cases e;exact⟨_,HP⟩
   ·exact⟨#[],by rw[Hk b _ e z];simp⟩
  ·by_cases z1:b=c'
   ·subst z1;rw[Qa]at e;cases e;exact vO (hrec.keeps fun b o e=>Heap.get?_push_of_some _ e)
   ·by_cases z2:b=P
    ·subst z2;rw[HP]at e;cases e;exact(Heap.get?_push_of_some _ htb:_)
    ·rw[Qp z1,Qp z2]at e;refine(I.hok b u e).zB (fun d v hd q'=>kp d v q' fun z=>?_) (fun d q'=>Hk d _ q' fun z=>by rw[z,hP]at q';cases q') fun d xs q'=>Hk d _ q' fun z=>by rw[z,hP]at q';cases q'
     rcases hd with rfl|hd
     ·exact z2 z
     ·rw[z,hP]at hd;cases hd
  ·have n2:h'.objs.size≠c':=Nat.ne_of_gt hlt;have n0:H h'.objs.size=none:=I.hok.fresh hsz;have n1:h'.objs.size≠P:=fun z=>by rw[z,hP]at n0;cases n0
   show upd _ _ _ _=none;rw[Qp n2,Qp n1];exact n0
  ·rw[Array.toList_append];exact Uw _ ht
  ·rw[Array.toList_append]at e;rcases zK _ ht e with e|rfl
   ·obtain⟨a,rfl,ha'⟩:=hc p cv e;exact⟨a,rfl,Hk a _ ha' fun z=>by rw[z,hP]at ha';cases ha'⟩
   ·exact⟨c',rfl,Qa⟩
end
noncomputable def zL(P:Program)(w:World)(K:PySem.W.Frag)(mg:Str->Option Value)(base:Heap)(N:List Str)(q:Str)(scope:Scope)(f c':Addr)(cl:List (Str × Addr))(A:Around)(outer:List Env)(s:Shared)(H:Hp)(E:XK):Cx where
 prog:=P
 w:=w
 K:=K
 mg:=mg
 base:=base
 A:=A.deeper (envX q scope s.heap.objs.size f (.ref c') cl)
 N:=N
 s₀:=s
 H₀:=H
 env:=envX q scope s.heap.objs.size f (.ref c') cl
 outer:=outer
 stack:=envX q scope s.heap.objs.size f (.ref c') cl::outer
 ex:=[]
 calm:=true
 fn:=fun _=>false
 pn:=[]
 xe:=fun e s'=>wpAny (model P w) (A.deeper (envX q scope s.heap.objs.size f (.ref c') cl)) (leaving (envX q scope s.heap.objs.size f (.ref c') cl) e) (fun _ s''=>CXE P w outer H s E e s'') (fun e' s''=>CXE P w outer H s E e' s'') s'
theorem jN{P:Program}{w:World}{K:PySem.W.Frag}{mg:Str->Option Value}{base:Heap}{N:List Str}{q:Str}{scope:Scope}{f c':Addr}{cl:List (Str × Addr)}{A:Around}{outer:List Env}{s:Shared}{H:Hp}{E:XK}:
  Fram (zL P w K mg base N q scope f c' cl A outer s H E) E:=⟨rfl,rfl,rfl,fun _ _ h=>h⟩
structure CellsOk(N:List Str)(σ:St)(scope:Scope)(cl:List (Str × Addr))(H:Hp)(fs:List Addr)(h:Heap):Prop where
 inj:∀x y c,cl.lookup x=some c->cl.lookup y=some c->x=y
 has:∀x,scope.names.lookup x=some .free->∃c,cl.lookup x=some c
 none_:∀y∈scope.names,y.2≠ .local/\y.2≠ .cell
 cell:∀x c,cl.lookup x=some c->H c=none/\c∉fs/\∃v,h.IsCell c v
 val:∀(i:Nat)(x:Str)(v:V),N[i]? =some x->σ[i]? =some (some v)->scope.names.lookup x=some .free->∃u c,RelV v u/\cl.lookup x=some c/\h.IsCell c (some u)
section
variable {X:Cx}{pins:List (Addr × Obj)}{σ1:St}{H:Hp}{s:Shared}
theorem vQ{k:Nat}{N:List Str}{σ:St}{q:Str}{params:Arguments}{body:Expr}{scope:Scope}{f c':Addr}{cl:List (Str × Addr)}{pm ctv:Value}{te:TE}{Q:VK}{E:XK}(I:Inv X pins σ1 H s)(hh:X.A.handled=none)(hr:Room (k+1) X.A)
  (ho:s.heap.get? f=some (kla_obj "<lambda>" q params body scope cl pm c' ctv)) (hc':H c'=some (KP c' q)) (hk:scope.kind=.function) (hco:scope.isCoroutine=false) (hgen:scope.isGenerator=false)
  (hbind:bindArgs (kla_fn "<lambda>" q params body scope cl pm (.ref c') ctv) ⟨[],[]⟩=pure []) (hlen:σ.length=N.length)
  (C:CellsOk N σ scope cl H (frs X.stack) s.heap) (hx:Passes (CXE X.prog X.w) X E)
  (hb:Room k (X.A.deeper (envX q scope s.heap.objs.size f (.ref c') cl))->PE (zL X.prog X.w X.K X.mg X.base N q scope f c' cl X.A X.stack s H E) body te) (h:te σ H Q):
  wpAny (model X.prog X.w) X.A (call (.ref f) []) (EP X pins σ1 Q) X.xe s:=by
 have hcell:∀x∈scope.names,x.2≠ .cell:=fun x hx=>(C.none_ x hx).2;refine wpAny_call (codeAny_mono (R:=CR (CXE X.prog X.w) X.stack X.prog X.w H s Q E) ?_ fun r s' hq=>?_)
 ·refine kla_callFunE hr.depth ho rfl hco hgen rfl (x6 (I.hok c' _ hc')) ?_;rw[hbind];refine wpAny_pure (wpAny_newFunctionEnv hcell (fun y hy=>nomatch hy) (fun h₁ hns hsb=>⟨I.nolimit.fresh _ hsb,?_⟩) hk);show codeAny _ _ (.expr body (envX q scope s.heap.objs.size f (.ref c') cl)) _ _;have hk₁:∀b o,s.heap.get? b=some o->h₁.get? b=some o:=fun b o e=>hsb.extBut b o (Nat.ne_of_lt (Heap.lt_size e)) (Heap.get?_push_of_some _ e);have vis:∀x,Vis scope x->scope.names.lookup x=some .free:=fun x hv=>by
   rcases hv with z|z|z
   ·exact absurd rfl (C.none_ _ (PySem.mem_of_lookup z)).1
   ·exact absurd rfl (C.none_ _ (PySem.mem_of_lookup z)).2
   ·exact z
  have J:Inv (zL X.prog X.w X.K X.mg X.base N q scope f c' cl X.A X.stack s H E) [] σ H {s with heap:=h₁,toks:=s.toks+([]:List (Str × Value)).length}:=by
   refine⟨⟨I.ok.mod,hk,rfl,rfl,uq _,C.inj,fun x hx'=>?_,(fun x c z _=>nomatch z),fun _=>hh,Around.frames_deeper I.ok.frames,.inr ⟨rfl,rfl⟩,fun b z=>absurd (show b∈([]:List Addr)from z) (by simp),I.bs,Nat.le_trans I.ok.bsz I.sz,fun b _ _ z=>absurd (show b∈([]:List Addr)from z) (by simp),fun b z=>absurd (show b∈([]:List Addr)from z) (by simp),I.stack,I.XV⟩,
    rfl,I.bare,Un.kept hk₁,⟨_,hns,fun i x v h1 h2 h3=>?_⟩,fun x c e=>?_,I.hok.fresh (uq _),fun x c e=>(C.cell x c e).1,fun p hp=>absurd (show p∈([]:List (Addr × Obj))from hp) (by simp),I.hok.kept hk₁,hlen⟩
   ·have hx'':scope.names.lookup x=some .cell\/scope.names.lookup x=some .free:=hx';rcases hx'' with z|z
    ·exact absurd rfl (C.none_ _ (PySem.mem_of_lookup z)).2
    ·exact C.has x z
   ·obtain⟨u,c,r,e,⟨o,e1,e2⟩⟩:=C.val i x v h1 h2 (vis x h3);exact⟨u,r,.inr ⟨.inr (vis x h3),c,e,⟨o,hk₁ _ _ e1,e2⟩⟩⟩
   ·obtain⟨_,_,v,o,e1,e2⟩:=C.cell x c e;exact⟨v,o,hk₁ _ _ e1,e2⟩
  refine kla_codeExpr (wpAny_mono (hb (hr.deeper _) [] _ σ H Q J h) (fun v s' hq=>?_) fun e s' hq=>hq);obtain⟨y,H',J',r,q'⟩:=hq;exact⟨y,H',J'.os,J'.bare,J'.base,J'.hok,r,q'⟩
 ·cases r with
  |error e=>exact hx pins σ1 H s e s' I hq
  |ok fl=>
   cases fl with
   |ret u=>exact I.after hq
   |next=>exact False.elim hq
   |brk=>exact False.elim hq
   |cont=>exact False.elim hq
end
theorem Qd1{CX:CXT}{P:Program}{w:World}{K:PySem.W.Frag}{mg:Str->Option Value}{base:Heap}{k:Nat}{f:Addr}{name qual:Str}{params:Arguments}{body:List Stmt}{scope:Scope}{dV kV doc pm cdv ct oc:Value}{an od:Option Addr}
  {osl:Array (Option Value)} {N ps:List Str} {A:Around} {outer:List Env} {s:Shared} {H:Hp} {args:Args} {us:List Value} {vs:List V} {Q:VK} {E:XK}
  (lk:K.lookup f=some ⟨oc,od,.func (fnOf name qual params body scope dV kV doc pm an cdv ct),osl⟩) (hcd:codeIn K cdv qual=true) (S:FnScope N ps scope)
  (hr:Room (k+1) A) (e0:Env0 P w K mg base A outer s H) (hb:BindsTo s (fnOf name qual params body scope dV kV doc pm an cdv ct) args (ps.zip us)) (r:Vals vs us) (hl:vs.length=ps.length)
  (hbody:Room k (A.deeper (envOfC qual scope s.heap.objs.size f cdv))->
   ∃t,PSs (Yf CX P w K mg base N qual scope f cdv A outer s H E) body t/\t {nx:=fun _ H'=>Q .non H',rt:=Q} (start N vs) H):
  codeAny (model P w) A (.call (.ref f) args) (CR CX outer P w H s Q E) s:=by
 have KX:K.In s.heap:=e0.mod.kin.keeps fun b o e=>(e0.bs b o e).1;have lim:s.heap.NoLimit:=e0.mod.nolimit.keeps fun b o e=>(e0.bs b o e).1;have hkind:∀y∈ps.zip us,scope.names.lookup y.1=some .local\/(scope.names.lookup y.1=some .cell/\((cellsFrom (s.heap.objs.size+1) scope.names []).lookup y.1).isSome=true):=fun⟨n,v⟩ hy=>by
  rcases S.par n (List.of_mem_zip hy).1 with q|q
  ·exact .inl q
  ·exact .inr ⟨q,cellsFrom_some _ _ _ (.inl q)⟩
 refine codeAny_call_function hr.depth (KX _ _ lk) rfl S.co S.gen rfl (codeRec_of KX hcd) (hb _ _ _ _ ?_);refine wpAny_newFunctionEnv_cells S.kind hkind fun env he s1 x=>?_;subst he;refine⟨lim.keeps x.toInCall.keep,codeAny_func ?_⟩;obtain⟨t,ht,hq⟩:=hbody (hr.deeper _);have I:Inv (Yf CX P w K mg base N qual scope f cdv A outer s H E) [] (start N vs) H s1:=Ul S hr.hd e0 hl r x;refine wpAny_mono (ht [] s1 (start N vs) H _ I hq) (fun fl s' hs=>?_) fun e s' hs=>hs;have fin:∀{σ':St}{H':Hp}{v:V}{u:Value},Inv (Yf CX P w K mg base N qual scope f cdv A outer s H E) [] σ' H' s'->RelV v u->Q v H'->CE outer P w H s Q u s':=
  fun{σ' H' v u} J rv q=>⟨v,H',J.os,J.bare,J.base,J.hok,rv,q⟩
 cases fl with
 |ret u=>
  obtain⟨v,σ',H',J,rv,q⟩:=hs;exact fin J rv q
 |next=>
  obtain⟨σ',H',J,q⟩:=hs;exact fin (v:=V.non) (u:=Value.none) J rfl q
 |brk=>
  obtain⟨_,_,_,q⟩:=hs;exact False.elim q
 |cont=>
  obtain⟨_,_,_,q⟩:=hs;exact False.elim q
structure LamAt(X:Cx)(N:List Str)(σ:St)(q:Str)(params:Arguments)(body:Expr)(scope:Scope)(f c':Addr)(cl:List (Str × Addr))(pm ctv:Value):Prop where
 ob:X.s₀.heap.get? f=some (kla_obj "<lambda>" q params body scope cl pm c' ctv)
 un:X.H₀ f=none
 fr:f∉X.fs
 code:X.H₀ c'=some (KP c' q)
 kind:scope.kind=.function
 co:scope.isCoroutine=false
 gen:scope.isGenerator=false
 bind:bindArgs (kla_fn "<lambda>" q params body scope cl pm (.ref c') ctv) ⟨[],[]⟩=pure []
 len:σ.length=N.length
 cells:CellsOk N σ scope cl X.H₀ X.fs X.s₀.heap
noncomputable def Qd2(i:Nat)(f c':Addr)(q:Str)(σ:St)(te:TE):TE:=fun σ1 H Q=>σ1[i]? =some (some (.ref f))/\H c'=some (KP c' q)/\te σ H Q
section
variable {X:Cx}
theorem Qbb{k i:Nat}{x:Str}{p pos:Pos}{N:List Str}{σ:St}{q:Str}{params:Arguments}{body:Expr}{scope:Scope}{f c':Addr}{cl:List (Str × Addr)}{pm ctv:Value}{te:TE}{E:XK}
  (L:LamAt X N σ q params body scope f c' cl pm ctv) (hex:X.ex=[]) (hcalm:X.calm=true) (hN:X.N[i]? =some x) (hv:Vis X.env.scope x) (hr:Room (k+1) X.A) (hx:Passes (CXE X.prog X.w) X E)
  (hloc:∀x c,cl.lookup x=some c->c<X.s₀.heap.objs.size)
  (hb:∀s H,Room k (X.A.deeper (envX q scope s.heap.objs.size f (.ref c') cl))->PE (zL X.prog X.w X.K X.mg X.base N q scope f c' cl X.A X.stack s H E) body te)
  (hd:(x==("__debug__":Str))=false:=by decide) (hcd:(x==("__classdict__":Str))=false:=by decide):PE X (.Call (.Name x p) [] [] pos) (Qd2 i f c' q σ te):=by
 intro pins s σ1 H Q I h;obtain⟨h1,h2,h3⟩:=h;have nex:∀b:Addr,b∉X.ex:=fun b z=>by rw[hex]at z;cases z
 have ho:=I.base.keep f _ L.ob L.un L.fr (nex f);refine wpAny_Call_Name_kw (thn (Qai (X:=X) hN hv hd hcd pins s σ1 H (fun v H'=>v=.ref f/\H'=H) I ⟨_,h1,rfl,rfl⟩) fun u s1⟨v,H',I1,rv,e,e2⟩=>?_);subst e e2;obtain rfl:u=Value.ref f:=rv;have ho1:=I1.base.keep f _ L.ob L.un L.fr (nex f);have neL:∀b,b<X.s₀.heap.objs.size->b≠X.env.locals:=fun b hb=>Nat.ne_of_lt (Nat.lt_of_lt_of_le hb I1.ok.above);refine callWith_of (P:=fun h=>h=s1.heap) rfl (fun h e=>⟨.frame,.inl rfl,by subst e;exact(Looks.ld (part:=none) ho1).andThen .now⟩) (PyProof.Rows.evalArgs_nil3 ⟨rfl,?_⟩);refine vQ I1 (I1.ok.hd hcalm) hr ho1 h2 L.kind L.co L.gen L.bind L.len ?_ hx (hb s1 H') h3;refine⟨L.cells.inj,L.cells.has,L.cells.none_,fun x c e=>?_,fun j y v e1 e2 e3=>?_⟩
 ·obtain⟨a1,a2,v,o,a3,a4⟩:=L.cells.cell x c e;refine⟨I1.base.free c o a3 a1 (nex c),fun z=>?_,v,o,I1.base.keep c o a3 a1 a2 (nex c),a4⟩;rcases List.mem_cons.mp (I1.Kc c z)with z|z
  ·exact neL c (hloc x c e) z
  ·exact a2 z
 ·obtain⟨u,c,r,e,o,a3,a4⟩:=L.cells.val j y v e1 e2 e3;obtain⟨a1,a2,_⟩:=L.cells.cell y c e;exact⟨u,c,r,e,o,I1.base.keep c o a3 a1 a2 (nex c),a4⟩
end
section
variable {X:Cx}
theorem jO{i:Int}(h:i.natAbs<2^2000):Builtin.Int.intBits i<=2^20:=Nat.le_trans (intBits_le h) (by decide)
noncomputable def Qe9(i j:Int):Prop:=i.natAbs<2^2000/\j.natAbs<2^2000
theorem qw:OpR X (binaryOp .Mult) (rI Qe9 fun i j=>.int (i*j)):=opI fun _ _ _ _ _ _ _ hc q=>mul_int q (IntMulOk.of_bits (jO hc.1) (jO hc.2))
noncomputable def VW(x:Str)(n:Nat):Str:=⟨(List.replicate n x.cps).foldl (· ++ ·) #[]⟩
theorem zM:OpR X (binaryOp .Mult) (fun x y H Q=>∃z n,x=.str z/\y=.int n/\0<=n/\z.length*n.toNat<=sizeLine/\n<2^40/\Q (.str (VW z n.toNat)) H):=by
 intro pins s σ H x y v u Q I rx ry h;obtain⟨z,n,rfl,rfl,h0,hl,hn,q⟩:=h;obtain⟨t,rfl⟩:=rx;obtain⟨t',rfl⟩:=ry;have hlen:∀k:Nat,(VW z k).cps.toList=(List.replicate k z.cps.toList).flatten:=fun k=>by
  unfold VW;have:∀(l:List (Array Nat))(acc:Array Nat),(l.foldl (· ++ ·) acc).toList=acc.toList++(l.map (·.toList)).flatten:=by
   intro l
   induction l with
   |nil=>intro acc;simp
   |cons a r ih=>intro acc;rw[List.foldl_cons,ih];simp
  rw[this];simp
 refine PySem.P.mul_str ?_ ?_ ?_ ?_
 ·rw[um (by omega),um (by omega)];rfl
 ·intro h1 h2 h3;have:(z.length:Int)*n<=2^63-1:=by
   have e:((z.length*n.toNat:Nat):Int)=(z.length:Int)*n:=by push_cast;rw[Int.toNat_of_nonneg h0]
   have:=Xd;omega
  have:=(Int.le_ediv_iff_mul_le (by omega:0<n)).mpr this;omega
 ·intro h1 h2;have:=hl;exact um (Nat.not_lt.mpr hl)
 ·by_cases h1:n<1
  ·rw[if_pos h1];have e:VW z n.toNat=Str.empty:=by rw[show n=0 by omega];rfl
   exact⟨by decide,.str (VW z n.toNat),H,I.tok _,⟨_,by rw[e]⟩,q⟩
  ·rw[if_neg h1]
   by_cases h2:(n==1||z.length==0)=true
   ·rw[if_pos h2];have e:VW z n.toNat=z:=by
     have:(VW z n.toNat).cps.toList=z.cps.toList:=by
      rw[hlen];simp only[Bool.or_eq_true,beq_iff_eq]at h2;rcases h2 with h2|h2
      ·rw[h2];simp
      ·have:z.cps.toList=[]:=by
        have h3:z.cps.size=0:=h2;rw[Array.eq_empty_of_size_eq_zero h3]
       rw[this];simp
     have:(VW z n.toNat).cps=z.cps:=by rw[←Array.toList_inj];exact this
     cases z;cases hh:VW _ n.toNat;rw[hh]at this;simp only at this;rw[this]
    exact⟨.str (VW z n.toNat),H,I,⟨t,by rw[e]⟩,q⟩
   ·rw[if_neg h2];refine⟨?_,.str (VW z n.toNat),H,I.tok _,⟨_,rfl⟩,q⟩;show(VW z n.toNat).cps.size<=sizeLine;rw[←uO,hlen,List.length_flatten,List.map_replicate,List.sum_replicate_nat];have e:z.cps.toList.length=z.length:=by rw[uO];rfl
    rw[e,Nat.mul_comm];exact hl
theorem Yk:XG X (.type "int") (fun xs H Q=>∃x n,xs=[.str x]/\PySem.intText? x=some n/\x.length<=640/\Q (.int n) H):=by
 intro pins s σ H xs us Q I r h;obtain⟨x,n,rfl,hn,hl,q⟩:=h;obtain⟨u,rfl,t,rfl⟩:=vals1 r;exact PySem.W.KIN.call_text hn hl ⟨.int n,H,I.tok _,⟨_,rfl⟩,q⟩
inductive EqD (K:PySem.W.Frag) (H:Hp):Nat->V->V->Bool->Prop where
 |flat {n:Nat} {x y:V} (fx:Z9 x=true) (fy:Z9 y=true):EqD K H n x y (eqV x y)
 |tup {n:Nat} {a b:Addr} {xs ys:List V} {e:Nat->Bool} (ne:a≠b) (ha:SqT K H a xs) (hb:SqT K H b ys) (he:∀j x y,xs[j]? =some x->ys[j]? =some y->EqD K H n x y (e j)):
   EqD K H (n+1) (.ref a) (.ref b) ((List.range (min xs.length ys.length)).all e&&xs.length==ys.length)
theorem Ki{pins:List (Addr × Obj)}{σ:St}{H:Hp}{s:Shared}{A:Around}{xs ys:List V}{its its2:List Value}{e:Nat->Bool}{n:Nat}(r1:Vals xs its)(r2:Vals ys its2)
  (he:∀j x y u v,xs[j]? =some x->ys[j]? =some y->RelV x u->RelV y v->SeqAt.EqAt A s u v (e j)):∀j(h1:j<its.toArray.size)(h2:j<its2.toArray.size),SeqAt.EqAt A s its.toArray[j] its2.toArray[j] (e j):=by
 intro j h1 h2;have l1:=r1.length;have l2:=r2.length;rw[uP]at h1 h2;have k1:xs[j]? =some xs[j]:=List.getElem?_eq_getElem (by omega);have k2:ys[j]? =some ys[j]:=List.getElem?_eq_getElem (by omega);obtain⟨u,e1,q1⟩:=r1.get k1;obtain⟨v,e2,q2⟩:=r2.get k2;have z1:its.toArray[j]=u:=by
  rw[List.getElem?_eq_getElem h1]at e1;simpa using ur e1
 have z2:its2.toArray[j]=v:=by
  rw[List.getElem?_eq_getElem h2]at e2;simpa using ur e2
 rw[z1,z2];exact he j _ _ u v k1 k2 q1 q2
theorem EqD.at{pins:List (Addr × Obj)}{σ:St}{H:Hp}{s:Shared}(I:Inv X pins σ H s){n:Nat}{x y:V}{k:Bool}(d:EqD X.K H n x y k):∀{A:Around}{u v:Value},A.units+n<cLine->RelV x u->RelV y v->SeqAt.EqAt A s u v k:=by
 induction d with
 |flat fx fy=>intro A u v _ rx ry;exact Qao rx ry fx fy
 |@tup n a b xs ys e ne ha hb he ih=>
  intro A u v hu rx ry;obtain rfl:u=Value.ref a:=rx;obtain rfl:v=Value.ref b:=ry;obtain⟨its,r1,p1,_⟩:=I.tuple ha;obtain⟨its2,r2,p2,_⟩:=I.tuple hb;have l1:=r1.length;have l2:=r2.length;have z:=SeqAt.RcAt.tuples (A:=A) (s:=s) (e:=e) p1 p2 (by omega) (Ki (pins:=pins) (σ:=σ) (H:=H) (n:=n) r1 r2 fun j x y u v h1 h2 q1 q2=>ih j x y h1 h2 (A:=A.in1) (by show A.units+1+n<cLine;omega) q1 q2);rw[uP,uP, ←l1, ←l2]at z;exact .of_refs ne z
noncomputable def QcF:V->List V->Hp->VK->Prop:=fun x vs H Q=>∃l xs y,x=.ref l/\vs=[y]/\H l=some (.lst xs)/\Z9 y=true/\xs.all Z9=true/\Q (.int (xs.countP fun z=>eqV z y)) H
theorem VX{y:V}:∀{xs:List V}{us:List Value},Vals xs us->xs.all Z9=true->us.countP (eqU y)=xs.countP fun z=>eqV z y
 |_,_,.nil,_=>rfl
 |x::xs,u::us,.cons r t,h=>by
  rw[List.all_cons,Bool.and_eq_true]at h;rw[List.countP_cons,List.countP_cons,VX t h.2,jG r h.1]
theorem vR:MtR X "list.count" QcF:=by
 intro pins s σ H x vs v us Q I rx rv h;obtain⟨l,xs,y,rfl,rfl,hH,fy,fs,q⟩:=h;obtain rfl:v=Value.ref l:=rx;obtain⟨u,rfl,ru⟩:=vals1 rv;obtain⟨z,its,n,r,hl,e⟩:=I.vI hH;refine call_meets slot_list_count ⟨_,e,rfl⟩ entry_list_count (args_list_count_2 _ _) (SeqAt.list_countAt l its.toArray n none #[] u (eqU y)) ⟨e,fun w hw=>ZU ru fy r fs w (by simpa using hw),?_⟩;rw[show its.toArray.toList=its from rfl,VX r fs];exact⟨.int _,H,I.tok _,⟨_,rfl⟩,q⟩
noncomputable def QcG:V->List V->Hp->VK->Prop:=fun x vs H Q=>∃l xs y j,x=.ref l/\vs=[y]/\H l=some (.lst xs)/\Z9 y=true/\xs.all Z9=true/\(∃z,xs[j]? =some z/\eqV z y=true)/\(∀i z,i<j->xs[i]? =some z->eqV z y=false)/\Q (.int (j:Nat)) H
theorem vS:MtR X "list.index" QcG:=by
 intro pins s σ H x vs v us Q I rx rv h;obtain⟨l,xs,y,j,rfl,rfl,hH,fy,fs,⟨zj,hz,hit⟩,hno,q⟩:=h;obtain rfl:v=Value.ref l:=rx;obtain⟨u,rfl,ru⟩:=vals1 rv;obtain⟨z,its,n,r,hl,e⟩:=I.vI hH;have hj:j<xs.length:=(List.getElem?_eq_some_iff.mp hz).1;have at_:∀(i:Nat)(hi:i<its.toArray.size)(w:V),xs[i]? =some w->eqU y its.toArray[i]=eqV w y:=fun i hi w hw=>by
  obtain⟨w',e1,q1⟩:=r.get hw;have hi':i<its.length:=by simpa using hi
  rw[List.getElem?_eq_getElem hi']at e1;have z1:its.toArray[i]=w':=by simpa using ur e1
  rw[z1];refine jG q1 ?_;exact List.all_eq_true.mp fs w (uF hw)
 have hsz:its.toArray.size=xs.length:=by rw[uP];exact hl.symm
 refine call_meets slot_list_index ⟨_,e,rfl⟩ entry_list_index (args_list_index_2 _ _)
  (SeqAt.list_indexAt l its.toArray n none #[] u (eqU y) j (by omega) (by have:=Xd;omega) ?_ ?_) ⟨e,fun w hw=>ZU ru fy r fs w (by simpa using hw),⟨.int _,H,I.tok _,⟨_,rfl⟩,q⟩⟩
 ·rw[at_ j (by omega) zj hz];exact hit
 ·intro m hm hlt;have:xs[m]? =some xs[m]:=List.getElem?_eq_getElem (by omega);rw[at_ m hm _ this];exact hno m _ hlt this
end
structure ErrK(K:PySem.W.Frag)(C:Addr):Prop where
 ex:excIn K C [.type "ValueError",.type "Exception",.type "BaseException",.type "object"] "ValueError.__new__"=true
 ga:findIn K (.ref C) "__getattribute__"=some (some (.builtin "BaseException.__getattribute__"))
 gn:findIn K (.ref C) "__getattr__"=some none
 cl:findIn K (.ref C) "__class__"=some (some (.builtin "object.__class__"))
theorem ErrK.err{K:PySem.W.Frag}{C:Addr}(e:ErrK K C):Err K C:=⟨e.ex⟩
theorem Yl{K:PySem.W.Frag}{C:Addr}{h:Heap}(KX:K.In h)(e:Err K C):∃bm N nm q bs hdct sn sub ab col dd k0 k1 k2 k3 k5,h.get? C=some (excClassObj nm q C N bs bm hdct sn sub ab col dd k0 k1 k2 k3 k5 "ValueError.__new__")/\
  OwnTail h [.type "ValueError",.type "Exception",.type "BaseException",.type "object"] bm:=by
 have q:=e.ex;unfold excIn at q
 split at q
 ·rename_i dd cd sl ho
  split at q
  ·rename_i C' bm k0 k1 k2 k3 n k5 hm hs;simp only[Bool.and_eq_true,beq_iff_eq,Bool.not_eq_true']at q;obtain⟨⟨⟨⟨⟨rfl,rfl⟩,hdel⟩,ht⟩,hok⟩,hni⟩:=q;obtain⟨nm,bs,mro,ns,qn,hd,sn,sub,ab,col,del⟩:=cd;dsimp only at hm hdel hok hni;subst hm hdel;have hsl:sl= #[k0,k1,k2,k3,some (.builtin "ValueError.__new__"),k5]:=by
    obtain⟨l⟩:=sl;simp only at hs;rw[hs]
   subst hsl;exact⟨bm,ns,nm,qn,bs,hd,sn,sub,ab,col,dd,k0,k1,k2,k3,k5,KX _ _ ho,tail_of_in KX ht⟩
  ·cases q
 ·cases q
section
variable {prog:Program}{w:World}{A:Around}{E:Value->Shared->Prop}{h:Heap}{g:Array GenState}{d:Drawn}{t:Nat}{os:OsState}{K:PySem.W.Frag}{a C:Addr}{o:Obj}
theorem Ym{R:Result->Shared->Prop}(KX:K.In h)(e:ErrK K C)(hx:h.get? a=some o)(hc:o.cls=.ref C)(hq:R (.ok (.ret (.ref C))) ⟨h,g,d,t,os⟩):
  codeAny (model prog w) A (.call (.builtin "getset_descriptor.__get__") ⟨[.builtin "object.__class__",.ref a,.ref C],[]⟩) R ⟨h,g,d,t,os⟩:=by
 obtain⟨bm,N,nm,q,bs,hdct,sn,sub,ab,col,dd,k0,k1,k2,k3,k5,hC,T⟩:=Yl KX e.err;have hT5:(⟨h,g,d,t,os⟩:Shared).TypeIs (.builtin "object.__class__") "getset_descriptor":=F.typeOf_object_class;have hcB:(Value.ref C::bm).contains (.type (".".intercalate ("object.__class__".cutAt '.').dropLast))=true:=by
  rw[F.owner_object_class,List.contains_cons,T.hasType (X:="object") (b:=true) (by decide)];rfl
 refine codeAny_call_builtin F.slot_gs_get.plain F.entry_gs_get (F.slot_gs_get.check _ _ _ _ _ _ _ _ hT5 (F.args_gs_get _ _ _) ?_)
 repeat (any_goals (first|assumption|(with_reducible refine wpAny_loadPart_at hx ?_;rw[hc])|(with_reducible refine wpAny_isSubtype_exc hC ?_;rw[hcB])|wp_step))
 refine⟨Code.quiet_builtin _ (by decide+kernel),codeAny_builtin F.entry_object_class ?_⟩
 repeat (any_goals (first|assumption|(with_reducible refine wpAny_loadPart_at hx ?_;rw[hc])|wp_step))
theorem WS{tk:Tok}{Q:Fin->Shared->Prop}(KX:K.In h)(e:ErrK K C)(hx:h.get? a=some o)(hc:o.cls=.ref C)(hq:Q (.done (.ret (.ref C))) ⟨h,g,d,t,os⟩):
  wpAny (model prog w) A (Builtin.«object.__getattribute__» ⟨[.ref a,.str "__class__" tk],[]⟩) Q E ⟨h,g,d,t,os⟩:=by
 have L:=looks_findIn (M:=model prog w) KX e.cl;have hT5:(⟨h,g,d,t,os⟩:Shared).TypeIs (.builtin "object.__class__") "getset_descriptor":=F.typeOf_object_class;have f5:=F.typeOf_object_class;have f6:=F.slot_gs_get.lookup;have f7:=F.slot_gs_set.lookup
 repeat (any_goals (first|assumption|(with_reducible refine wpAny_loadPart_at hx ?_;rw[hc])|with_reducible refine Looks.at L ?_|wp_step))
 refine Ym KX e hx hc ?_
 repeat (any_goals (first|assumption|wp_step))
theorem WT{M:Model}{nameV:Value}{Q:Unit->Shared->Prop}(KX:K.In h)(e:ErrK K C)(hx:h.get? a=some o)(hc:o.cls=.ref C)(hq:Q () ⟨h,g,d,t,os⟩):
  wpAny M A (checkBuiltinCall "BaseException.__getattribute__" ⟨[.ref a,nameV],[]⟩) Q E ⟨h,g,d,t,os⟩:=by
 obtain⟨bm,N,nm,q,bs,hdct,sn,sub,ab,col,dd,k0,k1,k2,k3,k5,hC,T⟩:=Yl KX e.err;have hk:builtinKind "BaseException.__getattribute__"=some .slot:=by decide+kernel
 have hsplit:splitId "BaseException.__getattribute__"=some ("BaseException","__getattribute__"):=by decide+kernel
 have hcB:(Value.ref C::bm).contains (.type "BaseException")=true:=by rw[List.contains_cons,T.hasType (X:="BaseException") (b:=true) (by decide)];rfl
 have ha:=F.args_bexc_ga (.ref a) nameV;simp only[checkBuiltinCall,hk,hsplit];refine wpAny_bind ?_
 ·unfold isInstance
  repeat (first|(with_reducible refine wpAny_loadPart_at hx ?_;rw[hc])|(with_reducible refine wpAny_isSubtype_exc hC ?_;rw[hcB])|wp_step)
  exact hq
theorem VD{tk:Tok}{R:Result->Shared->Prop}(KX:K.In h)(e:ErrK K C)(hx:h.get? a=some o)(hc:o.cls=.ref C)(hq:R (.ok (.ret (.ref C))) ⟨h,g,d,t,os⟩):
  codeAny (model prog w) A (.call (.builtin "BaseException.__getattribute__") ⟨[.ref a,.str "__class__" tk],[]⟩) R ⟨h,g,d,t,os⟩:=
 codeAny_call_builtin F.excAttr_ValueError.ga.plain F.entry_bexc_ga (WT KX e hx hc (WS KX e hx hc hq))
theorem Ux{tk:Tok}{Q:Value->Shared->Prop}(KX:K.In h)(e:ErrK K C)(hx:h.get? a=some o)(hc:o.cls=.ref C)(hq:Q (.ref C) ⟨h,g,d,t,os⟩):
  wpAny (model prog w) A (getAttrBy (.ref a) (.str "__class__" tk) false) Q E ⟨h,g,d,t,os⟩:=by
 have L1:=looks_findIn (M:=model prog w) KX e.ga;have L2:=looks_findIn (M:=model prog w) KX e.gn;have f3:=F.excAttr_ValueError.ga.bind (.ref a);have hx2:(Value.builtin "BaseException.__getattribute__"==Value.builtin "object.__getattribute__")=false:=by decide+kernel
 have hx1:(onTheHeap (Value.ref C)&&Value.builtin "BaseException.__getattribute__"==Value.builtin "object.__getattribute__")=false:=by rw[hx2];rfl
 repeat (any_goals (first|assumption|(with_reducible refine wpAny_loadPart_at hx ?_;rw[hc])|with_reducible refine Looks.at L1 ?_|with_reducible refine Looks.at L2 ?_|wp_step))
 refine VD KX e hx hc ?_
 repeat (any_goals (first|assumption|wp_step))
theorem VE{Q:Option Value->Shared->Prop}(KX:K.In h)(e:ErrK K C)(hx:h.get? a=some o)(hc:o.cls=.ref C)(hq:Q (some (.ref C)) ⟨h,g,d,t+1,os⟩):
  wpAny (model prog w) A (getAttr? (.ref a) "__class__") Q E ⟨h,g,d,t,os⟩:=by
 unfold getAttr? getAttrBy?
 repeat (any_goals (first|assumption|with_reducible apply Ux KX e hx hc|wp_step))
end
theorem vT{K:PySem.W.Frag}{a C:Addr}(e:ErrK K C):KitX K (.ref a) (.ref C) (fun h=>∃o,h.get? a=some o/\o.cls=.ref C) where
 ty:=fun M h X⟨o,e1,e2⟩=>by
  rw[←e2];exact(Looks.ld e1).andThen .now
 it:=fun M h X _=>by
  obtain⟨bm,N,nm,q,bs,hdct,sn,sub,ab,col,dd,k0,k1,k2,k3,k5,hC,T⟩:=Yl X e.err;intro A' Q' E' s' k q;unfold isType loadHead;exact wpAny_bind (wpAny_loadPart (k _ _ hC) (wpAny_pure q))
 ne:=fun h tp dd its n sl X htp=>by
  obtain⟨bm,N,nm,q,bs,hdct,sn,sub,ab,col,dd,k0,k1,k2,k3,k5,hC,T⟩:=Yl X e.err;refine Bool.eq_false_iff.mpr fun q=>?_;have e:C=tp:=Value.ref.inj (beq_iff_eq.mp q);subst e;rw[hC]at htp;exact absurd (Value.type.inj (congrArg Obj.cls (ur htp))) (by decide)
 ca:=fun{prog w A E Q s} X⟨o,e1,e2⟩ k=>by
  obtain⟨h,g,d,t,os⟩:=s;exact VE X e e1 e2 k
section
variable {X:Cx}
noncomputable def Qbc:V->Bool
 | .ref _=>true
 | .ty _=>true
 |_=>false
noncomputable def Qbd:V->Value
 | .ref C=>.ref C
 | .ty n=>.type n
 |_=>.none
theorem Qbe{c:V}{u:Value}(h:Qbc c=true)(r:RelV c u):u=Qbd c:=by
 cases c<;>first|exact r|cases h
noncomputable def QeI(K:PySem.W.Frag):List V->Hp->VK->Prop:=fun xs H Q=>∃x c b,xs=[x,c]/\Qbc c=true/\((∃t,TyOf K H x t/\kitOne K t (Qbd c)=some b)\/∃a C,x=.ref a/\H a=some (zJ a (.ref C))/\ErrK K C/\kitOne K (.ref C) (Qbd c)=some b)/\Q (.bl b) H
theorem QL:XG X (.builtin "isinstance") (QeI X.K):=by
 intro pins s σ H xs us Q I r h;obtain⟨x,c,b,rfl,hc,hx,q⟩:=h;obtain⟨u,u2,rfl,ru,ru2⟩:=vals2 r;obtain rfl:=Qbe hc ru2;rcases hx with⟨t,ty,k⟩|⟨a,C,rfl,hH,e,k⟩
 ·exact xK I ru ty k fun tk=>⟨.bl b,H,I.tok tk,rfl,q⟩
 ·obtain rfl:u=Value.ref a:=ru;obtain⟨⟨o,vs,e1,e2,_⟩,_⟩:=(show Jk X.prog X.w H s.heap a (zJ a (.ref C))from I.hok a _ hH);exact kia_one (vT e) I.kIn ⟨o,e1,e2⟩ k (fun z=>nomatch z) fun tk=>⟨.bl b,H,I.tok tk,rfl,q⟩
end
noncomputable def vU(P:Addr)(H:Hp):Prop:=H P=some (.tbl #[])/\∀b,b≠P->H b=none\/∃o xs,H b=some (.frz o (.lst xs))
noncomputable def qx(K:PySem.W.Frag):Bool:=K.all fun p=>match p.2.cls with
 | .type n=> !(n=="list")
 |_=>true
theorem zN{K:PySem.W.Frag}{a:Addr}{o:Obj}(h:qx K=true)(e:K.lookup a=some o):o.cls≠ .type "list":=fun z=>by
 have q:=List.all_eq_true.mp h (a,o) (mem_of_lookupK e);dsimp only at q;rw[z]at q;exact absurd q (by decide)
theorem x8{Pr:Program}{w:World}{K:PySem.W.Frag}{mg mb:Str->Option Value}{CX:CXT}{k:Nat}{fa a c P:Addr}{fd:FuncData}{x:Str}{sp:Sp}{s₁:Shared}{vs:List Value}{ns:List Int}
  (KX:K.In s₁.heap) (nL:qx K=true) (nT:noTabs K=true) (hns:s₁.heap.Ns mainGlobals mg) (hb:s₁.heap.Ns builtinsNs mb) (hbb:∀x:Str,x≠"__name__"->mb x=bootBuiltins x) (hlim:s₁.heap.NoLimit) (hg:s₁.gens= #[])
  (hC:CodeHd s₁.heap c P) (hP:s₁.heap.get? P=some (tabObj #[])) (hbm:∃bm ob,mg "__builtins__"=some (.ref bm)/\bm≠builtinsNs/\s₁.heap.get? bm=some ob/\ob.cls=.type "module"/\ob.dict=some builtinsNs/\ob.data=.plain)
  (ha:s₁.heap.get? a=some {cls:=.type "list",data:=.seq vs.toArray}) (hi:IntsAre vs ns) (hl:ns.length<=sizeLine) (hr:Room k callerA)
  (F:∀base:Heap,K.In base->base.Ns mainGlobals mg->Lamb mg base c P->FnOk Pr w K mg base CX k fa fd [x] sp) (hbind:∀(s:Shared)(u:Value),BindsTo s fd ⟨[u],[]⟩ [(x,u)])
  (hsp:∀H:Hp,vU P H->(∃o,H a=some (.frz o (.lst (ns.map V.int))))->sp [.ref a] H (fun v _=>v=.bl true) fun _ _ _=>False)
  (hCX:∀H e s',CX [] H s₁ (fun _ _ _=>False) e s'->False):
  codeAny (model Pr w) callerA (.call (.ref fa) ⟨[.ref a],[]⟩) (fun r s'=>r=.ok (.ret (.bool true))/\OldK s₁.heap s'.heap/\s'.os=s₁.os/\AllBare s'.gens) s₁:=by
 have rv:=Ut hi;have lenV:=hi.length;have hPa:P≠a:=fun z=>by rw[z,ha]at hP;cases hP
 have hKP:K.lookup P=none:=by
  cases q:K.lookup P with
  |none=>rfl
  |some o=>
   have e:=KX P o q;rw[hP]at e;cases e;have z:=List.all_eq_true.mp nT (P,_) (mem_of_lookupK q);exact absurd (show false=true from z) Bool.false_ne_true
 have core:∀H:Hp,vU P H->(∃o,H a=some (.frz o (.lst (ns.map V.int))))->HOk Pr w H s₁.heap->(∀b,H b≠none->b=a\/b=P)->(H a≠none->K.lookup a=none)->
   codeAny (model Pr w) callerA (.call (.ref fa) ⟨[.ref a],[]⟩) (fun r s'=>r=.ok (.ret (.bool true))/\OldK s₁.heap s'.heap/\s'.os=s₁.os/\AllBare s'.gens) s₁:=by
  intro H hO hS hok hA hK;have base_of:∀{b:Addr}{o:Obj},s₁.heap.get? b=some o->H b=none->(vq s₁.heap H).get? b=some o:=fun e n=>vA e n;have noO:∀{b:Addr}{o:Obj},s₁.heap.get? b=some o->(∀vs n,o.data≠ .seq vs n)->(o.cls≠ .none)->H b=none:=fun{b o} e d1 d2=>by
   cases q:H b with
   |none=>rfl
   |some u=>
    rcases hA b (by rw[q];simp)with z|z
    ·subst z;rw[ha]at e;cases e;exact absurd rfl (d1 _ _)
    ·subst z;rw[hP]at e;cases e;exact absurd rfl d2
  have noA:∀{b:Addr}{o:Obj}{es:Array DictEntry}{ep:Nat},s₁.heap.get? b=some o->o.data=.dict es ep->H b=none:=fun{b o es ep} e d=>by
   cases q:H b with
   |none=>rfl
   |some u=>
    rcases hA b (by rw[q];simp)with z|z
    ·subst z;rw[ha]at e;cases e;cases d
    ·subst z;rw[hP]at e;cases e;cases d
  have nsK:∀{b:Addr}{m:Str->Option Value},s₁.heap.Ns b m->(vq s₁.heap H).Ns b m:=fun{b m}⟨o,es,ep,e,d,r⟩=>⟨o,es,ep,base_of e (noA e d),d,r⟩;have hKb:K.In (vq s₁.heap H):=fun b o e=>base_of (KX b o e) (by
   cases q:H b with
   |none=>rfl
   |some u=>
    rcases hA b (by rw[q];simp)with z|z
    ·subst z;rw[hK (by rw[q];simp)]at e;cases e
    ·subst z;rw[hKP]at e;cases e)
  have hM:Mod K mg (vq s₁.heap H):=⟨hKb,nsK hns,⟨mb,nsK hb,hbb⟩,let ⟨mc,h1,h2⟩:=hlim;⟨mc,nsK h1,h2⟩⟩;have e0:Env0 Pr w K mg (vq s₁.heap H) callerA [] s₁ H:=⟨rfl,hM,fun b o e=>QaX e,Nat.le_of_eq (xA _ _),trivial,fun b hb=>absurd (show b∈([]:List Addr)from hb) (by simp),hok,.of_eq hg⟩;have L:Lamb mg (vq s₁.heap H) c P:=by
   obtain⟨o,vs',file,tf,flags,tg,inF,text,tt,e1,r1,r2,r⟩:=hC;obtain⟨bm,ob,b1,b2,b3,b4,b5,b6⟩:=hbm;exact⟨⟨o,vs',file,tf,flags,tg,inF,text,tt,base_of e1 (noO e1 (fun vs n z=>by rw[r2]at z;cases z) fun z=>by rw[r1]at z;cases z),r1,r2,r⟩,
    ⟨bm,ob,b1,b2,base_of b3 (noO b3 (fun vs n z=>by rw[b6]at z;cases z) fun z=>by rw[b4]at z;cases z),b4,b5,b6⟩⟩
  refine codeAny_mono ((F _ hKb (nsK hns) L).run callerA [] s₁ H ⟨[.ref a],[]⟩ [.ref a] [.ref a] _ _ hr e0 (hbind s₁ (.ref a)) (.cons rfl .nil) (hsp H hO hS)) fun r s' h=>?_;cases r with
  |error e=>exact(hCX H e s' h).elim
  |ok fl=>
   cases fl with
   |next=>exact False.elim h
   |brk=>exact False.elim h
   |cont=>exact False.elim h
   |ret u=>
    obtain⟨v,H',os,bare,un,hok',r',q⟩:=h;have q':v=.bl true:=q;subst q';obtain rfl:u=Value.bool true:=r';have tabK:∃ps,s'.heap.get? P=some (tabObj ps):=by
     obtain⟨more,e⟩:=un.tbls P #[] hO.1;exact⟨_,hok' P _ e⟩
    have keep:∀b o,b≠P->s₁.heap.get? b=some o->s'.heap.get? b=some o:=fun b o hbP e=>by
     cases q:H b with
     |none=>exact un.keep b o e q (by intro z;exact absurd (show b∈([]:List Addr)from z) (by simp)) (by simp)
     |some u=>
      rcases hO.2 b hbP with z|⟨ob,xs,z⟩
      ·rw[q]at z;cases z
      ·have z2:=un.frzs b ob _ z;obtain⟨e1,_⟩:=hok b _ z;obtain⟨e2,_⟩:=hok' b _ z2;rw[e]at e1;cases e1;exact e2
    refine⟨rfl,⟨fun b o e=>?_,fun b o e=>?_⟩,os,bare⟩
    ·by_cases hbP:b=P
     ·subst hbP;rw[hP]at e;cases e;obtain⟨ps,e2⟩:=tabK;exact .inr (.inl ⟨(hC.tab hP).isCodeTable,rfl, #[],ps,rfl,by rw[Array.empty_append];exact e2⟩)
     ·exact .inl (keep b o hbP e)
    ·by_cases hbP:b=P
     ·subst hbP;obtain⟨ps,e2⟩:=tabK;exact⟨_,e2⟩
     ·exact⟨o,keep b o hbP e⟩
 cases hk:K.lookup a with
 |some o=>
  have e:=KX a o hk;rw[ha]at e;cases e;exact absurd rfl (zN nL hk)
 |none=>
  refine core (fun b=>if b=a then some (.frz {cls:=.type "list",data:=.seq vs.toArray} (.lst (ns.map V.int)))else if b=P then some (.tbl #[])else none) ⟨?_,fun b hb=>?_⟩ ⟨{cls:=.type "list",data:=.seq vs.toArray},if_pos rfl⟩ (fun b u z=>?_) (fun b z=>?_) fun _=>hk
  ·show(if P=a then _ else if P=P then _ else _)=_;rw[if_neg hPa,if_pos rfl]
  ·by_cases h1:b=a
   ·exact .inr ⟨_,_,if_pos h1⟩
   ·exact .inl (by show(if b=a then _ else if b=P then _ else _)=_;rw[if_neg h1,if_neg hb])
  ·by_cases h1:b=a
   ·have z':=(if_pos h1).symm.trans z;cases z';subst h1;exact⟨ha,by rw[uk];exact hl,vs,_,rv,ha⟩
   ·have z1:=(if_neg h1).symm.trans z
    by_cases hb:b=P
    ·subst hb;have z':=(if_pos rfl).symm.trans z1;cases z';exact hP
    ·have z':=(if_neg hb).symm.trans z1;cases z'
  ·by_cases h1:b=a
   ·exact .inl h1
   ·by_cases hb:b=P
    ·exact .inr hb
    ·exact absurd ((if_neg h1).trans (if_neg hb)) z
theorem vV{l:PySem.W.OpenLaw}{n k:Nat}{q:Program}{loose:List Str}{XP:(Str->Option Value)->Heap->Prop}{YP:World->Heap->Prop}{d d':DefRec}{K:Params->PySem.W.Frag}{CX:World->CXT}{sp:World->Addr->Sp}{x:Str}
  (hn:l.most=some n) (hn2:n<=sizeLine) (hdf:d.params.defaults=[]) (hr:Room k callerA)
  (hY:∀(w:World)(h:Heap),YP w h->(K w.params).In h) (nL:∀w:World,qx (K w.params)=true) (nT:∀w:World,noTabs (K w.params)=true) (hrec:(recsOf q).find? (fun e=>e.name==d.name)=some d')
  (hT:∀w:World,∃c P,tabIn (K w.params) d.name=some (c,P))
  (F:∀(w:World)(mg:Str->Option Value)(fa:Addr)(h:Heap),(K w.params).In h->h.Ns mainGlobals mg->mg d.name=some (.ref fa)->
   ∃fd:FuncData,(∀(s:Shared)(u:Value),BindsTo s fd ⟨[u],[]⟩ [(x,u)])/\
    ∀(base:Heap)(c P:Addr),tabIn (K w.params) d.name=some (c,P)->(K w.params).In base->base.Ns mainGlobals mg->Lamb mg base c P->FnOk l.prog w (K w.params) mg base (CX w) k fa fd [x] (sp w P))
  (hsp:∀(w:World)(H:Hp)(a P:Addr)(ns:List Int),ns.length<=n->vU P H->(∃o,H a=some (.frz o (.lst (ns.map V.int))))->sp w P [.ref a] H (fun v _=>v=.bl true) fun _ _ _=>False)
  (hCX:∀(w:World)(H:Hp)(s:Shared)(e:Value)(s':Shared),CX w [] H s (fun _ _ _=>False) e s'->False):
  PySem.W.WalkO q loose XP YP l.row.toRowW d [] (fun f vs=>PySem.call f vs):=by
 refine Att.qu hn hdf fun w s₀ s₁ mg mb fa o pm cd doc a vs ns G Y ho hd hcd hmg hobj hints hlen hg=>?_;have KX:=hY w _ Y;obtain⟨fd,hb,hF⟩:=F w mg fa _ KX G.T.g hmg;obtain⟨c,P,ht⟩:=hT w;obtain⟨hC,hP⟩:=tab_of G.T KX hrec ht;exact x8 (c:=c) (P:=P) (sp:=sp w P) KX (nL w) (nT w) G.T.g G.T.b G.T.builtins G.T.nolimit hg hC hP G.T.bmain hobj hints (Nat.le_trans hlen hn2) hr (fun base kb nb L=>hF base c P ht kb nb L) hb (fun H hO hS=>hsp w H a P ns hlen hO hS) fun H e s'=>hCX w H s₁ e s'
noncomputable def JE(cells:List (Str × Addr)):List (Str × NameKind)->List (Str × Addr)->List (Str × Addr)
 |[],acc=>acc
 |(n,k)::r,acc=>JE cells r (if k==.free then(n,(cells.lookup n).getD 0)::acc else acc)
theorem x9{env:Env}:∀(names:List (Str × NameKind))(acc:List (Str × Addr)),(∀y∈names,y.2=.free->∃c,env.cells.lookup y.1=some c)->
  (forIn names acc fun x(cs:List (Str × Addr))=>(do
   let (name,kind):=x
   if kind==.free then
    let c←cellOf env name
    pure (ForInStep.yield ((name,c)::cs))
   else pure (ForInStep.yield cs):Sem (ForInStep (List (Str × Addr)))))=pure (JE env.cells names acc)
 |[],acc,_=>rfl
 |(n,k)::r,acc,h=>by
  rw[List.forIn_cons];have ih:=fun acc'=>x9 (env:=env) r acc' fun y hy=>h y (uz _ hy)
  by_cases hk:k=.free
  ·subst hk;obtain⟨c,hc⟩:=h (n,.free) uA rfl;have hc':env.cells.lookup n=some c:=hc;show _=pure (JE env.cells r (if NameKind.free==NameKind.free then _ else _));have e:cellOf env n=pure c:=by unfold cellOf;rw[hc']
   simp only[beq_self_eq_true,if_true,e,pure_bind,hc',Option.getD_some];exact ih _
  ·have hb:(k==NameKind.free)=false:=beq_eq_false_iff_ne.mpr hk;show _=pure (JE env.cells r (if k==NameKind.free then _ else _));simp only[hb,Bool.false_eq_true,if_false,pure_bind];exact ih _
theorem ZW{scope:Scope}{env:Env}(h:∀y∈scope.names,y.2=.free->∃c,env.cells.lookup y.1=some c):closureFor scope env=pure (JE env.cells scope.names []):=by
 unfold closureFor;have:=x9 (env:=env) scope.names [] h;simp only[bind_pure]at this ⊢;exact this
theorem WU{cells:List (Str × Addr)}{x:Str}{c:Addr}:∀(names:List (Str × NameKind))(acc:List (Str × Addr)),(∀y∈names,y.2=.free->∃c,cells.lookup y.1=some c)->(acc.lookup x=some c->cells.lookup x=some c)->
  (JE cells names acc).lookup x=some c->cells.lookup x=some c
 |[],_,_,h,e=>h e
 |(n,k)::r,acc,h0,h,e=>by
  unfold JE at e;refine WU r _ (fun y hy=>h0 y (uz _ hy)) (fun e'=>?_) e
  split at e'
  ·rename_i hk;rw[List.lookup_cons]at e'
   split at e'
   ·rename_i hx;have hx':x=n:=eq_of_beq hx;subst hx';obtain⟨d,hd⟩:=h0 (x,k) uA (eq_of_beq hk);have hd':cells.lookup x=some d:=hd;rw[hd']at e' ⊢;exact e'
   ·exact h e'
  ·exact h e'
theorem Kj{cells:List (Str × Addr)}{x:Str}:∀(names:List (Str × NameKind))(acc:List (Str × Addr)),((∃c,acc.lookup x=some c)\/(x,NameKind.free)∈names)->∃c,(JE cells names acc).lookup x=some c
 |[],acc,h=>by
  rcases h with h|h
  ·exact h
  ·cases h
 |(n,k)::r,acc,h=>by
  unfold JE;refine Kj r _ ?_;rcases h with⟨c,h⟩|h
  ·refine .inl ?_
   split
   ·rw[List.lookup_cons]
    split
    ·exact⟨_,rfl⟩
    ·exact⟨c,h⟩
   ·exact⟨c,h⟩
  ·rcases List.mem_cons.mp h with e|h
   ·cases e;refine .inl ?_;rw[if_pos (by rfl),List.lookup_cons,beq_self_eq_true];exact⟨_,rfl⟩
   ·exact .inr h
section
variable {P:Program}{w:World}{K:PySem.W.Frag}{mg:Str->Option Value}{base:Heap}
theorem okE{x qual:Str}{st:Stmt}{f:Addr}{fd:FuncData}{N ps:List Str}{k:Nat}{sp:Sp}(F:Fun K x qual st f fd)(S:FnScope N ps (Qf st))(len:∀vs H Q E,sp vs H Q E->vs.length=ps.length)
  (hbody:∀(cdv:Value)(A:Around)(outer:List Env)(s:Shared)(H:Hp)(vs:List V)(Q:VK)(E:XK),Room k (A.deeper (envOfC qual (Qf st) s.heap.objs.size f cdv))->sp vs H Q E->
   ∃t,PSs (Yf (CXE P w) P w K mg base N qual (Qf st) f cdv A outer s H E) (Q3 st) t/\t {nx:=fun _ H'=>Q .non H',rt:=Q} (start N vs) H):FnOk P w K mg base (CXE P w) (k+1) f fd ps sp:=by
 obtain⟨oc,od,kV,doc,pm,an,cdv,ct,osl,rfl,lk,hcd⟩:=F.ex;exact Qcr lk hcd S len fun A outer s H vs Q E hr hsp=>hbody cdv A outer s H vs Q E hr hsp
theorem okN{x qual:Str}{st:Stmt}{f:Addr}{fd:FuncData}{N ps:List Str}{k:Nat}{sp:Sp}(F:Fun K x qual st f fd)(S:FnScope N ps (Qf st))(len:∀vs H Q E,sp vs H Q E->vs.length=ps.length)
  (hbody:∀(cdv:Value)(A:Around)(outer:List Env)(s:Shared)(H:Hp)(vs:List V)(Q:VK)(E:XK),Room k (A.deeper (envOfC qual (Qf st) s.heap.objs.size f cdv))->sp vs H Q E->
   ∃t,PSs (Yf (CXE P w) P w K mg base N qual (Qf st) f cdv A outer s H E).nox (Q3 st) t/\t {nx:=fun _ H'=>Q .non H',rt:=Q} (start N vs) H):FnOk P w K mg base (CXE P w) (k+1) f fd ps sp:=
 okE F S len fun cdv A outer s H vs Q E hr hsp=>by
  obtain⟨t,h,q⟩:=hbody cdv A outer s H vs Q E hr hsp;exact⟨t,h.nox,q⟩
end
structure PEx(X:Cx)(e:Expr)(t:TE):Prop where
 pe:PE X e t
structure PSx(X:Cx)(e:List Stmt)(t:TS):Prop where
 ps:PSs X e t
theorem Qd3{X:Cx}{k1 k2 v1 v2:Expr}{pos pos':Pos}{t1 t2 u1 u2:TE}(h1:PEx X k1 t1)(h2:PEx X v1 u1)(h3:PEx X k2 t2)(h4:PEx X v2 u2):PSx X [.Return (some (.Dict [some k1,some k2] [v1,v2] pos)) pos'] (QaZ (vL [(t1,u1),(t2,u2)])):=
 ⟨Qh (QD (xY (Yj h1.pe h2.pe (Yj h3.pe h4.pe xX)) rfl rfl (List.cons_ne_nil _ _) (Nat.le_of_ble_eq_true rfl)))⟩
theorem zO{X:Cx}{x y:Str}{i:Int}{p1 p2 p3 p4 p5 p6:Pos}{j1 j2 j3:Nat}:PSx X [.Return (some (.Dict [some (.Constant (.str x) j1 p1),some (.Constant (.str y) j2 p2)] [.Constant (.int i) j3 p3,.Dict [] [] p4] p5)) p6] (QaZ (vL [(tC (.str x),tC (.int i)),(tC (.str y),Qas)])):=
 Qd3 ⟨Qg⟩ ⟨Qd⟩ ⟨Qg⟩ ⟨vK⟩
theorem Wu{P:Program}{w:World}{K:PySem.W.Frag}{mg:Str->Option Value}{base:Heap}{x qual:Str}{st:Stmt}{f:Addr}{fd:FuncData}{N ps:List Str}{k:Nat}{sp:Sp}(F:Fun K x qual st f fd)(S:FnScope N ps (Qf st))(len:∀vs H Q E,sp vs H Q E->vs.length=ps.length)
  (hbody:∀(cdv:Value)(A:Around)(outer:List Env)(s:Shared)(H:Hp)(vs:List V)(Q:VK)(E:XK),Room k (A.deeper (envOfC qual (Qf st) s.heap.objs.size f cdv))->sp vs H Q E->
   ∃t,PSx (Yf (CXE P w) P w K mg base N qual (Qf st) f cdv A outer s H E).nox (Q3 st) t/\t {nx:=fun _ H'=>Q .non H',rt:=Q} (start N vs) H):FnOk P w K mg base (CXE P w) (k+1) f fd ps sp:=
 okN F S len fun cdv A outer s H vs Q E hr hsp=>by
  obtain⟨t,h,q⟩:=hbody cdv A outer s H vs Q E hr hsp;exact⟨t,h.ps,q⟩
structure Def(P:Program)(w:World)(K:PySem.W.Frag)(mg:Str->Option Value)(base:Heap)(k:Nat)(x:Str)(ps:List Str)(sp:Sp):Prop where
 ex:∃f fd,mg x=some (.ref f)/\keepIn K (.ref f)=true/\Binds K fd ps []/\FnOk P w K mg base (CXE P w) k f fd ps sp
section
variable {X:Cx}{k k':Nat}{x:Str}{ps:List Str}{sp:Sp}{E:XK}{p pos:Pos}{e:Expr}{es:List Expr}{t:TA}
theorem Def.pe(D:Def X.prog X.w X.K X.mg X.base k x ps sp)(hr:Room k' X.A)(hk:k<=k')(hg:Gl X x)(hx:Passes (CXE X.prog X.w) X E)(ha:PA X (e::es) t)(hdb:(x==("__debug__":Str))=false:=by decide)
  (he:starEach (e::es) X.env=(false,eval e X.env)::starEach es X.env:=by rfl) (hpl:(backTo pos (starEach es X.env)).any (·.1)=false:=by rfl):PE X (.Call (.Name x p) (e::es) [] pos) (VB sp [] E t):=by
 obtain⟨f,fd,h1,h2,h3,h4⟩:=D.ex;exact Qa2 h4 (hr.mono hk) hg h1 h2 h3 .nil hx ha hdb he hpl
theorem Def.pe0(D:Def X.prog X.w X.K X.mg X.base k x ps sp)(hr:Room k' X.A)(hk:k<=k')(hg:Gl X x)(hx:Passes (CXE X.prog X.w) X E)(hdb:(x==("__debug__":Str))=false:=by decide):
  PE X (.Call (.Name x p) [] [] pos) (VB sp [] E WO):=by
 obtain⟨f,fd,h1,h2,h3,h4⟩:=D.ex;exact vG h4 (hr.mono hk) hg h1 h2 h3 .nil hx hdb
end
theorem ifB{c:Bool}{A B:Prop}(hT:c=true->A)(hF:c=false->B):if c=true then A else B:=by
 cases c with
 |true=>rw[if_pos rfl];exact hT rfl
 |false=>rw[if_neg (by decide)];exact hF rfl
theorem Qbf(x y:Int):(!decide (V.int x=V.int y))=decide (x≠y):=by
 by_cases h:x=y
 ·subst h;simp
 ·rw[um (fun e=>h (V.int.inj e)),uo h];rfl
theorem WV(x y:Int):decide (V.int x=V.int y)=decide (x=y):=by
 by_cases h:x=y
 ·subst h;simp
 ·rw[um (fun e=>h (V.int.inj e)),um h]
theorem Qd4{A:Around}{k:Nat}(hr:Room k A):A.units+1+1<cLine:=Nat.lt_of_le_of_lt (by omega:A.units+1+1<=A.units+64) hr.units
theorem SqL.upd{K:PySem.W.Frag}{H:Hp}{a b:Addr}{o:HO}{xs:List V}(h:SqL K H a xs)(n:a≠b):SqL K (upd H b o) a xs:=by
 rcases h with(h|⟨o',h⟩)|h
 ·exact .inl (.inl (by rw[Qp n];exact h))
 ·exact .inl (.inr ⟨o',by rw[Qp n];exact h⟩)
 ·exact .inr h
theorem Qk.new{H:Hp}{p:Addr}{o:HO}(h:H p=none):Qk H (upd H p o):=fun b u e=>by rw[Qp (Qv e h)];exact e
structure TownAt(H:Hp)(t r:Addr)(c:Int)(rs:List (Key × V)):Prop where
 tw:H t=some (.dK [(Sum.inr "count",.int c),(Sum.inr "rests",.ref r)])
 rt:H r=some (.dK rs)
 vs:∀kv∈rs,∃k z,kv=(Sum.inl k,V.int z)
 c0:0<=c
 ln:(rs.length:Int)<=c
 ne:t≠r
theorem TownAt.same{H H':Hp}{t r:Addr}{c:Int}{rs:List (Key × V)}(T:TownAt H t r c rs)(e:Qk H H'):TownAt H' t r c rs:=⟨e _ _ T.tw,e _ _ T.rt,T.vs,T.c0,T.ln,T.ne⟩
noncomputable def Apart(t r:Addr)(H H':Hp):Prop:=∀b o,H b=some o->b≠t->b≠r->H' b=some o
theorem Apart.trans{t r:Addr}{H H1 H2:Hp}(a:Apart t r H H1)(b:Apart t r H1 H2):Apart t r H H2:=fun c o e n1 n2=>b c o (a c o e n1 n2) n1 n2
theorem Apart.of{t r:Addr}{H H1:Hp}(a:Qk H H1):Apart t r H H1:=fun c o e _ _=>a c o e
theorem Apart.seq{K:PySem.W.Frag}{t r a:Addr}{H H':Hp}{xs:List V}(e:Apart t r H H')(h:SqL K H a xs)(n1:a≠t)(n2:a≠r):SqL K H' a xs:=by
 rcases h with(h|⟨o,h⟩)|h
 ·exact .inl (.inl (e _ _ h n1 n2))
 ·exact .inl (.inr ⟨o,e _ _ h n1 n2⟩)
 ·exact .inr h
theorem Uy{rs:List (Key × V)}(h:∀kv∈rs,∃k z,kv=(Sum.inl k,V.int z)) (k:Int) (d:Int):∃z,(VT rs (Sum.inl k:Key)).getD (.int d)=.int z:=by
 cases e:rs.find? fun kv=>decide (kv.1=(Sum.inl k:Key))with
 |none=>exact⟨d,by unfold VT;rw[e];rfl⟩
 |some p=>
  obtain⟨k',z,rfl⟩:=h p (List.mem_of_find?_eq_some e);exact⟨z,by unfold VT;rw[e];rfl⟩
theorem Uz{rs:List (Key × V)}(h:∀kv∈rs,∃k z,kv=(Sum.inl k,V.int z)) (k z:Int):(∀kv∈putK rs (Sum.inl k:Key) (.int z),∃k z,kv=(Sum.inl k,V.int z))/\(putK rs (Sum.inl k:Key) (.int z)).length<=rs.length+1:=by
 unfold putK
 split
 ·refine⟨fun kv hm=>?_,by rw[uk];omega⟩;obtain⟨p,hp,rfl⟩:=List.mem_map.mp hm;obtain⟨k',z',rfl⟩:=h p hp
  split
  ·exact⟨k',z,rfl⟩
  ·exact⟨k',z',rfl⟩
 ·refine⟨fun kv hm=>?_,by rw[uj];exact uq _⟩;rcases List.mem_append.mp hm with hm|hm
  ·exact h kv hm
  ·exact⟨k,z,List.mem_singleton.mp hm⟩
theorem ka:¬ ((Sum.inr "count":Key)=(Sum.inr "rests":Key)):=by
 have h:¬ ("count":Str)="rests":=by decide+kernel
 exact fun e=>h (Sum.inr.inj e)
theorem vW(c d:Int)(r:Addr):putK [((Sum.inr "count":Key),V.int c),(Sum.inr "rests",V.ref r)] (Sum.inr "count") (.int d)=[((Sum.inr "count":Key),V.int d),((Sum.inr "rests":Key),V.ref r)]:=by
 have h:¬ ((Sum.inr "rests":Key)=(Sum.inr "count":Key)):=fun e=>ka e.symm;unfold putK;rw[if_pos (by simp)];simp only[uN,List.map_nil,if_true,if_neg h]
theorem Xw{H:Hp}{t r:Addr}{c:Int}(h:H t=some (.dK [(Sum.inr "count",.int c),(Sum.inr "rests",.ref r)])):jJ H t (.str "count") (some (.int c)):=by
 have e:=jJ.k (k:=(Sum.inr "count":Key)) h;rw[Kf rfl]at e;exact e
theorem Xx{H:Hp}{t r:Addr}{c:Int}(h:H t=some (.dK [(Sum.inr "count",.int c),(Sum.inr "rests",.ref r)])):jJ H t (.str "rests") (some (.ref r)):=by
 have e:=jJ.k (k:=(Sum.inr "rests":Key)) h;rw[Wr ka,Kf rfl]at e;exact e
theorem zP{H:Hp}{t r:Addr}{c:Int}(d:Int)(h:H t=some (.dK [(Sum.inr "count",.int c),(Sum.inr "rests",.ref r)])):Qaq H t (.str "count") (.int d) (upd H t (.dK [(Sum.inr "count",.int d),(Sum.inr "rests",.ref r)])):=by
 have e:=Qaq.k (k:=(Sum.inr "count":Key)) (v:=.int d) h (by show 2<sizeLine;decide);rw[vW]at e;exact e
noncomputable def WW(K:PySem.W.Frag):Sp:=fun vs H Q _=>∃(a t r:Addr)(ns:List Int)(c many:Int)(rs:List (Key × V)),vs=[.ref a,.ref t,.int many]/\SqL K H a (ns.map V.int)/\TownAt H t r c rs/\a≠t/\a≠r/\ns.length<=63/\c<100000/\0<many/\many<1000000/\
 ∀(v:Int)(rs':List (Key × V))(H':Hp),0<=v->v<many->TownAt H' t r (c+1) rs'->Apart t r H H'->Q (.int v) H'
noncomputable def qy:Sp:=fun vs H Q _=>vs=[]/\∀(t r:Addr)(H':Hp),H t=none->H r=none->TownAt H' t r 0 []->Qk H H'->Q (.ref t) H'
structure Own(mg:Str->Option Value):Prop where
 len:mg "len"=none
 range:mg "range"=none
 abs:mg "abs"=none
 max:mg "max"=none
 int:mg "int"=none
 isi:mg "isinstance"=none
 bool:mg "bool"=none
 val:mg "ValueError"=none
 reversed:mg "reversed"=none
 divmod:mg "divmod"=none
 str:mg "str"=none
 sum:mg "sum"=none
noncomputable def E00:XK:=fun _ _ _=>False
theorem LamAt.alt{X:Cx}{N:List Str}{σ:St}{q:Str}{params:Arguments}{body:Expr}{scope:Scope}{f c':Addr}{cl:List (Str × Addr)}{pm ctv:Value}{pn:List (Addr × Obj)}{xe:Value->Shared->Prop}
  (L:LamAt X N σ q params body scope f c' cl pm ctv):LamAt (X.alt pn xe) N σ q params body scope f c' cl pm ctv:=
 ⟨L.ob,L.un,L.fr,L.code,L.kind,L.co,L.gen,L.bind,L.len,L.cells⟩
noncomputable def QeJ(P:Addr)(q:Str)(th:St->Addr->Addr->Hp->VK->Prop):TE:=fun σ H Q=>VC H P q/\∀(f c':Addr)(H1:Hp),H1 f=none->H1 c'=some (KP c' q)->VC H1 P q->(∀b o,H b=some o->b≠P->H1 b=some o)->th σ f c' H1 Q
section
variable {X:Cx}{k:Nat}{x qual:Str}{st:Stmt}{fa:Addr}{fd:FuncData}{N:List Str}{p1:Str}{E:XK}{c P:Addr}{q:Str}{params:Arguments}{body:Expr}{scope:Scope}{p lpos cpos:Pos}{th:St->Addr->Addr->Hp->VK->Prop}
theorem zQ(F:Fun X.K x qual st fa fd)(S:FnScope N [p1] (Qf st))(hm:X.mg x=some (.ref fa))(hg:Gl X x)(hb:Binds X.K fd [p1] [])(hr:Room (k+1) X.A)(hx:Passes (CXE X.prog X.w) X E)
  (L:Lamb X.mg X.base c P) (hcode:X.env.code=.ref c) (hq:q=X.env.qual++"<lambda>") (hdef:defaultsOf params X.env=([],[])) (hfn:∀y,X.fn y=true)
  (sk:scope.kind=.function) (sco:scope.isCoroutine=false) (sgen:scope.isGenerator=false) (snone:∀y∈scope.names,y.2≠ .local/\y.2≠ .cell) (sfree:∀y∈scope.names,y.2=.free->X.env.scope.names.lookup y.1=some .cell)
  (hbind:∀cl pm c' ctv,bindArgs (kla_fn "<lambda>" q params body scope cl pm (.ref c') ctv) ⟨[],[]⟩=pure [])
  (hbody:∀(cdv:Value)(σ:St)(f c':Addr)(cl:List (Str × Addr))(pm ctv:Value)(s1:Shared)(H1:Hp)(Q:VK),
   LamAt (Yf (CXE X.prog X.w) X.prog X.w X.K X.mg X.base N qual (Qf st) fa cdv X.A X.stack s1 H1 E) X.N σ q params body scope f c' cl pm ctv->
   (∀x c,cl.lookup x=some c->c<s1.heap.objs.size)->Room k (X.A.deeper (envOfC qual (Qf st) s1.heap.objs.size fa cdv))->th σ f c' H1 Q->
   ∃t,PSs (Yf (CXE X.prog X.w) X.prog X.w X.K X.mg X.base N qual (Qf st) fa cdv X.A X.stack s1 H1 E) (Q3 st) t/\t {nx:=fun _ H'=>Q .non H',rt:=Q} (start N [.ref f]) H1)
  (hdb:(x==("__debug__":Str))=false:=by decide):PE X (.Call (.Name x p) [.Lambda params body scope lpos] [] cpos) (QeJ P q th):=by
 intro pins s σ H Q I h;obtain⟨hT,h⟩:=h;obtain⟨oc,od,kV,doc,pm',an,cdv,ct,osl,rfl,lk,hcd⟩:=F.ex;have has:∀y∈scope.names,y.2=.free->∃c,X.env.cells.lookup y.1=some c:=fun y hy e=>I.ok.has y.1 (.inl (sfree y hy e));refine wpAny_Call_Name_kw (XW I hg hm ?_ hdb);refine callWith_K (h₀:=X.base) I.ok.mod.kin F.kp ?_ rfl rfl;show wpAny _ _ (spliced ((false,eval (.Lambda params body scope lpos) X.env)::[])) _ _ s;refine Calls.spliced_cons (vP I L hcode hq hdef (ZW has) hT fun f c' pm ctv H1 s1 I1 ob un fr code T1 keep kp=>Calls.spliced_nil ⟨I1.kIn,?_⟩);have fs0:∀b∈frs X.stack,∃o,s.heap.get? b=some o:=fun b hb=>let ⟨o,e,_⟩:=(I.stack.mem hb).2;⟨o,e⟩;have cs:∀y d,(JE X.env.cells scope.names []).lookup y=some d->X.env.cells.lookup y=some d:=fun y d e=>WU scope.names [] has (fun z=>nomatch z) e;have frS:∀b∈frs X.stack,b=X.env.locals\/b∈X.fs:=fun b hb=>List.mem_cons.mp (I.Kc b hb);have LA:LamAt (Yf (CXE X.prog X.w) X.prog X.w X.K X.mg X.base N qual (Qf st) fa cdv X.A X.stack s1 H1 E) X.N σ q params body scope f c' (JE X.env.cells scope.names []) pm ctv:=by
  refine⟨ob,un,fun hf=>?_,code,sk,sco,sgen,hbind _ _ _ _,I.len,⟨fun y z d e1 e2=>I.ok.inj y z d (cs y d e1) (cs z d e2),fun y hy=>Kj scope.names [] (.inr (PySem.mem_of_lookup hy)),snone,fun y d e=>?_,fun j y v e1 e2 e3=>?_⟩⟩
  ·obtain⟨o,e⟩:=fs0 f hf;exact absurd (Heap.lt_size e) (Nat.not_lt.mpr fr)
  ·refine⟨I1.freeC y d (cs y d e),fun hf=>?_,I1.cell y d (cs y d e)⟩;rcases frS d hf with z|z
   ·exact I.cne y d (cs y d e) z
   ·obtain⟨o,eo⟩:∃o,X.s₀.heap.get? d=some o:=let ⟨o,e,_⟩:=(I.ok.qf.mem z).2;⟨o,e⟩;exact absurd (Heap.lt_size eo) (Nat.not_lt.mpr (I.ok.cab y d (hfn y) (cs y d e)))
  ·have hy:X.env.scope.names.lookup y=some .cell:=sfree _ (PySem.mem_of_lookup e3) rfl;obtain⟨m,_,hl⟩:=I1.loc;obtain⟨u,r,lk'⟩:=hl j y v e1 e2 (.inr (.inl hy));obtain⟨d,hd⟩:=I.ok.has y (.inl hy);rcases lk' with⟨kk,_⟩|⟨_,d',hd',hc⟩
   ·have z:X.env.scope.names.lookup y=some .local:=kk;rw[hy]at z;cases z
   ·obtain⟨d2,hd2⟩:=Kj (cells:=X.env.cells) scope.names [] (.inr (PySem.mem_of_lookup e3));have:=cs y d2 hd2;rw[hd']at this;cases this;exact⟨u,d',r,hd2,hc⟩
 have hlo:∀y d,(JE X.env.cells scope.names []).lookup y=some d->d<s1.heap.objs.size:=fun y d e=>by
  obtain⟨v,o,e1,_⟩:=I1.cell y d (cs y d e);exact Heap.lt_size e1
 have hB:=hb s1 [.ref f] I1.kIn rfl;refine wpAny_call (codeAny_mono (Qd1 (N:=N) (ps:=[p1]) (Q:=Q) (E:=E) lk hcd S hr I1.QdQ hB (vs:=[.ref f]) (.cons rfl .nil) rfl fun hr'=>hbody cdv σ f c' _ pm ctv s1 H1 Q LA hlo hr' (h f c' H1 un code T1 keep)) fun r s' hq=>?_);cases r with
 |error e=>exact hx pins σ H1 s1 e s' I1 hq
 |ok fl=>
  cases fl with
  |ret u=>exact I1.after hq
  |next=>exact False.elim hq
  |brk=>exact False.elim hq
  |cont=>exact False.elim hq
end
noncomputable def kc(sc outer:Scope):Bool:=sc.names.all fun y=> !(y.2==.free)||outer.names.lookup y.1==some .cell
theorem UA{sc outer:Scope}(h:kc sc outer=true):∀y∈sc.names,y.2=.free->outer.names.lookup y.1=some .cell:=fun y hy e=>by
 have q:=List.all_eq_true.mp h y hy;rw[e]at q;simpa using q
structure FunC(K:PySem.W.Frag)(x qual:Str)(st:Stmt)(f:Addr)(fd:FuncData)(cdv:Value):Prop where
 ex:∃(oc:Value)(od:Option Addr)(kV doc pm:Value)(an:Option Addr)(ct:Value)(osl:Array (Option Value)),
  fd=fnOf x qual (JR st) (Q3 st) (Qf st) .none kV doc pm an cdv ct/\K.lookup f=some ⟨oc,od,.func fd,osl⟩/\codeIn K cdv qual=true
theorem Qfa{P:Program}{w:World}{K:PySem.W.Frag}{mg:Str->Option Value}{base:Heap}{x qual:Str}{st:Stmt}{f:Addr}{fd:FuncData}{cdv:Value}{N ps:List Str}{k:Nat}{sp:Sp}(F:FunC K x qual st f fd cdv)(S:FnScope N ps (Qf st))(len:∀vs H Q E,sp vs H Q E->vs.length=ps.length)
  (hbody:∀(A:Around)(outer:List Env)(s:Shared)(H:Hp)(vs:List V)(Q:VK)(E:XK),Room k (A.deeper (envOfC qual (Qf st) s.heap.objs.size f cdv))->sp vs H Q E->
   ∃t,PSs (Yf (CXE P w) P w K mg base N qual (Qf st) f cdv A outer s H E).nox (Q3 st) t/\t {nx:=fun _ H'=>Q .non H',rt:=Q} (start N vs) H):FnOk P w K mg base (CXE P w) (k+1) f fd ps sp:=by
 obtain⟨oc,od,kV,doc,pm,an,ct,osl,rfl,lk,hcd⟩:=F.ex;exact Qcr lk hcd S len fun A outer s H vs Q E hr hsp=>by
  obtain⟨t,h,q⟩:=hbody A outer s H vs Q E hr hsp;exact⟨t,h.nox,q⟩
structure DefAt(K:PySem.W.Frag)(x:Str)(st:Stmt):Prop where
 ex:∃f fd,nsIn K mainGlobals x=some (some (.ref f))/\Fun K x x st f fd
theorem vX{K:PySem.W.Frag}{x:Str}{st:Stmt}{f:Addr}{oc:Value}{od an:Option Addr}{osl:Array (Option Value)}{kV doc pm cdv ct:Value}(a:nsIn K mainGlobals x=some (some (.ref f)))
  (l:K.lookup f=some ⟨oc,od,.func (fnOf x x (JR st) (Q3 st) (Qf st) .none kV doc pm an cdv ct),osl⟩) (c:codeIn K cdv x=true) (k:keepIn K (.ref f)=true):DefAt K x st:=
 ⟨f,_,a,⟨⟨oc,od,kV,doc,pm,an,cdv,ct,osl,rfl,l,c⟩,k⟩⟩
section
variable {P:Program}{w:World}{K:PySem.W.Frag}{mg:Str->Option Value}{base h:Heap}{x:Str}{st:Stmt}{k:Nat}{ps:List Str}{sp:Sp}
theorem DefAt.def(D:DefAt K x st)(X:K.In h)(G:h.Ns mainGlobals mg)(hok:∀f fd,Fun K x x st f fd->FnOk P w K mg base (CXE P w) k f fd ps sp)
  (hb:∀(kV doc pm:Value)(an:Option Addr)(cdv ct:Value)(us:List Value),us.length=ps.length->bindArgs (fnOf x x (JR st) (Q3 st) (Qf st) .none kV doc pm an cdv ct) ⟨us,[]⟩=pure (ps.zip us)):Def P w K mg base k x ps sp:=by
 obtain⟨f,fd,a,F⟩:=D.ex;exact⟨f,fd,mg_of X G a,F.kp,F.binds hb,hok f fd F⟩
end
theorem QcH{K:PySem.W.Frag}{x:Str}{f c P:Addr}{oc oc2:Value}{od od2:Option Addr}{osl osl2:Array (Option Value)}{fd:FuncData}{vs:Array Value}(a:nsIn K mainGlobals x=some (some (.ref f)))(l:K.lookup f=some ⟨oc,od,.func fd,osl⟩)(hc:fd.code=.ref c)
  (lc:K.lookup c=some ⟨oc2,od2,.fields vs,osl2⟩) (hv:(vs[11]? :Option Value)=some (.ref P)):tabIn K x=some (c,P):=by
 unfold tabIn;simp only[a,l,hc,lc,hv]
theorem ke{k:Bool}{ta tb:TE}{σ:St}{H:Hp}{Q:VK}(Good:V->Hp->Prop)(hT:k=true->(∀v H',Good v H'->Q v H')->ta σ H Q) (hF:k=false->(∀v H',Good v H'->Q v H')->tb σ H Q) (rest:∀v H',Good v H'->Q v H'):if k=true then ta σ H Q else tb σ H Q:=by
 cases k with
 |true=>rw[if_pos rfl];exact hT rfl rest
 |false=>rw[if_neg (by decide)];exact hF rfl rest
theorem Qbg(a:Str):eqV (.str a) (.str a)=true:=by simp[eqV]
theorem EqD.str{K:PySem.W.Frag}{H:Hp}{n:Nat}{a:Str}:EqD K H n (.str a) (.str a) true:=by
 have:=EqD.flat (K:=K) (H:=H) (n:=n) (x:=.str a) (y:=.str a) rfl rfl;rw[Qbg]at this;exact this
theorem all_true(n:Nat):(List.range n).all (fun _=>true)=true:=List.all_eq_true.mpr fun _ _=>rfl
inductive Like (K:PySem.W.Frag) (H:Hp) (n:Nat):List V->List V->Prop where
 |nil:Like K H n [] []
 |cons {x y:V} {xs ys:List V} (h:EqD K H n x y true) (t:Like K H n xs ys):Like K H n (x::xs) (y::ys)
theorem Like.len{K:PySem.W.Frag}{H:Hp}{n:Nat}{xs ys:List V}(l:Like K H n xs ys):xs.length=ys.length:=by
 induction l with
 |nil=>rfl
 |cons h t ih=>rw[uw,uw,ih]
theorem Like.at{K:PySem.W.Frag}{H:Hp}{n:Nat}{xs ys:List V}(l:Like K H n xs ys):∀(j:Nat)(x y:V),xs[j]? =some x->ys[j]? =some y->EqD K H n x y true:=by
 induction l with
 |nil=>intro j x y h;cases h
 |cons h t ih=>
  intro j x y h1 h2;cases j with
  |zero=>cases h1;cases h2;exact h
  |succ j=>exact ih j x y h1 h2
theorem EqD.Qfb{K:PySem.W.Frag}{H:Hp}{n:Nat}{a b:Addr}{xs ys:List V}(ne:a≠b)(ha:SqT K H a xs)(hb:SqT K H b ys)(l:Like K H n xs ys):EqD K H (n+1) (.ref a) (.ref b) true:=by
 have:=EqD.tup (e:=fun _=>true) ne ha hb l.at;rw[all_true,l.len]at this;simpa using this
structure LawSt(H:Hp)(a t r Pa:Addr)(q:Str)(ns:List Int)(c:Int):Prop where
 sc:∃o,H a=some (.frz o (.lst (ns.map V.int)))
 tw:∃rs,TownAt H t r c rs
 tab:VC H Pa q
 ln:ns.length<=63
theorem VC.same{H H':Hp}{P:Addr}{q:Str}(T:VC H P q)(e:Qk H H'):VC H' P q:=by
 obtain⟨ps,h1,h2,h3⟩:=T;exact⟨ps,e _ _ h1,h2,fun p cv z=>let ⟨a,z1,z2⟩:=h3 p cv z;⟨a,z1,e _ _ z2⟩⟩
section
variable {H H':Hp}{a t r Pa:Addr}{q:Str}{ns:List Int}{c c':Int}{K:PySem.W.Frag}
theorem LawSt.same(S:LawSt H a t r Pa q ns c)(e:Qk H H'):LawSt H' a t r Pa q ns c:=
 ⟨let ⟨o,h⟩:=S.sc;⟨o,e _ _ h⟩,let ⟨rs,h⟩:=S.tw;⟨rs,h.same e⟩,S.tab.same e,S.ln⟩
theorem LawSt.nat(S:LawSt H a t r Pa q ns c):a≠t:=fun z=>by
 obtain⟨o,h⟩:=S.sc;obtain⟨rs,h2⟩:=S.tw;rw[z,h2.tw]at h;cases h
theorem LawSt.nar(S:LawSt H a t r Pa q ns c):a≠r:=fun z=>by
 obtain⟨o,h⟩:=S.sc;obtain⟨rs,h2⟩:=S.tw;rw[z,h2.rt]at h;cases h
theorem LawSt.sq(S:LawSt H a t r Pa q ns c):SqL K H a (ns.map V.int):=let ⟨o,h⟩:=S.sc; .inl (.inr ⟨o,h⟩)
theorem LawSt.keep(S:LawSt H a t r Pa q ns c)(A:Apart t r H H'){b:Addr}{o:HO}(e:H b=some o)(n:∀kvs,o≠ .dK kvs):H' b=some o:=by
 obtain⟨rs,h2⟩:=S.tw;refine A b o e (fun z=>?_) fun z=>?_
 ·rw[z,h2.tw]at e;cases e;exact n _ rfl
 ·rw[z,h2.rt]at e;cases e;exact n _ rfl
theorem LawSt.drawn(S:LawSt H a t r Pa q ns c)(A:Apart t r H H'){rs:List (Key × V)}(T:TownAt H' t r c' rs):LawSt H' a t r Pa q ns c':=by
 obtain⟨o,h⟩:=S.sc;obtain⟨ps,h1,h2,h3⟩:=S.tab;exact⟨⟨o,S.keep A h fun _ z=>nomatch z⟩,⟨rs,T⟩,⟨ps,S.keep A h1 (fun _ z=>nomatch z),h2,fun p cv z=>let ⟨b,z1,z2⟩:=h3 p cv z;⟨b,z1,S.keep A z2 fun _ z=>nomatch z⟩⟩,S.ln⟩
theorem LawSt.zR(S:LawSt H a t r Pa q ns c)(k:∀b o,H b=some o->b≠Pa->H' b=some o) {b:Addr} {o:HO} (e:H b=some o) (n:∀ps,o≠ .tbl ps):H' b=some o:=by
 obtain⟨ps,h1,_⟩:=S.tab;refine k b o e fun z=>?_;rw[z,h1]at e;cases e;exact n _ rfl
theorem LawSt.Qfc(S:LawSt H a t r Pa q ns c)(k:∀b o,H b=some o->b≠Pa->H' b=some o) {b:Addr} {xs:List V} (e:H b=some (.tup xs)):H' b=some (.tup xs):=S.zR k e fun _ z=>nomatch z
theorem LawSt.lam(S:LawSt H a t r Pa q ns c)(k:∀b o,H b=some o->b≠Pa->H' b=some o) (T:VC H' Pa q):LawSt H' a t r Pa q ns c:=by
 obtain⟨o,h⟩:=S.sc;obtain⟨rs,h2⟩:=S.tw;exact⟨⟨o,S.zR k h fun _ z=>nomatch z⟩,⟨rs,S.zR k h2.tw (fun _ z=>nomatch z),S.zR k h2.rt (fun _ z=>nomatch z),h2.vs,h2.c0,h2.ln,h2.ne⟩,T,S.ln⟩
end
noncomputable def kg(scope:Scope)(env:Env)(C:Addr):Env:=
 {scope:=scope,locals:=C,globals:=env.globals,cells:=cellsFrom (C+1) scope.names [],qual:=env.qual,func:=none,code:=env.code,frame:=env.frame,builtins:=env.builtins}
noncomputable abbrev JD(X:Cx)(NB:List Str)(scope:Scope)(s:Shared)(H:Hp)(ex:List Addr):Cx:=
 {X with N:=NB,s₀:=s,H₀:=H,env:=kg scope X.env s.heap.objs.size,outer:=X.stack,ex:=ex,fn:=fun _=>true,pn:=[],xe:=fun _ _=>False}
structure BlkScope(NB:List Str)(scope:Scope):Prop where
 kind:scope.kind=.function
 nd:NB.Nodup
 nofree:∀y∈scope.names,y.2≠ .free
 loc:∀y∈scope.names,y.2=.local->scope.names.lookup y.1=some .local
theorem Wh{scope:Scope}{env:Env}(h:∀y∈scope.names,y.2≠ .free):relabel scope env=scope:=by
 obtain⟨k,names,g,c,m⟩:=scope;have e:∀l:List (Str × NameKind),(∀y∈l,y.2≠ .free)->(l.map fun(n,k)=>if(k==NameKind.free&&env.scope.kind==.function&&env.kindOf n==some .cell)then(n,NameKind.cell)else(n,k))=l:=by
  intro l
  induction l with
  |nil=>intro _;rfl
  |cons y r ih=>
   intro hl;obtain⟨n,k⟩:=y;have hk:(k==NameKind.free)=false:=beq_eq_false_iff_ne.mpr (hl (n,k) uA);rw[uN,ih fun y hy=>hl y (uz _ hy)];simp only[hk,Bool.false_and,Bool.false_eq_true,if_false]
 unfold relabel;simp only[e names h]
theorem UB{scope:Scope}{env:Env}(h:∀y∈scope.names,y.2≠ .free):closureFor scope env=pure []:=by
 rw[ZW fun y hy e=>absurd e (h y hy)];have e:∀(l:List (Str × NameKind))(acc:List (Str × Addr)),(∀y∈l,y.2≠ .free)->JE env.cells l acc=acc:=by
  intro l
  induction l with
  |nil=>intro acc _;rfl
  |cons y r ih=>
   intro acc hl;obtain⟨n,k⟩:=y;have hk:(k==NameKind.free)=false:=beq_eq_false_iff_ne.mpr (hl (n,k) uA);unfold JE;rw[hk];exact ih acc fun y hy=>hl y (uz _ hy)
 rw[e _ _ h]
theorem XL{M:Model}{A:Around}{E:Value->Shared->Prop}{s:Shared}{scope:Scope}{globals:Addr}{qual:Str}{env:Env}{Q:Env->Shared->Prop}(hk:scope.kind=.function)
  (hQ:∀cenv s',cenv={scope:=scope,locals:=s.heap.objs.size,globals:=globals,cells:=cellsFrom (s.heap.objs.size+1) scope.names [],qual:=qual,func:=none,code:=env.code,frame:=env.frame,builtins:=env.builtins}->
   InCallC s s.heap.objs.size (fun _=>none) (cellsFrom (s.heap.objs.size+1) scope.names []) (fun _=>none) s'->Q cenv s'):
  wpAny M A (newFunctionEnv scope globals [] [] qual none .none (some env)) Q E s:=by
 simp only[newFunctionEnv,Option.isSome_some,if_true];refine wpAny_bind (wpAny_alloc ?_);refine wpAny_bind (wpAny_layCells _ (fun name kind cells=>by cases hkc:kind==NameKind.cell<;>simp[hkc]) _ _ _ _ ?_);have ok:=cellsFrom_ok scope.names (s.heap.push {cls:=.type "dict",data:=.dict #[]}) (s.heap.objs.size+1) [] ⟨fun _ _ hm=>(nomatch hm),List.Pairwise.nil⟩ (by rw[Heap.size_push];exact uq _);rw[Heap.size_push]at ok;rw[show({s with heap:=s.heap.push {cls:=.type "dict",data:=.dict #[]}}:Shared).heap.objs.size=s.heap.objs.size+1 from Heap.size_push ..];refine wpAny_bind (wpAny_pure (wpAny_pure (hQ _ _ rfl ?_)));exact⟨⟨⟨_,_,rfl⟩,(Heap.Ns.new s.heap (.type "dict")).keeps (pushCells_keeps _ _),fun b o e=>pushCells_keeps _ _ b o (Heap.get?_push_of_some _ e),uq _⟩,
   fun n c hc=>(ok.empty n c (mem_of_lookup hc)).1,ok.apart,fun n c hm=>(ok.empty n c hm).2⟩
section
variable {prog:Program}{w:World}{A:Around}{E:Value->Shared->Prop}{R:Result->Shared->Prop}{s:Shared}
theorem WX{elt target iter:Expr}{ifs:List Expr}{scope:Scope}{pos:Pos}{it acc:Value}{env:Env}(I:Nat->Shared->Prop)
  (turn:∀n s,I n s->wpAny (model prog w) A (pyNext it) (fun r s₁=>match r with
   |none=>R (.ok .next) s₁
   |some v=>wpAny (model prog w) A (letOwnedTupleGo target it v) (fun _ s₁'=>wpAny (model prog w) A (assign target env v) (fun _ s₂=>
     wpAny (model prog w) A (forIn ifs true fun c r=>if r=true then do let ok←isTrue c env (eval c env);pure (ForInStep.yield ok)else pure (ForInStep.yield r)) (fun ok s₃=>
      if ok=true then wpAny (model prog w) A (eval elt env) (fun x s₄=>
       wpAny (model prog w) A (call (.builtin "list.append") [acc,x]) (fun _ s₅=>∃m,m<n/\I m s₅) (notedBy (model prog w) A env fun e s'=>R (.error e) s') s₄) (notedBy (model prog w) A env fun e s'=>R (.error e) s') s₃
      else ∃m,m<n/\I m s₃) (notedBy (model prog w) A env fun e s'=>R (.error e) s') s₂) (notedBy (model prog w) A env fun e s'=>R (.error e) s') s₁') (notedBy (model prog w) A env fun e s'=>R (.error e) s') s₁) (notedBy (model prog w) A env fun e s'=>R (.error e) s') s)
  (n:Nat) (h:I n s):
  codeAny (model prog w) A (.compLoop (.ListComp elt [⟨target,iter,ifs,0⟩] scope pos) 0 it acc env) R s:=by
 refine codeAny_loop rfl I (fun n s hI=>?_) n h;show wpAny _ A ((compTurn (.ListComp elt [⟨target,iter,ifs,0⟩] scope pos) 0 it acc env).onRaise (fun x=>do noteFrame x env;theTreesLotGoes x)) _ _ s;refine wpAny_noted ?_;rw[compTurn_list];refine wpAny_bind (wpAny_standAt (wpAny_bind (wpAny_mono (turn n s hI) (fun r s₁ h₁=>?_) fun _ _ h'=>h')));cases r with
 |none=>exact wpAny_pure h₁
 |some v=>
  refine wpAny_bind (wpAny_mono h₁ (fun _ s₁' h₁'=>?_) fun _ _ h'=>h');refine wpAny_bind (wpAny_mono h₁' (fun _ s₂ h₂=>wpAny_bind (wpAny_mono h₂ (fun ok s₃ h₃=>?_) fun _ _ h'=>h')) fun _ _ h'=>h');cases ok with
  |false=>exact wpAny_pure ⟨rfl,h₃⟩
  |true=>
   exact wpAny_bind (wpAny_bind (wpAny_mono h₃ (fun x s₄ h₄=>wpAny_bind (wpAny_mono h₄ (fun _ s₅ h₅=>wpAny_pure (wpAny_pure ⟨rfl,h₅⟩)) fun _ _ h'=>h')) fun _ _ h'=>h'))
end
noncomputable def PTs(X:Cx)(ifs:List Expr)(t:TT):Prop:=
 ∀(pins:List (Addr × Obj))(s:Shared)(σ:St)(H:Hp)(Q:Bool->Hp->Prop),Inv X pins σ H s->t σ H Q->
  wpAny (model X.prog X.w) X.A (forIn ifs true fun c r=>if r=true then do let ok←isTrue c X.env (eval c X.env);pure (ForInStep.yield ok)else pure (ForInStep.yield r)) (TP X pins σ Q) X.xe s
noncomputable def vY:TT:=fun _ H Q=>Q true H
theorem Jx{X:Cx}:PTs X [] vY:=fun pins s σ H Q I h=>wpAny_tests_nil ⟨H,I,h⟩
theorem qz{X:Cx}{c:Expr}{t:TT}(h:PT X c t):PTs X [c] t:=fun pins s σ H Q I q=>wpAny_tests_one (h pins s σ H Q I q)
noncomputable def KQ(NB:List Str)(wi:TI)(g:TG)(tt:TT)(te:TE):TE:=fun σ H Q=>wi σ H fun J H1=>∃W:Nat->Nat->List V->Hp->Prop,(∃m,W 0 m [] H1)/\∀i m vs H,W i m vs H->
 (J.stop i H/\∀p,H p=none->Q (.ref p) (upd H p (.lst vs)))\/(J.go i H/\vs.length<sizeLine/\∃N:List V->Hp->Prop,(∀vs' H',N vs' H'->∃m',m'<m/\W (i+1) m' vs' H')/\
  ∀x H',J.yld i H x H'->g x (List.replicate NB.length none) H' fun σ2 H2=>tt σ2 H2 fun b H3=>if b=true then te σ2 H3 fun v H4=>N (vs++[v]) H4 else N vs H3)
noncomputable abbrev XH(ys:List Value):Obj:={cls:=.type "list",data:=.seq ys.toArray ys.length}
section
variable {X:Cx}
theorem Jo{elt tg iter:Expr}{ifs:List Expr}{scope:Scope}{pos:Pos}{NB:List Str}{wi:TI}{g:TG}{tt:TT}{te:TE}(hc:X.calm=true)(S:BlkScope NB scope)(hi:PI X tg iter wi)
  (hg:∀s H ex,PG (JD X NB scope s H ex) tg g) (ht:∀s H ex,PTs (JD X NB scope s H ex) ifs tt) (he:∀s H ex,PE (JD X NB scope s H ex) elt te)
  (hs:∀x,foldedSetIterable iter X.env x=pure x:=by intro _;rfl):PE X (.ListComp elt [⟨tg,iter,ifs,0⟩] scope pos) (KQ NB wi g tt te):=by
 intro pins s σ H Q I h;rw[eval_ListComp];refine wpAny_comprehension_free (use:=none) (cl:=[]) rfl hs (UB S.nofree) S.kind S.loc (thn (hi pins s σ H _ I h) fun v s1 h1=>thn h1 fun itv s2 h2=>?_);obtain⟨it,fp,tn,J,H2,e,I2,T,st2,f2,W,⟨m0,w0⟩,turn⟩:=h2;subst e;refine wpAny_newObj_type ?_;have up2:∀b o,s2.heap.get? b=some o->(s2.heap.push {cls:=.type "list",data:=.seq ([]:List Value).toArray}).get? b=some o:=fun b o e=>Heap.get?_push_of_some _ e;have I3:Inv X pins σ H2 {s2 with heap:=s2.heap.push {cls:=.type "list",data:=.seq ([]:List Value).toArray}}:=I2.kept (t':=s2.toks) up2;have st3:tn 0 (s2.heap.push {cls:=.type "list",data:=.seq ([]:List Value).toArray}):=T.keep _ _ _ st2 fun b _ o e=>up2 b o e;have hD3:(s2.heap.push {cls:=.type "list",data:=.seq ([]:List Value).toArray}).get? s2.heap.objs.size=some (XH []):=Heap.get?_push_size _ rfl;have hD2:H2 s2.heap.objs.size=none:=I2.hok.fresh (uq _);have lt2:∀b o,s2.heap.get? b=some o->b≠s2.heap.objs.size:=fun b o e=>Nat.ne_of_lt (Heap.lt_size e);have fpO:∀b∈fp,∃o,s2.heap.get? b=some o:=fun b hb=>let ⟨o,e,_⟩:=T.obj _ _ st2 b hb;⟨o,e⟩;have hDs0:X.s₀.heap.objs.size<=s2.heap.objs.size:=I2.sz;have hDL:s2.heap.objs.size≠X.env.locals:=Nat.ne_of_gt I2.lt;have hDC:∀x c,X.env.cells.lookup x=some c->c≠s2.heap.objs.size:=fun x c e=>let ⟨v,o,e1,_⟩:=I2.cell x c e;lt2 c o e1;have hDp:∀p∈X.pn++pins,p.1≠s2.heap.objs.size:=fun p hp=>lt2 p.1 _ (I2.pin p hp).1;have hDf:s2.heap.objs.size∉frs X.stack:=fun z=>let ⟨o,e,_⟩:=(I2.stack.mem z).2;lt2 _ o e rfl;generalize hS3:({s2 with heap:=s2.heap.push {cls:=.type "list",data:=.seq ([]:List Value).toArray}}:Shared)=s3 at I3 ⊢;have hh3:s3.heap=s2.heap.push {cls:=.type "list",data:=.seq ([]:List Value).toArray}:=by rw[←hS3]
 rw[←hh3]at st3 hD3 up2;generalize s2.heap.objs.size=D at hD3 hD2 lt2 hDs0 hDL hDC hDp hDf ⊢;refine XL S.kind fun cenv s4 hce x4=>?_;subst hce;rw[Wh S.nofree];have lt3:∀b o,s3.heap.get? b=some o->b<s3.heap.objs.size:=fun b o e=>Heap.lt_size e;have fp3:∀b∈fp,b<s3.heap.objs.size:=fun b hb=>let ⟨o,e⟩:=fpO b hb;lt3 b o (up2 b o e);have dl3:D<s3.heap.objs.size:=lt3 D _ hD3;have DfpN:∀b∈fp,b≠D:=fun b hb=>let ⟨o,e⟩:=fpO b hb;lt2 b o e;obtain⟨h4,tk4,rfl,hk4⟩:=x4.done;have bsN:∀b o,X.base.get? b=some o->b∉D::fp:=fun b o e hb=>by
  rcases List.mem_cons.mp hb with rfl|hb
  ·exact absurd (Nat.lt_of_lt_of_le (Heap.lt_size (I2.ok.bs b o e).1) hDs0) (uR _)
  ·obtain⟨_,_,_,f3,_⟩:=f2 b hb;rcases f3 with z|z
   ·exact I2.ok.noex b o e z
   ·exact absurd (Nat.lt_of_lt_of_le (Heap.lt_size (I2.ok.bs b o e).1) z) (uR _)
 have exF:∀b∈D::fp,b∉frs X.stack:=fun b hb hf=>by
  rcases List.mem_cons.mp hb with rfl|hb
  ·exact hDf hf
  ·obtain⟨_,f1,f2',_⟩:=f2 b hb;rcases List.mem_cons.mp (I2.Kc b hf)with z|z
   ·exact f1 z
   ·exact f2' z
 have cge:∀y c,(cellsFrom (s3.heap.objs.size+1) scope.names []).lookup y=some c->s3.heap.objs.size<c:=fun y c e=>x4.above y c (PySem.mem_of_lookup e);have exLt:∀b∈D::fp,b<s3.heap.objs.size:=fun b hb=>by
  rcases List.mem_cons.mp hb with rfl|hb
  ·exact dl3
  ·exact fp3 b hb
 have okB:(JD X NB scope s3 H2 (D::fp)).Ok:=by
  refine⟨I3.ok.mod,S.kind,I3.ok.glob,I3.ok.blt,uq _,fun y z c h1 h2=>?_,fun y hy=>?_,fun y c _ h=>Nat.le_of_lt (cge y c h),I3.ok.hd,I3.ok.frames,.inl rfl,fun b hb=>⟨Nat.ne_of_lt (exLt b hb),fun y c e z=>?_⟩,I3.bs,Nat.le_trans I3.ok.bsz I3.sz,bsN,exF,I3.stack,I3.XV⟩
  ·exact name_of_addr x4.apart (PySem.mem_of_lookup h1) (PySem.mem_of_lookup h2)
  ·have hy:scope.names.lookup y=some .cell\/scope.names.lookup y=some .free:=hy;rcases hy with hy|hy
   ·exact Wq hy
   ·exact absurd rfl (S.nofree _ (PySem.mem_of_lookup hy))
  ·have:=cge y c e;rw[z]at this;exact absurd (Nat.lt_trans this (exLt b hb)) (uR _)
 have rep:∀(j:Nat)(v:V),(List.replicate NB.length (none:Option V))[j]? ≠some (some v):=fun j v z=>by
  rw[List.getElem?_replicate]at z
  split at z<;>cases z
 have IB:Inv (JD X NB scope s3 H2 (D::fp)) [(D,XH [])] (List.replicate NB.length none) H2 {s3 with heap:=h4,toks:=tk4}:=by
  refine⟨okB,rfl,I3.bare,Un.kept hk4,⟨_,x4.toInCall.ns,fun i y v h1 h2 h3=>absurd h2 (rep i v)⟩,fun y c h=>⟨_,x4.cell y c h⟩,I3.hok.fresh (uq _),fun y c h=>I3.hok.fresh (Nat.le_of_lt (cge y c h)),fun p hp=>?_,I3.hok.kept hk4,by rw[uG]⟩;obtain rfl:p=(D,XH []):=by simpa using hp
  exact⟨hk4 _ _ hD3,hD2,Nat.ne_of_lt dl3,hDf,fun v z=>nomatch z⟩
 have stat:∀{H':Hp}{ys:List Value},(∀b∈fp,H' b=none)->∀b∈fp,vv (JD X NB scope s3 H2 (D::fp)) [(D,XH ys)] H' b:=fun hn b hb=>
  ⟨hn b hb,Nat.ne_of_lt (fp3 b hb),exF b (uz _ hb),.inl (uz _ hb),fun y c e z=>by
   have:=cge y c e;rw[z]at this;exact absurd (Nat.lt_trans this (fp3 b hb)) (uR _),fun p hp=>by
    obtain rfl:p=(D,_):=by simpa using hp
    exact(DfpN b hb).symm⟩
 have st4:tn 0 h4:=T.keep _ _ _ st3 fun b _ o e=>hk4 b o e;have fr4:∀b∈fp,H2 b=none:=fun b hb=>(f2 b hb).1;have hcB:(JD X NB scope s3 H2 (D::fp)).calm=true:=hc;have loop:codeAny (model X.prog X.w) X.A (.compLoop (.ListComp elt [⟨tg,iter,ifs,0⟩] scope pos) 0 (.ref it) (.ref D) (kg scope X.env s3.heap.objs.size))
   (compPost (model X.prog X.w) X.A X.xe none (EP X pins σ Q) (.ref D) s3.heap.objs.size) {s3 with heap:=h4,toks:=tk4}:=by
  refine WX (fun n s'=>∃i vs ys H',Inv (JD X NB scope s3 H2 (D::fp)) [(D,XH ys)] (List.replicate NB.length none) H' s'/\Vals vs ys/\vs.length<=sizeLine/\tn i s'.heap/\(∀b∈fp,H' b=none)/\W i n vs H') ?_ m0 ⟨0,[],[],H2,IB,.nil,uQ _,st4,fr4,w0⟩;rintro n s5 ⟨i,vs,ys,H5,I5,rv,hvl,st5,fr5,w5⟩;rcases turn i n vs H5 w5 with⟨stop,qn⟩|⟨go,hlt,N,hN,step⟩
  ·refine wpAny_mono (T.done (JD X NB scope s3 H2 (D::fp)) rfl rfl rfl hcB i _ s5 _ H5 (fun _ _=>False) I5 (stat fr5) st5 stop) (fun r s6⟨hr,I6⟩=>?_) (fun _ _ z=>z.elim);subst hr;obtain⟨m6,hn6,_⟩:=id I6.loc;refine⟨m6,hn6,fun h7 sb7=>?_⟩;have kp7:∀b o,b≠s3.heap.objs.size->s6.heap.get? b=some o->h7.get? b=some o:=fun b o hb e=>(sb7.2 b hb).trans e;have hC6:H5 s3.heap.objs.size=none:=I6.free;have un7:Un (frs X.stack) (D::fp) H2 H5 s3.heap h7:=by
    have u:=I6.base;refine⟨fun b o e n hb hx=>kp7 b o (Nat.ne_of_lt (Heap.lt_size e)) (u.keep b o e n hb hx),fun b o e n hb hx=>?_,u.free,fun b o e hx=>?_,u.Wz,u.frzs,u.tbls⟩
    ·obtain⟨sl,q⟩:=u.slot b o e n hb hx;exact⟨sl,kp7 b _ (Nat.ne_of_lt (Heap.lt_size e)) q⟩
    ·obtain⟨o',q⟩:=u.there b o e hx;exact⟨o',kp7 b _ (Nat.ne_of_lt (Heap.lt_size e)) q⟩
   have hok7:HOk X.prog X.w H5 h7:=fun b u e=>(I6.hok b u e).zB (fun c w' hcc q=>kp7 c w' (by
    rintro rfl;rcases hcc with rfl|hcc
    ·rw[hC6]at e;cases e
    ·rw[hC6]at hcc;cases hcc) q) (fun _ q=>q) fun _ _ q=>q
   have I7:Inv X pins σ H5 {s6 with heap:=h7}:=I3.xB (s':={s6 with heap:=h7}) I6.os un7 hok7 I6.bare fun b hb=>by
    rcases List.mem_cons.mp hb with rfl|hb
    ·exact⟨.inr hDs0,hDL,hDC,hDp⟩
    ·obtain⟨_,f1,_,f3,f4,f5⟩:=f2 b hb;exact⟨f3,f1,f4,f5⟩
   obtain⟨eD,nD,_⟩:=I6.pin (D,XH ys) (by simp);have nD':H5 D=none:=nD;have eD':h7.get? D=some (XH ys):=kp7 D _ (Nat.ne_of_lt dl3) eD;have hD0:X.s₀.heap.get? D=none:=by
    cases q:X.s₀.heap.get? D with
    |none=>rfl
    |some o=>exact absurd (Nat.lt_of_lt_of_le (Heap.lt_size q) hDs0) (uR _)
   exact⟨.ref D,upd H5 D (.lst vs),I7.vN nD' hD0 hDL hDC hDp ⟨hvl,ys,ys.length,rv,eD'⟩,rfl,qn D nD'⟩
  ·refine wpAny_mono (T.item (JD X NB scope s3 H2 (D::fp)) rfl rfl rfl hcB i _ s5 _ H5 (fun _ _=>False) I5 (stat fr5) st5 go) (fun r s6⟨u,hr,h6⟩=>?_) (fun _ _ z=>z.elim);subst hr;refine wpAny_mono h6 (fun _ s7⟨x,H7,I7,r7,y7,st7,fr7⟩=>?_) (fun _ _ z=>z.elim);have I7':=I7.pinned (stat fr7) (T.obj _ _ st7);refine wpAny_mono (hg s3 H2 (D::fp) _ s7 _ H7 x u _ I7' r7 (step x H7 y7)) (fun _ s8⟨σ8,H8,I8,q8⟩=>?_) (fun _ _ z=>z.elim);refine wpAny_mono (ht s3 H2 (D::fp) _ s8 σ8 H8 _ I8 q8) (fun ok s9⟨H9,I9,q9⟩=>?_) (fun _ _ z=>z.elim);have fpK:∀{σ':St}{H':Hp}{s':Shared},Inv (JD X NB scope s3 H2 (D::fp)) ([(D,XH ys)]++WM fp s7.heap) σ' H' s'->tn (i+1) s'.heap/\∀b∈fp,H' b=none:=fun J=>
    ⟨T.keep _ _ _ st7 fun b hb o e=>(J.pin (b,o) (ux _ (ux _ (JC hb e)))).1,fun b hb=>by
     obtain⟨o,e,d⟩:=T.obj _ _ st7 b hb;exact(J.pin (b,o) (ux _ (ux _ (JC hb e)))).2.1⟩
   have wk:∀{σ':St}{H':Hp}{s':Shared}{pl:List (Addr × Obj)},Inv (JD X NB scope s3 H2 (D::fp)) pl σ' H' s'->Inv (JD X NB scope s3 H2 (D::fp)) pl (List.replicate NB.length none) H' s':=fun J=>
    J.weak (by rw[uG];exact J.len.symm) fun j v z=>absurd z (rep j v)
   cases ok with
   |false=>
    rw[if_neg (by decide)]at q9;rw[if_neg (by decide)];obtain⟨m',hm,w9⟩:=hN vs H9 q9;obtain⟨t9,f9⟩:=fpK I9;exact⟨m',hm,i+1,vs,ys,H9,wk I9.Zg,rv,hvl,t9,f9,w9⟩
   |true=>
    rw[if_pos rfl]at q9;rw[if_pos rfl];refine wpAny_mono (he s3 H2 (D::fp) _ s9 σ8 H9 _ I9 q9) (fun y s10⟨v,H10,I10,rv10,q10⟩=>?_) (fun _ _ z=>z.elim);obtain⟨eD,nD,_,nf,_⟩:=I10.pin (D,XH ys) (by simp);have hyl:=rv.length;refine append_at (hsz:=by show ys.toArray.size<=sizeLine;rw[uP, ←hyl];exact hvl) eD fun h11 sb11 hD11=>?_;obtain⟨m',hm,w11⟩:=hN (vs++[v]) H10 q10;obtain⟨t10,f10⟩:=fpK I10;have I10u:=I10.Zg;have k11:∀b o,b≠D->s10.heap.get? b=some o->h11.get? b=some o:=fun b o hb e=>(sb11.2 b hb).trans e;have IE:Inv (JD X NB scope s3 H2 (D::fp)) [] σ8 H10 s10:=I10u.Xb fun p hp=>nomatch hp;have I11:Inv (JD X NB scope s3 H2 (D::fp)) [] σ8 H10 {s10 with heap:=h11}:=IE.turned (t':=s10.toks) k11 nD (Nat.ne_of_lt dl3) (.inl uA) (fun y' c e z=>by
     have:=cge y' c e;rw[z]at this;exact absurd (Nat.lt_trans this dl3) (uR _)) (fun p hp=>absurd (show p∈([]:List (Addr × Obj))from hp) (by simp))
    have eL:({cls:=.type "list",data:=.seq (ys.toArray.push y) (ys.length+1)}:Obj)=XH (ys++[y]):=by
     show({cls:=.type "list",data:=.seq (ys.toArray.push y) (ys.length+1)}:Obj)={cls:=.type "list",data:=.seq (ys++[y]).toArray (ys++[y]).length};rw[uj,uu,List.push_toArray]
    refine⟨m',hm,i+1,vs++[v],ys++[y],H10,wk (I11.Xb fun p hp=>?_),rv.append (.cons rv10 .nil),by rw[uj,uu];exact hlt,T.keep _ _ _ t10 fun b hb o e=>k11 b o (DfpN b hb) e,f10,w11⟩;obtain rfl:p=(D,XH (ys++[y])):=by simpa using hp
    exact⟨by rw[←eL];exact hD11,nD,Nat.ne_of_lt dl3,nf,fun v z=>nomatch z⟩
 exact codeAny_compStart_list loop (T.self _ 0 _ _ _ st4 loop)
end
open Builtin Builtin.Str
section
variable {prog:Program}{w:World}{A:Around}{E:Value->Shared->Prop}{s:Shared}
theorem call_gives{name:Str}{id:String}{B:Builtin}{x:Str}{t:Tok}{rest:List Value}{m:Made}{Q:Value->Shared->Prop}(slot:Slot "str" name id)(entry:entryFor table id=some B)(args:argsOk id ⟨.str x t::rest,[]⟩)
  (g:Gives (B ⟨.str x t::rest,[]⟩) m) (h:m.post Q s):wpAny (model prog w) A (call (.builtin id) (.str x t::rest)) Q E s:=
 wpAny_call (codeAny_call_builtin slot.plain entry (slot.check _ _ _ _ _ _ _ _ (typeIs_str _ _ _) args (g prog w A (wants Q E) s h)))
end
section
variable {X:Cx}
noncomputable def Qd5(C:Str->Str->Prop)(f:Str->Str->V):V->List V->Hp->VK->Prop:=fun x vs H Q=>∃z y,x=.str z/\vs=[.str y]/\C z y/\Q (f z y) H
noncomputable def QeK(z _:Str):Prop:=z.length<=sizeLine
theorem jP:MtR X "str.strip" (Qd5 QeK fun z y=>.str (Txt.stripChars z y)):=by
 intro pins s σ H x vs v us Q I rx rv h;obtain⟨z,y,rfl,rfl,hl,q⟩:=h;obtain⟨t,rfl⟩:=rx;obtain⟨u,rfl,t',rfl⟩:=vals1 rv;exact call_gives F.slot_str_strip F.entry_str_strip (F.args_str_strip_2 _ _) (gives_str_strip_chars z y t t') (post_val_or_made (fun _=>fits_stripped _ _ _ hl) fun t2 k=>⟨.str _,H,I.tok k,⟨t2,rfl⟩,q⟩)
theorem Yn:MtR X "str.startswith" (Qd5 (fun _ _=>True) fun z y=>.bl (Txt.startswith z y)):=by
 intro pins s σ H x vs v us Q I rx rv h;obtain⟨z,y,rfl,rfl,_,q⟩:=h;obtain⟨t,rfl⟩:=rx;obtain⟨u,rfl,t',rfl⟩:=vals1 rv;exact call_gives F.slot_str_startswith F.entry_str_startswith (F.args_str_startswith_2 _ _) (gives_str_startswith z y t t') ⟨.bl _,H,I,rfl,q⟩
theorem vZ:MtR X "str.zfill" (fun x vs H Q=>∃z i,x=.str z/\vs=[.int i]/\PadOk i=true/\Q (.str (Txt.zfill z i)) H):=by
 intro pins s σ H x vs v us Q I rx rv h;obtain⟨z,i,rfl,rfl,hp,q⟩:=h;obtain⟨t,rfl⟩:=rx;obtain⟨u,rfl,t',rfl⟩:=vals1 rv;exact call_gives F.slot_str_zfill F.entry_str_zfill (F.args_str_zfill_2 _ _) (gives_str_zfill z i t t' (PadOk.parts hp).1 (PadOk.parts hp).2) (post_val_or_made (fits_zfilled (PadOk.parts hp).2) fun t2 k=>⟨.str _,H,I.tok k,⟨t2,rfl⟩,q⟩)
theorem XM:SlR X (fun x lo hi H Q=>∃z,x=.str z/\z.length<=sizeLine/\Q (.str (StrLaws.sliceText z lo hi)) H):=by
 intro pins s σ H x v vl vu lo hi sl Q I rx hs pl pu h;obtain⟨z,rfl,hl,q⟩:=h;obtain⟨t,rfl⟩:=rx;have part:∀{v:Value}{o:Option Int},IsPart v o->∃p:Option (Int × Tok),v=partValue p/\p.map (·.1)=o:=fun p=>by
  cases p with
  |none=>exact⟨none,rfl,rfl⟩
  |int i t=>exact⟨some (i,t),rfl,rfl⟩
 obtain⟨p,rfl,rfl⟩:=part pl;obtain⟨p2,rfl,rfl⟩:=part pu;refine⟨"str",_,F.slot_str_getitem.lookup,typeIs_str _ _ _,?_⟩;refine wpAny_getItem_str_slice (l:=p) (u:=p2) (st:=none) hs rfl ?_;unfold sliceMade slicePicked;refine post_val_or_made (fun _=>?_) fun t2 k=>⟨.str (StrLaws.sliceText z (p.map (·.1)) (p2.map (·.1))),H,I.tok k,⟨t2,rfl⟩,q⟩;show(List.filterMap _ _).toArray.size<=sizeLine;rw[uP];exact Nat.le_trans (List.length_filterMap_le _ _) (Nat.le_trans (sliceIndices_le _ _ _) hl)
end
theorem kh:typeLookup (.type "list_reverseiterator") "__len__"=pure none:=by rw[typeLookup_type,builtinLookup_eq_fast];kernel_rfl
theorem v4:typeLookup (.type "list_reverseiterator") "__length_hint__"=pure (some (.builtin "list_reverseiterator.__length_hint__")):=by rw[typeLookup_type,builtinLookup_eq_fast];kernel_rfl
section
variable {prog:Program}{w:World}{A:Around}{E:Value->Shared->Prop}{s:Shared}
theorem kj(hh:A.handled=none)(I l:Addr)(hne:l≠I)(items:Array Value):
  WalksS prog w A I [I,l] [I] (fun a b=>a=b) items.size (fun i v=>items[items.size-1-i]? =some v) (fun i s=>i<=items.size/\s.heap.IsRevIter I l ((items.size:Int)-1-(i:Int))/\s.heap.IsList l items) where
 sub:=fun b hb=>by simp at hb;simp[hb]
 grefl:=fun _=>rfl
 gtrans:=fun _ _ _ a b=>a.trans b
 frame:=fun i s h' tk x _ hk=>⟨x.1,x.2.1.at fun o e=>hk I (by simp) o e,x.2.2.at fun o e=>hk l (by simp) o e⟩
 item:=fun i s Q E hi x hQ=>by
  have e:(items.size:Int)-1-(i:Int)=((items.size-1-i:Nat):Int):=by omega
  have hit:=x.2.1;rw[e]at hit;have hx:items[items.size-1-i]? =some (items[items.size-1-i]'(by omega)):=Array.getElem?_eq_getElem (by omega);refine wpAny_pyNext_rev_item hit x.2.2 hx fun h' hit' hs'=>?_;have e2:((items.size-1-i:Nat):Int)-1=(items.size:Int)-1-((i+1:Nat):Int):=by omega
  rw[e2]at hit';exact hQ _ _ hx ⟨hi,hit',x.2.2.at fun o eo=>(hs'.2 l hne).trans eo⟩ ⟨fun b o hb eo=>hs'.extBut b o (fun h=>hb (by simp[h])) eo,rfl,rfl,rfl,uq _⟩
 done:=fun s Q E x hQ=>by
  have e:(items.size:Int)-1-(items.size:Int)= -1:=by omega
  have hit:=x.2.1;rw[e]at hit;exact wpAny_pyNext_rev_end hh hit fun h' he'=>hQ _ ⟨fun b o hb eo=>he' b o (fun h=>hb (by simp[h])) eo,rfl,rfl,rfl,uq _⟩
 self:=fun _ _ _ _ x hQ=>wpAny_pyIter_revIter x.2.1 hQ
variable {I:Addr}{fp wr:List Addr}{G:Array GenState->Array GenState->Prop}{n:Nat}{P:Nat->Value->Prop}{St:Nat->Shared->Prop}
theorem qA{Q:List Value->Shared->Prop}(W:WalksS prog w A.in1 I fp wr G n P St)(hT:∀i s,St i s->s.TypeIs (.ref I) "list_reverseiterator") (hst:St 0 s) (hfp:∀b∈fp,b<s.heap.objs.size) (hI:I∈fp)
  (hQ:∀s' acc,Moved wr G s s'->ItemsOf P acc n->Q acc.toList s') (hn:n<=sizeLine):wpAny (model prog w) A (collect (.ref I)) Q E s:=by
 have hSf:s.heap.objs.size∉fp:=fun hm=>uR _ (hfp _ hm);have hSI:s.heap.objs.size≠I:=fun e=>hSf (e▸hI);unfold collect;refine wpAny_bind (wpAny_runValue (codeAny_builtin F.entry_proto_collect ?_));rw[Around.under_plainId F.plain_proto_collect _];show wpAny _ A.in1 (newList []>>=fun l=>again (.builtin "list.__iadd__" ⟨[l,.ref I],[]⟩)) _ _ s;refine wpAny_bind (wpAny_newObj_type ?_);refine wpAny_pure ⟨plainId_quiet F.plain_list_iadd _,codeAny_builtin F.entry_list_iadd ?_⟩;rw[Around.under_plainId F.plain_list_iadd _];have hst₁:=W.frame 0 s (s.heap.push {cls:=.type "list",data:=.seq ([]:List Value).toArray}) s.toks hst (uq _) fun b _ o e=>Heap.get?_push_of_some _ e;have hS₁:(s.heap.push {cls:=.type "list",data:=.seq ([]:List Value).toArray}).get? s.heap.objs.size=some {cls:=.type "list",data:=.seq ([]:List Value).toArray}:=Heap.get?_push_size _ rfl;have h1:Builtin.List.listSameRef (.ref s.heap.objs.size) (.ref I)=false:=by simp[Builtin.List.listSameRef,hSI]
 show wpAny _ A.in1 (Builtin.List.listExtendWith (.ref s.heap.objs.size) (.ref I) (.ref s.heap.objs.size)) _ _ _;unfold Builtin.List.listExtendWith;refine wpAny_bind (wpAny_typeOf (hT 0 _ hst₁) ?_);rw[if_neg (by rw[h1];decide)];refine wpAny_bind (W.self 0 _ _ _ hst₁ ?_);refine wpAny_bind (wpAny_holding ?_);unfold Builtin.List.listLengthHint;refine wpAny_bind (wpAny_specialOf (hT 0 _ hst₁) kh ?_);show wpAny _ A.in1 (specialOf (Value.ref I) (Str.ofString "__length_hint__")>>=_) _ _ _;refine wpAny_bind (wpAny_specialOf (hT 0 _ hst₁) v4 ?_);generalize hid:("list_reverseiterator.__length_hint__":String)=id0
 (fail_if_success (clear hid id0))
 wp_delta
 rw[show splitId id0=some ("list_reverseiterator","__length_hint__")from by subst hid;decide+kernel];subst hid;refine wpAny_bind (wpAny_isInstance (b:=true) (hT 0 _ hst₁) (by rw[isSubtype_type];kernel_rfl) ?_);refine wpAny_pure ?_;rw[if_neg (by decide)];refine wpAny_pure ⟨plainId_quiet F.plain_extend_loop _,codeAny_extend_loopS W hn _ hSf _ n 0 _ _ _ rfl (uQ _) hst₁ hS₁ (ItemsOf.nil P) fun s' acc' c' hm hS' hacc=>?_⟩;show wpAny _ A (load s.heap.objs.size>>=_) _ _ s';refine wpAny_bind (wpAny_load hS' ?_);exact wpAny_pure (hQ s' acc' (Moved.drop_new (o:={cls:=.type "list",data:=.seq ([]:List Value).toArray}) (tk:=s.toks) hm (uq _)) hacc)
theorem v7{x:Str}{t:Tok}{Q:Value->Shared->Prop}(W:WalksS prog w A.in1.in1 I fp wr G n P St)(hT:∀i s,St i s->s.TypeIs (.ref I) "list_reverseiterator") (hst:St 0 s) (hfp:∀b∈fp,b<s.heap.objs.size) (hI:I∈fp)
  (hstr:∀i v,P i v->∃y u,v=Value.str y u)
  (hq:∀s'(l:List (Str × Tok)),Moved wr G s s'->ItemsOf P (strValues l).toArray n->JoinOk x (l.map (·.1))=true/\∀t' k,Q (.str (Txt.join x (l.map (·.1))) t') {s' with toks:=k}) (hsz:n<=sizeLine):
  wpAny (model prog w) A (call (.builtin "str.join") [.str x t,.ref I]) Q E s:=by
 refine wpAny_call (codeAny_call_builtin F.slot_str_join.plain F.entry_str_join (F.slot_str_join.check _ _ _ _ _ _ _ _ (typeIs_str _ _ _) (F.args_str_join_2 _ _) ?_));rw[join_tree_other];refine wpAny_bind (wpAny_typeOf (hT 0 s hst) ?_);show wpAny _ A.in1 ((pyIter (.ref I)).tryCatch _>>=fun it=>collect it>>=fun items=>joinTail x items) _ _ s;refine wpAny_bind (wpAny_tryCatch (W.of_in1.self 0 s _ _ hst ?_));refine wpAny_bind (qA W hT hst hfp hI (fun s' acc hm hacc=>?_) hsz);obtain⟨l,hl⟩:=exists_strValues acc.toList fun v hv=>by
  obtain⟨j,hj,rfl⟩:=Array.mem_iff_getElem.mp (Array.mem_toList_iff.mp hv);exact hstr j _ (hacc.2 j _ (Array.getElem?_eq_getElem hj))
 rw[←hl];have hacc':ItemsOf P (strValues l).toArray n:=by rw[hl];simpa using hacc
 obtain⟨hok,hpost⟩:=hq s' l hm hacc';unfold JoinOk at hok;rw[Bool.not_eq_true']at hok;have g:Gives (joinTail x (strValues l)) (joinMade x l):=by
  have g0:=gives_joinTail x l hok;cases l with
  |nil=>exact g0
  |cons p r=>cases r with
   |nil=>exact g0
   |cons q r'=>exact g0
 exact g prog w A (wants Q E) s' (post_join l ⟨joinFit_length hok,hpost⟩)
end
theorem boot_reversed:bootBuiltins "reversed"=some (.type "reversed"):=by boot_by_name
section
variable {X:Cx}
noncomputable def tJR(to te:TE):TE:=fun σ H Q=>to σ H fun x H1=>∃z,x=.str z/\te σ H1 fun y H2=>∃(l:Addr)(ys:List Str),y=.ref l/\H2 l=some (.lst (ys.map V.str))/\JoinOk z ys.reverse=true/\Q (.str (Txt.join z ys.reverse)) H2
theorem zS{o e:Expr}{to te:TE}{apos rpos cpos p:Pos}(hc:X.calm=true)(hg:Gl X "reversed")(hm:X.mg "reversed"=none)(ho:PE X o to)(he:PE X e te)
  (hbase:attributeBase o "join" X.env (eval o X.env)=eval o X.env:=by rfl) (hline:(apos.endLine==cpos.line)=true:=by rfl) (hs:starEach [e] X.env=[(false,eval e X.env)]:=by rfl):
  PE X (.Call (.Attribute o "join" apos) [.Call (.Name "reversed" p) [e] [] rpos] [] cpos) (tJR to te):=by
 intro pins s σ H Q I h;refine wpAny_Call_method_late hbase rfl hline rfl (thn (ho pins s σ H _ I h) fun v s1⟨x,H1,I1,r1,q1⟩=>?_);obtain⟨z,rfl,q1⟩:=q1;obtain⟨t,rfl⟩:=r1;refine⟨"str","str.join",plainAttrs_str,slot_str_join,type_str_join,typeIs_str _ _ _,(fun _ e=>nomatch e),?_⟩;refine Calls.callWith_builtin rfl (Calls.evalArgs_plain ?_);show wpAny _ _ (spliced ((false,eval (.Call (.Name "reversed" p) [e] [] rpos) X.env)::[])) _ _ s1;refine Calls.spliced_cons ?_;refine wpAny_Call_Name_kw (WH I1 hg hm boot_reversed ?_ (by decide) (by decide));refine PyProof.Rows.callWith_type1 ?_ hs rfl;rw[hs];show wpAny _ _ (spliced ((false,eval e X.env)::[])) _ _ s1;refine Calls.spliced_cons (thn (he pins s1 σ H1 _ I1 q1) fun y s2⟨yv,H2,I2,r2,l,ys,e2,hl,hj,q2⟩=>Calls.spliced_nil ?_);subst e2;obtain rfl:y=Value.ref l:=r2;obtain⟨zz,its,n,rv,hlen,eo⟩:=I2.vI hl;have hil:s2.heap.IsList l its.toArray:=⟨_,eo,rfl,n,rfl⟩;have lenI:its.length=ys.length:=by rw[←rv.length,uk]
 refine call_reversed_list hil ?_;refine Calls.spliced_nil ?_;have up:∀b o,s2.heap.get? b=some o->(s2.heap.push (revObj l ((its.toArray.size:Int)-1))).get? b=some o:=fun b o e=>Heap.get?_push_of_some _ e;have I3:Inv X pins σ H2 {s2 with heap:=s2.heap.push (revObj l ((its.toArray.size:Int)-1))}:=I2.kept (t':=s2.toks) up;have hne:l≠s2.heap.objs.size:=Nat.ne_of_lt (Heap.lt_size eo);have hh:X.A.in1.in1.handled=none:=I2.ok.hd hc;have hstr0:∀(i:Nat)(u:Value),its.toArray[its.toArray.size-1-i]? =some u->∃y t,u=Value.str y t:=fun i u hu=>by
  have h1:its[its.toArray.size-1-i]? =some u:=by simpa using hu
  have hlt:=(List.getElem?_eq_some_iff.mp h1).1;have h2:(ys.map V.str)[its.toArray.size-1-i]? =some ((ys.map V.str)[its.toArray.size-1-i]'(by rw[uk];omega)):=List.getElem?_eq_getElem _;obtain⟨u',e',r'⟩:=rv.get h2;rw[h1]at e';cases e';rw[List.getElem_map]at r';obtain⟨t',rfl⟩:=r';exact⟨_,_,rfl⟩
 show wpAny _ _ (call (.builtin "str.join") [.str z t,.ref s2.heap.objs.size]) _ _ _;refine v7 (kj hh s2.heap.objs.size l hne its.toArray) (fun i s x=>x.2.1.typeIs) ⟨uQ _,⟨_,Heap.get?_push_size _ rfl,rfl,by simp[revObj]⟩,hil.push _⟩ (fun b hb=>?_) (by simp) hstr0 (fun s' ls hm hi=>?_) ?_
 ·show b<(s2.heap.push _).objs.size;rw[Heap.size_push];rcases List.mem_cons.mp hb with rfl|hb
  ·exact Nat.lt_succ_self _
  ·rw[List.mem_singleton.mp hb];exact Nat.lt_succ_of_lt (Heap.lt_size eo)
 ·have els:ls.map (·.1)=ys.reverse:=by
   have hsz:ls.length=its.length:=by
    have:=hi.1;unfold strValues at this;simpa using this
   refine List.ext_getElem? fun j=>?_
   by_cases hj:j<ls.length
   ·have e1:(strValues ls).toArray[j]? =some (Value.str ls[j].1 ls[j].2):=by
     unfold strValues;simp[hj]
    have e2:=hi.2 j _ e1;have e3:its[its.toArray.size-1-j]? =some (Value.str ls[j].1 ls[j].2):=by simpa using e2
    have h2:(ys.map V.str)[its.toArray.size-1-j]? =some ((ys.map V.str)[its.toArray.size-1-j]'(by rw[uk,uP];omega)):=List.getElem?_eq_getElem _;obtain⟨u',e',r'⟩:=rv.get h2;rw[e3]at e';cases e';rw[List.getElem_map]at r';obtain⟨t',r'⟩:=r';have hq:=(Value.str.inj r').1;rw[uE,List.getElem?_eq_getElem hj,List.getElem?_reverse (by omega)];simp only[Option.map_some];have hix:its.toArray.size-1-j=ys.length-1-j:=by rw[uP,lenI]
    simp only[hix]at hq;rw[List.getElem?_eq_getElem (by omega),hq]
   ·rw[List.getElem?_eq_none (by rw[uk];omega),List.getElem?_eq_none (by rw[uD];omega)]
  rw[els];refine⟨hj,fun t' k=>?_⟩;obtain⟨h',g',d',tk',os'⟩:=s';obtain rfl:g'=s2.gens:=hm.gens.symm;obtain rfl:d'=s2.drawn:=hm.drawn;obtain rfl:os'=s2.os:=hm.os;have fr:H2 s2.heap.objs.size=none:=I2.hok.fresh (uq _);have F3:=I2.vC (uq _) fr;obtain⟨f0,f1,f2,f3,f4,f5⟩:=F3;refine⟨.str _,H2,?_,⟨t',rfl⟩,q2⟩;exact(I3.turned (h':=h') (t':=k) (it:=s2.heap.objs.size) (fun b o hb e=>hm.heap b o (by simpa using hb) e) f0 f1 f3 f4 f5:)
 ·rw[uP,lenI, ←uk (f:=V.str)];exact zz
end
section
variable {X:Cx}
theorem WY:OpR X (binaryOp .Mult) (fun x y H Q=>∃z n,x=.str z/\y=.int n/\ -(2^40)<n/\z.length*n.toNat<=sizeLine/\n<2^40/\Q (.str (VW z n.toNat)) H):=by
 intro pins s σ H x y v u Q I rx ry h;obtain⟨z,n,ex,ey,h0,hl,hn,q⟩:=h
 by_cases hz:0<=n
 ·exact zM pins s σ H x y v u Q I rx ry ⟨z,n,ex,ey,hz,hl,hn,q⟩
 ·subst ex ey;obtain⟨t,rfl⟩:=rx;obtain⟨t',rfl⟩:=ry;refine PySem.P.mul_str ?_ ?_ ?_ ?_
  ·rw[um (by omega),um (by omega)];rfl
  ·intro h1 h2 h3;omega
  ·intro h1 h2;omega
  ·rw[if_pos (by omega)];have e:VW z n.toNat=Str.empty:=by rw[show n.toNat=0 by omega];rfl
   exact⟨by decide,.str (VW z n.toNat),H,I.tok _,⟨_,by rw[e]⟩,q⟩
end
structure DefK0(P:Program)(w:World)(K:PySem.W.Frag)(mg:Str->Option Value)(base:Heap)(k:Nat)(x p1:Str)(sp:Sp):Prop where
 ex:∃f fd,mg x=some (.ref f)/\keepIn K (.ref f)=true/\(∀(s:Shared)(v:Value),K.In s.heap->BindsTo s fd ⟨[],[(p1,v)]⟩ [(p1,v)])/\FnOk P w K mg base (CXE P w) k f fd [p1] sp
section
variable {X:Cx}{k k':Nat}{x p1:Str}{sp:Sp}{E:XK}{p pos kpos:Pos}{e:Expr}{te:TE}
noncomputable def qB(sp:Sp)(E:XK)(te:TE):TE:=fun σ H Q=>te σ H fun v H1=>sp [v] H1 Q E
theorem DefK0.pe(D:DefK0 X.prog X.w X.K X.mg X.base k x p1 sp)(hr:Room k' X.A)(hk:k<=k')(hg:Gl X x)(hx:Passes (CXE X.prog X.w) X E)(he:PE X e te)
  (hdb:(x==("__debug__":Str))=false:=by decide):PE X (.Call (.Name x p) [] [⟨some p1,e,kpos⟩] pos) (qB sp E te):=by
 obtain⟨f,fd,h1,h2,h3,h4⟩:=D.ex;intro pins s σ H Q I h;refine wpAny_Call_Name_kw (XW I hg h1 ?_ hdb);refine callWith_KW0 (h₀:=X.base) I.ok.mod.kin h2 rfl ?_ rfl;have hK:PK X [⟨some p1,e,kpos⟩] (Ja te WO):=Qa3 he Qcq;refine thn (hK pos pins s σ H (fun zs H2=>sp zs H2 Q E) I h) fun ws s2⟨zs,H2,I2,rz,q2⟩=>⟨I2.kIn,?_⟩;have hlz:=h4.len _ _ _ _ q2;obtain⟨v,rfl⟩:∃v,zs=[v]:=match zs,hlz with|[v],_=>⟨v,rfl⟩
 obtain⟨u,rfl,ru⟩:=vals1 rz;refine wpAny_call (codeAny_mono (h4.run X.A X.stack s2 H2 ⟨[],[(p1,u)]⟩ [u] [v] Q E (hr.mono hk) I2.QdQ (h3 s2 u I2.kIn) (.cons ru .nil) q2) fun r s' hq=>?_);cases r with
 |error e=>exact hx pins σ H2 s2 e s' I2 hq
 |ok fl=>
  cases fl with
  |ret u=>exact I2.after hq
  |next=>exact False.elim hq
  |brk=>exact False.elim hq
  |cont=>exact False.elim hq
end
noncomputable def QcI(lo c:Int)(n:Nat):It:=⟨fun i _=>i<n,fun i H x H'=>H'=H/\x=.int (lo+i*c),fun i _=>n<=i⟩
theorem qC{P:Program}{w:World}{K:PySem.W.Frag}{tg:Expr}(it:Addr)(lo c:Int)(n:Nat):Turn P w K tg (QcI lo c n) [it] it (fun i h=>IsRangeIter h it (lo+(i:Nat)*c) ((n:Int)-(i:Nat)) c) where
 mem:=by simp
 obj:=fun i h st b hb=>by
  have e:b=it:=by simpa using hb
  subst e;exact⟨_,st,fun v z=>by
   have z':Data.fields _=Data.cell v:=z;cases z'⟩
 keep:=fun i h h' st k=>k it (by simp) _ st
 item:=by
  intro X hP hw hK hc i pins s σ H E I hf st hg;subst hP hw hK;obtain⟨f0,f1,f2,f3,f4,f5⟩:=hf it (by simp);have W:=Walks.range (prog:=X.prog) (w:=X.w) (I.ok.hd hc) it lo c n;refine W.item i s _ _ hg st fun v h' tk hv st' kk=>?_;obtain⟨t,rfl⟩:=hv;have I1:Inv X pins σ H {s with heap:=h',toks:=tk}:=I.turned (fun b o hb e=>kk b o (by simpa using hb) e) f0 f1 f3 f4 f5;exact⟨_,rfl,xC (s:={s with heap:=h',toks:=tk}) (n:="range_iterator") st' rfl rfl (by decide) ⟨.int (lo+i*c),H,I1,⟨t,rfl⟩,⟨rfl,rfl⟩,st',fun b hb=>(hf b hb).1⟩⟩
 done:=by
  intro X hP hw hK hc i pins s σ H E I hf st hg;subst hP hw hK;obtain⟨f0,f1,f2,f3,f4,f5⟩:=hf it (by simp);exact wpAny_pyNext_range_end (I.ok.hd hc) st (by have:n<=i:=hg;omega) fun h' eb=>⟨rfl,I.turned (t':=s.toks) (fun b o hb e=>eb b o hb e) f0 f1 f3 f4 f5⟩
 self:=fun _ _ _ _ _ st h=>wpAny_pyIter_rangeiter st h
section
variable {X:Cx}{tg:Expr}
noncomputable def Qd6(ta:TA):TI:=fun σ H R=>ta σ H fun vs H1=>∃(i j c:Int)(n:Nat),vs=[.int i,.int j,.int c]/\(-(2^40)<=i/\i<2^40/\ -(2^40)<=j/\j<2^40/\0<c/\c<2^20)/\Builtin.Range.rangeSize i j c=(n:Int)/\R (QcI i c n) H1
theorem km{a b d:Expr}{ta:TA}{p pos:Pos}(hg:Gl X "range")(hm:X.mg "range"=none)(ha:PA X [a,b,d] ta)(hs:starEach [a,b,d] X.env=(false,eval a X.env)::starEach [b,d] X.env:=by rfl)(hp:(backTo pos (starEach [b,d] X.env)).any (·.1)=false:=by rfl):
  PI X tg (.Call (.Name "range" p) [a,b,d] [] pos) (Qd6 ta):=by
 intro pins s σ H R I h;refine Call_ (WH I hg hm boot_range (PyProof.Rows.callWith_type1 (thn (ha pos pins s σ H _ I h) fun us s1⟨vs,H1,I1,r1,q1⟩=>?_) hs hp));obtain⟨i,j,c,n,e,⟨b1,b2,b3,b4,b5,b6⟩,hn,q⟩:=q1;subst e;obtain⟨u1,u2,u3,rfl,⟨t1,rfl⟩,⟨t2,rfl⟩,⟨t3,rfl⟩⟩:∃u1 u2 u3,us=[u1,u2,u3]/\RelV (.int i) u1/\RelV (.int j) u2/\RelV (.int c) u3:=by
  cases r1 with
  |cons p q=>
   cases q with
   |cons p' q'=>
    cases q' with
    |cons p'' q''=>
     cases q'';exact⟨_,_,_,rfl,p,p',p''⟩
 refine call_range_3 (by omega) ?_ (.inl (PyProof.noPylong_small (by omega)));refine wpAny_pyIter_range (IsRange.new ..) ?_ ?_
 ·have hq1:0<=(n:Int):=Int.natCast_nonneg n;have hq2:(n:Int)<=2^41:=by
   rw[←hn];unfold Builtin.Range.rangeSize;rw[if_pos b5]
   split
   ·have:(j-i-1)/c<=(j-i-1)/1:=by
     rw[Int.ediv_one];exact Int.ediv_le_self _ (by omega)
    rw[Int.ediv_one]at this;omega
   ·omega
  unfold Builtin.Range.small;simp only[hn];unfold Builtin.Range.rangeFitsLong;rw[if_pos b5];rw[uo (show-(2^63)<=i by omega),uo (show i<2^63 by omega),uo (show-(2^63)<=j by omega),uo (show j<2^63 by omega),uo (show-(2^63)<=c by omega),uo (show c<2^63 by omega),uo (show-(2^63)<=(n:Int) by omega),uo (show(n:Int)<2^63 by omega),
   uo (show-(2^63)<=j+(c-1) by omega),uo (show j+(c-1)<2^63 by omega)]
  simp
 have I2:Inv X pins σ H1 {s1 with heap:=s1.heap.push {cls:=.type "range",data:=.fields #[.int i t1,.int j t2,.int c t3]},toks:=s1.toks}:=I1.kept fun b o e=>Heap.get?_push_of_some _ e;refine⟨(s1.heap.push {cls:=.type "range",data:=.fields #[.int i t1,.int j t2,.int c t3]}).objs.size,[(s1.heap.push {cls:=.type "range",data:=.fields #[.int i t1,.int j t2,.int c t3]}).objs.size],_,_,H1,rfl,
  I2.kept (t':=s1.toks) fun b o e=>Heap.get?_push_of_some _ e,qC _ i c n,?_,fun b hb=>?_,q⟩
 ·have e1:i+((0:Nat):Int)*c=i:=by simp
  have e2:((n:Nat):Int)-((0:Nat):Int)=Builtin.Range.rangeSize i j c:=by rw[hn];simp
  show IsRangeIter _ _ (i+((0:Nat):Int)*c) (((n:Nat):Int)-((0:Nat):Int)) c;rw[e1,e2];exact Heap.get?_push_size _ rfl
 ·have e:b=(s1.heap.push {cls:=.type "range",data:=.fields #[.int i t1,.int j t2,.int c t3]}).objs.size:=by simpa using hb
  subst e;exact I2.vC (uq _) (I2.hok.fresh (uq _))
theorem zT{lo c:Int}{n:Nat}{g:TG}{tb:TS}{D:Ends}{σ:St}{H:Hp}(Pv:Nat->St->Hp->Prop)(h0:Pv 0 σ H)
  (hs:∀i σ H,i<n->Pv i σ H->g (.int (lo+i*c)) σ H fun σ2 H2=>tb {D with nx:=Pv (i+1),ct:=Pv (i+1),bk:=D.nx} σ2 H2) (hd:∀σ H,Pv n σ H->D.nx σ H):
  ∃W:Nat->Nat->St->Hp->Prop,(∃m,W 0 m σ H)/\∀i m σ H,W i m σ H->
   ((QcI lo c n).stop i H/\D.nx σ H)\/((QcI lo c n).go i H/\∃N:St->Hp->Prop,(∀σ' H',N σ' H'->∃m',m'<m/\W (i+1) m' σ' H')/\∀x H',(QcI lo c n).yld i H x H'->g x σ H' fun σ2 H2=>tb {D with nx:=N,ct:=N,bk:=D.nx} σ2 H2):=by
 refine⟨fun i m σ H=>m=n-i/\i<=n/\Pv i σ H,⟨n,by simp,uQ _,h0⟩,?_⟩;rintro i m σ H ⟨rfl,hi,p⟩
 by_cases hlt:i<n
 ·refine .inr ⟨hlt,Pv (i+1),fun σ' H' p'=>⟨n-(i+1),by omega,rfl,hlt,p'⟩,fun x H' y=>?_⟩;obtain⟨e,y⟩:=y;subst e y;exact hs i σ _ hlt p
 ·have e:i=n:=by omega
  subst e;exact .inl ⟨uq _,hd σ H p⟩
end
structure PAx(X:Cx)(es:List Expr)(t:TA):Prop where
 pa:PA X es t
structure PSy(X:Cx)(st:Stmt)(t:TS):Prop where
 ps:PS X st t
section
variable {X:Cx}
theorem QA:PAx X [] WO:=⟨Qc⟩
theorem KR{x:Str}{j:Nat}{p:Pos}{es:List Expr}{t:TA}(hr:PAx X es t):PAx X (.Constant (.str x) j p::es) (Ja (tC (.str x)) t):=⟨Qb Qg hr.pa rfl⟩
theorem JF{es:List Expr}{t:TA}{pos:Pos}(h:PAx X es t):PEx X (.List es pos) (Qca t):=⟨Zw h.pa⟩
theorem Qi{st:Stmt}{rest:List Stmt}{t1 t2:TS}(h:PSy X st t1)(hr:PSx X rest t2):PSx X (st::rest) (XX t1 t2):=⟨Qe h.ps hr.ps⟩
theorem Qs{st:Stmt}{t:TS}(h:PSy X st t):PSx X [st] t:=⟨Qh h.ps⟩
end
theorem Qd7{P:Program}{w:World}{K:PySem.W.Frag}{mg:Str->Option Value}{base:Heap}{x qual:Str}{st:Stmt}{f:Addr}{fd:FuncData}{cdv:Value}{N ps:List Str}{k:Nat}{sp:Sp}(F:FunC K x qual st f fd cdv)(S:FnScope N ps (Qf st))(len:∀vs H Q E,sp vs H Q E->vs.length=ps.length)
  (hbody:∀(A:Around)(outer:List Env)(s:Shared)(H:Hp)(vs:List V)(Q:VK)(E:XK),Room k (A.deeper (envOfC qual (Qf st) s.heap.objs.size f cdv))->sp vs H Q E->
   ∃t,PSx (Yf (CXE P w) P w K mg base N qual (Qf st) f cdv A outer s H E).nox (Q3 st) t/\t {nx:=fun _ H'=>Q .non H',rt:=Q} (start N vs) H):FnOk P w K mg base (CXE P w) (k+1) f fd ps sp:=
 Qfa F S len fun A outer s H vs Q E hr hsp=>by
  obtain⟨t,h,q⟩:=hbody A outer s H vs Q E hr hsp;exact⟨t,h.ps,q⟩
noncomputable def kn(z y:Str)(i:Int):Int:=match occurrences z y (fromIndex z.length i) z.length 1 with|k::_=>(k:Int)|[]=> -1
theorem WZ:∀{ys:List Str}{us:List Value},Vals (ys.map V.str) us->∃l:List (Str × Tok),us=strValues l/\l.map (·.1)=ys
 |[],_,.nil=>⟨[],rfl,rfl⟩
 |y::ys,_,.cons r t=>by
  obtain⟨l,e1,e2⟩:=WZ t;obtain⟨tk,rfl⟩:=r;exact⟨(y,tk)::l,by rw[e1];rfl,by rw[uN,e2]⟩
section
variable {X:Cx}
theorem qD:MtR X "str.join" (fun x vs H Q=>∃(z:Str)(p:Addr)(ys:List Str),x=.str z/\vs=[.ref p]/\SqL X.K H p (ys.map V.str)/\JoinOk z ys=true/\Q (.str (Txt.join z ys)) H):=by
 intro pins s σ H x vs v us Q I rx rv h;obtain⟨z,p,ys,rfl,rfl,hq,hj,q⟩:=h;obtain⟨t,rfl⟩:=rx;obtain⟨u,rfl,ru⟩:=vals1 rv;obtain rfl:u=Value.ref p:=ru;obtain⟨its,rv,pl,hl⟩:=I.list hq;obtain⟨l,e1,e2⟩:=WZ rv;subst e1;have hok:=hj;unfold JoinOk at hok;rw[Bool.not_eq_true', ←e2]at hok;refine call_meets F.slot_str_join (typeIs_str _ _ _) F.entry_str_join (F.args_str_join_2 _ _) (meets_str_join_list z t p l hok) ⟨pl.isList,?_⟩;refine post_join l ⟨joinFit_length hok,fun t' k=>⟨.str (Txt.join z (l.map (·.1))),H,I.tok k,⟨t',rfl⟩,?_⟩⟩;rw[e2];exact q
theorem v8:MtR X "str.find" (fun x vs H Q=>∃(z y:Str)(i:Int),x=.str z/\vs=[.str y,.int i]/\Q (.int (kn z y i)) H):=by
 intro pins s σ H x vs v us Q I rx rv h;obtain⟨z,y,i,rfl,rfl,q⟩:=h;obtain⟨t,rfl⟩:=rx;obtain⟨u1,u2,rfl,⟨t1,rfl⟩,⟨t2,rfl⟩⟩:=vals2 rv;exact call_gives F.slot_str_find F.entry_str_find (F.args_str_find_3 _ _ _) (gives_str_find_from z y i t t1 t2) ⟨.int _,H,I.tok _,⟨_,rfl⟩,q⟩
end
theorem VY{prog:Program}{w:World}{A:Around}(hh:A.handled=none)(I l:Addr)(hne:l≠I)(items:Array Value):
  WalksS prog w A I [I,l] [I] (fun a b=>a=b) items.size (fun i v=>items[i]? =some v) (fun i s=>s.heap.IsListIter I l i/\s.heap.IsList l items) where
 sub:=fun b hb=>by simp at hb;simp[hb]
 grefl:=fun _=>rfl
 gtrans:=fun _ _ _ a b=>a.trans b
 frame:=fun i s h' tk x _ hk=>⟨x.1.at fun o e=>hk I (by simp) o e,x.2.at fun o e=>hk l (by simp) o e⟩
 item:=fun i s Q E hi x hQ=>by
  have hx:items[i]? =some (items[i]'hi):=Array.getElem?_eq_getElem hi;refine wpAny_pyNext_list_item x.1 x.2 hx fun h' st' sb=>?_;exact hQ _ _ hx ⟨st',x.2.at fun o eo=>(sb.2 l hne).trans eo⟩ ⟨fun b o hb eo=>(sb.2 b (fun h=>hb (by simp[h]))).trans eo,rfl,rfl,rfl,uq _⟩
 done:=fun s Q E x hQ=>wpAny_pyNext_list_end hh x.1 x.2 (Array.getElem?_eq_none (uq _)) fun h' eb=>hQ _ ⟨fun b o hb eo=>eb b o (fun h=>hb (by simp[h])) eo,rfl,rfl,rfl,uq _⟩
 self:=fun _ _ _ _ x hQ=>wpAny_pyIter_listiter x.1 hQ
theorem qE{ns:List Int}{us:List Value}(r:Vals (ns.map V.int) us):∀i v,us.toArray[i]? =some v->∃t,v=Value.int (ns.getD i 0) t:=fun i v hv=>by
 have h1:us[i]? =some v:=by simpa using hv
 have hlt:=(List.getElem?_eq_some_iff.mp h1).1;have hl:=r.length;rw[uk]at hl;have h2:(ns.map V.int)[i]? =some (V.int (ns.getD i 0)):=by
  rw[uE,List.getElem?_eq_getElem (by omega)];simp[List.getD,List.getElem?_eq_getElem (show i<ns.length by omega)]
 obtain⟨u,e,q⟩:=r.get h2;rw[h1]at e;cases e;exact q
theorem qF(ns:List Int):∀k,k<=ns.length->preSum (fun i=>ns.getD i 0) k=(ns.take k).sum:=by
 intro k
 induction k with
 |zero=>intro _;rfl
 |succ k ih=>
  intro hk;have e:ns.take (k+1)=ns.take k++[ns.getD k 0]:=by
   rw[List.take_add_one,List.getElem?_eq_getElem (by omega)];simp[List.getD,List.getElem?_eq_getElem (show k<ns.length by omega)]
  show preSum _ k+ns.getD k 0=_;rw[ih (by omega),e,List.sum_append];simp
theorem Qbh(val:Nat->Int):∀k,argBest (fun i j=>decide (val i>val j)) k<=k/\∀i,i<=k->val i<=val (argBest (fun i j=>decide (val i>val j)) k):=by
 intro k
 induction k with
 |zero=>exact⟨uq _,fun i hi=>by rw[Nat.le_zero.mp hi];exact Int.le_refl _⟩
 |succ k ih=>
  unfold argBest
  by_cases h:val (k+1)>val (argBest (fun i j=>decide (val i>val j)) k)
  ·rw[if_pos (uo h)];refine⟨uq _,fun i hi=>?_⟩;rcases Nat.lt_or_ge i (k+1)with h1|h1
   ·have:=ih.2 i (by omega);omega
   ·rw[show i=k+1 by omega];exact Int.le_refl _
  ·rw[if_neg (by rw[decide_eq_true_eq];exact h)];refine⟨by omega,fun i hi=>?_⟩;rcases Nat.lt_or_ge i (k+1)with h1|h1
   ·exact ih.2 i (by omega)
   ·rw[show i=k+1 by omega];omega
section
variable {X:Cx}
theorem Yo(hc:X.calm=true):XG X (.builtin "sum") (fun xs H Q=>∃(p:Addr)(ns:List Int),xs=[.ref p]/\SqL X.K H p (ns.map V.int)/\Q (.int ns.sum) H):=by
 intro pins s σ H xs us Q I r h;obtain⟨p,ns,rfl,hq,q⟩:=h;obtain⟨u,rfl,ru⟩:=vals1 r;obtain rfl:u=Value.ref p:=ru;obtain⟨its,rv,pl,hl⟩:=I.list hq;have hil:=pl.isList;have hlt:p<s.heap.objs.size:=by obtain⟨o,e,_⟩:=hil;exact Heap.lt_size e
 have hlen:=rv.length;rw[uk]at hlen;refine call_sum_walkAnyS (wpAny_pyIter_list hil ?_);have I2:Inv X pins σ H {s with heap:=s.heap.push {cls:=.type "list_iterator",data:=.fields #[.ref p,.int 0 0]}}:=I.kept (t':=s.toks) fun b o e=>Heap.get?_push_of_some _ e;refine⟨s.heap.objs.size,_,_,_,_,_,_,fun i=>ns.getD i 0,rfl,VY (A:=X.A.in1) (I.ok.hd hc) _ p (Nat.ne_of_lt hlt) its.toArray,⟨⟨_,Heap.get?_push_size _ rfl,rfl,rfl⟩,hil.push _⟩,fun b hb=>?_,qE rv,fun s' t' hm=>?_⟩
 ·show b<(s.heap.push _).objs.size;rw[Heap.size_push];rcases List.mem_cons.mp hb with rfl|hb
  ·exact Nat.lt_succ_self _
  ·rw[List.mem_singleton.mp hb];exact Nat.lt_succ_of_lt hlt
 ·obtain⟨f0,f1,f2,f3,f4,f5⟩:=I.vC (uq _) (I.hok.fresh (uq _));obtain⟨h',g',d',tk',os'⟩:=s';obtain rfl:g'=s.gens:=hm.gens.symm;obtain rfl:d'=s.drawn:=hm.drawn;obtain rfl:os'=s.os:=hm.os;have e:preSum (fun i=>ns.getD i 0) its.toArray.size=ns.sum:=by
   rw[uP, ←hlen,qF ns _ (uq _),List.take_length]
  rw[e];refine⟨.int ns.sum,H,?_,⟨t',rfl⟩,q⟩;exact(I2.turned (h':=h') (t':=tk') (it:=s.heap.objs.size) (fun b o hb eo=>hm.heap b o (by simpa using hb) eo) f0 f1 f3 f4 f5:)
theorem ko(hc:X.calm=true):XG X (.builtin "max") (fun xs H Q=>∃(p:Addr)(ns:List Int),xs=[.ref p]/\SqL X.K H p (ns.map V.int)/\ns≠[]/\∀m,m∈ns->(∀n∈ns,n<=m)->Q (.int m) H):=by
 intro pins s σ H xs us Q I r h;obtain⟨p,ns,rfl,hq,hne,q⟩:=h;obtain⟨u,rfl,ru⟩:=vals1 r;obtain rfl:u=Value.ref p:=ru;obtain⟨its,rv,pl,hl⟩:=I.list hq;have hil:=pl.isList;have hlt:p<s.heap.objs.size:=by obtain⟨o,e,_⟩:=hil;exact Heap.lt_size e
 have hlen:=rv.length;rw[uk]at hlen;have hpos:0<ns.length:=by cases ns with|nil=>exact absurd rfl hne|cons a r=>exact Nat.succ_pos _
 refine call_max_walkS (wpAny_pyIter_list hil ?_);have I2:Inv X pins σ H {s with heap:=s.heap.push {cls:=.type "list_iterator",data:=.fields #[.ref p,.int 0 0]}}:=I.kept (t':=s.toks) fun b o e=>Heap.get?_push_of_some _ e;refine⟨s.heap.objs.size,_,_,_,_,_,_,_,rfl,VY (A:=X.A.in1) (I.ok.hd hc) _ p (Nat.ne_of_lt hlt) its.toArray,⟨⟨_,Heap.get?_push_size _ rfl,rfl,rfl⟩,hil.push _⟩,fun b hb=>?_,by rw[uP];omega,CmpOf.ints_gt (fun i=>ns.getD i 0) (qE rv),fun v s' hv hm=>?_⟩
 ·show b<(s.heap.push _).objs.size;rw[Heap.size_push];rcases List.mem_cons.mp hb with rfl|hb
  ·exact Nat.lt_succ_self _
  ·rw[List.mem_singleton.mp hb];exact Nat.lt_succ_of_lt hlt
 ·obtain⟨f0,f1,f2,f3,f4,f5⟩:=I.vC (uq _) (I.hok.fresh (uq _));obtain⟨h',g',d',tk',os'⟩:=s';obtain rfl:g'=s.gens:=hm.gens.symm;obtain rfl:d'=s.drawn:=hm.drawn;obtain rfl:os'=s.os:=hm.os;obtain⟨t,rfl⟩:=qE rv _ _ hv;obtain⟨b1,b2⟩:=Qbh (fun i=>ns.getD i 0) (its.toArray.size-1);generalize argBest (fun i j=>decide (ns.getD i 0>ns.getD j 0)) (its.toArray.size-1)=j at b1 b2;rw[uP]at b1 b2;have getD_eq:∀i,i<ns.length->ns.getD i 0=ns[i]! :=fun i hi=>by simp[List.getD,List.getElem?_eq_getElem hi]
  have hj:j<ns.length:=by omega
  refine⟨.int (ns.getD j 0),H,?_,⟨t,rfl⟩,q _ ?_ fun n hn=>?_⟩
  ·exact(I2.turned (h':=h') (t':=tk') (it:=s.heap.objs.size) (fun b o hb eo=>hm.heap b o (by simpa using hb) eo) f0 f1 f3 f4 f5:)
  ·have:ns.getD j 0=ns[j]:=by simp[List.getD,List.getElem?_eq_getElem hj]
   rw[this];exact List.getElem_mem hj
  ·obtain⟨i,hi,rfl⟩:=List.mem_iff_getElem.mp hn;have e:ns.getD i 0=ns[i]:=by simp[List.getD,List.getElem?_eq_getElem hi]
   rw[←e];exact b2 i (by omega)
end
structure KDict(P:Program)(w:World)(K:PySem.W.Frag)(a:Addr)(kvs:List (Key × V)):Prop where
 ne:(a==sysModules)=false
 ok:∀h:Heap,K.In h->∃vs,KV kvs vs/\h.DictOf (Q8 P w) a vs
section
variable {X:Cx}{o i:Expr}{td ty:TE}{pos:Pos}{a:Addr}{kvs:List (Key × V)}
noncomputable def Qd8(a:Addr)(kvs:List (Key × V))(td ty:TE):TE:=fun σ H Q=>td σ H fun x H1=>ty σ H1 fun y H2=>∃k v,x=.ref a/\y=kV k/\VT kvs k=some v/\Q v H2
theorem v9(D:KDict X.prog X.w X.K a kvs)(ho:PE X o td)(hi:PE X i ty)(hs:Qdy i):PE X (.Subscript o i pos) (Qd8 a kvs td ty):=by
 intro pins s σ H Q I h;refine xU PySem.F.slot_dict_getitem.lookup hs (thn (ho pins s σ H _ I h) fun u s1⟨x,H1,I1,rx,q1⟩=>thn (hi pins s1 σ H1 _ I1 q1) fun iv s2⟨y,H2,I2,ry,k,v,ex,ey,l,q2⟩=>?_);subst ex ey;obtain rfl:u=Value.ref a:=rx;obtain⟨vs,rel,dd⟩:=D.ok s2.heap I2.kIn;obtain⟨w',hw,rw'⟩:=jA.some_of (v:=v) (o:=valueAt vs k) (by rw[←l];exact rel.val k);exact⟨dd.typeIs,wpAny_getItem_of (qp ry) dd.mapOf hw ⟨v,H2,I2.tok _,rw',q2⟩⟩
noncomputable def Qbi(a:Addr)(kvs:List (Key × V))(ty td:TE):TE:=fun σ H Q=>ty σ H fun y H1=>td σ H1 fun x H2=>∃k,x=.ref a/\y=kV k/\Q (.bl (!(VT kvs k).isSome)) H2
theorem zU(D:KDict X.prog X.w X.K a kvs)(hi:PE X i ty)(ho:PE X o td):PC X .NotIn i o (Qbi a kvs ty td):=by
 intro pins s σ H Q I h;refine thn (hi pins s σ H _ I h) fun iv s1⟨y,H1,I1,ry,q1⟩=>thn (ho pins s1 σ H1 _ I1 q1) fun u s2⟨x,H2,I2,rx,k,ex,ey,q2⟩=>?_;subst ex ey;obtain rfl:u=Value.ref a:=rx;obtain⟨vs,rel,dd⟩:=D.ok s2.heap I2.kIn;refine wpAny_notIn_of (qp ry) D.ne dd.mapOf ?_;rw[←(rel.val k).Ur];exact⟨.bl _,H2,I2.tok _,rfl,q2⟩
end
theorem boot_sum:bootBuiltins "sum"=some (.builtin "sum"):=by boot_by_name
section
variable {X:Cx}
theorem Qbj:PIp X .Add (fun x y H Q=>∃i j,x=.str i/\y=.str j/\i.length+j.length<=sizeLine/\Q (.str (i++j)) H):=by
 intro pins s σ H x y v u Q I r1 r2 h;obtain⟨i,j,e1,e2,hl,q⟩:=h;subst e1;subst e2;obtain⟨t,rfl⟩:=r1;obtain⟨t',rfl⟩:=r2;exact SB.iadd (fun t2 k=>⟨.str _,H,I.tok k,⟨t2,rfl⟩,q⟩) hl
end
section
variable {X:Cx}
theorem Wv{elt tg iter:Expr}{ifs:List Expr}{scope:Scope}{pos spos py:Pos}{NB:List Str}{wi:TI}{g:TG}{tt:TT}{te:TE}{iy:Nat}{y:Str}(hc:X.calm=true)(S:BlkScope NB scope)(hi:PI X tg iter wi)
  (hg:∀s H ex,PG (JD X NB scope s H ex) tg g) (ht:∀s H ex,PTs (JD X NB scope s H ex) ifs tt) (he:∀s H ex,PE (JD X NB scope s H ex) elt te)
  (hN:X.N.Nodup) (hiy:X.N[iy]? =some y) (hy:Loc X.env.scope y) (hsw:swapsWith (.ListComp elt [⟨tg,iter,ifs,0⟩] scope pos) (some (.Name y py)) spos.line X.env=pure true)
  (hs:∀x,foldedSetIterable iter X.env x=pure x:=by intro _;rfl) (hf:X.fn y=true\/X.env.scope.names.lookup y=some .local:=by first|exact .inl rfl|exact .inr rfl|assumption):
  PS X (.Assign [.Name y py] (.ListComp elt [⟨tg,iter,ifs,0⟩] scope pos) spos) (JP (KQ NB wi g tt te) (QH iy)):=by
 intro pins s σ H Dn I h;rw[exec_Assign_Name_used _ _ _ _ hsw];refine wpAny_bind (wpAny_standAt (wpAny_bind ?_));show wpAny _ X.A (do let _←comprehension (.ListComp elt [⟨tg,iter,ifs,0⟩] scope pos) scope X.env _ (newList []) false (eval iter X.env) (some (assign (.Name y py) X.env))) _ _ s;refine wpAny_bind (wpAny_mono (wpAny_comprehension_free (use:=some (assign (.Name y py) X.env)) (Q:=fun _ s'=>SP X pins Dn .next s') (cl:=[]) rfl hs (UB S.nofree) S.kind S.loc (thn (hi pins s σ H _ I h) fun v s1 h1=>thn h1 fun itv s2 h2=>?_)) (fun _ s' hq=>wpAny_pure (wpAny_pure hq)) fun _ _ e=>e);obtain⟨it,fp,tn,J,H2,e,I2,T,st2,f2,W,⟨m0,w0⟩,turn⟩:=h2;subst e;refine wpAny_newObj_type ?_;have up2:∀b o,s2.heap.get? b=some o->(s2.heap.push {cls:=.type "list",data:=.seq ([]:List Value).toArray}).get? b=some o:=fun b o e=>Heap.get?_push_of_some _ e;have I3:Inv X pins σ H2 {s2 with heap:=s2.heap.push {cls:=.type "list",data:=.seq ([]:List Value).toArray}}:=I2.kept (t':=s2.toks) up2;have st3:tn 0 (s2.heap.push {cls:=.type "list",data:=.seq ([]:List Value).toArray}):=T.keep _ _ _ st2 fun b _ o e=>up2 b o e;have hD3:(s2.heap.push {cls:=.type "list",data:=.seq ([]:List Value).toArray}).get? s2.heap.objs.size=some (XH []):=Heap.get?_push_size _ rfl;have hD2:H2 s2.heap.objs.size=none:=I2.hok.fresh (uq _);have lt2:∀b o,s2.heap.get? b=some o->b≠s2.heap.objs.size:=fun b o e=>Nat.ne_of_lt (Heap.lt_size e);have fpO:∀b∈fp,∃o,s2.heap.get? b=some o:=fun b hb=>let ⟨o,e,_⟩:=T.obj _ _ st2 b hb;⟨o,e⟩;have hDs0:X.s₀.heap.objs.size<=s2.heap.objs.size:=I2.sz;have hDL:s2.heap.objs.size≠X.env.locals:=Nat.ne_of_gt I2.lt;have hDC:∀x c,X.env.cells.lookup x=some c->c≠s2.heap.objs.size:=fun x c e=>let ⟨v,o,e1,_⟩:=I2.cell x c e;lt2 c o e1;have hDp:∀p∈X.pn++pins,p.1≠s2.heap.objs.size:=fun p hp=>lt2 p.1 _ (I2.pin p hp).1;have hDf:s2.heap.objs.size∉frs X.stack:=fun z=>let ⟨o,e,_⟩:=(I2.stack.mem z).2;lt2 _ o e rfl;generalize hS3:({s2 with heap:=s2.heap.push {cls:=.type "list",data:=.seq ([]:List Value).toArray}}:Shared)=s3 at I3 ⊢;have hh3:s3.heap=s2.heap.push {cls:=.type "list",data:=.seq ([]:List Value).toArray}:=by rw[←hS3]
 rw[←hh3]at st3 hD3 up2;generalize s2.heap.objs.size=D at hD3 hD2 lt2 hDs0 hDL hDC hDp hDf ⊢;refine XL S.kind fun cenv s4 hce x4=>?_;subst hce;rw[Wh S.nofree];have lt3:∀b o,s3.heap.get? b=some o->b<s3.heap.objs.size:=fun b o e=>Heap.lt_size e;have fp3:∀b∈fp,b<s3.heap.objs.size:=fun b hb=>let ⟨o,e⟩:=fpO b hb;lt3 b o (up2 b o e);have dl3:D<s3.heap.objs.size:=lt3 D _ hD3;have DfpN:∀b∈fp,b≠D:=fun b hb=>let ⟨o,e⟩:=fpO b hb;lt2 b o e;obtain⟨h4,tk4,rfl,hk4⟩:=x4.done;have bsN:∀b o,X.base.get? b=some o->b∉D::fp:=fun b o e hb=>by
  rcases List.mem_cons.mp hb with rfl|hb
  ·exact absurd (Nat.lt_of_lt_of_le (Heap.lt_size (I2.ok.bs b o e).1) hDs0) (uR _)
  ·obtain⟨_,_,_,f3,_⟩:=f2 b hb;rcases f3 with z|z
   ·exact I2.ok.noex b o e z
   ·exact absurd (Nat.lt_of_lt_of_le (Heap.lt_size (I2.ok.bs b o e).1) z) (uR _)
 have exF:∀b∈D::fp,b∉frs X.stack:=fun b hb hf=>by
  rcases List.mem_cons.mp hb with rfl|hb
  ·exact hDf hf
  ·obtain⟨_,f1,f2',_⟩:=f2 b hb;rcases List.mem_cons.mp (I2.Kc b hf)with z|z
   ·exact f1 z
   ·exact f2' z
 have cge:∀y c,(cellsFrom (s3.heap.objs.size+1) scope.names []).lookup y=some c->s3.heap.objs.size<c:=fun y c e=>x4.above y c (PySem.mem_of_lookup e);have exLt:∀b∈D::fp,b<s3.heap.objs.size:=fun b hb=>by
  rcases List.mem_cons.mp hb with rfl|hb
  ·exact dl3
  ·exact fp3 b hb
 have okB:(JD X NB scope s3 H2 (D::fp)).Ok:=by
  refine⟨I3.ok.mod,S.kind,I3.ok.glob,I3.ok.blt,uq _,fun y z c h1 h2=>?_,fun y hy=>?_,fun y c _ h=>Nat.le_of_lt (cge y c h),I3.ok.hd,I3.ok.frames,.inl rfl,fun b hb=>⟨Nat.ne_of_lt (exLt b hb),fun y c e z=>?_⟩,I3.bs,Nat.le_trans I3.ok.bsz I3.sz,bsN,exF,I3.stack,I3.XV⟩
  ·exact name_of_addr x4.apart (PySem.mem_of_lookup h1) (PySem.mem_of_lookup h2)
  ·have hy:scope.names.lookup y=some .cell\/scope.names.lookup y=some .free:=hy;rcases hy with hy|hy
   ·exact Wq hy
   ·exact absurd rfl (S.nofree _ (PySem.mem_of_lookup hy))
  ·have:=cge y c e;rw[z]at this;exact absurd (Nat.lt_trans this (exLt b hb)) (uR _)
 have rep:∀(j:Nat)(v:V),(List.replicate NB.length (none:Option V))[j]? ≠some (some v):=fun j v z=>by
  rw[List.getElem?_replicate]at z
  split at z<;>cases z
 have IB:Inv (JD X NB scope s3 H2 (D::fp)) [(D,XH [])] (List.replicate NB.length none) H2 {s3 with heap:=h4,toks:=tk4}:=by
  refine⟨okB,rfl,I3.bare,Un.kept hk4,⟨_,x4.toInCall.ns,fun i y v h1 h2 h3=>absurd h2 (rep i v)⟩,fun y c h=>⟨_,x4.cell y c h⟩,I3.hok.fresh (uq _),fun y c h=>I3.hok.fresh (Nat.le_of_lt (cge y c h)),fun p hp=>?_,I3.hok.kept hk4,by rw[uG]⟩;obtain rfl:p=(D,XH []):=by simpa using hp
  exact⟨hk4 _ _ hD3,hD2,Nat.ne_of_lt dl3,hDf,fun v z=>nomatch z⟩
 have stat:∀{H':Hp}{ys:List Value},(∀b∈fp,H' b=none)->∀b∈fp,vv (JD X NB scope s3 H2 (D::fp)) [(D,XH ys)] H' b:=fun hn b hb=>
  ⟨hn b hb,Nat.ne_of_lt (fp3 b hb),exF b (uz _ hb),.inl (uz _ hb),fun y c e z=>by
   have:=cge y c e;rw[z]at this;exact absurd (Nat.lt_trans this (fp3 b hb)) (uR _),fun p hp=>by
    obtain rfl:p=(D,_):=by simpa using hp
    exact(DfpN b hb).symm⟩
 have st4:tn 0 h4:=T.keep _ _ _ st3 fun b _ o e=>hk4 b o e;have fr4:∀b∈fp,H2 b=none:=fun b hb=>(f2 b hb).1;have hcB:(JD X NB scope s3 H2 (D::fp)).calm=true:=hc;have loop:codeAny (model X.prog X.w) X.A (.compLoop (.ListComp elt [⟨tg,iter,ifs,0⟩] scope pos) 0 (.ref it) (.ref D) (kg scope X.env s3.heap.objs.size))
   (compPost (model X.prog X.w) X.A X.xe (some (assign (.Name y py) X.env)) (fun _ s'=>SP X pins Dn .next s') (.ref D) s3.heap.objs.size) {s3 with heap:=h4,toks:=tk4}:=by
  refine WX (fun n s'=>∃i vs ys H',Inv (JD X NB scope s3 H2 (D::fp)) [(D,XH ys)] (List.replicate NB.length none) H' s'/\Vals vs ys/\vs.length<=sizeLine/\tn i s'.heap/\(∀b∈fp,H' b=none)/\W i n vs H') ?_ m0 ⟨0,[],[],H2,IB,.nil,uQ _,st4,fr4,w0⟩;rintro n s5 ⟨i,vs,ys,H5,I5,rv,hvl,st5,fr5,w5⟩;rcases turn i n vs H5 w5 with⟨stop,qn⟩|⟨go,hlt,N,hN,step⟩
  ·refine wpAny_mono (T.done (JD X NB scope s3 H2 (D::fp)) rfl rfl rfl hcB i _ s5 _ H5 (fun _ _=>False) I5 (stat fr5) st5 stop) (fun r s6⟨hr,I6⟩=>?_) (fun _ _ z=>z.elim);subst hr;obtain⟨m6,hn6,_⟩:=id I6.loc;have hC6:H5 s3.heap.objs.size=none:=I6.free;have un7:Un (frs X.stack) (D::fp) H2 H5 s3.heap s6.heap:=I6.base;have I7:Inv X pins σ H5 s6:=I3.xB (s':=s6) I6.os un7 I6.hok I6.bare fun b hb=>by
    rcases List.mem_cons.mp hb with rfl|hb
    ·exact⟨.inr hDs0,hDL,hDC,hDp⟩
    ·obtain⟨_,f1,_,f3,f4,f5⟩:=f2 b hb;exact⟨f3,f1,f4,f5⟩
   obtain⟨eD,nD,_⟩:=I6.pin (D,XH ys) (by simp);have nD':H5 D=none:=nD;have eD':s6.heap.get? D=some (XH ys):=eD;have hD0:X.s₀.heap.get? D=none:=by
    cases q:X.s₀.heap.get? D with
    |none=>rfl
    |some o=>exact absurd (Nat.lt_of_lt_of_le (Heap.lt_size q) hDs0) (uR _)
   have I8:Inv X pins σ (upd H5 D (.lst vs)) s6:=I7.vN nD' hD0 hDL hDC hDp ⟨hvl,ys,ys.length,rv,eD'⟩;have hq:=qn D nD';have s03:X.s₀.heap.objs.size<=s3.heap.objs.size:=I3.sz;have cL:s3.heap.objs.size≠X.env.locals:=Nat.ne_of_gt I3.lt;have cC:∀x c,X.env.cells.lookup x=some c->c≠s3.heap.objs.size:=fun x c e=>let ⟨v,o,e1,_⟩:=I3.cell x c e;Nat.ne_of_lt (lt3 c o e1);have cP:∀p∈X.pn++pins,p.1≠s3.heap.objs.size:=fun p hp=>Nat.ne_of_lt (lt3 p.1 _ (I3.pin p hp).1);show wpAny (model X.prog X.w) X.A (assign (.Name y py) X.env (.ref D)) _ X.xe s6;refine wpAny_assign_Name (WG (v:=.ref D) I8 hN hiy hy rfl (fun s9 I9⟨a9,sb9,ha9⟩=>?_) hf);have na:s3.heap.objs.size≠a9:=by
    rcases ha9 with rfl|z
    ·exact cL
    ·exact(cC y a9 z).symm
   refine⟨m6,hn6.sameBut sb9 na,fun h10 sb10=>⟨_,_,?_,hq⟩⟩;have hD3':upd H5 D (.lst vs) s3.heap.objs.size=none:=by rw[Qp (Nat.ne_of_gt dl3)];exact hC6
   exact(I9.turned (h':=h10) (t':=s9.toks) (it:=s3.heap.objs.size) (fun b o hb e=>(sb10.2 b hb).trans e) hD3' cL (.inr s03) cC cP:)
  ·refine wpAny_mono (T.item (JD X NB scope s3 H2 (D::fp)) rfl rfl rfl hcB i _ s5 _ H5 (fun _ _=>False) I5 (stat fr5) st5 go) (fun r s6⟨u,hr,h6⟩=>?_) (fun _ _ z=>z.elim);subst hr;refine wpAny_mono h6 (fun _ s7⟨x,H7,I7,r7,y7,st7,fr7⟩=>?_) (fun _ _ z=>z.elim);have I7':=I7.pinned (stat fr7) (T.obj _ _ st7);refine wpAny_mono (hg s3 H2 (D::fp) _ s7 _ H7 x u _ I7' r7 (step x H7 y7)) (fun _ s8⟨σ8,H8,I8,q8⟩=>?_) (fun _ _ z=>z.elim);refine wpAny_mono (ht s3 H2 (D::fp) _ s8 σ8 H8 _ I8 q8) (fun ok s9⟨H9,I9,q9⟩=>?_) (fun _ _ z=>z.elim);have fpK:∀{σ':St}{H':Hp}{s':Shared},Inv (JD X NB scope s3 H2 (D::fp)) ([(D,XH ys)]++WM fp s7.heap) σ' H' s'->tn (i+1) s'.heap/\∀b∈fp,H' b=none:=fun J=>
    ⟨T.keep _ _ _ st7 fun b hb o e=>(J.pin (b,o) (ux _ (ux _ (JC hb e)))).1,fun b hb=>by
     obtain⟨o,e,d⟩:=T.obj _ _ st7 b hb;exact(J.pin (b,o) (ux _ (ux _ (JC hb e)))).2.1⟩
   have wk:∀{σ':St}{H':Hp}{s':Shared}{pl:List (Addr × Obj)},Inv (JD X NB scope s3 H2 (D::fp)) pl σ' H' s'->Inv (JD X NB scope s3 H2 (D::fp)) pl (List.replicate NB.length none) H' s':=fun J=>
    J.weak (by rw[uG];exact J.len.symm) fun j v z=>absurd z (rep j v)
   cases ok with
   |false=>
    rw[if_neg (by decide)]at q9;rw[if_neg (by decide)];obtain⟨m',hm,w9⟩:=hN vs H9 q9;obtain⟨t9,f9⟩:=fpK I9;exact⟨m',hm,i+1,vs,ys,H9,wk I9.Zg,rv,hvl,t9,f9,w9⟩
   |true=>
    rw[if_pos rfl]at q9;rw[if_pos rfl];refine wpAny_mono (he s3 H2 (D::fp) _ s9 σ8 H9 _ I9 q9) (fun y s10⟨v,H10,I10,rv10,q10⟩=>?_) (fun _ _ z=>z.elim);obtain⟨eD,nD,_,nf,_⟩:=I10.pin (D,XH ys) (by simp);have hyl:=rv.length;refine append_at (hsz:=by show ys.toArray.size<=sizeLine;rw[uP, ←hyl];exact hvl) eD fun h11 sb11 hD11=>?_;obtain⟨m',hm,w11⟩:=hN (vs++[v]) H10 q10;obtain⟨t10,f10⟩:=fpK I10;have I10u:=I10.Zg;have k11:∀b o,b≠D->s10.heap.get? b=some o->h11.get? b=some o:=fun b o hb e=>(sb11.2 b hb).trans e;have IE:Inv (JD X NB scope s3 H2 (D::fp)) [] σ8 H10 s10:=I10u.Xb fun p hp=>nomatch hp;have I11:Inv (JD X NB scope s3 H2 (D::fp)) [] σ8 H10 {s10 with heap:=h11}:=IE.turned (t':=s10.toks) k11 nD (Nat.ne_of_lt dl3) (.inl uA) (fun y' c e z=>by
     have:=cge y' c e;rw[z]at this;exact absurd (Nat.lt_trans this dl3) (uR _)) (fun p hp=>absurd (show p∈([]:List (Addr × Obj))from hp) (by simp))
    have eL:({cls:=.type "list",data:=.seq (ys.toArray.push y) (ys.length+1)}:Obj)=XH (ys++[y]):=by
     show({cls:=.type "list",data:=.seq (ys.toArray.push y) (ys.length+1)}:Obj)={cls:=.type "list",data:=.seq (ys++[y]).toArray (ys++[y]).length};rw[uj,uu,List.push_toArray]
    refine⟨m',hm,i+1,vs++[v],ys++[y],H10,wk (I11.Xb fun p hp=>?_),rv.append (.cons rv10 .nil),by rw[uj,uu];exact hlt,T.keep _ _ _ t10 fun b hb o e=>k11 b o (DfpN b hb) e,f10,w11⟩;obtain rfl:p=(D,XH (ys++[y])):=by simpa using hp
    exact⟨by rw[←eL];exact hD11,nD,Nat.ne_of_lt dl3,nf,fun v z=>nomatch z⟩
 exact codeAny_compStart_list loop (T.self _ 0 _ _ _ st4 loop)
theorem zV{K0:PySem.W.Frag}(hK:X.K=K0):OpR X (compareOp .In) (rIn K0 false):=by
 subst hK;exact xP
end
end L2
namespace K01
noncomputable def ten(m:Int):Int:=10^m.toNat
theorem Yp(m:Int):0<ten m:=Int.pow_pos (by decide)
theorem Qbk{m:Int}(h:m<=0):ten m=1:=by
 unfold ten;rw[Int.toNat_of_nonpos h];rfl
theorem Qbl{a b:Int}(ha:0<=a)(hb:0<=b):ten (a+b)=ten a*ten b:=by
 unfold ten;rw[Int.toNat_add ha hb,Int.pow_add]
theorem QcJ{a b:Int}(h:a<=b)(hb:0<=b):ten a<=ten b:=by
 by_cases ha:0<=a
 ·rw[show b=a+(b-a) by omega,Qbl ha (by omega)];have:=Yp (b-a);have h2:=Yp a
  calc ten a=ten a*1:=(Int.mul_one _).symm
   _<=ten a*ten (b-a):=Int.mul_le_mul_of_nonneg_left (by omega) (Int.le_of_lt h2)
 ·rw[Qbk (by omega)];have:=Yp b;omega
end K01
namespace K02
open PySem PySem.NumText Builtin Builtin.Str StrLaws
noncomputable abbrev tx(l:List Nat):Str:=⟨l.toArray⟩
theorem qG(l:List Nat):(tx l).cps.toList=l:=rfl
theorem Qq(l:List Nat):(tx l).length=l.length:=by show l.toArray.size=_;rw[uP]
theorem ZC(z:Str):z=tx z.cps.toList:=by cases z;rfl
theorem len_list(z:Str):z.length=z.cps.toList.length:=by show z.cps.size=_;rw[uO]
theorem VZ{a b:List Nat}(h:tx a=tx b):a=b:=by
 have:=congrArg (fun z:Str=>z.cps.toList) h;exact this
theorem Js(a b:List Nat):tx a++tx b=tx (a++b):=by
 show(⟨a.toArray++b.toArray⟩:Str)=_;rw[List.append_toArray]
noncomputable def dec(n:Nat):List Nat:=(Nat.toDigits 10 n).map Char.toNat
theorem WN(n:Nat):PySem.Str.ofString (toString ((n:Nat):Int))=tx (dec n):=by
 rw[ZC (PySem.Str.ofString _),PySem.W.KIN.signs_num n];rfl
theorem Qbm{n:Nat}(h:n<2^100):(dec n).length<=100:=by
 have:=nat_repr_length_le (n:=n) (k:=100) (by decide) h;unfold dec;rw[uk];have e:(Nat.repr n).length=(Nat.toDigits 10 n).length:=by rw[←String.length_toList,Nat.toList_repr]
 omega
theorem QcK(b:List Nat):∀acc:Nat,b.foldl (fun acc c=>acc*10+(c-48)) acc=acc*10^b.length+b.foldl (fun acc c=>acc*10+(c-48)) 0:=by
 induction b with
 |nil=>intro acc;simp
 |cons c r ih=>
  intro acc;rw[List.foldl_cons,List.foldl_cons,ih (acc*10+(c-48)),ih (0*10+(c-48)),uw,Nat.pow_succ];rw[Nat.add_mul,Nat.zero_mul,Nat.zero_add,Nat.mul_assoc,Nat.mul_comm 10,Nat.add_assoc]
theorem kq(a b:List Nat):digitsVal (a++b)=digitsVal a*10^b.length+digitsVal b:=by
 unfold digitsVal;rw[List.foldl_append,QcK]
theorem Qat{l:List Nat}(h:AllDigits l):digitsVal l<10^l.length:=by
 induction l with
 |nil=>decide
 |cons c r ih=>
  have h1:=ih h.tail;have h2:=h.head;rw[show c::r=[c]++r from rfl,kq,uj,uu];have e:digitsVal [c]=c-48:=by simp[digitsVal]
  rw[e,Nat.pow_add];have h3:(c-48)*10^r.length<=9*10^r.length:=Nat.mul_le_mul_right _ (by omega);omega
theorem Xy(l:List Nat){k:Nat}(h:k<=l.length):sliceText (tx l) none (some (k:Int))=tx (l.take k):=by
 have e:=sliceText_nat (tx l) (a:=0) (b:=k) (uQ _) (by rw[Qq];exact h);have e2:sliceText (tx l) none (some (k:Int))=sliceText (tx l) (some ((0:Nat):Int)) (some (k:Int)):=by
  unfold sliceText;rw[sliceIdx_none_lo];rfl
 rw[e2,e];simp
theorem Kk(l:List Nat){a b:Nat}(h:a<=l.length)(hab:a<=b):sliceText (tx l) (some (a:Int)) (some (b:Int))=tx ((l.drop a).take (b-a)):=by
 by_cases hb:b<=l.length
 ·exact sliceText_nat (tx l) hab (by rw[Qq];exact hb)
 ·have e2:sliceText (tx l) (some (a:Int)) (some (b:Int))=sliceText (tx l) (some (a:Int)) (some ((l.length:Nat):Int)):=by
   have e3:strSliceIndices (some (a:Int)) (some (b:Int)) 1 (tx l).length=strSliceIndices (some (a:Int)) (some ((l.length:Nat):Int)) 1 (tx l).length:=by
    rw[Qq];unfold strSliceIndices;have h1:¬ ((b:Int)<0):=by omega
    have h2:¬ (((l.length:Nat):Int)<0):=by omega
    have h3:min (b:Int) (l.length:Int)=l.length:=by omega
    have h4:min ((l.length:Nat):Int) (l.length:Int)=l.length:=by omega
    simp only[h1,h2,if_false,h3,h4,show((1:Int)>0)=True from by simp,if_true]
   unfold sliceText;rw[e3]
  rw[e2,sliceText_nat (tx l) h (by rw[Qq];exact uq _)];have e4:(l.drop a).take (l.length-a)=(l.drop a).take (b-a):=by
   rw[List.take_of_length_le (by rw[uC];omega),List.take_of_length_le (by rw[uC];omega)]
  show tx ((l.drop a).take (l.length-a))=_;rw[e4]
theorem KS(l:List Nat)(k:Nat):sliceText (tx l) (some (k:Int)) none=tx (l.drop k):=by
 by_cases h:k<=l.length
 ·have e2:sliceText (tx l) (some (k:Int)) none=sliceText (tx l) (some (k:Int)) (some ((l.length:Nat):Int)):=by
   unfold sliceText;rw[sliceIdx_none_hi,Qq]
  rw[e2,Kk l h h];rw[List.take_of_length_le (by rw[uC];omega)]
 ·rw[List.drop_eq_nil_of_le (by omega)];have e3:strSliceIndices (some (k:Int)) none 1 (tx l).length=[]:=by
   rw[sliceIdx_none_hi,Qq];unfold strSliceIndices;have h1:¬ ((k:Int)<0):=by omega
   have h2:¬ (((l.length:Nat):Int)<0):=by omega
   have h3:max (0:Int) (min (k:Int) (l.length:Int))=l.length:=by omega
   have h4:max (0:Int) (min ((l.length:Nat):Int) (l.length:Int))=l.length:=by omega
   simp only[h1,h2,if_false,show((1:Int)>0)=True from by simp,if_true,h3,h4];unfold sliceRange;simp
  unfold sliceText;rw[e3]
  split
  ·rename_i h1;have:l.length=0:=by
    have h2:(0==(tx l).length)=true:=by simpa using h1
    rw[Qq]at h2;have:=beq_iff_eq.mp h2;omega
   rw[List.length_eq_zero_iff.mp this]
  ·rfl
theorem sub_one(l:List Nat)(c:Nat):subAt (tx l) ⟨#[c]⟩ 0=(l.head?==some c):=by
 rw[subAt_eq];show((l.drop 0).take 1==[c])=_;cases l with
 |nil=>rfl
 |cons a r=>
  simp only[List.drop_zero,List.take_succ_cons,List.take_zero,List.head?_cons]
  by_cases h:a=c
  ·subst h;simp
  ·rw[beq_eq_false_iff_ne.mpr (by simpa using h),beq_eq_false_iff_ne.mpr (by simpa using h)]
theorem yb(c:Nat):("0123456789":Str).cps.contains c=decide (48<=c/\c<=57):=by
 have e:("0123456789":Str).cps= #[48,49,50,51,52,53,54,55,56,57]:=by decide+kernel
 rw[e]
 by_cases h:c<58
 ·exact (by decide+kernel:∀c:Nat,c<58->(#[48,49,50,51,52,53,54,55,56,57]:Array Nat).contains c=decide (48<=c/\c<=57)) c h
 ·rw[decide_eq_false (fun z=>h (Nat.lt_succ_of_le z.2))];exact Bool.eq_false_iff.mpr fun z=>h ((by decide:∀x∈([48,49,50,51,52,53,54,55,56,57]:List Nat),x<58) c (List.contains_iff_mem.mp (by rw[List.contains_toArray]at z;exact z)))
noncomputable instance (l:List Nat):Decidable (AllDigits l):=inferInstanceAs (Decidable (∀c∈l,48<=c/\c<=57))
theorem ku{p:Nat->Bool}{l:List Nat}{c:Nat}(h:c∈l.takeWhile p):p c=true:=by
 induction l with
 |nil=>cases h
 |cons a r ih=>
  rw[List.takeWhile_cons]at h;cases hp:p a with
  |false=>rw[hp]at h;cases h
  |true=>
   rw[hp,if_pos rfl]at h;rcases List.mem_cons.mp h with rfl|h
   ·exact hp
   ·exact ih h
theorem kw(l:List Nat):decide (Txt.stripChars (tx l) "0123456789"=(Str.empty:Str))=decide (AllDigits l):=by
 have g:∀c,("0123456789":Str).cps.contains c=true↔(48<=c/\c<=57):=fun c=>by rw[yb];simp
 unfold Txt.stripChars Txt.stripBy stripSame stripped stripLo stripHi;simp only[if_true,Qq];generalize hp:(("0123456789":Str).cps.contains:Nat->Bool)=p;have g':∀c,p c=true↔(48<=c/\c<=57):=fun c=>by rw[←hp];exact g c
 by_cases h:AllDigits l
 ·rw[uo h,uo];have e1:(tx l).cps.toList.takeWhile p=l:=takeWhile_all fun c hc=>(g' c).mpr (h c hc);rw[e1];have e2:(tx l).cps.toList.drop l.length=[]:=List.drop_eq_nil_of_le (uq _);rw[e2];show(if(l.length==0&&l.length==l.length)=true then tx l else strSub (tx l) l.length l.length)=Str.empty
  by_cases hz:(l.length==0&&l.length==l.length)=true
  ·rw[if_pos hz];have:l.length=0:=by
    simp only[Bool.and_eq_true,beq_iff_eq]at hz;exact hz.1
   rw[List.length_eq_zero_iff.mp this];rfl
  ·rw[if_neg hz,ZC (strSub _ _ _),strSub_toList,Nat.sub_self,List.take_zero];rfl
 ·rw[um h,um];have hlt:((tx l).cps.toList.takeWhile p).length<l.length:=by
   have hle:((tx l).cps.toList.takeWhile p).length<=l.length:=List.IsPrefix.length_le (List.takeWhile_prefix p);rcases Nat.lt_or_ge ((tx l).cps.toList.takeWhile p).length l.length with z|z
   ·exact z
   ·refine absurd (fun c hc=>?_) h;have e:(tx l).cps.toList.takeWhile p=l:=List.IsPrefix.eq_of_length_le (List.takeWhile_prefix p) z;rw[←e]at hc;exact(g' c).mp (ku hc)
  generalize hlo:((tx l).cps.toList.takeWhile p).length=lo at hlt;have hdrop:∃a r,l.drop lo=a::r/\p a=false:=by
   have hd:l.dropWhile p=l.drop lo:=by
    have:=List.takeWhile_append_dropWhile (p:=p) (l:=l);have e3:l.drop lo=((l.takeWhile p)++l.dropWhile p).drop lo:=by rw[this]
    rw[e3,List.drop_append_of_le_length (by rw[←hlo];exact uq _),List.drop_eq_nil_of_le (by rw[←hlo];exact uq _),uK]
   cases hx:l.drop lo with
   |nil=>
    have:=congrArg List.length hx;rw[uC,List.length_nil]at this;omega
   |cons a r=>
    refine⟨a,r,rfl,?_⟩;rw[hx]at hd;have:=List.head?_dropWhile_not (p:=p) (l:=l);rw[hd]at this;simpa using this
  obtain⟨a,r,hx,hpa⟩:=hdrop;have hx':(tx l).cps.toList.drop lo=a::r:=hx;rw[hx'];have hrl:r.length+1=l.length-lo:=by
   have:=congrArg List.length hx;rw[uC,uw]at this;omega
  have hk:((a::r).reverse.takeWhile p).length<=r.length:=by
   rw[List.reverse_cons];have hle:((r.reverse++[a]).takeWhile p).length<=r.length:=by
    by_cases hall:∀c∈r.reverse,p c=true
    ·rw[List.takeWhile_append_of_pos hall,List.takeWhile_cons,hpa];simp
    ·have:((r.reverse++[a]).takeWhile p).length<(r.reverse++[a]).length:=by
      have hle:((r.reverse++[a]).takeWhile p).length<=(r.reverse++[a]).length:=List.IsPrefix.length_le (List.takeWhile_prefix p);rcases Nat.lt_or_ge ((r.reverse++[a]).takeWhile p).length (r.reverse++[a]).length with z|z
      ·exact z
      ·have e:(r.reverse++[a]).takeWhile p=r.reverse++[a]:=List.IsPrefix.eq_of_length_le (List.takeWhile_prefix p) z;have:p a=true:=ku (l:=r.reverse++[a]) (by rw[e];simp);rw[hpa]at this;cases this
     rw[uj,uD,uu]at this;omega
   exact hle
  split
  ·intro z;have:=congrArg (fun z:Str=>z.cps.toList.length) z;have e0:l.length=0:=this;omega
  ·intro z;have:=congrArg (fun z:Str=>z.cps.toList.length) z;have e0:(strSub (tx l) lo (l.length-((a::r).reverse.takeWhile p).length)).cps.toList.length=0:=this;rw[strSub_toList,uB,qG,hx,uw]at e0;omega
end K02
namespace K04
open PySem.NumText
noncomputable abbrev Rw:=Nat × Nat
noncomputable def Q1(t:List Nat):Nat × List Nat:=match t with
 |40::r=>if 41∈r/\r.takeWhile (· !=41)≠[]/\AllDigits (r.takeWhile (· !=41))/\(r.takeWhile (· !=41)).head?≠some 48 then(digitsVal (r.takeWhile (· !=41)),r.drop ((r.takeWhile (· !=41)).length+1))else(1,t)
 |_=>(1,t)
noncomputable def Z7(rows:List Rw)(c n:Nat):List Rw:=match rows.getLast? with
 |some (c',m)=>if c'=c then rows.dropLast++[(c,n+m)]else rows++[(c,n)]
 |none=>rows++[(c,n)]
noncomputable def Kl:Nat->List Nat->List Rw->List Rw
 |0,_,rows=>rows
 |_,[],rows=>rows
 |k+1,c::t,rows=>Kl k (Q1 t).2 (Z7 rows c (Q1 t).1)
noncomputable def rowsOf(l:List Nat):List Rw:=Kl l.length l []
noncomputable def ins(c:Nat):Bool:=[44,66,48,47].contains c
noncomputable def yc:List (List Nat):=[[57],[83,57],[86,57],[83,86,57],[57,86,57],[83,57,86,57]]
structure Facts where
 kind:Nat
 signed:Bool
 before:Nat
 behind:Nat
deriving DecidableEq,Repr
noncomputable def KU:List Rw->Bool->Bool->Nat->Nat->Option (Bool × Nat × Nat)
 |[],s,_,a,b=>some (s,a,b)
 |(c,n)::r,s,p,a,b=>if c=57 then(if p then KU r s p a n else KU r s p n b)else if n>1 then none else if c=83 then KU r true p a b else KU r s true a b
noncomputable def Jb(rows:List Rw):Option Facts:=if yc.contains (rows.map (·.1))then(match KU rows false false 0 0 with
 |some (s,a,b)=>if a+b>18 then none else some ⟨2,s,a,b⟩
 |none=>none)else none
noncomputable def Zl(rows:List Rw):Option Facts:=match rows with
 |[(c,n)]=>if(c≠88/\c≠65)\/n>60 then none else some ⟨if c=88 then 0 else 1,false,0,0⟩
 |_=>none
noncomputable def Xz(rows:List Rw):Bool:=match rows with
 |(c,n)::r=>decide (n>1)||(match r.dropWhile (fun x=>ins x.1)with|(c',_)::_=>c'==c|[]=>false)
 |[]=>false
noncomputable def Wi:List (List Nat)->List Rw->List Nat->List Nat × List Rw
 |[],rows,lead=>(lead,rows)
 |ch::more,rows,lead=>match rows with
  |(c,n)::r=>if ch.contains c&& !Xz rows then Wi more r (lead++[c])else Wi more rows lead
  |[]=>Wi more rows lead
noncomputable def jQ(rows:List Rw):List Nat × List Rw:=Wi [[43,45],[36]] rows []
noncomputable def Jp(place:Nat):List Rw->Nat->Nat × List Rw
 |[],many=>(many,[])
 |(c,n)::r,many=>if c=place then Jp place r (many+n)else if ins c then Jp place r many else(many,(c,n)::r)
noncomputable def J5(rows:List Rw):List Nat × Nat × Nat × List Rw:=match rows with
 |(c,n)::r=>if[57,90,42,43,45,36].contains c then(let x:=Jp c rows 0;let y:=Jp 57 x.2 0;([c],x.1,y.1,y.2))else([],0,0,rows)
 |[]=>([],0,0,rows)
noncomputable def JS(rows:List Rw)(place:List Nat):Option Nat × List Rw:=match rows with
 |(46,n)::r=>if n>1\/r=[]then(none,rows)else(match r with
  |(c,m)::r'=>if c≠57/\([c]≠place\/[43,45,36].contains c)then(none,rows)else(some m,r')
  |[]=>(none,rows))
 |_=>(some 0,rows)
noncomputable def JG:List (List Nat):=[[43],[45],[67,82],[68,66]]
noncomputable def W0(rows:List Rw):Option (List Nat):=if rows=[]then some []else if !JG.contains (rows.map (·.1))||rows.any (fun x=>decide (x.2>1))then none else some (rows.map (·.1))
noncomputable def Jy(rows:List Rw):Option Facts:=
 let ld:=jQ rows
 let wp:=J5 ld.2
 let bp:=JS wp.2.2.2 (if wp.2.2.1=0 then wp.1 else[57])
 let tl:=W0 bp.2
 match wp.1,bp.1,tl with
 |[place],some behind,some tail=>
  let fl:Bool:=[43,45,36].contains place
  if fl&&decide (wp.2.1<2)then none
  else
   let shown:=[ld.1.take 1,[place],tail].filter (JG.contains ·)
   if shown.length>1 then none
   else
    let before:=wp.2.1+wp.2.2.1-(if fl then 1 else 0)
    if before+behind>18 then none else some ⟨3,shown.length==1,before,behind⟩
 |_,_,_=>none
noncomputable def JH(rows:List Rw):Option Facts:=match Jb rows with
 |some f=>some f
 |none=>match Zl rows with
  |some f=>some f
  |none=>Jy rows
noncomputable def ZX(l:List Nat):Option Facts:=JH (rowsOf l)
end K04
theorem sL0:0<=PySem.sizeLine:=by rw[PySem.sizeLine_eq];decide
theorem sL1:1<=PySem.sizeLine:=by rw[PySem.sizeLine_eq];decide
theorem sL2:2<=PySem.sizeLine:=by rw[PySem.sizeLine_eq];decide
theorem sL3:3<=PySem.sizeLine:=by rw[PySem.sizeLine_eq];decide
theorem sL4:4<=PySem.sizeLine:=by rw[PySem.sizeLine_eq];decide
theorem sL5:5<=PySem.sizeLine:=by rw[PySem.sizeLine_eq];decide
theorem sL8:8<=PySem.sizeLine:=by rw[PySem.sizeLine_eq];decide
theorem sL13:13<=PySem.sizeLine:=by rw[PySem.sizeLine_eq];decide
theorem sL18:18<=PySem.sizeLine:=by rw[PySem.sizeLine_eq];decide
namespace Lw
open PySem PySem.Spec PyProof.Rows L2 K02 K04
open Builtin Builtin.Str StrLaws
theorem V0(l:List Nat)(c:Nat):(!(occurrences (tx l) (tx [c]) 0 (tx l).length 1).isEmpty)=l.contains c:=by
 rcases occ_head (tx l) (tx [c]) 1 (uq _)with⟨h1,h2⟩|⟨i,t,h1,h2,h3⟩
 ·have hn:c∉l:=fun hm=>by
   obtain⟨j,hj⟩:=List.mem_iff_getElem?.mp hm;exact h2 j ((subAt_one (tx l) c j).mpr hj)
  rw[h1];simp[hn]
 ·have hi:l[i]? =some c:=(subAt_one (tx l) c i).mp h2;have hm:c∈l:=List.mem_iff_getElem?.mpr ⟨i,hi⟩;rw[h1];simp[hm]
theorem yd(l:List Nat)(c:Nat):Txt.startswith (tx l) (tx [c])=(l.head?==some c):=by
 unfold Txt.startswith;have e:(tx [c])=(⟨#[c]⟩:Str):=rfl;rw[e,sub_one];cases l with
 |nil=>rfl
 |cons a r=>
  rw[uo (by show 0+1<=(tx (a::r)).length;rw[Qq,uw];omega)];rfl
theorem Yq(a b:List Nat):decide (V.str (tx a)=V.str (tx b))=decide (a=b):=by
 by_cases h:a=b
 ·rw[uo h,uo (by rw[h])]
 ·rw[um h,um fun q=>h (VZ (V.str.inj q))]
theorem Zs(a b:Nat):decide (V.str (tx [a])=V.str (tx [b]))=decide (a=b):=by
 rw[Yq]
 by_cases h:a=b
 ·rw[uo h,uo (by rw[h])]
 ·rw[um h,um fun q=>h (List.cons.inj q).1]
theorem ye(n a:Nat):fromIndex n (a:Int)=a:=by
 unfold fromIndex;rw[if_neg (by omega)];omega
theorem Qd9{l:List Nat}{c i:Nat}(hi:l[i]? =some c)(hn:∀k,k<i->l[k]? ≠some c):l.takeWhile (· !=c)=l.take i:=by
 induction l generalizing i with
 |nil=>cases hi
 |cons a r ih=>
  cases i with
  |zero=>
   have:a=c:=by simpa using hi
   subst this;simp
  |succ i=>
   have hb:(a !=c)=true:=by
    have:=hn 0 (Nat.succ_pos _);simpa using this
   rw[List.takeWhile_cons,hb];simp only[if_true,List.take_succ_cons];rw[ih (i:=i) (by simpa using hi) fun k hk=>by
    have:=hn (k+1) (by omega);simpa using this]
theorem Qbn{l:List Nat}{a c:Nat}{r:List Nat}(h:l.drop a=40::r)(hc:c≠40):
  (c∉r/\kn (tx l) (tx [c]) (a:Int)= -1)\/(c∈r/\kn (tx l) (tx [c]) (a:Int)=((a+1+(r.takeWhile (· !=c)).length:Nat):Int)):=by
 have hd:∀i,l[a+i]? =(40::r)[i]? :=fun i=>by rw[←h,List.getElem?_drop]
 unfold kn;rw[ye];rcases occ_head_from (tx l) (tx [c]) a 1 (uq _)with⟨h1,h2⟩|⟨i,t,h1,h2,h3,h4⟩
 ·refine .inl ⟨fun hm=>?_,by rw[h1]⟩;obtain⟨j,hj⟩:=List.mem_iff_getElem?.mp hm;refine h2 (a+(j+1)) (by omega) ((subAt_one (tx l) c _).mpr ?_);show l[a+(j+1)]? =some c;rw[hd];exact hj
 ·have hi:l[i]? =some c:=(subAt_one (tx l) c i).mp h3;obtain⟨k,rfl⟩:∃k,i=a+k:=⟨i-a,by omega⟩;rw[hd]at hi;cases k with
  |zero=>exact absurd (by simpa using hi) (Ne.symm hc)
  |succ k=>
   have hk:r[k]? =some c:=by simpa using hi
   have e:=Qd9 (l:=r) (c:=c) (i:=k) hk fun m hm z=>h4 (a+(m+1)) (by omega) (by omega) ((subAt_one (tx l) c _).mpr (by show l[a+(m+1)]? =some c;rw[hd];exact z));refine .inr ⟨List.mem_iff_getElem?.mpr ⟨k,hk⟩,?_⟩;have hkl:=(List.getElem?_eq_some_iff.mp hk).1;rw[h1,e,uB,Nat.min_eq_left (by omega)];show((a+(k+1):Nat):Int)=_
   congr 1
   omega
theorem zW(l:List Nat){a b:Nat}(h:b<a)(hl:1<=l.length):sliceText (tx l) (some (a:Int)) (some (b:Int))=tx []:=by
 have e3:strSliceIndices (some (a:Int)) (some (b:Int)) 1 (tx l).length=[]:=by
  rw[Qq];unfold strSliceIndices;have h1:¬ ((a:Int)<0):=by omega
  have h2:¬ ((b:Int)<0):=by omega
  have h3:max (0:Int) (min (a:Int) (l.length:Int))≥max (0:Int) (min (b:Int) (l.length:Int)):=by omega
  simp only[h1,h2,if_false,show((1:Int)>0)=True from by simp,if_true];unfold sliceRange;simp;omega
 unfold sliceText;rw[e3]
 split
 ·rename_i h1;have:l.length=0:=by
   have h2:(0==(tx l).length)=true:=by simpa using h1
   rw[Qq]at h2;have:=beq_iff_eq.mp h2;omega
  omega
 ·rfl
noncomputable def Qau(x:Rw):HO:=.tup [.str (tx [x.1]),.int (x.2:Nat)]
inductive Rws (H:Hp):List Addr->List Rw->Prop where
 |nil:Rws H [] []
 |cons {r:Addr} {rs:List Addr} {x:Rw} {xs:List Rw}:H r=some (Qau x)->Rws H rs xs->Rws H (r::rs) (x::xs)
section
variable {H H':Hp}{rs:List Addr}{rows:List Rw}
theorem Rws.len(h:Rws H rs rows):rs.length=rows.length:=by
 induction h with
 |nil=>rfl
 |cons _ _ ih=>rw[uw,uw,ih]
theorem Rws.keep(h:Rws H rs rows)(e:∀b xs,H b=some (.tup xs)->H' b=some (.tup xs)):Rws H' rs rows:=by
 induction h with
 |nil=>exact .nil
 |cons a _ ih=>exact .cons (e _ _ a) ih
theorem Rws.at(h:Rws H rs rows):∀{i:Nat}{x:Rw},rows[i]? =some x->∃r,rs[i]? =some r/\H r=some (Qau x):=by
 induction h with
 |nil=>intro i x e;cases e
 |cons a _ ih=>
  intro i x e;cases i with
  |zero=>exact⟨_,rfl,by have:_=x:=ur e;rw[←this];exact a⟩
  |succ i=>exact ih (i:=i) (x:=x) e
theorem Rws.app(h:Rws H rs rows){r:Addr}{x:Rw}(e:H r=some (Qau x)):Rws H (rs++[r]) (rows++[x]):=by
 induction h with
 |nil=>exact .cons e .nil
 |cons a _ ih=>exact .cons a ih
theorem Rws.dr(h:Rws H rs rows):∀k,Rws H (rs.drop k) (rows.drop k):=by
 induction h with
 |nil=>intro k;rw[List.drop_nil,List.drop_nil];exact .nil
 |cons a t ih=>
  intro k;cases k with
  |zero=>exact .cons a t
  |succ k=>exact ih k
end
structure RowsAt(K:PySem.W.Frag)(H:Hp)(p:Addr)(rs:List Addr)(rows:List Rw):Prop where
 sq:SqL K H p (rs.map V.ref)
 rw:Rws H rs rows
 le:rows.length<=600
section
variable {K:PySem.W.Frag}{H H':Hp}{p:Addr}{rs:List Addr}{rows:List Rw}{σ:L2.St}{i j k:Nat}{Q:VK}
theorem SqL.same{K:PySem.W.Frag}{H H':Hp}{a:Addr}{xs:List V}(e:Qk H H')(h:SqL K H a xs):SqL K H' a xs:=by
 rcases h with(h|⟨o,h⟩)|h
 ·exact .inl (.inl (e _ _ h))
 ·exact .inl (.inr ⟨o,e _ _ h⟩)
 ·exact .inr h
theorem RowsAt.same(R:RowsAt K H p rs rows)(e:Qk H H'):RowsAt K H' p rs rows:=⟨SqL.same e R.sq,R.rw.keep fun b xs h=>e _ _ h,R.le⟩
theorem RowsAt.len(R:RowsAt K H p rs rows):(rs.map V.ref).length=rows.length:=by rw[uk,R.rw.len]
theorem RowsAt.at(R:RowsAt K H p rs rows){x:Rw}(e:rows[k]? =some x):∃r,atI (rs.map V.ref) (k:Int)=some (.ref r)/\H r=some (Qau x):=by
 obtain⟨r,h1,h2⟩:=R.rw.at e;exact⟨r,QK (by rw[uE,h1];rfl),h2⟩
theorem UC{te:TE}(h1:σ[i]? =some (some (.ref p)))(h2:∀Q:VK,Q (.int (k:Nat)) H->te σ H Q) (R:RowsAt K H p rs rows) {x:Rw} (e:rows[k]? =some x) (q:∀r,H r=some (Qau x)->Q (.ref r) H):tOp (Qdx K) (Xa i) te σ H Q:=by
 obtain⟨r,a,b⟩:=R.at e;exact⟨_,h1,h2 _ ⟨p,_,_,_,rfl,rfl,R.sq,a,q r b⟩⟩
theorem Xh{te:TE}(h1:σ[i]? =some (some (.ref p)))(h2:∀Q:VK,Q (.int (k:Nat)) H->te σ H Q) (R:RowsAt K H p rs rows) {x:Rw} (e:rows[k]? =some x) (q:Q (.str (tx [x.1])) H):tOp (QdS K) (tOp (Qdx K) (Xa i) te) (tC (.int 0)) σ H Q:=
 UC h1 h2 R e fun r b=>⟨r,_,_,_,rfl,rfl,SqT.of b,rfl,q⟩
theorem Qav{te:TE}(h1:σ[i]? =some (some (.ref p)))(h2:∀Q:VK,Q (.int (k:Nat)) H->te σ H Q) (R:RowsAt K H p rs rows) {x:Rw} (e:rows[k]? =some x) (q:Q (.int (x.2:Nat)) H):tOp (QdS K) (tOp (Qdx K) (Xa i) te) (tC (.int 1)) σ H Q:=
 UC h1 h2 R e fun r b=>⟨r,_,_,_,rfl,rfl,SqT.of b,rfl,q⟩
theorem Zh(h1:σ[i]? =some (some (.ref p)))(R:RowsAt K H p rs rows)(q:Q (.int (rows.length:Nat)) H):tCB (fun xs H Q=>∃p ys,xs=[.ref p]/\(SqL K H p ys\/SqT K H p ys)/\Q (.int ys.length) H) (Ja (Xa i) WO) σ H Q:=
 ⟨_,h1,p,_,rfl,.inl R.sq,by rw[R.len];exact q⟩
theorem JI(h:σ[i]? =some (some (.int (k:Nat)))):∀Q:VK,Q (.int (k:Nat)) H->Xa i σ H Q:=fun Q q=>⟨_,h,q⟩
end
theorem UD(l:List Nat):Txt.join "" (l.map fun c=>tx [c])=tx l:=by
 show Builtin.Str.glued _ _=_;rw[StrLaws.glued_eq_join];have e:("":Str)=⟨#[]⟩:=by decide+kernel
 rw[e];exact join_ones l
theorem yf:∀(l:List Nat)(n:Nat),(l.map fun c=>tx [c]).foldl (fun(m:Nat)(s:Str)=>m+s.length+("":Str).length) n=n+l.length:=by
 have e:("":Str).length=0:=by decide+kernel
 intro l
 induction l with
 |nil=>intro n;rfl
 |cons a r ih=>
  intro n;show(r.map fun c=>tx [c]).foldl _ (n+(tx [a]).length+("":Str).length)=_;rw[ih,e,Qq,uw,uw,List.length_nil];omega
theorem kx{l:List Nat}(h:l.length<=1000):JoinOk "" (l.map fun c=>tx [c])=true:=by
 unfold JoinOk;rw[←Array.foldl_toList,List.toList_toArray,yf];unfold tooLong;have hz:1000<=sizeLine:=by decide
 rw[um (by omega)];rfl
noncomputable def top(i:Nat):Stmt:=PySem.Challenge.pw_boxmoves_k42_layout_texts.main.body.getD i (.Pass ⟨0,0,0,0⟩)
noncomputable abbrev Yr:Stmt:=top 19
theorem Km:FnScope ["many","power","turn"] ["many"] (Qf Yr):=⟨rfl,rfl,rfl,by decide+kernel,rfl,by decide+kernel,by decide+kernel⟩
noncomputable abbrev Xi:Stmt:=top 20
theorem Ys:FnScope ["text"] ["text"] (Qf Xi):=⟨rfl,rfl,rfl,by decide+kernel,rfl,by decide+kernel,by decide+kernel⟩
noncomputable abbrev X0:Stmt:=top 21
theorem J6:FnScope ["text","number","start","part"] ["text"] (Qf X0):=⟨rfl,rfl,rfl,by decide+kernel,rfl,by decide+kernel,by decide+kernel⟩
noncomputable abbrev Xj:Stmt:=top 22
theorem JJ:FnScope ["number","above","parts","part"] ["number"] (Qf Xj):=⟨rfl,rfl,rfl,by decide+kernel,rfl,by decide+kernel,by decide+kernel⟩
noncomputable abbrev Xk:Stmt:=top 33
theorem Yt:FnScope ["thing"] ["thing"] (Qf Xk):=⟨rfl,rfl,rfl,by decide+kernel,rfl,by decide+kernel,by decide+kernel⟩
noncomputable abbrev Kn:Stmt:=top 34
theorem KW:FnScope ["picture","rows","facts"] ["picture"] (Qf Kn):=⟨rfl,rfl,rfl,by decide+kernel,rfl,by decide+kernel,by decide+kernel⟩
noncomputable abbrev Zx:Stmt:=top 35
theorem ZY:FnScope ["picture","rows","facts"] ["picture"] (Qf Zx):=⟨rfl,rfl,rfl,by decide+kernel,rfl,by decide+kernel,by decide+kernel⟩
noncomputable abbrev W1:Stmt:=top 36
theorem JT:FnScope ["thing","rows","at","symbol","many"] ["thing"] (Qf W1):=⟨rfl,rfl,rfl,by decide+kernel,rfl,by decide+kernel,by decide+kernel⟩
noncomputable abbrev KY:Stmt:=top 37
theorem X1:FnScope ["text","at","end","number"] ["text","at"] (Qf KY):=⟨rfl,rfl,rfl,by decide+kernel,rfl,by decide+kernel,by decide+kernel⟩
noncomputable abbrev KZ:Stmt:=top 38
theorem ZZ:FnScope ["rows","facts"] ["rows"] (Qf KZ):=⟨rfl,rfl,rfl,by decide+kernel,rfl,by decide+kernel,by decide+kernel⟩
noncomputable abbrev ZD:Stmt:=top 39
theorem QR:FnScope ["rows","symbol","many","signed","behind_point","figures"] ["rows"] (Qf ZD):=⟨rfl,rfl,rfl,by decide+kernel,rfl,by decide+kernel,by decide+kernel⟩
noncomputable abbrev Z0:Stmt:=top 40
theorem ZE:FnScope ["rows","symbol","many"] ["rows"] (Qf Z0):=⟨rfl,rfl,rfl,by decide+kernel,rfl,by decide+kernel,by decide+kernel⟩
noncomputable abbrev ZF:Stmt:=top 41
theorem QC:FnScope ["rows","lead","start","place","many","nines","behind","end","tail","floats","shown","before"] ["rows"] (Qf ZF):=⟨rfl,rfl,rfl,by decide+kernel,rfl,by decide+kernel,by decide+kernel⟩
noncomputable abbrev W2:Stmt:=top 42
theorem Zm:FnScope ["rows","lead","at","choice"] ["rows"] (Qf W2):=⟨rfl,rfl,rfl,by decide+kernel,rfl,by decide+kernel,by decide+kernel⟩
noncomputable abbrev X2:Stmt:=top 43
theorem J7:FnScope ["rows","at","symbol","many","behind"] ["rows","at"] (Qf X2):=⟨rfl,rfl,rfl,by decide+kernel,rfl,by decide+kernel,by decide+kernel⟩
noncomputable abbrev W3:Stmt:=top 44
theorem JU:FnScope ["rows","at","place","many","nines","behind"] ["rows","at"] (Qf W3):=⟨rfl,rfl,rfl,by decide+kernel,rfl,by decide+kernel,by decide+kernel⟩
noncomputable abbrev Xl:Stmt:=top 45
theorem Jq:FnScope ["rows","at","place","many","nines"] ["rows","at"] (Qf Xl):=⟨rfl,rfl,rfl,by decide+kernel,rfl,by decide+kernel,by decide+kernel⟩
noncomputable abbrev X3:Stmt:=top 46
theorem Zy:FnScope ["rows","at","place","many"] ["rows","at","place"] (Qf X3):=⟨rfl,rfl,rfl,by decide+kernel,rfl,by decide+kernel,by decide+kernel⟩
noncomputable abbrev Z1:Stmt:=top 47
theorem ZG:FnScope ["rows","at","place","symbol","many"] ["rows","at","place"] (Qf Z1):=⟨rfl,rfl,rfl,by decide+kernel,rfl,by decide+kernel,by decide+kernel⟩
noncomputable abbrev W4:Stmt:=top 48
theorem V1:FnScope ["rows","at","tail"] ["rows","at"] (Qf W4):=⟨rfl,rfl,rfl,by decide+kernel,rfl,by decide+kernel,by decide+kernel⟩
noncomputable abbrev X4:Stmt:=top 53
theorem Zz:FnScope ["thing","layouts","left","items"] ["thing"] (Qf X4):=⟨rfl,rfl,rfl,by decide+kernel,rfl,by decide+kernel,by decide+kernel⟩
noncomputable abbrev K1:Stmt:=top 54
theorem Jz:FnScope ["layout","signs","left","items","times","item"] ["layout"] (Qf K1):=⟨rfl,rfl,rfl,by decide+kernel,rfl,by decide+kernel,by decide+kernel⟩
noncomputable abbrev W5:Stmt:=top 55
theorem JV:FnScope ["layout","rows","item","left","depth","plain","is_box"] ["layout"] (Qf W5):=⟨rfl,rfl,rfl,by decide+kernel,rfl,by decide+kernel,by decide+kernel⟩
noncomputable abbrev ky:Stmt:=top 56
theorem Qbo:FnScope ["item"] ["item"] (Qf ky):=⟨rfl,rfl,rfl,by decide+kernel,rfl,by decide+kernel,by decide+kernel⟩
noncomputable abbrev JW:Stmt:=top 57
theorem ZA:FnScope ["thing","names"] ["thing"] (Qf JW):=⟨rfl,rfl,rfl,by decide+kernel,rfl,by decide+kernel,by decide+kernel⟩
noncomputable abbrev W6:Stmt:=top 58
theorem zX:FnScope ["thing"] ["thing"] (Qf W6):=⟨rfl,rfl,rfl,by decide+kernel,rfl,by decide+kernel,by decide+kernel⟩
noncomputable abbrev ZH:Stmt:=top 59
theorem W7:FnScope ["thing"] ["thing"] (Qf ZH):=⟨rfl,rfl,rfl,by decide+kernel,rfl,by decide+kernel,by decide+kernel⟩
noncomputable abbrev JK:Stmt:=top 60
theorem X5:FnScope ["thing"] ["thing"] (Qf JK):=⟨rfl,rfl,rfl,by decide+kernel,rfl,by decide+kernel,by decide+kernel⟩
noncomputable abbrev W8:Stmt:=top 61
theorem zY:FnScope ["thing"] ["thing"] (Qf W8):=⟨rfl,rfl,rfl,by decide+kernel,rfl,by decide+kernel,by decide+kernel⟩
noncomputable abbrev K2:Stmt:=top 62
theorem qH:FnScope ["thing"] ["thing"] (Qf K2):=⟨rfl,rfl,rfl,by decide+kernel,rfl,by decide+kernel,by decide+kernel⟩
noncomputable abbrev JX:Stmt:=top 63
theorem Jj:FnScope ["items","under","item"] ["items"] (Qf JX):=⟨rfl,rfl,rfl,by decide+kernel,rfl,by decide+kernel,by decide+kernel⟩
noncomputable abbrev Z2:Stmt:=top 66
theorem VF:FnScope ["layout"] ["layout"] (Qf Z2):=⟨rfl,rfl,rfl,by decide+kernel,rfl,by decide+kernel,by decide+kernel⟩
noncomputable abbrev Zi:Stmt:=top 67
theorem XN:FnScope ["text","layout"] ["text"] (Qf Zi):=⟨rfl,rfl,rfl,by decide+kernel,rfl,by decide+kernel,by decide+kernel⟩
noncomputable abbrev X6:Stmt:=top 68
theorem Wj:FnScope ["depth","is_over","parts","words"] ["depth","is_over","parts"] (Qf X6):=⟨rfl,rfl,rfl,by decide+kernel,rfl,by decide+kernel,by decide+kernel⟩
noncomputable abbrev Z3:Stmt:=top 69
theorem Jf:FnScope ["lines","opened","line","depth","is_over","parts"] ["lines"] (Qf Z3):=⟨rfl,rfl,rfl,by decide+kernel,rfl,by decide+kernel,by decide+kernel⟩
noncomputable abbrev Xm:Stmt:=top 70
theorem Zj:FnScope ["opened","is_over","parts","items"] ["opened"] (Qf Xm):=⟨rfl,rfl,rfl,by decide+kernel,rfl,by decide+kernel,by decide+kernel⟩
noncomputable abbrev Xn:Stmt:=top 71
theorem Yu:FnScope ["is_over","item"] ["is_over","item"] (Qf Xn):=⟨rfl,rfl,rfl,by decide+kernel,rfl,by decide+kernel,by decide+kernel⟩
noncomputable abbrev K3:Stmt:=top 72
theorem Z4:FnScope ["line","words","is_over","parts"] ["line"] (Qf K3):=⟨rfl,rfl,rfl,by decide+kernel,rfl,by decide+kernel,by decide+kernel⟩
noncomputable abbrev X7:Stmt:=top 74
theorem J8:FnScope ["_law_script","_law_town","_law_many","_law_at","_law_rest","_law_number"] ["_law_script","_law_town","_law_many"] (Qf X7):=⟨rfl,rfl,rfl,by decide+kernel,rfl,by decide+kernel,by decide+kernel⟩
noncomputable abbrev Xo:Stmt:=top 75
theorem Yv:FnScope [] [] (Qf Xo):=⟨rfl,rfl,rfl,by decide+kernel,rfl,by decide+kernel,by decide+kernel⟩
noncomputable abbrev Xp:Stmt:=top 76
theorem Jc:FnScope ["_law_kept","_law_kinds","_law_found"] ["_law_kept"] (Qf Xp):=⟨rfl,rfl,rfl,by decide+kernel,rfl,by decide+kernel,by decide+kernel⟩
noncomputable abbrev Q5:Stmt:=top 77
theorem Jr:FnScope ["_law_deed","_law_kept","_law_found","e"] ["_law_deed"] (Qf Q5):=⟨rfl,rfl,rfl,by decide+kernel,rfl,by decide+kernel,by decide+kernel⟩
noncomputable abbrev JL:Stmt:=top 78
theorem Qx:FnScope ["_law_script","_law_town","_law_deep","_law_found","_law_under","_law_letters","_law_k","_law_turn","_law_name","_law_item","_law_size"] ["_law_script","_law_town","_law_deep"] (Qf JL):=⟨rfl,rfl,rfl,by decide+kernel,rfl,by decide+kernel,by decide+kernel⟩
noncomputable abbrev Jv:Stmt:=top 79
theorem JY:FnScope ["_law_item","_law_size"] ["_law_item"] (Qf Jv):=⟨rfl,rfl,rfl,by decide+kernel,rfl,by decide+kernel,by decide+kernel⟩
noncomputable abbrev Jg:Stmt:=top 80
theorem QM:FnScope ["_law_items","_law_deep","_law_found","_law_item","_law_plain","_law_words"] ["_law_items","_law_deep"] (Qf Jg):=⟨rfl,rfl,rfl,by decide+kernel,rfl,by decide+kernel,by decide+kernel⟩
noncomputable abbrev Wn:Stmt:=top 81
theorem JM:FnScope ["_law_script","_law_town","_law_items","_law_rows","_law_k","_law_at","_law_sign","_law_where_so","_law_others","_law_few","_law_twice","_law_told","_law_bad","_law_big","_law_line","_law_other"] ["_law_script"] (Qf Wn):=⟨rfl,rfl,rfl,by decide+kernel,rfl,by decide+kernel,by decide+kernel⟩
section
variable {P:Program}{w:World}{K:PySem.W.Frag}{mg:Str->Option Value}{base:Heap}{f:Addr}{fd:FuncData}{tk:Nat->Tok}{c kr:Nat->Addr}
noncomputable def yg:Sp:=fun vs H Q _=>∃m:Int,vs=[.int m]/\ -(2^62)<=m/\m<2^62/\Q (.int (K01.ten m)) H
theorem kz(F:Fun K "ten_to" "ten_to" Yr f fd)(O:Own mg):FnOk P w K mg base (CXE P w) 1 f fd ["many"] yg:=by
 refine okN F Km (fun vs H Q E h=>?_) (fun cdv A outer s H vs Q E hr h=>?_)
 ·obtain⟨m,rfl,_⟩:=h;rfl
 ·obtain⟨m,rfl,h1,h2,k⟩:=h;refine⟨_,(Qe (QE (i:=1) Km.nd rfl (Or.inl rfl) Qd)
   (Qe (VP PassesOwn.never rfl (WL rfl O.range (Qb (pv 0) Qc)) (Qm (i:=2) Km.nd rfl (Or.inl rfl)) (Qh (QE (i:=1) Km.nd rfl (Or.inl rfl) (QP jE (pv 1) Qd))))
   (Qh (QD (pv 1))))),?_⟩
  refine⟨_,rfl,m,rfl,h1,h2,Uf (n:=m.toNat) (fun i σ H2=>∃v,σ=[some (.int m),some (.int (10^i)),v]/\H2=H) ⟨none,rfl,rfl⟩ ?_ ?_⟩
  ·rintro i σ H2 hi ⟨v,rfl,rfl⟩;refine⟨_,rfl,_,_,rfl,rfl,.inr ⟨by decide,by decide⟩,?_⟩;exact⟨_,by rw[Int.pow_succ];rfl,rfl⟩
  ·rintro σ H2 ⟨v,rfl,rfl⟩;exact⟨_,rfl,k⟩
theorem kA{m:Int}(h:m<=40):(K01.ten m).natAbs<2^200:=by
 have h1:=K01.QcJ (a:=m) (b:=40) h (by decide);have h2:=K01.Yp m;have h3:K01.ten 40<2^200:=by decide
 omega
theorem big{a:Int}(h:a.natAbs<2^200):a.natAbs<2^2000:=Nat.lt_of_lt_of_le h (by decide)
structure Txt(K:PySem.W.Frag)(mg:Str->Option Value)(tk:Nat->Tok)(c kr:Nat->Addr):Prop where
 pS:mg "BoxError"=some (.ref (c 0))
 pD:mg "NoPicture"=some (.ref (c 1))
 rl:mg "NoRoom"=some (.ref (c 2))
 pH:mg "NoQuotient"=some (.ref (c 3))
 pM:mg "NoText"=some (.ref (c 4))
 pN:mg "NoFigures"=some (.ref (c 5))
 pO:mg "NoLetters"=some (.ref (c 6))
 rm:mg "NoMove"=some (.ref (c 7))
 rn:mg "NoPath"=some (.ref (c 8))
 pT:mg "NoAmount"=some (.ref (c 9))
 rh:mg "NoGroup"=some (.ref (c 10))
 rj:mg "BadSize"=some (.ref (c 11))
 rp:mg "NoBack"=some (.ref (c 12))
 rq:mg "BadRow"=some (.ref (c 13))
 rA:mg "Closed"=some (.ref (c 14))
 mx:mg "FIGURES"=some (.str "0123456789" (tk 0))
 mT:mg "PART"=some (.int 18 (tk 1))
 gL:mg "INSERTED"=some (.str ",B0/" (tk 2))
 nK:mg "SIGNS"=some (.str "+-" (tk 3))
 gM:mg "FLOATING"=some (.str "+-$" (tk 4))
 mU:mg "PLACES"=some (.str "9Z*+-$" (tk 5))
 gc:mg "MOST_FIGURES"=some (.int 18 (tk 6))
 gD:mg "MOST_SIGNS"=some (.int 60 (tk 7))
 gg:mg "SMALL_LETTERS"=some (.str "abcdefghijklmnopqrstuvwxyz" (tk 8))
 gj:mg "LONGEST_NAME"=some (.int 12 (tk 9))
 my:mg "INDENT"=some (.str "  " (tk 11))
 gE:mg "MOST_TIMES"=some (.int 30 (tk 10))
 gk:mg "NUMBER_FORMS"=some (.ref (kr 0))
 ng:mg "SHOWN"=some (.ref (kr 1))
 gh:mg "PLAIN_KINDS"=some (.ref (kr 2))
 ub:∀H,SqT K H (kr 0) [.str "9",.str "S9",.str "V9",.str "SV9",.str "9V9",.str "S9V9"]
 nh:∀H,SqT K H (kr 1) [.str "+",.str "-",.str "CR",.str "DB"]
 pP:Err K (c 1)
 rB:Err K (c 4)
 pQ:kitOne K (.type "str") (.type "str")=some true
 pR:kitOne K (.type "int") (.type "str")=some false
 uh:kitOne K (.type "NoneType") (.type "str")=some false
 ui:kitOne K (.type "tuple") (.type "str")=some false
noncomputable def UE:List (Key × V):=[(Sum.inr "X",.str "text"),(Sum.inr "A",.str "letters")]
noncomputable def Yw:Sp:=fun vs H Q _=>∃z:Str,vs=[.str z]/\z.length<=1000/\Q (.bl (decide (z.cps.toList≠[]/\NumText.AllDigits z.cps.toList))) H
theorem W9(z:Str):decide (V.str z=V.str "")=decide (z.cps.toList=[]):=by
 have e:("":Str)=tx []:=by decide+kernel
 rw[e]
 by_cases h:z.cps.toList=[]
 ·rw[uo h,uo];rw[ZC z,h]
 ·rw[um h,um];intro q;exact h (by rw[V.str.inj q])
theorem kB(z:Str):decide (V.str (Txt.stripChars z "0123456789")=V.str "")=decide (NumText.AllDigits z.cps.toList):=by
 rw[W9, ←kw z.cps.toList];have e:tx z.cps.toList=z:=(ZC z).symm;rw[e]
 by_cases h:(Txt.stripChars z "0123456789").cps.toList=[]
 ·rw[uo h,uo];rw[ZC (Txt.stripChars _ _),h];rfl
 ·rw[um h,um];intro q;exact h (by rw[q];rfl)
theorem Yx(F:Fun K "is_figures" "is_figures" Xi f fd)(T:Txt K mg tk c kr):FnOk P w K mg base (CXE P w) 1 f fd ["text"] Yw:=by
 refine okN F Ys (fun vs H Q E h=>?_) (fun cdv A outer s H vs Q E hr h=>?_)
 ·obtain⟨z,rfl,_⟩:=h;rfl
 ·obtain⟨z,rfl,hl,k⟩:=h;refine⟨_,(Qh (QD (ZK (Q9 Kd (pv 0) Qg (Qo _)) (XI (Q9 QZ (JQ plainAttrs_str slot_str_strip type_str_strip jP (pv 0) (Qb (QB (v:=V.str "0123456789") rfl T.mx ⟨_,rfl⟩) Qc)) Qg (Qo _)))))),?_⟩;refine⟨_,rfl,rfl,_,rfl,?_⟩;refine ifB (fun h=>?_) (fun h=>?_)
  ·refine⟨_,rfl,rfl,z,"0123456789",rfl,rfl,Nat.le_trans hl (by decide),rfl,?_⟩;rw[W9]at h;refine Eq.mp (congrArg (fun b=>Q (.bl b) H) ?_) k;rw[kB];have hne:z.cps.toList≠[]:=fun q=>by rw[uo q]at h;cases h
   by_cases hd:NumText.AllDigits z.cps.toList
   ·rw[uo hd,uo ⟨hne,hd⟩]
   ·rw[um hd,um fun q=>hd q.2]
  ·rw[W9]at h;have hne:z.cps.toList=[]:=by
    by_cases q:z.cps.toList=[]
    ·exact q
    ·rw[um q]at h;cases h
   refine Eq.mp (congrArg (fun b=>Q (.bl b) H) ?_) k;exact um fun q=>q.1 hne
noncomputable def yh:Sp:=fun vs H Q _=>∃z:Str,vs=[.str z]/\NumText.AllDigits z.cps.toList/\1<=z.length/\z.length<=500/\Q (.int (NumText.digitsVal z.cps.toList:Nat)) H
theorem UF(F:Fun K "number_of" "number_of" X0 f fd)(O:Own mg)(T:Txt K mg tk c kr)(mz:Def P w K mg base 1 "ten_to" ["many"] yg):FnOk P w K mg base (CXE P w) 2 f fd ["text"] yh:=by
 refine okN F J6 (fun vs H Q E h=>?_) (fun cdv A outer s H vs Q E hr h=>?_)
 ·obtain⟨z,rfl,_⟩:=h;rfl
 ·obtain⟨z,rfl,hd,h1,h2,k⟩:=h;have hll:=len_list z;refine⟨_,(Qe (QE (i:=1) J6.nd rfl (Or.inl rfl) Qd)
   (Qe (VP PassesOwn.never rfl (km rfl O.range (Qb Qd (Qb (Qj Q4 rfl O.len PySem.boot_len (Qb (pv 0) Qc)) (Qb (QB (v:=V.int 18) rfl T.mT ⟨_,rfl⟩) Qc)))) (Qm (i:=2) J6.nd rfl (Or.inl rfl)) (Qe (QE (i:=3) J6.nd rfl (Or.inl rfl) (QS XM (pv 0) (QX (pv 2)) (QX (QP Jd (pv 2) (QB (v:=V.int 18) rfl T.mT ⟨_,rfl⟩)))))
   (Qh (QE (i:=1) J6.nd rfl (Or.inl rfl) (QP Jd (QP qw (pv 1) (mz.pe hr (by decide) rfl Qu (Qb (Qj Q4 rfl O.len PySem.boot_len (Qb (pv 3) Qc)) Qc))) (J4 Yk rfl O.int PyProof.Rows.boot_int (Qb (pv 3) Qc)))))))
   (Qh (QD (pv 1))))),?_⟩
  have hn:Builtin.Range.rangeSize 0 (z.length:Int) 18=(((z.length-1)/18+1:Nat):Int):=by
   unfold Builtin.Range.rangeSize;rw[if_pos (by decide),if_pos (by omega)];omega
  refine⟨_,rfl,z,rfl,Nat.le_trans h2 (by decide),0,(z.length:Int),18,_,rfl,⟨by decide,by decide,by omega,by omega,by decide,by decide⟩,hn,zT (fun i σ H2=>∃x2 x3,σ=[some (.str z),some (.int (NumText.digitsVal (z.cps.toList.take (18*i)):Nat)),x2,x3]/\H2=H) ⟨none,none,rfl,rfl⟩ ?_ ?_⟩
  ·rintro i σ H2 hi ⟨x2,x3,rfl,rfl⟩;have hi18:18*i<z.length:=by omega
   have hs:StrLaws.sliceText z (some (0+(i:Int)*18)) (some (0+(i:Int)*18+18))=tx ((z.cps.toList.drop (18*i)).take 18):=by
    have e1:(0+(i:Int)*18)=((18*i:Nat):Int):=by omega
    have e2:(0+(i:Int)*18+18)=((18*i+18:Nat):Int):=by omega
    rw[e2,e1];have:=Kk z.cps.toList (a:=18*i) (b:=18*i+18) (by omega) (by omega);rw[←ZC z,show 18*i+18-18*i=18 by omega]at this;exact this
   refine⟨_,rfl,_,rfl,_,rfl,_,rfl,_,_,rfl,rfl,_,rfl,z,rfl,Nat.le_trans h2 (by decide),?_⟩;rw[hs];have hpd:NumText.AllDigits ((z.cps.toList.drop (18*i)).take 18):=fun c hc=>hd c (List.mem_of_mem_drop (List.mem_of_mem_take hc));have hpl:((z.cps.toList.drop (18*i)).take 18).length<=18:=by rw[uB];omega
   have hp1:1<=((z.cps.toList.drop (18*i)).take 18).length:=by rw[uB,uC];omega
   have htk:z.cps.toList.take (18*(i+1))=z.cps.toList.take (18*i)++(z.cps.toList.drop (18*i)).take 18:=by rw[show 18*(i+1)=18*i+18 by omega,List.take_add]
   generalize (z.cps.toList.drop (18*i)).take 18=pl at hpd hpl hp1 htk;have htl:=Qq pl;have hv0:=Qat (l:=z.cps.toList.take (18*i)) fun c hc=>hd c (List.mem_of_mem_take hc);have hv1:NumText.digitsVal (z.cps.toList.take (18*i))<10^500:=Nat.lt_of_lt_of_le hv0 (Nat.pow_le_pow_right (by decide) (by rw[uB];omega));refine⟨_,rfl,_,rfl,tx pl,rfl,by rw[htl];exact Nat.le_trans hpl (by decide),_,rfl,by omega,by omega,_,_,rfl,rfl,⟨Nat.lt_trans hv1 (by decide),big (kA (by omega))⟩,?_⟩;refine⟨_,rfl,tx pl,_,rfl,PySem.intText_digits hpd (fun q=>by rw[qG]at q;rw[q]at hp1;exact absurd hp1 (by decide)) (by rw[htl];omega),by rw[htl];omega,_,_,rfl,rfl,?_⟩;have et:K01.ten (((tx pl).length:Nat):Int)=((10^pl.length:Nat):Int):=by
    unfold K01.ten;rw[uS,htl];push_cast;rfl
   have key:((NumText.digitsVal (z.cps.toList.take (18*i)):Nat):Int)*K01.ten (((tx pl).length:Nat):Int)+((NumText.digitsVal (tx pl).cps.toList:Nat):Int)=((NumText.digitsVal (z.cps.toList.take (18*(i+1))):Nat):Int):=by
    rw[htk,kq,et,qG];push_cast;rfl
   refine⟨some (.int (0+(i:Int)*18)),some (.str (tx pl)),?_,rfl⟩;rw[←key];rfl
  ·rintro σ H2 ⟨x2,x3,rfl,rfl⟩;refine⟨_,rfl,?_⟩;rw[List.take_of_length_le (by omega)];exact k
end
section
variable {P:Program}{w:World}{K:PySem.W.Frag}{mg:Str->Option Value}{base:Heap}{f:Addr}{fd:FuncData}{tk:Nat->Tok}{c kr:Nat->Addr}
noncomputable def qI:Sp:=fun vs H Q _=>∃(l:List Nat)(a:Nat),vs=[.str (tx l),.int (a:Nat)]/\l.length<=500/\a<=l.length/\∀b,a<=b->b<=l.length->(Q1 (l.drop a)).2=l.drop b->∀q,H q=none->Q (.ref q) (upd H q (.tup [.int ((Q1 (l.drop a)).1:Nat),.int (b:Nat)]))
theorem jR{t:List Nat}(h:t.take 1≠[40]):Q1 t=(1,t):=by
 unfold Q1
 split
 ·exact absurd rfl h
 ·rfl
theorem UG{r:List Nat}(h:¬ (41∈r/\r.takeWhile (· !=41)≠[]/\NumText.AllDigits (r.takeWhile (· !=41))/\(r.takeWhile (· !=41)).head?≠some 48)):Q1 (40::r)=(1,40::r):=if_neg h
theorem V2{r:List Nat}(h:41∈r/\r.takeWhile (· !=41)≠[]/\NumText.AllDigits (r.takeWhile (· !=41))/\(r.takeWhile (· !=41)).head?≠some 48):Q1 (40::r)=(NumText.digitsVal (r.takeWhile (· !=41)),r.drop ((r.takeWhile (· !=41)).length+1)):=if_pos h
theorem UH(a:Nat):(a:Int)+1=((a+1:Nat):Int):=by omega
theorem qJ(F:Fun K "times_at" "times_at" KY f fd)(O:Own mg)(T:Txt K mg tk c kr)(gr:Def P w K mg base 1 "is_figures" ["text"] Yw)(gC:Def P w K mg base 2 "number_of" ["text"] yh):
  FnOk P w K mg base (CXE P w) 3 f fd ["text","at"] qI:=by
 refine okN F X1 (fun vs H Q E h=>?_) (fun cdv A outer s H vs Q E hr h=>?_)
 ·obtain⟨l,a,rfl,_⟩:=h;rfl
 ·obtain⟨l,a,rfl,hl,ha,k⟩:=h;have hz:1000<=sizeLine:=by decide
  have htl:=Qq l;have e40:("(":Str)=tx [40]:=by decide+kernel
  have e41:(")":Str)=tx [41]:=by decide+kernel
  have e48:("0":Str)=tx [48]:=by decide+kernel
  refine⟨_,(Qe (Jh (Ql Kd (QS XM (pv 0) (QX (pv 1)) (QX (QP Jd (pv 1) Qd))) Qg (Qo _)) (Qh (QD (QO (Qb Qd (Qb (pv 1) Qc))))) QI)
   (Qe (QE (i:=2) X1.nd rfl (Or.inl rfl) (JQ plainAttrs_str slot_str_find type_str_find v8 (pv 0) (Qb Qg (Qb (pv 1) Qc))))
   (Qe (QE (i:=3) X1.nd rfl (Or.inl rfl) (QS XM (pv 0) (QX (QP Jd (pv 1) Qd)) (QX (Qj (xI rfl) rfl O.max PyProof.Rows.boot_max (Qb (pv 2) (Qb (pv 1) Qc))))))
   (Qe (Jh (PW.pt (ZS (Z5 (Zp (gr.pe hr (by decide) rfl Qu (Qb (pv 3) Qc)))) (J3 (Zp (JQ plainAttrs_str slot_str_startswith type_str_startswith Yn (pv 3) (Qb Qg Qc)))))) (Qh (QD (QO (Qb Qd (Qb (pv 1) Qc))))) QI)
   (Qh (QD (QO (Qb (gC.pe hr (by decide) rfl Qu (Qb (pv 3) Qc)) (Qb (QP Jd (pv 2) Qd) Qc))))))))),?_⟩
  refine⟨_,rfl,_,rfl,_,rfl,_,rfl,_,_,rfl,rfl,_,rfl,tx l,rfl,by omega,?_⟩;rw[UH,Kk l (a:=a) (b:=a+1) ha (by omega),show a+1-a=1 by omega];refine⟨rfl,_,rfl,?_⟩;have stop:Q1 (l.drop a)=(1,l.drop a)->∀q,H q=none->Q (.ref q) (upd H q (.tup [.int 1,.int (a:Nat)])):=fun e q hq=>by
   have:=k a (uq _) ha (by rw[e]) q hq;rw[e]at this;exact this
  rw[e40,Yq];refine ifB (fun h1=>?_) (fun h1=>?_)
  ·refine⟨_,rfl,sL2,stop (jR fun e=>?_)⟩;rw[e]at h1;cases h1
  have h2:(l.drop a).take 1=[40]:=by
   by_cases e:(l.drop a).take 1=[40]
   ·exact e
   ·rw[um e]at h1;cases h1
  obtain⟨r,hr0⟩:∃r,l.drop a=40::r:=by
   cases e:l.drop a with
   |nil=>rw[e]at h2;cases h2
   |cons b r=>
    rw[e]at h2;have:b=40:=(List.cons.inj h2).1;exact⟨r,by rw[this]⟩
  have hrl:l.length=a+(r.length+1):=by
   have:=congrArg List.length hr0;rw[uC,uw]at this;omega
  have stopB:¬ (41∈r/\r.takeWhile (· !=41)≠[]/\NumText.AllDigits (r.takeWhile (· !=41))/\(r.takeWhile (· !=41)).head?≠some 48)->∀q,H q=none->Q (.ref q) (upd H q (.tup [.int 1,.int (a:Nat)])):=fun z=>stop (by rw[hr0];exact UG z);refine⟨_,rfl,rfl,_,rfl,tx l,")",(a:Int),rfl,rfl,?_⟩;rw[e41];have hfind:=Qbn (c:=41) hr0 (by decide);generalize kn (tx l) (tx [41]) (a:Int)=e at hfind;refine⟨_,rfl,_,rfl,_,_,rfl,rfl,_,rfl,_,rfl,_,rfl,_,_,rfl,_,rfl,tx l,rfl,by omega,?_⟩;rw[UH];rcases hfind with⟨hno,rfl⟩|⟨hin,rfl⟩
  ·have es:StrLaws.sliceText (tx l) (some ((a+1:Nat):Int)) (some (if(a:Int)> -1 then(a:Int)else-1))=tx []:=by
    rw[if_pos (by omega)];exact zW l (by omega) (by omega)
   rw[es];refine⟨_,rfl,tx [],rfl,by rw[Qq];decide,_,rfl,?_⟩;refine ifB (fun _=>?_) (fun q=>?_)
   ·exact⟨_,rfl,sL2,stopB fun q=>hno q.1⟩
   ·have:decide ((tx []).cps.toList≠[]/\NumText.AllDigits (tx []).cps.toList)=false:=um fun z=>z.1 rfl;rw[this]at q;cases q
  ·generalize hn:r.takeWhile (· !=41)=n;have hnl:n.length<=r.length:=by rw[←hn];exact(List.takeWhile_sublist _).length_le
   have hnr:n.length<r.length:=by
    rcases Nat.lt_or_ge n.length r.length with h|h
    ·exact h
    ·have e:n=r:=by rw[←hn]at h ⊢;exact(List.takeWhile_sublist _).eq_of_length_le h
     rw[←e, ←hn]at hin;have:=ku hin;simp at this
   have htk:r.take n.length=n:=by
    have:=List.takeWhile_append_dropWhile (p:=(· !=41)) (l:=r);rw[hn]at this;rw[←this,List.take_left]
   have es:StrLaws.sliceText (tx l) (some ((a+1:Nat):Int)) (some (if(a:Int)>((a+1+n.length:Nat):Int)then(a:Int)else((a+1+n.length:Nat):Int)))=tx n:=by
    rw[if_neg (by omega),Kk l (by omega) (by omega),show a+1+n.length-(a+1)=n.length by omega];have:l.drop (a+1)=r:=by rw[←List.drop_drop,hr0];rfl
    rw[this,htk]
   rw[es];have hnt:=Qq n;refine⟨_,rfl,tx n,rfl,by omega,_,rfl,?_⟩;refine ifB (fun q=>?_) (fun q=>?_)
   ·refine⟨_,rfl,sL2,stopB fun z=>?_⟩;rw[hn]at z;have:decide ((tx n).cps.toList≠[]/\NumText.AllDigits (tx n).cps.toList)=true:=uo ⟨z.2.1,z.2.2.1⟩;rw[this]at q;cases q
   have hfg:n≠[]/\NumText.AllDigits n:=by
    by_cases z:n≠[]/\NumText.AllDigits n
    ·exact z
    ·have:decide ((tx n).cps.toList≠[]/\NumText.AllDigits (tx n).cps.toList)=false:=um z;rw[this]at q;cases q
   refine⟨_,rfl,rfl,tx n,"0",rfl,rfl,trivial,_,rfl,?_⟩;rw[e48,yd];refine ifB (fun q2=>?_) (fun q2=>?_)
   ·refine⟨_,rfl,sL2,stopB fun z=>?_⟩;rw[hn]at z;exact z.2.2.2 (by simpa using q2)
   have hgood:41∈r/\r.takeWhile (· !=41)≠[]/\NumText.AllDigits (r.takeWhile (· !=41))/\(r.takeWhile (· !=41)).head?≠some 48:=by
    rw[hn];exact⟨hin,hfg.1,hfg.2,by simpa using q2⟩
   have hn1:1<=n.length:=by cases n with|nil=>exact absurd rfl hfg.1|cons=>simp
   refine⟨_,rfl,tx n,rfl,hfg.2,by omega,by omega,_,rfl,_,_,rfl,rfl,sL2,fun p hp=>?_⟩;have et:=V2 hgood;rw[hn]at et;have:=k (a+1+n.length+1) (by omega) (by omega) (by
    rw[hr0,et];show r.drop (n.length+1)=_;have e1:l.drop (a+1)=r:=by rw[←List.drop_drop,hr0];rfl
    rw[←e1,List.drop_drop]
    congr 1) p hp
   rw[hr0,et]at this;exact this
noncomputable def Qea(v:V)(H:Hp):Prop:=v=.non\/(∃i,v=.int i)\/∃a xs,v=.ref a/\H a=some (.tup xs)
noncomputable def jS(K:PySem.W.Frag):Sp:=fun vs H Q _=>∃(v:V)(rows:List Rw),vs=[v]/\((∃l,v=.str (tx l)/\l.length<=500/\rows=rowsOf l)\/(Qea v H/\rows=[]))/\∀p rs H',Qk H H'->RowsAt K H' p rs rows->Q (.ref p) H'
theorem yi(t:List Nat):(Q1 t).2.length<=t.length:=by
 unfold Q1
 split
 ·split
  ·show(List.drop _ _).length<=_;rw[uC,uw];omega
  ·exact uq _
 ·exact uq _
theorem jT{c:TT}{t u:TS}{D:Ends}{σ:L2.St}{H:Hp}(Good:L2.St->Hp->Prop)(rest:∀σ' H',Good σ' H'->u D σ' H') (h:(∀σ' H',Good σ' H'->u D σ' H')->c σ H fun b H1=>if b=true then t {D with nx:=u D} σ H1 else u D σ H1):XX (qh c t QU) u D σ H:=h rest
theorem Rws.last{H:Hp}{rs:List Addr}{rows:List Rw}(h:Rws H rs rows):(rs=[]/\rows=[])\/∃rs' r rows' x,rs=rs'++[r]/\rows=rows'++[x]/\Rws H rs' rows'/\H r=some (Qau x):=by
 induction h with
 |nil=>exact .inl ⟨rfl,rfl⟩
 |@cons r rs x xs a t ih=>
  rcases ih with⟨rfl,rfl⟩|⟨rs',r',rows',x',rfl,rfl,h1,h2⟩
  ·exact .inr ⟨[],r,[],x,rfl,rfl,.nil,a⟩
  ·exact .inr ⟨r::rs',r',x::rows',x',rfl,rfl,.cons a h1,h2⟩
theorem add_nil(c n:Nat):Z7 [] c n=[]++[(c,n)]:=rfl
theorem add_same(rows:List Rw)(c n m:Nat):Z7 (rows++[(c,m)]) c n=rows++[(c,n+m)]:=by
 unfold Z7;rw[List.getLast?_concat];simp
theorem kC{rows:List Rw}{c c' n m:Nat}(h:c'≠c):Z7 (rows++[(c',m)]) c n=(rows++[(c',m)])++[(c,n)]:=by
 unfold Z7;rw[List.getLast?_concat];simp[h]
theorem zZ(F:Fun K "rows_of" "rows_of" W1 f fd)(O:Own mg)(T:Txt K mg tk c kr)(nj:Def P w K mg base 3 "times_at" ["text","at"] qI):
  FnOk P w K mg base (CXE P w) 4 f fd ["thing"] (jS K):=by
 refine okN F JT (fun vs H Q E h=>?_) (fun cdv A outer s H vs Q E hr h=>?_)
 ·obtain⟨v,rows,rfl,_⟩:=h;rfl
 ·obtain⟨v,rows,rfl,hv,k⟩:=h;have hz:1000<=sizeLine:=by decide
  refine⟨_,(Qe (Jh (Z5 (Zp (Qj QL rfl O.isi PyProof.Rows.boot_isinstance (Qb (pv 0) (Qb (ZR (v:=V.ty "str") rfl O.str PyProof.Rows.boot_str rfl) Qc))))) (Qh (QD (Zw Qc))) QI)
   (Qe (QE (i:=1) JT.nd rfl (Or.inl rfl) (Zw Qc))
   (Qe (QE (i:=2) JT.nd rfl (Or.inl rfl) Qd)
   (Qe (Zf PassesOwn.never (Ql Ye (pv 2) (Qj Q4 rfl O.len PySem.boot_len (Qb (pv 0) Qc)) (Qo _)) (Qe (QE (i:=3) JT.nd rfl (Or.inl rfl) (Qw xO (pv 0) (pv 2) (fun _ _=>rfl)))
   (Qe (JB (nj.pe hr (by decide) rfl Qu (Qb (pv 0) (Qb (QP Jd (pv 2) Qd) Qc))) (JA rfl (Qn (Qm (i:=4) JT.nd rfl (Or.inl rfl)) (Qn (Qm (i:=2) JT.nd rfl (Or.inl rfl)) QV))))
   (Qe (Jh (PW.pt (ZJ (Ji (pv 1) (fun _=>rfl)) (Zq (Ql QZ (Qw Zr (Qw Q0 (pv 1) (KL ZL Qd) (fun _ _=>rfl)) Qd (fun _ _=>rfl)) (pv 3) (Qo _))))) (Qh (WK (i:=4) JT.nd rfl (Or.inl rfl) (Qw Zr (Uo plainAttrs_list slot_list_pop type_list_pop Uq (pv 1)) Qd (fun _ _=>rfl)) VO)) QI)
   (Qh (Jw (JQ plainAttrs_list PySem.F.slot_list_append PySem.F.type_list_append Jm (pv 1) (Qb (QO (Qb (pv 3) (Qb (pv 4) Qc))) Qc))))))))
   (Qh (QD (pv 1))))))),?_⟩
  rcases hv with⟨l,rfl,hl,rfl⟩|⟨hv,rfl⟩
  ·have htl:=Qq l;refine⟨_,rfl,.str (tx l),V.ty "str",true,rfl,rfl,.inl ⟨_,.str _,T.pQ⟩,true,rfl,?_⟩;refine QN ⟨sL0,fun p hp=>?_⟩;have S1:=Qk.new (o:=.lst []) hp;refine⟨fun m σ H2=>∃(a:Nat)(rs:List Addr)(rows:List Rw)(x3 x4:Option V)(kf:Nat),m=l.length-a/\a<=l.length/\σ=[some (.str (tx l)),some (.ref p),some (.int (a:Nat)),x3,x4]/\H2 p=some (.lst (rs.map V.ref))/\Rws H2 rs rows/\Qk H H2/\rows.length<=a/\(l.drop a).length<=kf/\rowsOf l=Kl kf (l.drop a) rows,⟨l.length,0,[],[],none,none,l.length,rfl,uQ _,rfl,Qa,.nil,S1,uq _,by simp,rfl⟩,?_⟩;rintro m σ H2 ⟨a,rs,rows,x3,x4,kf,rfl,hal,rfl,hp2,R2,S2,hra,hkf,hro⟩;refine⟨_,rfl,_,rfl,tx l,rfl,by omega,_,_,rfl,rfl,_,rfl,?_⟩;refine ifB (fun h1=>?_) (fun h1=>?_)
   ·have ha:a<l.length:=by have:=of_decide_eq_true h1;omega
    obtain⟨ch,hch⟩:∃ch,l[a]? =some ch:=⟨_,List.getElem?_eq_getElem ha⟩;have hdr:l.drop a=ch::l.drop (a+1):=by rw[List.drop_eq_getElem_cons ha];congr 1;rw[List.getElem?_eq_getElem ha]at hch;exact ur hch
    refine⟨_,fun _ _ h=>h,_,rfl,_,rfl,tx l,(a:Int),ch,rfl,rfl,by omega,QK hch,?_⟩;refine⟨_,rfl,_,rfl,_,_,rfl,rfl,l,a+1,rfl,hl,by omega,fun b hb1 hb2 hb3 q hq=>⟨q,_,rfl,SqT.of Qa,rfl,_,_,rfl,_,_,rfl,rfl,?_⟩⟩;have S3:=Qk.new (o:=.tup [.int ((Q1 (l.drop (a+1))).1:Nat),.int (b:Nat)]) hq;generalize hH3:upd H2 q (.tup [.int ((Q1 (l.drop (a+1))).1:Nat),.int (b:Nat)])=H3 at S3;have hp3:=S3 _ _ hp2;have R3:=R2.keep fun b xs h=>S3 _ _ h;have S13:=S2.trans S3;clear hH3 hq S3 hp2 R2 S2;cases kf with
    |zero=>rw[hdr]at hkf;exact absurd hkf (by simp)
    |succ kf=>
    rw[hdr]at hro hkf;have hro2:rowsOf l=Kl kf (Q1 (l.drop (a+1))).2 (Z7 rows ch (Q1 (l.drop (a+1))).1):=hro;have hkf2:(Q1 (l.drop (a+1))).2.length<=kf:=by
     have:=yi (l.drop (a+1));rw[uw]at hkf;omega
    rw[hb3]at hro2 hkf2;generalize (Q1 (l.drop (a+1))).1=n at hro2;dsimp only;refine jT (fun σ' H'=>∃(rs1:List Addr)(rows1:List Rw)(nn:Nat),σ'=[some (.str (tx l)),some (.ref p),some (.int (b:Nat)),some (.str (tx [ch])),some (.int (nn:Nat))]/\H' p=some (.lst (rs1.map V.ref))/\Rws H' rs1 rows1/\Qk H H'/\Z7 rows ch n=rows1++[(ch,nn)]/\rows1.length<=rows.length) ?_ (fun rest=>?_)
    ·rintro σ' H4 ⟨rs1,rows1,nn,rfl,hp4,R4,S4,had,hle⟩;refine⟨_,rfl,.inl ⟨rfl,_,.inl (.inl hp4)⟩,_,rfl,_,rfl,sL2,fun q2 hq2=>?_⟩;have S5:=Qk.new (o:=.tup [.str (tx [ch]),.int (nn:Nat)]) hq2;have g5:upd H4 q2 (.tup [.str (tx [ch]),.int (nn:Nat)]) q2=some (Qau (ch,nn)):=Qa;generalize upd H4 q2 (.tup [.str (tx [ch]),.int (nn:Nat)])=H5 at S5 g5;have hp5:=S5 _ _ hp4;have nq:q2≠p:=fun z=>by rw[z,hp4]at hq2;cases hq2
     have R5:=R4.keep fun b xs h=>S5 _ _ h;have S15:=S4.trans S5;refine⟨p,_,_,rfl,rfl,hp5,by rw[uk,R4.len];omega,l.length-b,by omega,b,rs1++[q2],Z7 rows ch n,_,_,kf,rfl,hb2,rfl,?_,?_,?_,?_,hkf2,hro2⟩
     ·rw[Qa,uH];rfl
     ·rw[had];refine Rws.app (R5.keep fun b xs h=>?_) ?_
      ·rw[Qp fun z=>by rw[z,hp5]at h;cases h];exact h
      ·rw[Qp nq];exact g5
     ·intro b o h;rw[Qp (Qv h hp)];exact S15 _ _ h
     ·rw[had,uj];simp;omega
    ·rcases R3.last with⟨rfl,rfl⟩|⟨rs',r',rows',⟨c',m'⟩,rfl,rfl,R4,g4⟩
     ·refine⟨_,rfl,false,.inl ⟨_,SqL.of hp3,rfl⟩,?_⟩;exact QN (QN (rest _ _ ⟨[],[],n,rfl,hp3,.nil,S13,add_nil ch n,uq _⟩))
     ·have hp4:H3 p=some (.lst (rs'.map V.ref++[V.ref r'])):=by rw[hp3,uH];rfl
      have sq4:SqL K H3 p (rs'.map V.ref++[V.ref r']):=SqL.of hp4;refine⟨_,rfl,true,.inl ⟨_,sq4,by cases rs'<;>rfl⟩,?_⟩;refine QQ ⟨_,rfl,_,rfl,p,_,_,_,rfl,rfl,sq4,Ke _ _,r',_,_,_,rfl,rfl,SqT.of g4,rfl,_,rfl,rfl,_,rfl,?_⟩;rw[show(⟨#[ch]⟩:Str)=tx [ch]from rfl,Zs];refine ifB (fun h2=>?_) (fun h2=>?_)
      ·have hc:c'=ch:=of_decide_eq_true h2;subst hc;refine⟨_,rfl,_,rfl,.inl ⟨rfl,_,sq4⟩,p,_,V.ref r',rfl,rfl,hp4,by rw[uj];simp,r',[.str (tx [c']),.int (m':Nat)],1,.int (m':Nat),rfl,rfl,?_,rfl,_,_,rfl,rfl,?_⟩
       ·exact SqT.of (by rw[Qp fun z=>by rw[z,hp4]at g4;cases g4];exact g4)
       ·refine rest _ _ ⟨rs',rows',n+m',rfl,by rw[Qa,List.dropLast_concat],R4.keep fun b xs h=>?_,fun b o h=>?_,add_same rows' c' n m',by simp⟩
        ·rw[Qp fun z=>by rw[z,hp4]at h;cases h];exact h
        ·rw[Qp (Qv h hp)];exact S13 _ _ h
      ·have hc:c'≠ch:=of_decide_eq_false h2;exact rest _ _ ⟨_,_,n,rfl,hp3,R3,S13,kC hc,uq _⟩
   ·have ha:a=l.length:=by have:=of_decide_eq_false h1;omega
    subst ha;rw[List.drop_length]at hro;have hr2:rowsOf l=rows:=by
     rw[hro];cases kf<;>rfl
    refine⟨_,rfl,k p rs H2 S2 ⟨SqL.of hp2,by rw[hr2];exact R2,by rw[hr2];omega⟩⟩
  ·have isi:∃x c b,[v,V.ty "str"]=[x,c]/\Qbc c=true/\((∃t,TyOf K H x t/\kitOne K t (Qbd c)=some b)\/∃a C,x=.ref a/\H a=some (zJ a (.ref C))/\ErrK K C/\kitOne K (.ref C) (Qbd c)=some b)/\b=false:=by
    rcases hv with rfl|⟨i,rfl⟩|⟨a,xs,rfl,e⟩
    ·exact⟨_,_,false,rfl,rfl,.inl ⟨_,.non,T.uh⟩,rfl⟩
    ·exact⟨_,_,false,rfl,rfl,.inl ⟨_,.int _,T.pR⟩,rfl⟩
    ·exact⟨_,_,false,rfl,rfl,.inl ⟨_,.tup e,T.ui⟩,rfl⟩
   obtain⟨x,cc,b,e1,e2,e3,rfl⟩:=isi;refine⟨_,rfl,x,cc,false,e1,e2,e3,false,rfl,?_⟩;refine QQ ⟨sL0,fun p hp=>?_⟩;exact k p [] _ (Qk.new hp) ⟨SqL.of Qa,.nil,by simp⟩
end
section
variable {P:Program}{w:World}{K:PySem.W.Frag}{mg:Str->Option Value}{base:Heap}{f:Addr}{fd:FuncData}{tk:Nat->Tok}{c kr:Nat->Addr}
theorem drop_cons{α:Type}{l:List α}{a:Nat}{x:α}(h:l[a]? =some x):l.drop a=x::l.drop (a+1):=by
 have ha:=(List.getElem?_eq_some_iff.mp h).1;rw[List.drop_eq_getElem_cons ha]
 congr 1
 rw[List.getElem?_eq_getElem ha]at h;exact ur h
theorem Va{α:Type}{l:List α}{a:Nat}(h:a<l.length):∃x,l[a]? =some x:=⟨_,List.getElem?_eq_getElem h⟩
theorem QcL:(",B0/":Str)=tx [44,66,48,47]:=by decide+kernel
theorem QcM:("+-$":Str)=tx [43,45,36]:=by decide+kernel
theorem Qeb:("+-":Str)=tx [43,45]:=by decide+kernel
theorem Qec:("9Z*+-$":Str)=tx [57,90,42,43,45,36]:=by decide+kernel
theorem Qed:("$":Str)=tx [36]:=by decide+kernel
theorem yj:("9":Str)=tx [57]:=by decide+kernel
theorem Qee:(".":Str)=tx [46]:=by decide+kernel
theorem yk:("":Str)=tx []:=by decide+kernel
noncomputable def Yy(K:PySem.W.Frag):Sp:=fun vs H Q _=>∃(p:Addr)(rs:List Addr)(rows:List Rw)(a:Nat),vs=[.ref p,.int (a:Nat)]/\RowsAt K H p rs rows/\a<rows.length/\Q (.bl (Xz (rows.drop a))) H
theorem UI(F:Fun K "floats_at" "floats_at" X2 f fd)(O:Own mg)(T:Txt K mg tk c kr):FnOk P w K mg base (CXE P w) 1 f fd ["rows","at"] (Yy K):=by
 refine okN F J7 (fun vs H Q E h=>?_) (fun cdv A outer s H vs Q E hr h=>?_)
 ·obtain⟨p,rs,rows,a,rfl,_⟩:=h;rfl
 ·obtain⟨p,rs,rows,a,rfl,R,ha,k⟩:=h;refine⟨_,(Qe (JB (Qw Q0 (pv 0) (pv 1) (fun _ _=>rfl)) (JA rfl (Qn (Qm (i:=2) J7.nd rfl (Or.inl rfl)) (Qn (Qm (i:=3) J7.nd rfl (Or.inl rfl)) QV))))
   (Qe (Jh (Ql KM (pv 3) Qd (Qo _)) (Qh (QD ZQ)) QI)
   (Qe (QE (i:=4) J7.nd rfl (Or.inl rfl) (QP Jd (pv 1) Qd))
   (Qe (Zf PassesOwn.never (PW.pt (ZJ (Ql Ye (pv 4) (Qj Qr rfl O.len PySem.boot_len (Qb (pv 0) Qc)) (Qo _)) (Zq (Ql Xc (Qw Zr (Qw Q0 (pv 0) (pv 4) (fun _ _=>rfl)) Qd (fun _ _=>rfl)) (QB (v:=V.str ",B0/") rfl T.gL ⟨_,rfl⟩) (by with_unfolding_all rfl))))) (Qh (WK (i:=4) J7.nd rfl (Or.inl rfl) Qd VO)))
   (Qh (QD (ZK (Q9 Ye (pv 4) (Qj Qr rfl O.len PySem.boot_len (Qb (pv 0) Qc)) (Qo _)) (XI (Q9 QZ (Qw Zr (Qw Q0 (pv 0) (pv 4) (fun _ _=>rfl)) Qd (fun _ _=>rfl)) (pv 2) (Qo _)))))))))),?_⟩
  obtain⟨⟨y,n⟩,hx⟩:=Va ha;rw[drop_cons hx]at k;refine UC rfl (JI rfl) R hx fun r hr1=>⟨r,_,rfl,SqT.of hr1,rfl,_,_,rfl,_,_,rfl,rfl,?_⟩;refine⟨_,rfl,_,_,rfl,rfl,_,rfl,?_⟩;refine ifB (fun h1=>?_) (fun h1=>?_)
  ·have hn:n>1:=by have:=of_decide_eq_true h1;omega
   have e:Xz ((y,n)::rows.drop (a+1))=true:=by unfold Xz;simp[hn]
   rw[e]at k;exact k
  have hn:¬ n>1:=by have:=of_decide_eq_false h1;omega
  have e:Xz ((y,n)::rows.drop (a+1))=(match(rows.drop (a+1)).dropWhile (fun x=>ins x.1)with|(c',_)::_=>c'==y|[]=>false):=by
   show(decide (n>1)||_)=_;rw[um hn,Bool.false_or]
   all_goals rfl
  rw[e]at k;clear e;refine⟨_,rfl,_,_,rfl,rfl,?_⟩;refine⟨fun m σ H2=>∃b:Nat,m=rows.length-b/\b<=rows.length/\σ=[some (.ref p),some (.int (a:Nat)),some (.str (tx [y])),some (.int (n:Nat)),some (.int (b:Nat))]/\H2=H/\(rows.drop (a+1)).dropWhile (fun x=>ins x.1)=(rows.drop b).dropWhile (fun x=>ins x.1),⟨_,a+1,rfl,by omega,rfl,rfl,rfl⟩,?_⟩;rintro m σ H2 ⟨b,rfl,hb,rfl,rfl,hd⟩;refine⟨_,rfl,Zh rfl R ⟨_,_,rfl,rfl,_,rfl,?_⟩⟩;rcases Nat.lt_or_ge b rows.length with hlt|hge
  ·rw[uo (by omega)];obtain⟨⟨y2,n2⟩,hx2⟩:=Va hlt;refine QQ (Xh rfl (JI rfl) R hx2 ⟨_,_,rfl,rfl,_,rfl,?_⟩);rw[QcL,V0];have hc:([44,66,48,47]:List Nat).contains y2=ins y2:=rfl;rw[hc];rw[drop_cons hx2]at hd;refine ifB (fun h2=>?_) (fun h2=>?_)
   ·refine⟨_,fun _ _ h=>h,?_⟩;refine⟨_,rfl,_,_,rfl,rfl,_,?_,b+1,rfl,by omega,rfl,rfl,?_⟩
    ·omega
    ·rw[hd,List.dropWhile_cons,if_pos h2]
   ·rw[List.dropWhile_cons,if_neg (by rw[h2];decide)]at hd;rw[hd]at k;refine⟨_,rfl,Zh rfl R ⟨_,_,rfl,rfl,_,rfl,?_⟩⟩;rw[uo (by omega)];refine QQ (Xh rfl (JI rfl) R hx2 ⟨_,rfl,rfl,?_⟩);rw[Zs];have e3:decide (y2=y)=(y2==y):=by by_cases z:y2=y<;>simp[z]
    rw[e3];exact k
  ·rw[um (by omega)];refine QN (QN ?_);rw[List.drop_eq_nil_of_le hge]at hd;rw[hd]at k;refine⟨_,rfl,Zh rfl R ⟨_,_,rfl,rfl,_,rfl,?_⟩⟩;rw[um (by omega)];exact QN k
noncomputable def Yz(K:PySem.W.Frag):Sp:=fun vs H Q _=>∃(p:Addr)(rs:List Addr)(rows:List Rw)(a pc:Nat),vs=[.ref p,.int (a:Nat),.str (tx [pc])]/\RowsAt K H p rs rows/\a<=rows.length/\
 ∀b many:Nat,b<=rows.length->Jp pc (rows.drop a) 0=(many,rows.drop b)->∀q,H q=none->Q (.ref q) (upd H q (.tup [.int (many:Nat),.int (b:Nat)]))
theorem UJ(F:Fun K "places_of" "places_of" X3 f fd)(O:Own mg)(T:Txt K mg tk c kr):FnOk P w K mg base (CXE P w) 1 f fd ["rows","at","place"] (Yz K):=by
 refine okN F Zy (fun vs H Q E h=>?_) (fun cdv A outer s H vs Q E hr h=>?_)
 ·obtain⟨p,rs,rows,a,pc,rfl,_⟩:=h;rfl
 ·obtain⟨p,rs,rows,a,pc,rfl,R,ha,k⟩:=h;have hz:1000<=sizeLine:=by decide
  refine⟨_,(Qe (QE (i:=3) Zy.nd rfl (Or.inl rfl) Qd)
   (Qe (Zf PassesOwn.never (PW.pt (ZJ (Ql Ye (pv 1) (Qj Qr rfl O.len PySem.boot_len (Qb (pv 0) Qc)) (Qo _)) (Zq (PW.pt (ZS (Ql QZ (Qw Zr (Qw Q0 (pv 0) (pv 1) (fun _ _=>rfl)) Qd (fun _ _=>rfl)) (pv 2) (Qo _)) (J3 (Ql Xc (Qw Zr (Qw Q0 (pv 0) (pv 1) (fun _ _=>rfl)) Qd (fun _ _=>rfl)) (QB (v:=V.str ",B0/") rfl T.gL ⟨_,rfl⟩) (by with_unfolding_all rfl)))))))) (Qe (Jh (Ql QZ (Qw Zr (Qw Q0 (pv 0) (pv 1) (fun _ _=>rfl)) Qd (fun _ _=>rfl)) (pv 2) (Qo _)) (Qh (WK (i:=3) Zy.nd rfl (Or.inl rfl) (Qw Zr (Qw Q0 (pv 0) (pv 1) (fun _ _=>rfl)) Qd (fun _ _=>rfl)) VO)) QI)
   (Qh (WK (i:=1) Zy.nd rfl (Or.inl rfl) Qd VO))))
   (Qh (QD (QO (Qb (pv 3) (Qb (pv 1) Qc))))))),?_⟩
  refine⟨fun m σ H2=>∃b many:Nat,m=rows.length-b/\b<=rows.length/\σ=[some (.ref p),some (.int (b:Nat)),some (.str (tx [pc])),some (.int (many:Nat))]/\H2=H/\Jp pc (rows.drop a) 0=Jp pc (rows.drop b) many,⟨_,a,0,rfl,ha,rfl,rfl,rfl⟩,?_⟩;rintro m σ H2 ⟨b,many,rfl,hb,rfl,rfl,hd⟩;refine⟨_,rfl,Zh rfl R ⟨_,_,rfl,rfl,_,rfl,?_⟩⟩;rcases Nat.lt_or_ge b rows.length with hlt|hge
  ·rw[uo (by omega)];obtain⟨⟨y,n⟩,hx⟩:=Va hlt;rw[drop_cons hx]at hd;refine QQ (Xh rfl (JI rfl) R hx ⟨_,rfl,rfl,_,rfl,?_⟩);rw[Zs]
   by_cases h1:y=pc
   ·rw[uo h1];refine QQ (QQ ⟨_,fun _ _ h=>h,Xh rfl (JI rfl) R hx ⟨_,rfl,rfl,_,rfl,?_⟩⟩);rw[Zs,uo h1];refine QQ ⟨_,rfl,Qav rfl (JI rfl) R hx ⟨_,_,rfl,rfl,?_⟩⟩;refine⟨_,rfl,_,_,rfl,rfl,rows.length-(b+1),by omega,b+1,many+n,rfl,by omega,rfl,rfl,?_⟩;rw[hd];show(if y=pc then Jp pc (rows.drop (b+1)) (many+n)else _)=_;rw[if_pos h1]
   ·rw[um h1];refine QN (Xh rfl (JI rfl) R hx ⟨_,_,rfl,rfl,_,rfl,?_⟩);rw[QcL,V0];have hc:([44,66,48,47]:List Nat).contains y=ins y:=rfl;rw[hc];refine ifB (fun h2=>?_) (fun h2=>?_)
    ·refine⟨_,fun _ _ h=>h,Xh rfl (JI rfl) R hx ⟨_,rfl,rfl,_,rfl,?_⟩⟩;rw[Zs,um h1];refine QN ⟨_,rfl,_,_,rfl,rfl,rows.length-(b+1),by omega,b+1,many,rfl,by omega,rfl,rfl,?_⟩;rw[hd];show(if y=pc then _ else if ins y then Jp pc (rows.drop (b+1)) many else _)=_;rw[if_neg h1,if_pos h2]
    ·have hd2:Jp pc (rows.drop a) 0=(many,rows.drop b):=by
      rw[hd,drop_cons hx];show(if y=pc then _ else if ins y then _ else(many,(y,n)::rows.drop (b+1)))=_;rw[if_neg h1,if_neg (by rw[h2];decide)]
     exact⟨_,rfl,_,rfl,sL2,k b many (by omega) hd2⟩
  ·rw[um (by omega)];refine QN (QN ?_);have hb2:rows.drop b=[]:=List.drop_eq_nil_of_le hge;have hd2:Jp pc (rows.drop a) 0=(many,rows.drop b):=by rw[hd,hb2];rfl
   exact⟨_,rfl,_,rfl,sL2,k b many (by omega) hd2⟩
noncomputable def qK(K:PySem.W.Frag):Sp:=fun vs H Q _=>∃(p:Addr)(rs:List Addr)(rows:List Rw)(a:Nat),vs=[.ref p,.int (a:Nat)]/\RowsAt K H p rs rows/\a<=rows.length/\
 ∀(pl:List Nat)(many nines b:Nat),b<=rows.length->J5 (rows.drop a)=(pl,many,nines,rows.drop b)->∀q H',Qk H H'->H' q=some (.tup [.str (tx pl),.int (many:Nat),.int (nines:Nat),.int (b:Nat)])->Q (.ref q) H'
theorem YA(F:Fun K "whole_part" "whole_part" Xl f fd)(O:Own mg)(T:Txt K mg tk c kr)(mj:Def P w K mg base 1 "places_of" ["rows","at","place"] (Yz K)):FnOk P w K mg base (CXE P w) 2 f fd ["rows","at"] (qK K):=by
 refine okN F Jq (fun vs H Q E h=>?_) (fun cdv A outer s H vs Q E hr h=>?_)
 ·obtain⟨p,rs,rows,a,rfl,_⟩:=h;rfl
 ·obtain⟨p,rs,rows,a,rfl,R,ha,k⟩:=h;have hz:1000<=sizeLine:=by decide
  refine⟨_,(Qe (Jh (PW.pt (ZS (Ql vF (pv 1) (Qj Qr rfl O.len PySem.boot_len (Qb (pv 0) Qc)) (Qo _)) (J3 (Ql Ug (Qw Zr (Qw Q0 (pv 0) (pv 1) (fun _ _=>rfl)) Qd (fun _ _=>rfl)) (QB (v:=V.str "9Z*+-$") rfl T.mU ⟨_,rfl⟩) (by with_unfolding_all rfl))))) (Qh (QD (QO (Qb Qg (Qb Qd (Qb Qd (Qb (pv 1) Qc))))))) QI)
   (Qe (QE (i:=2) Jq.nd rfl (Or.inl rfl) (Qw Zr (Qw Q0 (pv 0) (pv 1) (fun _ _=>rfl)) Qd (fun _ _=>rfl)))
   (Qe (JB (mj.pe hr (by decide) rfl Qu (Qb (pv 0) (Qb (pv 1) (Qb (pv 2) Qc)))) (JA rfl (Qn (Qm (i:=3) Jq.nd rfl (Or.inl rfl)) (Qn (Qm (i:=1) Jq.nd rfl (Or.inl rfl)) QV))))
   (Qe (JB (mj.pe hr (by decide) rfl Qu (Qb (pv 0) (Qb (pv 1) (Qb Qg Qc)))) (JA rfl (Qn (Qm (i:=4) Jq.nd rfl (Or.inl rfl)) (Qn (Qm (i:=1) Jq.nd rfl (Or.inl rfl)) QV))))
   (Qh (QD (QO (Qb (pv 2) (Qb (pv 3) (Qb (pv 4) (Qb (pv 1) Qc))))))))))),?_⟩
  refine⟨_,rfl,Zh rfl R ⟨_,_,rfl,rfl,_,rfl,?_⟩⟩;have none:J5 (rows.drop a)=([],0,0,rows.drop a)->∀q,H q=none->Q (.ref q) (upd H q (.tup [.str "",.int 0,.int 0,.int (a:Nat)])):=fun e q hq=>
   k [] 0 0 a ha e q _ (Qk.new hq) (by rw[Qa,yk];rfl)
  rcases Nat.lt_or_ge a rows.length with hlt|hge
  ·rw[um (by omega)];obtain⟨⟨y,n⟩,hx⟩:=Va hlt;refine QN (Xh rfl (JI rfl) R hx ⟨_,_,rfl,rfl,_,rfl,?_⟩);rw[Qec,V0];refine ifB (fun h1=>?_) (fun h1=>?_)
   ·refine⟨_,rfl,sL4,none ?_⟩;rw[drop_cons hx];show(if([57,90,42,43,45,36]:List Nat).contains y then _ else _)=_;rw[if_neg (by rw[Bool.not_eq_true']at h1;rw[h1];decide)]
   ·have h2:([57,90,42,43,45,36]:List Nat).contains y=true:=by
     cases e:([57,90,42,43,45,36]:List Nat).contains y with
     |true=>rfl
     |false=>rw[e]at h1;cases h1
    refine Xh rfl (JI rfl) R hx ?_;refine⟨_,rfl,_,rfl,_,rfl,p,rs,rows,a,y,rfl,R,ha,fun b many hb hp1 q hq=>⟨q,_,rfl,SqT.of Qa,rfl,_,_,rfl,_,_,rfl,rfl,?_⟩⟩;have S1:=Qk.new (o:=.tup [.int (many:Nat),.int (b:Nat)]) hq;generalize upd H q (.tup [.int (many:Nat),.int (b:Nat)])=H1 at S1;refine⟨_,rfl,_,rfl,p,rs,rows,b,57,by rw[yj];rfl,R.same S1,hb,fun b2 nines hb2 hp2 q2 hq2=>⟨q2,_,rfl,SqT.of Qa,rfl,_,_,rfl,_,_,rfl,rfl,?_⟩⟩;have S2:=Qk.new (o:=.tup [.int (nines:Nat),.int (b2:Nat)]) hq2;generalize upd H1 q2 (.tup [.int (nines:Nat),.int (b2:Nat)])=H2 at S2;refine⟨_,rfl,_,rfl,_,rfl,_,rfl,sL4,fun q3 hq3=>?_⟩;refine k [y] many nines b2 hb2 ?_ q3 _ ((S1.trans S2).trans (Qk.new hq3)) Qa;rw[drop_cons hx]at hp1 ⊢;show(if([57,90,42,43,45,36]:List Nat).contains y then _ else _)=_;rw[if_pos h2,hp1];show([y],many,(Jp 57 (rows.drop b) 0).1,(Jp 57 (rows.drop b) 0).2)=_;rw[hp2]
  ·rw[uo (by omega)];refine QQ (QQ ⟨_,rfl,sL4,none ?_⟩);rw[List.drop_eq_nil_of_le hge];rfl
noncomputable def oV:Option Nat->V
 |none=>.non
 |some n=>.int (n:Nat)
noncomputable def YB(K:PySem.W.Frag):Sp:=fun vs H Q _=>∃(p:Addr)(rs:List Addr)(rows:List Rw)(a:Nat)(pl:List Nat),vs=[.ref p,.int (a:Nat),.str (tx pl)]/\RowsAt K H p rs rows/\a<=rows.length/\
 ∀(o:Option Nat)(b:Nat),b<=rows.length->JS (rows.drop a) pl=(o,rows.drop b)->∀q,H q=none->Q (.ref q) (upd H q (.tup [oV o,.int (b:Nat)]))
theorem z0{y n:Nat}{r:List Rw}{pl:List Nat}(h:y≠46):JS ((y,n)::r) pl=(some 0,(y,n)::r):=by
 unfold JS
 split
 ·rename_i e;exact absurd (Prod.mk.inj (List.cons.inj e).1).1 h
 ·rfl
theorem VG(F:Fun K "broken_part" "broken_part" Z1 f fd)(O:Own mg)(T:Txt K mg tk c kr):FnOk P w K mg base (CXE P w) 1 f fd ["rows","at","place"] (YB K):=by
 refine okN F ZG (fun vs H Q E h=>?_) (fun cdv A outer s H vs Q E hr h=>?_)
 ·obtain⟨p,rs,rows,a,pl,rfl,_⟩:=h;rfl
 ·obtain⟨p,rs,rows,a,pl,rfl,R,ha,k⟩:=h;have hz:1000<=sizeLine:=by decide
  have h2s:2<=sizeLine:=by omega
  refine⟨_,(Qe (Jh (PW.pt (ZS (Ql vF (pv 1) (Qj Qr rfl O.len PySem.boot_len (Qb (pv 0) Qc)) (Qo _)) (J3 (Ql Kd (Qw Zr (Qw Q0 (pv 0) (pv 1) (fun _ _=>rfl)) Qd (fun _ _=>rfl)) Qg (Qo _))))) (Qh (QD (QO (Qb Qd (Qb (pv 1) Qc))))) QI)
   (Qe (Jh (PW.pt (ZS (Ql KM (Qw Zr (Qw Q0 (pv 0) (pv 1) (fun _ _=>rfl)) Qd (fun _ _=>rfl)) Qd (Qo _)) (J3 (Ql QZ (QP Jd (pv 1) Qd) (Qj Qr rfl O.len PySem.boot_len (Qb (pv 0) Qc)) (Qo _))))) (Qh (QD (QO (Qb Zv (Qb (pv 1) Qc))))) QI)
   (Qe (JB (Qw Q0 (pv 0) (QP Jd (pv 1) Qd) (fun _ _=>rfl)) (JA rfl (Qn (Qm (i:=3) ZG.nd rfl (Or.inl rfl)) (Qn (Qm (i:=4) ZG.nd rfl (Or.inl rfl)) QV))))
   (Qe (Jh (PW.pt (ZJ (Ql Kd (pv 3) Qg (Qo _)) (Zq (PW.pt (ZS (Ql Kd (pv 3) (pv 2) (Qo _)) (J3 (Ql Xc (pv 3) (QB (v:=V.str "+-$") rfl T.gM ⟨_,rfl⟩) (by with_unfolding_all rfl)))))))) (Qh (QD (QO (Qb Zv (Qb (pv 1) Qc))))) QI)
   (Qh (QD (QO (Qb (pv 4) (Qb (QP Jd (pv 1) Qd) Qc))))))))),?_⟩
  refine⟨_,rfl,Zh rfl R ⟨_,_,rfl,rfl,_,rfl,?_⟩⟩;rcases Nat.lt_or_ge a rows.length with hlt|hge
  ·rw[um (by omega)];obtain⟨⟨y,n⟩,hx⟩:=Va hlt;refine QN (Xh rfl (JI rfl) R hx ⟨rfl,_,rfl,?_⟩);rw[Qee,Zs]
   by_cases h1:y=46
   ·rw[uo h1];subst h1;refine QN (Qav rfl (JI rfl) R hx ⟨_,_,rfl,rfl,_,rfl,?_⟩)
    by_cases h2:n>1
    ·rw[uo (by omega)];refine QQ (QQ ⟨_,rfl,h2s,k none a ha ?_⟩);rw[drop_cons hx];show(if n>1\/_ then _ else _)=_;rw[if_pos (.inl h2)]
    ·rw[um (by omega)];refine QN ⟨_,rfl,_,_,rfl,rfl,Zh rfl R ⟨rfl,_,rfl,?_⟩⟩;rw[WV]
     by_cases h3:a+1=rows.length
     ·rw[uo (by omega)];refine QQ ⟨_,rfl,h2s,k none a ha ?_⟩;rw[drop_cons hx];show(if n>1\/_ then _ else _)=_;rw[if_pos (.inr (List.drop_eq_nil_of_le (by omega)))]
     ·rw[um (by omega)];obtain⟨⟨y2,n2⟩,hx2⟩:=Va (show a+1<rows.length by omega);refine QN (UC (k:=a+1) rfl (fun Q q=>⟨_,rfl,_,_,rfl,rfl,q⟩) R hx2 fun r hr1=>⟨r,_,rfl,SqT.of hr1,rfl,_,_,rfl,_,_,rfl,rfl,?_⟩);have eb:JS (rows.drop a) pl=if y2≠57/\([y2]≠pl\/[43,45,36].contains y2=true)then(none,rows.drop a)else(some n2,rows.drop (a+2)):=by
       rw[drop_cons hx];show(if n>1\/rows.drop (a+1)=[]then _ else _)=_;rw[if_neg (by rw[drop_cons hx2];simp;omega),drop_cons hx2]
      refine⟨_,rfl,rfl,_,rfl,?_⟩;rw[yj,Zs]
      by_cases h4:y2=57
      ·rw[uo h4];refine QN (QN ⟨_,rfl,_,rfl,_,_,rfl,rfl,h2s,k (some n2) (a+2) (by omega) ?_⟩);rw[eb,if_neg fun z=>z.1 h4]
      ·rw[um h4];refine QQ ⟨_,rfl,_,rfl,rfl,_,rfl,?_⟩;rw[Yq]
       by_cases h5:[y2]=pl
       ·rw[uo h5];refine QN ⟨_,rfl,_,_,rfl,rfl,_,rfl,?_⟩;rw[QcM,V0];refine ifB (fun h6=>?_) (fun h6=>?_)
        ·refine⟨_,rfl,h2s,k none a ha ?_⟩;rw[eb,if_pos ⟨h4,.inr h6⟩]
        ·refine⟨_,rfl,_,rfl,_,_,rfl,rfl,h2s,k (some n2) (a+2) (by omega) ?_⟩;rw[eb,if_neg fun z=>z.2.elim (fun q=>q h5) (fun q=>by rw[h6]at q;cases q)]
       ·rw[um h5];refine QQ (QQ ⟨_,rfl,h2s,k none a ha ?_⟩);rw[eb,if_pos ⟨h4,.inl h5⟩]
   ·rw[um h1];refine QQ ⟨_,rfl,h2s,k (some 0) a ha ?_⟩;rw[drop_cons hx];exact z0 h1
  ·rw[uo (by omega)];refine QQ (QQ ⟨_,rfl,h2s,k (some 0) a ha ?_⟩);rw[List.drop_eq_nil_of_le hge];rfl
noncomputable def kD(K:PySem.W.Frag):Sp:=fun vs H Q _=>∃(p:Addr)(rs:List Addr)(rows:List Rw),vs=[.ref p]/\RowsAt K H p rs rows/\
 ∀(ld:List Nat)(b:Nat),b<=rows.length->ld.length<=2->jQ rows=(ld,rows.drop b)->∀q H',Qk H H'->H' q=some (.tup [.str (tx ld),.int (b:Nat)])->Q (.ref q) H'
theorem z4(F:Fun K "lead_of" "lead_of" W2 f fd)(O:Own mg)(T:Txt K mg tk c kr)(mV:Def P w K mg base 1 "floats_at" ["rows","at"] (Yy K)):FnOk P w K mg base (CXE P w) 2 f fd ["rows"] (kD K):=by
 refine okN F Zm (fun vs H Q E h=>?_) (fun cdv A outer s H vs Q E hr h=>?_)
 ·obtain⟨p,rs,rows,rfl,_⟩:=h;rfl
 ·obtain⟨p,rs,rows,rfl,R,k⟩:=h;have hz:1000<=sizeLine:=by decide
  have h2s:2<=sizeLine:=by omega
  refine⟨_,(Qe (QE (i:=1) Zm.nd rfl (Or.inl rfl) Qg)
   (Qe (QE (i:=2) Zm.nd rfl (Or.inl rfl) Qd)
   (Qe (VP PassesOwn.never rfl (XJ (QO (Qb (QB (v:=V.str "+-") rfl T.nK ⟨_,rfl⟩) (Qb Qg Qc)))) (Qm (i:=3) Zm.nd rfl (Or.inl rfl)) (Qh (Jh (PW.pt (ZJ (Ql Ye (pv 2) (Qj Qr rfl O.len PySem.boot_len (Qb (pv 0) Qc)) (Qo _)) (ZJ (Ql Xc (Qw Zr (Qw Q0 (pv 0) (pv 2) (fun _ _=>rfl)) Qd (fun _ _=>rfl)) (pv 3) (by with_unfolding_all rfl)) (Zq (Z5 (Zp (mV.pe hr (by decide) rfl Qu (Qb (pv 0) (Qb (pv 2) Qc))))))))) (Qe (WK (i:=1) Zm.nd rfl (Or.inl rfl) (Qw Zr (Qw Q0 (pv 0) (pv 2) (fun _ _=>rfl)) Qd (fun _ _=>rfl)) Qbj)
   (Qh (WK (i:=2) Zm.nd rfl (Or.inl rfl) Qd VO))) QI)))
   (Qh (QD (QO (Qb (pv 1) (Qb (pv 2) Qc)))))))),?_⟩
  refine⟨h2s,fun t ht=>⟨t,rfl,⟨_,SqT.of Qa⟩,?_⟩⟩;have S1:=Qk.new (o:=.tup [.str "+-",.str "$"]) ht;have g1:upd H t (.tup [.str "+-",.str "$"]) t=some (.tup [.str (tx [43,45]),.str (tx [36])]):=by rw[Qa,Qeb,Qed]
  generalize upd H t (.tup [.str "+-",.str "$"])=H1 at S1 g1;have R1:=R.same S1;refine Qa0 (xs:=[.str (tx [43,45]),.str (tx [36])]) (fun i σ H2=>∃(ld:List Nat)(b:Nat)(x:Option V),σ=[some (.ref p),some (.str (tx ld)),some (.int (b:Nat)),x]/\H2=H1/\b<=rows.length/\ld.length<=i/\jQ rows=Wi (([[43,45],[36]]:List (List Nat)).drop i) (rows.drop b) ld) ⟨[],0,none,by rw[←yk];rfl,rfl,uQ _,uq _,rfl⟩ (fun i σ H2 hi hP=>?_) ?_ ?_
  ·obtain⟨_,_,_,_,rfl,_⟩:=hP;exact SqT.of g1
  ·rintro i x σ H2 hi ⟨ld,b,x3,rfl,rfl,hb,hll,hlo⟩;have hi2:i<2:=(List.getElem?_eq_some_iff.mp hi).1;obtain⟨ch,hch,hxc⟩:∃ch,([[43,45],[36]]:List (List Nat))[i]? =some ch/\x=.str (tx ch):=by
    match i,hi,hi2 with
    |0,hi,_=>exact⟨_,rfl,(ur hi).symm⟩
    |1,hi,_=>exact⟨_,rfl,(ur hi).symm⟩
   subst hxc;rw[drop_cons hch]at hlo;refine⟨_,rfl,Zh rfl R1 ⟨_,_,rfl,rfl,_,rfl,?_⟩⟩;rcases Nat.lt_or_ge b rows.length with hlt|hge
   ·rw[uo (by omega)];obtain⟨⟨y,n⟩,hx⟩:=Va hlt;have el:Wi (ch::([[43,45],[36]]:List (List Nat)).drop (i+1)) (rows.drop b) ld=if(ch.contains y&& !Xz (rows.drop b))=true then Wi (([[43,45],[36]]:List (List Nat)).drop (i+1)) (rows.drop (b+1)) (ld++[y])else Wi (([[43,45],[36]]:List (List Nat)).drop (i+1)) (rows.drop b) ld:=by
     rw[drop_cons hx];rfl
    rw[el]at hlo;refine QQ (Xh rfl (JI rfl) R1 hx ⟨_,rfl,_,_,rfl,rfl,_,rfl,?_⟩);rw[V0];refine ifB (fun h1=>?_) (fun h1=>?_)
    ·refine⟨_,rfl,_,rfl,p,rs,rows,b,rfl,R1,hlt,_,rfl,?_⟩;rw[h1,Bool.true_and]at hlo;refine ifB (fun h2=>?_) (fun h2=>?_)
     ·refine⟨_,rfl,Xh rfl (JI rfl) R1 hx ⟨_,_,rfl,rfl,by rw[Qq,Qq];simp;omega,?_⟩⟩;rw[Js];refine⟨_,rfl,_,_,rfl,rfl,ld++[y],b+1,_,rfl,rfl,by omega,by rw[uj];simp;omega,?_⟩;rw[hlo,if_pos h2]
     ·refine⟨ld,b,_,rfl,rfl,hb,by omega,?_⟩;rw[hlo,if_neg (by rw[h2];decide)]
    ·rw[h1,Bool.false_and]at hlo;exact QN ⟨ld,b,_,rfl,rfl,hb,by omega,by rw[hlo];rfl⟩
   ·rw[um (by omega)];refine QN (QN ⟨ld,b,_,rfl,rfl,hb,by omega,?_⟩);rw[hlo,List.drop_eq_nil_of_le hge];rfl
  ·rintro σ H2 ⟨ld,b,x3,rfl,rfl,hb,hll,hlo⟩;refine⟨_,rfl,_,rfl,h2s,fun q hq=>?_⟩;exact k ld b hb hll hlo q _ (S1.trans (Qk.new hq)) Qa
theorem Vb{K:PySem.W.Frag}{a:Addr}{xs:List V}{NB:List Str}{g:TG}{tt:TT}{te:TE}{Q:VK}{H:Hp}(Pv:Nat->List V->Hp->Prop)(h0:Pv 0 [] H)(hl:∀i vs H,i<=xs.length->Pv i vs H->SqL K H a xs/\vs.length<=i)
  (hs:∀i x vs H,xs[i]? =some x->Pv i vs H->g x (List.replicate NB.length none) H fun σ2 H2=>tt σ2 H2 fun b H3=>if b=true then te σ2 H3 fun v H4=>Pv (i+1) (vs++[v]) H4 else Pv (i+1) vs H3)
  (hd:∀vs H,Pv xs.length vs H->∀p,H p=none->Q (.ref p) (upd H p (.lst vs))) (hz:xs.length<sizeLine):
  ∃W:Nat->Nat->List V->Hp->Prop,(∃m,W 0 m [] H)/\∀i m vs H,W i m vs H->
   ((Itl K a).stop i H/\∀p,H p=none->Q (.ref p) (upd H p (.lst vs)))\/((Itl K a).go i H/\vs.length<sizeLine/\∃N:List V->Hp->Prop,(∀vs' H',N vs' H'->∃m',m'<m/\W (i+1) m' vs' H')/\
    ∀x H',(Itl K a).yld i H x H'->g x (List.replicate NB.length none) H' fun σ2 H2=>tt σ2 H2 fun b H3=>if b=true then te σ2 H3 fun v H4=>N (vs++[v]) H4 else N vs H3):=by
 refine⟨fun i m vs H=>m=xs.length-i/\i<=xs.length/\Pv i vs H,⟨xs.length,by simp,uQ _,h0⟩,?_⟩;rintro i m vs H ⟨rfl,hi,p⟩;obtain⟨q,hv⟩:=hl i vs H hi p
 by_cases hlt:i<xs.length
 ·refine .inr ⟨⟨xs,xs[i],q,by simp[hlt]⟩,by omega,Pv (i+1),fun vs' H' p'=>⟨xs.length-(i+1),by omega,rfl,hlt,p'⟩,fun x H' y=>?_⟩;obtain⟨e,y⟩:=y;subst e;exact hs i x vs _ (y xs q) p
 ·have e:i=xs.length:=by omega
  subst e;exact .inl ⟨⟨xs,q,uq _⟩,hd vs H p⟩
end
section
variable {P:Program}{w:World}{K:PySem.W.Frag}{mg:Str->Option Value}{base:Heap}{f:Addr}{fd:FuncData}{tk:Nat->Tok}{c kr:Nat->Addr}
theorem Rws.at'{H:Hp}{rs:List Addr}{rows:List Rw}(h:Rws H rs rows):∀{i:Nat}{r:Addr},rs[i]? =some r->∃x,rows[i]? =some x/\H r=some (Qau x):=by
 induction h with
 |nil=>intro i r e;cases e
 |cons a _ ih=>
  intro i r e;cases i with
  |zero=>exact⟨_,rfl,by have:_=r:=ur e;rw[←this];exact a⟩
  |succ i=>exact ih (i:=i) (r:=r) e
theorem Vc{X:Cx}{K0:PySem.W.Frag}{es:List Expr}{k:Nat}{t:TGs}{n:Nat}{pos:Pos}(hK:X.K=K0)(hc:X.calm=true)(h:PGs X es t)
  (hn:(assignEach es X.env).length=n:=by rfl) (hst:(assignEach es X.env).findIdx? (·.1)=none:=by rfl):PG X (.Tuple es k pos) (Qcl K0 n t):=by
 subst hK;exact JA hc h hn hst
theorem kE{p:Addr}{rs:List Addr}{rows:List Rw}{te:TE}{NB:List Str}{n:Nat}{H:Hp}{Q:VK}(val:Rw->V)(hNB:NB.length=3)(hn:n=2)(R:RowsAt K H p rs rows)
  (hte:∀(x:Rw)(Q:VK),Q (val x) H->te [none,some (.str (tx [x.1])),some (.int (x.2:Nat))] H Q) (hd:∀q,H q=none->Q (.ref q) (upd H q (.lst (rows.map val)))):
  ∃W:Nat->Nat->List V->Hp->Prop,(∃m,W 0 m [] H)/\∀i m vs H,W i m vs H->
   ((Itl K p).stop i H/\∀p,H p=none->Q (.ref p) (upd H p (.lst vs)))\/((Itl K p).go i H/\vs.length<sizeLine/\∃N:List V->Hp->Prop,(∀vs' H',N vs' H'->∃m',m'<m/\W (i+1) m' vs' H')/\
    ∀x H',(Itl K p).yld i H x H'->Qcl K n (qi (QH 1) (qi (QH 2) Qdv)) x (List.replicate NB.length none) H' fun σ2 H2=>vY σ2 H2 fun b H3=>if b=true then te σ2 H3 fun v H4=>N (vs++[v]) H4 else N vs H3):=by
 have hz:1000<=sizeLine:=by decide
 have hl:=R.le;have hlen:=R.len;refine Vb (xs:=rs.map V.ref) (fun i vs H2=>H2=H/\vs=(rows.take i).map val) ⟨rfl,rfl⟩ ?_ ?_ ?_ (by omega)
 ·rintro i vs H2 hi ⟨rfl,rfl⟩;exact⟨R.sq,by rw[uk,uB];omega⟩
 ·rintro i x vs H2 hx ⟨rfl,rfl⟩;rw[uE]at hx;obtain⟨r,hr,rfl⟩:=Option.map_eq_some_iff.mp hx;obtain⟨y,hy,g⟩:=R.rw.at' hr;subst hn;rw[hNB];refine⟨r,_,rfl,SqT.of g,rfl,_,_,rfl,_,_,rfl,rfl,?_⟩;dsimp only[vY];rw[if_pos rfl];refine hte y _ ⟨rfl,?_⟩;have hi:=(List.getElem?_eq_some_iff.mp hy).1;rw[List.take_add_one,hy,uH];rfl
 ·rintro vs H2 ⟨rfl,rfl⟩ q hq;rw[List.take_of_length_le (by omega)];exact hd q hq
theorem yl{α:Type}(rs:List Addr)(a:Nat):Vz (rs.map V.ref) (some (a:Int)) none=(rs.drop a).map V.ref:=by
 unfold Vz;rw[HT.ql,HT.Yg];rcases Nat.le_total a (rs.map V.ref).length with h|h
 ·rw[Nat.min_eq_left h,List.take_of_length_le (by rw[uC];exact uq _),List.map_drop]
 ·rw[Nat.min_eq_right h,List.drop_eq_nil_of_le (uq _),List.take_nil,List.drop_eq_nil_of_le (by rw[uk]at h;exact h)];rfl
theorem K4{rows:List Rw}{tl te:TE}{NB:List Str}{n:Nat}{σ:L2.St}{H:Hp}{Q:VK}(val:Rw->V)(hNB:NB.length=3)(hn:n=2)
  (h:∀R:VK,(∀p rs H1,Qk H H1->RowsAt K H1 p rs rows->R (.ref p) H1)->tl σ H R)
  (hte:∀(x:Rw)(H:Hp)(Q:VK),Q (val x) H->te [none,some (.str (tx [x.1])),some (.int (x.2:Nat))] H Q) (hd:∀q H1,Qk H H1->H1 q=none->Q (.ref q) (upd H1 q (.lst (rows.map val)))):
  KQ NB (qj K tl) (Qcl K n (qi (QH 1) (qi (QH 2) Qdv))) vY te σ H Q:=
 h _ fun p rs H1 S1 R1=>⟨p,rfl,⟨_,R1.sq⟩,kE val hNB hn R1 (fun x Q q=>hte x H1 Q q) fun q hq=>hd q H1 S1 hq⟩
theorem V3{p:Addr}{rs:List Addr}{rows:List Rw}{σ:L2.St}{H:Hp}{i j a:Nat}(RA:RowsAt K H p rs rows)(h1:σ[i]? =some (some (.ref p)))(h2:σ[j]? =some (some (.int (a:Nat)))):
  ∀R:VK,(∀p2 rs2 H1,Qk H H1->RowsAt K H1 p2 rs2 (rows.drop a)->R (.ref p2) H1)->tSl (QdU K) (Xa i) (Qa5 (Xa j)) qm σ H R:=fun R r=>
 ⟨_,h1,_,h2,_,rfl,p,_,rfl,RA.sq,fun p2 hp2=>by
  rw[yl (α:=Unit)];have S2:=Qk.new (o:=.lst ((rs.drop a).map V.ref)) hp2;exact r p2 (rs.drop a) _ S2 ⟨SqL.of Qa,(RA.rw.dr a).keep fun b xs h=>S2 _ _ h,by rw[uC];have:=RA.le;omega⟩⟩
theorem ym{p:Addr}{rs:List Addr}{rows:List Rw}{σ:L2.St}{H:Hp}{i:Nat}(RA:RowsAt K H p rs rows)(h1:σ[i]? =some (some (.ref p))):
  ∀R:VK,(∀p2 rs2 H1,Qk H H1->RowsAt K H1 p2 rs2 rows->R (.ref p2) H1)->Xa i σ H R:=fun R r=>⟨_,h1,r p rs H (Qk.refl H) RA⟩
theorem QcN(a b:List Nat):eqV (.str (tx a)) (.str (tx b))=decide (a=b):=by
 show(tx a==tx b)=_
 by_cases h:a=b
 ·subst h;simp
 ·rw[um h];exact beq_eq_false_iff_ne.mpr fun z=>h (VZ z)
theorem in_list(ls:List (List Nat))(s:List Nat):inV (.str (tx s)) (ls.map fun l=>V.str (tx l))=ls.contains s:=by
 unfold inV
 induction ls with
 |nil=>rfl
 |cons a r ih=>
  rw[uN,List.any_cons,ih,QcN,List.contains_cons]
  congr 1
  by_cases h:a=s
  ·subst h;simp
  ·rw[um h];exact(beq_eq_false_iff_ne.mpr fun z=>h z.symm).symm
theorem kF:([.str "9",.str "S9",.str "V9",.str "SV9",.str "9V9",.str "S9V9"]:List V)=yc.map fun l=>V.str (tx l):=by decide+kernel
theorem YC:([.str "+",.str "-",.str "CR",.str "DB"]:List V)=JG.map fun l=>V.str (tx l):=by decide+kernel
theorem YD(ls:List (List Nat)):(ls.map fun l=>V.str (tx l)).all Z9=true:=by
 induction ls with
 |nil=>rfl
 |cons a r ih=>rw[uN,List.all_cons,ih];rfl
noncomputable def tV:Option (List Nat)->V
 |none=>.non
 |some l=>.str (tx l)
noncomputable def kG(K:PySem.W.Frag):Sp:=fun vs H Q _=>∃(p:Addr)(rs:List Addr)(rows:List Rw)(a:Nat),vs=[.ref p,.int (a:Nat)]/\RowsAt K H p rs rows/\a<=rows.length/\∀H',Qk H H'->Q (tV (W0 (rows.drop a))) H'
theorem kH(rows:List Rw):(rows.map fun x=>V.str (tx [x.1]))=((rows.map (·.1)).map fun c=>tx [c]).map V.str:=by rw[uM,uM];rfl
theorem Qbp(rows:List Rw):(rows.map fun x=>V.int (x.2:Nat))=(rows.map fun x=>((x.2:Nat):Int)).map V.int:=by rw[uM];rfl
set_option maxHeartbeats 2000000 in
theorem z6(F:Fun K "tail_of" "tail_of" W4 f fd)(O:Own mg)(T:Txt K mg tk c kr):FnOk P w K mg base (CXE P w) 1 f fd ["rows","at"] (kG K):=by
 refine okN F V1 (fun vs H Q E h=>?_) (fun cdv A outer s H vs Q E hr h=>?_)
 ·obtain⟨p,rs,rows,a,rfl,_⟩:=h;rfl
 ·obtain⟨p,rs,rows,a,rfl,R,ha,k⟩:=h;have hz:1000<=sizeLine:=by decide
  have hle:=R.le;refine⟨_,(Qe (Jh (Ql QZ (pv 1) (Qj Qr rfl O.len PySem.boot_len (Qb (pv 0) Qc)) (Qo _)) (Qh (QD Qg)) QI)
   (Qe (QE (i:=2) V1.nd rfl (Or.inl rfl) (JQ plainAttrs_str slot_str_join type_str_join qD Qg (Qb (Jo (NB:=[".0","symbol","many"]) rfl ⟨rfl,by decide+kernel,by decide+kernel,by decide+kernel⟩ (Zb (QS ZT (pv 0) (QX (pv 1)) Jl)) (fun _ _ _=>(Vc (K0:=K) (n:=2) rfl rfl (Qn (Qm (i:=1) (show([".0","symbol","many"]:List Str).Nodup by decide+kernel) rfl (Or.inl rfl) (Or.inr rfl)) (Qn (Qm (i:=2) (show([".0","symbol","many"]:List Str).Nodup by decide+kernel) rfl (Or.inl rfl) (Or.inr rfl)) QV)))) (fun _ _ _=>Jx) (fun _ _ _=>(pv 1))) Qc)))
   (Qe (Jh (PW.pt (ZS (Ql Xf (pv 2) (QB (v:=V.ref (kr 1)) rfl T.ng rfl) (by with_unfolding_all rfl)) (J3 (Ql KM (Qj (ko rfl) rfl O.max PyProof.Rows.boot_max (Qb (Jo (NB:=[".0","symbol","many"]) rfl ⟨rfl,by decide+kernel,by decide+kernel,by decide+kernel⟩ (Zb (QS ZT (pv 0) (QX (pv 1)) Jl)) (fun _ _ _=>(Vc (K0:=K) (n:=2) rfl rfl (Qn (Qm (i:=1) (show([".0","symbol","many"]:List Str).Nodup by decide+kernel) rfl (Or.inl rfl) (Or.inr rfl)) (Qn (Qm (i:=2) (show([".0","symbol","many"]:List Str).Nodup by decide+kernel) rfl (Or.inl rfl) (Or.inr rfl)) QV)))) (fun _ _ _=>Jx) (fun _ _ _=>(pv 2))) Qc)) Qd (Qo _))))) (Qh (QD Zv)) QI)
   (Qh (QD (pv 2)))))),?_⟩
  refine⟨_,rfl,Zh rfl R ⟨rfl,_,rfl,?_⟩⟩;rw[WV]
  by_cases h1:a=rows.length
  ·rw[uo (by omega)];have e:W0 (rows.drop a)=some []:=by rw[h1,List.drop_length];rfl
   rw[e]at k;have:=k H (Qk.refl H);refine QQ ?_;show Q (.str "") H;rw[yk];exact this
  ·rw[um (by omega)];have hne:rows.drop a≠[]:=fun z=>by
    have:=congrArg List.length z;rw[uC,List.length_nil]at this;omega
   have et:W0 (rows.drop a)=if(!JG.contains ((rows.drop a).map (·.1))||(rows.drop a).any (fun x=>decide (x.2>1)))=true then none else some ((rows.drop a).map (·.1)):=by
    unfold W0;rw[if_neg hne]
   rw[et]at k;have hdl:(rows.drop a).length<=600:=by rw[uC];omega
   refine QN ⟨rfl,K4 (fun x=>.str (tx [x.1])) rfl rfl (V3 R rfl rfl) (fun x H Q q=>⟨_,rfl,q⟩) fun q H2 S2 hq=>?_⟩;have RR:=R.same S2;have hsl:∀{H3:Hp},RowsAt K H3 p rs rows->∀{σ:L2.St}{i j:Nat},σ[i]? =some (some (.ref p))->σ[j]? =some (some (.int (a:Nat)))->∀R:VK,(∀p2 rs2 H1,Qk H3 H1->RowsAt K H1 p2 rs2 (rows.drop a)->R (.ref p2) H1)->tSl (QdU K) (Xa i) (Qa5 (Xa j)) qm σ H3 R:=fun{_} R3{_ _ _} h1 h2=>V3 R3 h1 h2;generalize hD:rows.drop a=D at k hne hdl hsl;rw[kH];have S3:=S2.trans (Qk.new (o:=.lst (((D.map (·.1)).map fun c=>tx [c]).map V.str)) hq);have R3:=RR.same (Qk.new (o:=.lst (((D.map (·.1)).map fun c=>tx [c]).map V.str)) hq);refine⟨"",q,_,rfl,rfl,SqL.of Qa,kx (by rw[uk];omega),?_⟩;rw[UD];generalize upd H2 q (.lst (((D.map (·.1)).map fun c=>tx [c]).map V.str))=H3 at S3 R3;refine⟨_,rfl,kr 1,_,rfl,.inr (T.nh _),rfl,by rw[YC];exact YD _,_,rfl,?_⟩;rw[YC,if_pos rfl,in_list];refine ifB (fun h2=>?_) (fun h2=>?_)
   ·rw[h2,Bool.true_or]at k;exact k _ S3
   ·rw[h2,Bool.false_or]at k;dsimp only[VA,tOp,tCB,Ja];refine K4 (fun x=>.int (x.2:Nat)) rfl rfl (hsl R3 rfl rfl) (fun x H Q q=>⟨_,rfl,q⟩) fun q5 H4 S4 hq5=>?_;rw[Qbp];have S5:=(S3.trans S4).trans (Qk.new (o:=.lst ((D.map fun x=>((x.2:Nat):Int)).map V.int)) hq5);refine⟨q5,_,rfl,SqL.of Qa,by simpa using hne,fun m hm hmx=>?_⟩;generalize upd H4 q5 (.lst ((D.map fun x=>((x.2:Nat):Int)).map V.int))=H5 at S5;refine⟨_,_,rfl,rfl,_,rfl,?_⟩;have hany:decide ((1:Int)<m)=D.any (fun x=>decide (x.2>1)):=by
     obtain⟨y,hy,rfl⟩:=List.mem_map.mp hm
     by_cases h3:y.2>1
     ·rw[uo (by omega),List.any_eq_true.mpr ⟨y,hy,uo h3⟩]
     ·rw[um (by omega)];refine(List.any_eq_false.mpr fun z hz2=>?_).symm;have:=hmx _ (List.mem_map.mpr ⟨z,hz2,rfl⟩);rw[decide_eq_true_eq];omega
    rw[hany];refine ifB (fun h3=>?_) (fun h3=>?_)
    ·rw[h3]at k;exact k _ S5
    ·rw[h3]at k;exact⟨_,rfl,k _ S5⟩
end
section
variable {P:Program}{w:World}{K:PySem.W.Frag}{mg:Str->Option Value}{base:Heap}{f:Addr}{fd:FuncData}{tk:Nat->Tok}{c kr:Nat->Addr}
noncomputable def kindS:Nat->Str
 |0=>"text"
 |1=>"letters"
 |2=>"number"
 |_=>"edited"
noncomputable def fO(x:Facts):HO:=.tup [.str (kindS x.kind),.bl x.signed,.int (x.before:Nat),.int (x.behind:Nat)]
noncomputable def FV(o:Option Facts)(v:V)(H:Hp):Prop:=match o with
 |none=>v=.non
 |some x=>∃q,v=.ref q/\H q=some (fO x)
noncomputable def JZ(K:PySem.W.Frag)(fn:List Rw->Option Facts):Sp:=fun vs H Q _=>∃(p:Addr)(rs:List Addr)(rows:List Rw),vs=[.ref p]/\RowsAt K H p rs rows/\∀v H',Qk H H'->FV (fn rows) v H'->Q v H'
theorem yn{rows:List Rw}{i:Nat}{y n:Nat}{s p:Bool}{a b:Nat}(h:rows[i]? =some (y,n)):KU (rows.drop i) s p a b=if y=57 then(if p then KU (rows.drop (i+1)) s p a n else KU (rows.drop (i+1)) s p n b)else if n>1 then none else if y=83 then KU (rows.drop (i+1)) true p a b else KU (rows.drop (i+1)) s true a b:=by
 rw[drop_cons h];rfl
set_option maxHeartbeats 2000000 in
theorem Vd(F:Fun K "number_facts" "number_facts" ZD f fd)(O:Own mg)(T:Txt K mg tk c kr):FnOk P w K mg base (CXE P w) 1 f fd ["rows"] (JZ K Jb):=by
 refine okN F QR (fun vs H Q E h=>?_) (fun cdv A outer s H vs Q E hr h=>?_)
 ·obtain⟨p,rs,rows,rfl,_⟩:=h;rfl
 ·obtain⟨p,rs,rows,rfl,R,k⟩:=h;have hz:1000<=sizeLine:=by decide
  have hle:=R.le;refine⟨_,(Qe (Jh (Ql Xf (JQ plainAttrs_str slot_str_join type_str_join qD Qg (Qb (Jo (NB:=[".0","symbol","many"]) rfl ⟨rfl,by decide+kernel,by decide+kernel,by decide+kernel⟩ (Zb (pv 0)) (fun _ _ _=>(Vc (K0:=K) (n:=2) rfl rfl (Qn (Qm (i:=1) (show([".0","symbol","many"]:List Str).Nodup by decide+kernel) rfl (Or.inl rfl) (Or.inr rfl)) (Qn (Qm (i:=2) (show([".0","symbol","many"]:List Str).Nodup by decide+kernel) rfl (Or.inl rfl) (Or.inr rfl)) QV)))) (fun _ _ _=>Jx) (fun _ _ _=>(pv 1))) Qc)) (QB (v:=V.ref (kr 0)) rfl T.gk rfl) (by with_unfolding_all rfl)) (Qh (QD Zv)) QI)
   (Qe (QE (i:=3) QR.nd rfl (Or.inl rfl) ZQ)
   (Qe (QE (i:=4) QR.nd rfl (Or.inl rfl) ZQ)
   (Qe (QE (i:=5) QR.nd rfl (Or.inl rfl) (Zw (Qb Qd (Qb Qd Qc))))
   (Qe (VP PassesOwn.never rfl (Zb (pv 0)) (JA rfl (Qn (Qm (i:=1) QR.nd rfl (Or.inl rfl)) (Qn (Qm (i:=2) QR.nd rfl (Or.inl rfl)) QV))) (Qh (Jh (Ql QZ (pv 1) Qg (Qo _)) (Qh (JB (pv 2) (Qaj (pv 5) (Ze (Ji (pv 4) (fun _=>rfl)) Qd Qd) set_list))) (Qh (Jh (Ql KM (pv 2) Qd (Qo _)) (Qh (QD Zv)) (Qh (Jh (Ql QZ (pv 1) Qg (Qo _)) (Qh (QE (i:=3) QR.nd rfl (Or.inl rfl) ZQ)) (Qh (QE (i:=4) QR.nd rfl (Or.inl rfl) ZQ)))))))))
   (Qe (Jh (Ql KM (Qj (Yo rfl) rfl O.sum L2.boot_sum (Qb (pv 5) Qc)) (QB (v:=V.int 18) rfl T.gc ⟨_,rfl⟩) (Qo _)) (Qh (QD Zv)) QI)
   (Qh (QD (QO (Qb Qg (Qb (pv 3) (Qb (Qw Q0 (pv 5) Qd (fun _ _=>rfl)) (Qb (Qw Q0 (pv 5) Qd (fun _ _=>rfl)) Qc))))))))))))),?_⟩
  have e83:("S":Str)=tx [83]:=by decide+kernel
  refine⟨rfl,K4 (fun x=>.str (tx [x.1])) rfl rfl (ym R rfl) (fun x H Q q=>⟨_,rfl,q⟩) fun q H2 S2 hq=>?_⟩;rw[kH];have S3:=S2.trans (Qk.new (o:=.lst (((rows.map (·.1)).map fun c=>tx [c]).map V.str)) hq);refine⟨"",q,_,rfl,rfl,SqL.of Qa,kx (by rw[uk];omega),?_⟩;rw[UD];generalize upd H2 q (.lst (((rows.map (·.1)).map fun c=>tx [c]).map V.str))=H3 at S3;have R3:=R.same S3;refine⟨kr 0,_,rfl,.inr (T.ub _),rfl,by rw[kF];exact YD _,_,rfl,?_⟩;rw[kF,if_pos rfl,in_list];refine ifB (fun h2=>?_) (fun h2=>?_)
  ·have hn:Jb rows=none:=by
    unfold Jb;rw[if_neg (by rw[Bool.not_eq_true']at h2;rw[h2];decide)]
   exact k .non H3 S3 (by rw[hn];rfl)
  have hf:yc.contains (rows.map (·.1))=true:=by
   cases e:yc.contains (rows.map (·.1))with
   |true=>rfl
   |false=>rw[e]at h2;cases h2
  have en:Jb rows=(match KU rows false false 0 0 with
    |some (s,a,b)=>if a+b>18 then none else some ⟨2,s,a,b⟩
    |none=>none):=by
   unfold Jb;rw[if_pos hf]
   all_goals rfl
  refine⟨sL2,fun fl hfl=>?_⟩;have S4:=Qk.new (o:=.lst [.int 0,.int 0]) hfl;refine⟨_,rfl,p,rfl,⟨_,(R3.same S4).sq⟩,?_⟩;refine vE (xs:=rs.map V.ref) (fun i σ H5=>∃(x1 x2:Option V)(sg pt:Bool)(a b:Nat),σ=[some (.ref p),x1,x2,some (.bl sg),some (.bl pt),some (.ref fl)]/\H5 fl=some (.lst [.int (a:Nat),.int (b:Nat)])/\Qk H3 H5/\KU rows false false 0 0=KU (rows.drop i) sg pt a b) ⟨none,none,false,false,0,0,rfl,Qa,S4,rfl⟩ ?_ ?_ ?_
  ·rintro i σ H5 hi ⟨x1,x2,sg,pt,a,b,rfl,g5,S5,hg⟩;exact(R3.same S5).sq
  ·rintro i x σ H5 hx ⟨x1,x2,sg,pt,a,b,rfl,g5,S5,hg⟩;rw[uE]at hx;obtain⟨r,hr1,rfl⟩:=Option.map_eq_some_iff.mp hx;obtain⟨⟨y,n⟩,hy,g⟩:=(R3.same S5).rw.at' hr1;rw[yn hy]at hg;refine⟨r,_,rfl,SqT.of g,rfl,_,_,rfl,_,_,rfl,rfl,?_⟩;refine⟨_,rfl,rfl,_,rfl,?_⟩;rw[yj,Zs];have keep:∀(o:HO),Qk H3 (upd H5 fl o):=fun o b u h=>by rw[Qp (Qv h hfl)];exact S5 _ _ h
   by_cases h1:y=57
   ·rw[uo h1];rw[if_pos h1]at hg;refine QQ ⟨_,rfl,_,rfl,_,rfl,pt,rfl,?_⟩;refine ifB (fun h3=>?_) (fun h3=>?_)
    ·rw[if_pos h3]at hg;refine⟨fl,_,1,1,rfl,rfl,g5,rfl,some (.str (tx [y])),some (.int (n:Nat)),sg,pt,a,n,rfl,?_,keep _,hg⟩;rw[Qa];rfl
    ·rw[if_neg (by rw[h3];decide)]at hg;refine⟨fl,_,0,0,rfl,rfl,g5,rfl,some (.str (tx [y])),some (.int (n:Nat)),sg,pt,n,b,rfl,?_,keep _,hg⟩;rw[Qa];rfl
   ·rw[um h1];rw[if_neg h1]at hg;refine QN ⟨_,rfl,_,_,rfl,rfl,_,rfl,?_⟩
    by_cases h3:n>1
    ·rw[uo (by omega)];rw[if_pos h3]at hg;refine QQ (k .non H5 (S3.trans S5) ?_);rw[en,hg];rfl
    ·rw[um (by omega)];rw[if_neg h3]at hg;refine QN ⟨_,rfl,rfl,_,rfl,?_⟩;rw[e83,Zs]
     by_cases h4:y=83
     ·rw[uo h4];rw[if_pos h4]at hg;exact QQ ⟨some (.str (tx [y])),some (.int (n:Nat)),true,pt,a,b,rfl,g5,S5,hg⟩
     ·rw[um h4];rw[if_neg h4]at hg;exact QN ⟨some (.str (tx [y])),some (.int (n:Nat)),sg,true,a,b,rfl,g5,S5,hg⟩
  ·rintro σ H5 ⟨x1,x2,sg,pt,a,b,rfl,g5,S5,hg⟩;rw[R.len,List.drop_length]at hg;rw[hg]at en;refine⟨_,rfl,fl,[(a:Int),(b:Int)],rfl,SqL.of g5,_,_,rfl,rfl,_,rfl,?_⟩;have es:([(a:Int),(b:Int)]:List Int).sum=((a+b:Nat):Int):=by simp
   rw[es]
   by_cases h1:a+b>18
   ·rw[uo (by omega)];refine QQ (k .non H5 (S3.trans S5) ?_);rw[en];show FV (if a+b>18 then none else _) _ _;rw[if_pos h1];rfl
   ·rw[um (by omega)];refine QN ⟨_,rfl,_,rfl,fl,_,_,_,rfl,rfl,SqL.of g5,rfl,_,rfl,fl,_,_,_,rfl,rfl,SqL.of g5,rfl,sL4,fun q6 hq6=>?_⟩;refine k _ _ ((S3.trans S5).trans (Qk.new hq6)) ?_;rw[en];show FV (if a+b>18 then none else _) _ _;rw[if_neg h1];exact⟨q6,rfl,Qa⟩
theorem UK(y:Nat):VT UE (Sum.inr (tx [y]):Key)=if y=88 then some (.str "text")else if y=65 then some (.str "letters")else none:=by
 have eX:("X":Str)=tx [88]:=by decide+kernel
 have eA:("A":Str)=tx [65]:=by decide+kernel
 unfold VT UE;rw[eX,eA]
 by_cases h1:y=88
 ·subst h1;rw[if_pos rfl];simp
 ·rw[if_neg h1];have n1:¬ ((Sum.inr (tx [88]):Key)=Sum.inr (tx [y])):=fun z=>h1 (List.cons.inj (VZ (Sum.inr.inj z))).1.symm
  by_cases h2:y=65
  ·subst h2;rw[if_pos rfl];simp
  ·rw[if_neg h2];have n2:¬ ((Sum.inr (tx [65]):Key)=Sum.inr (tx [y])):=fun z=>h2 (List.cons.inj (VZ (Sum.inr.inj z))).1.symm;simp[n1,n2]
set_option maxHeartbeats 2000000 in
theorem VH(F:Fun K "plain_facts" "plain_facts" Z0 f fd)(O:Own mg)(T:Txt K mg tk c kr)(KD:KDict P w K (kr 2) UE):FnOk P w K mg base (CXE P w) 1 f fd ["rows"] (JZ K Zl):=by
 refine okN F ZE (fun vs H Q E h=>?_) (fun cdv A outer s H vs Q E hr h=>?_)
 ·obtain⟨p,rs,rows,rfl,_⟩:=h;rfl
 ·obtain⟨p,rs,rows,rfl,R,k⟩:=h;have hz:1000<=sizeLine:=by decide
  refine⟨_,(Qe (Jh (Ql Kd (Qj Qr rfl O.len PySem.boot_len (Qb (pv 0) Qc)) Qd (Qo _)) (Qh (QD Zv)) QI)
   (Qe (JB (Qw Q0 (pv 0) Qd (fun _ _=>rfl)) (JA rfl (Qn (Qm (i:=1) ZE.nd rfl (Or.inl rfl)) (Qn (Qm (i:=2) ZE.nd rfl (Or.inl rfl)) QV))))
   (Qe (Jh (PW.pt (ZS (WI (zU KD (pv 1) (QB (v:=V.ref (kr 2)) rfl T.gh rfl)) (by with_unfolding_all rfl)) (J3 (Ql KM (pv 2) (QB (v:=V.int 60) rfl T.gD ⟨_,rfl⟩) (Qo _))))) (Qh (QD Zv)) QI)
   (Qh (QD (QO (Qb (v9 KD (QB (v:=V.ref (kr 2)) rfl T.gh rfl) (pv 1) (fun _ _=>rfl)) (Qb ZQ (Qb Qd (Qb Qd Qc)))))))))),?_⟩
  refine⟨_,rfl,p,_,rfl,.inl R.sq,?_⟩;rw[R.len];refine⟨rfl,_,rfl,?_⟩;rw[Qbf]
  match rows,R,k with
  |[],R,k=>exact QQ (k .non H (Qk.refl H) rfl)
  |_::_::_,R,k=>
   rw[uo (by simp;omega)];exact QQ (k .non H (Qk.refl H) rfl)
  |[(y,n)],R,k=>
   refine QN (UC (k:=0) rfl (fun Q q=>q) R rfl fun r hr1=>⟨r,_,rfl,SqT.of hr1,rfl,_,_,rfl,_,_,rfl,rfl,?_⟩);refine⟨_,rfl,Sum.inr (tx [y]),rfl,rfl,_,rfl,?_⟩;have ep:Zl [(y,n)]=if(y≠88/\y≠65)\/n>60 then none else some ⟨if y=88 then 0 else 1,false,0,0⟩:=rfl;rw[UK]
   by_cases h1:y=88\/y=65
   ·have h2:(if y=88 then some (V.str "text")else if y=65 then some (.str "letters")else none)=some (.str (kindS (if y=88 then 0 else 1))):=by
     rcases h1 with rfl|rfl
     ·rfl
     ·rfl
    rw[h2];refine QN ⟨_,rfl,_,_,rfl,rfl,_,rfl,?_⟩
    by_cases h3:n>60
    ·rw[uo (by omega)];refine QQ (k .non H (Qk.refl H) ?_);rw[ep,if_pos (.inr h3)];rfl
    ·rw[um (by omega)];refine QN ⟨_,rfl,Sum.inr (tx [y]),.str (kindS (if y=88 then 0 else 1)),rfl,rfl,by rw[UK,h2],sL4,fun q hq=>?_⟩;refine k _ _ (Qk.new hq) ?_;rw[ep,if_neg (by omega)];exact⟨q,rfl,Qa⟩
   ·rw[if_neg (by omega),if_neg (by omega)];refine QQ (QQ (k .non H (Qk.refl H) ?_));rw[ep,if_pos (.inl (by omega))];rfl
end
theorem yo{K:PySem.W.Frag}{a:Addr}{xs:List V}{NB:List Str}{g:TG}{tt:TT}{te:TE}{Q:VK}{H:Hp}(Pv:Nat->List V->Hp->Prop)(h0:Pv 0 [] H)(hl:∀i vs H,i<=xs.length->Pv i vs H->SqT K H a xs/\vs.length<=i)
  (hs:∀i x vs H,xs[i]? =some x->Pv i vs H->g x (List.replicate NB.length none) H fun σ2 H2=>tt σ2 H2 fun b H3=>if b=true then te σ2 H3 fun v H4=>Pv (i+1) (vs++[v]) H4 else Pv (i+1) vs H3)
  (hd:∀vs H,Pv xs.length vs H->∀p,H p=none->Q (.ref p) (upd H p (.lst vs))) (hz:xs.length<sizeLine):
  ∃W:Nat->Nat->List V->Hp->Prop,(∃m,W 0 m [] H)/\∀i m vs H,W i m vs H->
   ((Itt K a).stop i H/\∀p,H p=none->Q (.ref p) (upd H p (.lst vs)))\/((Itt K a).go i H/\vs.length<sizeLine/\∃N:List V->Hp->Prop,(∀vs' H',N vs' H'->∃m',m'<m/\W (i+1) m' vs' H')/\
    ∀x H',(Itt K a).yld i H x H'->g x (List.replicate NB.length none) H' fun σ2 H2=>tt σ2 H2 fun b H3=>if b=true then te σ2 H3 fun v H4=>N (vs++[v]) H4 else N vs H3):=by
 refine⟨fun i m vs H=>m=xs.length-i/\i<=xs.length/\Pv i vs H,⟨xs.length,by simp,uQ _,h0⟩,?_⟩;rintro i m vs H ⟨rfl,hi,p⟩;obtain⟨q,hv⟩:=hl i vs H hi p
 by_cases hlt:i<xs.length
 ·refine .inr ⟨⟨xs,xs[i],q,by simp[hlt]⟩,by omega,Pv (i+1),fun vs' H' p'=>⟨xs.length-(i+1),by omega,rfl,hlt,p'⟩,fun x H' y=>?_⟩;obtain⟨e,y⟩:=y;subst e;exact hs i x vs _ (y xs q) p
 ·have e:i=xs.length:=by omega
  subst e;exact .inl ⟨⟨xs,q,uq _⟩,hd vs H p⟩
section
variable {P:Program}{w:World}{K:PySem.W.Frag}{mg:Str->Option Value}{base:Heap}{f:Addr}{fd:FuncData}{tk:Nat->Tok}{c kr:Nat->Addr}
noncomputable def UL(ld pl:List Nat)(many nines:Nat)(o:Option Nat)(tl:Option (List Nat)):Option Facts:=
 match pl,o,tl with
 |[place],some behind,some tail=>
  let fl:Bool:=[43,45,36].contains place
  if fl&&decide (many<2)then none
  else
   let shown:=[ld.take 1,[place],tail].filter (JG.contains ·)
   if shown.length>1 then none
   else
    let before:=many+nines-(if fl then 1 else 0)
    if before+behind>18 then none else some ⟨3,shown.length==1,before,behind⟩
 |_,_,_=>none
theorem kI{rows:List Rw}{ld pl:List Nat}{b many nines b2 b3:Nat}{o:Option Nat}(h1:jQ rows=(ld,rows.drop b))(h2:J5 (rows.drop b)=(pl,many,nines,rows.drop b2))(h3:JS (rows.drop b2) (if nines=0 then pl else[57])=(o,rows.drop b3)):
  Jy rows=UL ld pl many nines o (W0 (rows.drop b3)):=by
 unfold Jy;simp only[h1,h2,h3];rfl
theorem kJ(r:List Rw):(J5 r).1=[]\/∃y,(J5 r).1=[y]:=by
 unfold J5
 split
 ·split
  ·exact .inr ⟨_,rfl⟩
  ·exact .inl rfl
 ·exact .inl rfl
theorem z7{a:Addr}{ls:List (List Nat)}{H:Hp}{Q:VK}(T:Txt K mg tk c kr)(hq:H a=some (.tup (ls.map fun l=>V.str (tx l)))) (hl:ls.length<=3)
  (hd:∀q,H q=none->Q (.ref q) (upd H q (.lst ((ls.filter (JG.contains ·)).map fun l=>V.str (tx l))))):
  ∃W:Nat->Nat->List V->Hp->Prop,(∃m,W 0 m [] H)/\∀i m vs H,W i m vs H->
   ((Itt K a).stop i H/\∀p,H p=none->Q (.ref p) (upd H p (.lst vs)))\/((Itt K a).go i H/\vs.length<sizeLine/\∃N:List V->Hp->Prop,(∀vs' H',N vs' H'->∃m',m'<m/\W (i+1) m' vs' H')/\
    ∀x H',(Itt K a).yld i H x H'->QH 1 x (List.replicate 2 none) H' fun σ2 H2=>VA (tOp (rIn K false) (Xa 1) (tC (.ref (kr 1)))) σ2 H2 fun b H3=>if b=true then Xa 1 σ2 H3 fun v H4=>N (vs++[v]) H4 else N vs H3):=by
 have hz:1000<=sizeLine:=by decide
 refine yo (NB:=["a","b"]) (xs:=ls.map fun l=>V.str (tx l)) (fun i vs H2=>H2=H/\vs=((ls.take i).filter (JG.contains ·)).map fun l=>V.str (tx l)) ⟨rfl,rfl⟩ ?_ ?_ ?_ (by rw[uk];omega)
 ·rintro i vs H2 hi ⟨rfl,rfl⟩;refine⟨SqT.of hq,?_⟩;rw[uk];exact Nat.le_trans (List.length_filter_le _ _) (by rw[uB];omega)
 ·rintro i x vs H2 hx ⟨rfl,rfl⟩;rw[uE]at hx;obtain⟨l,hl1,rfl⟩:=Option.map_eq_some_iff.mp hx;refine⟨_,rfl,kr 1,_,rfl,.inr (T.nh _),rfl,by rw[YC];exact YD _,_,rfl,?_⟩;rw[YC,if_neg (by decide),in_list];have ef:((ls.take (i+1)).filter (JG.contains ·))=((ls.take i).filter (JG.contains ·))++(if JG.contains l then[l]else[]):=by
   rw[List.take_add_one,hl1,List.filter_append]
   by_cases hm:l∈JG<;>simp[hm]
  refine ifB (fun h=>?_) (fun h=>?_)
  ·refine⟨_,rfl,rfl,?_⟩;rw[ef,h,uH];rfl
  ·refine⟨rfl,?_⟩;rw[ef,h];simp
 ·rintro vs H2 ⟨rfl,rfl⟩ q hq2;rw[uk,List.take_length];exact hd q hq2
theorem qL{ls:List (List Nat)}{tl:TE}{NB:List Str}{σ:L2.St}{H:Hp}{Q:VK}(T:Txt K mg tk c kr)(hNB:NB.length=2)(hl:ls.length<=3)
  (h:∀R:VK,(∀p H1,Qk H H1->H1 p=some (.tup (ls.map fun l=>V.str (tx l)))->R (.ref p) H1)->tl σ H R)
  (hd:∀q H1,Qk H H1->H1 q=none->Q (.ref q) (upd H1 q (.lst ((ls.filter (JG.contains ·)).map fun l=>V.str (tx l))))):
  KQ NB (QeD K tl) (QH 1) (VA (tOp (rIn K false) (Xa 1) (tC (.ref (kr 1))))) (Xa 1) σ H Q:=by
 refine h _ fun p H1 S1 g1=>⟨p,rfl,⟨_,SqT.of g1⟩,?_⟩;rw[hNB];exact z7 T g1 hl fun q hq=>hd q H1 S1 hq
theorem kK(l:List Nat):StrLaws.sliceText (tx l) none (some 1)=tx (l.take 1):=by
 cases l with
 |nil=>decide+kernel
 |cons a r=>exact Xy (a::r) (k:=1) (by simp)
noncomputable def kL(K:PySem.W.Frag):Sp:=fun vs H Q _=>∃(p:Addr)(rs:List Addr)(rows:List Rw)(a:Nat),vs=[.ref p,.int (a:Nat)]/\RowsAt K H p rs rows/\a<=rows.length/\
 ∀(pl:List Nat)(many nines b2 b3:Nat)(o:Option Nat),b3<=rows.length->J5 (rows.drop a)=(pl,many,nines,rows.drop b2)->JS (rows.drop b2) (if nines=0 then pl else[57])=(o,rows.drop b3)->∀q H',Qk H H'->H' q=some (.tup [.str (tx pl),.int (many:Nat),.int (nines:Nat),oV o,.int (b3:Nat)])->Q (.ref q) H'
theorem z8(F:Fun K "body_of" "body_of" W3 f fd)(mB:Def P w K mg base 2 "whole_part" ["rows","at"] (qK K))(mm:Def P w K mg base 1 "broken_part" ["rows","at","place"] (YB K)):
  FnOk P w K mg base (CXE P w) 3 f fd ["rows","at"] (kL K):=by
 refine okN F JU (fun vs H Q E h=>?_) (fun cdv A outer s H vs Q E hr h=>?_)
 ·obtain⟨p,rs,rows,a,rfl,_⟩:=h;rfl
 ·obtain⟨p,rs,rows,b,rfl,R,hb,k⟩:=h;have hz:1000<=sizeLine:=by decide
  refine⟨_,(Qe (JB (mB.pe hr (by decide) rfl Qu (Qb (pv 0) (Qb (pv 1) Qc))) (JA rfl (Qn (Qm (i:=2) JU.nd rfl (Or.inl rfl)) (Qn (Qm (i:=3) JU.nd rfl (Or.inl rfl)) (Qn (Qm (i:=4) JU.nd rfl (Or.inl rfl)) (Qn (Qm (i:=1) JU.nd rfl (Or.inl rfl)) QV))))))
   (Qe (JB (mm.pe hr (by decide) rfl Qu (Qb (pv 0) (Qb (pv 1) (Qb (Ze (Ql QZ (pv 4) Qd (Qo _)) (pv 2) Qg) Qc)))) (JA rfl (Qn (Qm (i:=5) JU.nd rfl (Or.inl rfl)) (Qn (Qm (i:=1) JU.nd rfl (Or.inl rfl)) QV))))
   (Qh (QD (QO (Qb (pv 2) (Qb (pv 3) (Qb (pv 4) (Qb (pv 5) (Qb (pv 1) Qc)))))))))),?_⟩
  refine⟨_,rfl,_,rfl,p,rs,rows,b,rfl,R,hb,fun pl many nines b2 hb2 h2 q2 H2 S2 g2=>⟨q2,_,rfl,SqT.of g2,rfl,_,_,rfl,_,_,rfl,_,_,rfl,_,_,rfl,rfl,?_⟩⟩;refine⟨_,rfl,_,rfl,_,rfl,rfl,_,rfl,?_⟩;refine ke (fun x H'=>x=.str (tx (if nines=0 then pl else[57]))/\H'=H2) (fun z rest=>?_) (fun z rest=>?_) ?_
  ·rw[WV]at z;have hn:nines=0:=by have:=of_decide_eq_true z;omega
   rw[if_pos hn]at rest;exact⟨_,rfl,rest _ _ ⟨rfl,rfl⟩⟩
  ·rw[WV]at z;have hn:nines≠0:=by have:=of_decide_eq_false z;omega
   rw[if_neg hn]at rest;exact rest _ _ ⟨by rw[yj],rfl⟩
  rintro x H' ⟨rfl,rfl⟩;refine⟨p,rs,rows,b2,_,rfl,R.same S2,hb2,fun o b3 hb3 h3 q3 hq3=>⟨q3,_,rfl,SqT.of Qa,rfl,_,_,rfl,_,_,rfl,rfl,?_⟩⟩;have S3:=S2.trans (Qk.new (o:=.tup [oV o,.int (b3:Nat)]) hq3);generalize upd H' q3 (.tup [oV o,.int (b3:Nat)])=H3 at S3;refine⟨_,rfl,_,rfl,_,rfl,_,rfl,_,rfl,sL5,fun q4 hq4=>?_⟩;exact k pl many nines b2 b3 o hb3 h2 h3 q4 _ (S3.trans (Qk.new hq4)) Qa
set_option maxHeartbeats 4000000 in
theorem Ve(F:Fun K "edited_facts" "edited_facts" ZF f fd)(O:Own mg)(T:Txt K mg tk c kr)(nQ:Def P w K mg base 2 "lead_of" ["rows"] (kD K))(nR:Def P w K mg base 3 "body_of" ["rows","at"] (kL K))(nS:Def P w K mg base 1 "tail_of" ["rows","at"] (kG K)):
  FnOk P w K mg base (CXE P w) 4 f fd ["rows"] (JZ K Jy):=by
 refine okN F QC (fun vs H Q E h=>?_) (fun cdv A outer s H vs Q E hr h=>?_)
 ·obtain⟨p,rs,rows,rfl,_⟩:=h;rfl
 ·obtain⟨p,rs,rows,rfl,R,k⟩:=h;have hz:1000<=sizeLine:=by decide
  refine⟨_,(Qe (JB (nQ.pe hr (by decide) rfl Qu (Qb (pv 0) Qc)) (JA rfl (Qn (Qm (i:=1) QC.nd rfl (Or.inl rfl)) (Qn (Qm (i:=2) QC.nd rfl (Or.inl rfl)) QV))))
   (Qe (JB (nR.pe hr (by decide) rfl Qu (Qb (pv 0) (Qb (pv 2) Qc))) (JA rfl (Qn (Qm (i:=3) QC.nd rfl (Or.inl rfl)) (Qn (Qm (i:=4) QC.nd rfl (Or.inl rfl)) (Qn (Qm (i:=5) QC.nd rfl (Or.inl rfl)) (Qn (Qm (i:=6) QC.nd rfl (Or.inl rfl)) (Qn (Qm (i:=7) QC.nd rfl (Or.inl rfl)) QV)))))))
   (Qe (QE (i:=8) QC.nd rfl (Or.inl rfl) (nS.pe hr (by decide) rfl Qu (Qb (pv 0) (Qb (pv 7) Qc))))
   (Qe (Jh (PW.pt (ZS (Ql QZ (pv 3) Qg (Qo _)) (ZS (WI (VN (pv 6))) (J3 (WI (VN (pv 8))))))) (Qh (QD Zv)) QI)
   (Qe (QE (i:=9) QC.nd rfl (Or.inl rfl) (Q9 Xc (pv 3) (QB (v:=V.str "+-$") rfl T.gM ⟨_,rfl⟩) (by with_unfolding_all rfl)))
   (Qe (Jh (PW.pt (ZJ (Ji (pv 9) (fun _=>rfl)) (Zq (Ql Ye (pv 4) Qd (Qo _))))) (Qh (QD Zv)) QI)
   (Qe (Wv (NB:=[".0","part"]) (iy:=10) rfl ⟨rfl,by decide+kernel,by decide+kernel,by decide+kernel⟩ (XJ (QO (Qb (QS XM (pv 1) Jl (QX Qd)) (Qb (pv 3) (Qb (pv 8) Qc))))) (fun _ _ _=>(Qm (i:=1) (show([".0","part"]:List Str).Nodup by decide+kernel) rfl (Or.inl rfl))) (fun _ _ _=>(qz (Ql (zV (K0:=K) rfl) (pv 1) (QB (v:=V.ref (kr 1)) rfl T.ng rfl) (by with_unfolding_all rfl)))) (fun _ _ _=>(pv 1)) QC.nd rfl (Or.inl rfl) rfl)
   (Qe (Jh (Ql KM (Qj Qr rfl O.len PySem.boot_len (Qb (pv 10) Qc)) Qd (Qo _)) (Qh (QD Zv)) QI)
   (Qe (QE (i:=11) QC.nd rfl (Or.inl rfl) (QP jD (QP Jd (pv 4) (pv 5)) (Ze (Ji (pv 9) (fun _=>rfl)) Qd Qd)))
   (Qe (Jh (Ql KM (QP Jd (pv 11) (pv 6)) (QB (v:=V.int 18) rfl T.gc ⟨_,rfl⟩) (Qo _)) (Qh (QD Zv)) QI)
   (Qh (QD (QO (Qb Qg (Qb (Q9 QZ (Qj Qr rfl O.len PySem.boot_len (Qb (pv 10) Qc)) Qd (Qo _)) (Qb (pv 11) (Qb (pv 6) Qc))))))))))))))))),?_⟩
  refine⟨_,rfl,p,rs,rows,rfl,R,fun ld b hb hll h1 q1 H1 S1 g1=>⟨q1,_,rfl,SqT.of g1,rfl,_,_,rfl,_,_,rfl,rfl,?_⟩⟩;refine⟨_,rfl,_,rfl,p,rs,rows,b,rfl,R.same S1,hb,fun pl many nines b2 b3 o hb3 h2 h3 q2 H3 S2 g2=>⟨q2,_,rfl,SqT.of g2,rfl,_,_,rfl,_,_,rfl,_,_,rfl,_,_,rfl,_,_,rfl,rfl,?_⟩⟩;have S3:=S1.trans S2;clear g1 g2 S1 S2;have ee:=kI h1 h2 h3;have hone:=kJ (rows.drop b);rw[h2]at hone;refine⟨_,rfl,_,rfl,p,rs,rows,b3,rfl,R.same S3,hb3,fun H4 S4=>?_⟩;have S14:=S3.trans S4;generalize W0 (rows.drop b3)=tl at ee;rw[ee]at k;clear ee h1 h2 h3 S3 S4;refine⟨_,rfl,rfl,_,rfl,?_⟩;rw[yk,Yq];rcases hone with hp|⟨place,hp⟩
  ·have hp2:pl=[]:=hp;subst hp2;rw[uo rfl];exact QQ (QQ (k .non H4 S14 rfl))
  have hp2:pl=[place]:=hp;subst hp2;rw[um (by simp)];refine QN ⟨_,rfl,_,rfl,?_⟩;cases o with
  |none=>exact QQ (QQ (k .non H4 S14 rfl))
  |some behind=>
  refine QN ⟨_,rfl,_,rfl,?_⟩;cases tl with
  |none=>exact QQ (k .non H4 S14 rfl)
  |some tail=>
  refine QN ⟨_,rfl,_,_,rfl,rfl,?_⟩;rw[QcM,V0];generalize hfl:([43,45,36]:List Nat).contains place=fl;have ek:UL ld [place] many nines (some behind) (some tail)=if(fl&&decide (many<2))=true then none else if([ld.take 1,[place],tail].filter (JG.contains ·)).length>1 then none else if many+nines-(if fl=true then 1 else 0)+behind>18 then none else some ⟨3,([ld.take 1,[place],tail].filter (JG.contains ·)).length==1,many+nines-(if fl=true then 1 else 0),behind⟩:=by
   rw[←hfl];rfl
  rw[ek]at k;clear ek;dsimp only;refine jT (fun σ' H'=>σ'=[some (.ref p),some (.str (tx ld)),some (.int (b:Nat)),some (.str (tx [place])),some (.int (many:Nat)),some (.int (nines:Nat)),some (.int (behind:Nat)),some (.int (b3:Nat)),some (.str (tx tail)),some (.bl fl),none,none]/\H'=H4/\¬ (fl&&decide (many<2))=true) ?_ (fun rest=>?_)
  ·rintro σ' H' ⟨rfl,rfl,hfm⟩;rw[if_neg hfm]at k;have hmm:fl=true->2<=many:=fun z=>by
    rcases Nat.lt_or_ge many 2 with q|q
    ·exact absurd (by rw[z,uo q];rfl) hfm
    ·exact q
   dsimp only[XX,JP];refine qL (ls:=[ld.take 1,[place],tail]) T rfl (by simp) (fun R r=>⟨_,rfl,_,rfl,tx ld,rfl,by rw[Qq];omega,_,rfl,_,rfl,sL3,fun p5 hp5=>r p5 _ (Qk.new hp5) (by rw[Qa,kK];rfl)⟩) fun q5 H5 S5 hq5=>?_;have S6:=(S14.trans S5).trans (Qk.new (o:=.lst (([ld.take 1,[place],tail].filter (JG.contains ·)).map fun l=>V.str (tx l))) hq5);have g6:upd H5 q5 (.lst (([ld.take 1,[place],tail].filter (JG.contains ·)).map fun l=>V.str (tx l))) q5=some (.lst (([ld.take 1,[place],tail].filter (JG.contains ·)).map fun l=>V.str (tx l))):=Qa;generalize upd H5 q5 (.lst (([ld.take 1,[place],tail].filter (JG.contains ·)).map fun l=>V.str (tx l)))=H6 at S6 g6;generalize [ld.take 1,[place],tail].filter (JG.contains ·)=sh at g6 k;refine⟨_,rfl,q5,_,rfl,.inl (SqL.of g6),_,_,rfl,rfl,_,rfl,?_⟩;rw[uk]
   by_cases h7:sh.length>1
   ·rw[uo (by omega)];rw[if_pos h7]at k;exact QQ (k .non H6 S6 rfl)
   ·rw[um (by omega)];rw[if_neg h7]at k;refine QN ⟨_,rfl,_,rfl,_,_,rfl,rfl,_,rfl,fl,rfl,?_⟩;have hbf:((many:Nat):Int)+(nines:Nat)-(if fl=true then 1 else 0)=((many+nines-(if fl=true then 1 else 0):Nat):Int):=by
     cases fl with
     |true=>have:=hmm rfl;simp;omega
     |false=>simp
    refine ke (fun x H'=>x=.int (if fl=true then 1 else 0)/\H'=H6) (fun z rest=>rest _ _ ⟨by rw[if_pos z],rfl⟩) (fun z rest=>rest _ _ ⟨by rw[if_neg (by rw[z];decide)],rfl⟩) ?_;rintro x H7 ⟨rfl,rfl⟩;refine⟨_,_,rfl,rfl,?_⟩;dsimp only[QH];rw[hbf];generalize many+nines-(if fl=true then 1 else 0)=before at k;refine⟨_,rfl,_,rfl,_,_,rfl,rfl,_,_,rfl,rfl,_,rfl,?_⟩
    by_cases h8:before+behind>18
    ·rw[uo (by omega)];rw[if_pos h8]at k;exact QQ (k .non H7 S6 rfl)
    ·rw[um (by omega)];rw[if_neg h8]at k;refine QN ⟨_,rfl,q5,_,rfl,.inl (SqL.of g6),rfl,_,rfl,_,rfl,sL4,fun q9 hq9=>?_⟩;refine k _ _ (S6.trans (Qk.new hq9)) ⟨q9,rfl,?_⟩;rw[Qa,uk,WV];have e9:decide ((sh.length:Int)=1)=(sh.length==1):=by
      by_cases z:sh.length=1
      ·rw[z];rfl
      ·rw[um (by omega)];exact(beq_eq_false_iff_ne.mpr z).symm
     rw[e9];rfl
  ·refine⟨_,rfl,fl,rfl,?_⟩;cases fl with
   |false=>
    exact QN (QN (rest _ _ ⟨rfl,rfl,by simp⟩))
   |true=>
    refine QQ ⟨_,rfl,_,_,rfl,rfl,_,rfl,?_⟩
    by_cases h6:many<2
    ·rw[uo (by omega)];refine QQ (k .non H4 S14 ?_);rw[uo h6];rfl
    ·rw[um (by omega)];exact QN (rest _ _ ⟨rfl,rfl,by rw[um h6];decide⟩)
end
section
variable {P:Program}{w:World}{K:PySem.W.Frag}{mg:Str->Option Value}{base:Heap}{f:Addr}{fd:FuncData}{tk:Nat->Tok}{c kr:Nat->Addr}
theorem FV.isN{o:Option Facts}{v:V}{H:Hp}(h:FV o v H):decide (v=.non)= !o.isSome:=by
 cases o with
 |none=>rw[show v=.non from h];rfl
 |some x=>obtain⟨q,h1,h2⟩:=h;rw[h1];rfl
set_option maxHeartbeats 1000000 in
theorem qM(F:Fun K "facts_of" "facts_of" KZ f fd)(gZ:Def P w K mg base 1 "number_facts" ["rows"] (JZ K Jb))(mn:Def P w K mg base 1 "plain_facts" ["rows"] (JZ K Zl))(ma:Def P w K mg base 4 "edited_facts" ["rows"] (JZ K Jy)):
  FnOk P w K mg base (CXE P w) 5 f fd ["rows"] (JZ K JH):=by
 refine okN F ZZ (fun vs H Q E h=>?_) (fun cdv A outer s H vs Q E hr h=>?_)
 ·obtain⟨p,rs,rows,rfl,_⟩:=h;rfl
 ·obtain⟨p,rs,rows,rfl,R,k⟩:=h;refine⟨_,(Qe (QE (i:=1) ZZ.nd rfl (Or.inl rfl) (gZ.pe hr (by decide) rfl Qu (Qb (pv 0) Qc)))
   (Qe (Jh (WI (VN (pv 1))) (Qh (QE (i:=1) ZZ.nd rfl (Or.inl rfl) (mn.pe hr (by decide) rfl Qu (Qb (pv 0) Qc)))) QI)
   (Qe (Jh (WI (VN (pv 1))) (Qh (QE (i:=1) ZZ.nd rfl (Or.inl rfl) (ma.pe hr (by decide) rfl Qu (Qb (pv 0) Qc)))) QI)
   (Qh (QD (pv 1)))))),?_⟩
  refine⟨_,rfl,p,rs,rows,rfl,R,fun v1 H1 S1 f1=>?_⟩;refine⟨_,rfl,_,rfl,?_⟩;rw[f1.isN];cases e1:Jb rows with
  |some x=>
   rw[e1]at f1;have ef:JH rows=some x:=by unfold JH;rw[e1]
   refine QN ⟨_,rfl,_,rfl,?_⟩;rw[f1.isN];refine QN ⟨_,rfl,k v1 H1 S1 ?_⟩;rw[ef];exact f1
  |none=>
   refine QQ ⟨_,rfl,p,rs,rows,rfl,R.same S1,fun v2 H2 S2 f2=>?_⟩;refine⟨_,rfl,_,rfl,?_⟩;rw[f2.isN];cases e2:Zl rows with
   |some x=>
    rw[e2]at f2;have ef:JH rows=some x:=by unfold JH;rw[e1,e2]
    refine QN ⟨_,rfl,k v2 H2 (S1.trans S2) ?_⟩;rw[ef];exact f2
   |none=>
    have ef:JH rows=Jy rows:=by unfold JH;rw[e1,e2]
    refine QQ ⟨_,rfl,p,rs,rows,rfl,(R.same S1).same S2,fun v3 H3 S3 f3=>⟨_,rfl,k v3 H3 ((S1.trans S2).trans S3) ?_⟩⟩;rw[ef];exact f3
noncomputable def qN(K:PySem.W.Frag):Sp:=fun vs H Q _=>∃(v:V)(b:Bool),vs=[v]/\((∃l,v=.str (tx l)/\l.length<=500/\b=(ZX l).isSome)\/(Qea v H/\b=false))/\∀H',Qk H H'->Q (.bl b) H'
theorem kM:JH []=none:=by decide
theorem YE(F:Fun K "is_picture" "is_picture" Xk f fd)(gY:Def P w K mg base 4 "rows_of" ["thing"] (jS K))(gN:Def P w K mg base 5 "facts_of" ["rows"] (JZ K JH)):
  FnOk P w K mg base (CXE P w) 6 f fd ["thing"] (qN K):=by
 refine okN F Yt (fun vs H Q E h=>?_) (fun cdv A outer s H vs Q E hr h=>?_)
 ·obtain⟨v,b,rfl,_⟩:=h;rfl
 ·obtain⟨v,b,rfl,hv,k⟩:=h;refine⟨_,(Qh (QD (Qci (QaY (gN.pe hr (by decide) rfl Qu (Qb (gY.pe hr (by decide) rfl Qu (Qb (pv 0) Qc)) Qc)))))),?_⟩;obtain⟨rows,hr1,hb⟩:∃rows,((∃l,v=.str (tx l)/\l.length<=500/\rows=rowsOf l)\/(Qea v H/\rows=[]))/\b=(JH rows).isSome:=by
   rcases hv with⟨l,rfl,hl,rfl⟩|⟨hv,rfl⟩
   ·exact⟨_,.inl ⟨l,rfl,hl,rfl⟩,rfl⟩
   ·exact⟨[],.inr ⟨hv,rfl⟩,by rw[kM];rfl⟩
  refine⟨_,rfl,v,rows,rfl,hr1,fun p rs H1 S1 R1=>⟨p,rs,rows,rfl,R1,fun v2 H2 S2 f2=>?_⟩⟩;show Q (.bl (!decide (v2=.non))) H2;rw[f2.isN,Bool.not_not, ←hb];exact k H2 (S1.trans S2)
noncomputable def qO(K:PySem.W.Frag)(c:Nat->Addr):Sp:=fun vs H Q E=>∃l:List Nat,vs=[.str (tx l)]/\l.length<=500/\(ZX l=none->∀H',Qk H H'->E (.ref (c 1)) none H')/\
 (∀x,ZX l=some x->∀q p rs r H',Qk H H'->H' q=some (.tup [.ref p,.ref r])->H' r=some (fO x)->RowsAt K H' p rs (rowsOf l)->Q (.ref q) H')
theorem YF(F:Fun K "understood" "understood" Zx f fd)(T:Txt K mg tk c kr)(gY:Def P w K mg base 4 "rows_of" ["thing"] (jS K))(gN:Def P w K mg base 5 "facts_of" ["rows"] (JZ K JH)):
  FnOk P w K mg base (CXE P w) 6 f fd ["picture"] (qO K c):=by
 refine okE F ZY (fun vs H Q E h=>?_) (fun cdv A outer s H vs Q E hr h=>?_)
 ·obtain⟨l,rfl,_⟩:=h;rfl
 ·obtain⟨l,rfl,hl,k1,k2⟩:=h;have hz:1000<=sizeLine:=by decide
  have fr:=qv (P:=P) (w:=w) (K:=K) (mg:=mg) (base:=base) (N:=["picture","rows","facts"]) (qual:="understood") (scope:=Qf Zx) (f:=f) (cd:=cdv) (A:=A) (outer:=outer) (s:=s) (H:=H) (E:=E);have ht:=Uv fr;have hx:=ZM fr;refine⟨_,(Qe (QE (i:=1) ZY.nd rfl (Or.inl rfl) (gY.pe hr (by decide) rfl hx (Qb (pv 0) Qc)))
   (Qe (QE (i:=2) ZY.nd rfl (Or.inl rfl) (gN.pe hr (by decide) rfl hx (Qb (pv 1) Qc)))
   (Qe (Jh (WI (VN (pv 2))) (Qh (jL ht rfl rfl T.pD T.pP (Qb Qg Qc))) QI)
   (Qh (QD (QO (Qb (pv 1) (Qb (pv 2) Qc)))))))),?_⟩
  refine⟨_,rfl,_,rowsOf l,rfl,.inl ⟨l,rfl,hl,rfl⟩,fun p rs H1 S1 R1=>⟨_,rfl,p,rs,rowsOf l,rfl,R1,fun v2 H2 S2 f2=>?_⟩⟩;refine⟨_,rfl,_,rfl,?_⟩;rw[f2.isN];cases e:JH (rowsOf l)with
  |none=>exact QQ ⟨sL1,k1 e _ (S1.trans S2)⟩
  |some x=>
   rw[e]at f2;obtain⟨r,rfl,g⟩:=f2;refine QN ⟨_,rfl,_,rfl,sL2,fun q hq=>?_⟩;have S3:=Qk.new (o:=.tup [.ref p,.ref r]) hq;exact k2 x e q p rs r _ ((S1.trans S2).trans S3) Qa (S3 _ _ g) ((R1.same S2).same S3)
end
end Lw
namespace K04
open PySem PySem.NumText K02
open K02 PySem.NumText
noncomputable def Qcb(c:Nat):Bool:= !([83,86]:List Nat).contains c
end K04
namespace L2
open PySem PySem.Spec PyProof.Rows
open Builtin Builtin.Str
structure Bag(K:PySem.W.Frag)(H:Hp)(a t r:Addr)(ns:List Int)(c:Int):Prop where
 sq:SqL K H a (ns.map V.int)
 tw:∃rs,TownAt H t r c rs
 nat:a≠t
 nar:a≠r
 ln:ns.length<=63
section
variable {K:PySem.W.Frag}{H H':Hp}{a t r:Addr}{ns:List Int}{c c':Int}
theorem Bag.drawn(B:Bag K H a t r ns c)(A:Apart t r H H'){rs:List (Key × V)}(T:TownAt H' t r c' rs):Bag K H' a t r ns c':=
 ⟨A.seq B.sq B.nat B.nar,⟨rs,T⟩,B.nat,B.nar,B.ln⟩
theorem Bag.same(B:Bag K H a t r ns c)(e:Qk H H'):Bag K H' a t r ns c:=by
 obtain⟨rs,T⟩:=B.tw;exact⟨(Apart.of e).seq B.sq B.nat B.nar,⟨rs,T.same e⟩,B.nat,B.nar,B.ln⟩
theorem LawSt.bag{Pa:Addr}{q:Str}(S:LawSt H a t r Pa q ns c):Bag K H a t r ns c:=⟨S.sq,S.tw,S.nat,S.nar,S.ln⟩
theorem Bag.draw{σ:St}{i j:Nat}{n:Int}{tn:TE}{Q:VK}{E:XK}(B:Bag K H a t r ns c)(hi:σ[i]? =some (some (.ref a)))(hj:σ[j]? =some (some (.ref t)))(hn:∀R:VK,R (.int n) H->tn σ H R) (h0:0<n) (h1:n<1000000) (hc:c<100000)
  (k:∀(d:Nat)(H':Hp),(d:Int)<n->Bag K H' a t r ns (c+1)->Apart t r H H'->Q (.int d) H'):VB (WW K) [] E (Ja (Xa i) (Ja (Xa j) (Ja tn WO))) σ H Q:=by
 obtain⟨rs,T⟩:=B.tw;refine⟨_,hi,_,hj,hn _ ⟨a,t,r,ns,c,n,rs,rfl,B.sq,T,B.nat,B.nar,B.ln,hc,h0,h1,fun v rs' H' v0 v1 T' A'=>?_⟩⟩;obtain⟨d,rfl⟩:=Int.eq_ofNat_of_zero_le v0;exact k d H' v1 (B.drawn A' T') A'
theorem Bag.keep(B:Bag K H a t r ns c)(A:Apart t r H H'){b:Addr}{o:HO}(e:H b=some o)(n:∀kvs,o≠ .dK kvs):H' b=some o:=by
 obtain⟨rs,T⟩:=B.tw;refine A b o e (fun z=>?_) fun z=>?_
 ·rw[z,T.tw]at e;cases e;exact n _ rfl
 ·rw[z,T.rt]at e;cases e;exact n _ rfl
end
theorem DefAt.QcO{P:Program}{w:World}{K:PySem.W.Frag}{mg:Str->Option Value}{base h:Heap}{x:Str}{st:Stmt}{k:Nat}{sp:Sp}{p1:Str}(D:DefAt K x st)(X:K.In h)(G:h.Ns mainGlobals mg)(hok:∀f fd,Fun K x x st f fd->FnOk P w K mg base (CXE P w) k f fd [p1] sp)
  (hb:∀(kV doc pm:Value)(an:Option Addr)(cdv ct:Value)(v:Value),bindArgs (fnOf x x (JR st) (Q3 st) (Qf st) .none kV doc pm an cdv ct) ⟨[],[(p1,v)]⟩=pure [(p1,v)]):DefK0 P w K mg base k x p1 sp:=by
 obtain⟨f,fd,a,F⟩:=D.ex;refine⟨f,fd,mg_of X G a,F.kp,fun s v _=>?_,hok f fd F⟩;obtain⟨oc,od,kV,doc,pm,an,cdv,ct,osl,rfl,lk,hcd⟩:=F.ex;exact .of_eq (hb kV doc pm an cdv ct v)
end L2
namespace Lw
open PySem PySem.Spec PyProof.Rows L2 K02 K04
open Builtin Builtin.Str StrLaws
section
variable {P:Program}{w:World}{K:PySem.W.Frag}{mg:Str->Option Value}{base:Heap}{f:Addr}{fd:FuncData}{tk:Nat->Tok}{c kr:Nat->Addr}
theorem z9{p:Addr}{rs:List Addr}{rows:List Rw}{te:TE}{tt:TT}{NB:List Str}{n i:Nat}{σ:L2.St}{H:Hp}{Q:VK}(val:Rw->V)(ok:Rw->Bool)(hNB:NB.length=3)(hn:n=2)(hσ:σ[i]? =some (some (.ref p)))(R:RowsAt K H p rs rows)
  (htt:∀x∈rows,∀(H1:Hp)(R:Bool->Hp->Prop),R (ok x) H1->tt [none,some (.str (tx [x.1])),some (.int (x.2:Nat))] H1 R)
  (hte:∀x∈rows,∀(H1:Hp)(Q:VK),(∀H2,Qk H1 H2->Q (val x) H2)->te [none,some (.str (tx [x.1])),some (.int (x.2:Nat))] H1 Q)
  (hd:∀q H1,Qk H H1->H1 q=none->Q (.ref q) (upd H1 q (.lst ((rows.filter ok).map val)))):
  KQ NB (qj K (Xa i)) (Qcl K n (qi (QH 1) (qi (QH 2) Qdv))) tt te σ H Q:=by
 have hz:1000<=sizeLine:=by decide
 have hl:=R.le;have hlen:=R.len;refine⟨_,hσ,p,rfl,⟨_,R.sq⟩,?_⟩;refine Vb (xs:=rs.map V.ref) (fun i vs H2=>Qk H H2/\vs=((rows.take i).filter ok).map val) ⟨Qk.refl H,rfl⟩ ?_ ?_ ?_ (by omega)
 ·rintro i vs H2 hi ⟨S,rfl⟩;exact⟨(R.same S).sq,by rw[uk];exact Nat.le_trans (List.length_filter_le _ _) (by rw[uB];omega)⟩
 ·rintro i x vs H2 hx ⟨S,rfl⟩;rw[uE]at hx;obtain⟨r,hr,rfl⟩:=Option.map_eq_some_iff.mp hx;obtain⟨y,hy,g⟩:=(R.same S).rw.at' hr;subst hn;rw[hNB];have hm:=uF hy;have htk:(rows.take (i+1)).filter ok=(rows.take i).filter ok++if ok y=true then[y]else[]:=by
   rw[List.take_add_one,hy,List.filter_append]
   congr 1
   show List.filter ok [y]=_;rw[List.filter_cons];rfl
  refine⟨r,_,rfl,SqT.of g,rfl,_,_,rfl,_,_,rfl,rfl,?_⟩;refine htt y hm _ _ ?_;rw[htk];cases ok y with
  |true=>exact QQ (hte y hm _ _ fun H3 S3=>⟨S.trans S3,by simp⟩)
  |false=>exact QN ⟨S,by simp⟩
 ·rintro vs H2 ⟨S,rfl⟩ q hq;rw[List.take_of_length_le (by omega)];exact hd q H2 S hq
noncomputable def szp(l:List Nat):Nat:=(((rowsOf l).filter fun x=>Qcb x.1).map fun x=>x.2).sum
noncomputable def UM(l:List Nat):Prop:=(ZX l).isSome=true/\l.length<=500
noncomputable def kN:Sp:=fun vs H Q _=>∃l:List Nat,vs=[.str (tx l)]/\UM l/\∀H',Qk H H'->Q (.int (szp l:Nat)) H'
theorem xb(F:Fun K "size_of" "size_of" Kn f fd)(O:Own mg)(mC:Def P w K mg base 6 "understood" ["picture"] (qO K c)):FnOk P w K mg base (CXE P w) 7 f fd ["picture"] kN:=by
 refine okE F KW (fun vs H Q E h=>?_) (fun cdv A outer s H vs Q E hr h=>?_)
 ·obtain⟨l,rfl,_⟩:=h;rfl
 ·obtain⟨l,rfl,⟨hp,hll⟩,k⟩:=h;have fr:=qv (P:=P) (w:=w) (K:=K) (mg:=mg) (base:=base) (N:=["picture","rows","facts"]) (qual:="size_of") (scope:=Qf Kn) (f:=f) (cd:=cdv) (A:=A) (outer:=outer) (s:=s) (H:=H) (E:=E);have hx:=ZM fr;have e83:("S":Str)=tx [83]:=by decide+kernel
  have e86:("V":Str)=tx [86]:=by decide+kernel
  refine⟨_,(Qe (JB (mC.pe hr (by decide) rfl hx (Qb (pv 0) Qc)) (JA rfl (Qn (Qm (i:=1) KW.nd rfl (Or.inl rfl)) (Qn (Qm (i:=2) KW.nd rfl (Or.inl rfl)) QV))))
   (Qh (QD (Qj (Yo rfl) rfl O.sum L2.boot_sum (Qb (Jo (NB:=[".0","symbol","many"]) rfl ⟨rfl,by decide+kernel,by decide+kernel,by decide+kernel⟩ (Zb (pv 1)) (fun _ _ _=>(Vc (K0:=K) (n:=2) rfl rfl (Qn (Qm (i:=1) (show([".0","symbol","many"]:List Str).Nodup by decide+kernel) rfl (Or.inl rfl) (Or.inr rfl)) (Qn (Qm (i:=2) (show([".0","symbol","many"]:List Str).Nodup by decide+kernel) rfl (Or.inl rfl) (Or.inr rfl)) QV)))) (fun _ _ _=>(qz (PW.pt (ZJ (Ql Kd (pv 1) Qg (Qo _)) (Zq (Ql Kd (pv 1) Qg (Qo _))))))) (fun _ _ _=>(pv 2))) Qc))))),?_⟩
  refine⟨_,rfl,l,rfl,hll,(fun z=>by rw[z]at hp;cases hp),fun x2 e q p rs r H1 S1 g1 g2 R1=>?_⟩;refine⟨q,_,rfl,SqT.of g1,rfl,_,_,rfl,_,_,rfl,rfl,?_⟩;dsimp only[QaZ,tCB,Ja,WO];refine z9 (p:=p) (rs:=rs) (rows:=rowsOf l) (fun x=>.int (x.2:Nat)) (fun x=>Qcb x.1) rfl rfl rfl R1 (fun x hx H1 R h=>?_) (fun x hx H1 Q h=>⟨_,rfl,h _ (Qk.refl _)⟩) (fun q H2 S hq=>?_)
  ·have hd:Qcb x.1=(!decide (x.1=83)&& !decide (x.1=86)):=by
    unfold Qcb
    by_cases z1:x.1=83<;>by_cases z2:x.1=86<;>simp[z1,z2]
   rw[hd]at h;refine⟨_,rfl,rfl,_,rfl,?_⟩;rw[e83,Zs];cases h1:decide (x.1=83)with
   |true=>rw[h1]at h;exact QN h
   |false=>
    rw[h1]at h;refine QQ ⟨_,rfl,rfl,_,rfl,?_⟩;rw[e86,Zs];exact h
  ·have em:(((rowsOf l).filter fun x=>Qcb x.1).map fun x=>V.int (x.2:Nat))=(((rowsOf l).filter fun x=>Qcb x.1).map fun x=>((x.2:Nat):Int)).map V.int:=by rw[uM];rfl
   have es:∀rows:List Rw,(rows.map fun x=>((x.2:Nat):Int)).sum=(((rows.map (·.2)).sum:Nat):Int):=by
    intro rows
    induction rows with
    |nil=>rfl
    |cons y r ih=>rw[uN,List.sum_cons,ih,uN,List.sum_cons];push_cast;rfl
   rw[em];refine⟨q,_,rfl,SqL.of Qa,?_⟩;rw[es];unfold szp at k;exact k _ (S1.trans (S.trans (Qk.new hq)))
end
end Lw
namespace L2
open PySem PySem.Spec PyProof.Rows
noncomputable def kO(scope:Scope)(env:Env)(C:Addr):Env:=
 {scope:=relabel scope env,locals:=C,globals:=env.globals,cells:=JE env.cells scope.names [],qual:=env.qual,func:=none,code:=env.code,frame:=env.frame,builtins:=env.builtins}
noncomputable abbrev Zt(X:Cx)(NB:List Str)(scope:Scope)(s:Shared)(H:Hp)(ex:List Addr):Cx:=
 {X with N:=NB,s₀:=s,H₀:=H,env:=kO scope X.env s.heap.objs.size,outer:=X.stack,ex:=ex,fn:=fun _=>false,pn:=[],xe:=fun _ _=>False}
structure BlkScopeF(NB FR:List Str)(scope:Scope):Prop where
 kind:scope.kind=.function
 nd:(NB++FR).Nodup
 nocell:∀y∈scope.names,y.2≠ .cell
 loc:∀y∈scope.names,y.2=.local->scope.names.lookup y.1=some .local
 nd2:(scope.names.map (·.1)).Nodup
 fr:∀y∈FR,(y,NameKind.free)∈scope.names
noncomputable def UN(n:Nat)(fi:List Nat)(wi:TI)(g:TG)(tt:TT)(te:TE):TE:=fun σ H Q=>wi σ H fun J H1=>∃fv:List V,fi.map (fun i=>σ[i]?)=fv.map (fun v=>some (some v))/\∃W:Nat->Nat->List V->Hp->Prop,(∃m,W 0 m [] H1)/\∀i m vs H,W i m vs H->
 (J.stop i H/\∀p,H p=none->Q (.ref p) (upd H p (.lst vs)))\/(J.go i H/\vs.length<sizeLine/\∃N:List V->Hp->Prop,(∀vs' H',N vs' H'->∃m',m'<m/\W (i+1) m' vs' H')/\
  ∀x H',J.yld i H x H'->g x (List.replicate n none++fv.map some) H' fun σ2 H2=>σ2.drop n=fv.map some/\tt σ2 H2 fun b H3=>if b=true then te σ2 H3 fun v H4=>N (vs++[v]) H4 else N vs H3)
noncomputable def reF(env:Env)(x:Str × NameKind):Str × NameKind:=if(x.2==NameKind.free&&env.scope.kind==.function&&env.kindOf x.1==some .cell)then(x.1,NameKind.cell)else(x.1,x.2)
theorem jU(env:Env){x:Str × NameKind}{y:Str}(h:y≠x.1)(l:List (Str × NameKind)):(reF env x::l).lookup y=l.lookup y:=by
 have hb:(y==x.1)=false:=beq_eq_false_iff_ne.mpr h;unfold reF
 split<;>rw[List.lookup_cons,hb]
theorem UO{env:Env}{scope:Scope}{y:Str}(nd:(scope.names.map (·.1)).Nodup)(h:(y,NameKind.free)∈scope.names)(hk:(env.scope.kind==.function)=true)(hc:env.scope.names.lookup y=some .cell):(relabel scope env).names.lookup y=some .cell:=by
 have key:∀l:List (Str × NameKind),(l.map (·.1)).Nodup->(y,NameKind.free)∈l->(l.map (reF env)).lookup y=some .cell:=by
  intro l
  induction l with
  |nil=>intro _ h;cases h
  |cons z r ih=>
   intro nd h;rw[uN,List.nodup_cons]at nd;rw[uN];rcases List.mem_cons.mp h with h|h
   ·subst h;have e:(env.kindOf y==some NameKind.cell)=true:=by rw[show env.kindOf y=env.scope.names.lookup y from rfl,hc];rfl
    have e2:reF env (y,NameKind.free)=(y,NameKind.cell):=by unfold reF;rw[if_pos (by rw[hk,e];rfl)]
    rw[e2,List.lookup_cons,beq_self_eq_true]
   ·have hne:y≠z.1:=fun q=>nd.1 (by rw[←q];exact List.mem_map.mpr ⟨_,h,rfl⟩);rw[jU env hne];exact ih nd.2 h
 exact key scope.names nd h
theorem UP{env:Env}{scope:Scope}{y:Str}(nc:∀y∈scope.names,y.2≠ .cell) (h:(relabel scope env).names.lookup y=some .cell\/(relabel scope env).names.lookup y=some .free):(y,NameKind.free)∈scope.names:=by
 have key:∀l:List (Str × NameKind),(∀y∈l,y.2≠ .cell)->((l.map (reF env)).lookup y=some .cell\/(l.map (reF env)).lookup y=some .free)->(y,NameKind.free)∈l:=by
  intro l
  induction l with
  |nil=>intro _ h;rcases h with h|h<;>simp at h
  |cons z r ih=>
   intro nc h;have hk:z.2≠ .cell:=nc z uA;rw[uN]at h
   by_cases hn:y=z.1
   ·obtain⟨n,k⟩:=z;have hn:y=n:=hn;subst hn;have hf:k=.free:=by
     cases k with
     |cell=>exact absurd rfl hk
     |free=>rfl
     |_=>
      have e2:∀q:NameKind,(q==NameKind.free)=false->reF env (y,q)=(y,q):=fun q hq=>by unfold reF;rw[if_neg (by rw[show((y,q).2==NameKind.free)=false from hq];simp)]
      rw[e2 _ rfl,List.lookup_cons,beq_self_eq_true]at h;rcases h with h|h<;>cases h
    rw[hf];exact uA
   ·rw[jU env hn]at h;exact uz _ (ih (fun y hy=>nc y (uz _ hy)) h)
 exact key scope.names nc h
theorem XO:∀(l:List (Str × NameKind))(n:Nat)(acc:List (Str × Addr)),(∀y∈l,y.2≠ .cell)->cellsFrom n l acc=acc
 |[],_,_,_=>rfl
 |(x,k)::r,n,acc,h=>by
  have hk:(k==NameKind.cell)=false:=beq_eq_false_iff_ne.mpr (h (x,k) uA);unfold cellsFrom;rw[hk];exact XO r n acc fun y hy=>h y (uz _ hy)
theorem XQ:∀(l:List (Str × NameKind))(h:Heap),(∀y∈l,y.2≠ .cell)->pushCells h l=h
 |[],_,_=>rfl
 |(x,k)::r,h,hn=>by
  have hk:(k==NameKind.cell)=false:=beq_eq_false_iff_ne.mpr (hn (x,k) uA);unfold pushCells;rw[hk];exact XQ r h fun y hy=>hn y (uz _ hy)
theorem Vf{M:Model}{A:Around}{E:Value->Shared->Prop}{s:Shared}{scope:Scope}{globals:Addr}{qual:Str}{env:Env}{cl:List (Str × Addr)}{Q:Env->Shared->Prop}(hk:scope.kind=.function)(hn:∀y∈scope.names,y.2≠ .cell)
  (hQ:∀cenv s',cenv={scope:=scope,locals:=s.heap.objs.size,globals:=globals,cells:=cl,qual:=qual,func:=none,code:=env.code,frame:=env.frame,builtins:=env.builtins}->
   InCall s s.heap.objs.size (fun _=>none) s'->Q cenv s'):
  wpAny M A (newFunctionEnv scope globals cl [] qual none .none (some env)) Q E s:=by
 simp only[newFunctionEnv,Option.isSome_some,if_true];refine wpAny_bind (wpAny_alloc ?_);refine wpAny_bind (wpAny_layCells _ (fun name kind cells=>by cases hkc:kind==NameKind.cell<;>simp[hkc]) _ _ _ _ ?_);rw[XO _ _ _ hn,XQ _ _ hn];refine wpAny_bind (wpAny_pure (wpAny_pure (hQ _ _ rfl ?_)));exact⟨⟨_,_,rfl⟩,Heap.Ns.new s.heap (.type "dict"),fun b o e=>Heap.get?_push_of_some _ e,uq _⟩
section
variable {X:Cx}
theorem kP{elt tg iter:Expr}{ifs:List Expr}{scope:Scope}{pos:Pos}{NB FR:List Str}{fi:List Nat}{wi:TI}{g:TG}{tt:TT}{te:TE}(hc:X.calm=true)(S:BlkScopeF NB FR scope)(hfree:kc scope X.env.scope=true)(hfi:fi.map (fun i=>X.N[i]?)=FR.map some) (hi:PI X tg iter wi)
  (hg:∀s H ex,PG (Zt X (NB++FR) scope s H ex) tg g) (ht:∀s H ex,PTs (Zt X (NB++FR) scope s H ex) ifs tt) (he:∀s H ex,PE (Zt X (NB++FR) scope s H ex) elt te)
  (hs:∀x,foldedSetIterable iter X.env x=pure x:=by intro _;rfl):PE X (.ListComp elt [⟨tg,iter,ifs,0⟩] scope pos) (UN NB.length fi wi g tt te):=by
 intro pins s σ H Q I h;have hfc:∀y∈scope.names,y.2=.free->X.env.scope.names.lookup y.1=some .cell:=UA hfree;have hasF:∀y∈scope.names,y.2=.free->∃c,X.env.cells.lookup y.1=some c:=fun y hy e=>I.ok.has y.1 (.inl (hfc y hy e));have clook:∀y c,(JE X.env.cells scope.names []).lookup y=some c->X.env.cells.lookup y=some c:=fun y c e=>WU scope.names [] hasF (fun z=>nomatch z) e;rw[eval_ListComp];refine wpAny_comprehension_free (use:=none) (cl:=JE X.env.cells scope.names []) rfl hs (ZW hasF) S.kind S.loc (thn (hi pins s σ H _ I h) fun v s1 h1=>thn h1 fun itv s2 h2=>?_);obtain⟨it,fp,tn,J,H2,e,I2,T,st2,f2,fv,hfv,W,⟨m0,w0⟩,turn⟩:=h2;subst e;refine wpAny_newObj_type ?_;have up2:∀b o,s2.heap.get? b=some o->(s2.heap.push {cls:=.type "list",data:=.seq ([]:List Value).toArray}).get? b=some o:=fun b o e=>Heap.get?_push_of_some _ e;have I3:Inv X pins σ H2 {s2 with heap:=s2.heap.push {cls:=.type "list",data:=.seq ([]:List Value).toArray}}:=I2.kept (t':=s2.toks) up2;have st3:tn 0 (s2.heap.push {cls:=.type "list",data:=.seq ([]:List Value).toArray}):=T.keep _ _ _ st2 fun b _ o e=>up2 b o e;have hD3:(s2.heap.push {cls:=.type "list",data:=.seq ([]:List Value).toArray}).get? s2.heap.objs.size=some (XH []):=Heap.get?_push_size _ rfl;have hD2:H2 s2.heap.objs.size=none:=I2.hok.fresh (uq _);have lt2:∀b o,s2.heap.get? b=some o->b≠s2.heap.objs.size:=fun b o e=>Nat.ne_of_lt (Heap.lt_size e);have fpO:∀b∈fp,∃o,s2.heap.get? b=some o:=fun b hb=>let ⟨o,e,_⟩:=T.obj _ _ st2 b hb;⟨o,e⟩;have hDs0:X.s₀.heap.objs.size<=s2.heap.objs.size:=I2.sz;have hDL:s2.heap.objs.size≠X.env.locals:=Nat.ne_of_gt I2.lt;have hDC:∀x c,X.env.cells.lookup x=some c->c≠s2.heap.objs.size:=fun x c e=>let ⟨v,o,e1,_⟩:=I2.cell x c e;lt2 c o e1;have hDp:∀p∈X.pn++pins,p.1≠s2.heap.objs.size:=fun p hp=>lt2 p.1 _ (I2.pin p hp).1;have hDf:s2.heap.objs.size∉frs X.stack:=fun z=>let ⟨o,e,_⟩:=(I2.stack.mem z).2;lt2 _ o e rfl;generalize hS3:({s2 with heap:=s2.heap.push {cls:=.type "list",data:=.seq ([]:List Value).toArray}}:Shared)=s3 at I3 ⊢;have hh3:s3.heap=s2.heap.push {cls:=.type "list",data:=.seq ([]:List Value).toArray}:=by rw[←hS3]
 rw[←hh3]at st3 hD3 up2;generalize s2.heap.objs.size=D at hD3 hD2 lt2 hDs0 hDL hDC hDp hDf ⊢;refine Vf S.kind S.nocell fun cenv s4 hce x4=>?_;subst hce;have lt3:∀b o,s3.heap.get? b=some o->b<s3.heap.objs.size:=fun b o e=>Heap.lt_size e;have fp3:∀b∈fp,b<s3.heap.objs.size:=fun b hb=>let ⟨o,e⟩:=fpO b hb;lt3 b o (up2 b o e);have dl3:D<s3.heap.objs.size:=lt3 D _ hD3;have DfpN:∀b∈fp,b≠D:=fun b hb=>let ⟨o,e⟩:=fpO b hb;lt2 b o e;obtain⟨h4,tk4,rfl,hk4⟩:=x4.done;have bsN:∀b o,X.base.get? b=some o->b∉D::fp:=fun b o e hb=>by
  rcases List.mem_cons.mp hb with rfl|hb
  ·exact absurd (Nat.lt_of_lt_of_le (Heap.lt_size (I2.ok.bs b o e).1) hDs0) (uR _)
  ·obtain⟨_,_,_,f3,_⟩:=f2 b hb;rcases f3 with z|z
   ·exact I2.ok.noex b o e z
   ·exact absurd (Nat.lt_of_lt_of_le (Heap.lt_size (I2.ok.bs b o e).1) z) (uR _)
 have exF:∀b∈D::fp,b∉frs X.stack:=fun b hb hf=>by
  rcases List.mem_cons.mp hb with rfl|hb
  ·exact hDf hf
  ·obtain⟨_,f1,f2',_⟩:=f2 b hb;rcases List.mem_cons.mp (I2.Kc b hf)with z|z
   ·exact f1 z
   ·exact f2' z
 have ccl:∀y c,(JE X.env.cells scope.names []).lookup y=some c->(∃v,s3.heap.IsCell c v)/\H2 c=none/\c≠D/\∀b∈fp,c≠b:=fun y c e=>by
  have e':=clook y c e;exact⟨I3.cell y c e',I3.freeC y c e',hDC y c e',fun b hb=>(f2 b hb).2.2.2.2.1 y c e'⟩
 have clt:∀y c,(JE X.env.cells scope.names []).lookup y=some c->c<s3.heap.objs.size:=fun y c e=>let ⟨⟨v,o,ho,_⟩,_⟩:=ccl y c e;lt3 c o ho;have exLt:∀b∈D::fp,b<s3.heap.objs.size:=fun b hb=>by
  rcases List.mem_cons.mp hb with rfl|hb
  ·exact dl3
  ·exact fp3 b hb
 have okB:(Zt X (NB++FR) scope s3 H2 (D::fp)).Ok:=by
  refine⟨I3.ok.mod,S.kind,I3.ok.glob,I3.ok.blt,uq _,fun y z c h1 h2=>?_,fun y hy=>?_,(fun y c z _=>nomatch z),I3.ok.hd,I3.ok.frames,.inl rfl,fun b hb=>⟨Nat.ne_of_lt (exLt b hb),fun y c e z=>?_⟩,I3.bs,Nat.le_trans I3.ok.bsz I3.sz,bsN,exF,I3.stack,I3.XV⟩
  ·exact I3.ok.inj y z c (clook y c h1) (clook z c h2)
  ·exact Kj scope.names [] (.inr (UP S.nocell hy))
  ·obtain⟨_,_,n1,n2⟩:=ccl y c e;rcases List.mem_cons.mp hb with q|q
   ·exact n1 (z.trans q)
   ·exact n2 b q z
 have hlen0:(List.replicate NB.length (none:Option V)++fv.map some).length=(NB++FR).length:=by
  have h1:=congrArg List.length hfv;have h2:=congrArg List.length hfi;simp only[uk]at h1 h2;rw[uj,uj,uG,uk];omega
 have rep:∀(j:Nat)(v:V),(List.replicate NB.length (none:Option V)++fv.map some)[j]? =some (some v)->∃k,j=NB.length+k/\fv[k]? =some v:=fun j v z=>by
  rw[List.getElem?_append]at z
  split at z
  ·rw[List.getElem?_replicate]at z
   split at z<;>cases z
  ·rename_i hj;rw[uG]at hj z;refine⟨j-NB.length,by omega,?_⟩;rw[uE]at z;cases e:fv[j-NB.length]? with
   |none=>rw[e]at z;cases z
   |some y=>rw[e]at z;exact congrArg some (ur (ur z))
 have fvAt:∀(k:Nat)(v:V)(y:Str),fv[k]? =some v->FR[k]? =some y->∃i,X.N[i]? =some y/\σ[i]? =some (some v):=fun k v y h1 h2=>by
  have a1:=congrArg (fun l=>l[k]?) hfv;have a2:=congrArg (fun l=>l[k]?) hfi;simp only[uE,h1,h2]at a1 a2;cases e:fi[k]? with
  |none=>rw[e]at a1;cases a1
  |some i=>
   rw[e]at a1 a2;exact⟨i,ur a2,ur a1⟩
 have IB:Inv (Zt X (NB++FR) scope s3 H2 (D::fp)) [(D,XH [])] (List.replicate NB.length none++fv.map some) H2 {s3 with heap:=h4,toks:=tk4}:=by
  refine⟨okB,rfl,I3.bare,Un.kept hk4,⟨_,x4.ns,fun i y v h1 h2 h3=>?_⟩,fun y c h=>let ⟨⟨v,o,ho,hd⟩,_⟩:=ccl y c h;⟨v,o,hk4 _ _ ho,hd⟩,I3.hok.fresh (uq _),fun y c h=>(ccl y c h).2.1,fun p hp=>?_,I3.hok.kept hk4,hlen0⟩
  ·obtain⟨k,rfl,hk⟩:=rep i v h2;have hy:FR[k]? =some y:=by
    have h1:(NB++FR)[NB.length+k]? =some y:=h1;rw[List.getElem?_append_right (Nat.le_add_right _ _),Nat.add_sub_cancel_left]at h1;exact h1
   obtain⟨io,hN,hσ⟩:=fvAt k v y hk hy;have hfr:(y,NameKind.free)∈scope.names:=S.fr y (uF hy);obtain⟨m,_,hl⟩:=I3.loc;obtain⟨u,r,l⟩:=hl io y v hN hσ (.inr (.inl (hfc _ hfr rfl)));refine⟨u,r,.inr ⟨.inl ?_,?_⟩⟩
   ·exact UO S.nd2 hfr (by show(X.env.scope.kind==.function)=true;rw[I3.ok.kind];rfl) (hfc _ hfr rfl)
   ·obtain⟨c,hc1⟩:=Kj (cells:=X.env.cells) (x:=y) scope.names [] (.inr hfr);refine⟨c,hc1,?_⟩;have hc2:=clook y c hc1;rcases l with⟨hk,_⟩|⟨_,c',hc',o,ho,hd⟩
    ·have e1:=hfc _ hfr rfl;rw[show X.env.kindOf y=X.env.scope.names.lookup y from rfl]at hk;rw[hk]at e1;cases e1
    ·rw[hc2]at hc';cases hc';exact⟨o,hk4 _ _ ho,hd⟩
  obtain rfl:p=(D,XH []):=by simpa using hp
  exact⟨hk4 _ _ hD3,hD2,Nat.ne_of_lt dl3,hDf,fun v z=>nomatch z⟩
 have stat:∀{H':Hp}{ys:List Value},(∀b∈fp,H' b=none)->∀b∈fp,vv (Zt X (NB++FR) scope s3 H2 (D::fp)) [(D,XH ys)] H' b:=fun hn b hb=>
  ⟨hn b hb,Nat.ne_of_lt (fp3 b hb),exF b (uz _ hb),.inl (uz _ hb),fun y c e z=>(ccl y c e).2.2.2 b hb z,fun p hp=>by
    obtain rfl:p=(D,_):=by simpa using hp
    exact(DfpN b hb).symm⟩
 have st4:tn 0 h4:=T.keep _ _ _ st3 fun b _ o e=>hk4 b o e;have fr4:∀b∈fp,H2 b=none:=fun b hb=>(f2 b hb).1;have hcB:(Zt X (NB++FR) scope s3 H2 (D::fp)).calm=true:=hc;have loop:codeAny (model X.prog X.w) X.A (.compLoop (.ListComp elt [⟨tg,iter,ifs,0⟩] scope pos) 0 (.ref it) (.ref D) (kO scope X.env s3.heap.objs.size))
   (compPost (model X.prog X.w) X.A X.xe none (EP X pins σ Q) (.ref D) s3.heap.objs.size) {s3 with heap:=h4,toks:=tk4}:=by
  refine WX (fun n s'=>∃i vs ys H',Inv (Zt X (NB++FR) scope s3 H2 (D::fp)) [(D,XH ys)] (List.replicate NB.length none++fv.map some) H' s'/\Vals vs ys/\vs.length<=sizeLine/\tn i s'.heap/\(∀b∈fp,H' b=none)/\W i n vs H') ?_ m0 ⟨0,[],[],H2,IB,.nil,uQ _,st4,fr4,w0⟩;rintro n s5 ⟨i,vs,ys,H5,I5,rv,hvl,st5,fr5,w5⟩;rcases turn i n vs H5 w5 with⟨stop,qn⟩|⟨go,hlt,N,hN,step⟩
  ·refine wpAny_mono (T.done (Zt X (NB++FR) scope s3 H2 (D::fp)) rfl rfl rfl hcB i _ s5 _ H5 (fun _ _=>False) I5 (stat fr5) st5 stop) (fun r s6⟨hr,I6⟩=>?_) (fun _ _ z=>z.elim);subst hr;obtain⟨m6,hn6,_⟩:=id I6.loc;refine⟨m6,hn6,fun h7 sb7=>?_⟩;have kp7:∀b o,b≠s3.heap.objs.size->s6.heap.get? b=some o->h7.get? b=some o:=fun b o hb e=>(sb7.2 b hb).trans e;have hC6:H5 s3.heap.objs.size=none:=I6.free;have un7:Un (frs X.stack) (D::fp) H2 H5 s3.heap h7:=by
    have u:=I6.base;refine⟨fun b o e n hb hx=>kp7 b o (Nat.ne_of_lt (Heap.lt_size e)) (u.keep b o e n hb hx),fun b o e n hb hx=>?_,u.free,fun b o e hx=>?_,u.Wz,u.frzs,u.tbls⟩
    ·obtain⟨sl,q⟩:=u.slot b o e n hb hx;exact⟨sl,kp7 b _ (Nat.ne_of_lt (Heap.lt_size e)) q⟩
    ·obtain⟨o',q⟩:=u.there b o e hx;exact⟨o',kp7 b _ (Nat.ne_of_lt (Heap.lt_size e)) q⟩
   have hok7:HOk X.prog X.w H5 h7:=fun b u e=>(I6.hok b u e).zB (fun c w' hcc q=>kp7 c w' (by
    rintro rfl;rcases hcc with rfl|hcc
    ·rw[hC6]at e;cases e
    ·rw[hC6]at hcc;cases hcc) q) (fun _ q=>q) fun _ _ q=>q
   have I7:Inv X pins σ H5 {s6 with heap:=h7}:=I3.xB (s':={s6 with heap:=h7}) I6.os un7 hok7 I6.bare fun b hb=>by
    rcases List.mem_cons.mp hb with rfl|hb
    ·exact⟨.inr hDs0,hDL,hDC,hDp⟩
    ·obtain⟨_,f1,_,f3,f4,f5⟩:=f2 b hb;exact⟨f3,f1,f4,f5⟩
   obtain⟨eD,nD,_⟩:=I6.pin (D,XH ys) (by simp);have nD':H5 D=none:=nD;have eD':h7.get? D=some (XH ys):=kp7 D _ (Nat.ne_of_lt dl3) eD;have hD0:X.s₀.heap.get? D=none:=by
    cases q:X.s₀.heap.get? D with
    |none=>rfl
    |some o=>exact absurd (Nat.lt_of_lt_of_le (Heap.lt_size q) hDs0) (uR _)
   exact⟨.ref D,upd H5 D (.lst vs),I7.vN nD' hD0 hDL hDC hDp ⟨hvl,ys,ys.length,rv,eD'⟩,rfl,qn D nD'⟩
  ·refine wpAny_mono (T.item (Zt X (NB++FR) scope s3 H2 (D::fp)) rfl rfl rfl hcB i _ s5 _ H5 (fun _ _=>False) I5 (stat fr5) st5 go) (fun r s6⟨u,hr,h6⟩=>?_) (fun _ _ z=>z.elim);subst hr;refine wpAny_mono h6 (fun _ s7⟨x,H7,I7,r7,y7,st7,fr7⟩=>?_) (fun _ _ z=>z.elim);have I7':=I7.pinned (stat fr7) (T.obj _ _ st7);refine wpAny_mono (hg s3 H2 (D::fp) _ s7 _ H7 x u _ I7' r7 (step x H7 y7)) (fun _ s8⟨σ8,H8,I8,hk8,q8⟩=>?_) (fun _ _ z=>z.elim);refine wpAny_mono (ht s3 H2 (D::fp) _ s8 σ8 H8 _ I8 q8) (fun ok s9⟨H9,I9,q9⟩=>?_) (fun _ _ z=>z.elim);have fpK:∀{σ':St}{H':Hp}{s':Shared},Inv (Zt X (NB++FR) scope s3 H2 (D::fp)) ([(D,XH ys)]++WM fp s7.heap) σ' H' s'->tn (i+1) s'.heap/\∀b∈fp,H' b=none:=fun J=>
    ⟨T.keep _ _ _ st7 fun b hb o e=>(J.pin (b,o) (ux _ (ux _ (JC hb e)))).1,fun b hb=>by
     obtain⟨o,e,d⟩:=T.obj _ _ st7 b hb;exact(J.pin (b,o) (ux _ (ux _ (JC hb e)))).2.1⟩
   have wk:∀{H':Hp}{s':Shared}{pl:List (Addr × Obj)},Inv (Zt X (NB++FR) scope s3 H2 (D::fp)) pl σ8 H' s'->Inv (Zt X (NB++FR) scope s3 H2 (D::fp)) pl (List.replicate NB.length none++fv.map some) H' s':=fun J=>
    J.weak (hlen0.trans J.len.symm) fun j v z=>by
     obtain⟨k,rfl,hk⟩:=rep j v z;have:=congrArg (fun l=>l[k]?) hk8;simp only[List.getElem?_drop,uE,hk]at this;exact this
   cases ok with
   |false=>
    rw[if_neg (by decide)]at q9;rw[if_neg (by decide)];obtain⟨m',hm,w9⟩:=hN vs H9 q9;obtain⟨t9,f9⟩:=fpK I9;exact⟨m',hm,i+1,vs,ys,H9,wk I9.Zg,rv,hvl,t9,f9,w9⟩
   |true=>
    rw[if_pos rfl]at q9;rw[if_pos rfl];refine wpAny_mono (he s3 H2 (D::fp) _ s9 σ8 H9 _ I9 q9) (fun y s10⟨v,H10,I10,rv10,q10⟩=>?_) (fun _ _ z=>z.elim);obtain⟨eD,nD,_,nf,_⟩:=I10.pin (D,XH ys) (by simp);have hyl:=rv.length;refine append_at (hsz:=by show ys.toArray.size<=sizeLine;rw[uP, ←hyl];exact hvl) eD fun h11 sb11 hD11=>?_;obtain⟨m',hm,w11⟩:=hN (vs++[v]) H10 q10;obtain⟨t10,f10⟩:=fpK I10;have I10u:=I10.Zg;have k11:∀b o,b≠D->s10.heap.get? b=some o->h11.get? b=some o:=fun b o hb e=>(sb11.2 b hb).trans e;have IE:Inv (Zt X (NB++FR) scope s3 H2 (D::fp)) [] σ8 H10 s10:=I10u.Xb fun p hp=>nomatch hp;have I11:Inv (Zt X (NB++FR) scope s3 H2 (D::fp)) [] σ8 H10 {s10 with heap:=h11}:=IE.turned (t':=s10.toks) k11 nD (Nat.ne_of_lt dl3) (.inl uA) (fun y' c e z=>(ccl y' c e).2.2.1 z) (fun p hp=>absurd (show p∈([]:List (Addr × Obj))from hp) (by simp));have eL:({cls:=.type "list",data:=.seq (ys.toArray.push y) (ys.length+1)}:Obj)=XH (ys++[y]):=by
     show({cls:=.type "list",data:=.seq (ys.toArray.push y) (ys.length+1)}:Obj)={cls:=.type "list",data:=.seq (ys++[y]).toArray (ys++[y]).length};rw[uj,uu,List.push_toArray]
    refine⟨m',hm,i+1,vs++[v],ys++[y],H10,wk (I11.Xb fun p hp=>?_),rv.append (.cons rv10 .nil),by rw[uj,uu];exact hlt,T.keep _ _ _ t10 fun b hb o e=>k11 b o (DfpN b hb) e,f10,w11⟩;obtain rfl:p=(D,XH (ys++[y])):=by simpa using hp
    exact⟨by rw[←eL];exact hD11,nD,Nat.ne_of_lt dl3,nf,fun v z=>nomatch z⟩
 exact codeAny_compStart_list loop (T.self _ 0 _ _ _ st4 loop)
end
open Builtin Builtin.Str
inductive Dv where
 |non|bl (b:Bool)|int (i:Int)|str (x:Str)|tup (ds:List Dv)
mutual
noncomputable def Dv.depth:Dv->Nat
 | .tup ds=>Dv.ZB ds+1
 |_=>0
noncomputable def Dv.ZB:List Dv->Nat
 |[]=>0
 |d::ds=>max (Dv.depth d) (Dv.ZB ds)
end
mutual
noncomputable def Dv.eqb:Dv->Dv->Bool
 | .non,.non=>true
 | .bl a,.bl b=>a==b
 | .bl a,.int b=>(if a then 1 else 0)==b
 | .int a,.bl b=>a==(if b then 1 else 0)
 | .int a,.int b=>a==b
 | .str a,.str b=>a==b
 | .tup xs,.tup ys=>Dv.Qaw xs ys
 |_,_=>false
noncomputable def Dv.Qaw:List Dv->List Dv->Bool
 |[],[]=>true
 |x::xs,y::ys=>Dv.eqb x y&&Dv.Qaw xs ys
 |_,_=>false
end
mutual
inductive Deep (H:Hp):V->Dv->Prop where
 |non:Deep H .non .non
 |bl {b:Bool}:Deep H (.bl b) (.bl b)
 |int {i:Int}:Deep H (.int i) (.int i)
 |str {x:Str}:Deep H (.str x) (.str x)
 |tup {a:Addr} {xs:List V} {ds:List Dv} (h:H a=some (.tup xs)) (t:Deeps H xs ds):Deep H (.ref a) (.tup ds)
inductive Deeps (H:Hp):List V->List Dv->Prop where
 |nil:Deeps H [] []
 |cons {x:V} {d:Dv} {xs:List V} {ds:List Dv} (h:Deep H x d) (t:Deeps H xs ds):Deeps H (x::xs) (d::ds)
end
theorem Deeps.length{H:Hp}:∀{xs:List V}{ds:List Dv},Deeps H xs ds->xs.length=ds.length
 |_,_,.nil=>rfl
 |_,_,.cons _ t=>congrArg (· +1) t.length
theorem Deeps.VI{H:Hp}:∀{xs:List V}{ds:List Dv}{i:Nat}{x:V},Deeps H xs ds->xs[i]? =some x->∃d,ds[i]? =some d/\Deep H x d
 |_,_,_,_,.nil,e=>by simp at e
 |_,_,0,_,.cons h _,e=>by
  simp at e;subst e;exact⟨_,rfl,h⟩
 |_,_,i+1,x,.cons _ t,e=>by
  obtain⟨d,h1,h2⟩:=Deeps.VI (i:=i) (x:=x) t (by simpa using e);exact⟨d,by simpa using h1,h2⟩
theorem Deeps.append{H:Hp}:∀{xs ys:List V}{ds es:List Dv},Deeps H xs ds->Deeps H ys es->Deeps H (xs++ys) (ds++es)
 |_,_,_,_,.nil,q=>q
 |_,_,_,_,.cons h t,q=>.cons h (Deeps.append t q)
theorem Deeps.take{H:Hp}:∀{xs:List V}{ds:List Dv}(n:Nat),Deeps H xs ds->Deeps H (xs.take n) (ds.take n)
 |_,_,0,_=>.nil
 |_,_,_+1,.nil=>.nil
 |_,_,n+1,.cons h t=>.cons h (Deeps.take n t)
theorem Deeps.drop{H:Hp}:∀{xs:List V}{ds:List Dv}(n:Nat),Deeps H xs ds->Deeps H (xs.drop n) (ds.drop n)
 |_,_,0,t=>t
 |_,_,_+1,.nil=>.nil
 |_,_,n+1,.cons _ t=>Deeps.drop n t
mutual
theorem Deep.keep{H H':Hp}(k:∀b ys,H b=some (.tup ys)->H' b=some (.tup ys)):∀{x:V}{d:Dv},Deep H x d->Deep H' x d
 |_,_,.non=>.non
 |_,_,.bl=>.bl
 |_,_,.int=>.int
 |_,_,.str=>.str
 |_,_,.tup h t=>.tup (k _ _ h) (Deeps.keep k t)
theorem Deeps.keep{H H':Hp}(k:∀b ys,H b=some (.tup ys)->H' b=some (.tup ys)):∀{xs:List V}{ds:List Dv},Deeps H xs ds->Deeps H' xs ds
 |_,_,.nil=>.nil
 |_,_,.cons h t=>.cons (Deep.keep k h) (Deeps.keep k t)
end
theorem Deep.same{H H':Hp}{x:V}{d:Dv}(h:Deep H x d)(S:Qk H H'):Deep H' x d:=h.keep (fun b ys e=>S _ _ e)
theorem Deeps.same{H H':Hp}{xs:List V}{ds:List Dv}(h:Deeps H xs ds)(S:Qk H H'):Deeps H' xs ds:=h.keep (fun b ys e=>S _ _ e)
section
variable {X:Cx}{pins:List (Addr × Obj)}{σ:St}{H:Hp}{s:Shared}
mutual
theorem Deep.inj(I:Inv X pins σ H s):∀{x:V}{d e:Dv},Deep H x d->Deep H x e->d=e
 |_,_,_,.non,.non=>rfl
 |_,_,_,.bl,.bl=>rfl
 |_,_,_,.int,.int=>rfl
 |_,_,_,.str,.str=>rfl
 |_,_,_,.tup h t,.tup h2 t2=>by
  have e:=I.WJ (.inl (.inl h)) (.inl (.inl h2));subst e;rw[Deeps.inj I t t2]
theorem Deeps.inj(I:Inv X pins σ H s):∀{xs:List V}{ds es:List Dv},Deeps H xs ds->Deeps H xs es->ds=es
 |_,_,_,.nil,.nil=>rfl
 |_,_,_,.cons h t,.cons h2 t2=>by rw[Deep.inj I h h2,Deeps.inj I t t2]
end
end
mutual
theorem Dv.Ww:∀d:Dv,d.eqb d=true
 | .non=>rfl
 | .bl b=>by cases b<;>rfl
 | .int i=>by unfold Dv.eqb;exact beq_self_eq_true i
 | .str x=>by unfold Dv.eqb;exact beq_self_eq_true x
 | .tup ds=>by unfold Dv.eqb;exact Dv.UQ ds
theorem Dv.UQ:∀ds:List Dv,Dv.Qaw ds ds=true
 |[]=>rfl
 |d::ds=>by unfold Dv.Qaw;rw[Dv.Ww d,Dv.UQ ds];rfl
end
theorem Dv.K5:∀(ds es:List Dv),Dv.Qaw ds es=((List.range (min ds.length es.length)).all (fun j=>((ds[j]?).getD .non).eqb ((es[j]?).getD .non))&&ds.length==es.length)
 |[],[]=>rfl
 |[],e::es=>rfl
 |d::ds,[]=>rfl
 |d::ds,e::es=>by
  unfold Dv.Qaw;rw[Dv.K5 ds es,uw,uw,show min (ds.length+1) (es.length+1)=min ds.length es.length+1 by omega,List.range_succ_eq_map,List.all_cons,List.all_map,Bool.and_assoc]
  congr 1
  congr 1
  exact Bool.eq_iff_iff.mpr (by simp)
theorem Dv.YG:∀{ds:List Dv}{i:Nat}{d:Dv},ds[i]? =some d->d.depth<=Dv.ZB ds
 |[],_,_,e=>by simp at e
 |x::xs,0,d,e=>by
  simp at e;subst e;unfold Dv.ZB;omega
 |x::xs,i+1,d,e=>by
  have:=Dv.YG (ds:=xs) (i:=i) (d:=d) (by simpa using e);unfold Dv.ZB;omega
section
variable {X:Cx}{pins:List (Addr × Obj)}{σ:St}{H:Hp}{s:Shared}
theorem Deep.at1(I:Inv X pins σ H s){N:Nat}{x y:V}{d e:Dv}(hd:d.depth<=N)(hx:Deep H x d)(hy:Deep H y e){A:Around}{u v:Value}(hu:A.units+N<cLine)(rx:RelV x u)(ry:RelV y v)
  (ih:∀n,N=n+1->∀(d e:Dv)(x y:V),d.depth<=n->Deep H x d->Deep H y e->∀{A:Around}{u v:Value},A.units+n<cLine->RelV x u->RelV y v->SeqAt.EqAt A s u v (d.eqb e)):SeqAt.EqAt A s u v (d.eqb e):=by
 cases hx with
 |non=>
  cases rx;cases hy with
  |non=>
   cases ry;exact .same _
  |@bl b2=>
   cases ry;exact SeqAt.EqAt.none_bool b2
  |@int i2=>
   obtain⟨ty,rfl⟩:=ry;exact SeqAt.EqAt.none_int i2 ty
  |@str z2=>
   obtain⟨ty,rfl⟩:=ry;exact SeqAt.EqAt.none_str z2 ty
  |@tup a2 ys es h2 t2=>
   obtain rfl:v=Value.ref a2:=ry;obtain⟨its2,r2,p2,_⟩:=I.tuple (.inl (.inl h2));exact SeqAt.EqAt.none_tuple p2 (by omega)
 |@bl b=>
  cases rx;cases hy with
  |non=>
   cases ry;exact SeqAt.EqAt.bool_none b
  |@bl b2=>
   cases ry;exact SeqAt.EqAt.bool_bool b b2
  |@int i2=>
   obtain⟨ty,rfl⟩:=ry;exact SeqAt.EqAt.bool_int b i2 ty
  |@str z2=>
   obtain⟨ty,rfl⟩:=ry;exact SeqAt.EqAt.bool_str b z2 ty
  |@tup a2 ys es h2 t2=>
   obtain rfl:v=Value.ref a2:=ry;obtain⟨its2,r2,p2,_⟩:=I.tuple (.inl (.inl h2));exact SeqAt.EqAt.bool_tuple b p2 (by omega)
 |@int i=>
  obtain⟨tx,rfl⟩:=rx;cases hy with
  |non=>
   cases ry;exact SeqAt.EqAt.int_none i tx
  |@bl b2=>
   cases ry;exact SeqAt.EqAt.int_bool i tx b2
  |@int i2=>
   obtain⟨ty,rfl⟩:=ry;exact SeqAt.EqAt.int_int i tx i2 ty
  |@str z2=>
   obtain⟨ty,rfl⟩:=ry;exact SeqAt.EqAt.int_str i tx z2 ty
  |@tup a2 ys es h2 t2=>
   obtain rfl:v=Value.ref a2:=ry;obtain⟨its2,r2,p2,_⟩:=I.tuple (.inl (.inl h2));exact SeqAt.EqAt.int_tuple i tx p2 (by omega)
 |@str z=>
  obtain⟨tx,rfl⟩:=rx;cases hy with
  |non=>
   cases ry;exact SeqAt.EqAt.str_none z tx
  |@bl b2=>
   cases ry;exact SeqAt.EqAt.str_bool z tx b2
  |@int i2=>
   obtain⟨ty,rfl⟩:=ry;exact SeqAt.EqAt.str_int z tx i2 ty
  |@str z2=>
   obtain⟨ty,rfl⟩:=ry;exact SeqAt.EqAt.str_str z tx z2 ty
  |@tup a2 ys es h2 t2=>
   obtain rfl:v=Value.ref a2:=ry;obtain⟨its2,r2,p2,_⟩:=I.tuple (.inl (.inl h2));exact SeqAt.EqAt.str_tuple z tx p2 (by omega)
 |@tup a xs ds h t=>
  obtain rfl:u=Value.ref a:=rx;obtain⟨its,r1,p1,_⟩:=I.tuple (.inl (.inl h));cases hy with
  |non=>
   cases ry;exact SeqAt.EqAt.tuple_none p1 (by omega)
  |@bl b2=>
   cases ry;exact SeqAt.EqAt.tuple_bool b2 p1 (by omega)
  |@int i2=>
   obtain⟨ty,rfl⟩:=ry;exact SeqAt.EqAt.tuple_int i2 ty p1 (by omega)
  |@str z2=>
   obtain⟨ty,rfl⟩:=ry;exact SeqAt.EqAt.tuple_str z2 ty p1 (by omega)
  |@tup a2 ys es h2 t2=>
   obtain rfl:v=Value.ref a2:=ry;obtain⟨its2,r2,p2,_⟩:=I.tuple (.inl (.inl h2));obtain⟨n,rfl⟩:∃n,N=n+1:=⟨N-1,by have:=hd;unfold Dv.depth at this;omega⟩;have hl1:=t.length;have hl2:=t2.length;have q1:=r1.length;have q2:=r2.length;have z:=SeqAt.RcAt.tuples (A:=A) (s:=s) (e:=fun j=>((ds[j]?).getD .non).eqb ((es[j]?).getD .non)) p1 p2 (by omega) (Ki (pins:=pins) (σ:=σ) (H:=H) (n:=n) r1 r2 fun j x y u v g1 g2 w1 w2=>?_)
   ·rw[uP,uP, ←q1, ←q2,hl1,hl2, ←Dv.K5]at z
    by_cases ne:a=a2
    ·subst ne;rw[Deep.inj I (.tup h t) (.tup h2 t2),Dv.Ww];exact .same _
    ·unfold Dv.eqb;exact .of_refs ne z
   ·obtain⟨d1,k1,k2⟩:=t.VI g1;obtain⟨e1,m1,m2⟩:=t2.VI g2;show SeqAt.EqAt A.in1 s u v (((ds[j]?).getD .non).eqb ((es[j]?).getD .non));rw[k1,m1];exact ih n rfl d1 e1 x y (Nat.le_trans (Dv.YG k1) (by have:=hd;unfold Dv.depth at this;omega)) k2 m2 (by show A.units+1+n<cLine;omega) w1 w2
theorem Deep.at(I:Inv X pins σ H s):∀(n:Nat)(d e:Dv)(x y:V),d.depth<=n->Deep H x d->Deep H y e->∀{A:Around}{u v:Value},A.units+n<cLine->RelV x u->RelV y v->SeqAt.EqAt A s u v (d.eqb e):=by
 intro n
 induction n with
 |zero=>
  intro d e x y hd hx hy A u v hu rx ry;exact Deep.at1 I hd hx hy hu rx ry fun n hn=>absurd hn (by omega)
 |succ n ih=>
  intro d e x y hd hx hy A u v hu rx ry;refine Deep.at1 I hd hx hy hu rx ry fun m hm=>?_;obtain rfl:n=m:=by omega
  exact ih
theorem Deep.Qfd(I:Inv X pins σ H s){n:Nat}{x y:V}{d e:Dv}(hd:d.depth<=n)(hx:Deep H x d)(hy:Deep H y e){u v:Value}(hu:X.A.units+n<cLine)(rx:RelV x u)(ry:RelV y v):SeqAt.RcNeAt X.A s u v (!(d.eqb e)):=by
 cases hx with
 |non=>
  cases rx;cases hy with
  |non=>
   cases ry;exact SeqAt.RcNeAt.none_none
  |@bl b2=>
   cases ry;exact SeqAt.RcNeAt.none_bool b2
  |@int i2=>
   obtain⟨ty,rfl⟩:=ry;exact SeqAt.RcNeAt.none_int i2 ty
  |@str z2=>
   obtain⟨ty,rfl⟩:=ry;exact SeqAt.RcNeAt.none_str z2 ty
  |@tup a2 ys es h2 t2=>
   obtain rfl:v=Value.ref a2:=ry;obtain⟨its2,r2,p2,_⟩:=I.tuple (.inl (.inl h2));exact SeqAt.RcNeAt.none_tuple p2 (by omega)
 |@bl b=>
  cases rx;cases hy with
  |non=>
   cases ry;exact SeqAt.RcNeAt.bool_none b
  |@bl b2=>
   cases ry;exact SeqAt.RcNeAt.bool_bool b b2
  |@int i2=>
   obtain⟨ty,rfl⟩:=ry;exact SeqAt.RcNeAt.bool_int b i2 ty
  |@str z2=>
   obtain⟨ty,rfl⟩:=ry;exact SeqAt.RcNeAt.bool_str b z2 ty
  |@tup a2 ys es h2 t2=>
   obtain rfl:v=Value.ref a2:=ry;obtain⟨its2,r2,p2,_⟩:=I.tuple (.inl (.inl h2));exact SeqAt.RcNeAt.bool_tuple b p2 (by omega)
 |@int i=>
  obtain⟨tx,rfl⟩:=rx;cases hy with
  |non=>
   cases ry;exact SeqAt.RcNeAt.int_none i tx
  |@bl b2=>
   cases ry;exact SeqAt.RcNeAt.int_bool i tx b2
  |@int i2=>
   obtain⟨ty,rfl⟩:=ry;exact SeqAt.RcNeAt.int_int i tx i2 ty
  |@str z2=>
   obtain⟨ty,rfl⟩:=ry;exact SeqAt.RcNeAt.int_str i tx z2 ty
  |@tup a2 ys es h2 t2=>
   obtain rfl:v=Value.ref a2:=ry;obtain⟨its2,r2,p2,_⟩:=I.tuple (.inl (.inl h2));exact SeqAt.RcNeAt.int_tuple i tx p2 (by omega)
 |@str z=>
  obtain⟨tx,rfl⟩:=rx;cases hy with
  |non=>
   cases ry;exact SeqAt.RcNeAt.str_none z tx
  |@bl b2=>
   cases ry;exact SeqAt.RcNeAt.str_bool z tx b2
  |@int i2=>
   obtain⟨ty,rfl⟩:=ry;exact SeqAt.RcNeAt.str_int z tx i2 ty
  |@str z2=>
   obtain⟨ty,rfl⟩:=ry;exact SeqAt.RcNeAt.str_str z tx z2 ty
  |@tup a2 ys es h2 t2=>
   obtain rfl:v=Value.ref a2:=ry;obtain⟨its2,r2,p2,_⟩:=I.tuple (.inl (.inl h2));exact SeqAt.RcNeAt.str_tuple z tx p2 (by omega)
 |@tup a xs ds h t=>
  obtain rfl:u=Value.ref a:=rx;obtain⟨its,r1,p1,_⟩:=I.tuple (.inl (.inl h));cases hy with
  |non=>
   cases ry;exact SeqAt.RcNeAt.tuple_none p1 (by omega)
  |@bl b2=>
   cases ry;exact SeqAt.RcNeAt.tuple_bool b2 p1 (by omega)
  |@int i2=>
   obtain⟨ty,rfl⟩:=ry;exact SeqAt.RcNeAt.tuple_int i2 ty p1 (by omega)
  |@str z2=>
   obtain⟨ty,rfl⟩:=ry;exact SeqAt.RcNeAt.tuple_str z2 ty p1 (by omega)
  |@tup a2 ys es h2 t2=>
   obtain rfl:v=Value.ref a2:=ry;obtain⟨its2,r2,p2,_⟩:=I.tuple (.inl (.inl h2));have hl1:=t.length;have hl2:=t2.length;have q1:=r1.length;have q2:=r2.length;have hd':Dv.ZB ds+1<=n:=by have:=hd;unfold Dv.depth at this;exact this
   have z:=SeqAt.RcNeAt.tuples (A:=X.A) (s:=s) (e:=fun j=>((ds[j]?).getD .non).eqb ((es[j]?).getD .non)) p1 p2 (by omega) (Ki (pins:=pins) (σ:=σ) (H:=H) (n:=n) r1 r2 fun j x y u v g1 g2 w1 w2=>?_)
   ·rw[uP,uP, ←q1, ←q2,hl1,hl2, ←Dv.K5]at z;unfold Dv.eqb;exact z
   ·obtain⟨d1,k1,k2⟩:=t.VI g1;obtain⟨e1,m1,m2⟩:=t2.VI g2;show SeqAt.EqAt X.A.in1 s u v (((ds[j]?).getD .non).eqb ((es[j]?).getD .non));rw[k1,m1];exact Deep.at I (n-1) d1 e1 x y (Nat.le_trans (Dv.YG k1) (by omega)) k2 m2 (by show X.A.units+1+(n-1)<cLine;omega) w1 w2
noncomputable def QcP(n:Nat)(neg:Bool):R2:=fun x y H Q=>∃d e,Deep H x d/\Deep H y e/\d.depth<=n/\Q (.bl (if neg then !(d.eqb e)else d.eqb e)) H
theorem qP{n:Nat}(hu:X.A.units+n<cLine):OpR X (compareOp .NotEq) (QcP n true):=by
 intro pins s σ H x y v u Q I rx ry h;obtain⟨d,e,hx,hy,hd,q⟩:=h;exact Deep.Qfd I hd hx hy hu rx ry X.prog X.w X.xe _ ⟨.bl _,H,I,rfl,q⟩
end
open AutoSeq1 (wpAny_loadPart')in
structure Fix(J:It)(n:Nat)(Ok:Hp->Prop)(item:Nat->Hp->V->Hp->Prop):Prop where
 go:∀i H,Ok H->i<n->J.go i H
 stop:∀H,Ok H->J.stop n H
 yld:∀i H v H',Ok H->i<n->J.yld i H v H'->item i H v H'
section
variable {J:It}{n:Nat}{Ok:Hp->Prop}{item:Nat->Hp->V->Hp->Prop}
theorem Vg{g:TG}{tb:TS}{D:Ends}{σ:St}{H:Hp}(F:Fix J n Ok item)(Pv:Nat->St->Hp->Prop)(h0:Pv 0 σ H)(ho:∀i σ H,i<=n->Pv i σ H->Ok H)
  (hs:∀i v σ H H',i<n->Pv i σ H->item i H v H'->g v σ H' fun σ2 H2=>tb {D with nx:=Pv (i+1),ct:=Pv (i+1),bk:=D.nx} σ2 H2) (hd:∀σ H,Pv n σ H->D.nx σ H):
  ∃W:Nat->Nat->St->Hp->Prop,(∃m,W 0 m σ H)/\∀i m σ H,W i m σ H->
   (J.stop i H/\D.nx σ H)\/(J.go i H/\∃N:St->Hp->Prop,(∀σ' H',N σ' H'->∃m',m'<m/\W (i+1) m' σ' H')/\∀x H',J.yld i H x H'->g x σ H' fun σ2 H2=>tb {D with nx:=N,ct:=N,bk:=D.nx} σ2 H2):=by
 refine⟨fun i m σ H=>m=n-i/\i<=n/\Pv i σ H,⟨n,by simp,uQ _,h0⟩,?_⟩;rintro i m σ H ⟨rfl,hi,p⟩;have ok:=ho i σ H hi p
 by_cases hlt:i<n
 ·exact .inr ⟨F.go i H ok hlt,Pv (i+1),fun σ' H' p'=>⟨n-(i+1),by omega,rfl,hlt,p'⟩,fun x H' y=>hs i x σ H H' hlt p (F.yld i H x H' ok hlt y)⟩
 ·have e:i=n:=by omega
  subst e;exact .inl ⟨F.stop H ok,hd σ H p⟩
theorem Ko{NB:List Str}{wi:TI}{g:TG}{tt:TT}{te:TE}{Q:VK}{σ:St}{H:Hp}(F:Fix J n Ok item)(Pv:Nat->List V->Hp->Prop)(h:∀R:It->Hp->Prop,(∀H1,Pv 0 [] H1->R J H1)->wi σ H R) (ho:∀i vs H,i<=n->Pv i vs H->Ok H/\vs.length<=i)
  (hs:∀i v vs H H',i<n->Pv i vs H->item i H v H'->g v (List.replicate NB.length none) H' fun σ2 H2=>tt σ2 H2 fun b H3=>if b=true then te σ2 H3 fun v H4=>Pv (i+1) (vs++[v]) H4 else Pv (i+1) vs H3)
  (hd:∀vs H,Pv n vs H->∀p,H p=none->Q (.ref p) (upd H p (.lst vs))) (hz:n<sizeLine):KQ NB wi g tt te σ H Q:=by
 refine h _ fun H1 h0=>⟨fun i m vs H=>m=n-i/\i<=n/\Pv i vs H,⟨n,by simp,uQ _,h0⟩,?_⟩;rintro i m vs H ⟨rfl,hi,p⟩;obtain⟨ok,hv⟩:=ho i vs H hi p
 by_cases hlt:i<n
 ·exact .inr ⟨F.go i H ok hlt,by omega,Pv (i+1),fun vs' H' p'=>⟨n-(i+1),by omega,rfl,hlt,p'⟩,fun x H' y=>hs i x vs H H' hlt p (F.yld i H x H' ok hlt y)⟩
 ·have e:i=n:=by omega
  subst e;exact .inl ⟨F.stop H ok,hd vs H p⟩
theorem kQ{nn:Nat}{fi:List Nat}{fv:List V}{wi:TI}{g:TG}{tt:TT}{te:TE}{Q:VK}{σ:St}{H:Hp}(F:Fix J n Ok item)(Pv:Nat->List V->Hp->Prop)(h:∀R:It->Hp->Prop,(∀H1,Pv 0 [] H1->R J H1)->wi σ H R) (hfv:fi.map (fun i=>σ[i]?)=fv.map (fun v=>some (some v))) (ho:∀i vs H,i<=n->Pv i vs H->Ok H/\vs.length<=i)
  (hs:∀i v vs H H',i<n->Pv i vs H->item i H v H'->g v (List.replicate nn none++fv.map some) H' fun σ2 H2=>σ2.drop nn=fv.map some/\tt σ2 H2 fun b H3=>if b=true then te σ2 H3 fun v H4=>Pv (i+1) (vs++[v]) H4 else Pv (i+1) vs H3)
  (hd:∀vs H,Pv n vs H->∀p,H p=none->Q (.ref p) (upd H p (.lst vs))) (hz:n<sizeLine):UN nn fi wi g tt te σ H Q:=by
 refine h _ fun H1 h0=>⟨fv,hfv,fun i m vs H=>m=n-i/\i<=n/\Pv i vs H,⟨n,by simp,uQ _,h0⟩,?_⟩;rintro i m vs H ⟨rfl,hi,p⟩;obtain⟨ok,hv⟩:=ho i vs H hi p
 by_cases hlt:i<n
 ·exact .inr ⟨F.go i H ok hlt,by omega,Pv (i+1),fun vs' H' p'=>⟨n-(i+1),by omega,rfl,hlt,p'⟩,fun x H' y=>hs i x vs H H' hlt p (F.yld i H x H' ok hlt y)⟩
 ·have e:i=n:=by omega
  subst e;exact .inl ⟨F.stop H ok,hd vs H p⟩
end
theorem Qbq{xs:List V}{i:Nat}(h:i<xs.length):∃x,xs[i]? =some x:=⟨_,List.getElem?_eq_getElem h⟩
theorem yp{K:PySem.W.Frag}{a:Addr}{xs:List V}:Fix (Itt K a) xs.length (fun H=>SqT K H a xs) (fun i H v H'=>H'=H/\xs[i]? =some v):=
 ⟨fun i H ok h=>let ⟨x,e⟩:=Qbq h;⟨xs,x,ok,e⟩,fun H ok=>⟨xs,ok,uq _⟩,fun i H v H' ok _ y=>⟨y.1,y.2 _ ok⟩⟩
theorem Qdz{K:PySem.W.Frag}{a:Addr}{xs:List V}:Fix (Itl K a) xs.length (fun H=>SqL K H a xs) (fun i H v H'=>H'=H/\xs[i]? =some v):=
 ⟨fun i H ok h=>let ⟨x,e⟩:=Qbq h;⟨xs,x,ok,e⟩,fun H ok=>⟨xs,ok,uq _⟩,fun i H v H' ok _ y=>⟨y.1,y.2 _ ok⟩⟩
theorem Qfe{lo:Int}{n:Nat}:Fix (Itr lo n) n (fun _=>True) (fun i H v H'=>H'=H/\v=.int (lo+i)):=⟨fun i H _ h=>h,fun H _=>uq _,fun i H v H' _ _ y=>y⟩
section
variable {X:Cx}
theorem yq{bs:List Bool}{us:List Value}(r:Vals (bs.map V.bl) us):∀i v,us.toArray[i]? =some v->v=Value.bool (bs.getD i true):=fun i v hv=>by
 have h1:us[i]? =some v:=by simpa using hv
 have hlt:=(List.getElem?_eq_some_iff.mp h1).1;have hl:=r.length;rw[uk]at hl;have h2:(bs.map V.bl)[i]? =some (V.bl (bs.getD i true)):=by
  rw[uE,List.getElem?_eq_getElem (by omega)];simp[List.getD,List.getElem?_eq_getElem (show i<bs.length by omega)]
 obtain⟨u,e1,q⟩:=r.get h2;rw[h1]at e1;obtain rfl:=ur e1;exact q
theorem range_all{bs:List Bool}:(List.range bs.length).all (fun i=>bs.getD i true)=bs.all id:=by
 have h:(List.range bs.length).map (fun i=>bs.getD i true)=bs:=by
  apply List.ext_getElem (by simp);intro i h1 h2;simp[List.getD,List.getElem?_eq_getElem h2]
 have h2:(List.range bs.length).all (fun i=>bs.getD i true)=((List.range bs.length).map (fun i=>bs.getD i true)).all id:=by rw[List.all_map];rfl
 rw[h2,h]
theorem jV(hc:X.calm=true):XG X (.builtin "all") (fun xs H Q=>∃(p:Addr)(bs:List Bool),xs=[.ref p]/\SqL X.K H p (bs.map V.bl)/\Q (.bl (bs.all id)) H):=by
 intro pins s σ H xs us Q I r h;obtain⟨p,bs,rfl,hq,q⟩:=h;obtain⟨u,rfl,ru⟩:=vals1 r;obtain rfl:u=Value.ref p:=ru;obtain⟨its,rv,pl,hl⟩:=I.list hq;have hil:=pl.isList;have hlt:p<s.heap.objs.size:=by obtain⟨o,e,_⟩:=hil;exact Heap.lt_size e
 have hlen:=rv.length;rw[uk]at hlen;have I2:Inv X pins σ H {s with heap:=s.heap.push {cls:=.type "list_iterator",data:=.fields #[.ref p,.int 0 0]}}:=I.kept (t':=s.toks) fun b o e=>Heap.get?_push_of_some _ e;refine call_all_walk (wpAny_pyIter_list hil ⟨s.heap.objs.size,_,_,_,_,_,fun i=>bs.getD i true,rfl,Walks.list (A:=X.A.in1) (I.ok.hd hc) _ p (Nat.ne_of_lt hlt) its.toArray,⟨⟨_,Heap.get?_push_size _ rfl,rfl,rfl⟩,hil.push _⟩,fun i v s Q E hv hQ=>?_,fun h' tk hk=>?_⟩)
 ·rw[yq rv i v hv];exact wpAny_truthy_bool hQ
 ·obtain⟨f0,f1,f2,f3,f4,f5⟩:=I.vC (uq _) (I.hok.fresh (uq _));have e:(List.range its.toArray.size).all (fun i=>bs.getD i true)=bs.all id:=by rw[uP, ←hlen,range_all]
  rw[e];refine⟨.bl (bs.all id),H,?_,rfl,q⟩;exact(I2.turned (h':=h') (t':=tk) (it:=s.heap.objs.size) (fun b o hb eo=>hk b o (by simpa using hb) eo) f0 f1 f3 f4 f5:)
end
noncomputable def qQ(l:List Str)(x:Str):List Str:=if l.any (· ==x)then l else l++[x]
noncomputable def met(f:Nat->Str):Nat->List Str
 |0=>[]
 |i+1=>qQ (met f i) (f i)
theorem jW(l:List Str)(x k:Str):(qQ l x).any (· ==k)=(l.any (· ==k)||decide (k=x)):=by
 unfold qQ
 by_cases h:l.any (· ==x)=true
 ·rw[if_pos h]
  by_cases e:k=x
  ·subst e;rw[h];simp
  ·simp[e]
 ·rw[if_neg h,List.any_append]
  by_cases e:k=x
  ·subst e;simp
  ·have hb:(x==k)=false:=by simpa[beq_iff_eq]using(fun q:x=k=>e q.symm)
   simp[hb,e]
theorem YH(l:List Str)(x:Str):(qQ l x).length=if l.any (· ==x)then l.length else l.length+1:=by unfold qQ;split<;>simp
theorem kR(f:Nat->Str):∀i,(met f i).length<=i
 |0=>uq _
 |i+1=>by
  have:=kR f i;show(qQ (met f i) (f i)).length<=i+1;rw[YH]
  split<;>omega
section
variable {prog:Program}{w:World}{A:Around}{R:Result->Shared->Prop}{J:Addr}{fp wr:List Addr}{G:Array GenState->Array GenState->Prop}{n:Nat}{P:Nat->Value->Prop}{St:Nat->Shared->Prop}
theorem kS(W:WalksS prog w A.in1 J fp wr G n P St)(S:Addr)(hS0:S∉fp)(f:Nat->Str)(hf:∀i v,P i v->∃t,v=.str (f i) t) (hb:n+1<scanBound):
  ∀(m i:Nat)(s:Shared),n-i=m->i<=n->St i s->s.heap.SetOf (strKind prog w) S (fun q=>(met f i).any (· ==q)) (met f i).length->
   (∀s',Moved (S::wr) G s s'->s'.heap.SetOf (strKind prog w) S (fun q=>(met f n).any (· ==q)) (met f n).length->R (.ok (.ret .none)) s')->codeAny (model prog w) A (.builtin "set.update.loop" ⟨[.ref S,.ref J],[]⟩) R s:=by
 have hSw:S∉wr:=fun h=>hS0 (W.sub _ h);have hsub:∀b∈wr,b∈S::wr:=fun b hb=>uz _ hb;intro m
 induction m with
 |zero=>
  intro i s hk hi hst hS hR;obtain rfl:i=n:=by omega
  refine codeAny_builtin F.entry_set_update_loop ?_;rw[Around.under_plainId F.plain_set_update_loop _];show wpAny _ A.in1 (pyNext (.ref J)>>=_) _ _ s;refine wpAny_bind (W.done s _ _ hst fun s' hm=>?_);show wpAny _ A.in1 (ret Value.none) _ _ s';exact wpAny_pure (hR s' (hm.mono hsub) (by obtain⟨o,es,ep,t,ho,rest⟩:=hS;exact⟨o,es,ep,t,hm.heap S _ hSw ho,rest⟩))
 |succ m ih=>
  intro i s hk hi hst hS hR;have hlt:i<n:=by omega
  refine codeAny_builtin F.entry_set_update_loop ?_;rw[Around.under_plainId F.plain_set_update_loop _];show wpAny _ A.in1 (pyNext (.ref J)>>=_) _ _ s;refine wpAny_bind (W.item i s _ _ hlt hst fun v s' hP hst' hm=>?_);obtain⟨t,rfl⟩:=hf i v hP;have hS':s'.heap.SetOf (strKind prog w) S (fun q=>(met f i).any (· ==q)) (met f i).length:=by obtain⟨o,es,ep,tb,ho,rest⟩:=hS;exact⟨o,es,ep,tb,hm.heap S _ hSw ho,rest⟩
  show wpAny _ A.in1 (holding [Value.str (f i) t] (setAdd S (.str (f i) t))>>=_) _ _ s';refine wpAny_bind (wpAny_holding ?_);unfold setAdd;refine wpAny_holding ?_;refine wpAny_bind ((strKind prog w).pyHash (k:=f i) (strKind_is _ _ _ _) ?_);have hroom:(met f i).length+1<scanBound:=by have:=kR f i;omega
  refine wpAny_setAddHashed_of (knd:=strKind prog w) (s:={s' with toks:=s'.toks+1}) (strKind_is _ _ _ _) rfl hS' hroom fun h' hsb hS2=>?_;have hSi:h'.SetOf (strKind prog w) S (fun q=>(met f (i+1)).any (· ==q)) (met f (i+1)).length:=SetOf_congr hS2 (fun q=>by show _=(qQ (met f i) (f i)).any (· ==q);rw[jW]) (by show _=(qQ (met f i) (f i)).length;rw[YH]);refine wpAny_pure ⟨plainId_quiet F.plain_set_update_loop _,ih (i+1) _ (by omega) hlt (W.frame _ s' _ _ hst' (Nat.le_succ _) fun b hb o e=>?_) hSi fun s'' hm'' hS''=>?_⟩
  ·rw[hsb.2 b (fun h:b=S=>hS0 (by rw[←h];exact hb))];exact e
  ·refine hR s'' (Moved.trans W.gtrans ((hm.mono hsub).then_heap (Nat.le_succ _) fun b o hb e=>?_) hm'') hS'';rw[hsb.2 b (fun h:b=S=>hb (by rw[h];exact uA))];exact e
end
noncomputable abbrev kT(led:Bool):Obj:={cls:=.type "set",dict:=none,data:=.set #[] 0 (.fresh 0 0 led)}
section
variable {X:Cx}{pins:List (Addr × Obj)}{σ:List (Option V)}{H:Hp}{s:Shared}{h':Heap}
theorem Inv.Qbr{t':Nat}{ch:List Addr}{T:Addr}{nw:HO}(I:Inv X pins σ H s)(hf:∀b∈ch,vv X pins H b) (k:∀b o,b∉ch->s.heap.get? b=some o->h'.get? b=some o) (hT:s.heap.objs.size<=T)
  (new:Jk X.prog X.w (upd H T nw) h' T nw):Inv X pins σ (upd H T nw) {s with heap:=h',toks:=t'}:=by
 have hn:=I.hok.fresh hT;have nit:∀b u,H b=some u->b∉ch:=fun b u e z=>by rw[(hf b z).1]at e;cases e
 have nT:∀b o,H b=some o->upd H T nw b=some o:=fun b o e=>by rw[Qp (Qv e hn)];exact e
 refine I.step (g':=s.gens) (d':=s.drawn) (ch:=ch) (fun b hb=>?_) (fun b o _ _ hc e _=>k b o hc e) (fun b o _ _ hc e _=>⟨o.slots,k b o hc e⟩) (fun b o _ e n=>?_) (fun b o hc e=>⟨o,k b o hc e⟩) (fun b ys e=>nT b _ e) (fun b o u e=>nT b _ e) (fun b ps e=>⟨#[],by rw[nT b _ e];simp⟩) (fun m hm=>?_) (fun b u e=>?_) I.bare
 ·obtain⟨_,f1,_,f3,f4,f5⟩:=hf b hb;exact⟨f3,f1,f4,f5⟩
 ·rw[Qp (fun z=>absurd (Heap.lt_size e) (by rw[z];exact Nat.not_lt.mpr hT))];exact n
 ·obtain⟨o,es,ep,ho,r⟩:=hm;exact⟨o,es,ep,k _ o (fun z=>(hf _ z).2.1 rfl) ho,r⟩
 ·by_cases hb:b=T
  ·subst hb;rw[Qa]at e;cases e;exact new
  ·rw[Qp hb]at e;refine(I.hok b u e).zB (fun c v hc q=>k c v ?_ q) (fun c q=>nT c _ q) fun c ys q=>nT c _ q;rcases hc with z|z
   ·rw[z];exact nit b u e
   ·exact nit c _ z
end
theorem Qbs{ys:List Str}{us:List Value}(r:Vals (ys.map V.str) us):∀(i:Nat)(v:Value),us.toArray[i]? =some v->∃t:Tok,v=Value.str (ys.getD i "") t:=fun i v hv=>by
 have h1:us[i]? =some v:=by simpa using hv
 have hlt:=(List.getElem?_eq_some_iff.mp h1).1;have hl:=r.length;rw[uk]at hl;have h2:(ys.map V.str)[i]? =some (V.str (ys.getD i "")):=by
  rw[uE,List.getElem?_eq_getElem (by omega)];simp[List.getD,List.getElem?_eq_getElem (show i<ys.length by omega)]
 obtain⟨u,e1,q⟩:=r.get h2;rw[h1]at e1;obtain rfl:=ur e1;exact q
noncomputable def QdA(P:Program)(w:World)(a:Addr)(n:Nat):HO:=.ext fun h=>∃S:Str->Bool,h.SetOf (strKind P w) a S n
noncomputable def many(ys:List Str):Nat:=(met (fun i=>ys.getD i "") ys.length).length
section
variable {X:Cx}
theorem qR:XG X (.builtin "len") (fun xs H Q=>∃(p:Addr)(n:Nat),xs=[.ref p]/\H p=some (QdA X.prog X.w p n)/\Q (.int n) H):=by
 intro pins s σ H xs us Q I r h;obtain⟨p,n,rfl,hp,q⟩:=h;obtain⟨u,rfl,ru⟩:=vals1 r;obtain rfl:u=Value.ref p:=ru;obtain⟨⟨S,o,es,ep,t,ho,hex,hd,_,_,hsz,hf,rfl⟩,_⟩:=I.hok p _ hp;exact call_len_set ho hex hd hf (by unfold scanBound at hsz;omega) ⟨.int _,H,I.tok _,⟨_,rfl⟩,q⟩
end
open AutoSeq1 (wpAny_loadPart')
theorem kU(ys:List Str):(ys.map V.str).all Z9=true:=by
 rw[List.all_eq_true];intro x hx;obtain⟨y,_,rfl⟩:=List.mem_map.mp hx;rfl
theorem Deep.X8{H:Hp}{l:Addr}{o o':HO}{v:V}{d:Dv}(h:Deep H v d)(e:H l=some o)(n1:∀ys,o≠ .tup ys):Deep (upd H l o') v d:=
 h.keep (fun b ys q=>by rw[Qp (QaW q e fun z=>n1 ys z.symm)];exact q)
theorem Deeps.X8{H:Hp}{l:Addr}{o o':HO}{v:List V}{d:List Dv}(h:Deeps H v d)(e:H l=some o)(n1:∀ys,o≠ .tup ys):Deeps (upd H l o') v d:=
 h.keep (fun b ys q=>by rw[Qp (QaW q e fun z=>n1 ys z.symm)];exact q)
theorem Deep.Ud{H:Hp}{v:V}{x:Str}(h:Deep H v (.str x)):v=.str x:=by cases h;rfl
theorem Deep.Qbt{H:Hp}{v:V}{i:Int}(h:Deep H v (.int i)):v=.int i:=by cases h;rfl
theorem Deep.Wy{H:Hp}{v:V}{ds:List Dv}(h:Deep H v (.tup ds)):∃a xs,v=.ref a/\H a=some (.tup xs)/\Deeps H xs ds:=by cases h with|tup h t=>exact⟨_,_,rfl,h,t⟩
section
variable {prog:Program}{w:World}{A:Around}{E:Value->Shared->Prop}{s:Shared}
theorem yt(t b:Addr)(ys:Array Value)(n n2:Nat)(dd dd2:Option Addr)(sl sl2:Array (Option Value)):
  Meets (Builtin.«tuple.__add__» ⟨[.ref t,.ref b],[]⟩) (fun _ R s=>s.heap.get? t=some ⟨.type "tuple",dd,.seq #[] n,sl⟩/\s.heap.get? b=some ⟨.type "tuple",dd2,.seq ys n2,sl2⟩/\R (.ok (.ret (.ref b))) s):=
 .of_wp fun prog w A R s h=>by
  obtain⟨hp,g,d,tk,os⟩:=s;obtain⟨hl,hb,h⟩:=h;have f2:=AutoSeq1.sub_tuple_tuple
  wp_walk using wpAny_loadPart' hl,wpAny_loadPart' hb
  exact⟨_,rfl,h⟩
theorem yu{t b:Addr}{ws:List Value}{Q:Value->Shared->Prop}(ht:IsTup s.heap t #[])(hb:IsTup s.heap b ws.toArray)(q:Q (.ref b) s):wpAny (model prog w) A (binaryOp .Add (.ref t) (.ref b)) Q E s:=by
 obtain⟨⟨cls,dd,data,sl⟩,ho,hc,n,hd⟩:=id ht;obtain⟨⟨cls2,dd2,data2,sl2⟩,ho2,hc2,n2,hd2⟩:=id hb;simp only at hc hd hc2 hd2;subst hc hd hc2 hd2;exact concat_meets ⟨_,ho,rfl⟩ ⟨_,ho2,rfl⟩ noFill_tuple_add seq_tuple_add slot_tuple_add entry_tuple_add (args_tuple_add_2 _ _) (yt t b ws.toArray n n2 dd dd2 sl sl2) ⟨ho,ho2,q⟩
open HT in
theorem kW{t sl:Addr}{its:Array Value}{vl vu:Value}{lo hi:Option Int}{Q:Value->Shared->Prop}(ht:IsTup s.heap t its)(hs:s.heap.IsSliceOf sl vl vu .none)(pl:IsPart vl lo)(pu:IsPart vu hi)(hw:sIx its.size 0 lo=0/\sIx its.size its.size hi=its.size)(q:Q (.ref t) s):
  wpAny (model prog w) A (getItem (.ref t) (.ref sl)) Q E s:=by
 obtain⟨os,hos,hcs,hds⟩:=id hs;have hTs:s.TypeIs (.ref sl) "slice":=⟨os,hos,hcs⟩;unfold getItem
 try with_reducible refine wpAny_holding ?_
 first|refine wpAny_bind (wpAny_pure ?_)|skip
 refine wpAny_bind (wpAny_sequenceKey ht.typeIs (by decide) ?_);refine wpAny_bind (wpAny_callSpecial?_slot (name:=Str.ofString "__getitem__") ht.typeIs PyProof.Rows.slot_tuple_getitem (wpAny_call_entry PyProof.Rows.slot_tuple_getitem ht.typeIs entry_tuple_getitem ?_ (args_tuple_getitem _ _)));show wpAny _ _ (Builtin.Tuple.tupleItemsOf (.ref t)>>=_) _ _ s;refine wpAny_bind (tupleItemsOf_ ht ?_);refine wpAny_bind (wpAny_typeOf hTs ?_);rw[if_pos (by decide)];refine wpAny_bind (Z6 hs pl pu ?_);rw[hw.1,hw.2];show wpAny _ _ (if(((0:Nat):Int)==0&&(1:Int)==1&&(its.size-0)==its.size)=true then _ else _) _ _ s;rw[if_pos (by simp)];obtain⟨⟨cls,dd,data,sl'⟩,ho,hc,n,hd⟩:=id ht;simp only at hc hd;subst hc hd
 wp_walk using wpAny_loadPart' ho
 exact⟨_,rfl,wpAny_pure q⟩
end
section
variable {X:Cx}
theorem yx:OpR X (binaryOp .Add) (fun x y H Q=>∃a b ys,x=.ref a/\y=.ref b/\Rd H a (.tup [])/\Rd H b (.tup ys)/\Q (.ref b) H):=by
 intro pins s σ H x y v u Q I rx ry h;obtain⟨a,b,ys,rfl,rfl,ha,hb,q⟩:=h;cases rx;cases ry;obtain⟨its,r1,p1,_⟩:=I.tuple (.inl ha);obtain⟨its2,r2,p2,_⟩:=I.tuple (.inl hb);obtain rfl:its=[]:=r1.Yh.mpr rfl;exact yu p1 p2 ⟨.ref b,H,I,rfl,q⟩
noncomputable def yz:R2:=fun x y H Q=>∃a b xs ys,x=.ref a/\y=.ref b/\Rd H a (.tup xs)/\Rd H b (.tup ys)/\xs.length+ys.length<=sizeLine/\(xs=[]->Q (.ref b) H)/\(xs≠[]->ys=[]->Q (.ref a) H)/\(xs≠[]->ys≠[]->∀p,H p=none->Q (.ref p) (upd H p (.tup (xs++ys))))
theorem qS:OpR X (binaryOp .Add) yz:=by
 intro pins s σ H x y v u Q I rx ry h;obtain⟨a,b,xs,ys,rfl,rfl,ha,hb,hz,q0,q1,q2⟩:=h
 by_cases hx:xs=[]
 ·subst hx;exact yx pins s σ H _ _ v u Q I rx ry ⟨a,b,ys,rfl,rfl,ha,hb,q0 rfl⟩
 ·exact Qa6 pins s σ H _ _ v u Q I rx ry ⟨a,b,xs,ys,rfl,rfl,.inl ha,.inl hb,hx,hz,q1 hx,q2 hx⟩
theorem Qt:IxR X (fun x y H Q=>∃p xs i v,x=.ref p/\y=.int i/\Rd H p (.tup xs)/\atI xs i=some v/\Q v H):=fun value slice pins s σ H x y v u Q I rx ry⟨p,xs,i,z,e1,e2,hq,he,q⟩ hs=>Zr value slice pins s σ H x y v u Q I rx ry ⟨p,xs,i,z,e1,e2,.inl hq,he,q⟩ hs
theorem Zk:IxR X (fun x y H Q=>∃p xs i v,x=.ref p/\y=.int i/\Rd H p (.lst xs)/\atI xs i=some v/\Q v H):=fun value slice pins s σ H x y v u Q I rx ry⟨p,xs,i,z,e1,e2,hq,he,q⟩ hs=>Q0 value slice pins s σ H x y v u Q I rx ry ⟨p,xs,i,z,e1,e2,.inl hq,he,q⟩ hs
noncomputable def Qff:V->Option Int->Option Int->Hp->VK->Prop:=fun x lo hi H Q=>∃a xs,x=.ref a/\Rd H a (.tup xs)/\((HT.sIx xs.length 0 lo=0/\HT.sIx xs.length xs.length hi=xs.length)->Q (.ref a) H)/\(¬ (HT.sIx xs.length 0 lo=0/\HT.sIx xs.length xs.length hi=xs.length)->∀p,H p=none->Q (.ref p) (upd H p (.tup (Vz xs lo hi))))
theorem Qbu:SlR X Qff:=by
 intro pins s σ H x v vl vu lo hi sl Q I rx hs pl pu h;obtain⟨a,xs,rfl,hx,q1,q2⟩:=h
 by_cases hw:HT.sIx xs.length 0 lo=0/\HT.sIx xs.length xs.length hi=xs.length
 ·cases rx;obtain⟨its,r,ht,hz⟩:=I.tuple (.inl hx);have hlen:its.toArray.size=xs.length:=by rw[uP];exact r.length.symm
  exact⟨"tuple",_,PyProof.Rows.slot_tuple_getitem.lookup,ht.typeIs,kW ht hs pl pu (by rw[hlen];exact hw) ⟨.ref a,H,I,rfl,q1 hw⟩⟩
 ·exact Qct pins s σ H (.ref a) v vl vu lo hi sl Q I rx hs pl pu ⟨a,xs,rfl,.inl hx,hw,q2 hw⟩
theorem yA(z:Str)(ys:List Str):inV (.str z) (ys.map V.str)=ys.contains z:=by
 unfold inV;rw[List.any_map,List.contains_eq_any_beq]
 congr 1
 funext y
 show(y==z)=(z==y)
 by_cases e:y=z
 ·subst e;rfl
 ·rw[beq_eq_false_iff_ne.mpr e,beq_eq_false_iff_ne.mpr (fun q=>e q.symm)]
theorem kX:OpR X (compareOp .NotIn) (fun x y H Q=>∃(p:Addr)(ys:List Str)(z:Str),x=.str z/\y=.ref p/\Rd H p (.tup (ys.map V.str))/\Q (.bl (!ys.contains z)) H):=fun pins s σ H x y v u Q I rx ry⟨p,ys,z,e1,e2,hq,q⟩=>Xf pins s σ H x y v u Q I rx ry ⟨p,_,e2,.inr (.inl hq),by rw[e1];rfl,kU ys,by rw[e1,if_pos rfl,yA];exact q⟩
end
section
variable {J:It}{n:Nat}{Ok:Hp->Prop}{item:Nat->Hp->V->Hp->Prop}{wi:TI}{g:TG}{te:TE}{Q:VK}{σ:St}{H:Hp}
theorem V4{H H':Hp}{vs:List V}{u:V}{ds:List Dv}{i:Nat}{d:Dv}(h:Deeps H vs (ds.take i))(S:Qk H H')(e:ds[i]? =some d)(hu:Deep H' u d):Deeps H' (vs++[u]) (ds.take (i+1)):=by
 rw[List.take_add_one,e];exact(h.same S).append (.cons hu .nil)
theorem ZN{NB:List Str}(F:Fix J n Ok item)(ds:List Dv)(hn:ds.length=n)(h:∀R:It->Hp->Prop,(∀H1,Qk H H1->R J H1)->wi σ H R) (ho:∀H1,Qk H H1->Ok H1)
  (hs:∀i v H1 H2 d(R:V->Hp->Prop),ds[i]? =some d->Qk H H1->item i H1 v H2->(∀u H4,Qk H1 H4->Deep H4 u d->R u H4)->g v (List.replicate NB.length none) H2 fun σ2 H3=>te σ2 H3 R)
  (hd:∀xs H1 p,Qk H H1->Deeps H1 xs ds->H1 p=none->Q (.ref p) (upd H1 p (.lst xs))) (hz:n<sizeLine):KQ NB wi g vY te σ H Q:=by
 refine Ko F (fun i vs H1=>Qk H H1/\Deeps H1 vs (ds.take i)) (fun R k=>h R fun H1 S=>k H1 ⟨S,.nil⟩) (fun i vs H1 hi⟨S,t⟩=>⟨ho H1 S,by rw[t.length,uB];omega⟩) ?_ ?_ hz
 ·rintro i v vs H1 H2 hi ⟨S,t⟩ it;have e:ds[i]? =some ds[i]:=List.getElem?_eq_getElem (by omega);exact hs i v H1 H2 _ (fun u H4=>Qk H H4/\Deeps H4 (vs++[u]) (ds.take (i+1))) e S it fun u H4 S4 du=>⟨S.trans S4,V4 t S4 e du⟩
 ·rintro vs H1 ⟨S,t⟩ p hp;rw[List.take_of_length_le (by omega)]at t;exact hd vs H1 p S t hp
theorem xc{nn:Nat}{fi:List Nat}{fv:List V}(F:Fix J n Ok item)(ds:List Dv)(hn:ds.length=n)(h:∀R:It->Hp->Prop,(∀H1,Qk H H1->R J H1)->wi σ H R) (hfv:fi.map (fun i=>σ[i]?)=fv.map (fun v=>some (some v))) (ho:∀H1,Qk H H1->Ok H1)
  (hs:∀i v H1 H2 d(R:V->Hp->Prop),ds[i]? =some d->Qk H H1->item i H1 v H2->(∀u H4,Qk H1 H4->Deep H4 u d->R u H4)->g v (List.replicate nn none++fv.map some) H2 fun σ2 H3=>σ2.drop nn=fv.map some/\te σ2 H3 R)
  (hd:∀xs H1 p,Qk H H1->Deeps H1 xs ds->H1 p=none->Q (.ref p) (upd H1 p (.lst xs))) (hz:n<sizeLine):UN nn fi wi g vY te σ H Q:=by
 refine kQ F (fun i vs H1=>Qk H H1/\Deeps H1 vs (ds.take i)) (fun R k=>h R fun H1 S=>k H1 ⟨S,.nil⟩) hfv (fun i vs H1 hi⟨S,t⟩=>⟨ho H1 S,by rw[t.length,uB];omega⟩) ?_ ?_ hz
 ·rintro i v vs H1 H2 hi ⟨S,t⟩ it;have e:ds[i]? =some ds[i]:=List.getElem?_eq_getElem (by omega);exact hs i v H1 H2 _ (fun u H4=>Qk H H4/\Deeps H4 (vs++[u]) (ds.take (i+1))) e S it fun u H4 S4 du=>⟨S.trans S4,V4 t S4 e du⟩
 ·rintro vs H1 ⟨S,t⟩ p hp;rw[List.take_of_length_le (by omega)]at t;exact hd vs H1 p S t hp
theorem yB{H:Hp}{xs:List V}{ds:List Dv}(t:Deeps H xs ds){p:Addr}(hp:H p=none):Deep (upd H p (.tup xs)) (.ref p) (.tup ds):=.tup Qa (t.same (Qk.new hp))
theorem K6{H:Hp}:∀{xs:List V}{ns:List Int},Deeps H xs (ns.map Dv.int)->xs=ns.map V.int
 |_,[],.nil=>rfl
 |_,n::ns,.cons h t=>by
  obtain rfl:=h.Qbt;rw[K6 (ns:=ns) t];rfl
end
theorem cb1{r:List V->Hp->VK->Prop}{te:TE}{σ:St}{H:Hp}{Q:VK}(h:te σ H fun v H1=>r [v] H1 Q):tCB r (Ja te WO) σ H Q:=h
theorem Qax{te:TE}{D:Ends}{σ:St}{H:Hp}(h:te σ H D.rt):QaZ te D σ H:=h
theorem kY{n:Nat}{fi:List Nat}{wi:TI}{g:TG}{tt:TT}{te:TE}{Q:VK}{σ:St}{H:Hp}(h:wi σ H fun J H1=>UN n fi (fun _ H R=>R J H) g tt te σ H1 Q):UN n fi wi g tt te σ H Q:=h
section
variable {X:Cx}
noncomputable def Qbv:R2:=fun x y H Q=>∃p xs i v,x=.ref p/\y=.int i/\Rd H p (.lst xs)/\atI xs i=some v/\Q v H
theorem yC{es:List Expr}{t:TA}{b:Expr}{tb:TE}{p pos:Pos}(h:PAx X es t)(hb:PEx X b tb)(hs:xN b):PEx X (.Subscript (.List es p) b pos) (tOp Qbv (Qca t) tb):=⟨Qw Zk (Zw h.pa) hb.pe hs⟩
theorem Qy{i:Nat}{x:Str}{e:Expr}{te:TE}{pos pos':Pos}(hN:X.N.Nodup)(hi:X.N[i]? =some x)(hx:Loc X.env.scope x)(he:PEx X e te)(hs:swapsWith e (some (.Name x pos')) pos.line X.env=pure false)(hf:X.fn x=true):PSy X (.Assign [.Name x pos'] e pos) (JP te (QH i)):=⟨QE hN hi hx he.pe hs (.inl hf)⟩
theorem Vh{tg iter:Expr}{body:List Stmt}{wi:TI}{g:TG}{tb:TS}{pos:Pos}(hp:PassesOwn (model X.prog X.w) X.A X.env X.xe)(hc:X.calm=true)(hi:PI X tg iter wi)(hg:PG X tg g)(hb:PSx X body tb)(hs:∀x,foldedSetIterable iter X.env x=pure x):PSy X (.For tg iter body [] pos) (QeE wi g tb):=⟨VP hp hc hi hg hb.ps hs⟩
theorem QG{e:Expr}{te:TE}{pos:Pos}(he:PEx X e te):PSy X (.Return (some e) pos) (QaZ te):=⟨QD he.pe⟩
end
noncomputable def TaD(ta:TA)(ds:List Dv):Prop:=∀(σ:St)(H:Hp)(R:List V->Hp->Prop),(∀xs H1,Qk H H1->Deeps H1 xs ds->R xs H1)->ta σ H R
theorem Qbw:TaD WO []:=fun σ H R h=>h [] H (Qk.refl _) .nil
theorem K7{x:Str}{t:TA}{ds:List Dv}(h:TaD t ds):TaD (Ja (tC (.str x)) t) (.str x::ds):=fun σ H R k=>h σ H _ fun xs H1 S t=>k _ _ S (.cons .str t)
section
variable {K:PySem.W.Frag}
section
variable {H H':Hp}{a t r:Addr}{ns:List Int}{c c':Int}
theorem Bag.Wz(B:Bag K H a t r ns c)(A:Apart t r H H'):∀b ys,H b=some (.tup ys)->H' b=some (.tup ys):=fun b ys e=>B.keep A e fun _ z=>nomatch z
theorem Bag.Qef{σ:St}{i j:Nat}{n:Int}{ta:TA}{ds:List Dv}{Q:VK}{E:XK}(B:Bag K H a t r ns c)(hi:σ[i]? =some (some (.ref a)))(hj:σ[j]? =some (some (.ref t)))(hta:TaD ta ds)(hn:n=(ds.length:Int))(h0:0<n)(h1:n<1000)(hc:c<100000)
  (k:∀(d:Nat)(x:V)(dv:Dv)(H':Hp),ds[d]? =some dv->Deep H' x dv->Bag K H' a t r ns (c+1)->Apart t r H H'->Q x H'):tOp Qbv (Qca ta) (VB (WW K) [] E (Ja (Xa i) (Ja (Xa j) (Ja (tC (.int n)) WO)))) σ H Q:=by
 have hz:1000<=sizeLine:=by decide
 refine hta _ _ _ fun xs H1 S1 T1=>⟨by have:=T1.length;omega,fun p hp=>?_⟩;have S:=Qk.new (o:=.lst xs) hp;have B1:=B.same (S1.trans S);refine B1.draw hi hj (fun R h=>h) h0 (by omega) hc fun d H' hd B' A'=>?_;have hl:=T1.length;obtain⟨x,hx⟩:∃x,xs[d]? =some x:=⟨_,List.getElem?_eq_getElem (by omega)⟩;have hpp:H' p=some (.lst xs):=B1.keep A' Qa fun _ z=>nomatch z;obtain⟨dv,hdv,ddv⟩:=T1.VI hx;exact⟨p,xs,d,x,rfl,rfl,.inl hpp,QK hx,k d x dv H' hdv ((ddv.same S).keep (B1.Wz A')) B' (fun b o e n1 n2=>A' b o ((S1.trans S) _ _ e) n1 n2)⟩
end
end
noncomputable def isStar:Expr->Bool
 | .Starred .. =>true
 |_=>false
theorem X9{e:Expr}{es:List Expr}{env:Env}(h:isStar e=false):starEach (e::es) env=(false,eval e env)::starEach es env:=by
 cases e<;>first|rfl|cases h
section
variable {X:Cx}{K0:PySem.W.Frag}{o e e1:Expr}{es:List Expr}{to te te1:TE}{t:TA}{name:Str}{apos cpos:Pos}{T id:String}{r:V->List V->Hp->VK->Prop}
theorem Qz(ha:PE X e te)(hr:PA X es t)(h:isStar e=false:=by rfl):PA X (e::es) (Ja te t):=Qb ha hr (X9 h)
theorem kZ(pa:PlainAttrs T)(slot:Slot T name id)(hty:typeOf (.builtin id)=pure (.type "method_descriptor"))(hm:MtR X id r)(ho:PE X o to)(ha:PA X [e] t)(h:isStar e=false:=by rfl)
  (hbase:attributeBase o name X.env (eval o X.env)=eval o X.env:=by rfl) (hline:(apos.endLine==cpos.line)=true:=by rfl):PE X (.Call (.Attribute o name apos) [e] [] cpos) (tBM X.K T r to t):=by
 refine JQ pa slot hty hm ho ha hbase ?_ hline (X9 h) rfl;rw[X9 h];rfl
theorem yD{x:Str}{j:Nat}{p:Pos}(ha:PA X [e] t)(h:isStar e=false)(hline:(apos.endLine==cpos.line)=true):PE X (.Call (.Attribute (.Constant (.str x) j p) "join" apos) [e] [] cpos) (tBM X.K "str" (fun x vs H Q=>∃(z:Str)(p:Addr)(ys:List Str),x=.str z/\vs=[.ref p]/\SqL X.K H p (ys.map V.str)/\JoinOk z ys=true/\Q (.str (Txt.join z ys)) H) (tC (.str x)) t):=
 kZ plainAttrs_str slot_str_join type_str_join qD Qg ha h rfl hline
theorem Xq{x:Str}{j:Nat}{p:Pos}(ha:PAx X [e] t)(h:isStar e=false)(hline:(apos.endLine==cpos.line)=true):PEx X (.Call (.Attribute (.Constant (.str x) j p) "join" apos) [e] [] cpos) (tBM X.K "str" (fun x vs H Q=>∃(z:Str)(p:Addr)(ys:List Str),x=.str z/\vs=[.ref p]/\SqL X.K H p (ys.map V.str)/\JoinOk z ys=true/\Q (.str (Txt.join z ys)) H) (tC (.str x)) t):=⟨yD ha.pa h hline⟩
theorem Q2{a b:Expr}{ta tb:TE}{pos:Pos}{op:Operator}{r:R2}(hr:OpR X (binaryOp op) r)(ha:PEx X a ta)(hb:PEx X b tb):PEx X (.BinOp a op b pos) (tOp r ta tb):=⟨QP hr ha.pe hb.pe⟩
theorem QF(ha:PEx X e te)(hr:PAx X es t)(h:isStar e=false):PAx X (e::es) (Ja te t):=⟨Qb ha.pe hr.pa (X9 h)⟩
theorem Wk{c a b:Expr}{tA:TT}{ta tb:TE}{pos:Pos}(hc:PT X c tA)(ha:PEx X a ta)(hb:PEx X b tb):PEx X (.IfExp c a b pos) (tIf tA ta tb):=⟨Ze hc ha.pe hb.pe⟩
theorem Jt{k:Nat}{pos:Pos}(h:PAx X es t):PEx X (.Tuple es k pos) (Qcp t):=⟨QO h.pa⟩
theorem Zd{c:Expr}{a b:List Stmt}{tc:TT}{t1 u:TS}{pos:Pos}(hc:PT X c tc)(ha:PSx X a t1)(hb:PSx X b u):PSy X (.If c a b pos) (qh tc t1 u):=⟨Jh hc ha.ps hb.ps⟩
theorem JN:PSx X [] QU:=⟨QI⟩
end
theorem qT:typeLookup (.type "tuple") "__reversed__"=pure none:=by rw[typeLookup_type,builtinLookup_eq_fast];kernel_rfl
theorem Vi:typeLookup (.type "tuple") "__getitem__"=pure (some (.builtin "tuple.__getitem__")):=by rw[typeLookup_type,builtinLookup_eq_fast];kernel_rfl
theorem sub_tuple_dict:isSubtype (.type "tuple") (.type "dict")=pure false:=by rw[isSubtype_type];kernel_rfl
noncomputable abbrev Kq(h:Heap)(it a:Addr)(i:Int):Prop:=h.get? it=some {cls:=.type "reversed",data:=.fields #[.ref a,rawInt i]}
set_option maxHeartbeats 4000000 in
theorem xf(a:Addr)(xs:Array Value):Meets (Builtin.«reversed.__new__» ⟨[.type "reversed",.ref a],[]⟩) (fun _ R s=>IsTup s.heap a xs/\((xs.size:Nat):Int)<2^63/\∀k,R (.ok (.ret (.ref s.heap.objs.size))) {s with heap:=s.heap.push {cls:=.type "reversed",data:=.fields #[.ref a,rawInt ((xs.size:Int)-1)]},toks:=k}):=
 .of_wp fun prog w A R s h=>by
  obtain⟨hp,g,d,tk,os⟩:=s;obtain⟨h1,hl,h⟩:=h;have hsub:=F.sub_reversed_self;have ht:Shared.TypeIs ⟨hp,g,d,tk,os⟩ (.ref a) "tuple":=by obtain⟨o,e,c,_⟩:=h1;exact⟨o,e,c⟩
  have hx:=qT;have hy:=Vi;have hd:=sub_tuple_dict;have p1:IsTup (Shared.heap ⟨hp,g,d,tk,os⟩) a xs:=h1
  wp_walk using wpAny_specialOf ht hx ?_,wpAny_specialOf ht hy ?_,len_tuple p1 hl ?_
  exact⟨_,rfl,h _⟩
theorem JO:Slot "reversed" (Str.ofString "__next__") "reversed.__next__":=Slot.of (owner:="reversed") (n:="__next__") (by rw[typeLookup_type,builtinLookup_eq_fast];kernel_rfl) (by decide+kernel) (by decide+kernel) (by decide+kernel) (Or.inl (by decide+kernel)) F.sub_reversed_self (by decide+kernel)
theorem Kr:Slot "reversed" (Str.ofString "__iter__") "reversed.__iter__":=Slot.of (owner:="reversed") (n:="__iter__") (by rw[typeLookup_type,builtinLookup_eq_fast];kernel_rfl) (by decide+kernel) (by decide+kernel) (by decide+kernel) (Or.inl (by decide+kernel)) F.sub_reversed_self (by decide+kernel)
theorem XR:entryFor table "reversed.__next__"=some Builtin.«reversed.__next__»:=entryFor_of_tree (by kernel_rfl)
theorem Ks(a:Value):argsOk "reversed.__next__" {pos:=[a]}:=by first|with_unfolding_all rfl|kernel_rfl
theorem YI(a:Value):argsOk "reversed.__iter__" {pos:=[a]}:=by first|with_unfolding_all rfl|kernel_rfl
theorem qU:isSubtype (.type "reversed") (.type "object")=pure true:=by rw[isSubtype_type];kernel_rfl
theorem YJ:Slot "reversed" (Str.ofString "__init__") "object.__init__":=Slot.of (owner:="object") (n:="__init__") (by rw[typeLookup_type,builtinLookup_eq_fast];kernel_rfl) (by decide+kernel) (by decide+kernel) (by decide+kernel) (Or.inl (by decide+kernel)) qU (by decide+kernel)
theorem xg:TypeCalled "reversed" "reversed.__new__" "object.__init__":=⟨by decide,F.create_reversed,⟨_,_,F.mro_reversed⟩,F.made_reversed,F.plain_reversed_new,F.sub_reversed_self,YJ⟩
theorem VJ:entryFor table "reversed.__iter__"=some Builtin.«dict_keyiterator.__iter__»:=entryFor_alias (id':="dict_keyiterator.__iter__") (by rw[fastTable_eq_tree];kernel_rfl) (by first|kernel_rfl|decide+kernel) (by first|kernel_rfl|decide+kernel) (by rw[fastTable_eq_tree];kernel_rfl)
section
variable {prog:Program}{w:World}{A:Around}{E:Value->Shared->Prop}{s:Shared}
set_option maxHeartbeats 4000000 in
theorem k4{it a:Addr}{i:Nat}{xs:Array Value}{x:Value}{Q:Value->Shared->Prop}(h:Kq s.heap it a (i:Int))(hT:IsTup s.heap a xs)(hi:i<xs.size)(hl:((xs.size:Nat):Int)<2^63)(hx:xs[i]? =some x)
  (hQ:∀h' k,Kq h' it a ((i:Int)-1)->Heap.SameBut it s.heap h'->Q x {s with heap:=h',toks:=k}):wpAny (model prog w) A (Builtin.«reversed.__next__» ⟨[.ref it],[]⟩) (fun fin s'=>∃v,fin=.done (.ret v)/\Q v s') E s:=by
 have ht:Shared.TypeIs s (.ref a) "tuple":=by obtain⟨o,e,c,_⟩:=hT;exact⟨o,e,c⟩
 have hn:¬ ((i:Int)<0):=by omega
 show wpAny _ _ (field (.ref it) 0>>=_) _ _ _;refine wpAny_bind (wpAny_field h rfl (x:=.ref a) rfl ?_);refine wpAny_bind (wpAny_field h rfl (x:=rawInt (i:Int)) rfl ?_);unfold rawInt;dsimp only;rw[if_neg hn];refine wpAny_bind (wpAny_specialOf ht Vi ?_);rw[if_neg (by decide)];refine wpAny_bind (wpAny_mkInt ?_);refine wpAny_bind (wpAny_attempt (getItem_tuple (s:={s with toks:=s.toks+1}) (j:=i) hT (by omega) (by omega) ?_ hx ?_))
 ·unfold seqIndex?;dsimp only;rw[if_neg hn,if_pos (by simp;omega)];rfl
 dsimp only;refine wpAny_bind (wpAny_field (s:={s with toks:=s.toks+1}) h rfl (x:=rawInt (i:Int)) rfl ?_);unfold rawInt;dsimp only;refine wpAny_bind (wpAny_setField_rec (s:={s with toks:=s.toks+1}) h (by simp) fun h₁ hz₁ hs₁=>?_);exact wpAny_pure ⟨_,rfl,hQ _ _ hz₁ hs₁⟩
set_option maxHeartbeats 4000000 in
theorem yE{it a:Addr}{Q:Fin->Shared->Prop}(h:Kq s.heap it a (-1))(hh:A.handled=none)
  (hE:∀h' e k,(∀c o,c≠it->s.heap.get? c=some o->h'.get? c=some o)->(∃o,h'.get? e=some o/\o.cls=.type "StopIteration")->E (.ref e) {s with heap:=h',toks:=k}):wpAny (model prog w) A (Builtin.«reversed.__next__» ⟨[.ref it],[]⟩) Q E s:=by
 show wpAny _ _ (field (.ref it) 0>>=_) _ _ _;refine wpAny_bind (wpAny_field h rfl (x:=.ref a) rfl ?_);refine wpAny_bind (wpAny_field h rfl (x:=rawInt (-1)) rfl ?_);unfold rawInt;dsimp only;rw[if_pos (by decide)];refine wpAny_bind (wpAny_rule ?_)
 wp_walk
 refine wpAny_raiseNew_none hh ?_;refine hE _ _ _ (fun c o hc e=>?_) ⟨_,Heap.get?_push_size _ rfl,rfl⟩;refine Heap.get?_push_of_some _ (Heap.get?_push_of_some _ ?_);rw[Heap.get?_update_ne _ _ _ _ hc,Heap.get?_update_ne _ _ _ _ hc];exact e
theorem Vj{it a:Addr}{i:Int}{Q:Value->Shared->Prop}(h:Kq s.heap it a i)(hQ:Q (.ref it) s):wpAny (model prog w) A (pyIter (.ref it)) Q E s:=
 have hT:s.TypeIs (.ref it) "reversed":=⟨_,h,rfl⟩
 wpAny_pyIter_slot hT Kr (wpAny_call_entry Kr hT VJ (id (wpAny_pure ⟨_,rfl,"reversed",.builtin "reversed.__next__",hT,JO.lookup,hQ⟩)) (YI _))
theorem qV{it a:Addr}{i:Nat}{xs:Array Value}{x:Value}{Q:Option Value->Shared->Prop}(h:Kq s.heap it a (i:Int))(hT:IsTup s.heap a xs)(hi:i<xs.size)(hl:((xs.size:Nat):Int)<2^63)(hx:xs[i]? =some x)
  (hQ:∀h' k,Kq h' it a ((i:Int)-1)->Heap.SameBut it s.heap h'->Q (some x) {s with heap:=h',toks:=k}):wpAny (model prog w) A (pyNext (.ref it)) Q E s:=by
 have hT2:s.TypeIs (.ref it) "reversed":=⟨_,h,rfl⟩;unfold pyNext;exact wpAny_bind (wpAny_attempt (wpAny_callSpecial?_slot (name:=Str.ofString "__next__") hT2 JO (wpAny_call_entry JO hT2 XR (k4 h hT hi hl hx fun h' k a1 a2=>wpAny_pure (hQ h' k a1 a2)) (Ks _))))
theorem xh{it a:Addr}{Q:Option Value->Shared->Prop}(h:Kq s.heap it a (-1))(hh:A.handled=none)
  (hQ:∀h' k,(∀c o,c≠it->s.heap.get? c=some o->h'.get? c=some o)->Q none {s with heap:=h',toks:=k}):wpAny (model prog w) A (pyNext (.ref it)) Q E s:=by
 have hT2:s.TypeIs (.ref it) "reversed":=⟨_,h,rfl⟩;unfold pyNext;refine wpAny_bind (wpAny_attempt (wpAny_callSpecial?_slot (name:=Str.ofString "__next__") hT2 JO (wpAny_call_entry JO hT2 XR (yE h hh fun h' e k hk he=>?_) (Ks _))));obtain⟨o,ho,hc⟩:=he;refine wpAny_bind (wpAny_isInstance (T:="StopIteration") (b:=true) ⟨o,ho,hc⟩ isSubtype_stop ?_);exact wpAny_pure (hQ _ _ hk)
theorem k8{a:Addr}{xs:Array Value}{Q:Value->Shared->Prop}(hT:IsTup s.heap a xs)(hl:((xs.size:Nat):Int)<2^63)
  (hQ:∀k,Q (.ref s.heap.objs.size) {s with heap:=s.heap.push {cls:=.type "reversed",data:=.fields #[.ref a,rawInt ((xs.size:Int)-1)]},toks:=k}):wpAny (model prog w) A (call (.type "reversed") [.ref a]) Q E s:=
 callType_new xg (by decide) (F.typeCall_reversed_1 _) (F.newCall_reversed_1 _) (fun obj=>F.args_object_init_2 obj _) F.entry_reversed_new (xf a xs) ⟨hT,hl,fun k=>⟨⟨_,Heap.get?_push_size _ rfl,rfl⟩,hQ k⟩⟩
end
noncomputable def Qeg(K:PySem.W.Frag)(a:Addr)(n:Nat):It:=⟨fun i H=>∃xs x,SqT K H a xs/\xs.length=n/\i<n/\xs[n-1-i]? =some x,fun i H v H'=>H'=H/\∀xs,SqT K H a xs->xs[n-1-i]? =some v,fun i H=>i=n⟩
theorem k9{P:Program}{w:World}{K:PySem.W.Frag}{tg:Expr}(a it:Addr)(n:Nat):Turn P w K tg (Qeg K a n) [it] it (fun i h=>i<=n/\Kq h it a ((n:Int)-1-(i:Int))) where
 mem:=by simp
 obj:=fun i h st b hb=>by
  have e:b=it:=by simpa using hb
  subst e;exact⟨_,st.2,fun v z=>nomatch (show Data.fields _=Data.cell v from z)⟩
 keep:=fun i h h' st k=>⟨st.1,k it (by simp) _ st.2⟩
 item:=by
  intro X hP hw hK hc i pins s σ H E I hf st hg;subst hP hw hK;obtain⟨xs,x,hq,hl,hi,hx⟩:=hg;obtain⟨its,rv,p,hz⟩:=I.tuple hq;obtain⟨u,hu,ru⟩:=rv.get hx;obtain⟨f0,f1,f2,f3,f4,f5⟩:=hf it (by simp);have e1:(n:Int)-1-(i:Int)=((n-1-i:Nat):Int):=by omega
  have st2:=st.2;rw[e1]at st2;have hlen:=rv.length;have h63:=Xd;refine qV (xs:=its.toArray) (x:=u) st2 p (by rw[uP];omega) (by rw[uP];omega) (by simpa using hu) fun h' k st' sb=>?_;have I1:Inv X pins σ H {s with heap:=h',toks:=k}:=I.turned (t':=k) (fun b o hb e=>(sb.2 b hb).trans e) f0 f1 f3 f4 f5;have e2:((n-1-i:Nat):Int)-1=(n:Int)-1-((i+1:Nat):Int):=by omega
  rw[e2]at st';exact⟨u,rfl,xC (s:={s with heap:=h',toks:=k}) st' rfl rfl (by decide) ⟨x,H,I1,ru,⟨rfl,fun ys hy=>by rw[I.WJ hy hq];exact hx⟩,⟨by omega,st'⟩,fun b hb=>(hf b hb).1⟩⟩
 done:=by
  intro X hP hw hK hc i pins s σ H E I hf st hg;subst hP hw hK;have hg:i=n:=hg;obtain⟨f0,f1,f2,f3,f4,f5⟩:=hf it (by simp);have st2:=st.2;rw[show(n:Int)-1-(i:Int)= -1 by omega]at st2;exact xh st2 (I.ok.hd hc) fun h' k eb=>⟨rfl,I.turned (t':=k) (fun b o hb e=>eb b o hb e) f0 f1 f3 f4 f5⟩
 self:=fun _ _ _ _ _ st h=>Vj st.2 h
section
variable {X:Cx}
noncomputable def Qfg(K:PySem.W.Frag)(ta:TA):TI:=fun σ H R=>ta σ H fun vs H1=>∃a xs,vs=[.ref a]/\SqT K H1 a xs/\R (Qeg K a xs.length) H1
theorem wa{tg e:Expr}{ta:TA}{p pos:Pos}(hg:Gl X "reversed")(hm:X.mg "reversed"=none)(ha:PA X [e] ta)(h1:isStar e=false):PI X tg (.Call (.Name "reversed" p) [e] [] pos) (Qfg X.K ta):=by
 intro pins s σ H R I h;refine Call_ (WH I hg hm boot_reversed (PyProof.Rows.callWith_type1 (thn (ha pos pins s σ H _ I h) fun us s1⟨vs,H1,I1,r1,a,xs,e,hq,q⟩=>?_) (X9 h1) rfl));subst e;obtain⟨u,rfl,rfl⟩:=vals1 r1;obtain⟨its,rv,pp,hz⟩:=I1.tuple hq;have hlen:=rv.length;have h63:=Xd;refine k8 (xs:=its.toArray) pp (by rw[uP];omega) fun k=>?_;have g:Kq (s1.heap.push {cls:=.type "reversed",data:=.fields #[.ref a,rawInt ((its.toArray.size:Int)-1)]}) s1.heap.objs.size a ((xs.length:Int)-1-((0:Nat):Int)):=by
  have e:(xs.length:Int)-1-((0:Nat):Int)=(its.toArray.size:Int)-1:=by rw[uP];omega
  rw[e];exact Heap.get?_push_size _ rfl
 refine Vj (s:={s1 with heap:=s1.heap.push {cls:=.type "reversed",data:=.fields #[.ref a,rawInt ((its.toArray.size:Int)-1)]},toks:=k}) g ?_;refine⟨s1.heap.objs.size,[s1.heap.objs.size],_,_,H1,rfl,I1.kept (t':=k) fun b o e=>Heap.get?_push_of_some _ e,k9 a _ xs.length,⟨uQ _,g⟩,fun b hb=>?_,q⟩;obtain rfl:b=s1.heap.objs.size:=by simpa using hb
 exact I1.vC (uq _) (I1.hok.fresh (uq _))
end
theorem QcQ{K:PySem.W.Frag}{a:Addr}{xs:List V}:Fix (Qeg K a xs.length) xs.length (fun H=>SqT K H a xs) (fun i H v H'=>H'=H/\xs[xs.length-1-i]? =some v):=
 ⟨fun i H ok h=>let ⟨x,e⟩:=Qbq (xs:=xs) (i:=xs.length-1-i) (by omega);⟨xs,x,ok,rfl,h,e⟩,fun H ok=>rfl,fun i H v H' ok _ y=>⟨y.1,y.2 _ ok⟩⟩
section
variable {X:Cx}
open Classical in
theorem qW{A:Around}{k:Nat}(hr:Room k A):A.units+16<cLine:=Nat.lt_of_le_of_lt (by omega:A.units+16<=A.units+64) hr.units
structure PPx(X:Cx)(pos:Pos)(ks:List (Option Expr))(vs:List Expr)(trs:List (TE × TE)):Prop where
 pp:PPs X pos ks vs trs
theorem Qbx{pos:Pos}:PPx X pos [] [] []:=⟨xX⟩
theorem XA{pos:Pos}{k v:Expr}{ks:List (Option Expr)}{vs:List Expr}{tk tv:TE}{trs:List (TE × TE)}(hk:PEx X k tk)(hv:PEx X v tv)(h:PPx X pos ks vs trs):PPx X pos (some k::ks) (v::vs) ((tk,tv)::trs):=⟨Yj hk.pe hv.pe h.pp⟩
theorem wb{pos:Pos}{ks:List (Option Expr)}{vs:List Expr}{trs:List (TE × TE)}(h:PPx X pos ks vs trs)(hall:ks.all (·.isSome)=true)(hl:ks.length=vs.length)(h0:ks≠[])(h15:ks.length<=15):PEx X (.Dict ks vs pos) (vL trs):=⟨xY h.pp hall hl h0 h15⟩
theorem yF{o i:Expr}{pos:Pos}{td ty:TE}(hu:X.A.units+1<cLine)(ho:PEx X o td)(hi:PEx X i ty)(hs:Qdy i):PEx X (.Subscript o i pos) (Qcx td ty):=⟨KO hu ho.pe hi.pe hs⟩
end
set_option maxHeartbeats 6400000 in
theorem xj{prog:Program}{w:World}{A:Around}{E:Value->Shared->Prop}{s:Shared}{a:Addr}{its:Array Value}{f:Nat->Str}{Q:Value->Shared->Prop}(hh:A.handled=none)(hT0:s.heap.IsList a its)(hf:∀(i:Nat)(v:Value),its[i]? =some v->∃t:Tok,v=Value.str (f i) t) (hb:its.size+1<scanBound)
  (h:∀(h':Heap)(tk:Nat),h'.SetOf (strKind prog w) s.heap.objs.size (fun q=>(met f its.size).any (· ==q)) (met f its.size).length->(∀b o,b<s.heap.objs.size->s.heap.get? b=some o->h'.get? b=some o)->Q (.ref s.heap.objs.size) {s with heap:=h',toks:=tk}):
  wpAny (model prog w) A (call (.type "set") [.ref a]) Q E s:=by
 obtain⟨c,tl,hmro⟩:=F.called_set.mro;have hmade:=F.called_set.made;have hsub:=F.called_set.sub;refine wpAny_call (codeAny_of_tree ?_);show wpAny _ _ (callAny (.type "set") _) _ _ _;refine wpAny_pure ⟨Code.quiet_builtin _ (by decide+kernel),codeAny_builtin F.entry_type_call ?_⟩;rw[Around.under_plain (weight_type_call_type "set" [.ref a] []) rfl];have h1:=F.called_set.notType;have h2:=F.called_set.canCreate;have hct:=F.typeCall_set_1 (.ref a)
 repeat (any_goals (first|assumption|wp_step))
 refine codeAny_mono (code_set_new_1 (.ref a) (E:=E) (Q₁:=fun obj s₁=>∃led:Bool,obj=.ref s.heap.objs.size/\s₁={s with heap:=s.heap.push (kT led)}) fun led=>⟨led,rfl,rfl⟩) fun r s₁ hr=>?_;cases r with
 |error e=>exact hr
 |ok fl=>
  cases fl with
  |ret obj=>
   obtain⟨led,rfl,rfl⟩:=hr;have hS:(s.heap.push (kT led)).get? s.heap.objs.size=some (kT led):=Heap.get?_push_size _ rfl;have hT:Shared.TypeIs {s with heap:=s.heap.push (kT led)} (.ref s.heap.objs.size) "set":=⟨_,hS,rfl⟩;have hli:=F.called_set.init.lookup;have hbi:=F.called_set.init.bind (.ref s.heap.objs.size)
   repeat (any_goals (first|assumption|wp_step))
   refine codeAny_mono (codeAny_call_builtin (R:=wants (fun r s₂=>r=.none/\∃h' tk,s₂={s with heap:=h',toks:=tk}/\h'.SetOf (strKind prog w) s.heap.objs.size (fun q=>(met f its.size).any (· ==q)) (met f its.size).length/\(∀b o,b<s.heap.objs.size->s.heap.get? b=some o->h'.get? b=some o)) E) F.called_set.init.plain F.entry_set_init (check_set_init_1 hT ?_)) fun r₂ s₂ hr₂=>?_
   ·obtain⟨⟨ocls,odict,odata,oslots⟩,hol,hcl,nl,hdl⟩:=hT0;simp only at hcl hdl;subst hcl;subst hdl;have hol':(s.heap.push (kT led)).get? a=some {cls:=.type "list",dict:=odict,data:=.seq its nl,slots:=oslots}:=Heap.get?_push_of_some _ hol;have hsls:=F.sub_list_set;have hslf:=F.sub_list_frozenset;have hne:(Value.type "list"==Value.type "dict")=false:=by decide
    have hl1:(s.heap.push (kT led)).IsList a its:=⟨_,hol',rfl,nl,rfl⟩;unfold Builtin.«set.__init__» noKeywords Builtin.Frozenset.updateFrom;generalize hPI:pyIter=PI
    wp_walk
    subst hPI;refine wpAny_pyIter_list hl1 ?_;refine wpAny_bind (wpAny_runValue ?_);have hlS:a<s.heap.objs.size:=Heap.lt_size hol;have hh3:A.in1.in1.in1.handled=none:=by simp[hh]
    have hneI:a≠(s.heap.push (kT led)).objs.size:=by rw[Heap.size_push];exact Nat.ne_of_lt (Nat.lt_succ_of_lt hlS)
    have hSf:s.heap.objs.size∉[(s.heap.push (kT led)).objs.size,a]:=by rw[Heap.size_push];simp only[List.mem_cons,List.mem_singleton,List.not_mem_nil,or_false,not_or];exact⟨Nat.ne_of_lt (Nat.lt_succ_self _),Nat.ne_of_gt hlS⟩
    refine kS ((Walks.list hh3 _ a hneI its).toS) s.heap.objs.size hSf f hf hb (its.size-0) 0 _ (by omega) (uQ _) ⟨⟨_,Heap.get?_push_size _ rfl,rfl,rfl⟩,(hl1.push _)⟩ ?hS0 ?hR
    case hS0=>
     have hget:((s.heap.push (kT led)).push {cls:=.type "list_iterator",data:=.fields #[.ref a,.int 0 0]}).get? s.heap.objs.size=some (kT led):=Heap.get?_push_of_some _ hS;exact SetOf_congr ((setObjOf_fresh (knd:=strKind prog w) led).setOf hget (by unfold scanBound;omega)) (fun _=>rfl) rfl
    case hR=>
     intro s' hm hS';obtain⟨h',g',d',tk',os'⟩:=s';obtain rfl:g'=s.gens:=hm.gens;obtain rfl:d'=s.drawn:=hm.drawn;obtain rfl:os'=s.os:=hm.os;show wpAny _ _ _ _ _ _;refine wpAny_pure ?_;show wpAny _ _ (ret Value.none) _ _ _;refine wpAny_pure ⟨rfl,h',tk',rfl,hS',fun b o hb e=>?_⟩;have hb1:b≠s.heap.objs.size:=Nat.ne_of_lt hb;have hb2:b≠(s.heap.push (kT led)).objs.size:=by rw[Heap.size_push];exact Nat.ne_of_lt (Nat.lt_succ_of_lt hb)
     exact hm.heap b o (by simp only[List.mem_cons,List.mem_singleton,List.not_mem_nil,or_false,not_or];exact⟨hb1,hb2⟩) (Heap.get?_push_of_some _ (Heap.get?_push_of_some _ e))
   ·cases r₂ with
    |error e=>exact hr₂
    |ok fl₂=>
     cases fl₂ with
     |ret r=>
      obtain⟨rfl,h',tk,rfl,hS',hk'⟩:=hr₂
      repeat (any_goals (first|assumption|wp_step))
      exact h _ _ hS' hk'
     |_=>exact hr₂.elim
  |_=>exact hr.elim
section
variable {X:Cx}
theorem wc(hc:X.calm=true):XG X (.type "set") (fun xs H Q=>∃(p:Addr)(ys:List Str),xs=[.ref p]/\SqL X.K H p (ys.map V.str)/\ys.length<1000/\∀q,H q=none->Q (.ref q) (upd H q (QdA X.prog X.w q (many ys)))):=by
 intro pins s σ H xs us Q I r h;obtain⟨p,ys,rfl,hq,hy,q⟩:=h;obtain⟨u,rfl,ru⟩:=vals1 r;obtain rfl:u=Value.ref p:=ru;obtain⟨its,rv,pl,hl⟩:=I.list hq;have hlen:=rv.length;rw[uk]at hlen;refine xj (f:=fun i=>ys.getD i "") (I.ok.hd hc) pl.isList (Qbs rv) (by rw[uP, ←hlen];unfold scanBound;omega) fun h' tk hS hk=>?_;have esz:its.toArray.size=ys.length:=by rw[uP,hlen]
 rw[esz]at hS;have hn:=I.hok.fresh (uq s.heap.objs.size);refine⟨.ref s.heap.objs.size,upd H s.heap.objs.size (QdA X.prog X.w s.heap.objs.size (many ys)),?_,rfl,q _ hn⟩;refine I.Qbr (ch:=[]) (fun b hb=>by cases hb) (fun b o _ e=>hk b o (Heap.lt_size e) e) (uq _) ?_;refine⟨⟨_,hS⟩,?_,fun h1 h2⟨S,z⟩ kk=>⟨S,?_⟩⟩
 ·obtain⟨o,es,ep,t,ho,_⟩:=hS;exact⟨o,ho⟩
 ·obtain⟨o,es,ep,t,ho,rest⟩:=z;exact⟨o,es,ep,t,kk o ho,rest⟩
theorem qX{f:Nat->Str}:∀{n:Nat}{x:Str},(met f n).any (· ==x)=true↔∃i,i<n/\f i=x
 |0,x=>⟨fun h=>by simp[met]at h,fun⟨i,h,_⟩=>absurd h (Nat.not_lt_zero _)⟩
 |n+1,x=>by
  show(qQ (met f n) (f n)).any (· ==x)=true↔_;rw[jW,Bool.or_eq_true,qX (n:=n),decide_eq_true_iff];constructor
  ·rintro(⟨i,hi,e⟩|e)
   ·exact⟨i,by omega,e⟩
   ·exact⟨n,by omega,e.symm⟩
  ·rintro⟨i,hi,e⟩
   by_cases h:i=n
   ·subst h;exact .inr e.symm
   ·exact .inl ⟨i,by omega,e⟩
theorem YK{f:Nat->Str}:∀{n:Nat},(met f n).length=n↔∀i j,i<j->j<n->f i≠f j
 |0=>⟨fun _ i j _ h=>absurd h (Nat.not_lt_zero _),fun _=>rfl⟩
 |n+1=>by
  have hle:=kR f n;have ih:=YK (f:=f) (n:=n);show(qQ (met f n) (f n)).length=n+1↔_;rw[YH]
  by_cases ha:(met f n).any (· ==f n)=true
  ·rw[if_pos ha];obtain⟨i,hi,e⟩:=qX.mp ha;exact⟨fun z=>by omega,fun z=>absurd e (z i n hi (by omega))⟩
  ·rw[if_neg ha];constructor
   ·intro z i j hij hj
    by_cases h:j=n
    ·subst h;exact fun e=>ha (qX.mpr ⟨i,hij,e⟩)
    ·exact ih.mp (by omega) i j hij (by omega)
   ·intro z;rw[ih.mpr fun i j hij hj=>z i j hij (by omega)]
noncomputable def unlike:List Str->Bool
 |[]=>true
 |y::ys=> !(ys.any (· ==y))&&unlike ys
theorem XB:∀{ys:List Str},unlike ys=true↔∀i j,i<j->j<ys.length->ys.getD i ""≠ys.getD j ""
 |[]=>⟨fun _ i j _ h=>absurd h (Nat.not_lt_zero _),fun _=>rfl⟩
 |y::ys=>by
  have ih:=XB (ys:=ys);rw[unlike,Bool.and_eq_true,ih];constructor
  ·rintro⟨h1,h2⟩ i j hij hj;obtain⟨j',rfl⟩:∃j',j=j'+1:=⟨j-1,by omega⟩;cases i with
   |zero=>
    intro e;have hj':j'<ys.length:=by simpa using hj
    have:ys.any (· ==y)=true:=List.any_eq_true.mpr ⟨ys.getD j' "",by rw[List.getD_eq_getElem?_getD,List.getElem?_eq_getElem hj'];exact List.getElem_mem hj',by simpa using e.symm⟩;rw[this]at h1;cases h1
   |succ i=>exact h2 i j' (by omega) (by simpa using hj)
  ·intro h;refine⟨?_,fun i j hij hj=>h (i+1) (j+1) (by omega) (by simpa using hj)⟩;cases e:ys.any (· ==y)with
   |false=>rfl
   |true=>
    obtain⟨x,hx,hxy⟩:=List.any_eq_true.mp e;obtain⟨j,hj,rfl⟩:=List.mem_iff_getElem.mp hx;exact absurd (show(y::ys).getD 0 ""=(y::ys).getD (j+1) "" by simp[List.getD,hj];exact(beq_iff_eq.mp hxy).symm) (h 0 (j+1) (by omega) (by simpa using hj))
theorem yG(ys:List Str):decide (many ys=ys.length)=unlike ys:=by
 by_cases h:unlike ys=true
 ·rw[h];exact uo (YK.mpr (XB.mp h))
 ·rw[(Bool.not_eq_true _).mp h];exact um fun z=>h (XB.mpr (YK.mp z))
end
inductive Wx where
 |non|bl (b:Bool)|int (i:Int)|str (x:Str)|tup (ds:List Wx)|lst
mutual
inductive Ws (H:Hp):V->Wx->Prop where
 |non:Ws H .non .non
 |bl {b:Bool}:Ws H (.bl b) (.bl b)
 |int {i:Int}:Ws H (.int i) (.int i)
 |str {x:Str}:Ws H (.str x) (.str x)
 |tup {a:Addr} {xs:List V} {ds:List Wx} (h:H a=some (.tup xs)) (t:Wss H xs ds):Ws H (.ref a) (.tup ds)
 |lst {a:Addr} {xs:List V} (h:H a=some (.lst xs)):Ws H (.ref a) .lst
inductive Wss (H:Hp):List V->List Wx->Prop where
 |nil:Wss H [] []
 |cons {x:V} {d:Wx} {xs:List V} {ds:List Wx} (h:Ws H x d) (t:Wss H xs ds):Wss H (x::xs) (d::ds)
end
theorem Wss.length{H:Hp}:∀{xs:List V}{ds:List Wx},Wss H xs ds->xs.length=ds.length
 |_,_,.nil=>rfl
 |_,_,.cons _ t=>congrArg (· +1) t.length
theorem Wss.VI{H:Hp}:∀{xs:List V}{ds:List Wx}{i:Nat}{x:V},Wss H xs ds->xs[i]? =some x->∃d,ds[i]? =some d/\Ws H x d
 |_,_,_,_,.nil,e=>by simp at e
 |_,_,0,_,.cons h _,e=>by
  simp at e;subst e;exact⟨_,rfl,h⟩
 |_,_,i+1,d,.cons _ t,e=>by
  obtain⟨x,h1,h2⟩:=Wss.VI (i:=i) t (by simpa using e);exact⟨x,by simpa using h1,h2⟩
theorem Wss.append{H:Hp}:∀{xs ys:List V}{ds es:List Wx},Wss H xs ds->Wss H ys es->Wss H (xs++ys) (ds++es)
 |_,_,_,_,.nil,t=>t
 |_,_,_,_,.cons h t,u=>.cons h (t.append u)
theorem Wss.take{H:Hp}:∀{xs:List V}{ds:List Wx}(n:Nat),Wss H xs ds->Wss H (xs.take n) (ds.take n)
 |_,_,0,_=>by simpa using Wss.nil
 |_,_,n+1,.nil=>by simpa using Wss.nil
 |_,_,n+1,.cons h t=>by simpa using Wss.cons h (t.take n)
theorem Wss.drop{H:Hp}:∀{xs:List V}{ds:List Wx}(n:Nat),Wss H xs ds->Wss H (xs.drop n) (ds.drop n)
 |_,_,0,t=>by simpa using t
 |_,_,n+1,.nil=>by simpa using Wss.nil
 |_,_,n+1,.cons h t=>by simpa using t.drop n
mutual
theorem Ws.keep{H H':Hp}(k:∀b ys,H b=some (.tup ys)->H' b=some (.tup ys)) (kl:∀b ys,H b=some (.lst ys)->∃zs,H' b=some (.lst zs)):∀{x:V}{d:Wx},Ws H x d->Ws H' x d
 |_,_,.non=>.non
 |_,_,.bl=>.bl
 |_,_,.int=>.int
 |_,_,.str=>.str
 |_,_,.tup h t=>.tup (k _ _ h) (Wss.keep k kl t)
 |_,_,.lst h=>let ⟨_,e⟩:=kl _ _ h; .lst e
theorem Wss.keep{H H':Hp}(k:∀b ys,H b=some (.tup ys)->H' b=some (.tup ys)) (kl:∀b ys,H b=some (.lst ys)->∃zs,H' b=some (.lst zs)):∀{xs:List V}{ds:List Wx},Wss H xs ds->Wss H' xs ds
 |_,_,.nil=>.nil
 |_,_,.cons h t=>.cons (h.keep k kl) (Wss.keep k kl t)
end
theorem Ws.same{H H':Hp}{x:V}{d:Wx}(h:Ws H x d)(S:Qk H H'):Ws H' x d:=h.keep (fun b ys e=>S _ _ e) (fun b ys e=>⟨ys,S _ _ e⟩)
theorem Wss.same{H H':Hp}{xs:List V}{ds:List Wx}(h:Wss H xs ds)(S:Qk H H'):Wss H' xs ds:=h.keep (fun b ys e=>S _ _ e) (fun b ys e=>⟨ys,S _ _ e⟩)
theorem Ws.X8{H:Hp}{q:Addr}{xs ys:List V}{x:V}{d:Wx}(h:Ws H x d)(g:H q=some (.lst xs)):Ws (upd H q (.lst ys)) x d:=h.keep (fun b zs e=>by rw[Qp (fun z=>by rw[z,g]at e;cases e)];exact e) (fun b zs e=>by
 by_cases z:b=q
 ·subst z;exact⟨ys,Qa⟩
 ·exact⟨zs,by rw[Qp z];exact e⟩)
theorem Wss.X8{H:Hp}{q:Addr}{xs ys zs:List V}{ds:List Wx}(h:Wss H zs ds)(g:H q=some (.lst xs)):Wss (upd H q (.lst ys)) zs ds:=h.keep (fun b zs e=>by rw[Qp (fun z=>by rw[z,g]at e;cases e)];exact e) (fun b zs e=>by
 by_cases z:b=q
 ·subst z;exact⟨ys,Qa⟩
 ·exact⟨zs,by rw[Qp z];exact e⟩)
mutual
noncomputable def toW:Dv->Wx
 | .non=>.non
 | .bl b=>.bl b
 | .int i=>.int i
 | .str x=>.str x
 | .tup ds=>.tup (Wl ds)
noncomputable def Wl:List Dv->List Wx
 |[]=>[]
 |d::ds=>toW d::Wl ds
end
theorem jX:∀ds,Wl ds=ds.map toW
 |[]=>rfl
 |d::ds=>by rw[Wl,jX ds];rfl
mutual
theorem Deep.ws{H:Hp}:∀{v:V}{d:Dv},Deep H v d->Ws H v (toW d)
 |_,_,.non=>by rw[toW];exact .non
 |_,_,.bl=>by rw[toW];exact .bl
 |_,_,.int=>by rw[toW];exact .int
 |_,_,.str=>by rw[toW];exact .str
 |_,_,.tup h t=>by rw[toW];exact .tup h (Deeps.ws t)
theorem Deeps.ws{H:Hp}:∀{xs:List V}{ds:List Dv},Deeps H xs ds->Wss H xs (Wl ds)
 |_,_,.nil=>by rw[Wl];exact .nil
 |_,_,.cons h t=>by rw[Wl];exact .cons (Deep.ws h) (Deeps.ws t)
end
mutual
theorem Ws.deep{H:Hp}:∀{d:Dv}{v:V},Ws H v (toW d)->Deep H v d
 | .non,_,h=>by rw[toW]at h;cases h;exact .non
 | .bl b,_,h=>by rw[toW]at h;cases h;exact .bl
 | .int i,_,h=>by rw[toW]at h;cases h;exact .int
 | .str x,_,h=>by rw[toW]at h;cases h;exact .str
 | .tup ds,_,h=>by
  rw[toW]at h;cases h with
  |tup h t=>exact .tup h (Wss.deep t)
theorem Wss.deep{H:Hp}:∀{ds:List Dv}{xs:List V},Wss H xs (Wl ds)->Deeps H xs ds
 |[],_,h=>by rw[Wl]at h;cases h;exact .nil
 |d::ds,_,h=>by
  rw[Wl]at h;cases h with
  |cons h t=>exact .cons (Ws.deep h) (Wss.deep t)
end
noncomputable def tyW:Wx->String
 | .non=>"NoneType"
 | .bl _=>"bool"
 | .int _=>"int"
 | .str _=>"str"
 | .tup _=>"tuple"
 | .lst=>"list"
theorem Ws.ty{K:PySem.W.Frag}{H:Hp}{v:V}{d:Wx}(h:Ws H v d):TyOf K H v (.type (tyW d)):=by
 cases h with
 |non=>exact .non
 |bl=>exact .bl _
 |int=>exact .int _
 |str=>exact .str _
 |tup h t=>exact .tup h
 |lst h=>exact .lst h
theorem Ws.Wy{H:Hp}{v:V}{ds:List Wx}(h:Ws H v (.tup ds)):∃a xs,v=.ref a/\H a=some (.tup xs)/\Wss H xs ds:=by
 cases h with
 |tup h t=>exact⟨_,_,rfl,h,t⟩
theorem Ws.Ud{H:Hp}{v:V}{x:Str}(h:Ws H v (.str x)):v=.str x:=by cases h;rfl
theorem Ws.Qbt{H:Hp}{v:V}{x:Int}(h:Ws H v (.int x)):v=.int x:=by cases h;rfl
end L2
namespace Lw
open PySem PySem.Spec PyProof.Rows L2 K02 K04
open Builtin Builtin.Str StrLaws
inductive Ly where
 |box (nm:Str) (p:List Nat)
 |grp (nm:Str) (its:List (Bool × Ly))
 |tab (nm:Str) (k:Nat) (its:List (Bool × Ly))
noncomputable def Ue(p:List Nat):Str:=tx p
noncomputable def szP(p:List Nat):Nat:=szp p
mutual
noncomputable def Ly.dv:Ly->Dv
 | .box nm p=>.tup [.str "box",.str nm,.str (Ue p)]
 | .grp nm its=>.tup [.str "group",.str nm,.tup (dvL its)]
 | .tab nm k its=>.tup [.str "table",.str nm,.int (k:Nat),.tup (dvL its)]
noncomputable def dvL:List (Bool × Ly)->List Dv
 |[]=>[]
 |x::xs=>dvI x::dvL xs
noncomputable def dvI:Bool × Ly->Dv
 |(ov,y)=>if ov=true then .tup [.str "over",y.dv]else y.dv
end
mutual
noncomputable def Ly.sz:Ly->Nat
 | .box _ p=>szP p
 | .grp _ its=>szL its
 | .tab _ k its=>szL its*k
noncomputable def szL:List (Bool × Ly)->Nat
 |[]=>0
 |x::xs=>szI x+szL xs
noncomputable def szI:Bool × Ly->Nat
 |(ov,y)=>if ov=true then 0 else y.sz
end
mutual
noncomputable def Ly.cn:Ly->Nat
 | .box _ _=>1
 | .grp _ its=>1+cnL its
 | .tab _ _ its=>1+cnL its
noncomputable def cnL:List (Bool × Ly)->Nat
 |[]=>0
 |x::xs=>cnI x+cnL xs
noncomputable def cnI:Bool × Ly->Nat
 |(_,y)=>y.cn
end
mutual
noncomputable def Ly.okK:Ly->Prop
 | .box _ p=>UM p
 | .grp _ its=>okL its
 | .tab _ k its=>k<=30/\okL its
noncomputable def okL:List (Bool × Ly)->Prop
 |[]=>True
 |x::xs=>okI x/\okL xs
noncomputable def okI:Bool × Ly->Prop
 |(_,y)=>y.okK
end
mutual
noncomputable def Ly.dp:Ly->Nat
 | .box _ _=>0
 | .grp _ its=>1+dpL its
 | .tab _ _ its=>1+dpL its
noncomputable def dpL:List (Bool × Ly)->Nat
 |[]=>0
 |x::xs=>max (dpI x) (dpL xs)
noncomputable def dpI:Bool × Ly->Nat
 |(_,y)=>y.dp
end
theorem K8:∀{its:List (Bool × Ly)}{x:Bool × Ly},x∈its->x.2.dp<=dpL its
 |[],_,h=>nomatch h
 |(o,y)::ys,x,h=>by
  rcases List.mem_cons.mp h with rfl|h
  ·rw[dpL,dpI];show y.dp<=_;omega
  ·have:=K8 (its:=ys) h;rw[dpL];omega
noncomputable def QcR(e:List (Bool × Ly) × Nat):Prop:=okL e.1/\∃x,e.2<=30^x/\x+dpL e.1<=100
theorem yH(rows:List Rw)(c n:Nat):((Z7 rows c n).map (·.2)).sum=(rows.map (·.2)).sum+n:=by
 unfold Z7;cases e:rows.getLast? with
 |none=>rw[uH,List.sum_append];simp
 |some x=>
  obtain⟨c',m⟩:=x;dsimp only
  split
  ·obtain⟨ys,rfl⟩:=List.getLast?_eq_some_iff.mp e;rw[List.dropLast_concat,uH,List.sum_append,uH,List.sum_append];simp;omega
  ·rw[uH,List.sum_append];simp
theorem yI(t:List Nat):(Q1 t).1+10^(Q1 t).2.length<=10^(t.length+1):=by
 have base:1+10^t.length<=10^(t.length+1):=by
  have:=Nat.pow_pos (n:=t.length) (show 0<10 by decide);rw[Nat.pow_succ];omega
 by_cases h:t.take 1≠[40]
 ·rw[jR h];exact base
 ·obtain⟨r,rfl⟩:∃r,t=40::r:=by
   cases t with
   |nil=>exact absurd (fun z=>nomatch z) h
   |cons a r=>
    have:[a]=[40]:=Decidable.byContradiction h;exact⟨r,by rw[(List.cons.inj this).1]⟩
  by_cases hg:41∈r/\r.takeWhile (· !=41)≠[]/\NumText.AllDigits (r.takeWhile (· !=41))/\(r.takeWhile (· !=41)).head?≠some 48
  ·rw[V2 hg];have hv:=Qat hg.2.2.1;have hl:(r.takeWhile (· !=41)).length<=r.length:=by
    have:=congrArg List.length (List.takeWhile_append_dropWhile (p:=(· !=41)) (l:=r));rw[uj]at this;omega
   have h1:10^(r.takeWhile (· !=41)).length<=10^r.length:=Nat.pow_le_pow_right (by decide) hl;have h2:10^(r.drop ((r.takeWhile (· !=41)).length+1)).length<=10^r.length:=Nat.pow_le_pow_right (by decide) (by rw[uC];omega);show _+_<=10^(r.length+1+1);rw[Nat.pow_succ,Nat.pow_succ];dsimp only;omega
  ·rw[UG hg];exact base
theorem UR:∀(k:Nat)(l:List Nat)(rows:List Rw),((Kl k l rows).map (·.2)).sum<=(rows.map (·.2)).sum+10^l.length
 |0,l,rows=>by rw[Kl];exact Nat.le_add_right _ _
 |k+1,[],rows=>by
  have e:Kl (k+1) [] rows=rows:=by simp[Kl]
  rw[e];exact Nat.le_add_right _ _
 |k+1,c::t,rows=>by
  have ih:=UR k (Q1 t).2 (Z7 rows c (Q1 t).1);rw[yH]at ih;have:=yI t;rw[Kl,uw];omega
theorem wd(q:Rw->Bool):∀rows:List Rw,((rows.filter q).map (·.2)).sum<=(rows.map (·.2)).sum
 |[]=>uq _
 |x::r=>by
  have:=wd q r;rw[List.filter_cons]
  split<;>simp only[uN,List.sum_cons]<;>omega
theorem QcS{l:List Nat}(h:l.length<=500):szp l<2^2000:=by
 have h1:szp l<=((rowsOf l).map (·.2)).sum:=wd _ _;have h2:=UR l.length l [];have h3:10^l.length<=10^500:=Nat.pow_le_pow_right (by decide) h;have h4:10^500<2^2000:=by decide+kernel
 have h5:((rowsOf l).map (·.2)).sum<=0+10^l.length:=h2;omega
theorem QcT{t x y:Nat}(h:t<=30^x)(hx:x+y<=100):t<2^2000:=by
 have h1:30^x<=30^100:=Nat.pow_le_pow_right (by decide) (by omega);have h2:30^100<2^2000:=by decide+kernel
 omega
theorem jY:∀{its:List (Bool × Ly)}{j:Nat}{x:Bool × Ly},okL its->its[j]? =some x->okI x
 |[],_,_,_,h=>by simp at h
 |y::ys,0,x,o,h=>by
  rw[okL]at o;have:y=x:=by simpa using h
  subst this;exact o.1
 |y::ys,j+1,x,o,h=>by
  rw[okL]at o;exact jY (its:=ys) (j:=j) o.2 (by simpa using h)
theorem Ju:∀its:List (Bool × Ly),dvL its=its.map dvI
 |[]=>rfl
 |x::xs=>by rw[dvL,Ju xs];rfl
theorem Ly.Qay(y:Ly):1<=y.cn:=by cases y<;>rw[Ly.cn]<;>omega
theorem Vk(x:Bool × Ly):1<=cnI x:=by obtain⟨o,y⟩:=x;rw[cnI];exact y.Qay
theorem V5:∀its:List (Bool × Ly),its.length<=cnL its
 |[]=>uQ _
 |x::xs=>by
  have:=V5 xs;have:=Vk x;rw[uw,cnL];omega
structure LsSt(Hb H:Hp)(q:Addr)(xs:List V)(acc:List Dv):Prop where
 S:Qk Hb H
 f:Hb q=none
 g:H q=some (.lst xs)
 t:Deeps H xs acc
theorem J1{H H2:Hp}{l:Addr}{o:HO}(S:Qk H H2)(h:H l=none):Qk H (upd H2 l o):=fun b o' e=>by rw[Qp (Qv e h)];exact S _ _ e
theorem LsSt.same{Hb H H':Hp}{q:Addr}{xs:List V}{acc:List Dv}(B:LsSt Hb H q xs acc)(S:Qk H H'):LsSt Hb H' q xs acc:=⟨B.S.trans S,B.f,S _ _ B.g,B.t.same S⟩
theorem LsSt.put{Hb H:Hp}{q:Addr}{xs ys:List V}{acc acc':List Dv}(B:LsSt Hb H q xs acc)(t:Deeps H ys acc'):LsSt Hb (upd H q (.lst ys)) q ys acc':=⟨J1 B.S B.f,B.f,Qa,t.X8 B.g (fun zs z=>nomatch z)⟩
section
variable {P:Program}{w:World}{K:PySem.W.Frag}{mg:Str->Option Value}{base:Heap}{f:Addr}{fd:FuncData}{tk:Nat->Tok}{c kr:Nat->Addr}
noncomputable def Ly.word:Ly->Str
 | .box _ _=>"box"
 | .grp _ _=>"group"
 | .tab _ _ _=>"table"
noncomputable def Ly.name:Ly->Str
 | .box nm _=>nm
 | .grp nm _=>nm
 | .tab nm _ _=>nm
theorem US{H:Hp}{v:V}{nm:Str}{p:List Nat}(h:Deep H v (Ly.box nm p).dv):∃a,v=.ref a/\H a=some (.tup [.str "box",.str nm,.str (Ue p)]):=by
 rw[Ly.dv]at h;obtain⟨a,xs,rfl,g,t⟩:=Deep.Wy h;cases t with
 |cons p1 t=>cases t with
  |cons p2 t=>cases t with
   |cons p3 t=>
    cases t;obtain rfl:=p1.Ud;obtain rfl:=p2.Ud;obtain rfl:=p3.Ud;exact⟨a,rfl,g⟩
theorem UT{H:Hp}{v:V}{nm:Str}{its:List (Bool × Ly)}(h:Deep H v (Ly.grp nm its).dv):∃a x,v=.ref a/\H a=some (.tup [.str "group",.str nm,x])/\Deep H x (.tup (dvL its)):=by
 rw[Ly.dv]at h;obtain⟨a,xs,rfl,g,t⟩:=Deep.Wy h;cases t with
 |cons p1 t=>cases t with
  |cons p2 t=>cases t with
   |cons p3 t=>
    cases t;obtain rfl:=p1.Ud;obtain rfl:=p2.Ud;exact⟨a,_,rfl,g,p3⟩
theorem UU{H:Hp}{v:V}{nm:Str}{k:Nat}{its:List (Bool × Ly)}(h:Deep H v (Ly.tab nm k its).dv):∃a x,v=.ref a/\H a=some (.tup [.str "table",.str nm,.int (k:Nat),x])/\Deep H x (.tup (dvL its)):=by
 rw[Ly.dv]at h;obtain⟨a,xs,rfl,g,t⟩:=Deep.Wy h;cases t with
 |cons p1 t=>cases t with
  |cons p2 t=>cases t with
   |cons p3 t=>cases t with
    |cons p4 t=>
     cases t;obtain rfl:=p1.Ud;obtain rfl:=p2.Ud;obtain rfl:=p3.Qbt;exact⟨a,_,rfl,g,p4⟩
theorem K9{H:Hp}{v:V}{y:Ly}(h:Deep H v (dvI (true,y))):∃a x,v=.ref a/\H a=some (.tup [.str "over",x])/\Deep H x y.dv:=by
 rw[dvI,if_pos rfl]at h;obtain⟨a,xs,rfl,g,t⟩:=Deep.Wy h;cases t with
 |cons p1 t=>cases t with
  |cons p2 t=>
   cases t;obtain rfl:=p1.Ud;exact⟨a,_,rfl,g,p2⟩
theorem Qby{H:Hp}{v:V}{y:Ly}(h:Deep H v y.dv):∃a xs,v=.ref a/\H a=some (.tup (.str y.word:: .str y.name::xs)):=by
 cases y with
 |box nm p=>obtain⟨a,rfl,g⟩:=US h;exact⟨a,_,rfl,g⟩
 |grp nm its=>obtain⟨a,x,rfl,g,_⟩:=UT h;exact⟨a,_,rfl,g⟩
 |tab nm k its=>obtain⟨a,x,rfl,g,_⟩:=UU h;exact⟨a,_,rfl,g⟩
theorem QeL:decide (V.str "box"=V.str "over")=false:=by decide+kernel
theorem QeM:decide (V.str "group"=V.str "over")=false:=by decide+kernel
theorem QeN:decide (V.str "table"=V.str "over")=false:=by decide+kernel
theorem QdB:decide (V.str "group"=V.str "box")=false:=by decide+kernel
theorem Qeh:decide (V.str "table"=V.str "box")=false:=by decide+kernel
theorem Qfh:decide (V.str "table"=V.str "group")=false:=by decide+kernel
theorem Qfi:decide (V.str "over"=V.str "box")=false:=by decide+kernel
theorem Qfj:decide (V.str "over"=V.str "group")=false:=by decide+kernel
theorem Qfk:decide (V.str "over"=V.str "table")=false:=by decide+kernel
theorem Qfl:decide (V.str "box"=V.str "table")=false:=by decide+kernel
theorem Qei:decide (V.str "group"=V.str "table")=false:=by decide+kernel
theorem Kt(y:Ly):decide (V.str y.word=V.str "over")=false:=by
 cases y with
 |box nm p=>exact QeL
 |grp nm its=>exact QeM
 |tab nm k its=>exact QeN
noncomputable def stD(x:List (Bool × Ly) × Nat):Dv:=.tup [.tup (dvL x.1),.int (x.2:Nat)]
noncomputable def wS:List (List (Bool × Ly) × Nat)->Nat
 |[]=>0
 |x::xs=>szL x.1*x.2+wS xs
noncomputable def cS:List (List (Bool × Ly) × Nat)->Nat
 |[]=>0
 |x::xs=>(1+cnL x.1)+cS xs
theorem jZ:∀a b,wS (a++b)=wS a+wS b
 |[],b=>by rw[uK,wS];omega
 |x::a,b=>by rw[uJ,wS,wS,jZ a b];omega
theorem j0:∀a b,cS (a++b)=cS a+cS b
 |[],b=>by rw[uK,cS];omega
 |x::a,b=>by rw[uJ,cS,cS,j0 a b];omega
theorem we:∀st,st.length<=cS st
 |[]=>uQ _
 |x::xs=>by
  have:=we xs;rw[uw,cS];omega
noncomputable def qY:Sp:=fun vs H Q _=>∃(v:V)(its:List (Bool × Ly)),vs=[v]/\Deep H v (.tup (dvL its))/\cnL its<=10000/\okL its/\dpL its<=100/\∀H',Qk H H'->Q (.int (szL its:Nat)) H'
theorem Qaz{its:List (Bool × Ly)}{j:Nat}{x:Bool × Ly}(h:its[j]? =some x):szL (its.drop j)=szI x+szL (its.drop (j+1))/\cnL (its.drop j)=cnI x+cnL (its.drop (j+1)):=by
 have hl:=(List.getElem?_eq_some_iff.mp h).1;rw[List.drop_eq_getElem_cons hl,(List.getElem?_eq_some_iff.mp h).2,szL,cnL];exact⟨rfl,rfl⟩
set_option maxHeartbeats 2000000 in
theorem qZ(F:Fun K "signs_in" "signs_in" K1 f fd)(nU:Def P w K mg base 7 "size_of" ["picture"] kN):FnOk P w K mg base (CXE P w) 8 f fd ["layout"] qY:=by
 refine Wu F Jz (fun vs H Q E h=>?_) (fun cdv A outer s H vs Q E hr h=>?_)
 ·obtain⟨v,its,rfl,_⟩:=h;rfl
 ·obtain⟨v,its,rfl,D,hc,hok,hdp,k⟩:=h;have hz:100000<=sizeLine:=by rw[sizeLine_eq];decide
  refine⟨_,(Qi (Qy (i:=1) Jz.nd rfl (Or.inl rfl) (PEx.mk Qd) rfl rfl)
   (Qi (Qy (i:=2) Jz.nd rfl (Or.inl rfl) (JF (QF (Jt (QF (PEx.mk (pv 0)) (QF (PEx.mk Qd) QA rfl) rfl)) QA rfl)) rfl rfl)
   (Qi (PSy.mk (Zf PassesOwn.never (Ji (pv 2) (fun _=>rfl)) (Qe (JB (Uo plainAttrs_list slot_list_pop type_list_pop Uq (pv 2)) (JA rfl (Qn (Qm (i:=3) Jz.nd rfl (Or.inl rfl)) (Qn (Qm (i:=4) Jz.nd rfl (Or.inl rfl)) QV))))
   (Qh (VP PassesOwn.never rfl (XJ (pv 3)) (Qm (i:=5) Jz.nd rfl (Or.inl rfl)) (Qh (Jh (Ql QZ (Qw Qt (pv 5) Qd (fun _ _=>rfl)) Qg (Qo _)) (Qh (WK (i:=1) Jz.nd rfl (Or.inl rfl) (QP qw (pv 4) (nU.pe hr (by decide) rfl Qu (Qz (Qw Qt (pv 5) Qd (fun _ _=>rfl)) Qc))) VO)) (Qh (Jh (Ql QZ (Qw Qt (pv 5) Qd (fun _ _=>rfl)) Qg (Qo _)) (Qh (Jw (JQ plainAttrs_list PySem.F.slot_list_append PySem.F.type_list_append Jm (pv 2) (Qz (QO (Qz (Qw Qt (pv 5) Qd (fun _ _=>rfl)) (Qz (pv 4) Qc))) Qc)))) (Qh (Jh (Ql QZ (Qw Qt (pv 5) Qd (fun _ _=>rfl)) Qg (Qo _)) (Qh (Jw (JQ plainAttrs_list PySem.F.slot_list_append PySem.F.type_list_append Jm (pv 2) (Qz (QO (Qz (Qw Qt (pv 5) Qd (fun _ _=>rfl)) (Qz (QP qw (pv 4) (Qw Qt (pv 5) Qd (fun _ _=>rfl))) Qc))) Qc)))) QI)))))))))))
   (Qs (QG (PEx.mk (pv 1))))))),?_⟩
  dsimp only[QH,JP,XX,QU];refine⟨_,rfl,sL2,fun p hp=>⟨sL1,fun lf hlf=>?_⟩⟩;have S1:=Qk.new (o:=.tup [v,.int 1]) hp;have hf0:H lf=none:=by
   cases e:H lf with
   |none=>rfl
   |some o=>rw[S1 _ _ e]at hlf;cases hlf
  have B1:LsSt H (upd (upd H p (.tup [v,.int 1])) lf (.lst [.ref p])) lf [.ref p] ([(its,1)].map stD):=by
   have S2:=Qk.new (o:=.lst [V.ref p]) hlf;exact⟨S1.trans S2,hf0,Qa,.cons ((Deep.tup Qa (.cons (D.same S1) (.cons .int .nil))).same S2) .nil⟩
  generalize upd (upd H p (.tup [v,.int 1])) lf (.lst [.ref p])=H1 at B1;clear S1 hlf hp;refine⟨fun m σ H2=>∃(n:Nat)(xs:List V)(st:List (List (Bool × Ly) × Nat))(y3 y4 y5:Option V),σ=[some v,some (.int (n:Nat)),some (.ref lf),y3,y4,y5]/\LsSt H H2 lf xs (st.map stD)/\n+wS st=szL its/\cS st<=m/\m<=20000/\∀e∈st,QcR e,⟨20000,0,_,_,none,none,none,rfl,B1,by simp[wS],by simp only[cS];omega,uq _,fun e he=>by rw[List.mem_singleton.mp he];exact⟨hok,0,uq 1,by show 0+dpL its<=100;omega⟩⟩,?_⟩;clear B1;rintro m σ H2 ⟨n,xs,st,y3,y4,y5,rfl,B,hw,hcs,hm,hst⟩;have lxs:=B.t.length;rw[uk]at lxs;have lst:=we st;rcases List.eq_nil_or_concat st with rfl|⟨st0,e0,rfl⟩
  ·have e:xs=[]:=List.eq_nil_of_length_eq_zero (by simpa using lxs);subst e;refine⟨_,rfl,false,.inl ⟨_,.inl (.inl B.g),rfl⟩,QN ⟨_,rfl,?_⟩⟩;rw[wS,Nat.add_zero]at hw;rw[hw];exact k _ B.S
  rw[List.concat_eq_append]at B hw hcs lxs lst;rw[List.concat_eq_append]at hst;obtain⟨its0,t0⟩:=e0;obtain⟨hok0,xe,hxe,hxd⟩:QcR (its0,t0):=hst _ (ux _ uA)
  replace hok0:okL its0:=hok0
  replace hxe:t0<=30^xe:=hxe
  replace hxd:xe+dpL its0<=100:=hxd
  have ht0:=QcT hxe hxd;have hst0:∀e∈st0,QcR e:=fun e he=>hst e (uy _ he);rw[jZ]at hw;rw[j0]at hcs;have hw:n+(wS st0+(szL its0*t0+0))=szL its:=hw;have hcs:cS st0+((1+cnL its0)+0)<=m:=hcs;rw[uH]at B;obtain⟨xs0,xl,rfl,t1,Dl⟩:∃xs0 xl,xs=xs0++[xl]/\Deeps H2 xs0 (st0.map stD)/\Deep H2 xl (stD (its0,t0)):=by
   rcases List.eq_nil_or_concat xs with rfl|⟨xs0,xl,rfl⟩
   ·simp at lxs
   ·rw[List.concat_eq_append]at B ⊢;have l0:xs0.length=(st0.map stD).length:=by
     have:=B.t.length;rw[uj,uj]at this;simpa using this
    have ht:=B.t.take xs0.length;have hd:=B.t.drop xs0.length;rw[List.take_left' rfl,l0,List.take_left' rfl]at ht;rw[List.drop_left' rfl,l0,List.drop_left' rfl]at hd;cases hd with
    |cons h t=>exact⟨xs0,xl,rfl,ht,h⟩
  refine⟨_,rfl,true,.inl ⟨_,.inl (.inl B.g),by simp⟩,QQ ?_⟩;refine⟨fun σ' H'=>∃m',m'<m/\∃(n:Nat)(xs:List V)(st:List (List (Bool × Ly) × Nat))(y3 y4 y5:Option V),σ'=[some v,some (.int (n:Nat)),some (.ref lf),y3,y4,y5]/\LsSt H H' lf xs (st.map stD)/\n+wS st=szL its/\cS st<=m'/\m'<=20000/\∀e∈st,QcR e,fun _ _ h=>h,?_⟩;refine⟨_,rfl,.inl ⟨rfl,_,.inl (.inl B.g)⟩,?_⟩;refine⟨lf,_,xl,rfl,rfl,B.g,by simp,?_⟩;have B3:LsSt H (upd H2 lf (.lst (xs0++[xl]).dropLast)) lf xs0 (st0.map stD):=by
   rw[List.dropLast_concat];exact B.put t1
  have Dl3:=Dl.X8 (o':=.lst (xs0++[xl]).dropLast) B.g (fun zs z=>nomatch z);generalize upd H2 lf (.lst (xs0++[xl]).dropLast)=H3 at B3 Dl3;clear B Dl t1 lxs;obtain⟨pa,px,rfl,gp,tp⟩:=Deep.Wy (show Deep H3 xl (.tup [.tup (dvL its0),.int (t0:Nat)])from Dl3);obtain⟨xi,rfl,Di⟩:∃xi,px=[xi,.int (t0:Nat)]/\Deep H3 xi (.tup (dvL its0)):=by
   cases tp with
   |cons p1 t=>cases t with
    |cons p2 t=>
     cases t;obtain rfl:=p2.Qbt;exact⟨_,rfl,p1⟩
  refine⟨pa,_,rfl,.inl (.inl gp),rfl,_,_,rfl,_,_,rfl,rfl,?_⟩;obtain⟨ia,ix,rfl,gi,ti⟩:=Deep.Wy Di;rw[Ju]at ti;have lix:=ti.length;rw[uk]at lix;dsimp only[QH,JP,XX,QU];refine⟨_,rfl,ia,rfl,⟨_,.inl (.inl gi)⟩,?_⟩;refine Vg (yp (K:=K) (a:=ia) (xs:=ix)) (fun j σ H4=>∃(n':Nat)(xs:List V)(st:List (List (Bool × Ly) × Nat))(y5:Option V),σ=[some v,some (.int (n':Nat)),some (.ref lf),some (.ref ia),some (.int (t0:Nat)),y5]/\LsSt H H4 lf xs (st.map stD)/\n'+wS st+szL (its0.drop j)*t0=szL its/\cS st+cnL (its0.drop j)+1<=m/\H4 ia=some (.tup ix)/\Deeps H4 ix (its0.map dvI)/\∀e∈st,QcR e) ⟨n,xs0,st0,y5,rfl,B3,by rw[List.drop_zero];omega,by rw[List.drop_zero];omega,gi,ti,hst0⟩ ?_ ?_ ?_
  ·rintro j σ H4 _ ⟨n',xs,st,y5,rfl,_,_,_,g4,_,_⟩;exact .inl (.inl g4)
  ·rintro j x σ H40 H4 hj ⟨n',xs,st,y5,rfl,B4,hw4,hc4,g4,t4,hst4⟩ ⟨rfl,hx⟩;obtain⟨d,hd,Dx⟩:=t4.VI hx;rw[uE]at hd;cases eo:its0[j]? with
   |none=>rw[eo]at hd;cases hd
   |some oy=>
    rw[eo]at hd;obtain rfl:=ur hd;obtain⟨q1,q2⟩:=Qaz eo;rw[q1]at hw4;rw[q2]at hc4;have hpos:=Vk oy;have lxs:=B4.t.length;rw[uk]at lxs;have lst4:=we st;have hoky:=jY hok0 eo;have hdpy:=K8 (uF eo);have nia:ia≠lf:=fun z=>by rw[z,B4.g]at g4;cases g4
    obtain⟨ov,y⟩:=oy;cases ov with
    |true=>
     obtain⟨a,x2,rfl,g,_⟩:=K9 Dx;rw[szI,if_pos rfl,Nat.zero_add]at hw4;refine⟨_,rfl,a,_,0,_,rfl,rfl,.inl g,rfl,rfl,false,by rw[Qfi],QN ?_⟩;refine⟨_,rfl,a,_,0,_,rfl,rfl,.inl g,rfl,rfl,false,by rw[Qfj],QN ?_⟩;refine⟨_,rfl,a,_,0,_,rfl,rfl,.inl g,rfl,rfl,false,by rw[Qfk],QN ?_⟩;exact⟨n',xs,st,_,rfl,B4,by omega,by omega,g4,t4,hst4⟩
    |false=>
     rw[dvI,if_neg (by decide)]at Dx;rw[szI,if_neg (by decide)]at hw4;rw[Nat.add_mul]at hw4;rw[cnI]at hc4 hpos;cases y with
     |box nm p=>
      obtain⟨a,rfl,g⟩:=US Dx;have hpk:UM p:=by rw[okI,Ly.okK]at hoky;exact hoky
      have hpb:=QcS hpk.2;rw[Ly.sz]at hw4;refine⟨_,rfl,a,_,0,_,rfl,rfl,.inl g,rfl,rfl,true,rfl,QQ ?_⟩;refine⟨_,rfl,_,rfl,_,rfl,a,_,2,_,rfl,rfl,.inl g,rfl,p,rfl,hpk,fun H5 S5=>?_⟩;refine⟨_,_,rfl,rfl,⟨by rw[Int.natAbs_natCast];exact ht0,by rw[Int.natAbs_natCast];exact hpb⟩,?_⟩;refine⟨_,_,rfl,rfl,?_⟩;refine⟨n'+szP p*t0,xs,st,some (.ref a),?_,B4.same S5,by omega,by rw[Ly.cn]at hc4;omega,S5 _ _ g4,t4.same S5,hst4⟩;have e:((n':Nat):Int)+((t0:Nat):Int)*((szP p:Nat):Int)=((n'+szP p*t0:Nat):Int):=by push_cast;rw[Int.mul_comm]
      rw[←e];rfl
     |grp nm its1=>
      obtain⟨a,x2,rfl,g,D2⟩:=UT Dx;rw[Ly.sz]at hw4;rw[Ly.cn]at hc4;have hok1:okL its1:=by rw[okI,Ly.okK]at hoky;exact hoky
      refine⟨_,rfl,a,_,0,_,rfl,rfl,.inl g,rfl,rfl,false,by rw[QdB],QN ?_⟩;refine⟨_,rfl,a,_,0,_,rfl,rfl,.inl g,rfl,rfl,true,rfl,QQ ?_⟩;refine⟨_,rfl,.inl ⟨rfl,_,.inl (.inl B4.g)⟩,?_⟩;refine⟨_,rfl,a,_,2,_,rfl,rfl,.inl g,rfl,_,rfl,sL2,fun p5 hp5=>?_⟩;have S5:=Qk.new (o:=.tup [x2,.int (t0:Nat)]) hp5;have B5:=B4.same S5;have D5:Deep (upd H4 p5 (.tup [x2,.int (t0:Nat)])) (.ref p5) (stD (its1,t0)):=.tup Qa (.cons (D2.same S5) (.cons .int .nil));have g5:=S5 _ _ g4;have t5:=t4.same S5;generalize upd H4 p5 (.tup [x2,.int (t0:Nat)])=H5 at B5 D5 g5 t5;refine⟨lf,xs,.ref p5,rfl,rfl,B5.g,by omega,?_⟩;refine⟨n',xs++[.ref p5],st++[(its1,t0)],_,rfl,?_,?_,?_,by rw[Qp nia];exact g5,t5.X8 B5.g (fun zs z=>nomatch z),?_⟩
      ·rw[uH];exact B5.put (B5.t.append (.cons D5 .nil))
      ·rw[jZ];show n'+(wS st+(szL its1*t0+0))+_=_;omega
      ·rw[j0];show cS st+((1+cnL its1)+0)+_+1<=m;omega
      ·intro e he;rcases List.mem_append.mp he with he|he
       ·exact hst4 e he
       ·rw[List.mem_singleton.mp he];exact⟨hok1,xe,hxe,by have hd2:(Ly.grp nm its1).dp<=dpL its0:=hdpy;rw[Ly.dp]at hd2;show xe+dpL its1<=100;omega⟩
     |tab nm k1 its1=>
      obtain⟨a,x2,rfl,g,D2⟩:=UU Dx;rw[Ly.sz]at hw4;rw[Ly.cn]at hc4;obtain⟨hk1,hok1⟩:k1<=30/\okL its1:=by rw[okI,Ly.okK]at hoky;exact hoky
      refine⟨_,rfl,a,_,0,_,rfl,rfl,.inl g,rfl,rfl,false,by rw[Qeh],QN ?_⟩;refine⟨_,rfl,a,_,0,_,rfl,rfl,.inl g,rfl,rfl,false,by rw[Qfh],QN ?_⟩;refine⟨_,rfl,a,_,0,_,rfl,rfl,.inl g,rfl,rfl,true,rfl,QQ ?_⟩;refine⟨_,rfl,.inl ⟨rfl,_,.inl (.inl B4.g)⟩,?_⟩;refine⟨_,rfl,a,_,3,_,rfl,rfl,.inl g,rfl,_,rfl,_,rfl,a,_,2,_,rfl,rfl,.inl g,rfl,_,_,rfl,rfl,⟨by rw[Int.natAbs_natCast];exact ht0,by rw[Int.natAbs_natCast];exact Nat.lt_of_le_of_lt hk1 (by decide)⟩,sL2,fun p5 hp5=>?_⟩;have e:((t0:Nat):Int)*((k1:Nat):Int)=((t0*k1:Nat):Int):=by push_cast;rfl
      dsimp only;rw[e];have S5:=Qk.new (o:=.tup [x2,.int (t0*k1:Nat)]) hp5;have B5:=B4.same S5;have D5:Deep (upd H4 p5 (.tup [x2,.int (t0*k1:Nat)])) (.ref p5) (stD (its1,t0*k1)):=.tup Qa (.cons (D2.same S5) (.cons .int .nil));have g5:=S5 _ _ g4;have t5:=t4.same S5;generalize upd H4 p5 (.tup [x2,.int (t0*k1:Nat)])=H5 at B5 D5 g5 t5;refine⟨lf,xs,.ref p5,rfl,rfl,B5.g,by omega,?_⟩;refine⟨n',xs++[.ref p5],st++[(its1,t0*k1)],_,rfl,?_,?_,?_,by rw[Qp nia];exact g5,t5.X8 B5.g (fun zs z=>nomatch z),?_⟩
      ·rw[uH];exact B5.put (B5.t.append (.cons D5 .nil))
      ·rw[jZ];show n'+(wS st+(szL its1*(t0*k1)+0))+_=_;have e2:szL its1*k1*t0=szL its1*(t0*k1):=by rw[Nat.mul_assoc,Nat.mul_comm k1 t0]
       omega
      ·rw[j0];show cS st+((1+cnL its1)+0)+_+1<=m;omega
      ·intro e he;rcases List.mem_append.mp he with he|he
       ·exact hst4 e he
       ·rw[List.mem_singleton.mp he];exact⟨hok1,xe+1,by show t0*k1<=30^(xe+1);rw[Nat.pow_succ];exact Nat.mul_le_mul hxe hk1,by have hd2:(Ly.tab nm k1 its1).dp<=dpL its0:=hdpy;rw[Ly.dp]at hd2;show xe+1+dpL its1<=100;omega⟩
  ·rintro σ H4 ⟨n',xs,st,y5,rfl,B4,hw4,hc4,_,_,hst4⟩;rw[List.drop_eq_nil_of_le (by omega)]at hw4 hc4;simp only[szL,cnL]at hw4 hc4;exact⟨m-1,by omega,n',xs,st,_,_,_,rfl,B4,by omega,by omega,by omega,hst4⟩
end
noncomputable def dfI:Bool × Ly:=(false,.box "" [])
noncomputable def under(its:List (Bool × Ly)):Nat->Nat
 |0=>0
 |j+1=>if(its.getD (j+1) dfI).1=true then under its j else j+1
noncomputable def V6(its:List (Bool × Ly)):Nat->Nat
 |0=>0
 |j+1=>under its j
theorem Ku(its:List (Bool × Ly)):∀j,under its j<=j
 |0=>uq _
 |j+1=>by
  rw[under]
  split
  ·exact Nat.le_succ_of_le (Ku its j)
  ·exact uq _
theorem XC(its:List (Bool × Ly))(j:Nat):under its j=if(its.getD j dfI).1=true then V6 its j else j:=by
 cases j with
 |zero=>show 0=_;rw[V6];split<;>rfl
 |succ j=>rfl
theorem yJ:∀{its:List (Bool × Ly)}{j:Nat}{x:Bool × Ly},its[j]? =some x->cnI x<=cnL its
 |[],_,_,h=>by simp at h
 |y::ys,0,x,h=>by
  have:y=x:=by simpa using h
  subst this;rw[cnL];omega
 |y::ys,j+1,x,h=>by
  have:=yJ (its:=ys) (j:=j) (x:=x) (by simpa using h);rw[cnL];omega
theorem Qfm{t u:TS}{D:Ends}{σ:L2.St}{H:Hp}(Good:L2.St->Hp->Prop)(rest:∀σ' H',Good σ' H'->u D σ' H') (h:(∀σ' H',Good σ' H'->u D σ' H')->t {D with nx:=u D} σ H):XX t u D σ H:=h rest
mutual
noncomputable def Ly.wt:Ly->Nat
 | .box _ _=>1
 | .grp _ its=>1+wtL its
 | .tab _ k its=>1+k*wtL its
noncomputable def wtL:List (Bool × Ly)->Nat
 |[]=>0
 |x::xs=>wtI x+wtL xs
noncomputable def wtI:Bool × Ly->Nat
 |(_,y)=>y.wt
end
theorem QcU{a b:Addr}{xs ys:List V}{ds es:List Dv}{H:Hp}{Q:VK}(ga:H a=some (.tup xs))(gb:H b=some (.tup ys))(ta:Deeps H xs ds)(tb:Deeps H ys es)(hl:xs.length+ys.length<=sizeLine)(k:∀u H',Qk H H'->Deep H' u (.tup (ds++es))->Q u H'):yz (.ref a) (.ref b) H Q:=by
 refine⟨a,b,xs,ys,rfl,rfl,.inl ga,.inl gb,hl,fun z=>?_,fun _ z=>?_,fun _ _ p hp=>?_⟩
 ·subst z;cases ta;exact k _ _ (Qk.refl _) (.tup gb tb)
 ·subst z;cases tb;rw[uL]at k;exact k _ _ (Qk.refl _) (.tup ga ta)
 ·exact k _ _ (Qk.new hp) (yB (ta.append tb) hp)
theorem V7{x:List V}:∀zs:List V,(HO.lst x)≠ .tup zs:=fun zs z=>nomatch z
theorem Vl{its:List (Bool × Ly)}(h:okL its){x:Bool × Ly}(hx:x∈its):x.2.okK:=by
 obtain⟨j,hj⟩:=List.mem_iff_getElem?.mp hx;have:=jY h hj;obtain⟨o,y⟩:=x;rw[okI]at this;exact this
noncomputable def isT:Wx->Bool
 | .tup _=>true
 |_=>false
noncomputable def isS:Wx->Bool
 | .str _=>true
 |_=>false
structure KitL(K:PySem.W.Frag):Prop where
 t:∀d:Wx,kitOne K (.type (tyW d)) (.type "tuple")=some (isT d)
 s:∀d:Wx,kitOne K (.type (tyW d)) (.type "str")=some (isS d)
 si:kitOne K (.type "str") (.type "int")=some false
 ii:kitOne K (.type "int") (.type "int")=some true
 bi:kitOne K (.type "bool") (.type "int")=some true
 ib:kitOne K (.type "int") (.type "bool")=some false
 bb:kitOne K (.type "bool") (.type "bool")=some true
noncomputable def bww:Wx->Bool
 | .tup (.str _::_)=>true
 |_=>false
noncomputable def nmS(z:Str):Bool:=decide (1<=z.length)&&decide (z.length<=12)&&decide (V.str (Txt.stripChars z "abcdefghijklmnopqrstuvwxyz")=V.str "")
noncomputable def nmW:Wx->Bool
 | .str z=>nmS z
 |_=>false
noncomputable def QdC:Wx->Bool
 | .str z=>(ZX z.cps.toList).isSome
 |_=>false
noncomputable def whW:Wx->Bool
 | .int i=>decide (1<=i)&&decide (i<=30)
 |_=>false
noncomputable def eqS(a b:Str):Bool:=decide (V.str a=V.str b)
noncomputable def only{α:Type}(r:List Wx)(g:Wx->α)(e:α):α:=match r with|[x]=>g x|_=>e
noncomputable def xk(r:List Wx)(g:Wx->Prop):Prop:=match r with|[x]=>g x|_=>True
noncomputable def Jn:Wx->Bool
 | .tup (.str w0::n::c::r)=>nmW n&&(if eqS w0 "table"=true then decide (r.length=1)&&whW c else if eqS w0 "box"=true then decide (r.length=0)&&QdC c else decide (r.length=0)&&eqS w0 "group")
 |_=>false
noncomputable def QT:Wx->Bool
 | .tup (.str w0::r)=>if eqS w0 "over"=true then only r Jn false else Jn (.tup (.str w0::r))
 |_=>false
noncomputable def Qej(c:Wx):Prop:=(∃i,c=.int i)\/(∃b,c=.bl b)\/∃z,c=.str z
noncomputable def xm:Wx->Prop
 | .tup (.str w0::_::c::r)=>(eqS w0 "box"=true->∃z:Str,c=.str z/\z.cps.toList.length<=500)/\(eqS w0 "table"=true->r.length=1->Qej c)
 |_=>True
noncomputable def Qbz:Wx->Prop
 | .tup (.str w0::r)=>if eqS w0 "over"=true then xk r xm else xm (.tup (.str w0::r))
 |_=>True
section
variable {P:Program}{w:World}{K:PySem.W.Frag}{mg:Str->Option Value}{base:Heap}{f:Addr}{fd:FuncData}{tk:Nat->Tok}{c kr:Nat->Addr}
theorem QaA{H:Hp}{v:V}{d:Wx}(D:Ws H v d)(h:bww d=true):∃a w0 xs r,v=.ref a/\d=.tup (.str w0::r)/\H a=some (.tup (.str w0::xs))/\Wss H xs r:=by
 cases D with
 |non=>cases h
 |bl=>cases h
 |int=>cases h
 |str=>cases h
 |lst g=>cases h
 |@tup a xs ds g t=>
  cases t with
  |nil=>cases h
  |@cons x d0 xs ds hx t=>
   cases d0 with
   |str w0=>
    obtain rfl:=hx.Ud;exact⟨a,w0,xs,ds,rfl,rfl,g,t⟩
   |_=>cases h
noncomputable def yK:Sp:=fun vs H Q _=>∃(v:V)(d:Wx),vs=[v]/\Ws H v d/\Q (.bl (bww d)) H
theorem Ka(F:Fun K "begins_with_word" "begins_with_word" JK f fd)(O:Own mg)(OT:mg "tuple"=none)(KT:KitL K):FnOk P w K mg base (CXE P w) 1 f fd ["thing"] yK:=by
 refine Wu F X5 (fun vs H Q E h=>?_) (fun cdv A outer s H vs Q E hr h=>?_)
 ·obtain⟨v,d,rfl,_⟩:=h;rfl
 ·obtain⟨v,d,rfl,D,k⟩:=h;refine⟨_,(Qs (QG (PEx.mk (ZK (Qj QL rfl O.isi PyProof.Rows.boot_isinstance (Qz (pv 0) (Qz (ZR (v:=V.ty "tuple") rfl OT PyProof.Rows.boot_tuple rfl) Qc))) (ZK (Q9 KM (Qj Qr rfl O.len PySem.boot_len (Qz (pv 0) Qc)) Qd (Qo _)) (XI (Qj QL rfl O.isi PyProof.Rows.boot_isinstance (Qz (Qw Qt (pv 0) Qd (fun _ _=>rfl)) (Qz (ZR (v:=V.ty "str") rfl O.str PyProof.Rows.boot_str rfl) Qc))))))))),?_⟩;refine⟨_,rfl,_,_,isT d,rfl,rfl,.inl ⟨_,D.ty,KT.t d⟩,isT d,rfl,?_⟩;cases D with
  |non=>exact QN k
  |bl=>exact QN k
  |int=>exact QN k
  |str=>exact QN k
  |lst g=>exact QN k
  |@tup a xs ds g t=>
   refine QQ ⟨_,rfl,a,xs,rfl,.inr (.inl (.inl g)),_,_,rfl,rfl,?_⟩;cases t with
   |nil=>exact⟨false,rfl,QN k⟩
   |@cons x d0 xs ds hx t=>
    refine⟨true,?_,QQ ?_⟩
    ·exact congrArg V.bl (uo (by rw[uw];omega))
    refine⟨_,rfl,a,_,0,_,rfl,rfl,.inl g,QK (j:=0) rfl,_,_,isS d0,rfl,rfl,.inl ⟨_,hx.ty,KT.s d0⟩,?_⟩;have e:bww (.tup (d0::ds))=isS d0:=by cases d0<;>rfl
    rw[←e];exact k
noncomputable def wf:Sp:=fun vs H Q _=>∃(v:V)(d:Wx),vs=[v]/\Ws H v d/\(∀z,d=.str z->z.length<=1000)/\Q (.bl (nmW d)) H
theorem xn(F:Fun K "is_name" "is_name" W8 f fd)(O:Own mg)(T:Txt K mg tk c kr)(KT:KitL K):FnOk P w K mg base (CXE P w) 1 f fd ["thing"] wf:=by
 refine Wu F zY (fun vs H Q E h=>?_) (fun cdv A outer s H vs Q E hr h=>?_)
 ·obtain⟨v,d,rfl,_⟩:=h;rfl
 ·obtain⟨v,d,rfl,D,hl,k⟩:=h;have hz:1000<=sizeLine:=by decide
  refine⟨_,(Qs (QG (PEx.mk (ZK (Qj QL rfl O.isi PyProof.Rows.boot_isinstance (Qz (pv 0) (Qz (ZR (v:=V.ty "str") rfl O.str PyProof.Rows.boot_str rfl) Qc))) (ZK (jF xH xH Qd (Qj Q4 rfl O.len PySem.boot_len (Qz (pv 0) Qc)) (QB (v:=V.int 12) rfl T.gj ⟨_,rfl⟩)) (XI (Q9 QZ (JQ plainAttrs_str slot_str_strip type_str_strip jP (pv 0) (Qz (QB (v:=V.str "abcdefghijklmnopqrstuvwxyz") rfl T.gg ⟨_,rfl⟩) Qc)) Qg (Qo _)))))))),?_⟩;refine⟨_,rfl,_,_,isS d,rfl,rfl,.inl ⟨_,D.ty,KT.s d⟩,isS d,rfl,?_⟩;cases D with
  |non=>exact QN k
  |bl=>exact QN k
  |int=>exact QN k
  |lst g=>exact QN k
  |tup g t=>exact QN k
  |@str z=>
   have hl:=hl z rfl;have k:Q (.bl (nmS z)) H:=k;unfold nmS at k;refine QQ ⟨_,rfl,z,rfl,by omega,_,_,rfl,rfl,_,rfl,?_⟩;refine ifB (fun h1=>?_) (fun h1=>?_)
   ·have h1:decide ((1:Int)<=(z.length:Nat))=true:=h1;have h1':decide (1<=z.length)=true:=uo (by have:=of_decide_eq_true h1;omega);rw[h1',Bool.true_and]at k;refine⟨_,_,rfl,rfl,_,rfl,?_⟩;refine ifB (fun h2=>?_) (fun h2=>?_)
    ·have h2':decide (z.length<=12)=true:=uo (by have:=of_decide_eq_true h2;omega);rw[h2',Bool.true_and]at k;exact⟨_,rfl,rfl,z,_,rfl,rfl,Nat.le_trans hl hz,rfl,k⟩
    ·have h2':decide (z.length<=12)=false:=um (by have:=of_decide_eq_false h2;omega);rw[h2',Bool.false_and]at k;exact k
   ·have h1':decide (1<=z.length)=false:=um (by have:=of_decide_eq_false h1;omega);rw[h1',Bool.false_and,Bool.false_and]at k;exact⟨_,rfl,QN k⟩
noncomputable def isW:Wx->Bool
 | .int _=>true
 |_=>false
noncomputable def YL:Sp:=fun vs H Q _=>∃(v:V)(d:Wx),vs=[v]/\Ws H v d/\Qej d/\Q (.bl (isW d)) H
theorem ja(F:Fun K "is_whole" "is_whole" K2 f fd)(O:Own mg)(KT:KitL K):FnOk P w K mg base (CXE P w) 1 f fd ["thing"] YL:=by
 refine Wu F qH (fun vs H Q E h=>?_) (fun cdv A outer s H vs Q E hr h=>?_)
 ·obtain⟨v,d,rfl,_⟩:=h;rfl
 ·obtain⟨v,d,rfl,D,hd,k⟩:=h;refine⟨_,(Qs (QG (PEx.mk (ZK (Qj QL rfl O.isi PyProof.Rows.boot_isinstance (Qz (pv 0) (Qz (ZR (v:=V.ty "int") rfl O.int PyProof.Rows.boot_int rfl) Qc))) (XI (Qcj (Qj QL rfl O.isi PyProof.Rows.boot_isinstance (Qz (pv 0) (Qz (ZR (v:=V.ty "bool") rfl O.bool PyProof.Rows.boot_bool rfl) Qc))))))))),?_⟩;rcases hd with⟨i,rfl⟩|⟨b,rfl⟩|⟨z,rfl⟩;rotate_left 2
  ·cases D;exact⟨_,rfl,_,_,false,rfl,rfl,.inl ⟨_,.str _,KT.si⟩,false,rfl,QN k⟩
  ·cases D;refine⟨_,rfl,_,_,true,rfl,rfl,.inl ⟨_,.int _,KT.ii⟩,true,rfl,QQ ?_⟩;exact⟨_,rfl,_,_,false,rfl,rfl,.inl ⟨_,.int _,KT.ib⟩,_,rfl,k⟩
  ·cases D;refine⟨_,rfl,_,_,true,rfl,rfl,.inl ⟨_,.bl _,KT.bi⟩,true,rfl,QQ ?_⟩;exact⟨_,rfl,_,_,true,rfl,rfl,.inl ⟨_,.bl _,KT.bb⟩,_,rfl,k⟩
noncomputable def Wa:Wx->Prop
 | .tup (.str _:: .str z::_)=>z.length<=1000
 |_=>True
noncomputable def jb:Sp:=fun vs H Q _=>∃(v:V)(d:Wx),vs=[v]/\Ws H v d/\xm d/\Wa d/\∀H',Qk H H'->Q (.bl (Jn d)) H'
set_option maxHeartbeats 1000000 in
theorem Vm(F:Fun K "is_bare_item" "is_bare_item" ZH f fd)(O:Own mg)(T:Txt K mg tk c kr)(hU:Def P w K mg base 1 "begins_with_word" ["thing"] yK)(nV:Def P w K mg base 1 "is_name" ["thing"] wf)(nk:Def P w K mg base 1 "is_whole" ["thing"] YL)(mD:Def P w K mg base 6 "is_picture" ["thing"] (qN K)):FnOk P w K mg base (CXE P w) 7 f fd ["thing"] jb:=by
 refine Wu F W7 (fun vs H Q E h=>?_) (fun cdv A outer s H vs Q E hr h=>?_)
 ·obtain⟨v,d,rfl,_⟩:=h;rfl
 ·obtain⟨v,d,rfl,D,hA,hN,k⟩:=h;refine⟨_,(Qi (Zd (PW.pt (ZS (Z5 (Zp (hU.pe hr (by decide) rfl Qu (Qz (pv 0) Qc)))) (ZS (Ql Ye (Qj Qr rfl O.len PySem.boot_len (Qz (pv 0) Qc)) Qd (Qo _)) (J3 (Z5 (Zp (nV.pe hr (by decide) rfl Qu (Qz (Qw Qt (pv 0) Qd (fun _ _=>rfl)) Qc)))))))) (Qs (QG (PEx.mk ZQ))) JN)
   (Qi (Zd (Ql QZ (Qw Qt (pv 0) Qd (fun _ _=>rfl)) Qg (Qo _)) (Qs (QG (PEx.mk (ZK (Q9 QZ (Qj Qr rfl O.len PySem.boot_len (Qz (pv 0) Qc)) Qd (Qo _)) (ZK (nk.pe hr (by decide) rfl Qu (Qz (Qw Qt (pv 0) Qd (fun _ _=>rfl)) Qc)) (XI (jF xH xH Qd (Qw Qt (pv 0) Qd (fun _ _=>rfl)) (QB (v:=V.int 30) rfl T.gE ⟨_,rfl⟩)))))))) JN)
   (Qi (Zd (Ql QZ (Qw Qt (pv 0) Qd (fun _ _=>rfl)) Qg (Qo _)) (Qs (QG (PEx.mk (ZK (Q9 QZ (Qj Qr rfl O.len PySem.boot_len (Qz (pv 0) Qc)) Qd (Qo _)) (XI (mD.pe hr (by decide) rfl Qu (Qz (Qw Qt (pv 0) Qd (fun _ _=>rfl)) Qc))))))) JN)
   (Qs (QG (PEx.mk (ZK (Q9 QZ (Qj Qr rfl O.len PySem.boot_len (Qz (pv 0) Qc)) Qd (Qo _)) (XI (Q9 QZ (Qw Qt (pv 0) Qd (fun _ _=>rfl)) Qg (Qo _)))))))))),?_⟩
  dsimp only[QH,JP,XX,QU];refine⟨_,rfl,v,d,rfl,D,bww d,rfl,?_⟩;cases hb:bww d with
  |false=>
   refine QQ (QQ ?_);have:Jn d=false:=by
    cases d with
    |tup ds=>cases ds with
     |nil=>rfl
     |cons d0 ds=>cases d0 with
      |str w0=>cases hb
      |_=>rfl
    |_=>rfl
   rw[this]at k;exact k _ (Qk.refl _)
  |true=>
   obtain⟨a,w0,xs,r,rfl,rfl,g,t⟩:=QaA D hb;have lx:=t.length;cases t with
   |nil=>exact QN ⟨_,rfl,a,_,rfl,.inr (.inl (.inl g)),_,_,rfl,rfl,true,rfl,QQ (QQ (k _ (Qk.refl _)))⟩
   |@cons x1 d1 xs r hx1 t=>
    cases t with
    |nil=>exact QN ⟨_,rfl,a,_,rfl,.inr (.inl (.inl g)),_,_,rfl,rfl,true,rfl,QQ (QQ (k _ (Qk.refl _)))⟩
    |@cons x2 d2 xs r hx2 t=>
     have lx:=t.length;have hN:∀z,d1=.str z->z.length<=1000:=fun z e=>by subst e;exact hN
     have hA:(eqS w0 "box"=true->∃z:Str,d2=.str z/\z.cps.toList.length<=500)/\(eqS w0 "table"=true->r.length=1->Qej d2):=hA;have k:∀H',Qk H H'->Q (.bl (nmW d1&&(if eqS w0 "table"=true then decide (r.length=1)&&whW d2 else if eqS w0 "box"=true then decide (r.length=0)&&QdC d2 else decide (r.length=0)&&eqS w0 "group"))) H':=k;have len3:(V.bl (decide ((((V.str w0::x1::x2::xs).length:Nat):Int)<3)))=.bl false:=congrArg V.bl (um (by simp only[uw];omega));refine QN ⟨_,rfl,a,_,rfl,.inr (.inl (.inl g)),_,_,rfl,rfl,false,len3,QN ?_⟩;refine⟨_,rfl,a,_,1,_,rfl,rfl,.inl g,QK (j:=1) rfl,x1,d1,rfl,hx1,hN,nmW d1,rfl,?_⟩;cases hn:nmW d1 with
     |false=>
      rw[hn,Bool.false_and]at k;exact QQ (k _ (Qk.refl _))
     |true=>
      rw[hn,Bool.true_and]at k;refine QN ⟨_,rfl,a,_,0,_,rfl,rfl,.inl g,QK (j:=0) rfl,rfl,eqS w0 "table",rfl,?_⟩;cases ht:eqS w0 "table" with
      |true=>
       rw[if_pos ht]at k;refine QQ ⟨_,rfl,a,_,rfl,.inr (.inl (.inl g)),rfl,?_⟩
       by_cases h4:r.length=1
       ·rw[uo h4,Bool.true_and]at k;refine⟨true,congrArg V.bl (uo (by rw[show(V.str w0::x1::x2::xs).length=4 by simp only[uw];omega];rfl)),QQ ?_⟩;refine⟨_,rfl,a,_,2,_,rfl,rfl,.inl g,QK (j:=2) rfl,x2,d2,rfl,hx2,hA.2 ht h4,isW d2,rfl,?_⟩;rcases hA.2 ht h4 with⟨i,rfl⟩|⟨b,rfl⟩|⟨z,rfl⟩
        ·obtain rfl:=hx2.Qbt;refine QQ ⟨_,rfl,a,_,2,_,rfl,rfl,.inl g,QK (j:=2) rfl,_,_,rfl,rfl,_,rfl,?_⟩;have k:∀H',Qk H H'->Q (.bl (decide (1<=i)&&decide (i<=30))) H':=k;refine ifB (fun h1=>?_) (fun h1=>?_)
         ·rw[show decide (1<=i)=true from h1,Bool.true_and]at k;exact⟨_,_,rfl,rfl,k _ (Qk.refl _)⟩
         ·rw[show decide (1<=i)=false from h1,Bool.false_and]at k;exact k _ (Qk.refl _)
        ·exact QN (k _ (Qk.refl _))
        ·exact QN (k _ (Qk.refl _))
       ·rw[um h4,Bool.false_and]at k;refine⟨false,congrArg V.bl (um (fun z=>?_)),QN (k _ (Qk.refl _))⟩;injection z with z;simp only[uw]at z;omega
      |false=>
       rw[if_neg (by rw[ht];decide)]at k;refine QN ⟨_,rfl,a,_,0,_,rfl,rfl,.inl g,QK (j:=0) rfl,rfl,eqS w0 "box",rfl,?_⟩;have l3t:r.length=0->(V.bl (decide (V.int (((V.str w0::x1::x2::xs).length:Nat):Int)=V.int 3)))=.bl true:=fun h3=>congrArg V.bl (uo (by rw[show(V.str w0::x1::x2::xs).length=3 by simp only[uw];omega];rfl));have l3f:r.length≠0->(V.bl (decide (V.int (((V.str w0::x1::x2::xs).length:Nat):Int)=V.int 3)))=.bl false:=fun h3=>congrArg V.bl (um (fun z=>by
        injection z with z;simp only[uw]at z;omega))
       cases hx:eqS w0 "box" with
       |true=>
        rw[if_pos hx]at k;refine QQ ⟨_,rfl,a,_,rfl,.inr (.inl (.inl g)),rfl,?_⟩
        by_cases h3:r.length=0
        ·rw[uo h3,Bool.true_and]at k;obtain⟨z,rfl,hzl⟩:=hA.1 hx;obtain rfl:=hx2.Ud;refine⟨true,l3t h3,QQ ?_⟩;exact⟨_,rfl,a,_,2,_,rfl,rfl,.inl g,QK (j:=2) rfl,_,_,rfl,.inl ⟨z.cps.toList,by rw[←ZC z],hzl,rfl⟩,fun H' S'=>k _ S'⟩
        ·rw[um h3,Bool.false_and]at k;exact⟨false,l3f h3,QN (k _ (Qk.refl _))⟩
       |false=>
        rw[if_neg (by rw[hx];decide)]at k;refine QN ⟨_,rfl,a,_,rfl,.inr (.inl (.inl g)),rfl,?_⟩
        by_cases h3:r.length=0
        ·rw[uo h3,Bool.true_and]at k;refine⟨true,l3t h3,QQ ?_⟩;exact⟨_,rfl,a,_,0,_,rfl,rfl,.inl g,QK (j:=0) rfl,rfl,k _ (Qk.refl _)⟩
        ·rw[um h3,Bool.false_and]at k;exact⟨false,l3f h3,QN (k _ (Qk.refl _))⟩
noncomputable def NmI:Wx->Prop
 | .tup (.str w0::r)=>if eqS w0 "over"=true then xk r Wa else Wa (.tup (.str w0::r))
 |_=>True
noncomputable def wg:Sp:=fun vs H Q _=>∃(v:V)(d:Wx),vs=[v]/\Ws H v d/\Qbz d/\NmI d/\∀H',Qk H H'->Q (.bl (QT d)) H'
theorem QbA{d:Wx}(hb:bww d=false):Jn d=false/\Wa d/\xm d/\Jn d=QT d:=by
 cases d with
 |tup ds=>cases ds with
  |nil=>exact⟨rfl,trivial,trivial,rfl⟩
  |cons d0 ds=>cases d0 with
   |str w0=>cases hb
   |_=>exact⟨rfl,trivial,trivial,rfl⟩
 |_=>exact⟨rfl,trivial,trivial,rfl⟩
theorem xo(F:Fun K "is_item" "is_item" W6 f fd)(O:Own mg)(hU:Def P w K mg base 1 "begins_with_word" ["thing"] yK)(gF:Def P w K mg base 7 "is_bare_item" ["thing"] jb):FnOk P w K mg base (CXE P w) 8 f fd ["thing"] wg:=by
 refine Wu F zX (fun vs H Q E h=>?_) (fun cdv A outer s H vs Q E hr h=>?_)
 ·obtain⟨v,d,rfl,_⟩:=h;rfl
 ·obtain⟨v,d,rfl,D,hA,hN,k⟩:=h;refine⟨_,(Qi (Zd (PW.pt (ZJ (Zp (hU.pe hr (by decide) rfl Qu (Qz (pv 0) Qc))) (Zq (Ql QZ (Qw Qt (pv 0) Qd (fun _ _=>rfl)) Qg (Qo _))))) (Qs (QG (PEx.mk (ZK (Q9 QZ (Qj Qr rfl O.len PySem.boot_len (Qz (pv 0) Qc)) Qd (Qo _)) (XI (gF.pe hr (by decide) rfl Qu (Qz (Qw Qt (pv 0) Qd (fun _ _=>rfl)) Qc))))))) JN)
   (Qs (QG (PEx.mk (gF.pe hr (by decide) rfl Qu (Qz (pv 0) Qc)))))),?_⟩
  dsimp only[QH,JP,XX,QU];refine⟨_,rfl,v,d,rfl,D,bww d,rfl,?_⟩;cases hb:bww d with
  |false=>
   obtain⟨h1,h2,h3,h4⟩:=QbA hb;exact QN (QN ⟨_,rfl,v,d,rfl,D,h3,h2,fun H' S'=>by rw[h4];exact k _ S'⟩)
  |true=>
   obtain⟨a,w0,xs,r,rfl,rfl,g,t⟩:=QaA D hb;have hA:if eqS w0 "over"=true then xk r xm else xm (.tup (.str w0::r)):=hA;have hN:if eqS w0 "over"=true then xk r Wa else Wa (.tup (.str w0::r)):=hN;have k:∀H',Qk H H'->Q (.bl (if eqS w0 "over"=true then only r Jn false else Jn (.tup (.str w0::r)))) H':=k;refine QQ ⟨_,rfl,a,_,0,_,rfl,rfl,.inl g,QK (j:=0) rfl,rfl,eqS w0 "over",rfl,?_⟩;cases ho:eqS w0 "over" with
   |false=>
    rw[if_neg (by rw[ho];decide)]at k hA hN;exact QN ⟨_,rfl,_,_,rfl,D,hA,hN,k⟩
   |true=>
    rw[if_pos ho]at k hA hN;refine QQ ⟨_,rfl,a,_,rfl,.inr (.inl (.inl g)),rfl,?_⟩;cases t with
    |nil=>exact⟨false,rfl,QN (k _ (Qk.refl _))⟩
    |@cons x1 d1 xs r hx1 t=>
     cases t with
     |nil=>exact⟨true,rfl,QQ ⟨_,rfl,a,_,1,_,rfl,rfl,.inl g,rfl,x1,d1,rfl,hx1,hA,hN,k⟩⟩
     |@cons x2 d2 xs r hx2 t=>
      refine⟨false,congrArg V.bl (um (fun z=>?_)),QN (k _ (Qk.refl _))⟩;injection z with z;simp only[uw]at z;omega
end
noncomputable def Kv:Wx->Wx
 | .tup (.str w0::r)=>if eqS w0 "over"=true then only r id .non else .tup (.str w0::r)
 |d=>d
noncomputable def Qek:Wx->Str
 | .tup (_:: .str z::_)=>z
 |_=>""
noncomputable def QcV:Wx->Str
 | .tup (.str z::_)=>z
 |_=>""
noncomputable def QcW:Wx->Wx
 | .tup ds=>ds.getLastD .non
 |_=>.non
noncomputable def nmB(x:Wx):Str:=Qek (Kv x)
noncomputable def Wb:Wx->Bool
 | .tup []=>false
 | .tup (d::ds)=>(d::ds).all QT&&unlike ((d::ds).map nmB)
 |_=>false
noncomputable def Q6(x:Wx):Bool:= !(eqS (QcV (Kv x)) "box")
noncomputable def inB(x:Wx):Wx:=QcW (Kv x)
noncomputable def inr:Wx->List Wx
 | .tup ds=>(ds.filter Q6).map inB
 |_=>[]
theorem Kw{d:Wx}(h:Jn d=true):∃w0 z c r,d=.tup (.str w0:: .str z::c::r)/\nmS z=true/\(if eqS w0 "table"=true then decide (r.length=1)&&whW c else if eqS w0 "box"=true then decide (r.length=0)&&QdC c else decide (r.length=0)&&eqS w0 "group")=true:=by
 cases d with
 |tup ds=>
  rcases ds with _|⟨d0,_|⟨n,_|⟨c,r⟩⟩⟩
  ·cases h
  ·cases d0<;>cases h
  ·cases d0<;>cases h
  ·cases d0 with
   |str w0=>
    have h:(nmW n&&(if eqS w0 "table"=true then decide (r.length=1)&&whW c else if eqS w0 "box"=true then decide (r.length=0)&&QdC c else decide (r.length=0)&&eqS w0 "group"))=true:=h;rw[Bool.and_eq_true]at h;cases n with
    |str z=>exact⟨w0,z,c,r,rfl,h.1,h.2⟩
    |_=>cases h.1
   |_=>cases h
 |_=>cases h
theorem Kx{d:Wx}(h:QT d=true):Jn (Kv d)=true/\∃w0 r,d=.tup (.str w0::r)/\((eqS w0 "over"=true/\r=[Kv d])\/(eqS w0 "over"=false/\Kv d=d)):=by
 cases d with
 |tup ds=>
  cases ds with
  |nil=>cases h
  |cons d0 r=>
   cases d0 with
   |str w0=>
    have h:(if eqS w0 "over"=true then only r Jn false else Jn (.tup (.str w0::r)))=true:=h;have e:Kv (.tup (.str w0::r))=if eqS w0 "over"=true then only r id .non else .tup (.str w0::r):=rfl;rw[e];cases ho:eqS w0 "over" with
    |true=>
     rw[if_pos ho]at h;rw[if_pos rfl];rcases r with _|⟨x,_|⟨y,r⟩⟩
     ·cases h
     ·exact⟨h,w0,_,rfl,.inl ⟨ho,rfl⟩⟩
     ·cases h
    |false=>
     rw[if_neg (by rw[ho];decide)]at h;rw[if_neg (by decide)];exact⟨h,w0,_,rfl,.inr ⟨ho,rfl⟩⟩
   |_=>cases h
 |_=>cases h
section
variable {P:Program}{w:World}{K:PySem.W.Frag}{mg:Str->Option Value}{base:Heap}{f:Addr}{fd:FuncData}{tk:Nat->Tok}{c kr:Nat->Addr}
noncomputable def Vn:Sp:=fun vs H Q _=>∃(v:V)(d:Wx),vs=[v]/\Ws H v d/\QT d=true/\∀u,Ws H u (Kv d)->Q u H
theorem yL(F:Fun K "bare" "bare" ky f fd):FnOk P w K mg base (CXE P w) 1 f fd ["item"] Vn:=by
 refine Wu F Qbo (fun vs H Q E h=>?_) (fun cdv A outer s H vs Q E hr h=>?_)
 ·obtain⟨v,d,rfl,_⟩:=h;rfl
 ·obtain⟨v,d,rfl,D,hi,k⟩:=h;obtain⟨_,w0,r,rfl,hc⟩:=Kx hi;obtain⟨a,xs,rfl,g,t⟩:=D.Wy;refine⟨_,(Qs (QG (Wk (Ql QZ (Qw Qt (pv 0) Qd (fun _ _=>rfl)) Qg (Qo _)) (PEx.mk (Qw Qt (pv 0) Qd (fun _ _=>rfl))) (PEx.mk (pv 0))))),?_⟩;cases t with
  |@cons x d0 xs ds hx t=>
   obtain rfl:=hx.Ud;rcases hc with⟨ho,hr'⟩|⟨ho,hr'⟩
   ·rw[hr']at t;cases t with
    |@cons x1 d1 xs ds hx1 t=>
     cases t;exact⟨_,rfl,a,_,0,_,rfl,rfl,.inl g,rfl,rfl,true,congrArg V.bl ho,QQ ⟨_,rfl,a,_,1,_,rfl,rfl,.inl g,rfl,k _ hx1⟩⟩
   ·rw[hr']at k;exact⟨_,rfl,a,_,0,_,rfl,rfl,.inl g,QK (j:=0) rfl,rfl,false,congrArg V.bl ho,QN ⟨_,rfl,k _ D⟩⟩
noncomputable def Qel:Wx->Prop
 | .tup ds=>ds.length<900/\∀x∈ds,Qbz x/\NmI x
 |_=>True
noncomputable def QbB:Sp:=fun vs H Q _=>∃(v:V)(d:Wx),vs=[v]/\Ws H v d/\Qel d/\∀H',Qk H H'->Q (.bl (Wb d)) H'
theorem Ky(F:Fun K "is_row_of_items" "is_row_of_items" JW f fd)(O:Own mg)(OT:mg "tuple"=none)(OA:mg "all"=none)(OS:mg "set"=none)(KT:KitL K)(nW:Def P w K mg base 8 "is_item" ["thing"] wg)(nX:Def P w K mg base 1 "bare" ["item"] Vn):FnOk P w K mg base (CXE P w) 9 f fd ["thing"] QbB:=by
 refine Wu F ZA (fun vs H Q E h=>?_) (fun cdv A outer s H vs Q E hr h=>?_)
 ·obtain⟨v,d,rfl,_⟩:=h;rfl
 ·obtain⟨v,d,rfl,D,hA,k⟩:=h;have hz:1000<=sizeLine:=by decide
  refine⟨_,(Qi (Zd (PW.pt (ZS (Z5 (Zp (Qj QL rfl O.isi PyProof.Rows.boot_isinstance (Qz (pv 0) (Qz (ZR (v:=V.ty "tuple") rfl OT PyProof.Rows.boot_tuple rfl) Qc))))) (J3 (Ql QZ (Qj Qr rfl O.len PySem.boot_len (Qz (pv 0) Qc)) Qd (Qo _))))) (Qs (QG (PEx.mk ZQ))) JN)
   (Qi (Zd (Z5 (Zp (Qj (jV rfl) rfl OA PyProof.Rows.boot_all (Qz (Jo (NB:=[".0","item"]) rfl ⟨rfl,by decide+kernel,by decide+kernel,by decide+kernel⟩ (XJ (pv 0)) (fun _ _ _=>(Qm (i:=1) (show([".0","item"]:List Str).Nodup by decide+kernel) rfl (Or.inl rfl))) (fun _ _ _=>Jx) (fun _ _ _=>(nW.pe hr (by decide) rfl Qu (Qz (pv 1) Qc)))) Qc)))) (Qs (QG (PEx.mk ZQ))) JN)
   (Qi (PSy.mk (Wv (NB:=[".0","item"]) (iy:=1) rfl ⟨rfl,by decide+kernel,by decide+kernel,by decide+kernel⟩ (XJ (pv 0)) (fun _ _ _=>(Qm (i:=1) (show([".0","item"]:List Str).Nodup by decide+kernel) rfl (Or.inl rfl))) (fun _ _ _=>Jx) (fun _ _ _=>(Qw Qt (nX.pe hr (by decide) rfl Qu (Qz (pv 1) Qc)) Qd (fun _ _=>rfl))) ZA.nd rfl (Or.inl rfl) rfl))
   (Qs (QG (PEx.mk (Q9 QZ (Qj qR rfl O.len PySem.boot_len (Qz (J4 (wc rfl) rfl OS PyProof.Rows.boot_set (Qz (pv 1) Qc)) Qc)) (Qj Qr rfl O.len PySem.boot_len (Qz (pv 1) Qc)) (Qo _)))))))),?_⟩
  dsimp only[QH,JP,XX,QU];refine⟨_,rfl,_,_,isT d,rfl,rfl,.inl ⟨_,D.ty,KT.t d⟩,isT d,rfl,?_⟩;cases D with
  |non=>exact QQ (QQ (k _ (Qk.refl _)))
  |bl=>exact QQ (QQ (k _ (Qk.refl _)))
  |int=>exact QQ (QQ (k _ (Qk.refl _)))
  |str=>exact QQ (QQ (k _ (Qk.refl _)))
  |lst g=>exact QQ (QQ (k _ (Qk.refl _)))
  |@tup a xs ds g t=>
   obtain⟨hA1,hA2⟩:=hA;refine QN ⟨_,rfl,a,xs,rfl,.inr (.inl (.inl g)),rfl,?_⟩;have lx:=t.length;cases ds with
   |nil=>
    cases t;exact⟨true,rfl,QQ (k _ (Qk.refl _))⟩
   |cons d0 ds0=>
    generalize hds:d0::ds0=ds at t hA1 hA2 lx;have hn:xs.length≠0:=by rw[lx, ←hds,uw];omega
    have k:∀H',Qk H H'->Q (.bl (ds.all QT&&unlike (ds.map nmB))) H':=by rw[←hds];exact k
    clear hds;refine⟨false,congrArg V.bl (um fun z=>by injection z with z;exact hn (by omega)),QN ?_⟩;dsimp only[QH,JP,XX,QU,qh,QeB,tB];refine cb1 ?_;refine Ko (yp (K:=K) (a:=a) (xs:=xs)) (fun i vs H1=>Qk H H1/\vs=((ds.take i).map QT).map V.bl) (fun R h=>⟨_,rfl,a,rfl,⟨_,.inl (.inl g)⟩,h _ ⟨Qk.refl _,rfl⟩⟩) ?_ ?_ ?_ (by omega)
    ·rintro i vs H1 hi ⟨S,rfl⟩;refine⟨.inl (.inl (S _ _ g)),?_⟩;rw[uk,uk,uB];omega
    ·rintro i v vs H1 H2 hi ⟨S,rfl⟩ ⟨rfl,hv⟩;obtain⟨d,hd,Dd⟩:=t.VI hv;obtain⟨h1,h2⟩:=hA2 d (uF hd);refine⟨_,rfl,v,d,rfl,Dd.same S,h1,h2,fun H3 S3=>⟨S.trans S3,?_⟩⟩;rw[List.take_add_one,hd];simp
    rintro vs H1 ⟨S1,rfl⟩ p hp;rw[List.take_of_length_le (by omega)];have S2:=S1.trans (Qk.new (o:=.lst ((ds.map QT).map V.bl)) hp);refine⟨p,_,rfl,.inl (.inl Qa),_,rfl,?_⟩;generalize upd H1 p (.lst ((ds.map QT).map V.bl))=H2 at S2;have ea:(ds.map QT).all id=ds.all QT:=by rw[List.all_map];rfl
    rw[ea];cases hall:ds.all QT with
    |false=>
     rw[hall,Bool.false_and]at k;exact QQ (k _ S2)
    |true=>
     rw[hall,Bool.true_and]at k;have hit:∀x∈ds,QT x=true:=fun x hx=>List.all_eq_true.mp hall x hx;refine QN ?_;refine Ko (yp (K:=K) (a:=a) (xs:=xs)) (fun i vs H1=>Qk H H1/\vs=((ds.take i).map nmB).map V.str) (fun R h=>⟨_,rfl,a,rfl,⟨_,.inl (.inl (S2 _ _ g))⟩,h _ ⟨S2,rfl⟩⟩) ?_ ?_ ?_ (by omega)
     ·rintro i vs H1 hi ⟨S,rfl⟩;refine⟨.inl (.inl (S _ _ g)),?_⟩;rw[uk,uk,uB];omega
     ·rintro i v vs H3 H4 hi ⟨S,rfl⟩ ⟨rfl,hv⟩;obtain⟨d,hd,Dd⟩:=t.VI hv;have hid:=hit d (uF hd);refine⟨_,rfl,v,d,rfl,Dd.same S,hid,fun u Du=>?_⟩;obtain⟨w0,z,c,r,e,_,_⟩:=Kw (Kx hid).1;have en:nmB d=z:=by rw[nmB,e];rfl
      rw[e]at Du;obtain⟨b,ys,rfl,gb,tb⟩:=Du.Wy;cases tb with
      |@cons y1 _ ys _ h1 tb=>
       cases tb with
       |@cons y2 _ ys _ h2 tb=>
        obtain rfl:=h2.Ud;refine⟨b,_,1,_,rfl,rfl,.inl gb,QK (j:=1) rfl,S,?_⟩;rw[List.take_add_one,hd];simp[en]
     rintro vs H3 ⟨S3,rfl⟩ q hq;rw[List.take_of_length_le (by omega)];have S4:=S3.trans (Qk.new (o:=.lst ((ds.map nmB).map V.str)) hq);have g4:upd H3 q (.lst ((ds.map nmB).map V.str)) q=some (.lst ((ds.map nmB).map V.str)):=Qa;generalize upd H3 q (.lst ((ds.map nmB).map V.str))=H4 at S4 g4;refine⟨_,rfl,q,_,rfl,.inl (.inl g4),by rw[uk];omega,fun s hs=>?_⟩;have S5:=Qk.new (o:=QdA P w s (many (ds.map nmB))) hs;refine⟨s,_,rfl,Qa,?_⟩;refine⟨_,rfl,q,_,rfl,.inl (.inl (.inl (S5 _ _ g4))),rfl,?_⟩;have e:decide (V.int ((many (ds.map nmB):Nat):Int)=V.int (((ds.map nmB).map V.str).length:Nat))=unlike (ds.map nmB):=by
      rw[←yG];refine decide_eq_decide.mpr ⟨fun z=>?_,fun z=>?_⟩
      ·injection z with z;rw[uk]at z;omega
      ·rw[z,uk,uk,uk]
     rw[←e]at k;exact k _ (S4.trans S5)
end
noncomputable def ovB:Nat->List (Bool × Ly)->Bool
 |_,[]=>true
 |u,(ov,y)::xs=>if ov=true then decide (y.sz<=u)&&ovB u xs else ovB y.sz xs
mutual
noncomputable def Ly.ov:Ly->Bool
 | .box _ _=>true
 | .grp _ its=>ovB 0 its&&QbC its
 | .tab _ _ its=>ovB 0 its&&QbC its
noncomputable def QbC:List (Bool × Ly)->Bool
 |[]=>true
 |x::xs=>ovI x&&QbC xs
noncomputable def ovI:Bool × Ly->Bool
 |(_,y)=>y.ov
end
noncomputable def ovL(its:List (Bool × Ly)):Bool:=ovB 0 its&&QbC its
noncomputable def VL:Ly->Option (List (Bool × Ly))
 | .box _ _=>none
 | .grp _ its=>some its
 | .tab _ _ its=>some its
noncomputable def inn(its:List (Bool × Ly)):List (List (Bool × Ly)):=its.filterMap fun x=>VL x.2
theorem YM:∀its,QbC its=(inn its).all ovL
 |[]=>by rw[QbC];rfl
 |(o,y)::xs=>by
  rw[QbC,ovI,YM xs];cases y with
  |box nm p=>rw[Ly.ov,Bool.true_and];rfl
  |grp nm i=>rw[Ly.ov];rfl
  |tab nm k i=>rw[Ly.ov];rfl
noncomputable def wI(x:Bool × Ly):Wx:=toW (dvI x)
noncomputable def wR(its:List (Bool × Ly)):Wx:=.tup (its.map wI)
theorem wj(its:List (Bool × Ly)):wR its=toW (.tup (dvL its)):=by rw[wR,toW,jX,Ju,uM];rfl
noncomputable def Ly.w:Ly->Wx
 | .box nm p=>.tup [.str "box",.str nm,.str (Ue p)]
 | .grp nm its=>.tup [.str "group",.str nm,wR its]
 | .tab nm k its=>.tup [.str "table",.str nm,.int (k:Nat),wR its]
theorem Ly.w_eq(y:Ly):toW y.dv=y.w:=by
 cases y with
 |box nm p=>rw[Ly.dv,Ly.w,toW,Wl,Wl,Wl,Wl,toW,toW,toW]
 |grp nm its=>rw[Ly.dv,Ly.w,toW,Wl,Wl,Wl,Wl,toW,toW,wj]
 |tab nm k its=>rw[Ly.dv,Ly.w,toW,Wl,Wl,Wl,Wl,Wl,toW,toW,toW,wj]
theorem UV(x:Bool × Ly):wI x=if x.1=true then .tup [.str "over",x.2.w]else x.2.w:=by
 obtain⟨o,y⟩:=x;rw[wI,dvI];cases o with
 |true=>rw[if_pos rfl,if_pos rfl,toW,Wl,Wl,Wl,toW,Ly.w_eq]
 |false=>rw[if_neg Bool.false_ne_true,if_neg (show ¬ ((false,y):Bool × Ly).1=true from Bool.false_ne_true),Ly.w_eq]
theorem Vo:eqS "over" "over"=true:=by decide+kernel
theorem j4(y:Ly):eqS y.word "over"=false:=Kt y
theorem Ly.QeO(y:Ly):∃r,y.w=.tup (.str y.word:: .str y.name::r):=by cases y<;>exact⟨_,rfl⟩
theorem Kz(x:Bool × Ly):Kv (wI x)=x.2.w:=by
 obtain⟨o,y⟩:=x;rw[UV];cases o with
 |true=>
  rw[if_pos rfl];show(if eqS "over" "over"=true then only (y.w::[]) id .non else .tup [.str "over",y.w])=y.w;rw[if_pos Vo];rfl
 |false=>
  rw[if_neg (show ¬ ((false,y):Bool × Ly).1=true from Bool.false_ne_true)];obtain⟨r,e⟩:=y.QeO;rw[e];show(if eqS y.word "over"=true then _ else _)=_;rw[if_neg (by rw[j4];decide)]
theorem UW(x:Bool × Ly):Q6 (wI x)=(VL x.2).isSome:=by
 rw[Q6,Kz];obtain⟨o,y⟩:=x;cases y with
 |box nm p=>show(!(eqS "box" "box"))=false;decide+kernel
 |grp nm its=>show(!(eqS "group" "box"))=true;decide+kernel
 |tab nm k its=>show(!(eqS "table" "box"))=true;decide+kernel
theorem QcX{x:Bool × Ly}{i:List (Bool × Ly)}(h:VL x.2=some i):inB (wI x)=wR i:=by
 rw[inB,Kz];obtain⟨o,y⟩:=x;cases y with
 |box nm p=>cases h
 |grp nm its=>obtain rfl:=ur h;rfl
 |tab nm k its=>obtain rfl:=ur h;rfl
theorem QaB:∀its,inr (wR its)=(inn its).map wR
 |[]=>rfl
 |x::xs=>by
  have ih:((xs.map wI).filter Q6).map inB=(inn xs).map wR:=QaB xs;show(((wI x::xs.map wI).filter Q6).map inB)=(inn (x::xs)).map wR;rw[List.filter_cons,UW,inn,List.filterMap_cons];cases h:VL x.2 with
  |none=>rw[if_neg (by decide)];exact ih
  |some i=>rw[Option.isSome_some,if_pos rfl,uN,uN,QcX h,ih];rfl
inductive Bad:Wx->Prop where
 |row {d:Wx} (h:Wb d=false):Bad d
 |inn {d x:Wx} (h:x∈inr d) (b:Bad x):Bad d
inductive Args:Wx->Prop where
 |mk {d:Wx} (h:Qel d) (t:Wb d=true->∀x∈inr d,Args x):Args d
theorem Args.here{d:Wx}(h:Args d):Qel d:=by cases h with|mk h t=>exact h
theorem Args.inr{d:Wx}(h:Args d)(hr:Wb d=true):∀x∈inr d,Args x:=by cases h with|mk h t=>exact t hr
inductive Rows:List (Bool × Ly)->Prop where
 |mk {its:List (Bool × Ly)} (h:Wb (wR its)=true) (c:cnL its<=8000) (o:okL its) (dp:dpL its<=99) (t:∀x∈inn its,Rows x):Rows its
mutual
noncomputable def szW:Wx->Nat
 | .tup ds=>1+ZI ds
 | .non=>1
 | .bl _=>1
 | .int _=>1
 | .str _=>1
 | .lst=>1
noncomputable def ZI:List Wx->Nat
 |[]=>0
 |d::ds=>szW d+ZI ds
end
theorem YN:szW .non=1:=by rw[szW]
theorem Wc(d:Wx):1<=szW d:=by cases d<;>rw[szW]<;>omega
theorem XD:∀a b,ZI (a++b)=ZI a+ZI b
 |[],b=>by rw[uK,ZI];omega
 |x::a,b=>by rw[uJ,ZI,ZI,XD a b];omega
theorem KA:∀ds,ds.length<=ZI ds
 |[]=>uQ _
 |d::ds=>by
  have:=KA ds;have:=Wc d;rw[uw,ZI];omega
theorem yM(d:Wx):szW (QcW d)<=szW d:=by
 have hp:=Wc d;cases d with
 |tup ds=>
  show szW (ds.getLastD .non)<=_;rcases List.eq_nil_or_concat ds with rfl|⟨l,x,rfl⟩
  ·show szW .non<=_;rw[YN];exact hp
  ·rw[List.concat_eq_append];have:(l++[x]).getLastD .non=x:=by simp
   rw[this,szW,XD,ZI,ZI];omega
 |_=>show szW .non<=_;rw[YN];exact hp
theorem yN(d:Wx):szW (Kv d)<=szW d:=by
 cases d with
 |tup ds=>
  cases ds with
  |nil=>exact uq _
  |cons d0 r=>
   cases d0 with
   |str w0=>
    show szW (if eqS w0 "over"=true then only r id .non else .tup (.str w0::r))<=_
    split
    ·rcases r with _|⟨x,_|⟨y,r⟩⟩
     ·show szW .non<=_;rw[YN];exact Wc _
     ·show szW x<=_;rw[szW,ZI,ZI,ZI];omega
     ·show szW .non<=_;rw[YN];exact Wc _
    ·exact uq _
   |_=>exact uq _
 |_=>exact uq _
theorem QbD(d:Wx):szW (inB d)<=szW d:=Nat.le_trans (yM _) (yN d)
theorem j5:∀ds,ZI ((ds.filter Q6).map inB)<=ZI ds
 |[]=>uq _
 |d::ds=>by
  have ih:=j5 ds;have h:=QbD d;rw[List.filter_cons,ZI]
  split
  ·rw[uN,ZI];omega
  ·omega
theorem QbE(d:Wx):ZI (inr d)<szW d:=by
 cases d with
 |tup ds=>
  have:=j5 ds;show ZI ((ds.filter Q6).map inB)<_;rw[szW];omega
 |_=>show 0<_;exact Wc _
section
variable {P:Program}{w:World}{K:PySem.W.Frag}{mg:Str->Option Value}{base:Heap}{f:Addr}{fd:FuncData}{tk:Nat->Tok}{c kr:Nat->Addr}
theorem dv1(y:Ly):dvL [(false,y)]=[y.dv]:=by rw[dvL,dvL,dvI,if_neg (by decide)]
theorem sz1(y:Ly):szL [(false,y)]=y.sz:=by rw[szL,szL,szI,if_neg (by decide)];omega
theorem cn1(y:Ly):cnL [(false,y)]=y.cn:=by rw[cnL,cnL,cnI];omega
theorem dp1(y:Ly):dpL [(false,y)]=y.dp:=by rw[dpL,dpL,dpI];omega
theorem ok1{y:Ly}(h:y.okK):okL [(false,y)]:=by rw[okL,okL,okI];exact⟨h,trivial⟩
noncomputable def jc:Sp:=fun vs H Q _=>∃(v:V)(its:List (Bool × Ly)),vs=[v]/\Deep H v (.tup (dvL its))/\cnL its<=9000/\okL its/\dpL its<=99/\∀H',Qk H H'->Q (.bl (ovB 0 its)) H'
theorem KB(F:Fun K "overs_have_room" "overs_have_room" JX f fd)(mE:Def P w K mg base 8 "signs_in" ["layout"] qY):FnOk P w K mg base (CXE P w) 9 f fd ["items"] jc:=by
 refine Wu F Jj (fun vs H Q E h=>?_) (fun cdv A outer s H vs Q E hr h=>?_)
 ·obtain⟨v,its,rfl,_⟩:=h;rfl
 ·obtain⟨v,its,rfl,D,hc,hok,hdp,k⟩:=h;have hz:10000<=sizeLine:=by rw[sizeLine_eq];decide
  have ln:=V5 its;refine⟨_,(Qi (Qy (i:=1) Jj.nd rfl (Or.inl rfl) (Jt QA) rfl rfl)
   (Qi (Vh PassesOwn.never rfl (XJ (pv 0)) (Qm (i:=2) Jj.nd rfl (Or.inl rfl)) (Qs (Zd (Ql Kd (Qw Qt (pv 2) Qd (fun _ _=>rfl)) Qg (Qo _)) (Qs (Qy (i:=1) Jj.nd rfl (Or.inl rfl) (Jt (QF (PEx.mk (pv 2)) QA rfl)) rfl rfl)) (Qs (Zd (Ql KM (mE.pe hr (by decide) rfl Qu (Qz (QO (Qz (Qw Qt (pv 2) Qd (fun _ _=>rfl)) Qc)) Qc)) (mE.pe hr (by decide) rfl Qu (Qz (pv 1) Qc)) (Qo _)) (Qs (QG (PEx.mk ZQ))) JN)))) (fun _=>rfl))
   (Qs (QG (PEx.mk ZQ))))),?_⟩
  dsimp only[QH,JP,XX,QU];obtain⟨a,xs,rfl,g,t⟩:=Deep.Wy D;rw[Ju]at t;have lx:=t.length;rw[uk]at lx;refine⟨uQ _,fun p hp=>?_⟩;have S1:=Qk.new (o:=.tup []) hp;have D1:Deep (upd H p (.tup [])) (.ref p) (.tup (dvL [])):=.tup Qa (by rw[dvL];exact .nil);generalize upd H p (.tup [])=H1 at S1 D1;refine⟨_,rfl,a,rfl,⟨_,.inl (.inl (S1 _ _ g))⟩,?_⟩;refine Vg (yp (K:=K) (a:=a) (xs:=xs)) (fun j σ H4=>∃(uv:V)(un:List (Bool × Ly))(y2:Option V),σ=[some (.ref a),some uv,y2]/\Qk H H4/\Deep H4 uv (.tup (dvL un))/\cnL un<=10000/\okL un/\dpL un<=100/\ovB 0 its=ovB (szL un) (its.drop j)) ⟨_,[],none,rfl,S1,D1,by rw[cnL];omega,by rw[okL];trivial,by rw[dpL];omega,by rw[szL,List.drop_zero]⟩ ?_ ?_ ?_
  ·rintro j σ H4 _ ⟨uv,un,y2,rfl,S4,_,_,_,_,_⟩;exact .inl (.inl (S4 _ _ g))
  ·rintro j x σ H40 H4 hj ⟨uv,un,y2,rfl,S4,Du,hcu,hou,hdu,he⟩ ⟨rfl,hx⟩;obtain⟨d,hd,Dx⟩:=t.VI hx;rw[uE]at hd;cases eo:its[j]? with
   |none=>rw[eo]at hd;cases hd
   |some oy=>
    rw[eo]at hd;obtain rfl:=ur hd;have Dx:=Dx.same S4;obtain⟨q1,q2⟩:=Qaz eo;have hoky:=jY hok eo;have hdy:=K8 (uF eo);have hcy:cnI oy<=9000:=by
     have:=yJ eo;omega
    have hl:=(List.getElem?_eq_some_iff.mp eo).1;rw[List.drop_eq_getElem_cons hl,(List.getElem?_eq_some_iff.mp eo).2]at he;obtain⟨ov,y⟩:=oy;rw[cnI]at hcy;rw[okI]at hoky
    replace hdy:y.dp<=dpL its:=hdy
    rw[ovB]at he;cases ov with
    |true=>
     rw[if_pos rfl]at he;obtain⟨b,x2,rfl,gb,Dy⟩:=K9 Dx;refine⟨_,rfl,b,_,0,_,rfl,rfl,.inl gb,rfl,rfl,false,rfl,QN ?_⟩;refine⟨_,rfl,b,_,1,_,rfl,rfl,.inl gb,rfl,sL1,fun p5 hp5=>?_⟩;have S5:=Qk.new (o:=.tup [x2]) hp5;have D5:Deep (upd H4 p5 (.tup [x2])) (.ref p5) (.tup (dvL [(false,y)])):=by rw[dv1];exact .tup Qa (.cons (Dy.same S5) .nil)
     generalize upd H4 p5 (.tup [x2])=H5 at S5 D5;refine⟨_,[(false,y)],rfl,D5,by rw[cn1];omega,ok1 hoky,by rw[dp1];omega,fun H6 S6=>?_⟩;have S56:=S5.trans S6;refine⟨_,rfl,_,un,rfl,Du.same S56,hcu,hou,hdu,fun H7 S7=>?_⟩;have S57:=S56.trans S7;rw[sz1];refine⟨_,_,rfl,rfl,_,rfl,?_⟩;refine ifB (fun h1=>?_) (fun h1=>?_)
     ·have h1:=of_decide_eq_true h1;rw[um (show ¬ y.sz<=szL un by omega),Bool.false_and]at he;rw[he]at k;exact k _ (S4.trans S57)
     ·have h1:=of_decide_eq_false h1;rw[uo (show y.sz<=szL un by omega),Bool.true_and]at he;exact⟨_,un,_,rfl,S4.trans S57,Du.same S57,hcu,hou,hdu,he⟩
    |false=>
     rw[if_neg (by decide)]at he;rw[dvI,if_neg (by decide)]at Dx;obtain⟨b,ys,rfl,gb⟩:=Qby Dx;refine⟨_,rfl,b,_,0,_,rfl,rfl,.inl gb,QK (j:=0) rfl,rfl,true,by rw[Kt];rfl,QQ ?_⟩;refine⟨_,rfl,sL1,fun p5 hp5=>?_⟩;have S5:=Qk.new (o:=.tup [V.ref b]) hp5;exact⟨_,[(false,y)],_,rfl,S4.trans S5,by rw[dv1];exact .tup Qa (.cons (Dx.same S5) .nil),by rw[cn1];omega,ok1 hoky,by rw[dp1];omega,by rw[sz1];exact he⟩
  ·rintro σ H4 ⟨uv,un,y2,rfl,S4,_,_,_,_,he⟩;rw[List.drop_eq_nil_of_le (by omega),ovB]at he;rw[he]at k;exact k _ S4
end
structure LaSt(Hb H:Hp)(q l:Addr)(ls xs:List V)(lz st:List Wx):Prop where
 S:Qk Hb H
 f1:Hb q=none
 f2:Hb l=none
 ne:q≠l
 g1:H q=some (.lst ls)
 g2:H l=some (.lst xs)
 t1:Wss H ls lz
 t2:Wss H xs st
section
variable {Hb H H':Hp}{q l:Addr}{ls xs ys:List V}{lz st dz:List Wx}
theorem LaSt.same(B:LaSt Hb H q l ls xs lz st)(S:Qk H H'):LaSt Hb H' q l ls xs lz st:=⟨B.S.trans S,B.f1,B.f2,B.ne,S _ _ B.g1,S _ _ B.g2,B.t1.same S,B.t2.same S⟩
theorem LaSt.qQ(B:LaSt Hb H q l ls xs lz st)(t:Wss H ys dz):LaSt Hb (upd H q (.lst ys)) q l ys xs dz st:=⟨J1 B.S B.f1,B.f1,B.f2,B.ne,Qa,by rw[Qp (Ne.symm B.ne)];exact B.g2,t.X8 B.g1,B.t2.X8 B.g1⟩
theorem LaSt.put2(B:LaSt Hb H q l ls xs lz st)(t:Wss H ys dz):LaSt Hb (upd H l (.lst ys)) q l ls ys lz dz:=⟨J1 B.S B.f2,B.f1,B.f2,B.ne,by rw[Qp B.ne];exact B.g1,Qa,B.t1.X8 B.g2,t.X8 B.g2⟩
end
noncomputable def Glr(r:Bool)(st lz:List Wx):Prop:=(r=false/\∃x∈st,Bad x)\/∃sL dL:List (List (Bool × Ly)),st=sL.map wR/\lz=dL.map wR/\(∀i∈sL,Rows i)/\(∀i∈dL,cnL i<=9000/\okL i/\dpL i<=99)/\r=(dL.all (ovB 0)&&sL.all ovL)
theorem Glr.no{r:Bool}{st lz:List Wx}{e:Wx}(h:Glr r (st++[e]) lz)(he:Wb e=false):r=false:=by
 rcases h with⟨h,_⟩|⟨sL,dL,e1,e2,h1,h2,h3⟩
 ·exact h
 ·obtain⟨i,hi,rfl⟩:=List.mem_map.mp (show e∈sL.map wR by rw[←e1];exact ux _ uA);cases h1 i hi with
  |mk h c o dp t=>rw[h]at he;cases he
theorem Glr.go{r:Bool}{st lz:List Wx}{e:Wx}(h:Glr r (st++[e]) lz)(he:Wb e=true):Glr r (st++inr e) (lz++[e]):=by
 rcases h with⟨h,x,hx,hb⟩|⟨sL,dL,e1,e2,h1,h2,h3⟩
 ·refine .inl ⟨h,?_⟩;rcases List.mem_append.mp hx with hx|hx
  ·exact⟨x,uy _ hx,hb⟩
  ·obtain rfl:=List.mem_singleton.mp hx;cases hb with
   |row h=>rw[h]at he;cases he
   |@inn _ y h b=>exact⟨y,ux _ h,b⟩
 ·rcases List.eq_nil_or_concat sL with rfl|⟨s0,i,rfl⟩
  ·have:=congrArg List.length e1;rw[uj]at this;simp at this
  ·rw[List.concat_eq_append]at e1 h1 h3;rw[uH]at e1;have l0:st.length=(s0.map wR).length:=by
    have:=congrArg List.length e1;rw[uj,uj]at this;simpa using this
   obtain⟨ea,eb⟩:=List.append_inj e1 l0;obtain rfl:e=wR i:=by simpa using eb
   refine .inr ⟨s0++inn i,dL++[i],by rw[ea,uH,QaB],by rw[e2,uH];rfl,?_,?_,?_⟩
   ·intro j hj;rcases List.mem_append.mp hj with hj|hj
    ·exact h1 j (uy _ hj)
    ·cases h1 i (ux _ uA)with
     |mk h c o dp t=>exact t j hj
   ·intro j hj;rcases List.mem_append.mp hj with hj|hj
    ·exact h2 j hj
    ·obtain rfl:=List.mem_singleton.mp hj;cases h1 j (ux _ uA)with
     |mk h c o dp t=>exact⟨by omega,o,dp⟩
   ·rw[h3,List.all_append,List.all_append,List.all_append];simp only[List.all_cons,List.all_nil,Bool.and_true];rw[ovL,YM];cases dL.all (ovB 0)<;>cases s0.all ovL<;>cases ovB 0 i<;>rfl
theorem Glr.nil{r:Bool}{lz:List Wx}(h:Glr r [] lz):∃dL:List (List (Bool × Ly)),lz=dL.map wR/\(∀i∈dL,cnL i<=9000/\okL i/\dpL i<=99)/\r=dL.all (ovB 0):=by
 rcases h with⟨h,x,hx,hb⟩|⟨sL,dL,e1,e2,h1,h2,h3⟩
 ·cases hx
 ·cases sL with
  |nil=>exact⟨dL,e2,h2,by simpa using h3⟩
  |cons s sL=>cases e1
section
variable {P:Program}{w:World}{K:PySem.W.Frag}{mg:Str->Option Value}{base:Heap}{f:Addr}{fd:FuncData}{tk:Nat->Tok}{c kr:Nat->Addr}
theorem ta1{te:TE}{σ:L2.St}{H:Hp}{R:List V->Hp->Prop}(h:te σ H fun v H1=>R [v] H1):Ja te WO σ H R:=h
noncomputable def Qem(d:Wx)(r:Bool):Prop:=(r=false/\Bad d)\/∃its,d=wR its/\Rows its/\r=ovL its
theorem Qem.gl{d:Wx}{r:Bool}(h:Qem d r):Glr r [d] []:=by
 rcases h with⟨h1,h2⟩|⟨its,rfl,h1,h2⟩
 ·exact .inl ⟨h1,d,uA,h2⟩
 ·exact .inr ⟨[its],[],rfl,rfl,(fun i hi=>by rw[List.mem_singleton.mp hi];exact h1),(fun i hi=>nomatch hi),by rw[h2];simp⟩
theorem wl{H:Hp}{u:V}{d:Wx}(hid:QT d=true)(D:Ws H u (Kv d)):∃b w0 x1 x2 ys,u=.ref b/\H b=some (.tup (.str w0::x1::x2::ys))/\Q6 d= !(eqS w0 "box")/\(Q6 d=true->∃z,atI (.str w0::x1::x2::ys) (-1)=some z/\Ws H z (inB d)):=by
 obtain⟨w0,z,c,r,e,_,hb⟩:=Kw (Kx hid).1;rw[e]at D;obtain⟨b,ys,rfl,gb,tb⟩:=D.Wy;have en:Q6 d= !(eqS w0 "box"):=by rw[Q6,e];rfl
 cases tb with
 |@cons y1 _ ys _ h1 tb=>
  cases tb with
  |@cons y2 _ ys _ h2 tb=>
   cases tb with
   |@cons y3 _ ys _ h3 tb=>
    obtain rfl:=h1.Ud;refine⟨b,w0,y2,y3,ys,rfl,gb,en,fun hn=>?_⟩;rw[en]at hn;have hn:eqS w0 "box"=false:=by cases h:eqS w0 "box" with
     |true=>rw[h]at hn;cases hn
     |false=>rfl
    rw[inB,e];cases ht:eqS w0 "table" with
    |true=>
     rw[if_pos ht,Bool.and_eq_true]at hb;have hl:=of_decide_eq_true hb.1;cases r with
     |nil=>cases hl
     |cons r0 r=>
      cases r with
      |nil=>
       cases tb with
       |cons h4 tb=>
        cases tb;exact⟨_,rfl,h4⟩
      |cons r1 r=>simp at hl
    |false=>
     rw[if_neg (by rw[ht];decide),if_neg (by rw[hn];decide),Bool.and_eq_true]at hb;have hl:=of_decide_eq_true hb.1;cases r with
     |nil=>
      cases tb;exact⟨_,rfl,h3⟩
     |cons r1 r=>cases hl
noncomputable def YO:Sp:=fun vs H Q _=>∃(v:V)(d:Wx)(r:Bool),vs=[v]/\Ws H v d/\Args d/\szW d<=9000/\Qem d r/\∀H',Qk H H'->Q (.bl r) H'
set_option maxHeartbeats 2000000 in
theorem UX(F:Fun K "is_layout" "is_layout" X4 f fd)(O:Own mg)(OA:mg "all"=none)(gG:Def P w K mg base 9 "is_row_of_items" ["thing"] QbB)(nX:Def P w K mg base 1 "bare" ["item"] Vn)(gH:Def P w K mg base 9 "overs_have_room" ["items"] jc):FnOk P w K mg base (CXE P w) 10 f fd ["thing"] YO:=by
 refine Wu F Zz (fun vs H Q E h=>?_) (fun cdv A outer s H vs Q E hr h=>?_)
 ·obtain⟨v,d,r,rfl,_⟩:=h;rfl
 ·obtain⟨v,d,r,rfl,D,hA,hsz,hL,k⟩:=h;have hz:100000<=sizeLine:=by rw[sizeLine_eq];decide
  refine⟨_,(Qi (Qy (i:=1) Zz.nd rfl (Or.inl rfl) (JF QA) rfl rfl)
   (Qi (Qy (i:=2) Zz.nd rfl (Or.inl rfl) (JF (QF (PEx.mk (pv 0)) QA rfl)) rfl rfl)
   (Qi (PSy.mk (Zf PassesOwn.never (Ji (pv 2) (fun _=>rfl)) (Qe (QE (i:=3) Zz.nd rfl (Or.inl rfl) (Uo plainAttrs_list slot_list_pop type_list_pop Uq (pv 2)))
   (Qe (Jh (Z5 (Zp (gG.pe hr (by decide) rfl Qu (Qz (pv 3) Qc)))) (Qh (QD ZQ)) QI)
   (Qe (Jw (JQ plainAttrs_list PySem.F.slot_list_append PySem.F.type_list_append Jm (pv 1) (Qz (pv 3) Qc)))
   (Qh (Jw (JQ plainAttrs_list slot_list_extend type_list_extend Up (pv 2) (Qz (Jo (NB:=[".0","item"]) rfl ⟨rfl,by decide+kernel,by decide+kernel,by decide+kernel⟩ (XJ (pv 3)) (fun _ _ _=>(Qm (i:=1) (show([".0","item"]:List Str).Nodup by decide+kernel) rfl (Or.inl rfl))) (fun _ _ _=>(qz (Ql Kd (Qw Qt (nX.pe hr (by decide) rfl Qu (Qz (pv 1) Qc)) Qd (fun _ _=>rfl)) Qg (Qo _)))) (fun _ _ _=>(Qw Qt (nX.pe hr (by decide) rfl Qu (Qz (pv 1) Qc)) (KL ZL Qd) (fun _ _=>rfl)))) Qc)))))))))
   (Qs (QG (PEx.mk (Qj (jV rfl) rfl OA PyProof.Rows.boot_all (Qz (Jo (NB:=[".0","items"]) rfl ⟨rfl,by decide+kernel,by decide+kernel,by decide+kernel⟩ (Zb (pv 1)) (fun _ _ _=>(Qm (i:=1) (show([".0","items"]:List Str).Nodup by decide+kernel) rfl (Or.inl rfl))) (fun _ _ _=>Jx) (fun _ _ _=>(gH.pe hr (by decide) rfl Qu (Qz (pv 1) Qc)))) Qc)))))))),?_⟩
  dsimp only[QH,JP,XX,QU];refine⟨uQ _,fun ly hly=>⟨_,rfl,sL1,fun lf hlf=>?_⟩⟩;have B1:LaSt H (upd (upd H ly (.lst [])) lf (.lst [v])) ly lf [] [v] [] [d]:=by
   have S1:=Qk.new (o:=.lst []) hly;have S2:=Qk.new (o:=.lst [v]) hlf;have hf2:H lf=none:=by
    cases e:H lf with
    |none=>rfl
    |some o=>rw[S1 _ _ e]at hlf;cases hlf
   have hne:ly≠lf:=fun z=>by rw[←z,Qa]at hlf;cases hlf
   exact⟨S1.trans S2,hly,hf2,hne,S2 _ _ Qa,Qa,.nil,.cons (D.same (S1.trans S2)) .nil⟩
  generalize upd (upd H ly (.lst [])) lf (.lst [v])=H1 at B1;clear hlf hly;refine⟨fun m σ H2=>∃(ls xs:List V)(lz st:List Wx)(y3:Option V),σ=[some v,some (.ref ly),some (.ref lf),y3]/\LaSt H H2 ly lf ls xs lz st/\ZI st<=m/\ls.length+m<=20000/\(∀x∈st,Args x)/\Glr r st lz,⟨20000,_,_,_,_,none,rfl,B1,by rw[ZI,ZI];omega,uq _,fun x hx=>by rw[List.mem_singleton.mp hx];exact hA,hL.gl⟩,?_⟩;clear B1 hA hL;rintro m σ H2 ⟨ls,xs,lz,st,y3,rfl,B,hs,hm,hAs,hG⟩;have lxs:=B.t2.length;have lls:=B.t1.length;have lst:=KA st;rcases List.eq_nil_or_concat st with rfl|⟨st0,e,rfl⟩
  ·have e:xs=[]:=List.eq_nil_of_length_eq_zero (by simpa using lxs);subst e;refine⟨_,rfl,false,.inl ⟨_,.inl (.inl B.g2),rfl⟩,QN ?_⟩;obtain⟨dL,rfl,hdL,hr2⟩:=hG.nil;dsimp only[QH,JP,XX,QU,QaZ];refine cb1 ?_;rw[uk]at lls;refine Ko (Qdz (K:=K) (a:=ly) (xs:=ls)) (fun i vs H1=>Qk H2 H1/\vs=((dL.take i).map (ovB 0)).map V.bl) (fun R h=>⟨_,rfl,ly,rfl,⟨_,.inl (.inl B.g1)⟩,h _ ⟨Qk.refl _,rfl⟩⟩) ?_ ?_ ?_ (by omega)
   ·rintro i vs H3 hi ⟨S,rfl⟩;refine⟨.inl (.inl (S _ _ B.g1)),?_⟩;rw[uk,uk,uB];omega
   ·rintro i v vs H3 H4 hi ⟨S,rfl⟩ ⟨rfl,hv⟩;obtain⟨d,hd,Dd⟩:=B.t1.VI hv;rw[uE]at hd;cases ei:dL[i]? with
    |none=>rw[ei]at hd;cases hd
    |some i0=>
     rw[ei]at hd;obtain rfl:=ur hd;obtain⟨h1,h2,h3⟩:=hdL i0 (uF ei);rw[wj]at Dd;refine⟨_,rfl,v,i0,rfl,(Ws.deep Dd).same S,h1,h2,h3,fun H5 S5=>⟨S.trans S5,?_⟩⟩;rw[List.take_add_one,ei];simp
   rintro vs H3 ⟨S1,rfl⟩ p hp;rw[List.take_of_length_le (by omega)];refine⟨p,_,rfl,.inl (.inl Qa),?_⟩;have ea:(dL.map (ovB 0)).all id=r:=by rw[List.all_map,hr2];rfl
   rw[ea];exact k _ ((B.S.trans S1).trans (Qk.new hp))
  rw[List.concat_eq_append]at B hs lxs lst hAs hG;obtain⟨xs0,xl,rfl,t1,Dl⟩:∃xs0 xl,xs=xs0++[xl]/\Wss H2 xs0 st0/\Ws H2 xl e:=by
   rcases List.eq_nil_or_concat xs with rfl|⟨xs0,xl,rfl⟩
   ·simp at lxs
   ·rw[List.concat_eq_append]at B ⊢;have l0:xs0.length=st0.length:=by
     have:=B.t2.length;rw[uj,uj]at this;simpa using this
    have ht:=B.t2.take xs0.length;have hd:=B.t2.drop xs0.length;rw[List.take_left' rfl,l0,List.take_left' rfl]at ht;rw[List.drop_left' rfl,l0,List.drop_left' rfl]at hd;cases hd with
    |cons h t=>exact⟨xs0,xl,rfl,ht,h⟩
  have hAe:Args e:=hAs _ (ux _ uA);have hA0:∀x∈st0,Args x:=fun x hx=>hAs _ (uy _ hx);rw[XD,ZI,ZI]at hs;refine⟨_,rfl,true,.inl ⟨_,.inl (.inl B.g2),by simp⟩,QQ ?_⟩;refine⟨fun σ' H'=>∃m',m'<m/\∃(ls xs:List V)(lz st:List Wx)(y3:Option V),σ'=[some v,some (.ref ly),some (.ref lf),y3]/\LaSt H H' ly lf ls xs lz st/\ZI st<=m'/\ls.length+m'<=20000/\(∀x∈st,Args x)/\Glr r st lz,fun _ _ h=>h,?_⟩;refine⟨_,rfl,.inl ⟨rfl,_,.inl (.inl B.g2)⟩,?_⟩;refine⟨lf,_,xl,rfl,rfl,B.g2,by simp,?_⟩;have B3:LaSt H (upd H2 lf (.lst (xs0++[xl]).dropLast)) ly lf ls xs0 lz st0:=by
   rw[List.dropLast_concat];exact B.put2 t1
  have Dl3:=Dl.X8 (ys:=(xs0++[xl]).dropLast) B.g2;generalize upd H2 lf (.lst (xs0++[xl]).dropLast)=H3 at B3 Dl3;clear B Dl t1 lxs;dsimp only[QH,JP,XX,QU];refine⟨_,rfl,xl,e,rfl,Dl3,hAe.here,fun H4 S4=>⟨_,rfl,?_⟩⟩;have B4:=B3.same S4;have D4:=Dl3.same S4;cases he:Wb e with
  |false=>
   have:=hG.no he;subst this;exact QQ (k _ B4.S)
  |true=>
   have hG2:=hG.go he;have hAi:=hAe.inr he;have hpos:=Wc e;have hin:=QbE e;refine QN ?_;refine⟨_,rfl,.inl ⟨rfl,_,.inl (.inl B4.g1)⟩,⟨_,rfl,ly,ls,xl,rfl,rfl,B4.g1,by omega,?_⟩⟩;have B5:=B4.qQ (ys:=ls++[xl]) (dz:=lz++[e]) (B4.t1.append (.cons D4 .nil));have D5:=D4.X8 (ys:=ls++[xl]) B4.g1;generalize upd H4 ly (.lst (ls++[xl]))=H5 at B5 D5;refine⟨_,rfl,.inl ⟨rfl,_,.inl (.inl B5.g2)⟩,?_⟩;cases D5 with
   |non=>cases he
   |bl=>cases he
   |int=>cases he
   |str=>cases he
   |lst g=>cases he
   |@tup ea ex es g t=>
    have hit:∀x∈es,QT x=true:=by
     cases es with
     |nil=>cases he
     |cons d0 ds=>
      have he:((d0::ds).all QT&&unlike ((d0::ds).map nmB))=true:=he;rw[Bool.and_eq_true]at he;exact fun x hx=>List.all_eq_true.mp he.1 x hx
    have lex:=t.length;have les:=KA es;have hse:szW (.tup es)=1+ZI es:=by rw[szW]
    refine ta1 ?_;refine Ko (yp (K:=K) (a:=ea) (xs:=ex)) (fun i vs H1=>Qk H5 H1/\Wss H1 vs (((es.take i).filter Q6).map inB)) (fun R h=>⟨_,rfl,ea,rfl,⟨_,.inl (.inl g)⟩,h _ ⟨Qk.refl _,.nil⟩⟩) ?_ ?_ ?_ (by omega)
    ·rintro i vs H6 hi ⟨S,tt⟩;refine⟨.inl (.inl (S _ _ g)),?_⟩;have:=tt.length;rw[uk]at this;have:=List.length_filter_le Q6 (es.take i);rw[uB]at this;omega
    ·rintro i x vs H6 H7 hi ⟨S,tt⟩ ⟨rfl,hv⟩;obtain⟨d,hd,Dd⟩:=t.VI hv;have hid:=hit d (uF hd);have Dd:=Dd.same S;refine⟨_,rfl,x,d,rfl,Dd,hid,fun u Du=>?_⟩;obtain⟨b,w0,x1,x2,ys,rfl,gb,en,hlast⟩:=wl hid Du;refine⟨b,_,0,_,rfl,rfl,.inl gb,QK (j:=0) rfl,rfl,Q6 d,congrArg V.bl en.symm,?_⟩;rw[List.take_add_one,hd];cases hn:Q6 d with
     |true=>
      refine QQ ⟨_,rfl,x,d,rfl,Dd,hid,fun u2 Du2=>?_⟩;obtain⟨b2,w2,x21,x22,ys2,rfl,gb2,_,hlast2⟩:=wl hid Du2;obtain⟨z,hz1,hz2⟩:=hlast2 hn;refine⟨_,rfl,b2,_,_,_,rfl,rfl,.inl gb2,hz1,S,?_⟩;have ef:(es.take i++(some d).toList).filter Q6=(es.take i).filter Q6++[d]:=by rw[List.filter_append];simp[hn]
      rw[ef,uH];exact tt.append (.cons hz2 .nil)
     |false=>
      refine QN ⟨S,?_⟩;have ef:(es.take i++(some d).toList).filter Q6=(es.take i).filter Q6:=by rw[List.filter_append];simp[hn]
      rw[ef];exact tt
    rintro vs H6 ⟨S6,t6⟩ q1 hq1;rw[List.take_of_length_le (by omega)]at t6;have S7:=Qk.new (o:=.lst vs) hq1;have B7:=(B5.same S6).same S7;have t7:=t6.same S7;have g7:upd H6 q1 (.lst vs) q1=some (.lst vs):=Qa;generalize upd H6 q1 (.lst vs)=H7 at B7 t7 g7;have lvs:=t7.length;have hinr:inr (.tup es)=(es.filter Q6).map inB:=rfl;rw[←hinr]at t7 lvs;have l2:=KA (inr (.tup es));have lx0:=B7.t2.length;have ls0:=KA st0;refine⟨lf,q1,xs0,vs,rfl,rfl,B7.g2,g7,by omega,?_⟩;refine⟨m-1,by omega,ls++[.ref ea],xs0++vs,_,_,_,rfl,B7.put2 (B7.t2.append t7),?_,?_,?_,hG2⟩
    ·rw[XD];omega
    ·rw[uj];show ls.length+1+(m-1)<=20000;omega
    ·intro x hx;rcases List.mem_append.mp hx with hx|hx
     ·exact hA0 x hx
     ·exact hAi x hx
end
open PySem PySem.Spec PyProof.Rows L2 K02
section
variable {P:Program}{w:World}{K:PySem.W.Frag}{mg:Str->Option Value}{base:Heap}{f:Addr}{fd:FuncData}{tk:Nat->Tok}{c kr:Nat->Addr}
theorem YQ{H:Hp}{a:Addr}{ns:List Int}(h:SqL K H a (ns.map V.int)):QdP K (.ref a) H (!ns.isEmpty):=.inl ⟨_,h,by cases ns<;>rfl⟩
theorem UY(F:Fun K "_law_draw" "_law_draw" X7 f fd)(O:Own mg):FnOk P w K mg base (CXE P w) 1 f fd ["_law_script","_law_town","_law_many"] (WW K):=by
 refine okN F J8 (fun vs H Q E h=>?_) (fun cdv A outer s H vs Q E hr h=>?_)
 ·obtain⟨a,t,r,ns,c,many,rs,rfl,_⟩:=h;rfl
 ·obtain⟨a,t,r,ns,c,many,rs,rfl,hS,T,nat,nar,hl,hc,hm0,hm1,k⟩:=h;have hu:=QcB hr;have T1:TownAt (upd H t (.dK [(Sum.inr "count",.int (c+1)),(Sum.inr "rests",.ref r)])) t r (c+1) rs:=⟨Qa,by rw[Qp T.ne.symm];exact T.rt,T.vs,by have:=T.c0;omega,by have:=T.ln;omega,T.ne⟩;have hS1:=hS.upd (o:=.dK [(Sum.inr "count",.int (c+1)),(Sum.inr "rests",.ref r)]) nat;have A1:Apart t r H (upd H t (.dK [(Sum.inr "count",.int (c+1)),(Sum.inr "rests",.ref r)])):=fun b o e n1 n2=>by rw[Qp n1];exact e
  refine⟨_,(Qe (xV hu (pv 1) Qg (QP Jd (KO hu (pv 1) Qg (fun _ _=>rfl)) Qd) rfl)
   (Qe (QE (i:=3) J8.nd rfl (Or.inl rfl) (Ze (Ji (pv 0) (fun _=>rfl)) (QP VQ (KO hu (pv 1) Qg (fun _ _=>rfl)) (Qj Qr rfl O.len PySem.boot_len (Qb (pv 0) Qc))) Qd))
   (Qe (QE (i:=4) J8.nd rfl (Or.inl rfl) (vM hu (KO hu (pv 1) Qg (fun _ _=>rfl)) (pv 3) (Ze (Ji (pv 0) (fun _=>rfl)) (Qw Q0 (pv 0) (pv 3) (fun _ _=>rfl)) Qd) ⟨rfl,rfl,rfl,rfl⟩))
   (Qe (Jh (Ql vF (pv 4) (QP Qal Qd Qd) (Qo _)) (Qe (xV hu (KO hu (pv 1) Qg (fun _ _=>rfl)) (pv 3) (QP Yd (pv 4) (pv 2)) rfl)
   (Qh (QD (QP VQ (pv 4) (pv 2))))) QI)
   (Qe (QE (i:=5) J8.nd rfl (Or.inl rfl) (QP VQ (QP Jd (pv 4) (QP jE Qd (KO hu (pv 1) Qg (fun _ _=>rfl)))) Qd))
   (Qe (QE (i:=5) J8.nd rfl (Or.inl rfl) (QP VQ (QP Qal (pv 5) Qd) Qd))
   (Qh (QD (QP VQ (QP Yd (QP VQ (QP Jd (QP jE (QP Yd (pv 5) Qd) Qd) (pv 5)) Qd) Qd) (pv 2)))))))))),?_⟩
  refine⟨_,rfl,t,_,rfl,Xw T.tw,_,_,rfl,rfl,_,rfl,t,_,rfl,zP _ T.tw,?_⟩;refine⟨_,rfl,_,YQ hS1,?_⟩;refine ifB (fun hz=>?_) (fun hz=>?_)
  ·have hp:0<ns.length:=by cases ns with|nil=>cases hz|cons a r=>exact Nat.succ_pos _
   have hp':(0:Int)<((ns.map V.int).length:Int):=by rw[uk];omega
   refine⟨_,rfl,t,_,rfl,Xw T1.tw,_,rfl,a,_,rfl,.inl hS1,_,_,rfl,rfl,hp',?_⟩;have m1:=Int.emod_nonneg (c+1) (Int.ne_of_gt hp');have m2:=Int.emod_lt_of_pos (c+1) hp';obtain⟨j,hj⟩:=Int.eq_ofNat_of_zero_le m1;have hjl:j<ns.length:=by rw[hj,uk]at m2;omega
   refine⟨_,rfl,t,_,rfl,Xx T1.tw,r,rfl,.inl ⟨rs,.inl T1.rt⟩,_,rfl,_,rfl,_,YQ hS1,?_⟩;rw[hz];refine QQ ⟨_,rfl,_,rfl,a,_,_,V.int ns[j],rfl,rfl,hS1,?_,_,jJ.k (k:=Sum.inl ((c+1) % ((ns.map V.int).length:Int))) T1.rt,?_⟩
   ·show atI (ns.map V.int) ((c+1) % ((ns.map V.int).length:Int))=_;rw[hj];refine QK ?_;rw[uE,List.getElem?_eq_getElem hjl];rfl
   obtain⟨z,hz⟩:=Uy T1.vs ((c+1) % ((ns.map V.int).length:Int)) (ns[j]);rw[hz];refine⟨_,rfl,_,_,rfl,rfl,⟨by decide,by decide,by decide⟩,_,_,rfl,rfl,_,rfl,?_⟩;refine ifB (fun g=>?_) (fun g=>?_)
   ·have P2:=Uz T1.vs ((c+1) % ((ns.map V.int).length:Int)) (z/many);refine⟨_,rfl,_,rfl,_,_,rfl,rfl,⟨hm0,by omega⟩,_,rfl,t,_,rfl,Xx T1.tw,_,rfl,r,_,rfl,Qaq.k (k:=Sum.inl ((c+1) % ((ns.map V.int).length:Int))) T1.rt (Nat.lt_of_lt_of_le (m:=100001) (by have:=T.ln;omega) (by decide)),?_⟩;refine⟨_,rfl,_,rfl,_,_,rfl,rfl,hm0,?_⟩;refine k _ (putK rs (Sum.inl ((c+1) % ((ns.map V.int).length:Int))) (.int (z/many))) _ (Int.emod_nonneg _ (Int.ne_of_gt hm0)) (Int.emod_lt_of_pos _ hm0) ⟨?_,Qa,P2.1,T1.c0,?_,T.ne⟩ (A1.trans fun b o e n1 n2=>by rw[Qp n2];exact e)
    ·rw[Qp T.ne];exact T1.tw
    ·have:=P2.2;have:=T.ln;omega
   ·refine⟨_,rfl,_,rfl,t,_,rfl,Xw T1.tw,_,_,rfl,rfl,.inl ⟨by decide,by decide⟩,_,_,rfl,rfl,_,_,rfl,rfl,(show(0:Int)<4294967291 by decide),?_⟩;have n1:=Int.emod_nonneg (z+104729*(c+1)) (show(4294967291:Int)≠0 by decide);have n2:=Int.emod_lt_of_pos (z+104729*(c+1)) (show(0:Int)<4294967291 by decide);refine⟨_,rfl,_,_,rfl,rfl,⟨by decide,by decide,by show Int.natAbs _<2^64;omega⟩,_,_,rfl,rfl,(show(0:Int)<4294967279 by decide),?_⟩;refine⟨_,rfl,_,_,rfl,rfl,⟨by decide,by decide⟩,_,_,rfl,rfl,.inr ⟨by decide,by decide⟩,_,rfl,_,_,rfl,rfl,_,_,rfl,rfl,(show(0:Int)<4294967231 by decide),_,_,rfl,rfl,⟨by decide,by decide⟩,_,rfl,_,_,rfl,rfl,hm0,?_⟩;exact k _ rs _ (Int.emod_nonneg _ (Int.ne_of_gt hm0)) (Int.emod_lt_of_pos _ hm0) T1 A1
  ·refine⟨_,rfl,t,_,rfl,Xx T1.tw,r,rfl,.inl ⟨rs,.inl T1.rt⟩,_,rfl,_,rfl,_,YQ hS1,?_⟩;rw[hz];refine QN ⟨_,jJ.k (k:=Sum.inl (0:Int)) T1.rt,?_⟩;obtain⟨z,hz⟩:=Uy T1.vs ((0:Int)) (0);rw[hz];refine⟨_,rfl,_,_,rfl,rfl,⟨by decide,by decide,by decide⟩,_,_,rfl,rfl,_,rfl,?_⟩;refine ifB (fun g=>?_) (fun g=>?_)
   ·have P2:=Uz T1.vs ((0:Int)) (z/many);refine⟨_,rfl,_,rfl,_,_,rfl,rfl,⟨hm0,by omega⟩,_,rfl,t,_,rfl,Xx T1.tw,_,rfl,r,_,rfl,Qaq.k (k:=Sum.inl ((0:Int))) T1.rt (Nat.lt_of_lt_of_le (m:=100001) (by have:=T.ln;omega) (by decide)),?_⟩;refine⟨_,rfl,_,rfl,_,_,rfl,rfl,hm0,?_⟩;refine k _ (putK rs (Sum.inl ((0:Int))) (.int (z/many))) _ (Int.emod_nonneg _ (Int.ne_of_gt hm0)) (Int.emod_lt_of_pos _ hm0) ⟨?_,Qa,P2.1,T1.c0,?_,T.ne⟩ (A1.trans fun b o e n1 n2=>by rw[Qp n2];exact e)
    ·rw[Qp T.ne];exact T1.tw
    ·have:=P2.2;have:=T.ln;omega
   ·refine⟨_,rfl,_,rfl,t,_,rfl,Xw T1.tw,_,_,rfl,rfl,.inl ⟨by decide,by decide⟩,_,_,rfl,rfl,_,_,rfl,rfl,(show(0:Int)<4294967291 by decide),?_⟩;have n1:=Int.emod_nonneg (z+104729*(c+1)) (show(4294967291:Int)≠0 by decide);have n2:=Int.emod_lt_of_pos (z+104729*(c+1)) (show(0:Int)<4294967291 by decide);refine⟨_,rfl,_,_,rfl,rfl,⟨by decide,by decide,by show Int.natAbs _<2^64;omega⟩,_,_,rfl,rfl,(show(0:Int)<4294967279 by decide),?_⟩;refine⟨_,rfl,_,_,rfl,rfl,⟨by decide,by decide⟩,_,_,rfl,rfl,.inr ⟨by decide,by decide⟩,_,rfl,_,_,rfl,rfl,_,_,rfl,rfl,(show(0:Int)<4294967231 by decide),_,_,rfl,rfl,⟨by decide,by decide⟩,_,rfl,_,_,rfl,rfl,hm0,?_⟩;exact k _ rs _ (Int.emod_nonneg _ (Int.ne_of_gt hm0)) (Int.emod_lt_of_pos _ hm0) T1 A1
theorem YR(F:Fun K "_law_begun" "_law_begun" Xo f fd):FnOk P w K mg base (CXE P w) 1 f fd [] qy:=by
 refine Wu F Yv (fun vs H Q E h=>?_) (fun cdv A outer s H vs Q E hr h=>?_)
 ·obtain⟨rfl,_⟩:=h;rfl
 ·obtain⟨rfl,k⟩:=h;refine⟨_,zO,?_⟩;intro p hp d hd;have npd:d≠p:=fun z=>by rw[z,Qa]at hd;cases hd
  have hd0:H d=none:=by rw[Qp npd]at hd;exact hd
  refine⟨by rw[Qp npd.symm,Qa],[(Sum.inr "count",.int 0),(Sum.inr "rests",.ref d)],rfl,Nat.le_of_ble_eq_true rfl,?_⟩;have e:Kg [] [((Sum.inr "count":Key),V.int 0),((Sum.inr "rests":Key),V.ref d)]=[((Sum.inr "count":Key),V.int 0),((Sum.inr "rests":Key),V.ref d)]:=by
   have h:¬ ((Sum.inr "count":Key)=(Sum.inr "rests":Key)):=ka;unfold Kg putK;simp[h]
  rw[e];refine k p d _ hp hd0 ⟨Qa,by rw[Qp npd,Qa],(fun kv hm=>nomatch hm),by decide,by decide,npd.symm⟩ fun b o z=>?_;rw[Qp (Qv z hp),Qp (Qv z hd0),Qp (Qv z hp)];exact z
end
structure Kind(K:PySem.W.Frag)(c:Nat->Addr)(i:Nat):Prop where
 lo:1<=i
 hi:i<=14
 er:ErrK K (c i)
 ki:∀j,j<14->kitOne K (.ref (c i)) (.ref (c (j+1)))=some (decide (j+1=i))
 va:kitOne K (.ref (c i)) (.type "ValueError")=some true
 bo:exmOne K (.ref (c i)) (.ref (c 0))=some true
noncomputable def j6(i:Nat):Str:=(["no picture","no room","no quotient","no text","no figures","no letters","no move","no path","no amount","no group","bad size","no back","bad row","closed"]:List Str).getD (i-1) ""
noncomputable def kinds(i:Nat):List V:=[.bl (decide (0+1=i)),.bl (decide (1+1=i)),.bl (decide (2+1=i)),.bl (decide (3+1=i)),.bl (decide (4+1=i)),.bl (decide (5+1=i)),.bl (decide (6+1=i)),.bl (decide (7+1=i)),.bl (decide (8+1=i)),.bl (decide (9+1=i)),.bl (decide (10+1=i)),.bl (decide (11+1=i)),.bl (decide (12+1=i)),.bl (decide (13+1=i))]
theorem jd:∀i,i<15->1<=i->(kinds i).countP (fun z=>eqV z (.bl true))=1:=by decide
theorem yO:∀i,i<15->1<=i->(kinds i)[i-1]? =some (.bl true):=by decide
theorem yP:∀i,i<15->1<=i->∀j,j<i-1->(kinds i)[j]? =some (.bl false):=by decide
theorem V8(i:Nat):(kinds i).all Z9=true:=rfl
noncomputable def nms:List V:=[.str "no picture",.str "no room",.str "no quotient",.str "no text",.str "no figures",.str "no letters",.str "no move",.str "no path",.str "no amount",.str "no group",.str "bad size",.str "no back",.str "bad row",.str "closed"]
theorem QcY:∀i,i<15->1<=i->nms[i-1]? =some (.str (j6 i)):=by decide
noncomputable def Vp(K:PySem.W.Frag)(c:Nat->Addr):Sp:=fun vs H Q _=>∃(a:Addr)(i:Nat),vs=[.ref a]/\H a=some (zJ a (.ref (c i)))/\Kind K c i/\∀H',Qk H H'->Q (.str (j6 i)) H'
section
variable {P:Program}{w:World}{K:PySem.W.Frag}{mg:Str->Option Value}{base:Heap}{f:Addr}{fd:FuncData}{tk:Nat->Tok}{c kr:Nat->Addr}
set_option maxHeartbeats 8000000 in
theorem YS(F:Fun K "_law_class" "_law_class" Xp f fd)(O:Own mg)(T:Txt K mg tk c kr):FnOk P w K mg base (CXE P w) 1 f fd ["_law_kept"] (Vp K c):=by
 refine okN F Jc (fun vs H Q E h=>?_) (fun cdv A outer s H vs Q E hr h=>?_)
 ·obtain⟨a,i,rfl,_⟩:=h;rfl
 ·obtain⟨a,i,rfl,hH,G,k⟩:=h;have isi:∀(H1:Hp)(j:Nat),Qk H H1->j<14->(∃t,TyOf K H1 (.ref a) t/\kitOne K t (Qbd (.ref (c (j+1))))=some (decide (j+1=i)))\/∃b C,V.ref a=.ref b/\H1 b=some (zJ b (.ref C))/\ErrK K C/\kitOne K (.ref C) (Qbd (.ref (c (j+1))))=some (decide (j+1=i)):=
   fun H1 j e hj=>.inr ⟨a,c i,rfl,e _ _ hH,G.er,G.ki j hj⟩
  refine⟨_,(Qe (QE (i:=1) Jc.nd rfl (Or.inl rfl) (Zw (Qb (Qj QL rfl O.isi PyProof.Rows.boot_isinstance (Qb (pv 0) (Qb (QB (v:=V.ref (c 1)) rfl T.pD rfl) Qc))) (Qb (Qj QL rfl O.isi PyProof.Rows.boot_isinstance (Qb (pv 0) (Qb (QB (v:=V.ref (c 2)) rfl T.rl rfl) Qc))) (Qb (Qj QL rfl O.isi PyProof.Rows.boot_isinstance (Qb (pv 0) (Qb (QB (v:=V.ref (c 3)) rfl T.pH rfl) Qc))) Qc)))))
   (Qe (QE (i:=1) Jc.nd rfl (Or.inl rfl) (QP Xg (pv 1) (Zw (Qb (Qj QL rfl O.isi PyProof.Rows.boot_isinstance (Qb (pv 0) (Qb (QB (v:=V.ref (c 4)) rfl T.pM rfl) Qc))) (Qb (Qj QL rfl O.isi PyProof.Rows.boot_isinstance (Qb (pv 0) (Qb (QB (v:=V.ref (c 5)) rfl T.pN rfl) Qc))) (Qb (Qj QL rfl O.isi PyProof.Rows.boot_isinstance (Qb (pv 0) (Qb (QB (v:=V.ref (c 6)) rfl T.pO rfl) Qc))) Qc))))))
   (Qe (QE (i:=1) Jc.nd rfl (Or.inl rfl) (QP Xg (pv 1) (Zw (Qb (Qj QL rfl O.isi PyProof.Rows.boot_isinstance (Qb (pv 0) (Qb (QB (v:=V.ref (c 7)) rfl T.rm rfl) Qc))) (Qb (Qj QL rfl O.isi PyProof.Rows.boot_isinstance (Qb (pv 0) (Qb (QB (v:=V.ref (c 8)) rfl T.rn rfl) Qc))) (Qb (Qj QL rfl O.isi PyProof.Rows.boot_isinstance (Qb (pv 0) (Qb (QB (v:=V.ref (c 9)) rfl T.pT rfl) Qc))) Qc))))))
   (Qe (QE (i:=1) Jc.nd rfl (Or.inl rfl) (QP Xg (pv 1) (Zw (Qb (Qj QL rfl O.isi PyProof.Rows.boot_isinstance (Qb (pv 0) (Qb (QB (v:=V.ref (c 10)) rfl T.rh rfl) Qc))) (Qb (Qj QL rfl O.isi PyProof.Rows.boot_isinstance (Qb (pv 0) (Qb (QB (v:=V.ref (c 11)) rfl T.rj rfl) Qc))) (Qb (Qj QL rfl O.isi PyProof.Rows.boot_isinstance (Qb (pv 0) (Qb (QB (v:=V.ref (c 12)) rfl T.rp rfl) Qc))) Qc))))))
   (Qe (QE (i:=1) Jc.nd rfl (Or.inl rfl) (QP Xg (pv 1) (Zw (Qb (Qj QL rfl O.isi PyProof.Rows.boot_isinstance (Qb (pv 0) (Qb (QB (v:=V.ref (c 13)) rfl T.rq rfl) Qc))) (Qb (Qj QL rfl O.isi PyProof.Rows.boot_isinstance (Qb (pv 0) (Qb (QB (v:=V.ref (c 14)) rfl T.rA rfl) Qc))) Qc)))))
   (Qe (Jh (PW.pt (ZS (Ql Kd (JQ plainAttrs_list slot_list_count type_list_count vR (pv 1) (Qb ZQ Qc)) Qd (Qo _)) (J3 (Z5 (Zp (Qj QL rfl O.isi PyProof.Rows.boot_isinstance (Qb (pv 0) (Qb (ZR (v:=V.ty "ValueError") rfl O.val PyProof.Rows.Boot.«ValueError» rfl) Qc)))))))) (Qh (QD Qg)) QI)
   (Qe (QE (i:=2) Jc.nd rfl (Or.inl rfl) (Zw (Qb Qg (Qb Qg (Qb Qg (Qb Qg (Qb Qg (Qb Qg (Qb Qg (Qb Qg Qc))))))))))
   (Qh (QD (Qw Q0 (QP Xg (pv 2) (Zw (Qb Qg (Qb Qg (Qb Qg (Qb Qg (Qb Qg (Qb Qg Qc)))))))) (JQ plainAttrs_list slot_list_index type_list_index vS (pv 1) (Qb ZQ Qc)) (fun _ _=>rfl))))))))))),?_⟩
  have e0:=Qk.refl H;refine⟨_,rfl,_,_,_,rfl,rfl,isi _ 0 e0 (by decide),_,rfl,_,_,_,rfl,rfl,isi _ 1 e0 (by decide),_,rfl,_,_,_,rfl,rfl,isi _ 2 e0 (by decide),by show 3<=sizeLine;decide,fun p1 h1=>?_⟩;generalize hG:upd H p1 _=H1;have e1:Qk H H1:=by rw[←hG];exact Qk.new h1
  have g1:H1 p1=some (.lst [.bl (decide (0+1=i)),.bl (decide (1+1=i)),.bl (decide (2+1=i))]):=by rw[←hG];exact Qa
  clear hG h1;refine⟨_,rfl,_,rfl,_,_,_,rfl,rfl,isi _ 3 e1 (by decide),_,rfl,_,_,_,rfl,rfl,isi _ 4 e1 (by decide),_,rfl,_,_,_,rfl,rfl,isi _ 5 e1 (by decide),by show 3<=sizeLine;decide,fun q2 h2=>⟨p1,q2,_,_,rfl,rfl,by rw[Qp (Qv g1 h2)];exact g1,Qa,by show 6<=sizeLine;decide,fun p2 h3=>?_⟩⟩;generalize hG:upd (upd H1 q2 _) p2 _=H2;have e2:Qk H H2:=by rw[←hG];exact(e1.trans (Qk.new h2)).trans (Qk.new h3)
  have g2:H2 p2=some (.lst [.bl (decide (0+1=i)),.bl (decide (1+1=i)),.bl (decide (2+1=i)),.bl (decide (3+1=i)),.bl (decide (4+1=i)),.bl (decide (5+1=i))]):=by rw[←hG];exact Qa
  clear hG h2 h3;refine⟨_,rfl,_,rfl,_,_,_,rfl,rfl,isi _ 6 e2 (by decide),_,rfl,_,_,_,rfl,rfl,isi _ 7 e2 (by decide),_,rfl,_,_,_,rfl,rfl,isi _ 8 e2 (by decide),by show 3<=sizeLine;decide,fun q3 h2=>⟨p2,q3,_,_,rfl,rfl,by rw[Qp (Qv g2 h2)];exact g2,Qa,by show 9<=sizeLine;decide,fun p3 h3=>?_⟩⟩;generalize hG:upd (upd H2 q3 _) p3 _=H3;have e3:Qk H H3:=by rw[←hG];exact(e2.trans (Qk.new h2)).trans (Qk.new h3)
  have g3:H3 p3=some (.lst [.bl (decide (0+1=i)),.bl (decide (1+1=i)),.bl (decide (2+1=i)),.bl (decide (3+1=i)),.bl (decide (4+1=i)),.bl (decide (5+1=i)),.bl (decide (6+1=i)),.bl (decide (7+1=i)),.bl (decide (8+1=i))]):=by rw[←hG];exact Qa
  clear hG h2 h3;refine⟨_,rfl,_,rfl,_,_,_,rfl,rfl,isi _ 9 e3 (by decide),_,rfl,_,_,_,rfl,rfl,isi _ 10 e3 (by decide),_,rfl,_,_,_,rfl,rfl,isi _ 11 e3 (by decide),by show 3<=sizeLine;decide,fun q4 h2=>⟨p3,q4,_,_,rfl,rfl,by rw[Qp (Qv g3 h2)];exact g3,Qa,by show 12<=sizeLine;decide,fun p4 h3=>?_⟩⟩;generalize hG:upd (upd H3 q4 _) p4 _=H4;have e4:Qk H H4:=by rw[←hG];exact(e3.trans (Qk.new h2)).trans (Qk.new h3)
  have g4:H4 p4=some (.lst [.bl (decide (0+1=i)),.bl (decide (1+1=i)),.bl (decide (2+1=i)),.bl (decide (3+1=i)),.bl (decide (4+1=i)),.bl (decide (5+1=i)),.bl (decide (6+1=i)),.bl (decide (7+1=i)),.bl (decide (8+1=i)),.bl (decide (9+1=i)),.bl (decide (10+1=i)),.bl (decide (11+1=i))]):=by rw[←hG];exact Qa
  clear hG h2 h3;refine⟨_,rfl,_,rfl,_,_,_,rfl,rfl,isi _ 12 e4 (by decide),_,rfl,_,_,_,rfl,rfl,isi _ 13 e4 (by decide),by show 2<=sizeLine;decide,fun q5 h2=>⟨p4,q5,_,_,rfl,rfl,by rw[Qp (Qv g4 h2)];exact g4,Qa,by show 14<=sizeLine;decide,fun p5 h3=>?_⟩⟩;generalize hG:upd (upd H4 q5 _) p5 _=H5;have e5:Qk H H5:=by rw[←hG];exact(e4.trans (Qk.new h2)).trans (Qk.new h3)
  have g5:H5 p5=some (.lst [.bl (decide (0+1=i)),.bl (decide (1+1=i)),.bl (decide (2+1=i)),.bl (decide (3+1=i)),.bl (decide (4+1=i)),.bl (decide (5+1=i)),.bl (decide (6+1=i)),.bl (decide (7+1=i)),.bl (decide (8+1=i)),.bl (decide (9+1=i)),.bl (decide (10+1=i)),.bl (decide (11+1=i)),.bl (decide (12+1=i)),.bl (decide (13+1=i))]):=by rw[←hG];exact Qa
  clear hG h2 h3;have hi:i<15:=by have:=G.hi;omega
  have g6:H5 p5=some (.lst (kinds i)):=g5;clear g5;have ty5:∀H':Hp,H' p5=some (.lst (kinds i))->tyV K "list" (V.ref p5) H':=fun H' g=>.inl ⟨rfl,_,.inl (.inl g)⟩;refine⟨_,rfl,ty5 _ g6,p5,kinds i,_,rfl,rfl,g6,rfl,V8 i,?_⟩;rw[jd i hi G.lo];refine⟨rfl,_,rfl,?_⟩;refine ifB (fun z=>absurd z (by decide)) (fun _=>?_);refine⟨_,rfl,_,_,_,rfl,rfl,.inr ⟨a,c i,rfl,e5 _ _ hH,G.er,G.va⟩,_,rfl,?_⟩;refine ifB (fun z=>absurd z (by decide)) (fun _=>?_);refine⟨by show 8<=sizeLine;decide,fun p6 h6=>?_⟩;generalize hG:upd H5 p6 _=H6;have e6:Qk H H6:=by rw[←hG];exact e5.trans (Qk.new h6)
  have k6:H6 p5=some (.lst (kinds i)):=by rw[←hG,Qp (Qv g6 h6)];exact g6
  have g7:H6 p6=some (.lst [.str "no picture",.str "no room",.str "no quotient",.str "no text",.str "no figures",.str "no letters",.str "no move",.str "no path"]):=by rw[←hG];exact Qa
  clear hG h6 g6;refine⟨_,rfl,by show 6<=sizeLine;decide,fun q6 h7=>⟨p6,q6,_,_,rfl,rfl,by rw[Qp (Qv g7 h7)];exact g7,Qa,by show 14<=sizeLine;decide,fun p7 h8=>?_⟩⟩;generalize hG:upd (upd H6 q6 _) p7 _=H7;have e7:Qk H H7:=by rw[←hG];exact(e6.trans (Qk.new h7)).trans (Qk.new h8)
  have k7:H7 p5=some (.lst (kinds i)):=by
   have z:Qk H6 H7:=by rw[←hG];exact(Qk.new h7).trans (Qk.new h8)
   exact z _ _ k6
  have g8:H7 p7=some (.lst nms):=by rw[←hG];exact Qa
  clear hG h7 h8;refine⟨_,rfl,ty5 _ k7,p5,kinds i,_,i-1,rfl,rfl,k7,rfl,V8 i,⟨_,yO i hi G.lo,rfl⟩,fun j z hj hz=>?_,p7,nms,_,.str (j6 i),rfl,rfl,.inl (.inl g8),QK (QcY i hi G.lo),k _ e7⟩;rw[yP i hi G.lo j hj]at hz;cases hz;rfl
end
noncomputable def tHd(K:PySem.W.Frag)(c:Nat->Addr)(te:XK->TE):L2.St->Hp->VK->Prop:=fun σ H1 Q=>∀H0,Qk H1 H0->
 te (fun cls _ H2=>∃i,cls=.ref (c i)/\Kind K c i/\∀a p H3,H2 a=none->Qk (upd H2 a (zJ a cls)) H3->H3 p=none->Q (.ref p) (upd H3 p (.tup [.str (j6 i)]))) σ H0
  (fun v H2=>∀p,H2 p=none->Q (.ref p) (upd H2 p (.tup [.str "told",v])))
theorem wm{P:Program}{w:World}{X:Cx}:Passes (CXE P w) X E00:=fun _ _ _ _ _ _ _⟨_,_,_,_,_,_,_,_,_,_,_,_,_,_,h⟩=>False.elim h
theorem xp{P:Program}{w:World}{K:PySem.W.Frag}{mg:Str->Option Value}{base:Heap}{k:Nat}{fa:Addr}{q:Str}{params:Arguments}{body:Expr}{scope:Scope}{tk:Nat->Tok}{c kr:Nat->Addr}{te:XK->TE}{A:Around}{outer:List Env}{cdv:Value}{N:List Str}{σ:L2.St}{f c':Addr}{cl:List (Str × Addr)}{pm ctv:Value}{s1:Shared}{H1:Hp}{Q:VK}
  (T:Txt K mg tk c kr) (hZ:Def P w K mg base 1 "_law_class" ["_law_kept"] (Vp K c))
  (LA:LamAt (Yf (CXE P w) P w K mg base ["_law_deed","_law_kept","_law_found","e"] "_law_heard" (Qf Q5) fa cdv A outer s1 H1 E00) N σ q params body scope f c' cl pm ctv)
  (hlo:∀x c,cl.lookup x=some c->c<s1.heap.objs.size) (hr1:Room (k+1) (A.deeper (envOfC "_law_heard" (Qf Q5) s1.heap.objs.size fa cdv)))
  (hlam:∀(f c':Addr)(cl:List (Str × Addr))(A:Around)(outer:List Env)(s:Shared)(H:Hp)(E:XK),Room k (A.deeper (envX q scope s.heap.objs.size f (.ref c') cl))->PE (zL P w K mg base N q scope f c' cl A outer s H E) body (te E))
  (hmono:∀(σ:L2.St)(H:Hp)(Q Q':VK)(E E':XK),(∀cls x H,E cls x H->E' cls x H)->(∀v H,Q v H->Q' v H)->te E σ H Q->te E' σ H Q')
  (hcd:H1 c'=some (KP c' q)) (h:tHd K c te σ H1 Q):
  ∃t,PSs (Yf (CXE P w) P w K mg base ["_law_deed","_law_kept","_law_found","e"] "_law_heard" (Qf Q5) fa cdv A outer s1 H1 E00) (Q3 Q5) t/\t {nx:=fun _ H'=>Q .non H',rt:=Q} (start ["_law_deed","_law_kept","_law_found","e"] [.ref f]) H1:=by
 refine⟨_,(Qe (JB (QO (Qb Zv (Qb Zv Qc))) (JA rfl (Qn (Qm (i:=1) Jr.nd rfl (Or.inl rfl)) (Qn (Qm (i:=2) Jr.nd rfl (Or.inl rfl)) QV))))
   (Qe (QcE (i:=3) (tb:=fun E=>_) rfl rfl rfl rfl rfl T.pS Jr.nd rfl rfl (fun E pn xe hx=>Qh (QE (i:=2) Jr.nd rfl (Or.inl rfl) (Qbb (i:=0) (te:=te E) LA.alt rfl rfl rfl (Or.inl rfl) hr1 hx hlo (fun s H hr2=>hlam f c' cl _ _ s H E hr2)))) (fun v=>Qh (QE (i:=1) Jr.nd rfl (Or.inl rfl) (pv 3))))
   (Qh (QD (Ze (WI (VN (pv 1))) (QO (Qb Qg (Qb (pv 2) Qc))) (QO (Qb (hZ.pe hr1 (Nat.succ_le_succ (uQ k)) rfl wm (Qb (pv 1) Qc)) Qc))))))),?_⟩
 refine⟨by show 2<=sizeLine;decide,fun p0 h0=>⟨p0,_,rfl,SqT.of Qa,rfl,_,_,rfl,_,_,rfl,rfl,?_⟩⟩;have S0:=Qk.new (o:=.tup [.non,.non]) h0;refine⟨rfl,S0 _ _ hcd,hmono σ _ _ _ _ _ (fun cls x H2 hE=>?_) (fun v H2 hQ=>?_) (h _ S0)⟩
 ·obtain⟨i,rfl,G,hE⟩:=hE;refine⟨G.bo,fun a ha=>⟨_,rfl,?_⟩⟩;refine⟨_,rfl,_,rfl,?_⟩;refine ifB (fun z=>nomatch (of_decide_eq_true z)) (fun _=>?_);exact⟨_,rfl,a,i,rfl,Qa,G,fun H3 e3=>⟨by show 1<=sizeLine;decide,fun p hp=>hE a p H3 ha e3 hp⟩⟩
 ·refine⟨_,rfl,_,rfl,?_⟩;refine ifB (fun _=>?_) (fun z=>absurd z (by decide));exact⟨_,rfl,by show 2<=sizeLine;decide,fun p hp=>hQ p hp⟩
section
variable {X:Cx}{k:Nat}{fa:Addr}{fd:FuncData}{ca Pa:Addr}{q:Str}{params:Arguments}{body:Expr}{scope:Scope}{p lpos cpos:Pos}{tk:Nat->Tok}{c kr:Nat->Addr}{te:XK->TE}
theorem j7{K0:PySem.W.Frag}(hK:X.K=K0)(F:Fun X.K "_law_heard" "_law_heard" Q5 fa fd)(hm:X.mg "_law_heard"=some (.ref fa))(hb:Binds X.K fd ["_law_deed"] [])(T:Txt X.K X.mg tk c kr)(hZ:Def X.prog X.w X.K X.mg X.base 1 "_law_class" ["_law_kept"] (Vp X.K c))
  (hr:Room (k+2) X.A) (hg:Gl X "_law_heard")
  (L:Lamb X.mg X.base ca Pa) (hcode:X.env.code=.ref ca) (hq:q=X.env.qual++"<lambda>") (hdef:defaultsOf params X.env=([],[])) (hfn:∀y,X.fn y=true)
  (sk:scope.kind=.function) (sco:scope.isCoroutine=false) (sgen:scope.isGenerator=false) (snone:∀y∈scope.names,y.2≠ .local/\y.2≠ .cell) (sfree:kc scope X.env.scope=true)
  (hbind:∀cl pm c' ctv,bindArgs (kla_fn "<lambda>" q params body scope cl pm (.ref c') ctv) ⟨[],[]⟩=pure [])
  (hlam:∀(f c':Addr)(cl:List (Str × Addr))(A:Around)(outer:List Env)(s:Shared)(H:Hp)(E:XK),Room k (A.deeper (envX q scope s.heap.objs.size f (.ref c') cl))->PE (zL X.prog X.w X.K X.mg X.base X.N q scope f c' cl A outer s H E) body (te E))
  (hmono:∀(σ:L2.St)(H:Hp)(Q Q':VK)(E E':XK),(∀cls x H,E cls x H->E' cls x H)->(∀v H,Q v H->Q' v H)->te E σ H Q->te E' σ H Q'):
  PE X (.Call (.Name "_law_heard" p) [.Lambda params body scope lpos] [] cpos) (QeJ Pa q (fun σ f c' H1 Q=>H1 c'=some (KP c' q)/\tHd K0 c te σ H1 Q)):=by
 subst hK;refine zQ F Jr hm hg hb hr wm L hcode hq hdef hfn sk sco sgen snone (UA sfree) hbind (fun cdv σ f c' cl pm ctv s1 H1 Q LA hlo hr1 h=>?_);exact xp T hZ LA hlo hr1 hlam hmono h.1 h.2
end
noncomputable def UZ:List (List Nat):=[[57,40,51,41],[83,57,57,86,57],[88,40,52,41],[65,65],[90,57,46,57],[88]]
noncomputable def P6(p:List Nat):Prop:=p∈UZ
theorem xq{p:List Nat}(h:P6 p):UM p:=(by decide+kernel:∀p∈UZ,(ZX p).isSome=true/\p.length<=500) p h
mutual
noncomputable def Ly.s6:Ly->Prop
 | .box _ p=>P6 p
 | .grp _ its=>s6L its
 | .tab _ _ its=>s6L its
noncomputable def s6L:List (Bool × Ly)->Prop
 |[]=>True
 |x::xs=>s6I x/\s6L xs
noncomputable def s6I:Bool × Ly->Prop
 |(_,y)=>y.s6
end
theorem je:∀{its:List (Bool × Ly)}{x:Bool × Ly},s6L its->x∈its->x.2.s6
 |[],_,_,h=>nomatch h
 |(o,y)::ys,x,hs,h=>by
  rw[s6L,s6I]at hs;rcases List.mem_cons.mp h with rfl|h
  ·exact hs.1
  ·exact je hs.2 h
theorem wn:∀{its:List (Bool × Ly)},(∀x∈its,x.2.s6)->s6L its
 |[],_=>by rw[s6L];trivial
 |(o,y)::xs,h=>by
  rw[s6L,s6I];exact⟨h _ uA,wn fun x hx=>h x (uz _ hx)⟩
theorem jf:∀its:List (Bool × Ly),(its.map fun x=>((szI x:Nat):Int)).sum=((szL its:Nat):Int)
 |[]=>rfl
 |x::xs=>by rw[uN,List.sum_cons,jf xs,szL];push_cast;rfl
noncomputable def U0:List (Key × V):=[(Sum.inr "9(3)",.int 3),(Sum.inr "S99V9",.int 3),(Sum.inr "X(4)",.int 4),(Sum.inr "AA",.int 2),(Sum.inr "Z9.9",.int 4),(Sum.inr "X",.int 1)]
theorem yQ:Kg [] U0=U0:=by decide+kernel
theorem yR(p:List Nat)(hp:P6 p):VT U0 (Sum.inr (Ue p))=some (.int (szP p:Nat)):=(by decide+kernel:∀p∈UZ,VT U0 (Sum.inr (Ue p))=some (.int (szP p:Nat))) p hp
section
variable {P:Program}{w:World}{K:PySem.W.Frag}{mg:Str->Option Value}{base:Heap}{f:Addr}{fd:FuncData}{tk:Nat->Tok}{c kr:Nat->Addr}
noncomputable def U1(d:Nat):Sp:=fun vs H Q _=>∃(v:V)(x:Bool × Ly),vs=[v]/\Deep H v (dvI x)/\x.2.dp<d/\x.2.cn<=10000/\x.2.okK/\x.2.s6/\∀H',Qk H H'->Q (.int (szI x:Nat)) H'
theorem KC(F:Fun K "_law_item_size" "_law_item_size" Jv f fd):FnOk P w K mg base (CXE P w) 1 f fd ["_law_item"] (U1 0):=by
 refine Wu F JY (fun vs H Q E h=>?_) (fun cdv A outer s H vs Q E hr h=>?_)
 ·obtain⟨v,x,rfl,_⟩:=h;rfl
 ·obtain⟨v,x,rfl,_,hd,_⟩:=h;exact absurd hd (Nat.not_lt_zero _)
set_option maxHeartbeats 2000000 in
theorem J0(d:Nat)(F:Fun K "_law_item_size" "_law_item_size" Jv f fd)(O:Own mg)(gO:Def P w K mg base (d+1) "_law_item_size" ["_law_item"] (U1 d)):FnOk P w K mg base (CXE P w) (d+2) f fd ["_law_item"] (U1 (d+1)):=by
 refine Wu F JY (fun vs H Q E h=>?_) (fun cdv A outer s H vs Q E hr h=>?_)
 ·obtain⟨v,x,rfl,_⟩:=h;rfl
 ·obtain⟨v,⟨ov,y⟩,rfl,D,hd,hcn,hok,hs6,k⟩:=h;have hz:100000<=sizeLine:=by rw[sizeLine_eq];decide
  have hu:=QcB hr;refine⟨_,(Qi (Zd (Ql QZ (Qw Qt (pv 0) Qd (fun _ _=>rfl)) Qg (Qo _)) (Qs (QG (PEx.mk Qd))) JN)
   (Qi (Zd (Ql QZ (Qw Qt (pv 0) Qd (fun _ _=>rfl)) Qg (Qo _)) (Qs (QG (yF hu (wb (XA (PEx.mk Qg) (PEx.mk Qd) (XA (PEx.mk Qg) (PEx.mk Qd) (XA (PEx.mk Qg) (PEx.mk Qd) (XA (PEx.mk Qg) (PEx.mk Qd) (XA (PEx.mk Qg) (PEx.mk Qd) (XA (PEx.mk Qg) (PEx.mk Qd) Qbx)))))) rfl rfl (List.cons_ne_nil _ _) (Nat.le_of_ble_eq_true rfl)) (PEx.mk (Qw Qt (pv 0) Qd (fun _ _=>rfl))) (fun _ _=>rfl)))) JN)
   (Qi (Qy (i:=1) JY.nd rfl (Or.inl rfl) (PEx.mk (Qj (Yo rfl) rfl O.sum L2.boot_sum (Qz (Jo (NB:=[".0","_law_one"]) rfl ⟨rfl,by decide+kernel,by decide+kernel,by decide+kernel⟩ (XJ (Qw Qt (pv 0) (KL ZL Qd) (fun _ _=>rfl))) (fun _ _ _=>(Qm (i:=1) (show([".0","_law_one"]:List Str).Nodup by decide+kernel) rfl (Or.inl rfl))) (fun _ _ _=>Jx) (fun _ _ _=>(gO.pe hr (by omega) rfl Qu (Qz (pv 1) Qc)))) Qc))) rfl rfl)
   (Qs (QG (Wk (Ql QZ (Qw Qt (pv 0) Qd (fun _ _=>rfl)) Qg (Qo _)) (Q2 jE (PEx.mk (pv 1)) (PEx.mk (Qw Qt (pv 0) Qd (fun _ _=>rfl)))) (PEx.mk (pv 1)))))))),?_⟩
  cases ov with
  |true=>
   obtain⟨a,x2,rfl,g,_⟩:=K9 D;rw[szI,if_pos rfl]at k;exact⟨_,rfl,a,_,0,_,rfl,rfl,.inl g,rfl,rfl,true,rfl,QQ (k _ (Qk.refl _))⟩
  |false=>
   rw[dvI,if_neg (by decide)]at D;rw[szI,if_neg (by decide)]at k;have hd:y.dp<d+1:=hd;have hcn:y.cn<=10000:=hcn;have hok:y.okK:=hok;have hs6:y.s6:=hs6;cases y with
   |box nm p=>
    obtain⟨a,rfl,g⟩:=US D;rw[Ly.sz]at k;refine⟨_,rfl,a,_,0,_,rfl,rfl,.inl g,rfl,rfl,false,by rw[QeL],QN ?_⟩;refine⟨_,rfl,a,_,0,_,rfl,rfl,.inl g,rfl,rfl,true,rfl,QQ ?_⟩;refine fun pd hpd=>⟨Qa,U0,rfl,by decide,?_⟩;have S2:Qk H (upd (upd H pd (.dK [])) pd (.dK (Kg [] U0))):=J1 (Qk.new hpd) hpd;rw[yQ]at S2 ⊢;refine⟨_,rfl,a,_,2,_,rfl,rfl,.inl (S2 _ _ g),rfl,pd,_,rfl,?_,k _ S2⟩;have:=jJ.k (k:=Sum.inr (Ue p)) (show upd (upd H pd (.dK [])) pd (.dK U0) pd=some (.dK U0)from Qa);rw[Ly.s6]at hs6;rw[yR p hs6]at this;exact this
   |grp nm in_=>
    obtain⟨a,x,rfl,g,D2⟩:=UT D;rw[Ly.sz]at k;rw[Ly.cn]at hcn;rw[Ly.okK]at hok;rw[Ly.dp]at hd;rw[Ly.s6]at hs6;refine⟨_,rfl,a,_,0,_,rfl,rfl,.inl g,rfl,rfl,false,by rw[QeM],QN ?_⟩;refine⟨_,rfl,a,_,0,_,rfl,rfl,.inl g,rfl,rfl,false,by rw[QdB],QN ?_⟩;dsimp only[QH,JP,XX,QU];refine cb1 ?_;obtain⟨xa,ys,rfl,gx,tx⟩:=Deep.Wy D2;rw[Ju]at tx;have lx:=tx.length;rw[uk]at lx;have ln:=V5 in_;have hok2:okL in_:=hok;refine ZN (yp (K:=K) (a:=xa) (xs:=ys)) (in_.map fun x=>Dv.int (szI x:Nat)) (by rw[uk];omega) (fun R h=>⟨_,rfl,_,rfl,a,_,_,_,rfl,rfl,.inl g,rfl,xa,rfl,⟨_,.inl (.inl gx)⟩,h _ (Qk.refl _)⟩) (fun H1 S=>.inl (.inl (S _ _ gx))) ?_ ?_ (by omega)
    ·rintro i v H1 H2 dd R hd2 S ⟨rfl,hv⟩ kk;obtain⟨dv,hdv,ddv⟩:=tx.VI hv;rw[uE]at hdv hd2;cases e:in_[i]? with
     |none=>rw[e]at hdv;cases hdv
     |some z=>
      rw[e]at hdv hd2;obtain rfl:=ur hdv;have hm:=uF e;have h1:=yJ e;have h2:=Vl hok2 hm;have h3:=K8 hm;refine⟨_,rfl,v,z,rfl,ddv.same S,by omega,by obtain⟨o,yy⟩:=z;rw[cnI]at h1;show yy.cn<=10000;omega,h2,je hs6 hm,fun H3 S3=>kk _ _ S3 ?_⟩;rw[←ur hd2];exact .int
    rintro zs H1' p' S' t2 hp';have e:zs=(in_.map fun x=>((szI x:Nat):Int)).map V.int:=by
     have:=K6 (ns:=in_.map fun x=>((szI x:Nat):Int)) (by rw[uM];exact t2);exact this
    subst e;have S1:=S'.trans (Qk.new (o:=.lst ((in_.map fun x=>((szI x:Nat):Int)).map V.int)) hp');refine⟨p',_,rfl,.inl (.inl Qa),?_⟩;rw[jf];generalize upd H1' p' (.lst ((in_.map fun x=>((szI x:Nat):Int)).map V.int))=H1 at S1;refine⟨_,rfl,a,_,0,_,rfl,rfl,.inl (S1 _ _ g),rfl,rfl,false,by rw[Qei],QN ⟨_,rfl,k _ S1⟩⟩
   |tab nm k1 in_=>
    obtain⟨a,x,rfl,g,D2⟩:=UU D;rw[Ly.sz]at k;rw[Ly.cn]at hcn;rw[Ly.okK]at hok;rw[Ly.dp]at hd;rw[Ly.s6]at hs6;refine⟨_,rfl,a,_,0,_,rfl,rfl,.inl g,rfl,rfl,false,by rw[QeN],QN ?_⟩;refine⟨_,rfl,a,_,0,_,rfl,rfl,.inl g,rfl,rfl,false,by rw[Qeh],QN ?_⟩;dsimp only[QH,JP,XX,QU];refine cb1 ?_;obtain⟨xa,ys,rfl,gx,tx⟩:=Deep.Wy D2;rw[Ju]at tx;have lx:=tx.length;rw[uk]at lx;have ln:=V5 in_;have hok2:okL in_:=hok.2;refine ZN (yp (K:=K) (a:=xa) (xs:=ys)) (in_.map fun x=>Dv.int (szI x:Nat)) (by rw[uk];omega) (fun R h=>⟨_,rfl,_,rfl,a,_,_,_,rfl,rfl,.inl g,rfl,xa,rfl,⟨_,.inl (.inl gx)⟩,h _ (Qk.refl _)⟩) (fun H1 S=>.inl (.inl (S _ _ gx))) ?_ ?_ (by omega)
    ·rintro i v H1 H2 dd R hd2 S ⟨rfl,hv⟩ kk;obtain⟨dv,hdv,ddv⟩:=tx.VI hv;rw[uE]at hdv hd2;cases e:in_[i]? with
     |none=>rw[e]at hdv;cases hdv
     |some z=>
      rw[e]at hdv hd2;obtain rfl:=ur hdv;have hm:=uF e;have h1:=yJ e;have h2:=Vl hok2 hm;have h3:=K8 hm;refine⟨_,rfl,v,z,rfl,ddv.same S,by omega,by obtain⟨o,yy⟩:=z;rw[cnI]at h1;show yy.cn<=10000;omega,h2,je hs6 hm,fun H3 S3=>kk _ _ S3 ?_⟩;rw[←ur hd2];exact .int
    rintro zs H1' p' S' t2 hp';have e:zs=(in_.map fun x=>((szI x:Nat):Int)).map V.int:=by
     have:=K6 (ns:=in_.map fun x=>((szI x:Nat):Int)) (by rw[uM];exact t2);exact this
    subst e;have S1:=S'.trans (Qk.new (o:=.lst ((in_.map fun x=>((szI x:Nat):Int)).map V.int)) hp');refine⟨p',_,rfl,.inl (.inl Qa),?_⟩;rw[jf];generalize upd H1' p' (.lst ((in_.map fun x=>((szI x:Nat):Int)).map V.int))=H1 at S1;refine⟨_,rfl,a,_,0,_,rfl,rfl,.inl (S1 _ _ g),rfl,rfl,true,rfl,QQ ?_⟩;refine⟨_,rfl,_,rfl,a,_,2,_,rfl,rfl,.inl (S1 _ _ g),rfl,_,_,rfl,rfl,.inr ⟨by have:=hok.1;omega,by have:=hok.1;omega⟩,?_⟩;have e:((szL in_:Nat):Int)*((k1:Nat):Int)=((szL in_*k1:Nat):Int):=by push_cast;rfl
    dsimp only;rw[e];exact k _ S1
end
noncomputable def KE(j:Nat):Str:=⟨#[97+j]⟩
noncomputable def ZO(its:List (Bool × Ly)):Nat:=if its=[]then 0 else(its.getD (under its (its.length-1)) dfI).2.sz
structure PB(its:List (Bool × Ly)):Prop where
 len:its.length<=4
 nm:∀(j:Nat)(x:Bool × Ly),its[j]? =some x->x.2.name=KE j
 first:∀x,its[0]? =some x->x.1=false
 ov:∀(j:Nat)(y:Ly),its[j]? =some (true,y)->y.sz<=(its.getD (under its j) dfI).2.sz
noncomputable def Good:Nat->List (Bool × Ly)->Prop
 |0,its=>its≠[]/\PB its/\∀x∈its,∃nm p,x.2=.box nm p/\P6 p
 |d+1,its=>its≠[]/\PB its/\∀x∈its,(∃nm p,x.2=.box nm p/\P6 p)\/(∃nm in_,x.2=.grp nm in_/\Good d in_)\/(∃nm k in_,x.2=.tab nm k in_/\1<=k/\k<=3/\Good d in_)
noncomputable def jg:Nat->Ly->Prop
 |0,y=>∃nm p,y=.box nm p/\P6 p
 |d+1,y=>(∃nm p,y=.box nm p/\P6 p)\/(∃nm in_,y=.grp nm in_/\Good d in_)\/(∃nm k in_,y=.tab nm k in_/\1<=k/\k<=3/\Good d in_)
theorem XE(d:Nat)(its:List (Bool × Ly)):Good d its↔its≠[]/\PB its/\∀x∈its,jg d x.2:=by
 cases d<;>rfl
noncomputable def cnB:Nat->Nat
 |0=>4
 |d+1=>4*(1+cnB d)
noncomputable def wtB:Nat->Nat
 |0=>4
 |d+1=>4*(1+3*wtB d)
theorem U2{g:Bool × Ly->Nat}{gl:List (Bool × Ly)->Nat}(h0:gl []=0)(hc:∀x xs,gl (x::xs)=g x+gl xs) {B:Nat}:∀{its:List (Bool × Ly)},(∀x∈its,g x<=B)->gl its<=its.length*B
 |[],_=>by rw[h0];exact uQ _
 |x::xs,h=>by
  have h1:=h x uA;have h2:=U2 h0 hc (its:=xs) fun y hy=>h y (uz _ hy);rw[hc,uw,Nat.succ_mul];omega
theorem wo:∀{its:List (Bool × Ly)},(∀x∈its,x.2.okK)->okL its
 |[],_=>by rw[okL];trivial
 |(o,y)::xs,h=>by
  rw[okL,okI];exact⟨h _ uA,wo fun x hx=>h x (uz _ hx)⟩
theorem j8{B:Nat}:∀{its:List (Bool × Ly)},(∀x∈its,x.2.dp<=B)->dpL its<=B
 |[],_=>by rw[dpL];exact uQ _
 |(o,y)::xs,h=>by
  have h1:=h _ uA;have h2:=j8 (its:=xs) fun x hx=>h x (uz _ hx);rw[dpL,dpI];show max y.dp (dpL xs)<=B;have:y.dp<=B:=h1;omega
structure LBd(d:Nat)(its:List (Bool × Ly)):Prop where
 cn:cnL its<=cnB d
 wt:wtL its<=wtB d
 ok:okL its
 dp:dpL its<=d
theorem Wd:∀(d:Nat)(its:List (Bool × Ly)),Good d its->LBd d its
 |0,its,h=>by
  obtain⟨_,hp,hx⟩:=h;have hl:=hp.len;refine⟨?_,?_,wo fun x hx'=>?_,j8 fun x hx'=>?_⟩
  ·have:=U2 (g:=cnI) (gl:=cnL) (by rw[cnL]) (fun x xs=>by rw[cnL]) (B:=1) (its:=its) fun x hx'=>by
    obtain⟨o,y⟩:=x;obtain⟨nm,p,e,hp6⟩:=hx _ hx';rw[cnI,show y=.box nm p from e,Ly.cn];exact uq _
   show cnL its<=4;omega
  ·have:=U2 (g:=wtI) (gl:=wtL) (by rw[wtL]) (fun x xs=>by rw[wtL]) (B:=1) (its:=its) fun x hx'=>by
    obtain⟨o,y⟩:=x;obtain⟨nm,p,e,hp6⟩:=hx _ hx';rw[wtI,show y=.box nm p from e,Ly.wt];exact uq _
   show wtL its<=4;omega
  ·obtain⟨nm,p,e,hp6⟩:=hx _ hx';rw[e,Ly.okK];exact xq hp6
  ·obtain⟨nm,p,e,hp6⟩:=hx _ hx';rw[e,Ly.dp];exact uq _
 |d+1,its,h=>by
  obtain⟨_,hp,hx⟩:=h;have hl:=hp.len;have each:∀x∈its,x.2.cn<=1+cnB d/\x.2.wt<=1+3*wtB d/\x.2.okK/\x.2.dp<=d+1:=by
   intro x hx';rcases hx x hx' with⟨nm,p,e,hp6⟩|⟨nm,in_,e,hg⟩|⟨nm,k,in_,e,hk1,hk3,hg⟩
   ·rw[e,Ly.cn,Ly.wt,Ly.okK,Ly.dp];exact⟨by omega,by omega,xq hp6,by omega⟩
   ·have b:=Wd d in_ hg;have b1:=b.cn;have b2:=b.wt;have b4:=b.dp;rw[e,Ly.cn,Ly.wt,Ly.okK,Ly.dp];exact⟨by omega,by omega,b.ok,by omega⟩
   ·have b:=Wd d in_ hg;have b1:=b.cn;have b2:=b.wt;have b4:=b.dp;have:k*wtL in_<=3*wtB d:=Nat.mul_le_mul hk3 b2;rw[e,Ly.cn,Ly.wt,Ly.okK,Ly.dp];exact⟨by omega,by omega,⟨by omega,b.ok⟩,by omega⟩
  refine⟨?_,?_,wo fun x hx'=>(each x hx').2.2.1,j8 fun x hx'=>(each x hx').2.2.2⟩
  ·have:=U2 (g:=cnI) (gl:=cnL) (by rw[cnL]) (fun x xs=>by rw[cnL]) (B:=1+cnB d) (its:=its) fun x hx'=>by
    obtain⟨o,y⟩:=x;rw[cnI];exact(each _ hx').1
   show cnL its<=4*(1+cnB d);exact Nat.le_trans this (Nat.mul_le_mul_right _ hl)
  ·have:=U2 (g:=wtI) (gl:=wtL) (by rw[wtL]) (fun x xs=>by rw[wtL]) (B:=1+3*wtB d) (its:=its) fun x hx'=>by
    obtain⟨o,y⟩:=x;rw[wtI];exact(each _ hx').2.1
   show wtL its<=4*(1+3*wtB d);exact Nat.le_trans this (Nat.mul_le_mul_right _ hl)
theorem j9(d:Nat)(hd:d<=2){y:Ly}(h:jg d y):y.cn<=1000/\y.wt<=1000/\y.okK/\y.dp<=d:=by
 cases d with
 |zero=>
  obtain⟨nm,p,rfl,hp6⟩:=h;rw[Ly.cn,Ly.wt,Ly.okK,Ly.dp];exact⟨by omega,by omega,xq hp6,by omega⟩
 |succ d=>
  have c1:cnB d<=20/\wtB d<=52:=by
   obtain rfl|rfl:d=0\/d=1:=by omega
   ·decide
   ·decide
  rcases h with⟨nm,p,rfl,hp6⟩|⟨nm,in_,rfl,hg⟩|⟨nm,k,in_,rfl,hk1,hk3,hg⟩
  ·rw[Ly.cn,Ly.wt,Ly.okK,Ly.dp];exact⟨by omega,by omega,xq hp6,by omega⟩
  ·have b:=Wd d in_ hg;have b1:=b.cn;have b2:=b.wt;have b4:=b.dp;rw[Ly.cn,Ly.wt,Ly.okK,Ly.dp];exact⟨by omega,by omega,b.ok,by omega⟩
  ·have b:=Wd d in_ hg;have b1:=b.cn;have b2:=b.wt;have b4:=b.dp;have:k*wtL in_<=3*wtB d:=Nat.mul_le_mul hk3 b2;rw[Ly.cn,Ly.wt,Ly.okK,Ly.dp];exact⟨by omega,by omega,⟨by omega,b.ok⟩,by omega⟩
theorem YT:∀(d:Nat)(its:List (Bool × Ly)),Good d its->s6L its
 |0,its,h=>by
  obtain⟨_,hp,hx⟩:=h;exact wn fun x hx'=>by
   obtain⟨nm,p,e,hp6⟩:=hx _ hx';rw[e,Ly.s6];exact hp6
 |d+1,its,h=>by
  obtain⟨_,hp,hx⟩:=h;exact wn fun x hx'=>by
   rcases hx x hx' with⟨nm,p,e,hp6⟩|⟨nm,in_,e,hg⟩|⟨nm,k,in_,e,hk1,hk3,hg⟩
   ·rw[e,Ly.s6];exact hp6
   ·rw[e,Ly.s6];exact YT d in_ hg
   ·rw[e,Ly.s6];exact YT d in_ hg
theorem yS(d:Nat){y:Ly}(h:jg d y):y.s6:=by
 cases d with
 |zero=>
  obtain⟨nm,p,rfl,hp6⟩:=h;rw[Ly.s6];exact hp6
 |succ d=>
  rcases h with⟨nm,p,rfl,hp6⟩|⟨nm,in_,rfl,hg⟩|⟨nm,k,in_,rfl,hk1,hk3,hg⟩
  ·rw[Ly.s6];exact hp6
  ·rw[Ly.s6];exact YT d in_ hg
  ·rw[Ly.s6];exact YT d in_ hg
theorem KF{its:List (Bool × Ly)}{x:Bool × Ly}{j:Nat}(h:j<its.length):(its++[x]).getD j dfI=its.getD j dfI:=by
 rw[List.getD_eq_getElem?_getD,List.getD_eq_getElem?_getD,List.getElem?_append_left h]
theorem WA(its:List (Bool × Ly))(x:Bool × Ly):(its++[x]).getD its.length dfI=x:=by
 rw[List.getD_eq_getElem?_getD,List.getElem?_append_right (uq _),Nat.sub_self];rfl
theorem Xr{its:List (Bool × Ly)}{x:Bool × Ly}:∀{j:Nat},j<its.length->under (its++[x]) j=under its j
 |0,_=>rfl
 |j+1,h=>by
  rw[under,under,KF h,Xr (j:=j) (by omega)]
theorem xr(its:List (Bool × Ly))(y:Ly):ZO (its++[(false,y)])=y.sz:=by
 unfold ZO;rw[if_neg (by simp),uj,uu,Nat.add_sub_cancel,XC,WA];show(((its++[(false,y)]).getD (if false=true then _ else its.length) dfI).2).sz=y.sz;rw[if_neg (by decide),WA]
theorem jh{its:List (Bool × Ly)}(hne:its≠[])(y:Ly):ZO (its++[(true,y)])=ZO its:=by
 obtain⟨n,hn⟩:∃n,its.length=n+1:=⟨its.length-1,by
  have:its.length≠0:=fun z=>hne (List.eq_nil_of_length_eq_zero z);omega⟩
 have hu:=Ku its n;unfold ZO;rw[if_neg (by simp),if_neg hne,uj,uu,Nat.add_sub_cancel,XC,WA];show(((its++[(true,y)]).getD (if true=true then V6 (its++[(true,y)]) its.length else its.length) dfI).2).sz=_;rw[if_pos rfl,hn,V6,Xr (by omega),KF (by omega),Nat.add_sub_cancel]
theorem PB.add{its:List (Bool × Ly)}(h:PB its){y:Ly}(hl:its.length<4)(hn:y.name=KE its.length):PB (its++[(false,y)]):=by
 refine⟨by rw[uj,uu];omega,fun j x hj=>?_,fun x hx=>?_,fun j y' hj=>?_⟩
 ·by_cases e:j<its.length
  ·rw[List.getElem?_append_left e]at hj;exact h.nm j x hj
  ·have e2:j=its.length:=by
    have:=(List.getElem?_eq_some_iff.mp hj).1;rw[uj,uu]at this;omega
   subst e2;rw[List.getElem?_append_right (uq _),Nat.sub_self]at hj;rw[←ur hj];exact hn
 ·cases its with
  |nil=>rw[←ur hx]
  |cons z zs=>exact h.first x hx
 ·by_cases e:j<its.length
  ·rw[List.getElem?_append_left e]at hj;have:=h.ov j y' hj;have hu:=Ku its j;rw[Xr e,KF (by omega)];exact this
  ·have e2:j=its.length:=by
    have:=(List.getElem?_eq_some_iff.mp hj).1;rw[uj,uu]at this;omega
   subst e2;rw[List.getElem?_append_right (uq _),Nat.sub_self]at hj;cases hj
theorem PB.Qfn{its:List (Bool × Ly)}(h:PB its)(hne:its≠[]){y:Ly}(hl:its.length<4)(hn:y.name=KE its.length)(hs:y.sz<=ZO its):PB (its++[(true,y)]):=by
 obtain⟨n,hn2⟩:∃n,its.length=n+1:=⟨its.length-1,by
  have:its.length≠0:=fun z=>hne (List.eq_nil_of_length_eq_zero z);omega⟩
 have hu:=Ku its n;refine⟨by rw[uj,uu];omega,fun j x hj=>?_,fun x hx=>?_,fun j y' hj=>?_⟩
 ·by_cases e:j<its.length
  ·rw[List.getElem?_append_left e]at hj;exact h.nm j x hj
  ·have e2:j=its.length:=by
    have:=(List.getElem?_eq_some_iff.mp hj).1;rw[uj,uu]at this;omega
   subst e2;rw[List.getElem?_append_right (uq _),Nat.sub_self]at hj;rw[←ur hj];exact hn
 ·cases its with
  |nil=>exact absurd rfl hne
  |cons z zs=>exact h.first x hx
 ·by_cases e:j<its.length
  ·rw[List.getElem?_append_left e]at hj;have:=h.ov j y' hj;have hu:=Ku its j;rw[Xr e,KF (by omega)];exact this
  ·have e2:j=its.length:=by
    have:=(List.getElem?_eq_some_iff.mp hj).1;rw[uj,uu]at this;omega
   subst e2;rw[List.getElem?_append_right (uq _),Nat.sub_self]at hj;have hj:(true,y)=(true,y'):=ur hj;have e3:y=y':=congrArg (·.2) hj;subst e3;rw[XC,WA];show y.sz<=((its++[(true,y)]).getD (if true=true then V6 (its++[(true,y)]) its.length else its.length) dfI).2.sz;rw[if_pos rfl,hn2,V6,Xr (by omega),KF (by omega)];unfold ZO at hs;rw[if_neg hne,hn2,Nat.add_sub_cancel]at hs;exact hs
noncomputable def cb:Nat->Int
 |0=>20
 |d+1=>4*cb d+20
theorem QaC{i j:Nat}{te1 te2:TE}{D:Ends}{σ:L2.St}{H:Hp}(h:te1 σ H fun v H1=>te2 σ H1 fun w H2=>∃v' w',[v,w]=[v',w']/\D.nx ((σ.set i (some v')).set j (some w')) H2):QdL i j (Ja te1 (Ja te2 WO)) D σ H:=h
noncomputable def six:List Dv:=[.str "9(3)",.str "S99V9",.str "X(4)",.str "AA",.str "Z9.9",.str "X"]
theorem QbF{d:Nat}(h:d<6):P6 (UZ.getD d []):=by
 obtain rfl|rfl|rfl|rfl|rfl|rfl:d=0\/d=1\/d=2\/d=3\/d=4\/d=5:=by omega
 all_goals (unfold P6;decide)
theorem QcZ{d:Nat}{dv:Dv}(h:six[d]? =some dv):dv=.str (Ue (UZ.getD d [])):=by
 unfold six at h
 match d,h with
 |0,h=>rw[←ur h];exact congrArg Dv.str (by decide+kernel)
 |1,h=>rw[←ur h];exact congrArg Dv.str (by decide+kernel)
 |2,h=>rw[←ur h];exact congrArg Dv.str (by decide+kernel)
 |3,h=>rw[←ur h];exact congrArg Dv.str (by decide+kernel)
 |4,h=>rw[←ur h];exact congrArg Dv.str (by decide+kernel)
 |5,h=>rw[←ur h];exact congrArg Dv.str (by decide+kernel)
 |n+6,h=>simp at h
theorem Zn(x:Str)(n:Nat):(Dv.str x).depth<=n:=by unfold Dv.depth;omega
theorem U3{n:Nat}:∀{ds:List Dv},(∀d∈ds,d.depth<=n)->Dv.ZB ds<=n
 |[],_=>by unfold Dv.ZB;omega
 |d::ds,h=>by
  have h1:=h d uA;have h2:=U3 (ds:=ds) fun x hx=>h x (uz _ hx);unfold Dv.ZB;omega
theorem Zu{n:Nat}{ds:List Dv}(h:∀d∈ds,d.depth<=n):(Dv.tup ds).depth<=n+1:=by
 have:=U3 h;unfold Dv.depth;omega
theorem yT{a:Addr}{its:List (Bool × Ly)}{σ:L2.St}{H:Hp}{Q:Bool->Hp->Prop}(D:Deep H (.ref a) (.tup (dvL its)))(hd:(Dv.tup (dvL its)).depth<=16)(k:∀H' b,Qk H H'->(b=true↔its≠[])->Q b H'):Qcp WO σ H fun y H1=>QcP 16 true (.ref a) y H1 fun x H2=>∃k',x=.bl k'/\Q k' H2:=by
 refine⟨uQ _,fun l0 hl0=>?_⟩;have S:=Qk.new (o:=.tup []) hl0;refine⟨_,.tup [],D.same S,.tup Qa .nil,hd,_,rfl,k _ _ S ?_⟩;cases its with
 |nil=>simp[dvL,Dv.eqb,Dv.Qaw]
 |cons x xs=>simp[dvL,Dv.eqb,Dv.Qaw]
mutual
theorem Qen:∀y:Ly,y.dv.depth<=3*y.dp+1
 | .box nm p=>by
  rw[Ly.dv,Ly.dp];exact Zu (n:=0) fun d hd=>by
   simp only[List.mem_cons,List.not_mem_nil,or_false]at hd;rcases hd with rfl|rfl|rfl<;>exact Zn _ _
 | .grp nm its=>by
  have h:=yU its;rw[Ly.dv,Ly.dp];have h2:=Zu h;have:=Zu (n:=3*dpL its+3) (ds:=[.str "group",.str nm,.tup (dvL its)]) fun d hd=>by
   simp only[List.mem_cons,List.not_mem_nil,or_false]at hd;rcases hd with rfl|rfl|rfl
   ·exact Zn _ _
   ·exact Zn _ _
   ·exact h2
  omega
 | .tab nm k its=>by
  have h:=yU its;rw[Ly.dv,Ly.dp];have h2:=Zu h;have:=Zu (n:=3*dpL its+3) (ds:=[.str "table",.str nm,.int (k:Nat),.tup (dvL its)]) fun d hd=>by
   simp only[List.mem_cons,List.not_mem_nil,or_false]at hd;rcases hd with rfl|rfl|rfl|rfl
   ·exact Zn _ _
   ·exact Zn _ _
   ·unfold Dv.depth;omega
   ·exact h2
  omega
theorem yU:∀its:List (Bool × Ly),∀d∈dvL its,d.depth<=3*dpL its+2
 |[],d,hd=>by rw[dvL]at hd;cases hd
 |x::xs,d,hd=>by
  have h1:=Qeo x;have h2:=yU xs;rw[dvL]at hd;rw[dpL];rcases List.mem_cons.mp hd with rfl|hd
  ·omega
  ·have:=h2 d hd;omega
theorem Qeo:∀x:Bool × Ly,(dvI x).depth<=3*dpI x+2
 |(o,y)=>by
  have h:=Qen y;rw[dvI,dpI]
  split
  ·have:=Zu (n:=3*y.dp+1) (ds:=[.str "over",y.dv]) fun e he=>by
    simp only[List.mem_cons,List.not_mem_nil,or_false]at he;rcases he with rfl|rfl
    ·exact Zn _ _
    ·exact h
   omega
  ·omega
end
theorem QbG:∀i:Nat,i<4->atI ("abcdef":Str).cps.toList (0+(i:Int))=some (97+i):=by decide+kernel
theorem xt:ZO []=0:=by unfold ZO;rw[if_pos rfl]
section
variable {P:Program}{w:World}{K:PySem.W.Frag}{mg:Str->Option Value}{base:Heap}{f:Addr}{fd:FuncData}{tk:Nat->Tok}{c kr:Nat->Addr}
noncomputable def Wm(K:PySem.W.Frag)(e:Nat):Sp:=fun vs H Q _=>∃(a t r:Addr)(ns:List Int)(c:Int)(deep:Nat),vs=[.ref a,.ref t,.int (deep:Nat)]/\deep<e/\deep<=2/\Bag K H a t r ns c/\c+cb deep<90000/\∀(v:V)(H':Hp)(its:List (Bool × Ly))(c':Int),Bag K H' a t r ns c'->c'<=c+cb deep->Apart t r H H'->Deep H' v (.tup (dvL its))->Good deep its->Q v H'
theorem We(F:Fun K "_law_a_layout" "_law_a_layout" JL f fd):FnOk P w K mg base (CXE P w) 4 f fd ["_law_script","_law_town","_law_deep"] (Wm K 0):=by
 refine Wu F Qx (fun vs H Q E h=>?_) (fun cdv A outer s H vs Q E hr h=>?_)
 ·obtain⟨a,t,r,ns,c,deep,rfl,_⟩:=h;rfl
 ·obtain⟨a,t,r,ns,c,deep,rfl,hd,_⟩:=h;exact absurd hd (Nat.not_lt_zero _)
structure LaySt(K:PySem.W.Frag)(H0 H:Hp)(a t r:Addr)(ns:List Int)(c:Int)(fv:V)(its:List (Bool × Ly))(deep:Nat):Prop where
 B:Bag K H a t r ns c
 A:Apart t r H0 H
 D:Deep H fv (.tup (dvL its))
 P:PB its
 G:∀x∈its,jg deep x.2
theorem wq{H0 H:Hp}{a t r:Addr}{ns:List Int}{c:Int}{fv:V}{its:List (Bool × Ly)}{deep:Nat}{σ:L2.St}{E:XK}{Q:VK}{nm:Str}(L:LaySt K H0 H a t r ns c fv its deep)(h0:σ[0]? =some (some (.ref a)))(h1:σ[1]? =some (some (.ref t)))(h8:σ[8]? =some (some (.str nm)))(hc:c<99000)(k:∀(p:List Nat)(iv:V)(H':Hp),P6 p->LaySt K H0 H' a t r ns (c+1) fv its deep->Deep H' iv (Ly.box nm p).dv->Q iv H'):
  Qcp (Ja (tC (.str "box")) (Ja (Xa 8) (Ja (tOp Qbv (Qca (Ja (tC (.str "9(3)")) (Ja (tC (.str "S99V9")) (Ja (tC (.str "X(4)")) (Ja (tC (.str "AA")) (Ja (tC (.str "Z9.9")) (Ja (tC (.str "X")) WO))))))) (VB (WW K) [] E (Ja (Xa 0) (Ja (Xa 1) (Ja (tC (.int 6)) WO))))) WO))) σ H Q:=by
 have hz:1000<=sizeLine:=by decide
 refine⟨_,h8,?_⟩;refine L.B.Qef (ds:=six) h0 h1 (K7 (K7 (K7 (K7 (K7 (K7 Qbw)))))) rfl (by decide) (by decide) (by omega) fun d x dv H1 hdv Dx B1 A1=>⟨sL3,fun p hp=>?_⟩;have hdv0:=hdv;obtain rfl:=QcZ hdv;obtain rfl:=Dx.Ud;have S:=Qk.new (o:=.tup [.str "box",.str nm,.str (Ue (UZ.getD d []))]) hp;have hd6:d<6:=(List.getElem?_eq_some_iff.mp hdv0).1;refine k (UZ.getD d []) _ _ (QbF hd6) ⟨B1.same S,(L.A.trans A1).trans (Apart.of S),(L.D.keep (L.B.Wz A1)).same S,L.P,L.G⟩ ?_;rw[Ly.dv];exact .tup Qa (.cons .str (.cons .str (.cons .str .nil)))
theorem wu{deep:Nat}{its:List (Bool × Ly)}(hd:deep<=2)(h:∀x∈its,jg deep x.2):(Dv.tup (dvL its)).depth<=16:=by
 have h1:dpL its<=2:=j8 fun x hx=>by
  obtain⟨_,_,_,b4⟩:=j9 deep hd (h x hx);omega
 have:=Zu (yU its);omega
set_option maxHeartbeats 4000000 in
theorem Zc(e:Nat)(F:Fun K "_law_a_layout" "_law_a_layout" JL f fd)(O:Own mg)(hJ:Def P w K mg base 1 "_law_draw" ["_law_script","_law_town","_law_many"] (WW K))(gO:Def P w K mg base 4 "_law_item_size" ["_law_item"] (U1 3))(gw:Def P w K mg base (e+4) "_law_a_layout" ["_law_script","_law_town","_law_deep"] (Wm K e)):FnOk P w K mg base (CXE P w) (e+5) f fd ["_law_script","_law_town","_law_deep"] (Wm K (e+1)):=by
 refine Wu F Qx (fun vs H Q E h=>?_) (fun cdv A outer s H vs Q E hr h=>?_)
 ·obtain⟨a,t,r,ns,c,deep,rfl,_⟩:=h;rfl
 ·obtain⟨a,t,r,ns,c,deep,rfl,hde,hd2,B0,hc,k⟩:=h;have hz:100000<=sizeLine:=by rw[sizeLine_eq];decide
  have hcb:20<=cb deep:=by
   cases deep with
   |zero=>exact Int.le_refl _
   |succ d=>
    have:∀d,20<=cb d:=by
     intro d
     induction d with
     |zero=>exact Int.le_refl _
     |succ d ih=>show 20<=4*cb d+20;omega
    exact this _
  refine⟨_,(Qi (PSy.mk (JB (QO (Qz (QO Qc) (Qz Qd (Qz Qg Qc)))) (JA rfl (Qn (Qm (i:=3) Qx.nd rfl (Or.inl rfl)) (Qn (Qm (i:=4) Qx.nd rfl (Or.inl rfl)) (Qn (Qm (i:=5) Qx.nd rfl (Or.inl rfl)) QV))))))
   (Qi (Vh PassesOwn.never rfl (WL rfl O.range (Qz (QP Jd Qd (hJ.pe hr (by omega) rfl Qu (Qz (pv 0) (Qz (pv 1) (Qz Qd Qc))))) Qc)) (Qm (i:=6) Qx.nd rfl (Or.inl rfl)) (Qi (PSy.mk (Qak (i:=7) (j:=8) rfl Qx.nd rfl rfl (by decide) rfl rfl (Qz (hJ.pe hr (by omega) rfl Qu (Qz (pv 0) (Qz (pv 1) (Qz Qd Qc)))) (Qz (Qw xO (pv 5) (pv 6) (fun _ _=>rfl)) Qc)) rfl))
   (Qi (Zd (PW.pt (ZS (Ql QZ (pv 2) Qd (Qo _)) (J3 (Ql Ye (pv 7) Qd (Qo _))))) (Qs (Qy (i:=9) Qx.nd rfl (Or.inl rfl) (Jt (QF (PEx.mk Qg) (QF (PEx.mk (pv 8)) (QF (yC (KR (KR (KR (KR (KR (KR QA)))))) (PEx.mk (hJ.pe hr (by omega) rfl Qu (Qz (pv 0) (Qz (pv 1) (Qz Qd Qc))))) (fun _ _=>rfl)) QA rfl) rfl) rfl)) rfl rfl)) (Qs (Zd (Ql Ye (pv 7) Qd (Qo _)) (Qs (Qy (i:=9) Qx.nd rfl (Or.inl rfl) (Jt (QF (PEx.mk Qg) (QF (PEx.mk (pv 8)) (QF (PEx.mk (gw.pe hr (by omega) rfl Qu (Qz (pv 0) (Qz (pv 1) (Qz (QP jD (pv 2) Qd) Qc))))) QA rfl) rfl) rfl)) rfl rfl)) (Qs (Qy (i:=9) Qx.nd rfl (Or.inl rfl) (Jt (QF (PEx.mk Qg) (QF (PEx.mk (pv 8)) (QF (Q2 Jd (PEx.mk Qd) (PEx.mk (hJ.pe hr (by omega) rfl Qu (Qz (pv 0) (Qz (pv 1) (Qz Qd Qc)))))) (QF (PEx.mk (gw.pe hr (by omega) rfl Qu (Qz (pv 0) (Qz (pv 1) (Qz (QP jD (pv 2) Qd) Qc))))) QA rfl) rfl) rfl) rfl)) rfl rfl)))))
   (Qi (Qy (i:=10) Qx.nd rfl (Or.inl rfl) (PEx.mk (gO.pe hr (by omega) rfl Qu (Qz (pv 9) Qc))) rfl rfl)
   (Qs (Zd (PW.pt (ZJ (Ql (qP (n:=16) (qW hr)) (pv 3) (QO Qc) (Qo _)) (ZJ (Ql QZ (hJ.pe hr (by omega) rfl Qu (Qz (pv 0) (Qz (pv 1) (Qz Qd Qc)))) Qd (Qo _)) (Zq (Ql xH (pv 10) (pv 4) (Qo _)))))) (Qs (Qy (i:=3) Qx.nd rfl (Or.inl rfl) (Q2 qS (PEx.mk (pv 3)) (Jt (QF (Jt (QF (PEx.mk Qg) (QF (PEx.mk (pv 9)) QA rfl) rfl)) QA rfl))) rfl rfl)) (Qs (PSy.mk (Qak (i:=3) (j:=4) rfl Qx.nd rfl rfl (by decide) rfl rfl (Qz (QP qS (pv 3) (QO (Qz (pv 9) Qc))) (Qz (pv 10) Qc)) rfl)))))))) (fun _=>rfl))
   (Qs (QG (PEx.mk (pv 3)))))),?_⟩
  refine⟨sL0,fun p0 hp0=>⟨sL3,fun p1 hp1=>?_⟩⟩;refine⟨p1,_,rfl,.inl (.inl Qa),rfl,_,_,rfl,_,_,rfl,_,_,rfl,rfl,?_⟩;have S0:=Qk.new (o:=.tup []) hp0;have S01:=Qk.new (o:=.tup [.ref p0,.int 0,.str "abcdef"]) hp1;have L0:LaySt K H (upd (upd H p0 (.tup [])) p1 (.tup [.ref p0,.int 0,.str "abcdef"])) a t r ns c (.ref p0) [] deep:=⟨B0.same (S0.trans S01),Apart.of (S0.trans S01),(Deep.tup Qa (by rw[dvL];exact .nil)).same S01,⟨uQ _,fun j x h=>by simp at h,fun x h=>by simp at h,fun j y h=>by simp at h⟩,fun x hx=>nomatch hx⟩;generalize upd (upd H p0 (.tup [])) p1 (.tup [.ref p0,.int 0,.str "abcdef"])=H1 at L0;clear S0 S01 hp0 hp1;dsimp only[QH,JP,XX,QU];refine L0.B.draw rfl rfl (fun R h=>h) (by decide) (by decide) (by omega) fun n4 H2 hn4 B2 A2=>?_;have L2':LaySt K H H2 a t r ns (c+1) (.ref p0) [] deep:=⟨B2,L0.A.trans A2,L0.D.keep (L0.B.Wz A2),L0.P,L0.G⟩;clear L0 B2 A2;refine⟨_,_,rfl,rfl,_,rfl,by omega,by omega,?_⟩;have en:(1+((n4:Nat):Int)).toNat=n4+1:=by omega
  rw[en];refine Vg (Qfe (lo:=0) (n:=n4+1)) (fun i σ H3=>∃(fv:V)(its:List (Bool × Ly))(c3:Int)(y6 y7 y8 y9 y10:Option V),σ=[some (.ref a),some (.ref t),some (.int (deep:Nat)),some fv,some (.int (ZO its:Nat)),some (.str "abcdef"),y6,y7,y8,y9,y10]/\LaySt K H H3 a t r ns c3 fv its deep/\its.length=i/\c3<=c+1+i*((cb deep-1)/4)) ⟨.ref p0,[],c+1,none,none,none,none,none,by rw[xt];rfl,L2',rfl,by omega⟩ ?_ ?_ ?_
  ·intro i σ H3 _ _;trivial
  ·rintro i v σ H30 H3 hi ⟨fv,its,c3,y6,y7,y8,y9,y10,rfl,L3,hli,hc3⟩ ⟨rfl,rfl⟩;have hi4:i<4:=by omega
   have per:∃q:Int,(cb deep-1)/4=q/\4<=q/\∀d,deep=d+1->q=cb d+4:=by
    refine⟨_,rfl,by omega,fun d hd=>?_⟩;subst hd;show(4*cb d+20-1)/4=cb d+4;omega
   obtain⟨q,hq,hq4,hqd⟩:=per;rw[hq]at hc3 ⊢;have hiq:((i:Nat):Int)*q<=3*q:=Int.mul_le_mul_of_nonneg_right (by omega) (by omega);have h4q:4*q<=cb deep-1:=by omega
   dsimp only[QH,JP,QU];refine QaC (L3.B.draw rfl rfl (fun R h=>h) (by decide) (by decide) (by omega) fun tn H4 htn B4 A4=>?_);have L4:LaySt K H H4 a t r ns (c3+1) fv its deep:=⟨B4,L3.A.trans A4,L3.D.keep (L3.B.Wz A4),L3.P,L3.G⟩;clear L3 B4 A4;refine⟨_,rfl,_,rfl,"abcdef",_,_,rfl,rfl,by decide+kernel,QbG i hi4,?_⟩;refine⟨_,_,rfl,?_⟩;have hlt:(⟨#[97+i]⟩:Str)=KE i:=rfl;rw[hlt];dsimp only;refine Qfm (fun σ' H6=>∃(y:Ly)(iv:V)(c6:Int),σ'=[some (.ref a),some (.ref t),some (.int (deep:Nat)),some fv,some (.int (ZO its:Nat)),some (.str "abcdef"),some (.int (0+(i:Int))),some (.int (tn:Nat)),some (.str (KE i)),some iv,y10]/\LaySt K H H6 a t r ns c6 fv its deep/\Deep H6 iv y.dv/\jg deep y/\y.name=KE i/\c6<=c3+q-1) ?_ (fun rest=>?_);rotate_left
   ·refine⟨_,rfl,rfl,_,rfl,?_⟩;refine ifB (fun z=>?_) (fun z=>?_)
    ·have gy:∀p,P6 p->jg deep (.box (KE i) p):=fun p hp6=>by
      cases deep with
      |zero=>exact⟨_,_,rfl,hp6⟩
      |succ d=>exact .inl ⟨_,_,rfl,hp6⟩
     refine QQ ?_;exact wq L4 rfl rfl rfl (by omega) fun p iv H5 hp6 L5 D5=>rest _ _ ⟨.box (KE i) p,iv,_,rfl,L5,D5,gy p hp6,rfl,by omega⟩
    have hdz:deep≠0:=fun e=>by rw[e]at z;exact absurd z (by decide)
    obtain⟨d,rfl⟩:∃d,deep=d+1:=⟨deep-1,by omega⟩;have hqd':=hqd d rfl;refine⟨_,rfl,_,_,rfl,rfl,_,rfl,?_⟩;refine ifB (fun z3=>?_) (fun z3=>?_)
    ·exact wq L4 rfl rfl rfl (by omega) fun p iv H5 hp6 L5 D5=>rest _ _ ⟨.box (KE i) p,iv,_,rfl,L5,D5,.inl ⟨_,_,rfl,hp6⟩,rfl,by omega⟩
    have ed:(((d+1:Nat):Nat):Int)-1=((d:Nat):Int):=by omega
    refine⟨_,rfl,_,_,rfl,rfl,_,rfl,?_⟩;refine ifB (fun z5=>?_) (fun z5=>?_)
    ·refine⟨_,rfl,_,rfl,_,rfl,_,rfl,_,_,rfl,rfl,a,t,r,ns,c3+1,d,by dsimp only;rw[ed];rfl,by omega,by omega,L4.B,by omega,fun v5 H5 in_ c5 B5 hc5 A5 D5 G5=>⟨sL3,fun p6 hp6=>?_⟩⟩;have S6:=Qk.new (o:=.tup [.str "group",.str (KE i),v5]) hp6;have L5:LaySt K H H5 a t r ns c5 fv its (d+1):=⟨B5,L4.A.trans A5,L4.D.keep (L4.B.Wz A5),L4.P,L4.G⟩;refine rest _ _ ⟨.grp (KE i) in_,.ref p6,c5,rfl,⟨L5.B.same S6,L5.A.trans (Apart.of S6),L5.D.same S6,L5.P,L5.G⟩,?_,.inr (.inl ⟨_,_,rfl,G5⟩),rfl,by omega⟩;rw[Ly.dv];exact .tup Qa (.cons .str (.cons .str (.cons (D5.same S6) .nil)))
    ·refine⟨_,rfl,?_⟩;refine L4.B.draw rfl rfl (fun R h=>h) (by decide) (by decide) (by omega) fun kd H5 hkd B5 A5=>?_;have L5:LaySt K H H5 a t r ns (c3+1+1) fv its (d+1):=⟨B5,L4.A.trans A5,L4.D.keep (L4.B.Wz A5),L4.P,L4.G⟩;refine⟨_,_,rfl,rfl,?_⟩;have ek:(1:Int)+((kd:Nat):Int)=((kd+1:Nat):Int):=by omega
     dsimp only;rw[ek];refine⟨_,rfl,_,rfl,_,rfl,_,_,rfl,rfl,a,t,r,ns,c3+1+1,d,by dsimp only;rw[ed];rfl,by omega,by omega,L5.B,by omega,fun v6 H6 in_ c6 B6 hc6 A6 D6 G6=>⟨sL4,fun p7 hp7=>?_⟩⟩;have S7:=Qk.new (o:=.tup [.str "table",.str (KE i),.int (kd+1:Nat),v6]) hp7;have L6:LaySt K H H6 a t r ns c6 fv its (d+1):=⟨B6,L5.A.trans A6,L5.D.keep (L5.B.Wz A6),L5.P,L5.G⟩;refine rest _ _ ⟨.tab (KE i) (kd+1) in_,.ref p7,c6,rfl,⟨L6.B.same S7,L6.A.trans (Apart.of S7),L6.D.same S7,L6.P,L6.G⟩,?_,.inr (.inr ⟨_,_,_,rfl,by omega,by omega,G6⟩),rfl,by omega⟩;rw[Ly.dv];exact .tup Qa (.cons .str (.cons .str (.cons .int (.cons (D6.same S7) .nil))))
   rintro σ6 H6 ⟨y,iv,c6,rfl,L6,Dy,Gy,hyn,hc6⟩;obtain⟨b1,b2,b3,b4⟩:=j9 deep hd2 Gy;refine⟨_,rfl,iv,(false,y),rfl,by rw[dvI,if_neg (by decide)];exact Dy,by show y.dp<3;omega,by show y.cn<=10000;omega,b3,yS deep Gy,fun H7 S7=>?_⟩;have esz:szI (false,y)=y.sz:=by rw[szI,if_neg (by decide)]
   rw[esz];have L7:LaySt K H H7 a t r ns c6 fv its deep:=⟨L6.B.same S7,L6.A.trans (Apart.of S7),L6.D.same S7,L6.P,L6.G⟩;have Dy7:=Dy.same S7;clear L6 Dy;obtain⟨fa,fx,rfl,gf,tf⟩:=Deep.Wy L7.D;have lfx:=tf.length;rw[Ju,uk]at lfx;have plain:∀H8 c8,LaySt K H H8 a t r ns c8 (.ref fa) its deep->Deep H8 iv y.dv->c8<=c6+1->∀De:Ends,(∀σ' H',(∃(fv:V)(its:List (Bool × Ly))(c3:Int)(y6 y7 y8 y9 y10:Option V),σ'=[some (.ref a),some (.ref t),some (.int (deep:Nat)),some fv,some (.int (ZO its:Nat)),some (.str "abcdef"),y6,y7,y8,y9,y10]/\LaySt K H H' a t r ns c3 fv its deep/\its.length=i+1/\c3<=c+1+((i+1:Nat):Int)*q)->De.nx σ' H')->QdL 3 4 (Ja (tOp yz (Xa 3) (Qcp (Ja (Xa 9) WO))) (Ja (Xa 10) WO)) De [some (.ref a),some (.ref t),some (.int (deep:Nat)),some (.ref fa),some (.int (ZO its:Nat)),some (.str "abcdef"),some (.int (0+(i:Int))),some (.int (tn:Nat)),some (.str (KE i)),some iv,some (.int (y.sz:Nat))] H8:=by
    intro H8 c8 L8 D8 hc8 De hnx;obtain⟨fa',fx',e',gf8,tf8⟩:=Deep.Wy L8.D;cases e';have l8:=tf8.length;rw[Ju,uk]at l8;refine QaC ⟨_,rfl,_,rfl,sL1,fun p9 hp9=>?_⟩;have S9:=Qk.new (o:=.tup [iv]) hp9;refine QcU (S9 _ _ gf8) Qa (tf8.same S9) (.cons (D8.same S9) .nil) (by show fx'.length+1<=sizeLine;omega) fun u10 H10 S10 D10=>?_;refine⟨_,rfl,_,_,rfl,?_⟩;have S810:=S9.trans S10;refine hnx _ _ ⟨u10,its++[(false,y)],c8,_,_,_,_,_,by rw[xr];rfl,⟨L8.B.same S810,L8.A.trans (Apart.of S810),?_,L8.P.add (by omega) (by rw[hyn,hli]),?_⟩,by rw[uj,uu,hli],?_⟩
    ·rw[Ju,uH, ←Ju];have:[(false,y)].map dvI=[y.dv]:=by rw[uN,List.map_nil,dvI,if_neg (by decide)]
     rw[this];exact D10
    ·intro x hx;rcases List.mem_append.mp hx with hx|hx
     ·exact L8.G x hx
     ·rw[List.mem_singleton.mp hx];exact Gy
    ·have:((i+1:Nat):Int)*q=((i:Nat):Int)*q+q:=by push_cast;rw[Int.add_mul,Int.one_mul]
     omega
   dsimp only[QH,JP,XX,QU];refine⟨_,rfl,?_⟩;refine yT L7.D (wu hd2 L7.G) fun H8 b8 S8 hb8=>?_;have L8:LaySt K H H8 a t r ns c6 (.ref fa) its deep:=⟨L7.B.same S8,L7.A.trans (Apart.of S8),L7.D.same S8,L7.P,L7.G⟩;refine ifB (fun z=>?_) (fun z=>?_);rotate_left
   ·exact plain H8 c6 L8 (Dy7.same S8) (by omega) _ (fun _ _ h=>h)
   have hne:=hb8.mp z;refine L8.B.draw rfl rfl (fun R h=>h) (by decide) (by decide) (by omega) fun d9 H9 hd9 B9 A9=>?_;have L9:LaySt K H H9 a t r ns (c6+1) (.ref fa) its deep:=⟨B9,L8.A.trans A9,L8.D.keep (L8.B.Wz A9),L8.P,L8.G⟩;have Dy9:=(Dy7.same S8).keep (L8.B.Wz A9);refine⟨rfl,_,rfl,?_⟩;refine ifB (fun z2=>?_) (fun z2=>?_);rotate_left
   ·exact plain H9 (c6+1) L9 Dy9 (by omega) _ (fun _ _ h=>h)
   refine⟨_,rfl,_,rfl,_,_,rfl,rfl,_,rfl,?_⟩;refine ifB (fun z3=>?_) (fun z3=>?_);rotate_left
   ·exact plain H9 (c6+1) L9 Dy9 (by omega) _ (fun _ _ h=>h)
   have z3:=of_decide_eq_true z3;obtain⟨fa',fx',e',gf9,tf9⟩:=Deep.Wy L9.D;cases e';have l9:=tf9.length;rw[Ju,uk]at l9;refine⟨_,rfl,_,rfl,sL2,fun p10 hp10=>⟨sL1,fun p11 hp11=>?_⟩⟩;have S10:=Qk.new (o:=.tup [.str "over",iv]) hp10;have S11:=Qk.new (o:=.tup [.ref p10]) hp11;have D11:Deep (upd (upd H9 p10 (.tup [.str "over",iv])) p11 (.tup [.ref p10])) (.ref p10) (.tup [.str "over",y.dv]):=(Deep.tup Qa (.cons .str (.cons (Dy9.same S10) .nil))).same S11;refine QcU ((S10.trans S11) _ _ gf9) Qa (tf9.same (S10.trans S11)) (.cons D11 .nil) (by show fx'.length+1<=sizeLine;omega) fun u12 H12 S12 D12=>?_;have S912:=(S10.trans S11).trans S12;refine⟨u12,its++[(true,y)],c6+1,_,_,_,_,_,by rw[jh hne];rfl,⟨L9.B.same S912,L9.A.trans (Apart.of S912),?_,L9.P.Qfn hne (by omega) (by rw[hyn,hli]) (by omega),?_⟩,by rw[uj,uu,hli],?_⟩
   ·rw[Ju,uH, ←Ju];have:[(true,y)].map dvI=[.tup [.str "over",y.dv]]:=by rw[uN,List.map_nil,dvI,if_pos rfl]
    rw[this];exact D12
   ·intro x hx;rcases List.mem_append.mp hx with hx|hx
    ·exact L9.G x hx
    ·rw[List.mem_singleton.mp hx];exact Gy
   ·have:((i+1:Nat):Int)*q=((i:Nat):Int)*q+q:=by push_cast;rw[Int.add_mul,Int.one_mul]
    omega
  ·rintro σ H3 ⟨fv,its,c3,y6,y7,y8,y9,y10,rfl,L3,hli,hc3⟩;refine⟨_,rfl,k _ _ its c3 L3.B ?_ L3.A L3.D ((XE _ _).mpr ⟨fun z=>by rw[z]at hli;simp at hli,L3.P,L3.G⟩)⟩;have:n4=0\/n4=1\/n4=2\/n4=3:=by omega
   rcases this with rfl|rfl|rfl|rfl<;>(push_cast at hc3;omega)
end
end Lw
namespace L2
open PySem PySem.Spec PyProof.Rows
structure PTx(X:Cx)(e:Expr)(t:TT):Prop where
 pt:PT X e t
structure PWx(X:Cx)(e:Expr)(t:TT):Prop where
 pw:PW X e t
section
variable {X:Cx}{E:XK}{o e f a b c:Expr}{es rest:List Expr}{ks:List Keyword}{pos p apos cpos:Pos}{te ta tb to:TE}{t1 t2:TT}{t:TA}{k k':Nat}{x:Str}{ps:List Str}{sp:Sp}{T id:String}{name:Str}{r:V->List V->Hp->VK->Prop}
theorem QbH(h:PTx X a t1):PWx X (.BoolOp .Or [a] pos) t1:=⟨J3 h.pt⟩
theorem Qc0(h:PTx X a t1)(hb:PWx X (.BoolOp .Or (b::rest) pos) t2):PWx X (.BoolOp .Or (a::b::rest) pos) (tOr t1 t2):=⟨ZS h.pt hb.pw⟩
theorem Qc1(h:PWx X e t1):PTx X e t1:=⟨h.pw.pt⟩
theorem YU{s1 s2:List Stmt}{u1 u2:TS}(hc:PTx X c t1)(ha:PSx X s1 u1)(hb:PSx X s2 u2):PSy X (.If c s1 s2 pos) (qh t1 u1 u2):=⟨Jh hc.pt ha.ps hb.ps⟩
theorem wv(D:Def X.prog X.w X.K X.mg X.base k x ps sp)(hr:Room k' X.A)(hk:k<=k')(hg:Gl X x)(hx:Passes (CXE X.prog X.w) X E)(ha:PAx X [e,f] t)(h:isStar e=false)(h2:isStar f=false)(hdb:(x==("__debug__":Str))=false):PEx X (.Call (.Name x p) [e,f] [] pos) (VB sp [] E t):=⟨D.pe hr hk hg hx ha.pa hdb (X9 h) (by rw[X9 h2];rfl)⟩
theorem yV(he:PEx X e te)(hs:swapsWith e none pos.line X.env=pure false):PSy X (.Expr e pos) (Qck te):=⟨Jw he.pe hs⟩
theorem QbI(pa:PlainAttrs T)(slot:Slot T name id)(hty:typeOf (.builtin id)=pure (.type "method_descriptor"))(hm:MtR X id r)(ho:PEx X o to)(ha:PAx X [e] t)(h:isStar e=false)(hbase:attributeBase o name X.env (eval o X.env)=eval o X.env)(hline:(apos.endLine==cpos.line)=true):PEx X (.Call (.Attribute o name apos) [e] [] cpos) (tBM X.K T r to t):=⟨kZ pa slot hty hm ho.pe ha.pa h hbase hline⟩
end
open Builtin in
section
variable {P:Program}{w:World}{K:PySem.W.Frag}{mg:Str->Option Value}{base h:Heap}{x:Str}{st:Stmt}{k:Nat}{sp:Sp}{p1 p2 p3 p4:Str}
theorem DefAt.d0(D:DefAt K x st)(X:K.In h)(G:h.Ns mainGlobals mg)(hok:∀f fd,Fun K x x st f fd->FnOk P w K mg base (CXE P w) k f fd [] sp)
  (hb:∀(kV doc pm:Value)(an:Option Addr)(cdv ct:Value),bindArgs (fnOf x x (JR st) (Q3 st) (Qf st) .none kV doc pm an cdv ct) ⟨[],[]⟩=pure []):Def P w K mg base k x [] sp:=
 D.def X G hok fun kV doc pm an cdv ct us hl=>match us,hl with|[],_=>hb kV doc pm an cdv ct
theorem DefAt.d1(D:DefAt K x st)(X:K.In h)(G:h.Ns mainGlobals mg)(hok:∀f fd,Fun K x x st f fd->FnOk P w K mg base (CXE P w) k f fd [p1] sp)
  (hb:∀(kV doc pm:Value)(an:Option Addr)(cdv ct:Value)(u1:Value),bindArgs (fnOf x x (JR st) (Q3 st) (Qf st) .none kV doc pm an cdv ct) ⟨[u1],[]⟩=pure [(p1,u1)]):Def P w K mg base k x [p1] sp:=
 D.def X G hok fun kV doc pm an cdv ct us hl=>match us,hl with|[u1],_=>hb kV doc pm an cdv ct u1
theorem DefAt.d2(D:DefAt K x st)(X:K.In h)(G:h.Ns mainGlobals mg)(hok:∀f fd,Fun K x x st f fd->FnOk P w K mg base (CXE P w) k f fd [p1,p2] sp)
  (hb:∀(kV doc pm:Value)(an:Option Addr)(cdv ct:Value)(u1 u2:Value),bindArgs (fnOf x x (JR st) (Q3 st) (Qf st) .none kV doc pm an cdv ct) ⟨[u1,u2],[]⟩=pure [(p1,u1),(p2,u2)]):Def P w K mg base k x [p1,p2] sp:=
 D.def X G hok fun kV doc pm an cdv ct us hl=>match us,hl with|[u1,u2],_=>hb kV doc pm an cdv ct u1 u2
theorem DefAt.d3(D:DefAt K x st)(X:K.In h)(G:h.Ns mainGlobals mg)(hok:∀f fd,Fun K x x st f fd->FnOk P w K mg base (CXE P w) k f fd [p1,p2,p3] sp)
  (hb:∀(kV doc pm:Value)(an:Option Addr)(cdv ct:Value)(u1 u2 u3:Value),bindArgs (fnOf x x (JR st) (Q3 st) (Qf st) .none kV doc pm an cdv ct) ⟨[u1,u2,u3],[]⟩=pure [(p1,u1),(p2,u2),(p3,u3)]):Def P w K mg base k x [p1,p2,p3] sp:=
 D.def X G hok fun kV doc pm an cdv ct us hl=>match us,hl with|[u1,u2,u3],_=>hb kV doc pm an cdv ct u1 u2 u3
end
open Builtin Builtin.Str
section
variable {X:Cx}
theorem KG:∀(l:List (Str × Tok)),Vals ((l.map (·.1)).map V.str) (strValues l)
 |[]=>.nil
 |(x,t)::r=>.cons ⟨t,rfl⟩ (KG r)
theorem YV:MtR X "str.split" (fun x vs H Q=>∃z y,x=.str z/\vs=[.str y]/\(y.length==0)=false/\z.length<=sizeLine/\(Txt.split z y).length<=sizeLine/\∀p,H p=none->Q (.ref p) (upd H p (.lst ((Txt.split z y).map V.str)))):=by
 intro pins s σ H x vs v us Q I rx rv h;obtain⟨z,y,rfl,rfl,hy,hl,hn,q⟩:=h;obtain⟨t,rfl⟩:=rx;obtain⟨u,rfl,t',rfl⟩:=vals1 rv;have hf:H s.heap.objs.size=none:=I.hok.fresh (uq _);cases h1:(decide (z.length<y.length)||decide (strKind z<strKind y))with
 |true=>
  have e:Txt.split z y=[z]:=if_pos h1;rw[e]at q;refine call_meets F.slot_str_split (typeIs_str _ _ _) F.entry_str_split (F.args_str_split_2 _ _) (meets_str_split_cannot_occur z y t t' h1) ?_;refine⟨.ref s.heap.objs.size,upd H s.heap.objs.size (.lst [.str z]),I.laid (t':=s.toks) (fun b ob q=>Heap.get?_push_of_some _ q) (uq _) ?_,rfl,q _ hf⟩;exact⟨by show 1<=sizeLine;decide,[.str z t],0,.cons ⟨_,rfl⟩ .nil,Heap.get?_push_size _ rfl⟩
 |false=>
  cases hf2:(occurrences z y 0 z.length (z.length+1)).isEmpty with
  |true=>
   have e:Txt.split z y=[z]:=(if_neg (ne_true_of_eq_false h1)).trans (if_pos hf2);rw[e]at q;refine call_meets F.slot_str_split (typeIs_str _ _ _) F.entry_str_split (F.args_str_split_2 _ _) (meets_str_split_not_found z y t t' h1 hy hf2) ?_;refine⟨.ref s.heap.objs.size,upd H s.heap.objs.size (.lst [.str z]),I.laid (t':=s.toks) (fun b ob q=>Heap.get?_push_of_some _ q) (uq _) ?_,rfl,q _ hf⟩;exact⟨by show 1<=sizeLine;decide,[.str z t],0,.cons ⟨_,rfl⟩ .nil,Heap.get?_push_size _ rfl⟩
  |false=>
   have e:Txt.split z y=partsBetween z (occurrences z y 0 z.length (z.length+1)) y.length:=(if_neg (ne_true_of_eq_false h1)).trans (if_neg (ne_true_of_eq_false hf2));rw[e]at q hn;refine call_meets F.slot_str_split (typeIs_str _ _ _) F.entry_str_split (F.args_str_split_2 _ _) (meets_str_split_sep z y t t' h1 hy hf2 hl hn) ?_;generalize partsBetween z (occurrences z y 0 z.length (z.length+1)) y.length=ps at q hn;refine⟨.ref s.heap.objs.size,upd H s.heap.objs.size (.lst (ps.map V.str)),I.laid (t':=s.toks+ps.length) (fun b ob q=>Heap.get?_push_of_some _ q) (uq _) ?_,rfl,q _ hf⟩;have hv:=KG (numbered s.toks ps);rw[numbered_texts, ←strsFrom_eq]at hv;exact⟨by rw[uk];exact hn,strsFrom s.toks ps,0,hv,Heap.get?_push_size _ rfl⟩
theorem U4:MtR X "str.lstrip" (Qd5 QeK fun z y=>.str (Txt.lstripChars z y)):=by
 intro pins s σ H x vs v us Q I rx rv h;obtain⟨z,y,rfl,rfl,hl,q⟩:=h;obtain⟨t,rfl⟩:=rx;obtain⟨u,rfl,t',rfl⟩:=vals1 rv;exact call_gives F.slot_str_lstrip F.entry_str_lstrip (F.args_str_lstrip_2 _ _) (gives_str_lstrip_chars z y t t') (post_val_or_made (fun _=>fits_stripped _ _ _ hl) fun t2 k=>⟨.str _,H,I.tok k,⟨t2,rfl⟩,q⟩)
end
end L2
namespace K42
open PySem K02
open Builtin Builtin.Str StrLaws
noncomputable def spl(c:Nat):List Nat->List (List Nat)
 |[]=>[[]]
 |x::r=>if x=c then[]::spl c r else(match spl c r with|[]=>[[x]]|p::ps=>(x::p)::ps)
theorem XS(c:Nat)(l:List Nat):spl c l≠[]:=by
 cases l with
 |nil=>exact fun z=>nomatch z
 |cons x r=>
  rw[spl]
  split
  ·exact fun z=>nomatch z
  ·split<;>exact fun z=>nomatch z
noncomputable def glue(c:Nat):List (List Nat)->List Nat
 |[]=>[]
 |[p]=>p
 |p::q::ps=>p++c::glue c (q::ps)
theorem zb(c:Nat):∀(p:List Nat),c∉p->spl c p=[p]
 |[],_=>rfl
 |x::r,h=>by
  rw[spl,if_neg (fun z=>h (by rw[z];exact uA)),zb c r (fun z=>h (uz _ z))]
theorem ji(c:Nat):∀(p r:List Nat),c∉p->spl c (p++c::r)=p::spl c r
 |[],r,_=>by rw[uK,spl,if_pos rfl]
 |x::p,r,h=>by
  rw[uJ,spl,if_neg (fun z=>h (by rw[z];exact uA)),ji c p r (fun z=>h (uz _ z))]
theorem YW(c:Nat):∀(ps:List (List Nat)),ps≠[]->(∀p∈ps,c∉p)->spl c (glue c ps)=ps
 |[],h,_=>absurd rfl h
 |[p],_,h=>zb c p (h p uA)
 |p::q::ps,_,h=>by
  rw[glue,ji c p _ (h p uA),YW c (q::ps) (fun z=>nomatch z) fun x hx=>h x (uz _ hx)]
theorem Vq(c:Nat):∀ps:List Str,PySem.Str.join ⟨#[c]⟩ ps=tx (glue c (ps.map fun p=>p.cps.toList))
 |[]=>rfl
 |[p]=>by rw[uN,List.map_nil,glue];exact ZC p
 |p::q::ps=>by
  have ih:=Vq c (q::ps);show p++⟨#[c]⟩++PySem.Str.join ⟨#[c]⟩ (q::ps)=_;rw[ih];show _=tx (p.cps.toList++c::glue c ((q::ps).map fun p=>p.cps.toList))
  conv=>lhs;rw[ZC p]
  rw[show(⟨#[c]⟩:Str)=tx [c]from rfl,Js,Js,uI];rfl
theorem YX(c:Nat)(l:List Nat):Txt.split (tx l) ⟨#[c]⟩=(spl c l).map tx:=by
 by_cases hl:l=[]
 ·subst hl;exact if_pos rfl
 have h1:=join_split (tx l) ⟨#[c]⟩;have h2:=split_free (tx l) c;generalize Txt.split (tx l) ⟨#[c]⟩=ps at h1 h2;rw[Vq]at h1;have h1:=VZ h1;have hne:ps≠[]:=fun z=>by rw[z]at h1;exact hl h1.symm
 have h3:=YW c (ps.map fun p=>p.cps.toList) (by simpa using hne) (fun p hp=>by obtain⟨q,hq,rfl⟩:=List.mem_map.mp hp;exact h2 q hq);rw[h1]at h3;rw[h3,uM]
 conv=>lhs;rw[←List.map_id ps]
 exact List.map_congr_left fun p _=>ZC p
theorem YY(c:Nat):∀l:List Nat,(spl c l).length<=l.length+1
 |[]=>uq _
 |x::r=>by
  have ih:=YY c r;rw[spl,uw]
  split
  ·rw[uw];omega
  ·cases e:spl c r with
   |nil=>exact absurd e (XS c r)
   |cons q ps=>rw[e]at ih;show(q::ps).length<=_;omega
theorem U5(l:List Nat):Txt.lstripChars (tx l) " "=tx (l.dropWhile (· ==32)):=by
 have hg:((" ":Str).cps.contains:Nat->Bool)=fun c=>c==32:=by
  funext c
  have e:(" ":Str)=tx [32]:=by decide+kernel
  rw[e];show(#[32]:Array Nat).contains c=_;simp;rfl
 have ht:(l.takeWhile fun c=>c==32).length<=l.length:=by
  have:=List.takeWhile_append_dropWhile (p:=fun c=>c==32) (l:=l);have h2:=congrArg List.length this;rw[uj]at h2;omega
 have hd:l.drop (l.takeWhile fun c=>c==32).length=l.dropWhile fun c=>c==32:=by
  have e:=List.takeWhile_append_dropWhile (p:=fun c=>c==32) (l:=l);generalize l.takeWhile (fun c=>c==32)=a at e;generalize l.dropWhile (fun c=>c==32)=b at e;rw[←e,List.drop_left' rfl]
 unfold Txt.lstripChars Txt.stripBy stripSame stripped stripLo stripHi;rw[hg];simp only[if_true,Qq,Bool.false_eq_true,if_false];show(if((l.takeWhile fun c=>c==32).length==0&&l.length==l.length)=true then tx l else strSub (tx l) (l.takeWhile fun c=>c==32).length l.length)=_
 by_cases h0:(l.takeWhile fun c=>c==32).length=0
 ·rw[h0];rw[h0]at hd;rw[if_pos (by simp), ←hd,List.drop_zero]
 ·rw[if_neg (by simp[h0])];rw[ZC (strSub _ _ _),strSub_toList];show tx ((l.drop _).take _)=_;rw[hd,List.take_of_length_le];have h3:=congrArg List.length hd;rw[uC]at h3;omega
end K42
namespace Lw
open PySem PySem.Spec PyProof.Rows L2 K02 K04 K42
open Builtin Builtin.Str StrLaws
noncomputable def ovS:List Nat:=[111,118,101,114]
noncomputable def tbS:List Nat:=[116,97,98,108,101]
noncomputable def gpS:List Nat:=[103,114,111,117,112]
noncomputable def bxS:List Nat:=[98,111,120]
theorem QeP:("over":Str)=tx ovS:=by decide+kernel
theorem Qc2:("table":Str)=tx tbS:=by decide+kernel
theorem QdD:("group":Str)=tx gpS:=by decide+kernel
theorem Qep:("box":Str)=tx bxS:=by decide+kernel
theorem Qeq:(" ":Str)=⟨#[32]⟩:=by decide+kernel
theorem QeQ:("\n":Str)=⟨#[10]⟩:=by decide+kernel
theorem V9(a b:List Nat):decide (V.str (tx a)=V.str (tx b))=decide (a=b):=by
 by_cases h:a=b
 ·rw[h,uo rfl,uo rfl]
 ·rw[um h,um (fun z=>h (VZ (V.str.inj z)))]
noncomputable def vw(l:List Nat):List Nat:=l.dropWhile (· ==32)
noncomputable def dpt(l:List Nat):Nat:=(l.length-(vw l).length)/2
noncomputable def wds(l:List Nat):List (List Nat):=spl 32 (vw l)
noncomputable def isO(l:List Nat):Bool:=decide ((wds l).headD []=ovS)&&decide (1<(wds l).length)
noncomputable def J2(l:List Nat):List (List Nat):=if isO l=true then(wds l).tail else wds l
noncomputable def QaD(p:List Nat):Bool:=decide (p≠[]/\NumText.AllDigits p)
noncomputable def QbJ(l:List Nat):Bool:=decide ((J2 l).headD []=tbS)&&QaD ((J2 l).getLastD [])
noncomputable def sW(p:List Nat):Wx:=.str (tx p)
noncomputable def ptW(l:List Nat):List Wx:=if QbJ l=true then(J2 l).dropLast.map sW++[.int (NumText.digitsVal ((J2 l).getLastD []):Nat)]else(J2 l).map sW
noncomputable def wh(b:Bool)(d:Wx):Wx:=if b=true then .tup [.str "over",d]else d
theorem WB(l:List Nat):(vw l).length<=l.length:=by
 have:=congrArg List.length (List.takeWhile_append_dropWhile (p:=fun c=>c==32) (l:=l));rw[uj]at this;show(l.dropWhile fun c=>c==32).length<=_;omega
theorem Vr(l:List Nat):J2 l≠[]:=by
 unfold J2
 split
 ·rename_i h;unfold isO at h;rw[Bool.and_eq_true]at h;have h2:=of_decide_eq_true h.2;intro z;have:=congrArg List.length z;rw[List.length_tail,List.length_nil]at this;omega
 ·exact XS _ _
theorem ww(l:List Nat):(wds l).length<=l.length+1:=Nat.le_trans (YY _ _) (by have:=WB l;omega)
theorem WC(c:Nat):∀(l p:List Nat),p∈spl c l->p.length<=l.length
 |[],p,h=>by rw[List.mem_singleton.mp h];exact uq _
 |x::r,p,h=>by
  rw[spl]at h;rw[uw]
  split at h
  ·rcases List.mem_cons.mp h with rfl|h
   ·exact uQ _
   ·have:=WC c r p h;omega
  ·cases e:spl c r with
   |nil=>exact absurd e (XS c r)
   |cons q ps=>
    rw[e]at h;rcases List.mem_cons.mp h with rfl|h
    ·have:=WC c r q (by rw[e];exact uA);rw[uw];omega
    ·have:=WC c r p (by rw[e];exact uz _ h);omega
theorem WD{l p:List Nat}(h:p∈J2 l):p.length<=l.length:=by
 have hs:=WB l;have:p∈wds l:=by
  unfold J2 at h
  split at h
  ·exact List.mem_of_mem_tail h
  ·exact h
 have:=WC _ _ _ this;omega
theorem YZ(l:List Nat):(J2 l).length<=l.length+1:=by
 have:=ww l;unfold J2
 split
 ·rw[List.length_tail];omega
 ·exact this
theorem jj{t:TE}{σ:L2.St}{H:Hp}{Q:VK}(v:V)(H1:Hp)(rest:Q v H1)(h:∀Q':VK,Q' v H1->t σ H Q'):t σ H Q:=h Q rest
theorem zc{t:TE}{σ:L2.St}{H:Hp}{Q:VK}(G:V->Hp->Prop)(rest:∀v H1,G v H1->Q v H1) (h:∀Q':VK,(∀v H1,G v H1->Q' v H1)->t σ H Q'):t σ H Q:=h Q rest
theorem wx{t:TT}{σ:L2.St}{H:Hp}{Q:Bool->Hp->Prop}(b:Bool)(H1:Hp)(rest:Q b H1)(h:∀Q':Bool->Hp->Prop,Q' b H1->t σ H Q'):t σ H Q:=h Q rest
theorem Qc3{xs:List V}(h:xs≠[]):Vz xs (some 1) none=xs.tail:=by
 cases xs with
 |nil=>exact absurd rfl h
 |cons x r=>
  unfold Vz;have e:HT.sIx (x::r).length 0 (some 1)=1:=by
   unfold HT.sIx;simp
  rw[e];show(r.take _)=r;exact List.take_of_length_le (show r.length<=(r.length+1)-1 by omega)
theorem Ke{α:Type}(xs:List α)(x:α):atI (xs++[x]) (-1)=some x:=by
 unfold atI ixN;have h2: -(((xs++[x]).length:Nat):Int)<= -1:=by rw[uj,uu];omega
 rw[if_neg (by decide),if_pos h2];have h3:((-1:Int)+((xs++[x]).length:Nat)).toNat=xs.length:=by rw[uj,uu];omega
 rw[h3];simp
section
variable {P:Program}{w:World}{K:PySem.W.Frag}{mg:Str->Option Value}{base:Heap}{f:Addr}{fd:FuncData}{tk:Nat->Tok}{c kr:Nat->Addr}
noncomputable def yW:Sp:=fun vs H Q _=>∃(b:Bool)(v:V)(d:Wx),vs=[.bl b,v]/\Ws H v d/\∀u H',Qk H H'->Ws H' u (wh b d)->Q u H'
theorem Y0(F:Fun K "whole_item" "whole_item" Xn f fd):FnOk P w K mg base (CXE P w) 1 f fd ["is_over","item"] yW:=by
 refine Wu F Yu (fun vs H Q E h=>?_) (fun cdv A outer s H vs Q E hr h=>?_)
 ·obtain⟨b,v,d,rfl,_⟩:=h;rfl
 ·obtain⟨b,v,d,rfl,D,k⟩:=h;have hz:1000<=sizeLine:=by decide
  refine⟨_,(Qs (QG (Wk (Ji (pv 0) (fun _=>rfl)) (Jt (QF (PEx.mk Qg) (QF (PEx.mk (pv 1)) QA rfl) rfl)) (PEx.mk (pv 1))))),?_⟩;refine⟨_,rfl,b,rfl,?_⟩;cases b with
  |true=>
   refine QQ ⟨_,rfl,sL2,fun p hp=>?_⟩;have S:=Qk.new (o:=.tup [.str "over",v]) hp;exact k _ _ S (.tup Qa (.cons .str (.cons (D.same S) .nil)))
  |false=>exact QN ⟨_,rfl,k _ _ (Qk.refl _) D⟩
theorem zd{H:Hp}{v:V}{d:Wx}:∀{vs:List V}{ds:List Wx},Wss H vs ds->Ws H v d->Wss H (vs++[v]) (ds++[d])
 |_,_,.nil,h=>.cons h .nil
 |_,_,.cons a b,h=>.cons a (zd b h)
theorem wy{H:Hp}:∀ps:List (List Nat),Wss H ((ps.map tx).map V.str) (ps.map sW)
 |[]=>.nil
 |p::ps=>.cons .str (wy ps)
noncomputable def QbK:Sp:=fun vs H Q _=>∃l:List Nat,vs=[.str (tx l)]/\l.length<=400/\∀q u H',Qk H H'->H' q=some (.tup [.bl (isO l),u])->Ws H' u (.tup (ptW l))->Q (.ref q) H'
theorem jk(F:Fun K "parts_of" "parts_of" K3 f fd)(O:Own mg)(OT:mg "tuple"=none)(gr:Def P w K mg base 1 "is_figures" ["text"] Yw)(gC:Def P w K mg base 2 "number_of" ["text"] yh):FnOk P w K mg base (CXE P w) 3 f fd ["line"] QbK:=by
 refine Wu F Z4 (fun vs H Q E h=>?_) (fun cdv A outer s H vs Q E hr h=>?_)
 ·obtain⟨l,rfl,_⟩:=h;rfl
 ·obtain⟨l,rfl,hl,k⟩:=h;have hz:100000<=sizeLine:=by rw[sizeLine_eq];decide
  have hs:=WB l;have hw:=ww l;refine⟨_,(Qi (Qy (i:=1) Z4.nd rfl (Or.inl rfl) (PEx.mk (JQ plainAttrs_str slot_str_split type_str_split YV (JQ plainAttrs_str slot_str_lstrip type_str_lstrip U4 (pv 0) (Qz Qg Qc)) (Qz Qg Qc))) rfl rfl)
   (Qi (Qy (i:=2) Z4.nd rfl (Or.inl rfl) (PEx.mk (ZK (Q9 QZ (Qw Zk (pv 1) Qd (fun _ _=>rfl)) Qg (Qo _)) (XI (Q9 KM (Qj Qr rfl O.len PySem.boot_len (Qz (pv 1) Qc)) Qd (Qo _))))) rfl rfl)
   (Qi (Qy (i:=3) Z4.nd rfl (Or.inl rfl) (Wk (Ji (pv 2) (fun _=>rfl)) (PEx.mk (QS ZT (pv 1) (QX Qd) Jl)) (PEx.mk (pv 1))) rfl rfl)
   (Qi (Zd (PW.pt (ZJ (Ql QZ (Qw Zk (pv 3) Qd (fun _ _=>rfl)) Qg (Qo _)) (Zq (Zp (gr.pe hr (by decide) rfl Qu (Qz (Qw Zk (pv 3) (KL ZL Qd) (fun _ _=>rfl)) Qc)))))) (Qs (PSy.mk (JB (gC.pe hr (by decide) rfl Qu (Qz (Qw Zk (pv 3) (KL ZL Qd) (fun _ _=>rfl)) Qc)) (Qaj (pv 3) (KL ZL Qd) set_list)))) JN)
   (Qs (QG (Jt (QF (PEx.mk (pv 2)) (QF (PEx.mk (J4 ZV rfl OT PyProof.Rows.boot_tuple (Qz (pv 3) Qc))) QA rfl) rfl)))))))),?_⟩
  refine⟨_,rfl,rfl,tx l," ",rfl,rfl,by show(tx l).length<=sizeLine;rw[Qq];omega,?_⟩;dsimp only;rw[U5];have es:Txt.split (tx (l.dropWhile fun c=>c==32)) " "=(wds l).map tx:=by rw[Qeq,YX];rfl
  refine⟨rfl,_,_,rfl,rfl,by decide+kernel,?_,?_,fun p hp=>?_⟩
  ·rw[Qq];show(vw l).length<=_;omega
  ·rw[es,uk];omega
  rw[es];have S1:=Qk.new (o:=.lst (((wds l).map tx).map V.str)) hp;have g1:upd H p (.lst (((wds l).map tx).map V.str)) p=some (.lst (((wds l).map tx).map V.str)):=Qa;generalize upd H p (.lst (((wds l).map tx).map V.str))=H1 at S1 g1;dsimp only[QH,JP,XX,QU];obtain⟨w0,ws,ew⟩:∃w0 ws,wds l=w0::ws:=by
   cases e:wds l with
   |nil=>exact absurd e (XS _ _)
   |cons a b=>exact⟨a,b,rfl⟩
  have hwl:(((wds l).map tx).map V.str).length=(wds l).length:=by rw[uk,uk]
  have hw0:(((wds l).map tx).map V.str)[0]? =some (.str (tx w0)):=by rw[ew];rfl
  refine jj (.bl (isO l)) H1 ?_ (fun Q' q'=>?_);rotate_left
  ·refine⟨_,rfl,p,_,0,_,rfl,rfl,.inl g1,QK (j:=0) hw0,rfl,_,rfl,?_⟩;rw[QeP,V9];have e1:(wds l).headD []=w0:=by rw[ew];rfl
   unfold isO at q';rw[e1]at q';refine ifB (fun h1=>?_) (fun h1=>?_)
   ·rw[h1,Bool.true_and]at q';refine⟨_,rfl,p,_,rfl,.inl (.inl (.inl g1)),_,_,rfl,rfl,?_⟩;rw[hwl];have ed:decide (((1:Nat):Int)<(((wds l).length:Nat):Int))=decide (1<(wds l).length):=by
     by_cases h:1<(wds l).length
     ·rw[uo h,uo (by omega)]
     ·rw[um h,um (by omega)]
    rw[←ed]at q';exact q'
   ·rw[h1,Bool.false_and]at q';exact q'
  refine zc (fun v H2=>∃q,v=.ref q/\H q=none/\Qk H H2/\H2 q=some (.lst (((J2 l).map tx).map V.str))) (fun v H2 hv=>?_) (fun Q' q'=>?_);rotate_left
  ·refine⟨_,rfl,isO l,rfl,?_⟩;refine ifB (fun h1=>?_) (fun h1=>?_)
   ·refine⟨_,rfl,_,rfl,p,_,rfl,.inl (.inl g1),fun q hq=>?_⟩;have S2:=Qk.new (o:=.lst (Vz (((wds l).map tx).map V.str) (some 1) none)) hq;refine q' _ _ ⟨q,rfl,S1.free hq,S1.trans S2,?_⟩;rw[Qa,Qc3 (by rw[ew];exact fun z=>nomatch z)];unfold J2;rw[if_pos h1,List.map_tail,List.map_tail]
   ·refine⟨_,rfl,q' _ _ ⟨p,rfl,hp,S1,?_⟩⟩;rw[g1];unfold J2;rw[if_neg (by rw[h1];decide)]
  obtain⟨q,rfl,hqn,S2,g2⟩:=hv;have hpl:=YZ l;obtain⟨ini,las,ep⟩:∃ini las,J2 l=ini++[las]:=by
   rcases List.eq_nil_or_concat (J2 l)with e|⟨a,b,e⟩
   ·exact absurd e (Vr l)
   ·exact⟨a,b,by rw[e,List.concat_eq_append]⟩
  obtain⟨p0,ps,ep0⟩:∃p0 ps,J2 l=p0::ps:=by
   cases e:J2 l with
   |nil=>exact absurd e (Vr l)
   |cons a b=>exact⟨a,b,rfl⟩
  have hp0:(((J2 l).map tx).map V.str)[0]? =some (.str (tx p0)):=by rw[ep0];rfl
  have hlas:atI (((J2 l).map tx).map V.str) (-1)=some (.str (tx las)):=by
   rw[ep,uH,uH];exact Ke _ _
  have hll:las.length<=l.length:=WD (by rw[ep];exact ux _ uA);have ehd:(J2 l).headD []=p0:=by rw[ep0];rfl
  have ela:(J2 l).getLastD []=las:=by rw[ep];simp
  dsimp only[qh];refine wx (QbJ l) H2 ?_ (fun Q' q'=>?_);rotate_left
  ·refine⟨_,rfl,q,_,0,_,rfl,rfl,.inl g2,QK (j:=0) hp0,rfl,_,rfl,?_⟩;rw[Qc2,V9];unfold QbJ at q';rw[ehd,ela]at q';refine ifB (fun h1=>?_) (fun h1=>?_)
   ·rw[h1,Bool.true_and]at q';refine⟨_,rfl,1,rfl,q,_, -1,_,rfl,rfl,.inl g2,hlas,tx las,rfl,by rw[Qq];omega,_,rfl,?_⟩;exact q'
   ·rw[h1,Bool.false_and]at q';exact q'
  refine ifB (fun h1=>?_) (fun h1=>?_)
  ·have hf:las≠[]/\NumText.AllDigits las:=by
    unfold QbJ QaD at h1;rw[ela,Bool.and_eq_true]at h1;exact of_decide_eq_true h1.2
   have h1l:1<=las.length:=List.length_pos_iff.mpr hf.1;refine⟨_,rfl,1,rfl,q,_, -1,_,rfl,rfl,.inl g2,hlas,tx las,rfl,hf.2,by rw[Qq];exact h1l,by rw[Qq];omega,?_⟩;have hlen:(((J2 l).map tx).map V.str).length=ini.length+1:=by rw[uk,uk,ep,uj,uu]
   have hix:ixN (((J2 l).map tx).map V.str).length (-1)=some ini.length:=by
    rw[hlen];unfold ixN;rw[if_neg (by decide),if_pos (by omega)]
    congr 1
    omega
   refine⟨_,rfl,1,rfl,q,_, -1,_,rfl,rfl,g2,hix,?_⟩;have eset:(((J2 l).map tx).map V.str).set ini.length (.int (NumText.digitsVal las:Nat))=((ini.map tx).map V.str)++[.int (NumText.digitsVal las:Nat)]:=by
    rw[ep,uH,uH,List.set_append_right _ _ (by rw[uk,uk];omega)];rw[uk,uk,Nat.sub_self];rfl
   have edv:NumText.digitsVal (tx las).cps.toList=NumText.digitsVal las:=rfl;rw[edv,eset];have S2':Qk H (upd H2 q (.lst (((ini.map tx).map V.str)++[.int (NumText.digitsVal las:Nat)]))):=fun a o e=>by rw[Qp (Qv e hqn)];exact S2 a o e
   have g3:upd H2 q (.lst (((ini.map tx).map V.str)++[.int (NumText.digitsVal las:Nat)])) q=some (.lst (((ini.map tx).map V.str)++[.int (NumText.digitsVal las:Nat)])):=Qa;generalize upd H2 q (.lst (((ini.map tx).map V.str)++[.int (NumText.digitsVal las:Nat)]))=H3 at S2' g3;refine⟨_,rfl,_,rfl,q,_,rfl,.inl ⟨.inl (.inl g3),fun u hu=>⟨sL2,fun r hr=>?_⟩⟩⟩;have S3:=Qk.new (o:=.tup (((ini.map tx).map V.str)++[.int (NumText.digitsVal las:Nat)])) hu;have S4:=Qk.new (o:=.tup [.bl (isO l),.ref u]) hr;refine k r (.ref u) _ (S2'.trans (S3.trans S4)) Qa ?_;unfold ptW;rw[if_pos h1];have ei:(J2 l).dropLast=ini:=by rw[ep];simp
   rw[ei,ela];exact(Ws.tup (Qa) (zd (wy _) .int)).same S4
  ·refine⟨_,rfl,_,rfl,q,_,rfl,.inl ⟨.inl (.inl g2),fun u hu=>⟨sL2,fun r hr=>?_⟩⟩⟩;have S3:=Qk.new (o:=.tup (((J2 l).map tx).map V.str)) hu;have S4:=Qk.new (o:=.tup [.bl (isO l),.ref u]) hr;refine k r (.ref u) _ (S2.trans (S3.trans S4)) Qa ?_;unfold ptW;rw[if_neg (by rw[h1];decide)];exact(Ws.tup (Qa) (wy _)).same S4
end
noncomputable abbrev Ent:=Bool × List Wx × List Wx
noncomputable def cls:List Ent->List Ent
 |(b,ps,its)::(b',ps',its')::r=>(b',ps',its'++[wh b (.tup (ps++[.tup its]))])::r
 |s=>s
noncomputable def U6:Nat->List Ent->List Ent
 |0,s=>s
 |k+1,s=>U6 k (cls s)
noncomputable def Qer:List Ent->Wx->List Ent
 |(b,ps,its)::r,x=>(b,ps,its++[x])::r
 |[],_=>[]
noncomputable def opn(l:List Nat):Bool:=decide ((J2 l).headD []=gpS)||decide ((J2 l).headD []=tbS)
noncomputable def QY(n:Nat)(s:List Ent):List Ent:=U6 (s.length-n) s
noncomputable def Xt(s:List Ent)(l:List Nat):List Ent:=
 if opn l=true then(isO l,ptW l,[])::QY (dpt l+1) s else Qer (QY (dpt l+1) s) (wh (isO l) (.tup (ptW l)))
noncomputable def s0E:List Ent:=[(false,[],[])]
noncomputable def Qes:List Ent->List Wx
 |(_,_,its)::_=>its
 |[]=>[]
noncomputable def Z8(ls:List (List Nat)):List Ent:=ls.foldl Xt s0E
noncomputable def parse(ls:List (List Nat)):Wx:=.tup (Qes (QY 1 (Z8 ls)))
theorem Y1{s:List Ent}(h:2<=s.length):(cls s).length+1=s.length:=by
 rcases s with _|⟨e,_|⟨e',r⟩⟩
 ·cases h
 ·simp at h
 ·rfl
theorem Ya{n:Nat}{s:List Ent}(h:n<s.length)(h1:1<=n):QY n s=QY n (cls s):=by
 have:=Y1 (s:=s) (by omega);unfold QY;obtain⟨k,hk⟩:∃k,s.length-n=k+1:=⟨s.length-n-1,by omega⟩;rw[hk,U6]
 congr 1
 omega
theorem KH{n:Nat}{s:List Ent}(h:s.length<=n):QY n s=s:=by
 unfold QY;rw[show s.length-n=0 by omega];rfl
noncomputable def wE:List Ent->Nat
 |[]=>0
 |(_,_,its)::r=>1+its.length+wE r
structure BdS(s:List Ent)(n:Nat):Prop where
 p:∀E∈s,E.2.1.length<=1000
 w:wE s<=n
 o:1<=s.length
theorem ze:∀s,s.length<=wE s
 |[]=>uQ _
 |(b,ps,its)::r=>by
  have:=ze r;rw[uw,wE];omega
theorem BdS.cls{s:List Ent}{n:Nat}(h:BdS s n):BdS (cls s) n:=by
 rcases s with _|⟨⟨b,ps,its⟩,_|⟨⟨b',ps',its'⟩,r⟩⟩
 ·exact h
 ·exact h
 ·refine⟨fun E hE=>?_,?_,by show 1<=r.length+1;omega⟩
  ·rcases List.mem_cons.mp hE with rfl|hE
   ·exact h.p (b',ps',its') (uz _ uA)
   ·exact h.p E (uz _ (uz _ hE))
  ·have:=h.w;rw[wE,wE]at this;show wE (_::r)<=n;rw[wE,uj,uu];omega
theorem BdS.U6{n:Nat}:∀(k:Nat){s:List Ent},BdS s n->BdS (U6 k s) n
 |0,_,h=>h
 |k+1,_,h=>BdS.U6 k h.cls
theorem QbL(l:List Nat):(ptW l).length=(J2 l).length:=by
 unfold ptW
 split
 ·rw[uj,uk,List.length_dropLast,uu];have:=List.length_pos_iff.mpr (Vr l);omega
 ·rw[uk]
theorem BdS.step{s:List Ent}{n:Nat}(h:BdS s n){l:List Nat}(hl:l.length<=400):BdS (Xt s l) (n+1):=by
 have h1:=h.U6 (s.length-(dpt l+1));have hp:=YZ l;unfold Xt
 split
 ·refine⟨fun E hE=>?_,?_,by rw[uw];omega⟩
  ·rcases List.mem_cons.mp hE with rfl|hE
   ·show(ptW l).length<=1000;rw[QbL];omega
   ·exact h1.p E hE
  ·rw[wE];have:wE (QY (dpt l+1) s)<=n:=h1.w;show 1+0+_<=_;omega
 ·have h1:BdS (QY (dpt l+1) s) n:=h1;generalize QY (dpt l+1) s=t at h1;rcases t with _|⟨⟨b,ps,its⟩,r⟩
  ·have:=h1.o;cases this
  ·refine⟨fun E hE=>?_,?_,by show 1<=r.length+1;omega⟩
   ·rcases List.mem_cons.mp hE with rfl|hE
    ·exact h1.p (b,ps,its) uA
    ·exact h1.p E (uz _ hE)
   ·have:=h1.w;rw[wE]at this;show wE (_::r)<=_;rw[wE,uj,uu];omega
inductive Ops (H:Hp):List V->List Addr->List Ent->Prop where
 |nil:Ops H [] [] []
 |cons {e a:Addr} {u:V} {b:Bool} {ps its:List Wx} {xs vs:List V} {as:List Addr} {stk:List Ent} (h:H e=some (.tup [.bl b,u,.ref a])) (t:Ws H u (.tup ps)) (g:H a=some (.lst xs)) (ts:Wss H xs its) (r:Ops H vs as stk):Ops H (.ref e::vs) (a::as) ((b,ps,its)::stk)
theorem Ops.same{H H':Hp}(S:Qk H H'):∀{vs as stk},Ops H vs as stk->Ops H' vs as stk
 |_,_,_,.nil=>.nil
 |_,_,_,.cons h t g ts r=>.cons (S _ _ h) (t.same S) (S _ _ g) (ts.same S) (r.same S)
theorem Vs{H:Hp}{e a:Addr}{xs zs ys:List V}(h:H e=some (.tup xs))(g:H a=some (.lst zs)):upd H a (.lst ys) e=some (.tup xs):=by
 rw[Qp (fun z=>by rw[z,g]at h;cases h)];exact h
theorem Ops.X8{H:Hp}{q:Addr}{zs ys:List V}(gq:H q=some (.lst zs)):∀{vs as stk},q∉as->Ops H vs as stk->Ops (upd H q (.lst ys)) vs as stk
 |_,_,_,_,.nil=>.nil
 |_,_,_,hn,.cons h t g ts r=>.cons (Vs h gq) (t.X8 gq) (by rw[Qp (fun z=>hn (by rw[←z];exact uA))];exact g) (ts.X8 gq) (r.X8 gq (fun z=>hn (uz _ z)))
theorem Ops.len{H:Hp}:∀{vs as stk},Ops H vs as stk->vs.length=stk.length
 |_,_,_,.nil=>rfl
 |_,_,_,.cons h t g ts r=>by rw[uw,uw,r.len]
theorem Ops.mem{H:Hp}{x:Addr}:∀{vs as stk},Ops H vs as stk->x∈as->∃xs,H x=some (.lst xs)
 |_,_,_,.nil,h=>nomatch h
 |_,_,_,.cons h t g ts r,hx=>by
  rcases List.mem_cons.mp hx with rfl|hx
  ·exact⟨_,g⟩
  ·exact r.mem hx
structure OpSt(H0 H:Hp)(o:Addr)(stk:List Ent)(vs:List V)(as:List Addr):Prop where
 S:Qk H0 H
 f:H0 o=none
 g:H o=some (.lst vs.reverse)
 ops:Ops H vs as stk
 nd:as.Nodup
 no:o∉as
 fr:∀a∈as,H0 a=none
section
variable {H0 H H':Hp}{o e a:Addr}{stk:List Ent}{vs xs:List V}{as:List Addr}{u x:V}{b:Bool}{ps its:List Wx}{d:Wx}{v:V}
theorem OpSt.same(B:OpSt H0 H o stk vs as)(S:Qk H H'):OpSt H0 H' o stk vs as:=⟨B.S.trans S,B.f,S _ _ B.g,B.ops.same S,B.nd,B.no,B.fr⟩
theorem OpSt.pop(B:OpSt H0 H o ((b,ps,its)::stk) (v::vs) (a::as)):OpSt H0 (upd H o (.lst vs.reverse)) o stk vs as/\∃e u xs,v=.ref e/\upd H o (.lst vs.reverse) e=some (.tup [.bl b,u,.ref a])/\Ws (upd H o (.lst vs.reverse)) u (.tup ps)/\upd H o (.lst vs.reverse) a=some (.lst xs)/\Wss (upd H o (.lst vs.reverse)) xs its:=by
 have hno:o∉as:=fun z=>B.no (uz _ z);have hoa:a≠o:=fun z=>B.no (by rw[z];exact uA);have hop:=B.ops;cases hop with
 |cons h t g ts r=>
  exact⟨⟨J1 B.S B.f,B.f,Qa,r.X8 B.g hno,(List.nodup_cons.mp B.nd).2,hno,fun x hx=>B.fr x (uz _ hx)⟩,_,_,_,rfl,Vs h B.g,t.X8 B.g,by rw[Qp hoa];exact g,ts.X8 B.g⟩
theorem OpSt.push(B:OpSt H0 H o stk vs as)(h:H e=some (.tup [.bl b,u,.ref a]))(t:Ws H u (.tup ps))(g:H a=some (.lst []))(hn:a∉as)(hoa:a≠o)(hf:H0 a=none):OpSt H0 (upd H o (.lst (vs.reverse++[.ref e]))) o ((b,ps,[])::stk) (.ref e::vs) (a::as):=by
 refine⟨J1 B.S B.f,B.f,by rw[Qa,List.reverse_cons],.cons (Vs h B.g) (t.X8 B.g) (by rw[Qp hoa];exact g) .nil (B.ops.X8 B.g B.no),List.nodup_cons.mpr ⟨hn,B.nd⟩,fun z=>?_,fun x hx=>?_⟩
 ·rcases List.mem_cons.mp z with z|z
  ·exact hoa z.symm
  ·exact B.no z
 ·rcases List.mem_cons.mp hx with rfl|hx
  ·exact hf
  ·exact B.fr x hx
theorem OpSt.top(B:OpSt H0 H o ((b,ps,its)::stk) vs as):∃e u a xs vs0 as0,vs=.ref e::vs0/\as=a::as0/\H e=some (.tup [.bl b,u,.ref a])/\H a=some (.lst xs)/\xs.length=its.length/\∀H' y d,Qk H H'->Ws H' y d->OpSt H0 (upd H' a (.lst (xs++[y]))) o ((b,ps,its++[d])::stk) vs as:=by
 have hop:=B.ops;cases hop with
 |@cons e a u _ _ _ xs vs0 as0 _ h t g ts r=>
  refine⟨e,u,a,xs,vs0,as0,rfl,rfl,h,g,ts.length,fun H' y d S D=>?_⟩;have g':=S _ _ g;have hao:o≠a:=fun z=>B.no (by rw[z];exact uA);exact⟨J1 (B.S.trans S) (B.fr a uA),B.f,by rw[Qp hao];exact S _ _ B.g,.cons (Vs (S _ _ h) g') ((t.same S).X8 g') Qa (((ts.same S).append (.cons D .nil)).X8 g') ((r.same S).X8 g' (List.nodup_cons.mp B.nd).1),B.nd,B.no,B.fr⟩
end
section
variable {P:Program}{w:World}{K:PySem.W.Frag}{mg:Str->Option Value}{base:Heap}{f:Addr}{fd:FuncData}{tk:Nat->Tok}{c kr:Nat->Addr}
theorem Qet{a b:Addr}{xs ys:List V}{ds es:List Wx}{H:Hp}{Q:VK}(ga:H a=some (.tup xs))(gb:H b=some (.tup ys))(ta:Wss H xs ds)(tb:Wss H ys es)(hl:xs.length+ys.length<=sizeLine)(k:∀u H',Qk H H'->Ws H' u (.tup (ds++es))->Q u H'):yz (.ref a) (.ref b) H Q:=by
 refine⟨a,b,xs,ys,rfl,rfl,.inl ga,.inl gb,hl,fun z=>?_,fun _ z=>?_,fun _ _ p hp=>?_⟩
 ·subst z;cases ta;exact k _ _ (Qk.refl _) (.tup gb tb)
 ·subst z;cases tb;rw[uL]at k;exact k _ _ (Qk.refl _) (.tup ga ta)
 ·exact k _ _ (Qk.new hp) (.tup Qa ((ta.append tb).same (Qk.new hp)))
noncomputable def QbM:Sp:=fun vs H Q _=>∃(o:Addr)(H0:Hp)(stk:List Ent)(ws:List V)(as:List Addr)(n:Nat),vs=[.ref o]/\OpSt H0 H o stk ws as/\BdS stk n/\n<=2000/\2<=stk.length/\∀H' ws' as',OpSt H0 H' o (cls stk) ws' as'->Q .non H'
theorem Y2(F:Fun K "close_last" "close_last" Xm f fd)(OT:mg "tuple"=none)(gs:Def P w K mg base 1 "whole_item" ["is_over","item"] yW):FnOk P w K mg base (CXE P w) 2 f fd ["opened"] QbM:=by
 refine Wu F Zj (fun vs H Q E h=>?_) (fun cdv A outer s H vs Q E hr h=>?_)
 ·obtain⟨o,H0,stk,ws,as,n,rfl,_⟩:=h;rfl
 ·obtain⟨o,H0,stk,ws,as,n,rfl,B,hB,hn,h2,k⟩:=h;have hz:100000<=sizeLine:=by rw[sizeLine_eq];decide
  have hw:=hB.w;have hlen:=B.ops.len;have hwl:=ze stk;rcases stk with _|⟨⟨b,ps,its⟩,_|⟨⟨b',ps',its'⟩,r⟩⟩
  ·cases h2
  ·simp at h2
  obtain⟨v,ws,rfl⟩:∃v ws',ws=v::ws':=by
   cases ws with
   |nil=>cases hlen
   |cons v ws=>exact⟨v,ws,rfl⟩
  obtain⟨a,as,rfl⟩:∃a as',as=a::as':=by
   have:=B.ops;cases this with
   |cons=>exact⟨_,_,rfl⟩
  have hps:=hB.p _ uA
  replace hps:ps.length<=1000:=hps
  rw[wE,wE]at hw;refine⟨_,(Qi (PSy.mk (JB (Uo plainAttrs_list slot_list_pop type_list_pop Uq (pv 0)) (JA rfl (Qn (Qm (i:=1) Zj.nd rfl (Or.inl rfl)) (Qn (Qm (i:=2) Zj.nd rfl (Or.inl rfl)) (Qn (Qm (i:=3) Zj.nd rfl (Or.inl rfl)) QV))))))
   (Qs (PSy.mk (Jw (JQ plainAttrs_list PySem.F.slot_list_append PySem.F.type_list_append Jm (Qw Qt (Qw Zk (pv 0) (KL ZL Qd) (fun _ _=>rfl)) Qd (fun _ _=>rfl)) (Qz (gs.pe hr (by decide) rfl Qu (Qz (pv 1) (Qz (QP qS (pv 2) (QO (Qz (J4 ZV rfl OT PyProof.Rows.boot_tuple (Qz (pv 3) Qc)) Qc))) Qc))) Qc)))))),?_⟩
  refine⟨_,rfl,.inl ⟨rfl,_,.inl (.inl B.g)⟩,?_⟩;refine⟨o,_,v,rfl,rfl,B.g,by simp,?_⟩;have ed:(v::ws).reverse.dropLast=ws.reverse:=by rw[List.reverse_cons,List.dropLast_concat]
  rw[ed];obtain⟨B1,e,u,xs,rfl,he,hu,hxs,hts⟩:=B.pop;generalize upd H o (.lst ws.reverse)=H1 at B1 he hu hxs hts;have lts:=hts.length;refine⟨e,_,rfl,.inl (.inl he),rfl,?_⟩;obtain⟨e',u',a',xs',vs0,as0,rfl,rfl,he',ha',hl',hadd⟩:=B1.top;have hrev:atI (V.ref e'::vs0).reverse (-1)=some (.ref e'):=by rw[List.reverse_cons];exact Ke _ _
  obtain⟨ua,us,rfl,gu,tu⟩:=hu.Wy;have ltu:=tu.length;have g1:=B1.g;refine⟨_,_,rfl,_,_,rfl,_,_,rfl,rfl,?_⟩;refine⟨_,rfl,1,rfl,o,_, -1,_,rfl,rfl,.inl g1,hrev,e',_,2,_,rfl,rfl,.inl he',rfl,.inl ⟨rfl,_,.inl (.inl ha')⟩,?_⟩;refine⟨_,rfl,_,rfl,_,rfl,a,xs,rfl,.inl ⟨.inl (.inl hxs),fun q hq=>⟨sL1,fun q2 hq2=>?_⟩⟩⟩;have S2:=Qk.new (o:=.tup xs) hq;have S3:=Qk.new (o:=.tup [.ref q]) hq2;have D2:Ws (upd H1 q (.tup xs)) (.ref q) (.tup its):=.tup Qa (hts.same S2);refine Qet ((S2.trans S3) _ _ gu) Qa (tu.same (S2.trans S3)) (.cons (D2.same S3) .nil) (by show us.length+1<=sizeLine;omega) (fun y H4 S4 D4=>?_);have S24:=(S2.trans S3).trans S4;refine⟨b,y,_,rfl,D4,fun y2 H5 S5 D5=>?_⟩;have S25:=S24.trans S5;refine⟨a',xs',y2,rfl,rfl,S25 _ _ ha',by omega,?_⟩;exact k _ _ _ (hadd H5 y2 _ S25 D5)
end
theorem XF(l:List Nat):∃r,ptW l=sW ((J2 l).headD [])::r:=by
 unfold ptW;cases e:J2 l with
 |nil=>exact absurd e (Vr l)
 |cons p0 ps=>
  split
  ·rename_i h;cases ps with
   |nil=>
    unfold QbJ at h;rw[e,Bool.and_eq_true]at h;have h1:p0=tbS:=of_decide_eq_true h.1;have h2:QaD p0=true:=h.2;rw[h1]at h2;exact absurd h2 (by decide+kernel)
   |cons p1 ps=>
    rw[List.dropLast_cons_of_ne_nil (by exact fun z=>nomatch z)];exact⟨_,rfl⟩
  ·exact⟨_,rfl⟩
section
variable {P:Program}{w:World}{K:PySem.W.Frag}{mg:Str->Option Value}{base:Heap}{f:Addr}{fd:FuncData}{tk:Nat->Tok}{c kr:Nat->Addr}
noncomputable def wz:Sp:=fun vs H Q _=>∃(a:Addr)(ls:List (List Nat)),vs=[.ref a]/\H a=some (.lst ((ls.map tx).map V.str))/\ls.length<=1000/\(∀l∈ls,l.length<=400)/\∀u H',Qk H H'->Ws H' u (parse ls)->Q u H'
theorem VM(F:Fun K "layout_from" "layout_from" Z3 f fd)(O:Own mg)(OT:mg "tuple"=none)(T:Txt K mg tk c kr)(gs:Def P w K mg base 1 "whole_item" ["is_over","item"] yW)(gX:Def P w K mg base 2 "close_last" ["opened"] QbM)(nr:Def P w K mg base 3 "parts_of" ["line"] QbK):FnOk P w K mg base (CXE P w) 4 f fd ["lines"] wz:=by
 refine Wu F Jf (fun vs H Q E h=>?_) (fun cdv A outer s H vs Q E hr h=>?_)
 ·obtain⟨a,ls,rfl,_⟩:=h;rfl
 ·obtain⟨a,ls,rfl,g,hll,hl,k⟩:=h;have hz:100000<=sizeLine:=by rw[sizeLine_eq];decide
  refine⟨_,(Qi (Qy (i:=1) Jf.nd rfl (Or.inl rfl) (JF (QF (Jt (QF (PEx.mk ZQ) (QF (Jt QA) (QF (JF QA) QA rfl) rfl) rfl)) QA rfl)) rfl rfl)
   (Qi (Vh PassesOwn.never rfl (Zb (pv 0)) (Qm (i:=2) Jf.nd rfl (Or.inl rfl)) (Qi (Qy (i:=3) Jf.nd rfl (Or.inl rfl) (Q2 Yd (Q2 jD (PEx.mk (Qj Q4 rfl O.len PySem.boot_len (Qz (pv 2) Qc))) (PEx.mk (Qj Q4 rfl O.len PySem.boot_len (Qz (JQ plainAttrs_str slot_str_lstrip type_str_lstrip U4 (pv 2) (Qz Qg Qc)) Qc)))) (PEx.mk (Qj Q4 rfl O.len PySem.boot_len (Qz (QB (v:=V.str "  ") rfl T.my ⟨_,rfl⟩) Qc)))) rfl rfl)
   (Qi (PSy.mk (Zf PassesOwn.never (Ql KM (Qj Qr rfl O.len PySem.boot_len (Qz (pv 1) Qc)) (QP Jd (pv 3) Qd) (Qo _)) (Qh (Jw (gX.pe hr (by decide) rfl Qu (Qz (pv 1) Qc))))))
   (Qi (PSy.mk (JB (nr.pe hr (by decide) rfl Qu (Qz (pv 2) Qc)) (JA rfl (Qn (Qm (i:=4) Jf.nd rfl (Or.inl rfl)) (Qn (Qm (i:=5) Jf.nd rfl (Or.inl rfl)) QV)))))
   (Qs (Zd (PW.pt (ZS (Ql QZ (Qw Qt (pv 5) Qd (fun _ _=>rfl)) Qg (Qo _)) (J3 (Ql QZ (Qw Qt (pv 5) Qd (fun _ _=>rfl)) Qg (Qo _))))) (Qs (PSy.mk (Jw (JQ plainAttrs_list PySem.F.slot_list_append PySem.F.type_list_append Jm (pv 1) (Qz (QO (Qz (pv 4) (Qz (pv 5) (Qz (Zw Qc) Qc)))) Qc))))) (Qs (PSy.mk (Jw (JQ plainAttrs_list PySem.F.slot_list_append PySem.F.type_list_append Jm (Qw Qt (Qw Zk (pv 1) (KL ZL Qd) (fun _ _=>rfl)) Qd (fun _ _=>rfl)) (Qz (gs.pe hr (by decide) rfl Qu (Qz (pv 4) (Qz (pv 5) Qc))) Qc)))))))))) (fun _=>rfl))
   (Qi (PSy.mk (Zf PassesOwn.never (Ql KM (Qj Qr rfl O.len PySem.boot_len (Qz (pv 1) Qc)) Qd (Qo _)) (Qh (Jw (gX.pe hr (by decide) rfl Qu (Qz (pv 1) Qc))))))
   (Qs (QG (PEx.mk (J4 ZV rfl OT PyProof.Rows.boot_tuple (Qz (Qw Qt (Qw Zk (pv 1) Qd (fun _ _=>rfl)) Qd (fun _ _=>rfl)) Qc)))))))),?_⟩
  dsimp only[QH,JP,XX,QU];refine⟨sL0,fun t0 ht0=>⟨sL0,fun a0 ha0=>⟨sL3,fun e0 he0=>⟨sL1,fun o ho=>?_⟩⟩⟩⟩;have B0:OpSt H (upd (upd (upd (upd H t0 (.tup [])) a0 (.lst [])) e0 (.tup [.bl false,.ref t0,.ref a0])) o (.lst [.ref e0])) o s0E [.ref e0] [a0]:=by
   have S1:=Qk.new (o:=.tup []) ht0;have S2:=Qk.new (o:=.lst []) ha0;have S3:=Qk.new (o:=.tup [.bl false,.ref t0,.ref a0]) he0;have S4:=Qk.new (o:=.lst [.ref e0]) ho;have T1:Ws (upd H t0 (.tup [])) (.ref t0) (.tup []):=.tup Qa .nil;have hao:a0≠o:=fun z=>by rw[←z,S3 _ _ Qa]at ho;cases ho
   refine⟨S1.trans (S2.trans (S3.trans S4)),(S1.trans (S2.trans S3)).free ho,Qa,.cons (S4 _ _ Qa) (T1.same (S2.trans (S3.trans S4))) (S4 _ _ (S3 _ _ Qa)) .nil .nil,List.nodup_cons.mpr ⟨(fun z=>nomatch z),List.nodup_nil⟩,fun z=>hao (List.mem_singleton.mp z).symm,fun x hx=>?_⟩;rw[List.mem_singleton.mp hx];exact S1.free ha0
  generalize upd (upd (upd (upd H t0 (.tup [])) a0 (.lst [])) e0 (.tup [.bl false,.ref t0,.ref a0])) o (.lst [.ref e0])=H1 at B0;clear ht0 ha0 he0 ho;have lx:((ls.map tx).map V.str).length=ls.length:=by rw[uk,uk]
  refine⟨_,rfl,a,rfl,⟨_,.inl (.inl (B0.S _ _ g))⟩,?_⟩;refine Vg (Qdz (K:=K) (a:=a) (xs:=(ls.map tx).map V.str)) (fun j σ H4=>∃(vs:List V)(as:List Addr)(y2 y3 y4 y5:Option V),σ=[some (.ref a),some (.ref o),y2,y3,y4,y5]/\OpSt H H4 o (Z8 (ls.take j)) vs as/\BdS (Z8 (ls.take j)) (j+1)) ⟨_,_,none,none,none,none,rfl,B0,⟨fun E hE=>by rw[List.mem_singleton.mp hE];exact uQ _,uq _,uq _⟩⟩ ?_ ?_ ?_
  ·rintro j σ H4 _ ⟨vs,as,y2,y3,y4,y5,rfl,B,_⟩;exact .inl (.inl (B.S _ _ g))
  ·rintro j x σ H40 H4 hj ⟨vs,as,y2,y3,y4,y5,rfl,B,hB⟩ ⟨rfl,hx⟩;rw[uE,uE]at hx;cases el:ls[j]? with
   |none=>rw[el]at hx;cases hx
   |some l=>
    rw[el]at hx;obtain rfl:V.str (tx l)=x:=ur hx;have hl4:=hl l (uF el);have est:Z8 (ls.take (j+1))=Xt (Z8 (ls.take j)) l:=by
     unfold Z8;rw[List.take_add_one,el,List.foldl_append];rfl
    rw[est];have hBs:=hB.step hl4;generalize Z8 (ls.take j)=stk at B hB hBs;have hs:=WB l;refine⟨_,rfl,tx l,rfl,by rw[Qq];omega,?_⟩;refine⟨_,rfl,rfl,tx l," ",rfl,rfl,by show(tx l).length<=sizeLine;rw[Qq];omega,?_⟩;dsimp only;rw[U5];refine⟨_,rfl,by rw[Qq];show(vw l).length<=_;omega,_,_,rfl,rfl,"  ",rfl,by decide+kernel,_,_,rfl,rfl,(by rw[show("  ":Str).length=2 by decide+kernel];exact⟨by decide,by decide⟩),?_⟩;dsimp only[QH,XX,List.set];have ed:((((tx l).length:Nat):Int)-(((tx (l.dropWhile fun c=>c==32)).length:Nat):Int))/(((("  ":Str)).length:Nat):Int)=(dpt l:Nat):=by
     rw[Qq,Qq,show("  ":Str).length=2 by decide+kernel];show((l.length:Nat)-((vw l).length:Nat):Int)/2=((l.length-(vw l).length)/2:Nat);omega
    rw[ed];refine⟨fun m σ H5=>∃(vs:List V)(as:List Addr)(st:List Ent),σ=[some (.ref a),some (.ref o),some (.str (tx l)),some (.int (dpt l:Nat)),y4,y5]/\OpSt H H5 o st vs as/\BdS st (j+1)/\QY (dpt l+1) st=QY (dpt l+1) stk/\st.length<=m,⟨stk.length,_,_,_,rfl,B,hB,rfl,uq _⟩,?_⟩;clear B hB;rintro m σ H5 ⟨vs,as,st,rfl,B,hB,hc,hm⟩;have hlen:=B.ops.len;have hwl:=ze st;have hw:=hB.w;refine⟨_,rfl,o,_,rfl,.inl (.inl (.inl B.g)),_,rfl,_,_,rfl,rfl,_,_,rfl,rfl,_,rfl,?_⟩;rw[uD,hlen]
    by_cases hd:dpt l+1<st.length
    ·rw[uo (show(((dpt l:Nat):Int)+1)<((st.length:Nat):Int) by omega)];have hcl:=Y1 (s:=st) (by omega);refine QQ ⟨fun σ' H'=>∃m',m'<m/\∃(vs:List V)(as:List Addr)(st:List Ent),σ'=[some (.ref a),some (.ref o),some (.str (tx l)),some (.int (dpt l:Nat)),y4,y5]/\OpSt H H' o st vs as/\BdS st (j+1)/\QY (dpt l+1) st=QY (dpt l+1) stk/\st.length<=m',fun _ _ h=>h,?_⟩;refine⟨_,rfl,o,H,st,vs,as,j+1,rfl,B,hB,by omega,by omega,fun H' ws' as' B'=>?_⟩;exact⟨m-1,by omega,ws',as',cls st,rfl,B',hB.cls,by rw[←hc];exact(Ya hd (by omega)).symm,by omega⟩
    ·rw[um (show ¬ (((dpt l:Nat):Int)+1)<((st.length:Nat):Int) by omega)];refine QN ?_;rw[KH (by omega)]at hc;dsimp only[JP];refine⟨_,rfl,l,rfl,hl4,fun q u H6 S6 hq Du=>?_⟩;have B6:=B.same S6;refine⟨q,_,rfl,.inl (.inl hq),rfl,_,_,rfl,_,_,rfl,rfl,?_⟩;dsimp only[QH,List.set];obtain⟨pr,epr⟩:=XF l;have Du0:=Du;rw[epr]at Du;obtain⟨ua,us,rfl,gu,tu⟩:=Du.Wy;obtain⟨us0,us,rfl⟩:∃x y,us=x::y:=by cases tu;exact⟨_,_,rfl⟩
     have eu:us0=.str (tx ((J2 l).headD [])):=by
      cases tu with
      |cons h t=>exact h.Ud
     subst eu;dsimp only[qh];refine wx (opn l) H6 ?_ (fun Q' q'=>?_);rotate_left
     ·refine⟨_,rfl,ua,_,0,_,rfl,rfl,.inl gu,QK (j:=0) rfl,rfl,_,rfl,?_⟩;rw[QdD,V9];unfold opn at q';refine ifB (fun h1=>?_) (fun h1=>?_)
      ·rw[h1,Bool.true_or]at q';exact q'
      ·rw[h1,Bool.false_or]at q';refine⟨_,rfl,ua,_,0,_,rfl,rfl,.inl gu,QK (j:=0) rfl,rfl,_,rfl,?_⟩;rw[Qc2,V9];exact q'
     have est2:Xt stk l=if opn l=true then(isO l,ptW l,[])::st else Qer st (wh (isO l) (.tup (ptW l))):=by
      unfold Xt;rw[←hc]
     have hfr:∀q,H6 q=none->H q=none/\q∉as/\q≠o:=fun q hq=>⟨B6.S.free hq,(fun z=>by obtain⟨xs,hx⟩:=B6.ops.mem z;rw[hx]at hq;cases hq),fun z=>by rw[z,B6.g]at hq;cases hq⟩;refine ifB (fun h1=>?_) (fun h1=>?_)
     ·rw[if_pos h1]at est2;rw[est2]at hBs ⊢;refine⟨_,rfl,.inl ⟨rfl,_,.inl (.inl B6.g)⟩,⟨_,rfl,_,rfl,sL0,fun a1 ha1=>⟨sL3,fun e1 he1=>?_⟩⟩⟩;obtain⟨f1,f2,f3⟩:=hfr a1 ha1;have S7:=Qk.new (o:=.lst []) ha1;have S8:=Qk.new (o:=.tup [.bl (isO l),.ref ua,.ref a1]) he1;have B8:=B6.same (S7.trans S8);have g7:=S8 _ _ (Qa (H:=H6) (a:=a1) (o:=.lst []));refine⟨o,_,_,rfl,rfl,B8.g,by rw[uD,hlen];omega,?_⟩;exact⟨_,_,_,_,_,_,rfl,B8.push Qa (Du0.same (S7.trans S8)) g7 f2 f3 f1,hBs⟩
     ·rw[if_neg (by rw[h1];decide)]at est2;rw[est2]at hBs ⊢;obtain⟨⟨b0,ps0,its0⟩,st0,rfl⟩:∃x y,st=x::y:=by
       cases st with
       |nil=>have:=hB.o;cases this
       |cons x y=>exact⟨x,y,rfl⟩
      obtain⟨e',u',a',xs',vs0,as0,rfl,rfl,he',ha',hl',hadd⟩:=B6.top;have hrev:atI (V.ref e'::vs0).reverse (-1)=some (.ref e'):=by rw[List.reverse_cons];exact Ke _ _
      rw[wE]at hw;refine⟨_,rfl,1,rfl,o,_, -1,_,rfl,rfl,.inl B6.g,hrev,e',_,2,_,rfl,rfl,.inl he',rfl,.inl ⟨rfl,_,.inl (.inl ha')⟩,?_⟩;refine⟨_,rfl,_,rfl,_,_,_,rfl,Du0,fun y2 H7 S7 D7=>?_⟩;refine⟨a',xs',y2,rfl,rfl,S7 _ _ ha',by omega,?_⟩;exact⟨_,_,_,_,_,_,rfl,hadd H7 y2 _ S7 D7,hBs⟩
  ·rintro σ H4 ⟨vs,as,y2,y3,y4,y5,rfl,B,hB⟩;rw[List.take_of_length_le (by omega)]at B hB;obtain⟨stk,eparse⟩:∃s,s=Z8 ls:=⟨_,rfl⟩;rw[←eparse]at B hB;dsimp only[XX];refine⟨fun m σ H5=>∃(vs:List V)(as:List Addr)(st:List Ent),σ=[some (.ref a),some (.ref o),y2,y3,y4,y5]/\OpSt H H5 o st vs as/\BdS st ((ls.map tx).map V.str).length.succ/\QY 1 st=QY 1 stk/\st.length<=m,⟨stk.length,_,_,_,rfl,B,hB,rfl,uq _⟩,?_⟩;clear B hB;rintro m σ H5 ⟨vs,as,st,rfl,B,hB,hc,hm⟩;have hlen:=B.ops.len;have hwl:=ze st;have hw:=hB.w;refine⟨_,rfl,o,_,rfl,.inl (.inl (.inl B.g)),_,_,rfl,rfl,_,rfl,?_⟩;rw[uD,hlen]
   by_cases hd:1<st.length
   ·rw[uo (show(1:Int)<((st.length:Nat):Int) by omega)];have hcl:=Y1 (s:=st) (by omega);refine QQ ⟨fun σ' H'=>∃m',m'<m/\∃(vs:List V)(as:List Addr)(st:List Ent),σ'=[some (.ref a),some (.ref o),y2,y3,y4,y5]/\OpSt H H' o st vs as/\BdS st ((ls.map tx).map V.str).length.succ/\QY 1 st=QY 1 stk/\st.length<=m',fun _ _ h=>h,?_⟩;refine⟨_,rfl,o,H,st,vs,as,_,rfl,B,hB,by omega,by omega,fun H' ws' as' B'=>?_⟩;exact⟨m-1,by omega,ws',as',cls st,rfl,B',hB.cls,by rw[←hc];exact(Ya hd (by omega)).symm,by omega⟩
   ·rw[um (show ¬ (1:Int)<((st.length:Nat):Int) by omega)];refine QN ?_;rw[KH (by omega)]at hc;obtain⟨⟨b0,ps0,its0⟩,rfl⟩:∃x,st=[x]:=by
     rcases st with _|⟨x,_|⟨y,r⟩⟩
     ·have:=hB.o;cases this
     ·exact⟨x,rfl⟩
     ·exact absurd (show 1<r.length+2 by omega) hd
    have hop:=B.ops;have hg:=B.g;cases hop with
    |@cons _ _ _ _ _ _ xs1 _ _ _ h t g1 ts r=>
     cases r;refine⟨_,rfl,o,_,0,_,rfl,rfl,.inl hg,rfl,_,_,2,_,rfl,rfl,.inl h,rfl,_,_,rfl,.inl ⟨.inl (.inl g1),fun q hq=>?_⟩⟩;have S6:=Qk.new (o:=.tup xs1) hq;refine k _ _ (B.S.trans S6) ?_;rw[parse, ←eparse, ←hc];exact .tup Qa (ts.same S6)
end
noncomputable abbrev Wo:=Nat × Bool × Ly
mutual
noncomputable def Ly.ol:Ly->Nat->List Wo
 | .box _ _,_=>[]
 | .grp _ its,d=>olL its (d+1)
 | .tab _ _ its,d=>olL its (d+1)
noncomputable def olL:List (Bool × Ly)->Nat->List Wo
 |[],_=>[]
 |x::xs,d=>olI x d++olL xs d
noncomputable def olI:Bool × Ly->Nat->List Wo
 |(o,y),d=>(d,o,y)::y.ol d
end
noncomputable def jl:Ly->List Dv
 | .box nm p=>[.str "box",.str nm,.str (Ue p)]
 | .grp nm _=>[.str "group",.str nm]
 | .tab nm k _=>[.str "table",.str nm,.int (k:Nat)]
noncomputable def orD(r:Wo):Dv:=.tup [.int (r.1:Nat),.bl r.2.1,.tup (jl r.2.2)]
noncomputable abbrev Os:=Nat × (Bool × Ly)
noncomputable def osD(e:Os):Dv:=.tup [.int (e.1:Nat),dvI e.2]
noncomputable def ops(d:Nat)(its:List (Bool × Ly)):List Os:=(its.map fun x=>(d,x)).reverse
noncomputable def olS(st:List Os):List Wo:=st.reverse.flatMap fun e=>olI e.2 e.1
noncomputable def cnO:List Os->Nat
 |[]=>0
 |e::st=>cnI e.2+cnO st
theorem Y3:∀a b,cnO (a++b)=cnO a+cnO b
 |[],b=>by rw[uK,cnO,Nat.zero_add]
 |e::a,b=>by rw[uJ,cnO,cnO,Y3 a b];omega
theorem jm(d:Nat):∀its,cnO (ops d its)=cnL its
 |[]=>by rw[cnL];rfl
 |x::xs=>by
  have e:ops d (x::xs)=ops d xs++[(d,x)]:=by unfold ops;rw[uN,List.reverse_cons]
  rw[e,Y3,jm d xs,cnL,cnO,cnO];show cnL xs+(cnI x+0)=_;omega
theorem wA:∀st,st.length<=cnO st
 |[]=>uQ _
 |e::st=>by
  have:=wA st;have:=Vk e.2;rw[uw,cnO];omega
theorem jn(a b:List Os):olS (a++b)=olS b++olS a:=by unfold olS;rw[List.reverse_append,List.flatMap_append]
theorem wB(e:Os):olS [e]=olI e.2 e.1:=by show olI e.2 e.1++[]=_;rw[uL]
theorem jo(d:Nat):∀its,olS (ops d its)=olL its d
 |[]=>by rw[olL];rfl
 |x::xs=>by
  have e:ops d (x::xs)=ops d xs++[(d,x)]:=by unfold ops;rw[uN,List.reverse_cons]
  rw[e,jn,jo d xs,olL,wB]
noncomputable def wC(x:Bool × Ly):Prop:=QT (wI x)=true/\∀i,VL x.2=some i->Rows i
theorem Rows.it{its:List (Bool × Ly)}(h:Rows its):∀x∈its,wC x:=by
 cases h with
 |mk h c o dp t=>
  intro x hx;constructor
  ·cases its with
   |nil=>cases hx
   |cons x0 xs=>
    have h:((wI x0::xs.map wI).all QT&&unlike ((wI x0::xs.map wI).map nmB))=true:=h;rw[Bool.and_eq_true]at h;exact List.all_eq_true.mp h.1 _ (List.mem_map_of_mem (f:=wI) hx)
  ·intro i hi;exact t i (List.mem_filterMap.mpr ⟨x,hx,hi⟩)
theorem Rows.cn{its:List (Bool × Ly)}(h:Rows its):cnL its<=8000:=by cases h with|mk h c o dp t=>exact c
theorem QaE{d:Nat}{its:List (Bool × Ly)}(h:Rows its):∀e∈ops d its,wC e.2:=by
 intro e he;obtain⟨x,hx,rfl⟩:=List.mem_map.mp (List.mem_reverse.mp he);exact h.it x hx
structure TwoL(Hb H:Hp)(a1 a2:Addr)(x1 x2:List V)(d1 d2:List Dv):Prop where
 S:Qk Hb H
 f1:Hb a1=none
 f2:Hb a2=none
 n12:a1≠a2
 g1:H a1=some (.lst x1)
 g2:H a2=some (.lst x2)
 t1:Deeps H x1 d1
 t2:Deeps H x2 d2
theorem TwoL.same{Hb H H':Hp}{a1 a2:Addr}{x1 x2:List V}{d1 d2:List Dv}(B:TwoL Hb H a1 a2 x1 x2 d1 d2)(S:Qk H H'):TwoL Hb H' a1 a2 x1 x2 d1 d2:=⟨B.S.trans S,B.f1,B.f2,B.n12,S _ _ B.g1,S _ _ B.g2,B.t1.same S,B.t2.same S⟩
theorem TwoL.qQ{Hb H:Hp}{a1 a2:Addr}{x1 x2 x:List V}{d1 d2 d:List Dv}(B:TwoL Hb H a1 a2 x1 x2 d1 d2)(t:Deeps H x d):TwoL Hb (upd H a1 (.lst x)) a1 a2 x x2 d d2:=⟨J1 B.S B.f1,B.f1,B.f2,B.n12,Qa,by rw[Qp B.n12.symm];exact B.g2,t.X8 B.g1 V7,B.t2.X8 B.g1 V7⟩
theorem TwoL.put2{Hb H:Hp}{a1 a2:Addr}{x1 x2 x:List V}{d1 d2 d:List Dv}(B:TwoL Hb H a1 a2 x1 x2 d1 d2)(t:Deeps H x d):TwoL Hb (upd H a2 (.lst x)) a1 a2 x1 x d1 d:=⟨J1 B.S B.f2,B.f1,B.f2,B.n12,by rw[Qp B.n12];exact B.g1,Qa,B.t1.X8 B.g2 V7,t.X8 B.g2 V7⟩
theorem Qc4{H:Hp}{x:List V}{ds:List Dv}{d:Dv}(t:Deeps H x (ds++[d])):∃xs0 xl,x=xs0++[xl]/\Deeps H xs0 ds/\Deep H xl d:=by
 rcases List.eq_nil_or_concat x with rfl|⟨xs0,xl,rfl⟩
 ·have:=t.length;simp at this
 ·rw[List.concat_eq_append]at t ⊢;have l0:xs0.length=ds.length:=by
   have:=t.length;rw[uj,uj]at this;simpa using this
  have ht:=t.take xs0.length;have hd:=t.drop xs0.length;rw[List.take_left' rfl,l0,List.take_left' rfl]at ht;rw[List.drop_left' rfl,l0,List.drop_left' rfl]at hd;cases hd with
  |cons h t=>exact⟨xs0,xl,rfl,ht,h⟩
theorem wD{H:Hp}{v:V}{y:Ly}{i:List (Bool × Ly)}(h:Deep H v y.dv)(hi:VL y=some i):∃a w x1 x2 r z,v=.ref a/\H a=some (.tup (.str w::x1::x2::r))/\decide (V.str w=V.str "box")=false/\atI (.str w::x1::x2::r) (-1)=some z/\Deep H z (.tup (dvL i))/\¬ (HT.sIx (V.str w::x1::x2::r).length 0 none=0/\HT.sIx (V.str w::x1::x2::r).length (V.str w::x1::x2::r).length (some (-1))=(V.str w::x1::x2::r).length)/\Deeps H (Vz (.str w::x1::x2::r) none (some (-1))) (jl y):=by
 cases y with
 |box nm p=>cases hi
 |grp nm its=>
  obtain rfl:=ur hi;obtain⟨a,x,rfl,g,D⟩:=UT h;exact⟨a,_,_,_,[],x,rfl,g,QdB,rfl,D,(fun z=>absurd z.2 (show ¬ (HT.sIx 3 3 (some (-1))=3) by decide)),.cons .str (.cons .str .nil)⟩
 |tab nm k its=>
  obtain rfl:=ur hi;obtain⟨a,x,rfl,g,D⟩:=UU h;exact⟨a,_,_,_,[x],x,rfl,g,Qeh,rfl,D,(fun z=>absurd z.2 (show ¬ (HT.sIx 4 4 (some (-1))=4) by decide)),.cons .str (.cons .str (.cons .int .nil))⟩
section
variable {P:Program}{w:World}{K:PySem.W.Frag}{mg:Str->Option Value}{base:Heap}{f:Addr}{fd:FuncData}{tk:Nat->Tok}{c kr:Nat->Addr}
theorem QaF{d:Nat}{its:List (Bool × Ly)}{xs:List V}{i:Nat}{dv:Dv}(lx:xs.length=its.length)(hd:((ops d its).map osD)[i]? =some dv):∃x,its[xs.length-1-i]? =some x/\dv=osD (d,x):=by
 unfold ops at hd;have hil:i<its.length:=by
  have:=(List.getElem?_eq_some_iff.mp hd).1;simpa using this
 rw[uE,List.getElem?_reverse (by rw[uk];exact hil),uk,uE, ←lx]at hd;cases e:its[xs.length-1-i]? with
 |none=>rw[e]at hd;cases hd
 |some x=>rw[e]at hd;exact⟨x,rfl,(ur hd).symm⟩
noncomputable def Qeu:Sp:=fun vs H Q _=>∃(v:V)(its:List (Bool × Ly)),vs=[v]/\Deep H v (.tup (dvL its))/\Rows its/\∀q xs H',Qk H H'->H' q=some (.lst xs)->Deeps H' xs ((olL its 0).map orD)->Q (.ref q) H'
set_option maxHeartbeats 2000000 in
theorem xu(F:Fun K "outline" "outline" W5 f fd)(O:Own mg)(nX:Def P w K mg base 1 "bare" ["item"] Vn):FnOk P w K mg base (CXE P w) 2 f fd ["layout"] Qeu:=by
 refine Wu F JV (fun vs H Q E h=>?_) (fun cdv A outer s H vs Q E hr h=>?_)
 ·obtain⟨v,its,rfl,_⟩:=h;rfl
 ·obtain⟨v,its,rfl,D,hR,k⟩:=h;have hz:100000<=sizeLine:=by rw[sizeLine_eq];decide
  have hcn:=hR.cn;have hln:=V5 its;refine⟨_,(Qi (Qy (i:=1) JV.nd rfl (Or.inl rfl) (JF QA) rfl rfl)
   (Qi (PSy.mk (Wv (NB:=[".0","item"]) (iy:=3) rfl ⟨rfl,by decide+kernel,by decide+kernel,by decide+kernel⟩ (wa rfl O.reversed (Qz (pv 0) Qc) rfl) (fun _ _ _=>(Qm (i:=1) (show([".0","item"]:List Str).Nodup by decide+kernel) rfl (Or.inl rfl))) (fun _ _ _=>Jx) (fun _ _ _=>(QO (Qz Qd (Qz (pv 1) Qc)))) JV.nd rfl (Or.inl rfl) rfl))
   (Qi (PSy.mk (Zf PassesOwn.never (Ji (pv 3) (fun _=>rfl)) (Qe (JB (Uo plainAttrs_list slot_list_pop type_list_pop Uq (pv 3)) (JA rfl (Qn (Qm (i:=4) JV.nd rfl (Or.inr rfl)) (Qn (Qm (i:=2) JV.nd rfl (Or.inl rfl)) QV))))
   (Qe (QE (i:=5) JV.nd rfl (Or.inl rfl) (nX.pe hr (by decide) rfl Qu (Qz (pv 2) Qc)))
   (Qe (QE (i:=6) JV.nd rfl (Or.inl rfl) (Q9 QZ (Qw Qt (pv 5) Qd (fun _ _=>rfl)) Qg (Qo _)))
   (Qe (Jw (JQ plainAttrs_list PySem.F.slot_list_append PySem.F.type_list_append Jm (pv 1) (Qz (QO (Qz (pv 4) (Qz (Q9 QZ (Qw Qt (pv 2) Qd (fun _ _=>rfl)) Qg (Qo _)) (Qz (Ze (Ji (pv 6) (fun _=>rfl)) (pv 5) (QS Qbu (pv 5) Jl (QX (KL ZL Qd)))) Qc)))) Qc)))
   (Qh (Jh (Z5 (Ji (pv 6) (fun _=>rfl))) (Qh (Jw (JQ plainAttrs_list slot_list_extend type_list_extend Up (pv 3) (Qz (kP (NB:=[".0","inner"]) (FR:=["depth"]) (fi:=[4]) rfl ⟨rfl,by decide+kernel,by decide+kernel,by decide+kernel,by decide+kernel,by decide+kernel⟩ rfl rfl (wa rfl O.reversed (Qz (Qw Qt (pv 5) (KL ZL Qd) (fun _ _=>rfl)) Qc) rfl) (fun _ _ _=>(Qm (i:=1) (show([".0","inner","depth"]:List Str).Nodup by decide+kernel) rfl (Or.inl rfl))) (fun _ _ _=>Jx) (fun _ _ _=>(QO (Qz (QP Jd (pv 2) Qd) (Qz (pv 1) Qc))))) Qc)))) QI))))))))
   (Qs (QG (PEx.mk (pv 1))))))),?_⟩
  dsimp only[QH,JP,XX,QU];refine⟨sL0,fun ro hro=>?_⟩;have S1:=Qk.new (o:=.lst []) hro;have g1:upd H ro (.lst []) ro=some (.lst []):=Qa;generalize upd H ro (.lst [])=H1 at S1 g1;obtain⟨a,xs,rfl,g,t⟩:=Deep.Wy D;rw[Ju]at t;have lx:=t.length;rw[uk]at lx;refine ZN (QcQ (K:=K) (a:=a) (xs:=xs)) ((ops 0 its).map osD) (by unfold ops;rw[uk,uD,uk];omega) (fun R h=>⟨_,rfl,a,xs,rfl,.inl (.inl (S1 _ _ g)),h _ (Qk.refl _)⟩) (fun H2 S=>.inl (.inl (S _ _ (S1 _ _ g)))) ?_ ?_ (by omega)
  ·rintro i u H2 H3 d R hd S ⟨rfl,hu⟩ kk;obtain⟨x,ex,rfl⟩:=QaF lx hd;obtain⟨dv,hdv,ddv⟩:=t.VI hu;rw[uE,ex]at hdv;obtain rfl:=ur hdv;exact⟨_,rfl,sL2,fun p hp=>kk _ _ (Qk.new hp) (.tup Qa (.cons .int (.cons (((ddv.same S1).same S).same (Qk.new hp)) .nil)))⟩
  intro ys H2 lf S2 t2 hlf;have T3:TwoL H (upd H2 lf (.lst ys)) ro lf [] ys [] ((ops 0 its).map osD):=by
   have S3:=Qk.new (o:=.lst ys) hlf;refine⟨S1.trans (S2.trans S3),hro,(S1.trans S2).free hlf,fun z=>?_,S3 _ _ (S2 _ _ g1),Qa,.nil,t2.same S3⟩;rw[←z,S2 _ _ g1]at hlf;cases hlf
  generalize upd H2 lf (.lst ys)=H3 at T3;have hO:([]:List Wo)++olS (ops 0 its)=olL its 0:=jo 0 its;have hW:cnO (ops 0 its)<=8000:=by rw[jm];exact hcn
  have hI:∀e∈ops 0 its,wC e.2:=QaE hR;generalize ops 0 its=st0 at T3 hO hW hI;refine⟨fun m σ H4=>∃(x1 x2:List V)(acc:List Wo)(st:List Os)(y2 y4 y5 y6:Option V),σ=[some (.ref a),some (.ref ro),y2,some (.ref lf),y4,y5,y6]/\TwoL H H4 ro lf x1 x2 (acc.map orD) (st.map osD)/\acc++olS st=olL its 0/\cnO st<=m/\acc.length+m<=8000/\∀e∈st,wC e.2,⟨8000,[],ys,[],st0,none,none,none,none,rfl,T3,hO,hW,by simp,hI⟩,?_⟩;clear T3 hO hW hI t2 hlf S2;rintro m σ H4 ⟨x1,x2,acc,st,y2,y4,y5,y6,rfl,T4,hO,hW,hm,hI⟩;have l1:=T4.t1.length;have l2:=T4.t2.length;rw[uk]at l1 l2;rcases List.eq_nil_or_concat st with rfl|⟨st0,e0,rfl⟩
  ·have e:x2=[]:=List.eq_nil_of_length_eq_zero (by simpa using l2);subst e;refine⟨_,rfl,false,.inl ⟨_,.inl (.inl T4.g2),rfl⟩,QN ⟨_,rfl,?_⟩⟩;have hO:acc++[]=olL its 0:=hO;rw[uL]at hO;rw[←hO]at k;exact k _ _ _ T4.S T4.g1 T4.t1
  rw[List.concat_eq_append]at T4 hO hW l2 hI;obtain⟨d,x⟩:=e0;rw[jn,wB]at hO;rw[Y3]at hW;have hW:cnO st0+(cnI x+0)<=m:=hW;have hpos:=Vk x;obtain⟨hIx,hIn⟩:wC x:=hI _ (ux _ uA);have hI0:∀e∈st0,wC e.2:=fun e he=>hI e (uy _ he);have lst0:=wA st0;rw[uH]at T4;obtain⟨xs0,xl,rfl,t1,Dl⟩:=Qc4 T4.t2;refine⟨_,rfl,true,.inl ⟨_,.inl (.inl T4.g2),by simp⟩,QQ ?_⟩;refine⟨fun σ' H'=>∃m',m'<m/\∃(x1 x2:List V)(acc:List Wo)(st:List Os)(y2 y4 y5 y6:Option V),σ'=[some (.ref a),some (.ref ro),y2,some (.ref lf),y4,y5,y6]/\TwoL H H' ro lf x1 x2 (acc.map orD) (st.map osD)/\acc++olS st=olL its 0/\cnO st<=m'/\acc.length+m'<=8000/\∀e∈st,wC e.2,fun _ _ h=>h,?_⟩;refine⟨_,rfl,.inl ⟨rfl,_,.inl (.inl T4.g2)⟩,?_⟩;refine⟨lf,_,xl,rfl,rfl,T4.g2,by simp,?_⟩;have T5:TwoL H (upd H4 lf (.lst (xs0++[xl]).dropLast)) ro lf x1 xs0 (acc.map orD) (st0.map osD):=by
   rw[List.dropLast_concat];exact T4.put2 t1
  have Dl5:=Dl.X8 (o':=.lst (xs0++[xl]).dropLast) T4.g2 V7;generalize upd H4 lf (.lst (xs0++[xl]).dropLast)=H5 at T5 Dl5;clear T4 Dl t1;obtain⟨pb,px,rfl,gp,tp⟩:=Deep.Wy (show Deep H5 xl (.tup [.int (d:Nat),dvI x])from Dl5);obtain⟨vy,rfl,DY⟩:∃vy,px=[.int (d:Nat),vy]/\Deep H5 vy (dvI x):=by
   cases tp with
   |cons p1 t=>cases t with
    |cons p2 t=>
     cases t;obtain rfl:=p1.Qbt;exact⟨_,rfl,p2⟩
  refine⟨pb,_,rfl,.inl (.inl gp),rfl,_,_,rfl,_,_,rfl,rfl,?_⟩;dsimp only[QH,JP,XX,QU,List.set];refine⟨_,rfl,vy,wI x,rfl,DY.ws,hIx,fun u Du=>?_⟩;rw[Kz, ←Ly.w_eq]at Du;have Du:=Ws.deep Du;obtain⟨o,y⟩:=x;have hov:∃b w0 r,vy=.ref b/\H5 b=some (.tup (.str w0::r))/\decide (V.str w0=V.str "over")=o:=by
   cases o with
   |true=>
    obtain⟨b,x2,rfl,gb,_⟩:=K9 DY;exact⟨b,_,_,rfl,gb,by decide+kernel⟩
   |false=>
    rw[dvI,if_neg (by decide)]at DY;obtain⟨b,ys,rfl,gb⟩:=Qby DY;exact⟨b,_,_,rfl,gb,Kt y⟩
  obtain⟨b,w0,r,rfl,gb,hov⟩:=hov;rw[olI]at hO;rw[cnI]at hW;cases hi:VL y with
  |none=>
   cases y with
   |grp nm i=>cases hi
   |tab nm k i=>cases hi
   |box nm p=>
    obtain⟨ya,rfl,gy⟩:=US Du;refine⟨_,rfl,ya,_,0,_,rfl,rfl,.inl gy,rfl,rfl,?_⟩;rw[show decide (V.str "box"=V.str "box")=true by decide+kernel];dsimp only[List.set];refine⟨_,rfl,.inl ⟨rfl,_,.inl (.inl T5.g1)⟩,?_⟩;refine⟨_,rfl,_,rfl,b,_,0,_,rfl,rfl,.inl gb,QK (j:=0) rfl,rfl,?_⟩;rw[hov];refine⟨_,rfl,true,rfl,QQ ⟨_,rfl,sL3,fun q hq=>?_⟩⟩;have S6:=Qk.new (o:=.tup [.int (d:Nat),.bl o,.ref ya]) hq;have T6:=T5.same S6;have D6:Deep (upd H5 q (.tup [.int (d:Nat),.bl o,.ref ya])) (.ref q) (orD (d,o,.box nm p)):=.tup Qa (.cons .int (.cons .bl (.cons (.tup (S6 _ _ gy) (.cons .str (.cons .str (.cons .str .nil)))) .nil)));generalize upd H5 q (.tup [.int (d:Nat),.bl o,.ref ya])=H6 at T6 D6;refine⟨ro,x1,.ref q,rfl,rfl,T6.g1,by omega,?_⟩;refine⟨_,rfl,true,rfl,QN ?_⟩;rw[Ly.cn]at hW;rw[Ly.ol]at hO;refine⟨m-1,by omega,x1++[.ref q],xs0,acc++[(d,o,.box nm p)],st0,_,_,_,_,rfl,?_,by rw[uI];exact hO,by omega,by rw[uj,uu];omega,hI0⟩;rw[uH];exact T6.qQ (T6.t1.append (.cons D6 .nil))
  |some i=>
   obtain⟨ya,yw,y1,y2',yr,z,rfl,gy,hnb,hlast,Dz,hns,Dc⟩:=wD Du hi;refine⟨_,rfl,ya,_,0,_,rfl,rfl,.inl gy,QK (j:=0) rfl,rfl,?_⟩;rw[hnb];dsimp only[List.set];refine⟨_,rfl,.inl ⟨rfl,_,.inl (.inl T5.g1)⟩,?_⟩;refine⟨_,rfl,_,rfl,b,_,0,_,rfl,rfl,.inl gb,QK (j:=0) rfl,rfl,?_⟩;rw[hov];refine⟨_,rfl,false,rfl,QN ⟨_,rfl,1,rfl,_,rfl,ya,_,rfl,.inl gy,(fun z=>absurd z hns),fun _ q0 hq0=>⟨sL3,fun q hq=>?_⟩⟩⟩;have S60:=Qk.new (o:=.tup (Vz (.str yw::y1::y2'::yr) none (some (-1)))) hq0;have D60:Deep (upd H5 q0 (.tup (Vz (.str yw::y1::y2'::yr) none (some (-1))))) (.ref q0) (.tup (jl y)):=.tup Qa (Dc.same S60);generalize upd H5 q0 (.tup (Vz (.str yw::y1::y2'::yr) none (some (-1))))=H60 at S60 D60 hq;have S6:=Qk.new (o:=.tup [.int (d:Nat),.bl o,.ref q0]) hq;have T6:=(T5.same S60).same S6;have D6:Deep (upd H60 q (.tup [.int (d:Nat),.bl o,.ref q0])) (.ref q) (orD (d,o,y)):=.tup Qa (.cons .int (.cons .bl (.cons (D60.same S6) .nil)));have gy6:=(S60.trans S6) _ _ gy;have Dz6:=Dz.same (S60.trans S6);generalize upd H60 q (.tup [.int (d:Nat),.bl o,.ref q0])=H6 at T6 D6 gy6 Dz6;refine⟨ro,x1,.ref q,rfl,rfl,T6.g1,by omega,?_⟩;have T7:=T6.qQ (T6.t1.append (.cons D6 .nil));have gy7:=Vs (ys:=x1++[.ref q]) gy6 T6.g1;have Dz7:=Dz6.X8 (o':=.lst (x1++[.ref q])) T6.g1 V7;generalize upd H6 ro (.lst (x1++[.ref q]))=H7 at T7 gy7 Dz7;refine⟨_,rfl,false,rfl,QQ ?_⟩;refine⟨_,rfl,.inl ⟨rfl,_,.inl (.inl T7.g2)⟩,?_⟩;obtain⟨za,zs,rfl,gz,tz⟩:=Deep.Wy Dz7;rw[Ju]at tz;have lz:=tz.length;rw[uk]at lz;have hRi:=hIn i hi;have hlni:=V5 i;have hcni:y.cn=1+cnL i:=by
    cases y with
    |box=>cases hi
    |grp nm j=>obtain rfl:=ur hi;rw[Ly.cn]
    |tab nm k j=>obtain rfl:=ur hi;rw[Ly.cn]
   have holi:y.ol d=olL i (d+1):=by
    cases y with
    |box=>cases hi
    |grp nm j=>obtain rfl:=ur hi;rw[Ly.ol]
    |tab nm k j=>obtain rfl:=ur hi;rw[Ly.ol]
   refine ta1 ?_;refine kY ?_;refine⟨_,rfl,1,rfl,ya,_,_,_,rfl,rfl,.inl gy7,hlast,za,zs,rfl,.inl (.inl gz),?_⟩;refine xc (fv:=[.int (d:Nat)]) (QcQ (K:=K) (a:=za) (xs:=zs)) ((ops (d+1) i).map osD) (by unfold ops;rw[uk,uD,uk];omega) (fun R h=>h H7 (Qk.refl _)) rfl (fun H1 S=>.inl (.inl (S _ _ gz))) ?_ ?_ (by omega)
   ·rintro j u H8 H9 dd R hd S ⟨rfl,hu⟩ kk;obtain⟨x,ex,rfl⟩:=QaF lz hd;obtain⟨dv,hdv,ddv⟩:=tz.VI hu;rw[uE,ex]at hdv;obtain rfl:=ur hdv;refine⟨rfl,_,rfl,_,_,rfl,rfl,_,rfl,sL2,fun p hp=>kk _ _ (Qk.new hp) (.tup Qa (.cons ?_ (.cons ((ddv.same S).same (Qk.new hp)) .nil)))⟩;exact .int
   intro ys8 H8 q8 S8 t8 hq8;have S9:=Qk.new (o:=.lst ys8) hq8;have T9:=(T7.same S8).same S9;have t9:=t8.same S9;have g9:upd H8 q8 (.lst ys8) q8=some (.lst ys8):=Qa;generalize upd H8 q8 (.lst ys8)=H9 at T9 t9 g9;have l9:=t9.length;have lo9:((ops (d+1) i).map osD).length=i.length:=by unfold ops;simp
   have lx0:=T9.t2.length;rw[uk]at lx0;refine⟨lf,q8,xs0,ys8,rfl,rfl,T9.g2,g9,by omega,?_⟩;refine⟨m-1,by omega,x1++[.ref q],xs0++ys8,acc++[(d,o,y)],st0++ops (d+1) i,_,_,_,_,rfl,?_,?_,?_,by rw[uj,uu];omega,?_⟩
   ·rw[uH,uH];exact T9.put2 (T9.t2.append t9)
   ·rw[jn,jo, ←holi,uI];exact hO
   ·rw[Y3,jm];omega
   ·intro e he;rcases List.mem_append.mp he with he|he
    ·exact hI0 e he
    ·exact QaE hRi e he
end
end Lw
namespace L2
open PySem PySem.Spec PyProof.Rows
section
variable {X:Cx}
theorem wF{K0:PySem.W.Frag}(h:X.K=K0):XG X (.builtin "isinstance") (QeI K0):=by subst h;exact QL
end
end L2
namespace Lw
open PySem PySem.Spec PyProof.Rows L2 K02 K04 K42
open Builtin Builtin.Str StrLaws
noncomputable def tot(z:Str):List Str->Nat
 |[]=>0
 |y::ys=>y.length+z.length+tot z ys
theorem Y4{z:Str}{ys:List Str}(h:tot z ys<=sizeLine):JoinOk z ys=true:=by
 have key:∀(ys:List Str)(n:Nat),ys.foldl (fun(m:Nat)(s:Str)=>m+s.length+z.length) n=n+tot z ys:=by
  intro ys
  induction ys with
  |nil=>intro n;rfl
  |cons a r ih=>
   intro n;rw[List.foldl_cons,ih,tot];omega
 unfold JoinOk;rw[←Array.foldl_toList,List.toList_toArray,key];unfold tooLong;rw[um (by omega)];rfl
theorem rep2:∀k:Nat,L2.VW (tx [32,32]) k=tx (List.replicate (2*k) 32):=by
 intro k;rw[ZC (L2.VW (tx [32,32]) k)]
 congr 1
 unfold L2.VW;have key:∀(k:Nat)(a:Array Nat),((List.replicate k (tx [32,32]).cps).foldl (· ++ ·) a).toList=a.toList++List.replicate (2*k) 32:=by
  intro k
  induction k with
  |zero=>intro a;simp
  |succ k ih=>
   intro a;rw[List.replicate_succ,List.foldl_cons,ih,Array.toList_append,uI];rfl
 have:=key k #[];simpa using this
noncomputable def ZP:Ly->List (List Nat)
 | .box nm p=>[bxS,nm.cps.toList,p]
 | .grp nm _=>[gpS,nm.cps.toList]
 | .tab nm k _=>[tbS,nm.cps.toList,dec k]
noncomputable def lnW(r:Wo):List Nat:=List.replicate (2*r.1) 32++(if r.2.1=true then ovS++[32]else[])++glue 32 (ZP r.2.2)
noncomputable def lnT(r:Wo):List Nat:=lnW r++[10]
noncomputable def txL(its:List (Bool × Ly)):List Nat:=((olL its 0).map lnT).flatten
noncomputable def GdY:Ly->Prop
 | .box nm p=>nm.length<=12/\p.length<=500
 | .grp nm _=>nm.length<=12
 | .tab nm k _=>nm.length<=12/\k<=30
theorem zf(c:Nat):∀ps:List (List Nat),(glue c ps).length<=(ps.map (fun p=>p.length+1)).sum
 |[]=>uQ _
 |[p]=>by simp[glue]
 |p::q::ps=>by
  have:=zf c (q::ps);rw[glue,uj,uw,uN,List.sum_cons];omega
theorem Qev{k:Nat}(h:k<=30):(dec k).length<=2:=by
 have:∀k:Nat,k<=30->(dec k).length<=2:=by decide+kernel
 exact this k h
theorem Y5{y:Ly}(h:GdY y):((ZP y).map (fun p=>p.length+1)).sum<=600:=by
 cases y with
 |box nm p=>
  obtain⟨h1,h2⟩:=h
  replace h1:nm.cps.toList.length<=12:=by rw[uO];exact h1
  simp only[ZP,uN,List.map_nil,List.sum_cons,List.sum_nil,bxS,uw,List.length_nil];omega
 |grp nm i=>
  replace h:nm.cps.toList.length<=12:=by rw[uO];exact h
  simp only[ZP,uN,List.map_nil,List.sum_cons,List.sum_nil,gpS,uw,List.length_nil];omega
 |tab nm k i=>
  obtain⟨h1,h2⟩:=h;have hd:=Qev h2
  replace h1:nm.cps.toList.length<=12:=by rw[uO];exact h1
  simp only[ZP,uN,List.map_nil,List.sum_cons,List.sum_nil,tbS,uw,List.length_nil];omega
theorem Y6{y:Ly}(h:GdY y):(glue 32 (ZP y)).length<=600:=Nat.le_trans (zf 32 (ZP y)) (Y5 h)
theorem yX(y:Ly):(jl y).length=(ZP y).length/\(ZP y).length<=3:=by cases y<;>exact⟨rfl,by simp[ZP]⟩
section
variable {P:Program}{w:World}{K:PySem.W.Frag}{mg:Str->Option Value}{base:Heap}{f:Addr}{fd:FuncData}{tk:Nat->Tok}{c kr:Nat->Addr}
noncomputable def wG:Sp:=fun vs H Q _=>∃n:Nat,vs=[.int n]/\n<10^18/\∀H',Qk H H'->Q (.str (tx (dec n))) H'
theorem Y7(F:Fun K "figures_of" "figures_of" Xj f fd)(O:Own mg)(T:Txt K mg tk c kr)(mz:Def P w K mg base 1 "ten_to" ["many"] yg):FnOk P w K mg base (CXE P w) 2 f fd ["number"] wG:=by
 refine okN F JJ (fun vs H Q E h=>?_) (fun cdv A outer s H vs Q E hr h=>?_)
 ·obtain⟨n,rfl,_⟩:=h;rfl
 ·obtain⟨n,rfl,hn,k⟩:=h;refine⟨_,(Qe (QE (i:=1) JJ.nd rfl (Or.inl rfl) (mz.pe hr (by decide) rfl Qu (Qb (QB (v:=V.int 18) rfl T.mT ⟨_,rfl⟩) Qc)))
   (Qe (QE (i:=2) JJ.nd rfl (Or.inl rfl) (Zw Qc))
   (Qe (Zf PassesOwn.never (Ql vF (pv 0) (pv 1) (Qo _)) (Qe (JB (Qj qk rfl O.divmod PyProof.Rows.boot_divmod (Qb (pv 0) (Qb (pv 1) Qc))) (JA rfl (Qn (Qm (i:=0) JJ.nd rfl (Or.inl rfl)) (Qn (Qm (i:=3) JJ.nd rfl (Or.inl rfl)) QV))))
   (Qh (Jw (JQ plainAttrs_list PySem.F.slot_list_append PySem.F.type_list_append Jm (pv 2) (Qb (JQ plainAttrs_str slot_str_zfill type_str_zfill vZ (J4 Xe rfl O.str PyProof.Rows.boot_str (Qb (pv 3) Qc)) (Qb (QB (v:=V.int 18) rfl T.mT ⟨_,rfl⟩) Qc)) Qc))))))
   (Qe (Jw (JQ plainAttrs_list PySem.F.slot_list_append PySem.F.type_list_append Jm (pv 2) (Qb (J4 Xe rfl O.str PyProof.Rows.boot_str (Qb (pv 0) Qc)) Qc)))
   (Qh (QD (zS rfl rfl O.reversed Qg (pv 2)))))))),?_⟩
  refine⟨18,rfl,by decide,by decide,by show 0<=sizeLine;decide,fun p hp=>?_⟩;have S1:=Qk.new (o:=.lst []) hp;refine⟨fun m σ H2=>σ=[some (.int (n:Int)),some (.int (K01.ten 18)),some (.ref p),none]/\H2=upd H p (.lst []),⟨0,rfl,rfl⟩,?_⟩;rintro m σ H2 ⟨rfl,rfl⟩;refine⟨_,rfl,_,rfl,_,_,rfl,rfl,_,rfl,?_⟩;have h18:K01.ten 18=10^18:=by decide
  refine ifB (fun q=>absurd (of_decide_eq_true q) (by rw[h18];omega)) (fun _=>?_);have hlog:(n:Int).natAbs.log2<1920:=by
   rw[Int.natAbs_natCast]
   by_cases h0:n=0
   ·rw[h0];decide
   ·exact(Nat.log2_lt h0).mpr (Nat.lt_trans hn (by decide))
  refine⟨_,rfl,.inl ⟨rfl,_,.inl (.inl Qa)⟩,_,rfl,(n:Int),rfl,hlog,p,[],_,rfl,rfl,Qa,by show 0<sizeLine;decide,?_⟩;rw[K02.WN];have S2:Qk H (upd (upd H p (.lst [])) p (.lst ([]++[.str (tx (dec n))]))):=fun b o e=>by
   have hb:=Qv e hp;rw[Qp hb,Qp hb];exact e
  have hdl:=Qbm (n:=n) (Nat.lt_trans hn (by decide));refine⟨"",rfl,_,rfl,p,[tx (dec n)],rfl,Qa,?_,?_⟩
  ·have hjl:=Qq (dec n);show(!Builtin.Str.tooLong (0+(tx (dec n)).length+("":Str).length))=true;rw[hjl];have he:("":Str).length=0:=by decide+kernel
   rw[he];unfold Builtin.Str.tooLong;have hz:1000<=sizeLine:=by decide
   rw[um (by omega)];rfl
  ·have ej:Txt.join "" [tx (dec n)].reverse=tx (dec n):=by
    show Builtin.Str.glued _ _=_;rw[StrLaws.glued_eq_join];rfl
   rw[ej];exact k _ S2
theorem KI{H:Hp}:∀{ps:List (List Nat)}{ys:List V},Deeps H ys (ps.map fun p=>Dv.str (tx p))->ys=(ps.map tx).map V.str
 |[],_,.nil=>rfl
 |p::ps,_,.cons h t=>by
  rw[h.Ud,KI (ps:=ps) t];rfl
theorem wH(ch:Nat)(ps:List (List Nat)):Txt.join ⟨#[ch]⟩ (ps.map tx)=tx (glue ch ps):=by
 show Builtin.Str.glued _ _=_;rw[StrLaws.glued_eq_join,Vq,uM]
 congr 2
 exact List.map_id ps
theorem U7(z:Str):∀ps:List (List Nat),tot z (ps.map tx)=(ps.map (fun p=>p.length+z.length)).sum
 |[]=>rfl
 |p::ps=>by rw[uN,tot,U7 z ps,Qq,uN,List.sum_cons]
theorem QbN{y:Ly}(hg:GdY y){i:Nat}{d:Dv}(h:(jl y)[i]? =some d):(∃z:Str,d=.str z/\(ZP y)[i]? =some z.cps.toList)\/∃n:Nat,d=.int (n:Nat)/\n<=30/\(ZP y)[i]? =some (dec n):=by
 cases y with
 |box nm p=>
  match i,h with
  |0,h=>exact .inl ⟨_,(ur h).symm,rfl⟩
  |1,h=>exact .inl ⟨_,(ur h).symm,rfl⟩
  |2,h=>exact .inl ⟨_,(ur h).symm,rfl⟩
 |grp nm its=>
  match i,h with
  |0,h=>exact .inl ⟨_,(ur h).symm,rfl⟩
  |1,h=>exact .inl ⟨_,(ur h).symm,rfl⟩
 |tab nm k its=>
  match i,h with
  |0,h=>exact .inl ⟨_,(ur h).symm,rfl⟩
  |1,h=>exact .inl ⟨_,(ur h).symm,rfl⟩
  |2,h=>exact .inr ⟨k,(ur h).symm,hg.2,rfl⟩
noncomputable def QbO:Sp:=fun vs H Q _=>∃(r:Wo)(u:V),vs=[.int (r.1:Nat),.bl r.2.1,u]/\Deep H u (.tup (jl r.2.2))/\GdY r.2.2/\r.1<=100/\∀H',Qk H H'->Q (.str (tx (lnT r))) H'
theorem U8(F:Fun K "item_text" "item_text" X6 f fd)(O:Own mg)(T:Txt K mg tk c kr)(KT:KitL K)(mF:Def P w K mg base 2 "figures_of" ["number"] wG):FnOk P w K mg base (CXE P w) 3 f fd ["depth","is_over","parts"] QbO:=by
 refine Wu F Wj (fun vs H Q E h=>?_) (fun cdv A outer s H vs Q E hr h=>?_)
 ·obtain⟨r,u,rfl,_⟩:=h;rfl
 ·obtain⟨⟨d,o,y⟩,u,rfl,D,hg,hd,k⟩:=h;have hz:100000<=sizeLine:=by rw[sizeLine_eq];decide
  have hgl:=Y6 hg;obtain⟨lp,l3⟩:=yX y
  replace hd:d<=100:=hd
  refine⟨_,(Qi (PSy.mk (Wv (NB:=[".0","part"]) (iy:=3) rfl ⟨rfl,by decide+kernel,by decide+kernel,by decide+kernel⟩ (XJ (pv 2)) (fun _ _ _=>(Qm (i:=1) (show([".0","part"]:List Str).Nodup by decide+kernel) rfl (Or.inl rfl))) (fun _ _ _=>Jx) (fun _ _ _=>(Ze (Zp (Qj (wF (K0:=K) rfl) rfl O.isi PyProof.Rows.boot_isinstance (Qz (pv 1) (Qz (ZR (v:=V.ty "str") rfl O.str PyProof.Rows.boot_str rfl) Qc)))) (pv 1) (mF.pe hr (by decide) rfl Qu (Qz (pv 1) Qc)))) Wj.nd rfl (Or.inl rfl) rfl))
   (Qs (QG (Q2 QJ (Q2 QJ (Q2 QJ (Q2 WY (PEx.mk (QB (v:=V.str "  ") rfl T.my ⟨_,rfl⟩)) (PEx.mk (pv 0))) (Wk (Ji (pv 1) (fun _=>rfl)) (PEx.mk Qg) (PEx.mk Qg))) (Xq (QF (PEx.mk (pv 3)) QA rfl) rfl rfl)) (PEx.mk Qg))))),?_⟩
  dsimp only[QH,JP,XX,QU];obtain⟨a,xs,rfl,g,t⟩:=Deep.Wy D;have lx:=t.length
  replace lx:xs.length=(jl y).length:=lx
  refine ZN (yp (K:=K) (a:=a) (xs:=xs)) ((ZP y).map fun p=>Dv.str (tx p)) (by rw[uk];omega) (fun R h=>⟨_,rfl,a,rfl,⟨_,.inl (.inl g)⟩,h _ (Qk.refl _)⟩) (fun H2 S=>.inl (.inl (S _ _ g))) ?_ ?_ (by omega)
  ·rintro i v H2 H3 dd R hdd S ⟨rfl,hv⟩ kk;obtain⟨dv,hdv,ddv⟩:=t.VI hv;rw[uE]at hdd;rcases QbN hg hdv with⟨z,rfl,hw⟩|⟨n,rfl,hn,hw⟩
   ·obtain rfl:=ddv.Ud;rw[hw]at hdd;obtain rfl:=ur hdd;refine⟨_,rfl,_,_,true,rfl,rfl,.inl ⟨_,.str _,KT.s (.str z)⟩,true,rfl,QQ ⟨_,rfl,kk _ _ (Qk.refl _) ?_⟩⟩;show Deep H3 (.str z) (.str (tx z.cps.toList));rw[←ZC];exact .str
   ·obtain rfl:=ddv.Qbt;rw[hw]at hdd;obtain rfl:=ur hdd;refine⟨_,rfl,_,_,false,rfl,rfl,.inl ⟨_,.int _,KT.s (.int (n:Nat))⟩,false,rfl,QN ⟨_,rfl,n,rfl,by omega,fun H4 S4=>kk _ _ S4 .str⟩⟩
  intro ys H2 q S2 t2 hq;have eys:=KI (ps:=ZP y) t2;subst eys;have S3:=Qk.new (o:=.lst (((ZP y).map tx).map V.str)) hq;have g3:upd H2 q (.lst (((ZP y).map tx).map V.str)) q=some (.lst (((ZP y).map tx).map V.str)):=Qa;generalize upd H2 q (.lst (((ZP y).map tx).map V.str))=H3 at S3 g3;have e2:("  ":Str)=tx [32,32]:=by decide+kernel
  have hjo:JoinOk " " ((ZP y).map tx)=true:=by
   refine Y4 ?_;rw[U7];have:=Y5 (y:=y) hg;rw[show(" ":Str).length=1 by decide+kernel];omega
  have hj:Txt.join " " ((ZP y).map tx)=tx (glue 32 (ZP y)):=by rw[Qeq];exact wH 32 _
  have hrep:L2.VW "  " ((d:Nat):Int).toNat=tx (List.replicate (2*d) 32):=by rw[e2,uS,rep2]
  refine⟨_,rfl,"  ",(d:Nat),rfl,rfl,by omega,by rw[uS,show("  ":Str).length=2 by decide+kernel];omega,by omega,_,rfl,o,rfl,?_⟩;rw[hrep];have hfin:∀pr:List Nat,pr.length<=5->pr=(if o=true then ovS++[32]else[])->tx (List.replicate (2*d) 32)++tx pr++tx (glue 32 (ZP y))++"\n"=tx (lnT (d,o,y)):=fun pr h1 h2=>by
   rw[show("\n":Str)=tx [10] by decide+kernel,Js,Js,Js,h2];rfl
  cases o with
  |true=>
   refine QQ ⟨_,_,rfl,rfl,?_,rfl,_,rfl," ",q,_,rfl,rfl,.inl (.inl g3),hjo,?_⟩
   ·rw[Qq,uG,show("over ":Str).length=5 by decide+kernel];omega
   rw[hj,show("over ":Str)=tx (ovS++[32]) by decide+kernel];refine⟨_,_,rfl,rfl,?_,_,_,rfl,rfl,?_,?_⟩
   ·rw[Str.length_append,Qq,Qq,Qq,uG];show _+5+_<=_
    replace hgl:(glue 32 (ZP y)).length<=600:=hgl
    omega
   ·rw[Str.length_append,Str.length_append,Qq,Qq,Qq,uG,show("\n":Str).length=1 by decide+kernel];show _+5+_+_<=_
    replace hgl:(glue 32 (ZP y)).length<=600:=hgl
    omega
   ·rw[hfin (ovS++[32]) (by decide) rfl];exact k _ (S2.trans S3)
  |false=>
   refine QN ⟨_,_,rfl,rfl,?_,rfl,_,rfl," ",q,_,rfl,rfl,.inl (.inl g3),hjo,?_⟩
   ·rw[Qq,uG,show("":Str).length=0 by decide+kernel];omega
   rw[hj,show("":Str)=tx [] by decide+kernel];refine⟨_,_,rfl,rfl,?_,_,_,rfl,rfl,?_,?_⟩
   ·rw[Str.length_append,Qq,Qq,Qq,uG];show _+0+_<=_
    replace hgl:(glue 32 (ZP y)).length<=600:=hgl
    omega
   ·rw[Str.length_append,Str.length_append,Qq,Qq,Qq,uG,show("\n":Str).length=1 by decide+kernel];show _+0+_+_<=_
    replace hgl:(glue 32 (ZP y)).length<=600:=hgl
    omega
   ·rw[hfin [] (by decide) rfl];exact k _ (S2.trans S3)
end
theorem zg:∀ls:List (List Nat),Txt.join "" (ls.map tx)=tx ls.flatten:=by
 intro ls;show Builtin.Str.glued _ _=_;rw[StrLaws.glued_eq_join];have e:("":Str)=tx []:=by decide+kernel
 rw[e]
 induction ls with
 |nil=>rfl
 |cons a r ih=>
  cases r with
  |nil=>simp[PySem.Str.join]
  |cons b r=>
   show tx a++tx []++PySem.Str.join (tx []) ((b::r).map tx)=_;rw[ih,Js,Js,List.flatten_cons (l:=a),uL]
mutual
theorem Ly.Qc5:∀(y:Ly)(d:Nat),(y.ol d).length+1=y.cn
 | .box _ _,d=>by rw[Ly.ol,Ly.cn];rfl
 | .grp _ its,d=>by rw[Ly.ol,Ly.cn,Kb its (d+1)];omega
 | .tab _ _ its,d=>by rw[Ly.ol,Ly.cn,Kb its (d+1)];omega
theorem Kb:∀(its:List (Bool × Ly))(d:Nat),(olL its d).length=cnL its
 |[],d=>by rw[olL,cnL];rfl
 |x::xs,d=>by rw[olL,cnL,uj,Kb xs d,QbP x d]
theorem QbP:∀(x:Bool × Ly)(d:Nat),(olI x d).length=cnI x
 |(o,y),d=>by rw[olI,cnI,uw,Ly.Qc5 y d]
end
theorem Qew{o:Bool}{y:Ly}(h:QT (wI (o,y))=true)(hk:y.okK):GdY y:=by
 have hb:=(Kx h).1;rw[Kz]at hb;have key:∀{nm:Str},nmS nm=true->nm.length<=12:=fun{nm} h=>by
  unfold nmS at h;rw[Bool.and_eq_true,Bool.and_eq_true]at h;exact of_decide_eq_true h.1.2
 cases y with
 |box nm p=>
  have hb:(nmS nm&&_)=true:=hb;rw[Bool.and_eq_true]at hb;rw[Ly.okK]at hk;exact⟨key hb.1,hk.2⟩
 |grp nm i=>
  have hb:(nmS nm&&_)=true:=hb;rw[Bool.and_eq_true]at hb;exact key hb.1
 |tab nm k i=>
  have hb:(nmS nm&&_)=true:=hb;rw[Bool.and_eq_true]at hb;rw[Ly.okK]at hk;exact⟨key hb.1,hk.1⟩
theorem Rows.okL{its:List (Bool × Ly)}(h:Rows its):okL its:=by cases h with|mk h c o dp t=>exact o
mutual
theorem Ly.Qex:∀(y:Ly)(d:Nat),(∀i,VL y=some i->Rows i)->∀r∈y.ol d,GdY r.2.2/\r.1<=d+y.cn
 | .box _ _,d,_,r,hr=>by rw[Ly.ol]at hr;cases hr
 | .grp nm its,d,h,r,hr=>by
  rw[Ly.ol]at hr;have hi:=h its rfl;have:=zh its (d+1) (fun x hx=>⟨hi.it x hx,Vl hi.okL hx⟩) r hr;rw[Ly.cn];exact⟨this.1,by omega⟩
 | .tab nm k its,d,h,r,hr=>by
  rw[Ly.ol]at hr;have hi:=h its rfl;have:=zh its (d+1) (fun x hx=>⟨hi.it x hx,Vl hi.okL hx⟩) r hr;rw[Ly.cn];exact⟨this.1,by omega⟩
theorem zh:∀(its:List (Bool × Ly))(d:Nat),(∀x∈its,wC x/\x.2.okK)->∀r∈olL its d,GdY r.2.2/\r.1<=d+cnL its
 |[],d,_,r,hr=>by rw[olL]at hr;cases hr
 |x::xs,d,h,r,hr=>by
  rw[olL]at hr;rw[cnL];rcases List.mem_append.mp hr with hr|hr
  ·have:=Qc6 x d (h x uA) r hr;exact⟨this.1,by omega⟩
  ·have:=zh xs d (fun z hz=>h z (uz _ hz)) r hr;exact⟨this.1,by omega⟩
theorem Qc6:∀(x:Bool × Ly)(d:Nat),(wC x/\x.2.okK)->∀r∈olI x d,GdY r.2.2/\r.1<=d+cnI x
 |(o,y),d,h,r,hr=>by
  rw[olI]at hr;rw[cnI];rcases List.mem_cons.mp hr with rfl|hr
  ·exact⟨Qew h.1.1 h.2,Nat.le_add_right _ _⟩
  ·exact Ly.Qex y d h.1.2 r hr
end
theorem Rows.ol{its:List (Bool × Ly)}(h:Rows its):∀r∈olL its 0,GdY r.2.2/\r.1<=cnL its:=fun r hr=>by
 have:=zh its 0 (fun x hx=>⟨h.it x hx,Vl h.okL hx⟩) r hr;rwa[Nat.zero_add]at this
theorem wJ{r:Wo}(h:GdY r.2.2)(hd:r.1<=100):(lnT r).length<=810:=by
 have:=Y6 h;unfold lnT lnW;rw[uj,uj,uj,uG,uu];have:(if r.2.1=true then ovS++[32]else[]).length<=5:=by split<;>simp[ovS]
 omega
theorem QbQ{B:Nat}:∀{l:List Nat},(∀x∈l,x<=B)->l.sum<=l.length*B
 |[],_=>uQ _
 |x::l,h=>by
  have h1:=h x uA;have h2:=QbQ (l:=l) fun y hy=>h y (uz _ hy);rw[List.sum_cons,uw,Nat.succ_mul];omega
section
variable {P:Program}{w:World}{K:PySem.W.Frag}{mg:Str->Option Value}{base:Heap}{f:Addr}{fd:FuncData}{tk:Nat->Tok}{c kr:Nat->Addr}
theorem yY{NB:List Str}{wi:TI}{g:TG}{tt:TT}{te:TE}{Q:VK}{σ:L2.St}{H:Hp}(h:wi σ H fun J H1=>KQ NB (fun _ H R=>R J H) g tt te σ H1 Q):KQ NB wi g tt te σ H Q:=h
noncomputable def wK:Sp:=fun vs H Q _=>∃(v:V)(its:List (Bool × Ly)),vs=[v]/\Deep H v (.tup (dvL its))/\Rows its/\cnL its<=100/\∀H',Qk H H'->Q (.str (tx (txL its))) H'
theorem XT(F:Fun K "layout_text" "layout_text" Z2 f fd)(ni:Def P w K mg base 2 "outline" ["layout"] Qeu)(ml:Def P w K mg base 3 "item_text" ["depth","is_over","parts"] QbO):FnOk P w K mg base (CXE P w) 4 f fd ["layout"] wK:=by
 refine Wu F VF (fun vs H Q E h=>?_) (fun cdv A outer s H vs Q E hr h=>?_)
 ·obtain⟨v,its,rfl,_⟩:=h;rfl
 ·obtain⟨v,its,rfl,D,hR,hc,k⟩:=h;have hz:100000<=sizeLine:=by rw[sizeLine_eq];decide
  have hol:=hR.ol;have lol:=Kb its 0;refine⟨_,(Qs (QG (Xq (QF (PEx.mk (Jo (NB:=[".0","depth","is_over","parts"]) rfl ⟨rfl,by decide+kernel,by decide+kernel,by decide+kernel⟩ (Zb (ni.pe hr (by decide) rfl Qu (Qz (pv 0) Qc))) (fun _ _ _=>(Vc (K0:=K) (n:=3) rfl rfl (Qn (Qm (i:=1) (show([".0","depth","is_over","parts"]:List Str).Nodup by decide+kernel) rfl (Or.inl rfl) (Or.inr rfl)) (Qn (Qm (i:=2) (show([".0","depth","is_over","parts"]:List Str).Nodup by decide+kernel) rfl (Or.inl rfl) (Or.inr rfl)) (Qn (Qm (i:=3) (show([".0","depth","is_over","parts"]:List Str).Nodup by decide+kernel) rfl (Or.inl rfl) (Or.inr rfl)) QV))))) (fun _ _ _=>Jx) (fun _ _ _=>(ml.pe hr (by decide) rfl Qu (Qz (pv 1) (Qz (pv 2) (Qz (pv 3) Qc))))))) QA rfl) rfl rfl))),?_⟩;refine Qax ?_;refine⟨rfl,?_⟩;refine ta1 ?_;refine yY ?_;refine⟨_,rfl,v,its,rfl,D,hR,fun q xs H1 S1 g1 t1=>?_⟩;have lx:=t1.length;rw[uk]at lx;refine⟨q,rfl,⟨_,.inl (.inl g1)⟩,?_⟩;refine ZN (Qdz (K:=K) (a:=q) (xs:=xs)) (((olL its 0).map lnT).map fun p=>Dv.str (tx p)) (by rw[uk,uk];omega) (fun R h=>h _ (Qk.refl _)) (fun H2 S=>.inl (.inl (S _ _ g1))) ?_ ?_ (by omega)
  ·rintro i u H2 H3 d R hd S ⟨rfl,hu⟩ kk;obtain⟨dv,hdv,ddv⟩:=t1.VI hu;rw[uE]at hdv;rw[uE,uE]at hd;cases e:(olL its 0)[i]? with
   |none=>rw[e]at hdv;cases hdv
   |some r=>
    rw[e]at hdv hd;obtain rfl:=ur hdv;obtain rfl:=ur hd;obtain⟨hg,hdp⟩:=hol r (uF e);obtain⟨a,ys,rfl,g,t⟩:=Deep.Wy (show Deep H1 u (.tup [.int (r.1:Nat),.bl r.2.1,.tup (jl r.2.2)])from ddv);obtain⟨z,rfl,Dz⟩:∃z,ys=[.int (r.1:Nat),.bl r.2.1,z]/\Deep H1 z (.tup (jl r.2.2)):=by
     cases t with
     |cons h1 t=>cases t with
      |cons h2 t=>cases t with
       |cons h3 t=>
        cases t;cases h1;cases h2;exact⟨_,rfl,h3⟩
    refine⟨a,_,rfl,.inl (.inl (S _ _ g)),rfl,_,_,rfl,_,_,rfl,_,_,rfl,rfl,?_⟩;exact⟨_,rfl,_,rfl,_,rfl,r,z,rfl,Dz.same S,hg,by omega,fun H4 S4=>kk _ _ S4 .str⟩
  intro ys H2 p S2 t2 hp;have eys:=KI (ps:=(olL its 0).map lnT) t2;subst eys;have S3:=Qk.new (o:=.lst ((((olL its 0).map lnT).map tx).map V.str)) hp;refine⟨"",p,_,rfl,rfl,.inl (.inl Qa),?_,?_⟩
  ·refine Y4 ?_;rw[U7,show("":Str).length=0 by decide+kernel,uM];refine Nat.le_trans (QbQ (B:=810) fun x hx=>?_) (by rw[uk];omega);obtain⟨r,hr,rfl⟩:=List.mem_map.mp hx;obtain⟨hg,hdp⟩:=hol r hr;exact wJ hg (by omega)
  ·rw[zg];exact k _ (S1.trans (S2.trans S3))
end
noncomputable def wN(l:List Nat)(its:List Wx):Wx:=wh (isO l) (.tup (ptW l++[.tup its]))
noncomputable def wL(l:List Nat):Wx:=wh (isO l) (.tup (ptW l))
mutual
inductive PI:Nat->Wx->Prop where
 |leaf (l:List Nat) (hl:l.length<=80) (h:opn l=false):PI 1 (wL l)
 |node {n:Nat} {its:List Wx} (l:List Nat) (hl:l.length<=80) (h:opn l=true) (t:PIs n its):PI (n+1) (wN l its)
inductive PIs:Nat->List Wx->Prop where
 |nil:PIs 0 []
 |cons {n m:Nat} {x:Wx} {xs:List Wx} (h:PI n x) (t:PIs m xs):PIs (n+m) (x::xs)
end
theorem PIs.snoc{m:Nat}{x:Wx}(h:PI m x):∀{n:Nat}{xs:List Wx},PIs n xs->PIs (n+m) (xs++[x])
 |_,_,.nil=>by rw[Nat.zero_add];exact .cons (n:=m) (m:=0) h .nil
 |_,_,.cons h1 t=>by rw[Nat.add_assoc];exact .cons h1 (t.snoc h)
inductive StI:Nat->List Ent->Prop where
 |bot {n:Nat} {its:List Wx} (t:PIs n its):StI n [(false,[],its)]
 |cons {n m:Nat} {its:List Wx} {s:List Ent} (l:List Nat) (hl:l.length<=80) (h:opn l=true) (t:PIs m its) (r:StI n s):StI (n+m+1) ((isO l,ptW l,its)::s)
theorem StI.cls{n:Nat}{s:List Ent}(h:StI n s):StI n (cls s):=by
 cases h with
 |bot t=>exact .bot t
 |@cons n m its s l hl ho t r=>
  cases r with
  |@bot _ its' t'=>
   show StI _ [(false,[],its'++[wN l its])];rw[Nat.add_assoc];exact .bot (t'.snoc (.node l hl ho t))
  |@cons n' m' its' s' l' hl' ho' t' r'=>
   show StI _ ((isO l',ptW l',its'++[wN l its])::s');have e:n'+m'+1+m+1=n'+(m'+(m+1))+1:=by omega
   rw[e];exact .cons l' hl' ho' (t'.snoc (.node l hl ho t)) r'
theorem StI.U6{n:Nat}:∀(k:Nat){s:List Ent},StI n s->StI n (U6 k s)
 |0,_,h=>h
 |k+1,_,h=>StI.U6 k h.cls
theorem StI.step{n:Nat}{s:List Ent}(h:StI n s){l:List Nat}(hl:l.length<=80):StI (n+1) (Xt s l):=by
 have h1:StI n (QY (dpt l+1) s):=h.U6 _;unfold Xt;cases ho:opn l with
 |true=>rw[if_pos rfl];exact .cons (m:=0) l hl ho .nil h1
 |false=>
  rw[if_neg (by decide)];generalize QY (dpt l+1) s=t at h1;cases h1 with
  |bot t=>exact .bot (t.snoc (.leaf l hl ho))
  |@cons n m its s l' hl' ho' t r=>
   show StI _ ((isO l',ptW l',its++[wL l])::s);have e:n+m+1+1=n+(m+1)+1:=by omega
   rw[e];exact .cons l' hl' ho' (t.snoc (.leaf l hl ho)) r
theorem StI.fold:∀(ls:List (List Nat)){n:Nat}{s:List Ent},StI n s->(∀l∈ls,l.length<=80)->StI (n+ls.length) (ls.foldl Xt s)
 |[],_,_,h,_=>h
 |l::ls,n,s,h,hl=>by
  rw[List.foldl_cons,uw,show n+(ls.length+1)=n+1+ls.length by omega];exact StI.fold ls (h.step (hl l uA)) fun x hx=>hl x (uz _ hx)
theorem zi:∀(a b:Nat)(s:List Ent),U6 (a+b) s=U6 b (U6 a s)
 |0,b,s=>by rw[Nat.zero_add];rfl
 |a+1,b,s=>by rw[Nat.succ_add];exact zi a b (cls s)
theorem Y8:∀(k:Nat)(s:List Ent),k<s.length->(U6 k s).length=s.length-k
 |0,s,_=>rfl
 |k+1,s,h=>by
  have:=Y1 (s:=s) (by omega);rw[U6,Y8 k (cls s) (by omega)];omega
theorem StI.pos{n:Nat}{s:List Ent}(h:StI n s):1<=s.length:=by
 cases h with
 |bot t=>exact uq _
 |cons l hl ho t r=>rw[uw];omega
theorem StI.one{n:Nat}{s:List Ent}(h:StI n s)(h1:s.length=1):PIs n (Qes s):=by
 cases h with
 |bot t=>exact t
 |cons l hl ho t r=>
  have:=r.pos;rw[uw]at h1;omega
theorem Y9{ls:List (List Nat)}(hl:∀l∈ls,l.length<=80):∃its,parse ls=.tup its/\PIs ls.length its:=by
 have h:StI (0+ls.length) (Z8 ls):=StI.fold ls (.bot .nil) hl;rw[Nat.zero_add]at h;have h2:StI ls.length (QY 1 (Z8 ls)):=h.U6 _;have h1:=h.pos;have h3:(QY 1 (Z8 ls)).length=1:=by
  unfold QY;rw[Y8 _ _ (by omega)];omega
 exact⟨_,rfl,h2.one h3⟩
theorem zk(ps:List (List Nat)):ZI (ps.map sW)=ps.length:=by
 induction ps with
 |nil=>rw[List.map_nil,ZI];rfl
 |cons p ps ih=>rw[uN,ZI,ih,sW,szW,uw];omega
theorem wM(l:List Nat):ZI (ptW l)<=l.length+1:=by
 have:=YZ l;have hp:=List.length_pos_iff.mpr (Vr l);unfold ptW
 split
 ·rw[XD,zk,ZI,ZI,szW,List.length_dropLast];omega
 ·rw[zk];omega
theorem QaG(b:Bool)(d:Wx):szW (wh b d)<=szW d+2:=by
 unfold wh
 split
 ·rw[szW,ZI,ZI,ZI,szW];omega
 ·omega
mutual
theorem PI.sz:∀{n:Nat}{x:Wx},PI n x->szW x<=n*86
 |_,_,.leaf l hl h=>by
  have h1:=wM l;have h2:=QaG (isO l) (.tup (ptW l));rw[szW]at h2;show szW (wh (isO l) (.tup (ptW l)))<=_;omega
 |_,_,.node (its:=its) l hl h t=>by
  have h1:=wM l;have h2:=QaG (isO l) (.tup (ptW l++[.tup its]));have h3:=t.sz;rw[szW,XD,ZI,ZI,szW]at h2;show szW (wh (isO l) (.tup (ptW l++[.tup its])))<=_;omega
theorem PIs.sz:∀{n:Nat}{xs:List Wx},PIs n xs->ZI xs<=n*86
 |_,_,.nil=>by rw[ZI];omega
 |_,_,.cons h t=>by
  have h1:=h.sz;have h2:=t.sz;rw[ZI];omega
end
theorem Qc7{l:List Nat}{x:Wx}(h:x∈ptW l):(∃p,x=sW p/\p.length<=l.length)\/∃i,x=.int i:=by
 unfold ptW at h
 split at h
 ·rcases List.mem_append.mp h with h|h
  ·obtain⟨p,hp,rfl⟩:=List.mem_map.mp h;exact .inl ⟨p,rfl,WD (List.dropLast_subset _ hp)⟩
  ·rw[List.mem_singleton.mp h];exact .inr ⟨_,rfl⟩
 ·obtain⟨p,hp,rfl⟩:=List.mem_map.mp h;exact .inl ⟨p,rfl,WD hp⟩
theorem jp{l:List Nat}(ho:opn l=false){x:Wx}(h:x∈ptW l):∃p,x=sW p/\p.length<=l.length:=by
 unfold opn at ho;rw[Bool.or_eq_false_iff]at ho;unfold ptW at h;rw[if_neg (by unfold QbJ;rw[ho.2,Bool.false_and];decide)]at h;obtain⟨p,hp,rfl⟩:=List.mem_map.mp h;exact⟨p,rfl,WD hp⟩
theorem zl{p:List Nat}{z:Str}{q:List Nat}(e:z=tx q):eqS (tx p) z=decide (p=q):=by
 unfold eqS;rw[e,V9]
theorem Qc8{l:List Nat}(h:(J2 l).headD []=bxS):opn l=false:=by
 unfold opn;rw[h]
 decide
theorem QbR{l:List Nat}(h:(J2 l).headD []=ovS):opn l=false:=by
 unfold opn;rw[h]
 decide
theorem Ua{l:List Nat}(h:opn l=true):eqS (tx ((J2 l).headD [])) "over"=false/\eqS (tx ((J2 l).headD [])) "box"=false:=by
 constructor
 ·rw[zl QeP];refine um fun z=>?_;rw[QbR z]at h;cases h
 ·rw[zl Qep];refine um fun z=>?_;rw[Qc8 z]at h;cases h
theorem QaH{l:List Nat}(h:opn l=false):eqS (tx ((J2 l).headD [])) "table"=false/\eqS (tx ((J2 l).headD [])) "group"=false:=by
 unfold opn at h;rw[Bool.or_eq_false_iff]at h;exact⟨by rw[zl Qc2];exact h.2,by rw[zl QdD];exact h.1⟩
theorem wO{b:Bool}{w0:Str}{r:List Wx}(h:QT (wh b (.tup (.str w0::r)))=true)(hb:eqS w0 "over"=true->∀x,r=[x]->Jn x=false):Jn (.tup (.str w0::r))=true/\Kv (wh b (.tup (.str w0::r)))=.tup (.str w0::r):=by
 cases b with
 |true=>
  have h:(if eqS "over" "over"=true then Jn (.tup (.str w0::r))else Jn (.tup [.str "over",.tup (.str w0::r)]))=true:=h;rw[if_pos Vo]at h;refine⟨h,?_⟩;show(if eqS "over" "over"=true then Wx.tup (.str w0::r)else Wx.tup [.str "over",.tup (.str w0::r)])=Wx.tup (.str w0::r);rw[if_pos Vo]
 |false=>
  have h:(if eqS w0 "over"=true then only r Jn false else Jn (.tup (.str w0::r)))=true:=h;show _/\(if eqS w0 "over"=true then only r id .non else .tup (.str w0::r))=_;cases ho:eqS w0 "over" with
  |true=>
   rw[if_pos ho]at h;rcases r with _|⟨x,_|⟨y,r⟩⟩
   ·cases h
   ·have h:Jn x=true:=h;rw[hb ho x rfl]at h;cases h
   ·cases h
  |false=>
   rw[if_neg (by rw[ho];decide)]at h;exact⟨h,by rw[if_neg (by decide)]⟩
theorem wP{l:List Nat}(hl:l.length<=80)(ho:opn l=false)(h:QT (wL l)=true):∃nm p,wL l=wI (isO l,.box nm p)/\UM p:=by
 obtain⟨r,er⟩:=XF l;have hs:∀x∈ptW l,∃p,x=sW p/\p.length<=l.length:=fun x hx=>jp ho hx;unfold wL at h ⊢;rw[er]at h hs ⊢;obtain⟨hb,_⟩:=wO h (fun _ x ex=>by
  obtain⟨p,rfl,_⟩:=hs x (by rw[ex];exact uz _ uA);rfl)
 obtain⟨w0,z,c,r2,e2,hn,hk⟩:=Kw hb;obtain⟨n1,n2⟩:=QaH ho;injection e2 with e2;obtain⟨e3,e4⟩:=List.cons.inj e2;obtain rfl:tx ((J2 l).headD [])=w0:=by injection e3
 rw[if_neg (by rw[n1];decide)]at hk;subst e4;cases hx:eqS (tx ((J2 l).headD [])) "box" with
 |false=>
  rw[if_neg (by rw[hx];decide),n2,Bool.and_false]at hk;cases hk
 |true=>
  rw[if_pos hx,Bool.and_eq_true]at hk;have h0:=of_decide_eq_true hk.1;obtain rfl:r2=[]:=List.eq_nil_of_length_eq_zero h0;obtain⟨p,rfl,hp⟩:=hs c (uz _ (uz _ uA));have hpk:(ZX p).isSome=true:=hk.2;have ebx:(tx ((J2 l).headD []):Str)="box":=by
   have:=of_decide_eq_true hx;injection this
  refine⟨z,p,?_,hpk,by omega⟩;rw[UV];unfold wh Ly.w sW Ue;rw[ebx]
theorem wQ{l:List Nat}{its:List Wx}(hl:l.length<=80)(ho:opn l=true)(h:QT (wN l its)=true):inB (wN l its)=.tup its/\Q6 (wN l its)=true/\∀is,.tup its=wR is->∃y,wN l its=wI (isO l,y)/\VL y=some is/\(okL is->y.okK):=by
 obtain⟨r,er⟩:=XF l;unfold wN at h ⊢;rw[er,uJ]at h ⊢;obtain⟨n1,n2⟩:=Ua ho;obtain⟨hb,hbw⟩:=wO h (fun z=>by rw[n1]at z;cases z);have hbw:Kv (wh (isO l) (.tup (.str (tx ((J2 l).headD []))::(r++[.tup its]))))=.tup (.str (tx ((J2 l).headD []))::(r++[.tup its])):=hbw;have hin:inB (wh (isO l) (.tup (.str (tx ((J2 l).headD []))::(r++[.tup its]))))=.tup its:=by
  rw[inB,hbw];show((Wx.str (tx ((J2 l).headD []))::(r++[Wx.tup its])).getLastD Wx.non)=_;rw[←uJ,List.getLastD_eq_getLast?,List.getLast?_concat];rfl
 refine⟨hin,?_,fun is eis=>?_⟩
 ·show(!(eqS (QcV (Kv (wh (isO l) (.tup (.str (tx ((J2 l).headD []))::(r++[.tup its])))))) "box"))=true;rw[hbw];show(!(eqS (tx ((J2 l).headD [])) "box"))=true;rw[n2];rfl
 ·obtain⟨w0,z,c,r2,e2,hn,hk⟩:=Kw hb;injection e2 with e2;obtain⟨e3,e4⟩:=List.cons.inj e2;obtain rfl:tx ((J2 l).headD [])=w0:=by injection e3
  cases ht:eqS (tx ((J2 l).headD [])) "table" with
  |true=>
   rw[if_pos ht,Bool.and_eq_true]at hk;have h1:=of_decide_eq_true hk.1;obtain⟨x,rfl⟩:∃x,r2=[x]:=by
    rcases r2 with _|⟨x,_|⟨y,r2⟩⟩
    ·cases h1
    ·exact⟨x,rfl⟩
    ·simp at h1
   have ex:x=.tup its:=by
    have:=congrArg (fun q:List Wx=>q.getLastD .non) e4;simpa using this.symm
   subst ex;cases c with
   |int i=>
    have hw:(decide (1<=i)&&decide (i<=30))=true:=hk.2;rw[Bool.and_eq_true]at hw;have h1:=of_decide_eq_true hw.1;have h2:=of_decide_eq_true hw.2;have ew:(tx ((J2 l).headD []):Str)="table":=by
     have:=of_decide_eq_true ht;injection this
    refine⟨.tab z i.toNat is,?_,rfl,fun hok=>by rw[Ly.okK];exact⟨by omega,hok⟩⟩;have eyw:(Ly.tab z i.toNat is).w=.tup [.str "table",.str z,.int i,wR is]:=by
     show Wx.tup [.str "table",.str z,.int ((i.toNat:Nat):Int),wR is]=_;rw[show((i.toNat:Nat):Int)=i by omega]
    rw[UV,e4];show _=if isO l=true then Wx.tup [.str "over",(Ly.tab z i.toNat is).w]else(Ly.tab z i.toNat is).w;rw[eyw];unfold wh sW;rw[ew,eis]
   |_=>cases hk.2
  |false=>
   rw[if_neg (by rw[ht];decide),if_neg (by rw[n2];decide),Bool.and_eq_true]at hk;have h0:=of_decide_eq_true hk.1;obtain rfl:r2=[]:=List.eq_nil_of_length_eq_zero h0;have ex:c=.tup its:=by
    have:=congrArg (fun q:List Wx=>q.getLastD .non) e4;simpa using this.symm
   subst ex;have ew:(tx ((J2 l).headD []):Str)="group":=by
    have:=of_decide_eq_true hk.2;injection this
   refine⟨.grp z is,?_,rfl,fun hok=>by rw[Ly.okK];exact hok⟩;rw[UV,e4];unfold wh Ly.w sW;rw[ew,eis]
noncomputable def ItG(n:Nat)(x:Wx)(o:Bool)(y:Ly):Prop:=x=wI (o,y)/\y.okK/\y.cn<=n/\y.dp<=n/\∀i,VL y=some i->Rows i
noncomputable def ItR(n:Nat)(x:Wx):Prop:=(Q6 x=true/\Bad (inB x))\/∃o y,ItG n x o y
noncomputable def QeR(n:Nat)(xs:List Wx):Prop:=(∃x∈xs,Q6 x=true/\Bad (inB x))\/∃is:List (Bool × Ly),xs=is.map wI/\okL is/\cnL is<=n/\dpL is<=n/\∀i∈inn is,Rows i
theorem zm{n:Nat}{xs:List Wx}(hn:n<=99)(h:(∀x∈xs,QT x=true)->QeR n xs):Bad (.tup xs)\/∃is,.tup xs=wR is/\Rows is/\okL is/\cnL is<=n/\dpL is<=n:=by
 cases hr:Wb (.tup xs)with
 |false=>exact .inl (.row hr)
 |true=>
  have ha:∀x∈xs,QT x=true:=by
   cases xs with
   |nil=>intro x hx;cases hx
   |cons d0 ds=>
    have hr:((d0::ds).all QT&&unlike ((d0::ds).map nmB))=true:=hr;rw[Bool.and_eq_true]at hr;exact fun x hx=>List.all_eq_true.mp hr.1 x hx
  rcases h ha with⟨x,hx,h1,h2⟩|⟨is,rfl,h1,h2,h3,h4⟩
  ·refine .inl (.inn (x:=inB x) ?_ h2);exact List.mem_map_of_mem (f:=inB) (List.mem_filter.mpr ⟨hx,h1⟩)
  ·exact .inr ⟨is,rfl,.mk hr (by omega) h1 (by omega) h4,h1,h2,h3⟩
mutual
theorem PI.of:∀{n:Nat}{x:Wx},PI n x->n<=99->QT x=true->ItR n x
 |_,_,.leaf l hl ho,_,h=>by
  obtain⟨nm,p,e,hp⟩:=wP hl ho h;exact .inr ⟨isO l,.box nm p,e,by rw[Ly.okK];exact hp,by rw[Ly.cn];exact uq _,by rw[Ly.dp];omega,fun i hi=>nomatch hi⟩
 |_,_,.node (n:=n) (its:=its) l hl ho t,hn,h=>by
  obtain⟨h1,h2,h3⟩:=wQ hl ho h;rcases zm (by omega) (t.of (by omega))with hb|⟨is,e,hr,hok,hc,hd⟩
  ·exact .inl ⟨h2,by rw[h1];exact hb⟩
  ·obtain⟨y,ey,ei,hy⟩:=h3 is e;refine .inr ⟨isO l,y,ey,hy hok,?_,?_,fun i hi=>?_⟩
   ·cases y with
    |box=>cases ei
    |grp nm j=>obtain rfl:=ur ei;rw[Ly.cn];omega
    |tab nm k j=>obtain rfl:=ur ei;rw[Ly.cn];omega
   ·cases y with
    |box=>cases ei
    |grp nm j=>obtain rfl:=ur ei;rw[Ly.dp];omega
    |tab nm k j=>obtain rfl:=ur ei;rw[Ly.dp];omega
   ·rw[ei]at hi;rw[←ur hi];exact hr
theorem PIs.of:∀{n:Nat}{xs:List Wx},PIs n xs->n<=99->(∀x∈xs,QT x=true)->QeR n xs
 |_,_,.nil,_,_=>.inr ⟨[],rfl,by rw[okL];trivial,by rw[cnL];omega,by rw[dpL];omega,fun i hi=>nomatch hi⟩
 |_,_,.cons (n:=n) (m:=m) (x:=x) (xs:=xs) h t,hn,ha=>by
  rcases h.of (by omega) (ha x uA)with hb|⟨o,y,e,h1,h2,h3,h4⟩
  ·exact .inl ⟨x,uA,hb⟩
  ·rcases t.of (by omega) (fun z hz=>ha z (uz _ hz))with⟨z,hz,hb⟩|⟨is,rfl,g1,g2,g3,g4⟩
   ·exact .inl ⟨z,uz _ hz,hb⟩
   ·refine .inr ⟨(o,y)::is,by rw[uN,e],by rw[okL,okI];exact⟨h1,g1⟩,by rw[cnL,cnI];omega,by rw[dpL,dpI];omega,fun i hi=>?_⟩;obtain⟨z,hz,hi⟩:=List.mem_filterMap.mp hi;rcases List.mem_cons.mp hz with rfl|hz
    ·exact h4 i hi
    ·exact g4 i (List.mem_filterMap.mpr ⟨z,hz,hi⟩)
end
theorem wT{l:List Nat}(hl:l.length<=80){its:List Wx}(b:Bool)(hb:b=opn l):xm (.tup (if b=true then ptW l++[.tup its]else ptW l))/\Wa (.tup (if b=true then ptW l++[.tup its]else ptW l)):=by
 obtain⟨r,er⟩:=XF l;cases b with
 |true=>
  obtain⟨n1,n2⟩:=Ua hb.symm;rw[if_pos rfl];have hat:∀x∈ptW l,(∃p,x=sW p/\p.length<=l.length)\/∃i,x=.int i:=fun x hx=>Qc7 hx;rw[er]at hat ⊢;rcases r with _|⟨x1,_|⟨x2,r⟩⟩
  ·exact⟨trivial,trivial⟩
  ·constructor
   ·exact⟨(fun z=>by rw[n2]at z;cases z),fun _ z=>nomatch z⟩
   ·rcases hat x1 (uz _ uA)with⟨p,rfl,hp⟩|⟨i,rfl⟩
    ·show(tx p).length<=1000;rw[Qq];omega
    ·trivial
  ·constructor
   ·refine⟨(fun z=>by rw[n2]at z;cases z),fun _ _=>?_⟩;rcases hat x2 (uz _ (uz _ uA))with⟨p,rfl,hp⟩|⟨i,rfl⟩
    ·exact .inr (.inr ⟨_,rfl⟩)
    ·exact .inl ⟨_,rfl⟩
   ·rcases hat x1 (uz _ uA)with⟨p,rfl,hp⟩|⟨i,rfl⟩
    ·show(tx p).length<=1000;rw[Qq];omega
    ·trivial
 |false=>
  obtain⟨n1,n2⟩:=QaH hb.symm;rw[if_neg (by decide)];have hat:∀x∈ptW l,∃p,x=sW p/\p.length<=l.length:=fun x hx=>jp hb.symm hx;rw[er]at hat ⊢;rcases r with _|⟨x1,_|⟨x2,r⟩⟩
  ·exact⟨trivial,trivial⟩
  ·obtain⟨p,rfl,hp⟩:=hat x1 (uz _ uA);exact⟨trivial,by show(tx p).length<=1000;rw[Qq];omega⟩
  ·obtain⟨p,rfl,hp⟩:=hat x1 (uz _ uA);obtain⟨p2,rfl,hp2⟩:=hat x2 (uz _ (uz _ uA));refine⟨⟨fun _=>⟨tx p2,rfl,?_⟩,fun z=>by rw[n1]at z;cases z⟩,by show(tx p).length<=1000;rw[Qq];omega⟩;show p2.length<=500;omega
theorem wU{b:Bool}{w0:Str}{r:List Wx}(h:xm (.tup (.str w0::r))/\Wa (.tup (.str w0::r)))(hb:eqS w0 "over"=true->∀x,r=[x]->xm x/\Wa x):Qbz (wh b (.tup (.str w0::r)))/\NmI (wh b (.tup (.str w0::r))):=by
 cases b with
 |true=>
  constructor
  ·show if eqS "over" "over"=true then xm (.tup (.str w0::r))else xm (.tup [.str "over",.tup (.str w0::r)]);rw[if_pos Vo];exact h.1
  ·show if eqS "over" "over"=true then Wa (.tup (.str w0::r))else Wa (.tup [.str "over",.tup (.str w0::r)]);rw[if_pos Vo];exact h.2
 |false=>
  show(if eqS w0 "over"=true then xk r xm else xm (.tup (.str w0::r)))/\if eqS w0 "over"=true then xk r Wa else Wa (.tup (.str w0::r));cases ho:eqS w0 "over" with
  |false=>rw[if_neg (by decide),if_neg (by decide)];exact h
  |true=>
   rw[if_pos rfl,if_pos rfl];rcases r with _|⟨x,_|⟨y,r⟩⟩
   ·exact⟨trivial,trivial⟩
   ·exact hb ho x rfl
   ·exact⟨trivial,trivial⟩
theorem wV{l:List Nat}(hl:l.length<=80)(ho:opn l=false):Qbz (wL l)/\NmI (wL l):=by
 obtain⟨r,er⟩:=XF l;have h:=wT hl (its:=[]) false ho.symm;rw[if_neg (by decide)]at h;have hs:∀x∈ptW l,∃p,x=sW p/\p.length<=l.length:=fun x hx=>jp ho hx;unfold wL;rw[er]at h hs ⊢;exact wU h (fun _ x ex=>by
  obtain⟨p,rfl,_⟩:=hs x (by rw[ex];exact uz _ uA);exact⟨trivial,trivial⟩)
theorem wW{l:List Nat}{its:List Wx}(hl:l.length<=80)(ho:opn l=true):Qbz (wN l its)/\NmI (wN l its):=by
 obtain⟨r,er⟩:=XF l;have h:=wT hl (its:=its) true ho.symm;rw[if_pos rfl]at h;unfold wN;rw[er,uJ]at h ⊢;exact wU h (fun z=>by rw[(Ua ho).1]at z;cases z)
theorem PI.QdE{n:Nat}{x:Wx}(h:PI n x):Qbz x/\NmI x:=by
 cases h with
 |leaf l hl ho=>exact wV hl ho
 |node l hl ho t=>exact wW hl ho
theorem PIs.QdE:∀{n:Nat}{xs:List Wx},PIs n xs->∀x∈xs,Qbz x/\NmI x
 |_,_,.nil,_,hx=>nomatch hx
 |_,_,.cons h t,x,hx=>by
  rcases List.mem_cons.mp hx with rfl|hx
  ·exact h.QdE
  ·exact t.QdE x hx
theorem PI.pos{n:Nat}{x:Wx}(h:PI n x):1<=n:=by cases h<;>omega
theorem PIs.len:∀{n:Nat}{xs:List Wx},PIs n xs->xs.length<=n
 |_,_,.nil=>uq _
 |_,_,.cons h t=>by
  have:=h.pos;have:=t.len;rw[uw];omega
theorem Vt{n:Nat}{xs:List Wx}(h:PIs n xs)(hn:n<=99)(t:∀x∈xs,QT x=true->Q6 x=true->Args (inB x)):Args (.tup xs):=by
 have:=h.len;refine .mk ⟨by omega,h.QdE⟩ fun hr x hx=>?_;obtain⟨z,hz,rfl⟩:=List.mem_map.mp hx;obtain⟨hz,hnb⟩:=List.mem_filter.mp hz;refine t z hz ?_ hnb;cases xs with
 |nil=>cases hz
 |cons d0 ds=>
  have hr:((d0::ds).all QT&&unlike ((d0::ds).map nmB))=true:=hr;rw[Bool.and_eq_true]at hr;exact List.all_eq_true.mp hr.1 z hz
mutual
theorem PI.args:∀{n:Nat}{x:Wx},PI n x->n<=99->QT x=true->Q6 x=true->Args (inB x)
 |_,_,.leaf l hl ho,_=>fun h hb=>by
  obtain⟨nm,p,e,_⟩:=wP hl ho h;rw[e,UW]at hb;cases hb
 |_,_,.node l hl ho t,hn=>by
  have ih:=t.args (by omega);intro h hb;rw[(wQ hl ho h).1];exact Vt t (by omega) ih
theorem PIs.args:∀{n:Nat}{xs:List Wx},PIs n xs->n<=99->∀x∈xs,QT x=true->Q6 x=true->Args (inB x)
 |_,_,.nil,_=>fun x hx=>nomatch hx
 |_,_,.cons h t,hn=>by
  have i1:=h.args (by omega);have i2:=t.args (by omega);intro x hx h1 h2;rcases List.mem_cons.mp hx with e|hx
  ·rw[e]at h1 h2 ⊢;exact i1 h1 h2
  ·exact i2 x hx h1 h2
end
noncomputable def Je(t:List Nat):List (List Nat):=(spl 10 t).dropLast
structure TxB(t:List Nat):Prop where
 n:(Je t).length<=99
 l:∀l∈Je t,l.length<=80
 t:t.length<=10000
theorem Yb{t:List Nat}(h:TxB t):(∃its,parse (Je t)=wR its/\Rows its/\cnL its<=99)\/Bad (parse (Je t)):=by
 obtain⟨xs,e,hp⟩:=Y9 h.l;rw[e];rcases zm h.n (hp.of h.n)with hb|⟨is,e2,hr,hok,hc,hd⟩
 ·exact .inr hb
 ·exact .inl ⟨is,e2,hr,Nat.le_trans hc h.n⟩
theorem QaI{xs:List V}(h:xs≠[]):Vz xs none (some (-1))=xs.dropLast:=by
 have hp:=List.length_pos_iff.mpr h;unfold Vz;have e1:HT.sIx xs.length 0 none=0:=rfl;have e2:HT.sIx xs.length xs.length (some (-1))=xs.length-1:=by
  unfold HT.sIx;simp;omega
 rw[e1,e2,List.drop_zero,Nat.sub_zero,List.dropLast_eq_take]
section
variable {P:Program}{w:World}{K:PySem.W.Frag}{mg:Str->Option Value}{base:Heap}{f:Addr}{fd:FuncData}{tk:Nat->Tok}{c kr:Nat->Addr}
noncomputable def Xu(c:Nat->Addr):Sp:=fun vs H Q E=>∃t:List Nat,vs=[.str (tx t)]/\TxB t/\
 ((∃its,parse (Je t)=wR its/\Rows its/\cnL its<=99/\(ovL its=true->txL its=t->∀u H',Qk H H'->Deep H' u (.tup (dvL its))->Q u H')/\(¬ (ovL its=true/\txL its=t)->∀H',Qk H H'->E (.ref (c 4)) none H'))\/(Bad (parse (Je t))/\∀H',Qk H H'->E (.ref (c 4)) none H'))
set_option maxHeartbeats 1000000 in
theorem XU(F:Fun K "read_layout" "read_layout" Zi f fd)(T:Txt K mg tk c kr)(gQ:Def P w K mg base 4 "layout_from" ["lines"] wz)(gm:Def P w K mg base 10 "is_layout" ["thing"] YO)(gR:Def P w K mg base 4 "layout_text" ["layout"] wK):FnOk P w K mg base (CXE P w) 11 f fd ["text"] (Xu c):=by
 refine okE F XN (fun vs H Q E h=>?_) (fun cdv A outer s H vs Q E hr h=>?_)
 ·obtain⟨t,rfl,_⟩:=h;rfl
 ·obtain⟨t,rfl,hT,hcase⟩:=h;have fr:=qv (P:=P) (w:=w) (K:=K) (mg:=mg) (base:=base) (N:=["text","layout"]) (qual:="read_layout") (scope:=Qf Zi) (f:=f) (cd:=cdv) (A:=A) (outer:=outer) (s:=s) (H:=H) (E:=E);have ht:=Uv fr;have hx:=ZM fr;have hz:100000<=sizeLine:=by rw[sizeLine_eq];decide
  have htl:=hT.t;have hsl:=YY 10 t;refine⟨_,(Qe (QE (i:=1) XN.nd rfl (Or.inl rfl) (gQ.pe hr (by decide) rfl hx (Qz (QS ZT (JQ plainAttrs_str slot_str_split type_str_split YV (pv 0) (Qz Qg Qc)) Jl (QX (KL ZL Qd))) Qc)))
   (Qe (Jh (PW.pt (ZS (Z5 (Zp (gm.pe hr (by decide) rfl hx (Qz (pv 1) Qc)))) (J3 (Ql Kd (gR.pe hr (by decide) rfl hx (Qz (pv 1) Qc)) (pv 0) (Qo _))))) (Qh (jL ht rfl rfl T.pM T.rB (Qz Qg Qc))) QI)
   (Qh (QD (pv 1))))),?_⟩
  dsimp only[QH,JP,XX,QU];have es:Txt.split (tx t) "\n"=(spl 10 t).map tx:=by rw[QeQ,YX]
  refine⟨_,rfl,rfl,tx t,"\n",rfl,rfl,by decide+kernel,by rw[Qq];omega,by rw[es,uk];omega,fun p hp=>?_⟩;rw[es];have S1:=Qk.new (o:=.lst (((spl 10 t).map tx).map V.str)) hp;have g1:upd H p (.lst (((spl 10 t).map tx).map V.str)) p=some (.lst (((spl 10 t).map tx).map V.str)):=Qa;generalize upd H p (.lst (((spl 10 t).map tx).map V.str))=H1 at S1 g1;have hne:((spl 10 t).map tx).map V.str≠[]:=by
   intro z;rw[List.map_eq_nil_iff,List.map_eq_nil_iff]at z;exact XS 10 t z
  refine⟨1,rfl,_,rfl,p,_,rfl,.inl (.inl g1),fun q hq=>?_⟩;rw[QaI hne, ←List.map_dropLast, ←List.map_dropLast];have S2:=Qk.new (o:=.lst (((spl 10 t).dropLast.map tx).map V.str)) hq;have hln:(Je t).length<=99:=hT.n;refine⟨q,Je t,rfl,Qa,by omega,(fun l hl=>Nat.le_trans (hT.l l hl) (by decide)),fun u H3 S3 Du=>?_⟩;have S13:=(S1.trans S2).trans S3;obtain⟨xs,ex,hP⟩:=Y9 hT.l;have hsz:szW (parse (Je t))<=9000:=by
   have:=hP.sz;rw[ex,szW];omega
  have hA:Args (parse (Je t)):=by
   rw[ex];exact Vt hP hln (hP.args hln)
  dsimp only[qh];rcases hcase with⟨its,e,hR,hcn,k1,k2⟩|⟨hb,k2⟩
  ·refine⟨_,rfl,u,_,ovL its,rfl,Du,hA,hsz,.inr ⟨its,e,hR,rfl⟩,fun H4 S4=>⟨_,rfl,?_⟩⟩;have S14:=S13.trans S4;cases ho:ovL its with
   |false=>
    exact QQ (QQ ⟨sL1,k2 (fun z=>by rw[ho]at z;cases z.1) _ S14⟩)
   |true=>
    rw[e,wj]at Du;have Du:=Ws.deep Du;refine QN ⟨_,rfl,u,its,rfl,Du.same S4,hR,by omega,fun H5 S5=>?_⟩;have S15:=S14.trans S5;refine⟨_,rfl,rfl,_,rfl,?_⟩;rw[V9]
    by_cases htx:txL its=t
    ·rw[uo htx];exact QN ⟨_,rfl,k1 ho htx _ _ S15 ((Du.same S4).same S5)⟩
    ·rw[um htx];exact QQ ⟨sL1,k2 (fun z=>htx z.2) _ S15⟩
  ·refine⟨_,rfl,u,_,false,rfl,Du,hA,hsz,.inl ⟨rfl,hb⟩,fun H4 S4=>⟨_,rfl,?_⟩⟩;exact QQ (QQ ⟨sL1,k2 _ (S13.trans S4)⟩)
end
end Lw
namespace L2
open PySem PySem.Spec PyProof.Rows
open Builtin Builtin.Str
section
variable {X:Cx}{e:Expr}{t:TA}{apos cpos:Pos}
noncomputable def QaJ(K:PySem.W.Frag):V->List V->Hp->VK->Prop:=fun x vs H Q=>∃(z:Str)(p:Addr)(ys:List Str),x=.str z/\vs=[.ref p]/\SqT K H p (ys.map V.str)/\JoinOk z ys=true/\Q (.str (Txt.join z ys)) H
theorem yZ:MtR X "str.join" (QaJ X.K):=by
 intro pins s σ H x vs v us Q I rx rv h;obtain⟨z,p,ys,rfl,rfl,hq,hj,q⟩:=h;obtain⟨t,rfl⟩:=rx;obtain⟨u,rfl,ru⟩:=vals1 rv;obtain rfl:u=Value.ref p:=ru;obtain⟨its,rv,pl,hl⟩:=I.tuple hq;obtain⟨l,e1,e2⟩:=WZ rv;subst e1;have hok:=hj;unfold JoinOk at hok;rw[Bool.not_eq_true', ←e2]at hok;refine call_meets F.slot_str_join (typeIs_str _ _ _) F.entry_str_join (F.args_str_join_2 _ _) (meets_str_join_tuple z t p l hok) ⟨(let ⟨o,h1,h2,n,h3⟩:=pl;⟨o,n,h1,h2,h3⟩),?_⟩;refine post_join l ⟨joinFit_length hok,fun t' k=>⟨.str (Txt.join z (l.map (·.1))),H,I.tok k,⟨t',rfl⟩,?_⟩⟩;rw[e2];exact q
theorem wX{x:Str}{j:Nat}{p:Pos}(ha:PAx X [e] t)(h:isStar e=false)(hline:(apos.endLine==cpos.line)=true):PEx X (.Call (.Attribute (.Constant (.str x) j p) "join" apos) [e] [] cpos) (tBM X.K "str" (QaJ X.K) (tC (.str x)) t):=
 ⟨kZ plainAttrs_str slot_str_join type_str_join yZ Qg ha.pa h rfl hline⟩
end
end L2
namespace Lw
open PySem PySem.Spec PyProof.Rows L2 K02 K04 K42
open Builtin Builtin.Str StrLaws
noncomputable def flT(rs:List Wo):List Nat:=(rs.map lnT).flatten
theorem QbS(a b:List Wo):flT (a++b)=flT a++flT b:=by unfold flT;rw[uH,List.flatten_append]
theorem jq:∀{rs:List Wo},(∀r∈rs,GdY r.2.2/\r.1<=100)->(flT rs).length<=rs.length*810
 |[],_=>uQ _
 |r::rs,h=>by
  have h1:=h r uA;have h2:=wJ h1.1 h1.2;have h3:=jq (rs:=rs) fun x hx=>h x (uz _ hx);show(lnT r++flT rs).length<=_;rw[uj,uw,Nat.succ_mul];omega
theorem jr(d:Nat):∀a b:List (Bool × Ly),olL (a++b) d=olL a d++olL b d
 |[],b=>by rw[uK,olL,uK]
 |x::a,b=>by rw[uJ,olL,olL,jr d a b,uI]
theorem QbT{its:List (Bool × Ly)}{x:Bool × Ly}{d:Nat}(h:x∈its):∀r∈olI x d,r∈olL its d:=by
 induction its with
 |nil=>cases h
 |cons z its ih=>
  intro r hr;rw[olL];rcases List.mem_cons.mp h with rfl|h
  ·exact uy _ hr
  ·exact ux _ (ih h r hr)
theorem js:∀a b:List (Bool × Ly),cnL (a++b)=cnL a+cnL b
 |[],b=>by rw[uK,cnL,Nat.zero_add]
 |x::a,b=>by rw[uJ,cnL,cnL,js a b];omega
section
variable {P:Program}{w:World}{K:PySem.W.Frag}{mg:Str->Option Value}{base:Heap}{f:Addr}{fd:FuncData}{tk:Nat->Tok}{c kr:Nat->Addr}
noncomputable def Qcc(d:Nat):Sp:=fun vs H Q _=>∃(v:V)(its:List (Bool × Ly))(m:Nat),vs=[v,.int (m:Nat)]/\Deep H v (.tup (dvL its))/\dpL its<d/\cnL its<=100/\(∀r∈olL its m,GdY r.2.2/\r.1<=100)/\∀H',Qk H H'->Q (.str (tx (flT (olL its m)))) H'
theorem Wp(F:Fun K "_law_rows_of" "_law_rows_of" Jg f fd):FnOk P w K mg base (CXE P w) 1 f fd ["_law_items","_law_deep"] (Qcc 0):=by
 refine Wu F QM (fun vs H Q E h=>?_) (fun cdv A outer s H vs Q E hr h=>?_)
 ·obtain⟨v,its,m,rfl,_⟩:=h;rfl
 ·obtain⟨v,its,m,rfl,_,hd,_⟩:=h;exact absurd hd (Nat.not_lt_zero _)
set_option maxHeartbeats 2000000 in
theorem Vu(d:Nat)(F:Fun K "_law_rows_of" "_law_rows_of" Jg f fd)(O:Own mg)(gd:Def P w K mg base (d+1) "_law_rows_of" ["_law_items","_law_deep"] (Qcc d)):FnOk P w K mg base (CXE P w) (d+2) f fd ["_law_items","_law_deep"] (Qcc (d+1)):=by
 refine Wu F QM (fun vs H Q E h=>?_) (fun cdv A outer s H vs Q E hr h=>?_)
 ·obtain⟨v,its,m,rfl,_⟩:=h;rfl
 ·obtain⟨v,its,m,rfl,D,hd,hcn,hG,k⟩:=h;have hz:1000000<=sizeLine:=by rw[sizeLine_eq];decide
  refine⟨_,(Qi (Qy (i:=2) QM.nd rfl (Or.inl rfl) (PEx.mk Qg) rfl rfl)
   (Qi (Vh PassesOwn.never rfl (XJ (pv 0)) (Qm (i:=3) QM.nd rfl (Or.inl rfl)) (Qi (Qy (i:=4) QM.nd rfl (Or.inl rfl) (Wk (Ql QZ (Qw Qt (pv 3) Qd (fun _ _=>rfl)) Qg (Qo _)) (PEx.mk (Qw Qt (pv 3) Qd (fun _ _=>rfl))) (PEx.mk (pv 3))) rfl rfl)
   (Qi (Qy (i:=2) QM.nd rfl (Or.inl rfl) (Q2 QJ (Q2 QJ (PEx.mk (pv 2)) (Q2 WY (PEx.mk Qg) (PEx.mk (pv 1)))) (Wk (Ql QZ (Qw Qt (pv 3) Qd (fun _ _=>rfl)) Qg (Qo _)) (PEx.mk Qg) (PEx.mk Qg))) rfl rfl)
   (Qs (Zd (Ql QZ (Qw Qt (pv 4) Qd (fun _ _=>rfl)) Qg (Qo _)) (Qs (Qy (i:=2) QM.nd rfl (Or.inl rfl) (Q2 QJ (Q2 QJ (PEx.mk (pv 2)) (wX (QF (PEx.mk (pv 4)) QA rfl) rfl rfl)) (PEx.mk Qg)) rfl rfl)) (Qi (Qy (i:=5) QM.nd rfl (Or.inl rfl) (Q2 Xg (JF (QF (PEx.mk (Qw Qt (pv 4) Qd (fun _ _=>rfl))) (QF (PEx.mk (Qw Qt (pv 4) Qd (fun _ _=>rfl))) QA rfl) rfl)) (Wk (Ql QZ (Qw Qt (pv 4) Qd (fun _ _=>rfl)) Qg (Qo _)) (JF (QF (PEx.mk (J4 Xe rfl O.str PyProof.Rows.boot_str (Qz (Qw Qt (pv 4) Qd (fun _ _=>rfl)) Qc))) QA rfl)) (JF QA))) rfl rfl)
   (Qs (Qy (i:=2) QM.nd rfl (Or.inl rfl) (Q2 QJ (Q2 QJ (Q2 QJ (PEx.mk (pv 2)) (Xq (QF (PEx.mk (pv 5)) QA rfl) rfl rfl)) (PEx.mk Qg)) (PEx.mk (gd.pe hr (by omega) rfl Qu (Qz (Qw Qt (pv 4) (KL ZL Qd) (fun _ _=>rfl)) (Qz (QP Jd (pv 1) Qd) Qc))))) rfl rfl))))))) (fun _=>rfl))
   (Qs (QG (PEx.mk (pv 2)))))),?_⟩
  dsimp only[QH,JP,XX,QU];obtain⟨a,xs,rfl,g,t⟩:=Deep.Wy D;rw[Ju]at t;have lx:=t.length;rw[uk]at lx;refine⟨_,rfl,a,rfl,⟨_,.inl (.inl g)⟩,?_⟩;refine Vg (yp (K:=K) (a:=a) (xs:=xs)) (fun j σ H4=>∃(y3 y4 y5:Option V),σ=[some (.ref a),some (.int (m:Nat)),some (.str (tx (flT (olL (its.take j) m)))),y3,y4,y5]/\Qk H H4) ⟨none,none,none,?_,Qk.refl _⟩ ?_ ?_ ?_
  ·rw[List.take_zero,olL];rfl
  ·rintro j σ H4 _ ⟨y3,y4,y5,rfl,S4⟩;exact .inl (.inl (S4 _ _ g))
  ·rintro j x σ H40 H4 hj ⟨y3,y4,y5,rfl,S4⟩ ⟨rfl,hx⟩;obtain⟨dv,hdv,Dx⟩:=t.VI hx;rw[uE]at hdv;cases eo:its[j]? with
   |none=>rw[eo]at hdv;cases hdv
   |some oy=>
    rw[eo]at hdv;obtain rfl:=ur hdv;have Dx:=Dx.same S4;have hmem:=uF eo;have etk:its.take (j+1)=its.take j++[oy]:=by rw[List.take_add_one,eo];rfl
    have hcj:cnL (its.take j)+cnI oy<=100:=by
     have:=js (its.take (j+1)) (its.drop (j+1));rw[List.take_append_drop,etk,js]at this;have e1:cnL [oy]=cnI oy:=by rw[cnL,cnL];omega
     omega
    have hGj:∀r∈olL (its.take j) m,GdY r.2.2/\r.1<=100:=fun r hr=>hG r (by
     have:its=its.take j++its.drop j:=(List.take_append_drop j its).symm;rw[this,jr];exact uy _ hr)
    have hGx:∀r∈olI oy m,GdY r.2.2/\r.1<=100:=fun r hr=>hG r (QbT hmem r hr);have hdx:=K8 hmem;have hfl:=jq hGj;rw[Kb]at hfl;have etx:flT (olL (its.take (j+1)) m)=flT (olL (its.take j) m)++flT (olI oy m):=by
     rw[etk,jr,QbS]
     congr 2
     rw[olL,olL,uL]
    rw[etx];generalize flT (olL (its.take j) m)=fo at hfl;obtain⟨o,y⟩:=oy;have hcny:y.cn≥1:=y.Qay;rw[cnI]at hcj
    replace hdx:y.dp<=dpL its:=hdx
    rw[olI]at hGx;have hGy:=hGx _ uA
    replace hGy:GdY y/\m<=100:=hGy
    have hov:∃b w0 r,x=.ref b/\H4 b=some (.tup (.str w0::r))/\decide (V.str w0=V.str "over")=o:=by
     cases o with
     |true=>
      obtain⟨b,x2,rfl,gb,_⟩:=K9 Dx;exact⟨b,_,_,rfl,gb,by decide+kernel⟩
     |false=>
      rw[dvI,if_neg (by decide)]at Dx;obtain⟨b,ys,rfl,gb⟩:=Qby Dx;exact⟨b,_,_,rfl,gb,Kt y⟩
    have hpl:∃u,Deep H4 u y.dv/\(o=true->∃b,x=.ref b/\H4 b=some (.tup [.str "over",u]))/\(o=false->x=u):=by
     cases o with
     |true=>
      obtain⟨b,x2,rfl,gb,D2⟩:=K9 Dx;exact⟨x2,D2,fun _=>⟨b,rfl,gb⟩,fun z=>nomatch z⟩
     |false=>
      rw[dvI,if_neg (by decide)]at Dx;exact⟨x,Dx,fun z=>(nomatch z),fun _=>rfl⟩
    obtain⟨b,w0,r,rfl,gb,hov⟩:=hov;obtain⟨u,Du,hp1,hp2⟩:=hpl;dsimp only[QH,XX,JP,List.set];refine jj u H4 ?_ (fun Q' q'=>?_);rotate_left
    ·refine⟨_,rfl,b,_,0,_,rfl,rfl,.inl gb,QK (j:=0) rfl,rfl,o,by rw[hov],?_⟩;cases o with
     |true=>
      obtain⟨b',eb,gb'⟩:=hp1 rfl;obtain rfl:b=b':=by injection eb
      exact QQ ⟨_,rfl,b,_,1,_,rfl,rfl,.inl gb',rfl,q'⟩
     |false=>
      rw[←hp2 rfl]at q';exact QN ⟨_,rfl,q'⟩
    have hm:=hGy.2;have hgl:=Y6 hGy.1;have hsum:=Y5 hGy.1;have hfo:fo.length<=81000:=by omega
    have e2:("  ":Str)=tx [32,32]:=by decide+kernel
    have hrep:L2.VW "  " ((m:Nat):Int).toNat=tx (List.replicate (2*m) 32):=by rw[e2,uS,rep2]
    have hpr:(if o=true then ovS++[32]else[]).length<=5:=by split<;>simp[ovS]
    refine jj (.str (tx (fo++List.replicate (2*m) 32++if o=true then ovS++[32]else[]))) H4 ?_ (fun Q' q'=>?_);rotate_left
    ·refine⟨_,rfl,_,rfl,"  ",(m:Nat),rfl,rfl,by omega,by rw[uS,show("  ":Str).length=2 by decide+kernel];omega,by omega,_,_,rfl,rfl,?_,?_⟩
     ·rw[hrep,Qq,Qq,uG];omega
     rw[hrep,Js];refine⟨_,rfl,b,_,0,_,rfl,rfl,.inl gb,QK (j:=0) rfl,rfl,o,by rw[hov],?_⟩;cases o with
     |true=>
      refine QQ ⟨_,_,rfl,rfl,?_,?_⟩
      ·rw[Qq,uj,uG,show("over ":Str).length=5 by decide+kernel];omega
      ·rw[show("over ":Str)=tx (ovS++[32]) by decide+kernel,Js];exact q'
     |false=>
      refine QN ⟨_,_,rfl,rfl,?_,?_⟩
      ·rw[Qq,uj,uG,show("":Str).length=0 by decide+kernel];omega
      ·rw[show("":Str)=tx [] by decide+kernel,Js];exact q'
    have hpre:(fo++List.replicate (2*m) 32++if o=true then ovS++[32]else[]).length<=82000:=by rw[uj,uj,uG];omega
    have eln:∀rs,olI (o,y) m=(m,o,y)::rs->fo++flT (olI (o,y) m)=(fo++List.replicate (2*m) 32++if o=true then ovS++[32]else[])++glue 32 (ZP y)++[10]++flT rs:=fun rs e=>by
     rw[e];show fo++(lnT (m,o,y)++flT rs)=_;unfold lnT lnW;simp only[uI]
    generalize (fo++List.replicate (2*m) 32++if o=true then ovS++[32]else[])=pre at hpre eln;have hjo:∀ps:List (List Nat),(ps.map (fun p=>p.length+1)).sum<=600->JoinOk " " (ps.map tx)=true:=fun ps h=>by
     refine Y4 ?_;rw[U7,show(" ":Str).length=1 by decide+kernel];omega
    have hj:∀ps:List (List Nat),Txt.join " " (ps.map tx)=tx (glue 32 ps):=fun ps=>by rw[Qeq];exact wH 32 _
    dsimp only[qh];cases hi:VL y with
    |none=>
     cases y with
     |grp nm i=>cases hi
     |tab nm k i=>cases hi
     |box nm p=>
      obtain⟨ya,rfl,gy⟩:=US Du;have eds:[V.str "box",V.str nm,V.str (Ue p)]=((ZP (.box nm p)).map tx).map V.str:=by
       show _=[V.str (tx bxS),V.str (tx nm.cps.toList),V.str (tx p)];rw[←Qep, ←ZC];rfl
      refine⟨_,rfl,ya,_,0,_,rfl,rfl,.inl gy,rfl,rfl,true,by rw[show decide (V.str "box"=V.str "box")=true by decide+kernel],QQ ?_⟩;rw[eds]at gy;refine⟨_,rfl,rfl,_,rfl," ",ya,_,rfl,rfl,.inl (.inl gy),hjo _ hsum,_,_,rfl,rfl,?_,?_⟩
      ·rw[hj,Qq,Qq];omega
      rw[hj,Js];refine⟨_,_,rfl,rfl,?_,?_⟩
      ·rw[Qq,uj,show("\n":Str).length=1 by decide+kernel];omega
      rw[show("\n":Str)=tx [10] by decide+kernel,Js];have e9:fo++flT (olI (o,.box nm p) m)=pre++glue 32 (ZP (.box nm p))++[10]:=by
       rw[eln [] (by rw[olI,Ly.ol])];exact uL _
      rw[e9];exact⟨_,_,_,rfl,S4⟩
    |some i=>
     obtain⟨ya,yw,y1,y2',yr,z,rfl,gy,hnb,hlast,Dz,_,_⟩:=wD Du hi;refine⟨_,rfl,ya,_,0,_,rfl,rfl,.inl gy,QK (j:=0) rfl,rfl,false,by rw[hnb],QN ?_⟩;dsimp only[XX,JP,QH];refine zc (fun v H1=>∃q,v=.ref q/\Qk H4 H1/\H1 q=some (.lst (((ZP y).map tx).map V.str))) (fun v H5 hv=>?_) (fun Q' q'=>?_);rotate_left
     ·cases y with
      |box nm p=>cases hi
      |grp nm i2=>
       obtain⟨ya2,x2,e2,gy2,_⟩:=UT Du;obtain rfl:ya=ya2:=by injection e2
       refine⟨_,rfl,ya,_,0,_,rfl,rfl,.inl gy2,rfl,_,rfl,ya,_,1,_,rfl,rfl,.inl gy2,rfl,sL2,fun l1 hl1=>?_⟩;have S5:=Qk.new (o:=.lst [V.str "group",V.str nm]) hl1;refine⟨_,rfl,ya,_,0,_,rfl,rfl,.inl (S5 _ _ gy2),rfl,rfl,false,by rw[Qei],QN ⟨sL0,fun l2 hl2=>?_⟩⟩;have S6:=Qk.new (o:=.lst []) hl2;refine⟨l1,l2,_,_,rfl,rfl,S6 _ _ Qa,Qa,sL2,fun q hq=>q' _ _ ⟨q,rfl,S5.trans (S6.trans (Qk.new hq)),?_⟩⟩;rw[Qa];show some (HO.lst [V.str "group",V.str nm])=some (HO.lst [V.str (tx gpS),V.str (tx nm.cps.toList)]);rw[←QdD, ←ZC]
      |tab nm k2 i2=>
       obtain⟨ya2,x2,e2,gy2,_⟩:=UU Du;obtain rfl:ya=ya2:=by injection e2
       have hk:k2<=30:=hGy.1.2;have hlog:((k2:Nat):Int).natAbs.log2<1920:=by
        rw[Int.natAbs_natCast]
        by_cases h0:k2=0
        ·rw[h0];decide
        ·exact Nat.lt_trans ((Nat.log2_lt h0).mpr (Nat.lt_of_le_of_lt hk (show 30<2^5 by decide))) (by decide)
       refine⟨_,rfl,ya,_,0,_,rfl,rfl,.inl gy2,rfl,_,rfl,ya,_,1,_,rfl,rfl,.inl gy2,rfl,sL2,fun l1 hl1=>?_⟩;have S5:=Qk.new (o:=.lst [V.str "table",V.str nm]) hl1;refine⟨_,rfl,ya,_,0,_,rfl,rfl,.inl (S5 _ _ gy2),rfl,rfl,true,by rw[show decide (V.str "table"=V.str "table")=true by decide+kernel],QQ ⟨_,rfl,ya,_,2,_,rfl,rfl,.inl (S5 _ _ gy2),rfl,_,rfl,hlog,sL1,fun l2 hl2=>?_⟩⟩;rw[K02.WN];have S6:=Qk.new (o:=.lst [V.str (tx (dec k2))]) hl2;refine⟨l1,l2,_,_,rfl,rfl,S6 _ _ Qa,Qa,sL3,fun q hq=>q' _ _ ⟨q,rfl,S5.trans (S6.trans (Qk.new hq)),?_⟩⟩;rw[Qa];show some (HO.lst [V.str "table",V.str nm,V.str (tx (dec k2))])=some (HO.lst [V.str (tx tbS),V.str (tx nm.cps.toList),V.str (tx (dec k2))]);rw[←Qc2, ←ZC]
     obtain⟨q,rfl,S5,g5⟩:=hv;have hcni:y.cn=1+cnL i/\y.dp=1+dpL i/\y.ol m=olL i (m+1):=by
      cases y with
      |box=>cases hi
      |grp nm j=>obtain rfl:=ur hi;rw[Ly.cn,Ly.dp,Ly.ol];exact⟨rfl,rfl,rfl⟩
      |tab nm k j=>obtain rfl:=ur hi;rw[Ly.cn,Ly.dp,Ly.ol];exact⟨rfl,rfl,rfl⟩
     obtain⟨c1,c2,c3⟩:=hcni;have hGi:∀r∈olL i (m+1),GdY r.2.2/\r.1<=100:=fun r hr=>hGx r (uz _ (by rw[c3];exact hr));have hfi:=jq hGi;rw[Kb]at hfi;dsimp only[List.set];refine⟨_,rfl,rfl,_,rfl," ",q,_,rfl,rfl,.inl (.inl g5),hjo _ hsum,_,_,rfl,rfl,?_,?_⟩
     ·rw[hj,Qq,Qq];omega
     rw[hj,Js];refine⟨_,_,rfl,rfl,?_,?_⟩
     ·rw[Qq,uj,show("\n":Str).length=1 by decide+kernel];omega
     rw[show("\n":Str)=tx [10] by decide+kernel,Js];refine⟨_,rfl,1,rfl,ya,_,_,_,rfl,rfl,.inl (S5 _ _ gy),hlast,_,rfl,_,_,rfl,rfl,z,i,m+1,rfl,Dz.same S5,by omega,by omega,hGi,fun H6 S6=>?_⟩;refine⟨_,_,rfl,rfl,?_,?_⟩
     ·rw[Qq,Qq,uj,uj,uu];omega
     rw[Js];have e9:fo++flT (olI (o,y) m)=pre++glue 32 (ZP y)++[10]++flT (olL i (m+1)):=eln _ (by rw[olI,c3]);rw[e9];exact⟨_,_,_,rfl,(S4.trans S5).trans S6⟩
  ·rintro σ H4 ⟨y3,y4,y5,rfl,S4⟩;rw[List.take_of_length_le (by omega)];exact⟨_,rfl,k _ S4⟩
end
open PySem PySem.Spec PyProof.Rows L2 K02 K04
mutual
theorem Ly.jt:∀y:Ly,y.dp<=y.cn
 | .box _ _=>by rw[Ly.dp];omega
 | .grp _ its=>by have:=jt its;rw[Ly.dp,Ly.cn];omega
 | .tab _ _ its=>by have:=jt its;rw[Ly.dp,Ly.cn];omega
theorem jt:∀its:List (Bool × Ly),dpL its<=cnL its
 |[]=>by rw[dpL];omega
 |x::xs=>by
  have:=jt xs;have:=Qc9 x;rw[dpL,cnL];omega
theorem Qc9:∀x:Bool × Ly,dpI x<=cnI x
 |(_,y)=>by rw[dpI,cnI];exact Ly.jt y
end
noncomputable def okN(y:Ly):Prop:=nmS y.name=true/\(∀nm k its,y=.tab nm k its->1<=k/\k<=30)/\∀nm p,y=.box nm p->UM p
theorem Qfo:eqS "box" "table"=false:=Qfl
theorem Qfp:eqS "group" "table"=false:=Qei
theorem Qfq:eqS "group" "box"=false:=QdB
theorem Qfr:eqS "box" "box"=true:=by decide+kernel
theorem Qfs:eqS "group" "group"=true:=by decide+kernel
theorem Qft:eqS "table" "table"=true:=by decide+kernel
theorem Qfu{y:Ly}(h:okN y):Jn y.w=true:=by
 obtain⟨h1,h2,h5⟩:=h;cases y with
 |box nm p=>
  show(nmS nm&&(if eqS "box" "table"=true then _ else if eqS "box" "box"=true then decide ((0:Nat)=0)&&(ZX (Ue p).cps.toList).isSome else _))=true;rw[if_neg (by rw[Qfo];decide),if_pos Qfr,show(ZX (Ue p).cps.toList).isSome=true from(h5 nm p rfl).1,show nmS nm=true from h1];rfl
 |grp nm its=>
  show(nmS nm&&(if eqS "group" "table"=true then _ else if eqS "group" "box"=true then _ else decide ((0:Nat)=0)&&eqS "group" "group"))=true;rw[if_neg (by rw[Qfp];decide),if_neg (by rw[Qfq];decide),Qfs,show nmS nm=true from h1];rfl
 |tab nm k its=>
  obtain⟨h3,h4⟩:=h2 nm k its rfl;show(nmS nm&&(if eqS "table" "table"=true then decide ((1:Nat)=1)&&(decide ((1:Int)<=(k:Nat))&&decide (((k:Nat):Int)<=30))else _))=true;rw[if_pos Qft,uo (show(1:Int)<=(k:Nat) by omega),uo (show((k:Nat):Int)<=30 by omega),show nmS nm=true from h1];rfl
theorem Qey{x:Bool × Ly}(h:okN x.2):QT (wI x)=true:=by
 obtain⟨o,y⟩:=x;have h1:=Qfu h;rw[UV];cases o with
 |true=>
  rw[if_pos rfl];show(if eqS "over" "over"=true then Jn y.w else Jn (.tup [.str "over",y.w]))=true;rw[if_pos Vo];exact h1
 |false=>
  rw[if_neg (show ¬ ((false,y):Bool × Ly).1=true from Bool.false_ne_true)];have h1:Jn y.w=true:=h1;obtain⟨r,e⟩:=y.QeO;show QT y.w=true;rw[e]at h1 ⊢;show(if eqS y.word "over"=true then _ else _)=true;rw[if_neg (by rw[j4];decide)];exact h1
theorem Qda(x:Bool × Ly):nmB (wI x)=x.2.name:=by
 rw[nmB,Kz];cases x.2<;>rfl
theorem Qdb{its:List (Bool × Ly)}(hne:its≠[])(h:∀x∈its,okN x.2) (hu:unlike (its.map fun x=>x.2.name)=true):Wb (wR its)=true:=by
 cases its with
 |nil=>exact absurd rfl hne
 |cons x xs=>
  show(((x::xs).map wI).all QT&&unlike (((x::xs).map wI).map nmB))=true;rw[uM,Bool.and_eq_true];refine⟨List.all_eq_true.mpr fun d hd=>?_,?_⟩
  ·obtain⟨y,hy,rfl⟩:=List.mem_map.mp hd;exact Qey (h y hy)
  ·rw[show(nmB∘wI)=fun x:Bool × Ly=>x.2.name from funext fun x=>Qda x];exact hu
theorem QbU:∀j:Nat,j<4->nmS (KE j)=true:=by decide+kernel
theorem y0{i j:Nat}(h:KE i=KE j):i=j:=by
 have:=congrArg (fun s:Str=>s.cps.toList) h;simp[KE]at this;omega
theorem zn{its:List (Bool × Ly)}(hp:PB its){i:Nat}(hi:i<its.length):(its.map fun x=>x.2.name).getD i ("":Str)=KE i:=by
 rw[List.getD_eq_getElem?_getD,uE,List.getElem?_eq_getElem hi];exact hp.nm i _ (List.getElem?_eq_getElem hi)
theorem PB.un{its:List (Bool × Ly)}(hp:PB its):unlike (its.map fun x=>x.2.name)=true:=XB.mpr fun i j hij hj=>by
 rw[uk]at hj;rw[zn hp (by omega),zn hp hj];exact fun z=>absurd (y0 z) (by omega)
theorem PB.wY{its:List (Bool × Ly)}(hp:PB its){x:Bool × Ly}(hx:x∈its):∃j,j<4/\x.2.name=KE j:=by
 obtain⟨j,hj,rfl⟩:=List.mem_iff_getElem.mp hx;have:=hp.len;exact⟨j,by omega,hp.nm j _ (List.getElem?_eq_getElem hj)⟩
theorem Qaa{d:Nat}{its:List (Bool × Ly)}(h:Good d its):∀x∈its,okN x.2:=by
 obtain⟨_,hp,hx⟩:=(XE d its).mp h;intro x hm;obtain⟨j,hj,e⟩:=hp.wY hm;have hy:=hx x hm;refine⟨by rw[e];exact QbU j hj,fun nm k i ey=>?_,fun nm p ey=>?_⟩;rotate_left
 ·rw[ey]at hy;cases d with
  |zero=>obtain⟨_,_,e2,h6⟩:=hy;cases e2;exact xq h6
  |succ d=>
   rcases hy with⟨_,_,e2,h6⟩|⟨_,_,e2,_⟩|⟨_,_,_,e2,h1,h2,_⟩
   ·cases e2;exact xq h6
   ·cases e2
   ·cases e2
 rw[ey]at hy;cases d with
 |zero=>obtain⟨_,_,e2,_⟩:=hy;cases e2
 |succ d=>
  rcases hy with⟨_,_,e2,_⟩|⟨_,_,e2,_⟩|⟨_,_,_,e2,h1,h2,_⟩
  ·cases e2
  ·cases e2
  ·cases e2;exact⟨h1,by omega⟩
noncomputable def uOf(its:List (Bool × Ly)):Nat->Nat
 |0=>0
 |j+1=>(its.getD (under its j) dfI).2.sz
theorem PB.ovb{its:List (Bool × Ly)}(hp:PB its):∀(n j:Nat),n=its.length-j->j<=its.length->ovB (uOf its j) (its.drop j)=true
 |0,j,e,hj=>by rw[List.drop_eq_nil_of_le (by omega),ovB]
 |n+1,j,e,hj=>by
  have hl:j<its.length:=by omega
  have ih:=PB.ovb hp n (j+1) (by omega) (by omega);rw[List.drop_eq_getElem_cons hl];have ej:its[j]? =some its[j]:=List.getElem?_eq_getElem hl;have eg:its.getD j dfI=its[j]:=by rw[List.getD_eq_getElem?_getD,ej];rfl
  revert ej eg
  generalize its[j]=x;obtain⟨o,y⟩:=x;intro ej eg;rw[ovB];cases o with
  |true=>
   cases j with
   |zero=>exact absurd (show true=false from hp.first _ ej) (by decide)
   |succ j=>
    have hov:=hp.ov _ _ ej;have eu:under its (j+1)=under its j:=by rw[under,eg,if_pos rfl]
    rw[uOf,eu]at ih;rw[eu]at hov;rw[if_pos rfl,uOf,uo hov,Bool.true_and];exact ih
  |false=>
   have eu:under its j=j:=by rw[XC,eg];rfl
   rw[uOf,eu,eg]at ih;rw[if_neg (by decide)];exact ih
theorem PB.ov0{its:List (Bool × Ly)}(hp:PB its):ovB 0 its=true:=by
 have:=hp.ovb its.length 0 (by omega) (uQ _);rw[List.drop_zero]at this;exact this
theorem QbV{its i:List (Bool × Ly)}(hi:i∈inn its):∃x∈its,VL x.2=some i:=by
 obtain⟨x,hx,e⟩:=List.mem_filterMap.mp hi;exact⟨x,hx,e⟩
theorem zo{d:Nat}{its i:List (Bool × Ly)}(h:Good d its)(hi:i∈inn its):∃e,d=e+1/\Good e i:=by
 obtain⟨_,hp,hx⟩:=(XE d its).mp h;obtain⟨x,hm,e⟩:=QbV hi;have hy:=hx x hm;cases d with
 |zero=>obtain⟨_,_,e2,_⟩:=hy;rw[e2]at e;cases e
 |succ d=>
  rcases hy with⟨_,_,e2,_⟩|⟨_,_,e2,hg⟩|⟨_,_,_,e2,h1,h2,hg⟩
  ·rw[e2]at e;cases e
  ·rw[e2]at e;obtain rfl:=ur e;exact⟨d,rfl,hg⟩
  ·rw[e2]at e;obtain rfl:=ur e;exact⟨d,rfl,hg⟩
theorem U9:∀(d:Nat)(its:List (Bool × Ly)),d<=2->Good d its->Rows its/\ovL its=true
 |d,its,hd,h=>by
  have hb:=Wd d its h;have hcn:cnL its<=84:=by
   refine Nat.le_trans hb.cn ?_;obtain rfl|rfl|rfl:d=0\/d=1\/d=2:=by omega
   all_goals decide
  obtain⟨hne,hp,hx⟩:=(XE d its).mp h;have key:∀i∈inn its,Rows i/\ovL i=true:=fun i hi=>by
   obtain⟨e,rfl,hg⟩:=zo h hi;exact U9 e i (by omega) hg
  refine⟨.mk (Qdb hne (Qaa h) hp.un) (by omega) hb.ok (by have:=jt its;omega) fun i hi=>(key i hi).1,?_⟩;rw[ovL,hp.ov0,YM,Bool.true_and];exact List.all_eq_true.mpr fun i hi=>(key i hi).2
termination_by d=>d
structure FrY(y:Ly):Prop where
 w:∀p∈ZP y,32∉p/\10∉p
 k:∀nm k i,y=.tab nm k i->QaD (dec k)=true/\NumText.digitsVal (dec k)=k
noncomputable def Qcd(o:Bool)(y:Ly):List (List Nat):=(if o=true then[ovS]else[])++ZP y
theorem ju(y:Ly):ZP y≠[]:=by cases y<;>exact fun z=>nomatch z
theorem zp(r:Wo):lnW r=List.replicate (2*r.1) 32++glue 32 (Qcd r.2.1 r.2.2):=by
 obtain⟨d,o,y⟩:=r;unfold lnW Qcd;cases o with
 |false=>simp
 |true=>
  rw[if_pos rfl,if_pos rfl];cases e:ZP y with
  |nil=>exact absurd e (ju y)
  |cons p ps=>
   show _=List.replicate (2*d) 32++(ovS++32::glue 32 (p::ps));simp only[uI];rfl
theorem QbW(o:Bool)(y:Ly):∃c r,c≠32/\glue 32 (Qcd o y)=c::r:=by
 unfold Qcd;cases o with
 |true=>
  cases e:ZP y with
  |nil=>exact absurd e (ju y)
  |cons p ps=>exact⟨111,_,by decide,rfl⟩
 |false=>cases y<;>exact⟨_,_,by decide,rfl⟩
theorem Qab(n:Nat){l:List Nat}{c:Nat}{r:List Nat}(hc:c≠32)(e:l=c::r):vw (List.replicate n 32++l)=l:=by
 unfold vw
 induction n with
 |zero=>
  rw[List.replicate_zero,uK,e,List.dropWhile_cons];rw[if_neg (by simpa using hc)]
 |succ n ih=>rw[List.replicate_succ,uJ,List.dropWhile_cons,if_pos (by decide)];exact ih
section
variable {r:Wo}(h:FrY r.2.2)
include h
theorem wZ:vw (lnW r)=glue 32 (Qcd r.2.1 r.2.2):=by
 obtain⟨c,q,hc,e⟩:=QbW r.2.1 r.2.2;rw[zp];exact Qab _ hc e
theorem QaK:dpt (lnW r)=r.1:=by
 unfold dpt;rw[wZ h,zp,uj,uG];omega
theorem QaL:wds (lnW r)=Qcd r.2.1 r.2.2:=by
 unfold wds;rw[wZ h];refine YW 32 _ (fun z=>?_) fun p hp=>?_
 ·exact ju _ (List.append_eq_nil_iff.mp z).2
 ·rcases List.mem_append.mp hp with hp|hp
  ·split at hp
   ·rw[List.mem_singleton.mp hp];decide
   ·cases hp
  ·exact(h.w p hp).1
theorem w4:isO (lnW r)=r.2.1:=by
 unfold isO;rw[QaL h];obtain⟨d,o,y⟩:=r;cases o<;>cases y<;>rfl
theorem QaM:J2 (lnW r)=ZP r.2.2:=by
 unfold J2;rw[w4 h,QaL h];obtain⟨d,o,y⟩:=r;cases o<;>rfl
theorem QaN:opn (lnW r)=(VL r.2.2).isSome:=by
 unfold opn;rw[QaM h];obtain⟨d,o,y⟩:=r;cases y<;>rfl
theorem QaO:ptW (lnW r)=(jl r.2.2).map toW:=by
 have hk:=h.k;unfold ptW QbJ;rw[QaM h];obtain⟨d,o,y⟩:=r;cases y with
 |box nm p=>
  rw[if_neg (by show ¬ ((decide (bxS=tbS)&&QaD p)=true);rw[show decide (bxS=tbS)=false by decide,Bool.false_and];decide)];show[Wx.str (tx bxS),Wx.str (tx nm.cps.toList),Wx.str (tx p)]=[toW (.str "box"),toW (.str nm),toW (.str (Ue p))];rw[toW,toW,toW, ←Qep, ←ZC];rfl
 |grp nm i=>
  rw[if_neg (by show ¬ ((decide (gpS=tbS)&&QaD nm.cps.toList)=true);rw[show decide (gpS=tbS)=false by decide,Bool.false_and];decide)];show[Wx.str (tx gpS),Wx.str (tx nm.cps.toList)]=[toW (.str "group"),toW (.str nm)];rw[toW,toW, ←QdD, ←ZC]
 |tab nm k i=>
  obtain⟨h1,h2⟩:=hk nm k i rfl;rw[if_pos (by show(decide (tbS=tbS)&&QaD (dec k))=true;rw[h1];decide)];show[Wx.str (tx tbS),Wx.str (tx nm.cps.toList),Wx.int (NumText.digitsVal (dec k):Nat)]=[toW (.str "table"),toW (.str nm),toW (.int (k:Nat))];rw[toW,toW,toW, ←Qc2, ←ZC,h2]
theorem Qdc:10∉lnW r:=by
 rw[zp];intro z;rcases List.mem_append.mp z with z|z
 ·have:=(List.mem_replicate.mp z).2;cases this
 ·have key:∀ps:List (List Nat),(∀p∈ps,10∉p)->10∉glue 32 ps:=by
   intro ps
   induction ps with
   |nil=>intro _ z;cases z
   |cons p ps ih=>
    intro hp;cases ps with
    |nil=>exact hp p uA
    |cons q ps=>
     rw[glue];intro z;rcases List.mem_append.mp z with z|z
     ·exact hp p uA z
     ·rcases List.mem_cons.mp z with z|z
      ·cases z
      ·exact ih (fun x hx=>hp x (uz _ hx)) z
  refine key _ (fun p hp=>?_) z;rcases List.mem_append.mp hp with hp|hp
  ·split at hp
   ·rw[List.mem_singleton.mp hp];decide
   ·cases hp
  ·exact(h.w p hp).2
end
theorem zq:∀{rs:List Wo},(∀r∈rs,FrY r.2.2)->spl 10 (flT rs)=rs.map lnW++[[]]
 |[],_=>rfl
 |r::rs,h=>by
  show spl 10 (lnW r++[10]++flT rs)=_;rw[uI];show spl 10 (lnW r++10::flT rs)=_;rw[ji 10 _ _ (Qdc (h r uA)),zq (rs:=rs) fun x hx=>h x (uz _ hx)];rfl
theorem zr{its:List (Bool × Ly)}(h:∀r∈olL its 0,FrY r.2.2):Je (txL its)=(olL its 0).map lnW:=by
 unfold Je;have:txL its=flT (olL its 0):=rfl;rw[this,zq h,List.dropLast_concat]
theorem xv{n:Nat}{s:List Ent}(h1:n+1<=s.length):QY n s=cls (QY (n+1) s):=by
 unfold QY;rw[show s.length-n=(s.length-(n+1))+1 by omega,zi];rfl
theorem qa{n:Nat}{s:List Ent}(h:n<=s.length)(h1:1<=n):(QY n s).length=n:=by
 unfold QY;rw[Y8 _ _ (by omega)];omega
theorem Qac{s R:List Ent}{b:Bool}{ps is0:List Wx}{d:Nat}{o:Bool}{y:Ly}(h:FrY y)(hy:VL y=none)(hs:QY (d+1) s=(b,ps,is0)::R):Xt s (lnW (d,o,y))=(b,ps,is0++[wI (o,y)])::R:=by
 have h:FrY ((d,o,y):Wo).2.2:=h;unfold Xt;rw[QaN h,QaK h,w4 h,QaO h,if_neg (by show ¬ ((VL y).isSome=true);rw[hy];decide)];show Qer (QY (d+1) s) _=_;rw[hs];show(b,ps,is0++[wh o (.tup ((jl y).map toW))])::R=_
 congr 5
 rw[UV];cases y with
 |box nm p=>
  show wh o (.tup [toW (.str "box"),toW (.str nm),toW (.str (Ue p))])=if o=true then Wx.tup [.str "over",(Ly.box nm p).w]else(Ly.box nm p).w;rw[toW,toW,toW];rfl
 |grp nm i=>cases hy
 |tab nm k i=>cases hy
theorem w6{s R:List Ent}{d:Nat}{o:Bool}{y:Ly}{i:List (Bool × Ly)}(h:FrY y)(hy:VL y=some i)(hs:QY (d+1) s=R):Xt s (lnW (d,o,y))=(o,(jl y).map toW,[])::R:=by
 have h:FrY ((d,o,y):Wo).2.2:=h;unfold Xt;rw[QaN h,QaK h,w4 h,QaO h,if_pos (by show(VL y).isSome=true;rw[hy];rfl)];show _::QY (d+1) s=_;rw[hs]
theorem QbX{o:Bool}{y:Ly}{i:List (Bool × Ly)}(hy:VL y=some i):wh o (.tup ((jl y).map toW++[.tup (i.map wI)]))=wI (o,y):=by
 rw[UV];cases y with
 |box nm p=>cases hy
 |grp nm j=>
  obtain rfl:=ur hy;show wh o (.tup [toW (.str "group"),toW (.str nm),.tup (j.map wI)])=if o=true then Wx.tup [.str "over",(Ly.grp nm j).w]else(Ly.grp nm j).w;rw[toW,toW];rfl
 |tab nm k j=>
  obtain rfl:=ur hy;show wh o (.tup [toW (.str "table"),toW (.str nm),toW (.int (k:Nat)),.tup (j.map wI)])=if o=true then Wx.tup [.str "over",(Ly.tab nm k j).w]else(Ly.tab nm k j).w;rw[toW,toW,toW];rfl
noncomputable def Fd(s:List Ent)(rs:List Wo):List Ent:=(rs.map lnW).foldl Xt s
theorem Qdd(s:List Ent)(a b:List Wo):Fd s (a++b)=Fd (Fd s a) b:=by unfold Fd;rw[uH,List.foldl_append]
theorem qb{s R:List Ent}{b:Bool}{ps is0:List Wx}{d:Nat}{o:Bool}{y:Ly}{i:List (Bool × Ly)}(h:FrY y)(hy:VL y=some i)(hs:QY (d+1) s=(b,ps,is0)::R)(hl:d+1<=s.length)
  (ih:∀s',d+1+1<=s'.length->∀b ps is0 R,QY (d+1+1) s'=(b,ps,is0)::R->d+1+1<=(Fd s' (olL i (d+1))).length/\QY (d+1+1) (Fd s' (olL i (d+1)))=(b,ps,is0++i.map wI)::R):d+1<=(Fd s ((d,o,y)::olL i (d+1))).length/\QY (d+1) (Fd s ((d,o,y)::olL i (d+1)))=(b,ps,is0++[wI (o,y)])::R:=by
 have e1:=w6 (s:=s) (o:=o) h hy hs;have hRl:((b,ps,is0)::R).length=d+1:=by rw[←hs];exact qa hl (by omega)
 have e2:Fd s ((d,o,y)::olL i (d+1))=Fd (Xt s (lnW (d,o,y))) (olL i (d+1)):=rfl;rw[e2,e1];have hl2:((o,(jl y).map toW,([]:List Wx))::(b,ps,is0)::R).length=d+1+1:=by rw[uw,hRl]
 obtain⟨g1,g2⟩:=ih _ (by rw[hl2];exact uq _) _ _ _ _ (KH (by rw[hl2];exact uq _));refine⟨by omega,?_⟩;rw[xv g1,g2];show(b,ps,is0++[wh o (.tup ((jl y).map toW++[.tup ([]++i.map wI)]))])::R=_;rw[uK,QbX hy]
mutual
theorem Ly.fold:∀(y:Ly)(o:Bool)(d:Nat)(s:List Ent),(FrY y/\∀r∈y.ol d,FrY r.2.2)->d+1<=s.length->∀b ps is0 R,QY (d+1) s=(b,ps,is0)::R->d+1<=(Fd s ((d,o,y)::y.ol d)).length/\QY (d+1) (Fd s ((d,o,y)::y.ol d))=(b,ps,is0++[wI (o,y)])::R
 | .box nm p,o,d,s,h,hl,b,ps,is0,R,hs=>by
  have e1:=Qac (s:=s) (o:=o) h.1 rfl hs;have hRl:((b,ps,is0)::R).length=d+1:=by rw[←hs];exact qa hl (by omega)
  rw[Ly.ol];show d+1<=(Xt s (lnW (d,o,.box nm p))).length/\QY (d+1) (Xt s (lnW (d,o,.box nm p)))=_;have hl2:((b,ps,is0++[wI (o,.box nm p)])::R).length=d+1:=hRl;rw[e1];exact⟨by rw[hl2];exact uq _,KH (by rw[hl2];exact uq _)⟩
 | .grp nm i,o,d,s,h,hl,b,ps,is0,R,hs=>by
  rw[Ly.ol]at h ⊢;exact qb h.1 rfl hs hl fun s' hl'=>WE i (d+1) s' h.2 hl'
 | .tab nm k i,o,d,s,h,hl,b,ps,is0,R,hs=>by
  rw[Ly.ol]at h ⊢;exact qb h.1 rfl hs hl fun s' hl'=>WE i (d+1) s' h.2 hl'
theorem WE:∀(its:List (Bool × Ly))(d:Nat)(s:List Ent),(∀r∈olL its d,FrY r.2.2)->d+1<=s.length->∀b ps is0 R,QY (d+1) s=(b,ps,is0)::R->d+1<=(Fd s (olL its d)).length/\QY (d+1) (Fd s (olL its d))=(b,ps,is0++its.map wI)::R
 |[],d,s,h,hl,b,ps,is0,R,hs=>by
  rw[olL,List.map_nil,uL];exact⟨hl,hs⟩
 |x::xs,d,s,h,hl,b,ps,is0,R,hs=>by
  rw[olL]at h ⊢;obtain⟨h1,h2⟩:=Qad x d s (fun r hr=>h r (uy _ hr)) hl b ps is0 R hs;obtain⟨h3,h4⟩:=WE xs d (Fd s (olI x d)) (fun r hr=>h r (ux _ hr)) h1 b ps _ R h2;rw[Qdd];refine⟨h3,?_⟩;rw[h4,uN,uI];rfl
theorem Qad:∀(x:Bool × Ly)(d:Nat)(s:List Ent),(∀r∈olI x d,FrY r.2.2)->d+1<=s.length->∀b ps is0 R,QY (d+1) s=(b,ps,is0)::R->d+1<=(Fd s (olI x d)).length/\QY (d+1) (Fd s (olI x d))=(b,ps,is0++[wI x])::R
 |(o,y),d,s,h,hl,b,ps,is0,R,hs=>by
  rw[olI]at h ⊢;exact Ly.fold y o d s ⟨h _ uA,fun r hr=>h r (uz _ hr)⟩ hl b ps is0 R hs
end
theorem zt{its:List (Bool × Ly)}(h:∀r∈olL its 0,FrY r.2.2):parse (Je (txL its))=wR its:=by
 obtain⟨h1,h2⟩:=WE its 0 s0E h (by decide) false [] [] [] rfl;unfold parse Z8;rw[zr h];show Wx.tup (Qes (QY (0+1) (Fd s0E (olL its 0))))=_;rw[h2];rfl
noncomputable def hdL:List Nat->Nat
 |[]=>0
 |c::r=>if c=10 then 0 else 1+hdL r
noncomputable def mxL:List Nat->Nat
 |[]=>0
 |c::r=>max (hdL (c::r)) (mxL r)
theorem QbY(l:List Nat):hdL l<=mxL l:=by
 cases l with
 |nil=>exact uq _
 |cons c r=>rw[mxL];omega
theorem QaP:∀s t,hdL (s++t)<=hdL s+hdL t
 |[],t=>by rw[uK];omega
 |c::s,t=>by
  have:=QaP s t;rw[uJ,hdL,hdL]
  split<;>omega
theorem QaQ:∀s t,hdL s<=hdL (s++t)
 |[],t=>uQ _
 |c::s,t=>by
  have:=QaQ s t;rw[uJ,hdL,hdL]
  split<;>omega
theorem w8:∀s t,mxL (s++t)<=mxL s+mxL t
 |[],t=>by rw[uK];omega
 |c::s,t=>by
  have h1:=w8 s t;have h2:=QaP (c::s) t;have h3:=QbY t;rw[uJ]at h2 ⊢;rw[mxL,mxL];omega
theorem vb:∀s t,mxL s<=mxL (s++t)
 |[],t=>uQ _
 |c::s,t=>by
  have h1:=vb s t;have h2:=QaQ (c::s) t;rw[uJ]at h2 ⊢;rw[mxL,mxL];omega
theorem jv:∀s t,mxL t<=mxL (s++t)
 |[],t=>uq _
 |c::s,t=>by
  have h1:=jv s t;rw[uJ,mxL];omega
theorem QbZ(n:Nat)(t:List Nat):mxL (t.take n)<=mxL t:=by
 have:=vb (t.take n) (t.drop n);rwa[List.take_append_drop]at this
theorem Qb0(n:Nat)(t:List Nat):mxL (t.drop n)<=mxL t:=by
 have:=jv (t.take n) (t.drop n);rwa[List.take_append_drop]at this
theorem Qde(c:Nat):mxL [c]<=1:=by
 rw[mxL,mxL,hdL,hdL]
 split<;>omega
theorem QaR:∀(l p:List Nat)(ps:List (List Nat)),spl 10 l=p::ps->p.length=hdL l
 |[],p,ps,e=>by
  obtain⟨rfl,_⟩:=List.cons.inj e;rfl
 |c::r,p,ps,e=>by
  rw[spl]at e;rw[hdL]
  split at e
  ·rename_i hc;obtain⟨rfl,_⟩:=List.cons.inj e;rw[if_pos hc];rfl
  ·rename_i hc;rw[if_neg hc];cases e2:spl 10 r with
   |nil=>exact absurd e2 (XS 10 r)
   |cons q qs=>
    rw[e2]at e;obtain⟨rfl,_⟩:=List.cons.inj e;rw[uw,QaR r q qs e2];omega
theorem QaS:∀(l p:List Nat),p∈spl 10 l->p.length<=mxL l
 |[],p,h=>by rw[List.mem_singleton.mp h];exact uq _
 |c::r,p,h=>by
  have hh:∀q qs,spl 10 (c::r)=q::qs->q.length<=mxL (c::r):=fun q qs e=>by
   rw[QaR _ _ _ e];exact QbY _
  cases e:spl 10 (c::r)with
  |nil=>exact absurd e (XS 10 _)
  |cons q qs=>
   rw[e]at h;rcases List.mem_cons.mp h with rfl|h
   ·exact hh _ _ e
   ·have:p∈spl 10 r:=by
     rw[spl]at e
     split at e
     ·rw[←(List.cons.inj e).2]at h;exact h
     ·cases e2:spl 10 r with
      |nil=>exact absurd e2 (XS 10 r)
      |cons q2 qs2=>
       rw[e2]at e;rw[←(List.cons.inj e).2]at h;exact uz _ h
    have:=QaS r p this;rw[mxL];omega
theorem vc:∀l:List Nat,(spl 10 l).length=l.count 10+1
 |[]=>rfl
 |c::r=>by
  have ih:=vc r;rw[spl,List.count_cons]
  split
  ·rename_i hc;rw[uw,ih,hc];rfl
  ·rename_i hc;rw[if_neg (by simpa using hc)];cases e2:spl 10 r with
   |nil=>exact absurd e2 (XS 10 r)
   |cons q qs=>
    rw[e2]at ih;exact ih
theorem Qdf{t:List Nat}(h1:t.count 10<=99)(h2:mxL t<=80)(h3:t.length<=10000):TxB t:=by
 refine⟨?_,fun l hl=>?_,h3⟩
 ·unfold Je;rw[List.length_dropLast,vc];omega
 ·exact Nat.le_trans (QaS t l (List.dropLast_subset _ hl)) h2
structure TxM(t:List Nat):Prop where
 b:TxB t
 m:mxL t<=80
theorem QaT{t:List Nat}(h1:t.count 10<=99)(h2:mxL t<=80)(h3:t.length<=10000):TxM t:=⟨Qdf h1 h2 h3,h2⟩
theorem vd:∀{p:List Nat}{r:List Nat}{k:Nat},10∉p->p.length<=k->mxL r<=k->mxL (p++10::r)<=k
 |[],r,k,_,_,h=>by
  rw[uK,mxL,hdL,if_pos rfl];omega
 |c::p,r,k,hn,hp,h=>by
  have ih:=vd (p:=p) (r:=r) (k:=k) (fun z=>hn (uz _ z)) (by rw[uw]at hp;omega) h;have hc:c≠10:=fun z=>hn (by rw[z];exact uA);have hh:∀q:List Nat,10∉q->hdL (q++10::r)=q.length:=by
   intro q
   induction q with
   |nil=>intro _;rw[uK,hdL,if_pos rfl];rfl
   |cons a q ih2=>
    intro hq;rw[uJ,hdL,if_neg (fun z=>hq (by rw[z];exact uA)),ih2 (fun z=>hq (uz _ z)),uw];omega
  have:=hh (c::p) hn;rw[uJ]at this ⊢;rw[mxL,this];omega
structure LnS(r:List Nat):Prop where
 no:10∉r
 ln:r.length<=20
noncomputable def Za(ls:List (List Nat)):List Nat:=(ls.map fun l=>l++[10]).flatten
theorem Vv(l:List Nat)(ls:List (List Nat)):Za (l::ls)=l++10::Za ls:=by
 show(l++[10])++Za ls=_;rw[uI];rfl
theorem jw:∀{ls:List (List Nat)},(∀l∈ls,LnS l)->mxL (Za ls)<=20
 |[],_=>uQ _
 |l::ls,h=>by
  rw[Vv];exact vd (h l uA).no (h l uA).ln (jw fun x hx=>h x (uz _ hx))
theorem Ub:∀{ls:List (List Nat)},(∀l∈ls,LnS l)->(Za ls).count 10=ls.length
 |[],_=>rfl
 |l::ls,h=>by
  rw[Vv,List.count_append,List.count_cons,List.count_eq_zero_of_not_mem (h l uA).no,Ub fun x hx=>h x (uz _ hx),uw];simp
theorem KJ:∀{ls:List (List Nat)},(∀l∈ls,LnS l)->(Za ls).length<=ls.length*21
 |[],_=>uQ _
 |l::ls,h=>by
  have h1:=(h l uA).ln;have h2:=KJ (ls:=ls) fun x hx=>h x (uz _ hx);rw[Vv,uj,uw,uw,Nat.succ_mul];omega
theorem Uc{ls:List (List Nat)}(h:∀l∈ls,LnS l) (hl:ls.length<=99):TxM (Za ls):=by
 have h1:=jw h;have h2:=Ub h;have h3:=KJ h;exact QaT (by omega) (by omega) (by omega)
theorem jx{ls:List (List Nat)}(h:∀l∈ls,LnS l) (hl:ls.length<=90) (i j:Nat) (m:List Nat) (hm:m.length<=1) (hij:i<=j):TxM ((Za ls).take i++m++(Za ls).drop j):=by
 have h1:=jw h;have h2:=Ub h;have h3:=KJ h;have a1:=QbZ i (Za ls);have a2:=Qb0 j (Za ls);have a3:mxL m<=1:=by
  rcases m with _|⟨c,_|⟨d,m⟩⟩
  ·exact uQ _
  ·exact Qde c
  ·simp at hm
 have a4:=w8 ((Za ls).take i++m) ((Za ls).drop j);have a5:=w8 ((Za ls).take i) m;have c1:((Za ls).take i).count 10+((Za ls).drop i).count 10=(Za ls).count 10:=by
  rw[←List.count_append,List.take_append_drop]
 have c2:((Za ls).drop j).count 10<=((Za ls).drop i).count 10:=by
  obtain⟨k,rfl⟩:∃k,j=i+k:=⟨j-i,by omega⟩;rw[←List.drop_drop];exact List.Sublist.count_le _ (List.drop_sublist _ _)
 have c3:m.count 10<=m.length:=List.count_le_length;refine QaT ?_ (by omega) ?_
 ·rw[List.count_append,List.count_append];omega
 ·rw[uj,uj,uB,uC];omega
theorem Qb1:∀j:Nat,j<4->(32∉(KE j).cps.toList/\10∉(KE j).cps.toList)/\(KE j).cps.toList.length=1:=by decide+kernel
theorem Qdg:∀p∈UZ,(32∉p/\10∉p)/\p.length<=5:=by decide+kernel
theorem Qdh:∀k:Nat,k<=3->(32∉dec k/\10∉dec k)/\(dec k).length<=1/\QaD (dec k)=true/\NumText.digitsVal (dec k)=k:=by decide+kernel
theorem Qez:(32∉bxS/\10∉bxS)/\(32∉gpS/\10∉gpS)/\(32∉tbS/\10∉tbS):=by decide
noncomputable def ShY(y:Ly):Prop:=FrY y/\(glue 32 (ZP y)).length<=11
theorem Qb2{d:Nat}{its:List (Bool × Ly)}(h:Good d its):∀x∈its,ShY x.2:=by
 obtain⟨_,hp,hx⟩:=(XE d its).mp h;intro x hm;obtain⟨j,hj,e⟩:=hp.wY hm;have hy:=hx x hm;obtain⟨f1,f2⟩:=Qb1 j hj;have hb:∀nm p,x.2=.box nm p->P6 p->ShY x.2:=fun nm p ey h6=>by
  rw[ey]at e ⊢
  replace e:nm=KE j:=e
  obtain⟨g1,g2⟩:=Qdg p h6;refine⟨⟨fun q hq=>?_,fun _ _ _ z=>nomatch z⟩,?_⟩
  ·rw[e]at hq;rcases List.mem_cons.mp hq with rfl|hq
   ·exact Qez.1
   ·rcases List.mem_cons.mp hq with rfl|hq
    ·exact f1
    ·rw[List.mem_singleton.mp hq];exact g1
  ·rw[e];show(bxS++32::((KE j).cps.toList++32::p)).length<=11;rw[uj,uw,uj,uw,f2];show 3+_<=11;omega
 have hgp:∀nm i,x.2=.grp nm i->ShY x.2:=fun nm i ey=>by
  rw[ey]at e ⊢
  replace e:nm=KE j:=e
  refine⟨⟨fun q hq=>?_,fun _ _ _ z=>nomatch z⟩,?_⟩
  ·rw[e]at hq;rcases List.mem_cons.mp hq with rfl|hq
   ·exact Qez.2.1
   ·rw[List.mem_singleton.mp hq];exact f1
  ·rw[e];show(gpS++32::(KE j).cps.toList).length<=11;rw[uj,uw,f2]
   decide
 have htb:∀nm k i,x.2=.tab nm k i->k<=3->ShY x.2:=fun nm k i ey hk=>by
  rw[ey]at e ⊢
  replace e:nm=KE j:=e
  obtain⟨g1,g2,g3,g4⟩:=Qdh k hk;refine⟨⟨fun q hq=>?_,fun nm2 k2 i2 z=>?_⟩,?_⟩
  ·rw[e]at hq;rcases List.mem_cons.mp hq with rfl|hq
   ·exact Qez.2.2
   ·rcases List.mem_cons.mp hq with rfl|hq
    ·exact f1
    ·rw[List.mem_singleton.mp hq];exact g1
  ·injection z with _ z _;rw[←z];exact⟨g3,g4⟩
  ·rw[e];show(tbS++32::((KE j).cps.toList++32::dec k)).length<=11;rw[uj,uw,uj,uw,f2];show 5+_<=11;omega
 cases d with
 |zero=>obtain⟨nm,p,e2,h6⟩:=hy;exact hb nm p e2 h6
 |succ d=>
  rcases hy with⟨nm,p,e2,h6⟩|⟨nm,i,e2,_⟩|⟨nm,k,i,e2,h1,h2,_⟩
  ·exact hb nm p e2 h6
  ·exact hgp nm i e2
  ·exact htb nm k i e2 h2
theorem ve{d:Nat}:∀{its:List (Bool × Ly)}{r:Wo},r∈olL its d->∃x∈its,r=(d,x.1,x.2)\/∃i,VL x.2=some i/\r∈olL i (d+1)
 |[],r,h=>by rw[olL]at h;cases h
 |(o,y)::xs,r,h=>by
  rw[olL,olI]at h;rcases List.mem_append.mp h with h|h
  ·refine⟨(o,y),uA,?_⟩;rcases List.mem_cons.mp h with h|h
   ·exact .inl h
   ·cases y with
    |box=>rw[Ly.ol]at h;cases h
    |grp nm i=>rw[Ly.ol]at h;exact .inr ⟨i,rfl,h⟩
    |tab nm k i=>rw[Ly.ol]at h;exact .inr ⟨i,rfl,h⟩
  ·obtain⟨x,hx,hr⟩:=ve h;exact⟨x,uz _ hx,hr⟩
theorem vf:∀(d:Nat){its:List (Bool × Ly)}(m:Nat),Good d its->∀r∈olL its m,ShY r.2.2/\r.1<=m+d
 |d,its,m,h,r,hr=>by
  obtain⟨x,hx,hr⟩:=ve hr;rcases hr with rfl|⟨i,hi,hr⟩
  ·exact⟨Qb2 h x hx,Nat.le_add_right _ _⟩
  ·obtain⟨e,rfl,hg⟩:=zo h (List.mem_filterMap.mpr ⟨x,hx,hi⟩);have:=vf e (m+1) hg r hr;exact⟨this.1,by omega⟩
termination_by d=>d
theorem Qb3{d:Nat}{its:List (Bool × Ly)}(hd:d<=2)(h:Good d its):(∀r∈olL its 0,FrY r.2.2)/\(∀l∈(olL its 0).map lnW,LnS l):=by
 have:=vf d 0 h;refine⟨fun r hr=>(this r hr).1.1,fun l hl=>?_⟩;obtain⟨r,hr,rfl⟩:=List.mem_map.mp hl;obtain⟨⟨h1,h2⟩,h3⟩:=this r hr;refine⟨Qdc h1,?_⟩;unfold lnW;rw[uj,uj,uG];have:(if r.2.1=true then ovS++[32]else[]).length<=5:=by split<;>simp[ovS]
 omega
theorem vg(its:List (Bool × Ly)):txL its=Za ((olL its 0).map lnW):=by
 unfold txL Za;rw[uM];rfl
theorem Qdi(n:Nat)(l:List Nat):n<=hdL (List.replicate n 32++l):=by
 induction n with
 |zero=>exact uQ _
 |succ n ih=>rw[List.replicate_succ,uJ,hdL,if_neg (by decide)];omega
theorem Qdj:∀{rs:List Wo}{r:Wo},r∈rs->2*r.1<=mxL (flT rs)
 |[],_,h=>nomatch h
 |r0::rs,r,h=>by
  show 2*r.1<=mxL (lnT r0++flT rs);rcases List.mem_cons.mp h with rfl|h
  ·have h1:=vb (lnT r) (flT rs);have h2:=QbY (lnT r);have h3:2*r.1<=hdL (lnT r):=by
    unfold lnT;rw[zp,uI];exact Qdi _ _
   omega
  ·have h1:=jv (lnT r0) (flT rs);have h2:=Qdj h;omega
theorem Rows.ne{its:List (Bool × Ly)}(h:Rows its):its≠[]:=by
 cases h with
 |mk h c o dp t=>
  rintro rfl;cases h
theorem qc{i:List (Bool × Ly)}(hR:Rows i)(m:Nat)(ih:dpL i=0\/∃r∈olL i (m+1),r.1=m+1+dpL i):∃r∈olL i (m+1),r.1=m+(1+dpL i):=by
 rcases ih with h|⟨r,hr,e⟩
 ·cases i with
  |nil=>exact absurd rfl hR.ne
  |cons x xs=>
   obtain⟨o,y⟩:=x;refine⟨(m+1,o,y),?_,by rw[h]⟩;rw[olL,olI];exact uy _ uA
 ·exact⟨r,hr,by omega⟩
mutual
theorem Ly.deep:∀(y:Ly)(m:Nat),(∀i,VL y=some i->Rows i)->y.dp=0\/∃r∈y.ol m,r.1=m+y.dp
 | .box _ _,m,_=>.inl (by rw[Ly.dp])
 | .grp nm i,m,h=>by
  rw[Ly.dp,Ly.ol];exact .inr (qc (h i rfl) m (WF i (m+1) fun x hx=>(h i rfl).it x hx))
 | .tab nm k i,m,h=>by
  rw[Ly.dp,Ly.ol];exact .inr (qc (h i rfl) m (WF i (m+1) fun x hx=>(h i rfl).it x hx))
theorem WF:∀(its:List (Bool × Ly))(m:Nat),(∀x∈its,wC x)->dpL its=0\/∃r∈olL its m,r.1=m+dpL its
 |[],m,_=>.inl (by rw[dpL])
 |x::xs,m,h=>by
  have h1:=Qae x m (h x uA);have h2:=WF xs m fun z hz=>h z (uz _ hz);rw[dpL,olL]
  by_cases hc:dpL xs<=dpI x
  ·rw[Nat.max_eq_left hc];rcases h1 with h1|⟨r,hr,e⟩
   ·exact .inl h1
   ·exact .inr ⟨r,uy _ hr,e⟩
  ·rw[Nat.max_eq_right (by omega)];rcases h2 with h2|⟨r,hr,e⟩
   ·exact .inl h2
   ·exact .inr ⟨r,ux _ hr,e⟩
theorem Qae:∀(x:Bool × Ly)(m:Nat),wC x->dpI x=0\/∃r∈olI x m,r.1=m+dpI x
 |(o,y),m,h=>by
  rw[dpI,olI];rcases Ly.deep y m h.2 with h1|⟨r,hr,e⟩
  ·exact .inl h1
  ·exact .inr ⟨r,uz _ hr,e⟩
end
theorem Qb4{its:List (Bool × Ly)}{t:List Nat}(hR:Rows its)(e:txL its=t)(h:TxM t):dpL its<=40:=by
 rcases WF its 0 hR.it with h0|⟨r,hr,er⟩
 ·omega
 ·have h1:=Qdj hr;have h2:flT (olL its 0)=t:=e;have:=h.m;rw[h2]at h1;omega
theorem vh{its:List (Bool × Ly)}{t:List Nat}(h:TxB t)(e:parse (Je t)=wR its):Args (wR its)/\szW (wR its)<=9000:=by
 obtain⟨xs,ex,hP⟩:=Y9 h.l;have hln:=h.n;have h2:=hP.sz;rw[←e,ex];exact⟨Vt hP hln (hP.args hln),by rw[szW];omega⟩
end Lw
namespace L2
open PySem PySem.Spec PyProof.Rows
section
variable {X:Cx}
theorem Qdk{n:Nat}(hu:X.A.units+1+n<cLine):OpR X (compareOp .Eq) (fun x y H Q=>∃a b xs ys,x=.ref a/\y=.ref b/\SqL X.K H a xs/\SqL X.K H b ys/\Like X.K H n xs ys/\Q (.bl true) H):=by
 intro pins s σ H x y v u Q I rx ry h;obtain⟨a,b,xs,ys,rfl,rfl,ha,hb,lk,q⟩:=h;obtain rfl:v=Value.ref a:=rx;obtain rfl:u=Value.ref b:=ry;obtain⟨its,r1,p1,_⟩:=I.list ha;obtain⟨its2,r2,p2,_⟩:=I.list hb;have l1:=r1.length;have l2:=r2.length;have l3:=lk.len;refine SeqAt.RcAt.lists (e:=fun _=>true) p1.isList p2.isList (by rw[uP,uP];omega) (by omega) (Ki (pins:=pins) (σ:=σ) (H:=H) (n:=n) r1 r2 fun j x y u v h1 h2 q1 q2=>(lk.at j x y h1 h2).at I (A:=X.A.in1) (by show X.A.units+1+n<cLine;omega) q1 q2) X.prog X.w X.xe _ ?_;rw[all_true];exact⟨.bl true,H,I,rfl,q⟩
end
end L2
namespace Lw
open PySem PySem.Spec PyProof.Rows L2 K02 K04 K42
open Builtin Builtin.Str StrLaws
noncomputable def qq:Str:=(envOfC "law" (Qf Wn) 0 0 .none).qual++"<lambda>"
noncomputable def Qb5(Pa:Addr):Sp:=fun vs H Q _=>∃(a:Addr)(ns:List Int),vs=[.ref a]/\ns.length<=63/\vU Pa H/\(∃o,H a=some (.frz o (.lst (ns.map V.int))))/\∀H',Q (.bl true) H'
theorem Qb6{H:Hp}{P:Addr}{q:Str}(h:H P=some (.tbl #[])):VC H P q:=⟨#[],h,trivial,fun pos cv z=>by cases z⟩
noncomputable def Kp(H H':Hp):Prop:=∀b o,H b=some o->(∀ps,o≠ .tbl ps)->(∀kvs,o≠ .dK kvs)->H' b=some o
theorem Kp.Qdl{H H1:Hp}{a t r Pa:Addr}{q:Str}{ns:List Int}{c:Int}(St:LawSt H a t r Pa q ns c)(A:Apart t r H H1):Kp H H1:=fun b o e _ n=>St.keep A e n
theorem Kp.lst{H H1:Hp}(a:Kp H H1){b:Addr}{xs:List V}(e:H b=some (.lst xs)):H1 b=some (.lst xs):=a b _ e (fun _ z=>nomatch z) (fun _ z=>nomatch z)
theorem Vw{t u:TS}{D:Ends}{σ:L2.St}{H:Hp}(h:∀N:L2.St->Hp->Prop,(∀σ H,u D σ H->N σ H)->t {D with nx:=N} σ H):XX t u D σ H:=h _ fun _ _ h=>h
theorem xw{lo:Int}{n:Nat}{g:TG}{tb:TS}{D:Ends}{σ:L2.St}{H:Hp}(Pv:Nat->L2.St->Hp->Prop)(h0:Pv 0 σ H)
  (hs:∀(N B:L2.St->Hp->Prop)(R:VK) i σ H,(∀σ H,Pv (i+1) σ H->N σ H)->i<n->Pv i σ H->g (.int (lo+i)) σ H fun σ2 H2=>tb {nx:=N,ct:=N,bk:=B,rt:=R} σ2 H2) (hd:∀σ H,Pv n σ H->D.nx σ H):
  ∃W:Nat->Nat->L2.St->Hp->Prop,(∃m,W 0 m σ H)/\∀i m σ H,W i m σ H->
   ((Itr lo n).stop i H/\D.nx σ H)\/((Itr lo n).go i H/\∃N:L2.St->Hp->Prop,(∀σ' H',N σ' H'->∃m',m'<m/\W (i+1) m' σ' H')/\∀x H',(Itr lo n).yld i H x H'->g x σ H' fun σ2 H2=>tb {D with nx:=N,ct:=N,bk:=D.nx} σ2 H2):=
 Uf Pv h0 (fun i σ H=>hs _ _ _ i σ H fun _ _ h=>h) hd
theorem qd{K:PySem.W.Frag}{H:Hp}:∀(rs rs2:List Addr),rs.length=rs2.length->(∀r∈rs,H r=some (.tup [.str "no text"]))->(∀r∈rs2,H r=some (.tup [.str "no text"])/\∀r'∈rs,r'≠r)->Like K H 1 (rs.map V.ref) (rs2.map V.ref)
 |[],[],_,_,_=>.nil
 |a::rs,b::rs2,hl,h1,h2=>.cons (EqD.Qfb ((h2 b uA).2 a uA) (SqT.of (h1 a uA)) (SqT.of (h2 b uA).1) (.cons .str .nil))
   (qd rs rs2 (by simpa using hl) (fun r hr=>h1 r (uz _ hr)) fun r hr=>⟨(h2 r (uz _ hr)).1,fun r' hr'=>(h2 r (uz _ hr)).2 r' (uz _ hr')⟩)
 |[],_::_,hl,_,_=>nomatch hl
 |_::_,[],hl,_,_=>nomatch hl
theorem zu{K:PySem.W.Frag}{a:Addr}{xs:List V}{NB:List Str}{g:TG}{tt:TT}{te:TE}{Q:VK}{σ:L2.St}{H:Hp}{i:Nat}(Pv:Nat->List V->Hp->Prop)(hσ:σ[i]? =some (some (.ref a)))(hq:SqL K H a xs)(h0:Pv 0 [] H)(hl:∀i vs H,i<=xs.length->Pv i vs H->SqL K H a xs/\vs.length<=i)
  (hs:∀i x vs H,xs[i]? =some x->Pv i vs H->g x (List.replicate NB.length none) H fun σ2 H2=>tt σ2 H2 fun b H3=>if b=true then te σ2 H3 fun v H4=>Pv (i+1) (vs++[v]) H4 else Pv (i+1) vs H3)
  (hd:∀vs H,Pv xs.length vs H->∀p,H p=none->Q (.ref p) (upd H p (.lst vs))) (hz:xs.length<sizeLine):KQ NB (qj K (Xa i)) g tt te σ H Q:=
 ⟨_,hσ,a,rfl,⟨_,hq⟩,Vb Pv h0 hl hs hd hz⟩
noncomputable def unI(g:Wx->Option Ly):Wx->Option (Bool × Ly)
 | .tup [.str w,d]=>if eqS w "over"=true then(g d).map fun y=>(true,y)else none
 |d=>(g d).map fun y=>(false,y)
noncomputable def unL(g:Wx->Option Ly):List Wx->Option (List (Bool × Ly))
 |[]=>some []
 |d::ds=>match unI g d,unL g ds with
  |some x,some xs=>some (x::xs)
  |_,_=>none
noncomputable def unY:Nat->Wx->Option Ly
 |0,_=>none
 |n+1,d=>match d with
  | .tup [.str w,.str nm,.str p]=>if eqS w "box"=true then some (.box nm p.cps.toList)else none
  | .tup [.str w,.str nm,.tup ds]=>if eqS w "group"=true then(unL (unY n) ds).map (.grp nm)else none
  | .tup [.str w,.str nm,.int k,.tup ds]=>if eqS w "table"=true then(unL (unY n) ds).map (.tab nm k.toNat)else none
  |_=>none
theorem q_b:eqS "box" "box"=true:=by decide+kernel
theorem q_g:eqS "group" "group"=true:=by decide+kernel
theorem q_t:eqS "table" "table"=true:=by decide+kernel
theorem Qdm{g:Wx->Option Ly}{o:Bool}{y:Ly}(h:g y.w=some y):unI g (wI (o,y))=some (o,y):=by
 rw[UV];cases o with
 |true=>
  show(if eqS "over" "over"=true then(g y.w).map (fun y=>(true,y))else none)=_;rw[if_pos Vo,h];rfl
 |false=>
  show unI g y.w=_;have e:unI g y.w=(g y.w).map fun y=>(false,y):=by cases y<;>rfl
  rw[e,h];rfl
mutual
theorem QeA:∀(y:Ly)(n:Nat),y.dp<n->unY n y.w=some y
 | .box nm p,0,h=>by omega
 | .box nm p,n+1,h=>by
  show(if eqS "box" "box"=true then some (Ly.box nm (Ue p).cps.toList)else none)=_;rw[if_pos q_b];rfl
 | .grp nm i,0,h=>by omega
 | .grp nm i,n+1,h=>by
  show(if eqS "group" "group"=true then(unL (unY n) (i.map wI)).map (Ly.grp nm)else none)=_;rw[if_pos q_g,Qaf i n (by rw[Ly.dp]at h;omega)];rfl
 | .tab nm k i,0,h=>by omega
 | .tab nm k i,n+1,h=>by
  show(if eqS "table" "table"=true then(unL (unY n) (i.map wI)).map (Ly.tab nm ((k:Nat):Int).toNat)else none)=_;rw[if_pos q_t,Qaf i n (by rw[Ly.dp]at h;omega),uS];rfl
theorem Qaf:∀(i:List (Bool × Ly))(n:Nat),dpL i<n->unL (unY n) (i.map wI)=some i
 |[],n,h=>rfl
 |(o,y)::xs,n,h=>by
  rw[dpL,dpI]at h;rw[uN,unL,Qdm (QeA y n (by omega)),Qaf xs n (by omega)]
end
noncomputable def vi:Nat->List (Bool × Ly)->Bool
 |0,_=>true
 |n+1,its=>Wb (wR its)&&(inn its).all (vi n)
theorem Rows.bool:∀(n:Nat){its:List (Bool × Ly)},Rows its->vi n its=true
 |0,_,_=>rfl
 |n+1,_,.mk h c o dp t=>by
  rw[vi,h,Bool.true_and];exact List.all_eq_true.mpr fun i hi=>Rows.bool n (t i hi)
noncomputable def QeS:Wx->List Wx
 | .tup ds=>ds
 |_=>[]
noncomputable def chk(t:List Nat):Bool:=match unL (unY 100) (QeS (parse (Je t)))with
 |none=>true
 |some its=> !(vi 3 its&&ovL its&&decide (txL its=t))
theorem Qdn{t:List Nat}(h:chk t=true){its:List (Bool × Ly)}(e:parse (Je t)=wR its)(hR:Rows its)(hc:dpL its<100):¬ (ovL its=true/\txL its=t):=by
 rintro⟨h1,h2⟩;unfold chk at h;rw[e]at h;have e2:unL (unY 100) (QeS (wR its))=some its:=Qaf its 100 hc;rw[e2]at h;have h:(!(vi 3 its&&ovL its&&decide (txL its=t)))=true:=h;rw[hR.bool 3,h1,uo h2]at h;cases h
noncomputable def codes(z:Str):List Nat:=z.cps.toList
noncomputable def jy:List Str:=["","\n","box a X","box a\n","box a X Y\n"," box a X\n","  box a X\n","group a\n"]
noncomputable def vx:List Str:=["box a X\n  box b X\n"]
noncomputable def Vx:List Str:=["table a 02\n  box b X\n","table a x\n  box b X\n","over box a X\n","box a X\nover over box b X\n"]
noncomputable def jz:List Str:=["group a\n    box b X\n","heap a\n","table a 31\n  box b X\n","box A X\n","group a 3\n  box b X\n"]
noncomputable def xx:List Str:=jy++vx++Vx++jz
theorem Qb7:∀z∈xx,(Je (codes z)).length<=99/\(∀l∈Je (codes z),l.length<=80)/\(codes z).length<=10000/\chk (codes z)=true/\(codes z).length<=1000:=by decide+kernel
theorem vj{z:Str}(h:z∈xx):TxB (codes z)/\((∃its,parse (Je (codes z))=wR its/\Rows its/\cnL its<=99/\¬ (ovL its=true/\txL its=codes z))\/Bad (parse (Je (codes z)))):=by
 obtain⟨h1,h2,h3,h4,_⟩:=Qb7 z h;have hT:TxB (codes z):=⟨h1,h2,h3⟩;refine⟨hT,?_⟩;rcases Yb hT with⟨its,e,hR,hc⟩|hb
 ·exact .inl ⟨its,e,hR,hc,Qdn h4 e hR (by have:=jt its;omega)⟩
 ·exact .inr hb
noncomputable def vz:List (Bool × Ly):=[(false,.box "b" [88])]
noncomputable def zw:List (Bool × Ly):=[(false,.tab "abcdefghijkl" 30 vz)]
noncomputable def Qb8:Str:="table abcdefghijkl 30\n  box b X\n"
theorem QaU:txL zw=codes Qb8:=by decide+kernel
theorem Qag:Wb (wR vz)=true:=by decide+kernel
theorem Qah:Wb (wR zw)=true:=by decide+kernel
theorem vk:UM [88]:=by unfold UM;decide+kernel
theorem Qdo:Rows vz:=.mk Qag (by decide) (by rw[vz,okL,okL,okI,Ly.okK];exact⟨vk,trivial⟩) (by decide) fun x hx=>nomatch hx
theorem Qdp:Rows zw:=.mk Qah (by decide) (by rw[zw,okL,okL,okI,Ly.okK];exact⟨⟨uq _,by rw[vz,okL,okL,okI,Ly.okK];exact⟨vk,trivial⟩⟩,trivial⟩) (by decide) fun x hx=>by rw[List.mem_singleton.mp hx];exact Qdo
theorem Qdq:ovL zw=true:=by decide+kernel
theorem Qdr:∀r∈olL zw 0,FrY r.2.2:=by
 intro r hr;have e:olL zw 0=[(0,false,.tab "abcdefghijkl" 30 vz),(1,false,.box "b" [88])]:=by simp[zw,vz,olL,olI,Ly.ol]
 rw[e]at hr;rcases List.mem_cons.mp hr with rfl|hr
 ·refine⟨?_,fun nm k i z=>?_⟩
  ·show ∀p∈ZP (.tab "abcdefghijkl" 30 vz),32∉p/\10∉p
   decide+kernel
  ·have z:Ly.tab "abcdefghijkl" 30 vz=.tab nm k i:=z;injection z with _ z _;rw[←z]
   decide+kernel
 ·rw[List.mem_singleton.mp hr];refine⟨?_,fun nm k i z=>nomatch z⟩;show ∀p∈ZP (.box "b" [88]),32∉p/\10∉p
  decide+kernel
theorem vm:parse (Je (codes Qb8))=wR zw:=by
 rw[←QaU];exact zt Qdr
theorem Qds:TxB (codes Qb8):=by
 have h:(Je (codes Qb8)).length<=99/\(∀l∈Je (codes Qb8),l.length<=80)/\(codes Qb8).length<=10000:=by decide+kernel
 exact⟨h.1,h.2.1,h.2.2⟩
theorem Vy{c:Nat->Addr}{vs:List V}{H:Hp}{Q Q':VK}{E E':XK}(hE:∀cls x H,E cls x H->E' cls x H) (hQ:∀v H,Q v H->Q' v H) (h:Xu c vs H Q E):Xu c vs H Q' E':=by
 obtain⟨t,e,hT,h⟩:=h;refine⟨t,e,hT,?_⟩;rcases h with⟨its,h1,h2,h3,k1,k2⟩|⟨hb,k2⟩
 ·exact .inl ⟨its,h1,h2,h3,fun a b u H' S D=>hQ _ _ (k1 a b u H' S D),fun n H' S=>hE _ _ _ (k2 n H' S)⟩
 ·exact .inr ⟨hb,fun H' S=>hE _ _ _ (k2 H' S)⟩
theorem dpS(z:Str):Dv.depth (.str z)=0:=by simp[Dv.depth]
theorem dpN(i:Int):Dv.depth (.int i)=0:=by simp[Dv.depth]
mutual
theorem Ly.depth:∀y:Ly,y.dv.depth<=3*y.dp+1
 | .box nm p=>by
  rw[Ly.dv,Ly.dp];show max (Dv.depth (.str "box")) (max (Dv.depth (.str nm)) (max (Dv.depth (.str (Ue p))) 0))+1<=_;rw[dpS,dpS,dpS];omega
 | .grp nm its=>by
  have:=KK its;rw[Ly.dv,Ly.dp];show max (Dv.depth (.str "group")) (max (Dv.depth (.str nm)) (max (Dv.ZB (dvL its)+1) 0))+1<=_;rw[dpS,dpS];omega
 | .tab nm k its=>by
  have:=KK its;rw[Ly.dv,Ly.dp];show max (Dv.depth (.str "table")) (max (Dv.depth (.str nm)) (max (Dv.depth (.int (k:Nat))) (max (Dv.ZB (dvL its)+1) 0)))+1<=_;rw[dpS,dpS,dpN];omega
theorem KK:∀its:List (Bool × Ly),Dv.ZB (dvL its)<=3*dpL its+2
 |[]=>by rw[dvL,Dv.ZB];omega
 |x::xs=>by
  have h1:=KK xs;have h2:=vn x;rw[dvL,Dv.ZB,dpL];omega
theorem vn:∀x:Bool × Ly,(dvI x).depth<=3*dpI x+2
 |(o,y)=>by
  have:=Ly.depth y;rw[dvI,dpI]
  split
  ·show max (Dv.depth (.str "over")) (max (Dv.depth y.dv) 0)+1<=_;rw[dpS];omega
  ·omega
end
theorem qe(its:List (Bool × Ly)):Dv.depth (.tup (dvL its))<=3*dpL its+3:=by
 have:=KK its;rw[Dv.depth];omega
section
variable {P:Program}{w:World}{K:PySem.W.Frag}{mg:Str->Option Value}{base:Heap}{f:Addr}{fd:FuncData}{tk:Nat->Tok}{c kr:Nat->Addr}{ca Pa fh:Addr}{fdh:FuncData}
theorem zx{xs:List V}{w:Nat}(h:w<=xs.length):Vz xs none (some (w:Int))=xs.take w:=by
 unfold Vz;rw[HT.Yg,HT.ql,List.drop_zero,Nat.sub_zero,Nat.min_eq_left h]
theorem zy{xs:List V}{w:Nat}(h:w<=xs.length):Vz xs (some (w:Int)) none=xs.drop w:=by
 unfold Vz;rw[HT.Yg,HT.ql,Nat.min_eq_left h];exact List.take_of_length_le (by rw[uC];omega)
theorem taC{te:TE}{ta:TA}{σ:L2.St}{H:Hp}{R:List V->Hp->Prop}(h:te σ H fun v H1=>ta σ H1 fun vs H2=>R (v::vs) H2):Ja te ta σ H R:=h
theorem Qfv{ta:TA}{σ:L2.St}{H:Hp}{Q:VK}(h:ta σ H fun xs H1=>xs.length<=sizeLine/\∀p,H1 p=none->Q (.ref p) (upd H1 p (.lst xs))):Qca ta σ H Q:=h
theorem join_rows{σ:L2.St}{H:Hp}{Q:VK}{q:Addr}{i:Nat}{ms:List (List Nat)}(hv:σ[i]? =some (some (.ref q)))(g:H q=some (.lst ((ms.map tx).map V.str)))(hn:ms.length<=200)(hl:∀l∈ms,LnS l) (k:∀H',Qk H H'->Q (.str (tx (Za ms))) H'):
  tBM K "str" (fun x vs H Q=>∃(z:Str)(p:Addr)(ys:List Str),x=.str z/\vs=[.ref p]/\SqL K H p (ys.map V.str)/\JoinOk z ys=true/\Q (.str (Txt.join z ys)) H) (tC (.str "")) (Ja (KQ [".0","_law_row"] (qj K (Xa i)) (QH 1) vY (tOp (fun x y H Q=>∃i j,x=V.str i/\y=V.str j/\i.length+j.length<=sizeLine/\Q (V.str (i++j)) H) (Xa 1) (tC (.str "\n")))) WO) σ H Q:=by
 have hz:100000<=sizeLine:=by rw[sizeLine_eq];decide
 have lx:((ms.map tx).map V.str).length=ms.length:=by rw[uk,uk]
 have hcl:=KJ hl;refine⟨rfl,?_⟩;refine ta1 ?_;refine ZN (Qdz (K:=K) (a:=q) (xs:=(ms.map tx).map V.str)) ((ms.map fun l=>l++[10]).map fun p=>Dv.str (tx p)) (by rw[uk,uk];omega) (fun R h=>⟨_,hv,q,rfl,⟨_,.inl (.inl g)⟩,h _ (Qk.refl _)⟩) (fun H2 S=>.inl (.inl (S _ _ g))) ?_ ?_ (by omega)
 ·rintro j u H2 H3 d R hd S ⟨rfl,hu⟩ kk;rw[uE,uE]at hu hd;cases e:ms[j]? with
  |none=>rw[e]at hu;cases hu
  |some l=>
   rw[e]at hu hd;obtain rfl:V.str (tx l)=u:=ur hu;obtain rfl:Dv.str (tx (l++[10]))=d:=ur hd;have h20:=(hl l (uF e)).ln;refine⟨_,rfl,_,_,rfl,rfl,?_,?_⟩
   ·rw[Qq,show("\n":Str).length=1 by decide+kernel];omega
   ·rw[show("\n":Str)=tx [10] by decide+kernel,Js];exact kk _ _ (Qk.refl _) .str
 intro ys H2 p S2 t2 hp;have eys:=KI (ps:=ms.map fun l=>l++[10]) t2;subst eys;have S3:=Qk.new (o:=.lst (((ms.map fun l=>l++[10]).map tx).map V.str)) hp;refine⟨"",p,_,rfl,rfl,.inl (.inl Qa),?_,?_⟩
 ·refine Y4 ?_;rw[U7,show("":Str).length=0 by decide+kernel,uM];refine Nat.le_trans (QbQ (B:=21) fun x hx=>?_) (by rw[uk];omega);obtain⟨l,hm,rfl⟩:=List.mem_map.mp hx;have:=(hl l hm).ln;show(l++[10]).length+0<=21;rw[uj,uu];omega
 ·rw[zg];exact k _ (S2.trans S3)
set_option maxHeartbeats 8000000 in
theorem Qdt(F:FunC K "law" "law" Wn f fd (.ref ca))(O:Own mg)(T:Txt K mg tk c kr)(L:Lamb mg base ca Pa)(Fh:Fun K "_law_heard" "_law_heard" Q5 fh fdh)(hmh:mg "_law_heard"=some (.ref fh))(hbh:Binds K fdh ["_law_deed"] [])(G4:Kind K c 4)
  (hZ:Def P w K mg base 1 "_law_class" ["_law_kept"] (Vp K c)) (mG:Def P w K mg base 1 "_law_begun" [] qy) (hJ:Def P w K mg base 1 "_law_draw" ["_law_script","_law_town","_law_many"] (WW K))
  (gw:Def P w K mg base 7 "_law_a_layout" ["_law_script","_law_town","_law_deep"] (Wm K 3)) (gd:Def P w K mg base 42 "_law_rows_of" ["_law_items","_law_deep"] (Qcc 41))
  (gm:Def P w K mg base 10 "is_layout" ["thing"] YO) (gU:DefK0 P w K mg base 4 "layout_text" "layout" wK) (gv:Def P w K mg base 11 "read_layout" ["text"] (Xu c)) (gW:DefK0 P w K mg base 11 "read_layout" "text" (Xu c)):
  FnOk P w K mg base (CXE P w) 45 f fd ["_law_script"] (Qb5 Pa):=by
 refine Qd7 F JM (fun vs H Q E h=>?_) (fun A outer s H vs Q E hr h=>?_)
 ·obtain⟨a,ns,rfl,_⟩:=h;rfl
 ·obtain⟨a,ns,rfl,hln,hO,hsc,k⟩:=h;have mono1:∀(σ:L2.St)(H:Hp)(Q Q':VK)(E E':XK),(∀cls x H,E cls x H->E' cls x H)->(∀v H,Q v H->Q' v H)->qB (Xu c) E (Xa 15) σ H Q->qB (Xu c) E' (Xa 15) σ H Q':=by
   rintro σ H Q Q' E E' hE hQ ⟨v1,e1,sp⟩;exact⟨v1,e1,Vy hE hQ sp⟩
  have mono2:∀(σ:L2.St)(H:Hp)(Q Q':VK)(E E':XK),(∀cls x H,E cls x H->E' cls x H)->(∀v H,Q v H->Q' v H)->VB (Xu c) [] E (Ja (Xa 1) WO) σ H Q->VB (Xu c) [] E' (Ja (Xa 1) WO) σ H Q':=by
   rintro σ H Q Q' E E' hE hQ ⟨v1,e1,sp⟩;exact⟨v1,e1,Vy hE hQ sp⟩
  have hz:100000<=sizeLine:=by rw[sizeLine_eq];decide
  refine⟨_,(Qi (Qy (i:=1) JM.nd rfl (Or.inl rfl) (PEx.mk (mG.pe0 hr (by decide) rfl Qu)) rfl rfl)
   (Qi (Qy (i:=2) JM.nd rfl (Or.inl rfl) (PEx.mk (gw.pe hr (by decide) rfl Qu (Qz (pv 0) (Qz (pv 1) (Qz Qd Qc))))) rfl rfl)
   (Qi (Qy (i:=14) JM.nd rfl (Or.inl rfl) (wv gd hr (by decide) rfl Qu (QF (PEx.mk (pv 2)) (QF (PEx.mk Qd) QA rfl) rfl) rfl rfl rfl) rfl rfl)
   (Qi (YU (Qc1 (Qc0 (PTx.mk (Ql Kd (gU.pe hr (by decide) rfl Qu (pv 2)) (pv 14) (Qo _))) (QbH (PTx.mk (Ql (qP (n:=16) (qW hr)) (gv.pe hr (by decide) rfl Qu (Qz (pv 14) Qc)) (pv 2) (Qo _)))))) (Qs (QG (PEx.mk ZQ))) JN)
   (Qi (Qy (i:=3) JM.nd rfl (Or.inl rfl) (PEx.mk (QS ZT (JQ plainAttrs_str slot_str_split type_str_split YV (pv 14) (Qz Qg Qc)) Jl (QX (KL ZL Qd)))) rfl rfl)
   (Qi (Vh PassesOwn.never rfl (WL rfl O.range (Qz Qd Qc)) (Qm (i:=4) JM.nd rfl (Or.inl rfl)) (Qi (Qy (i:=5) JM.nd rfl (Or.inl rfl) (PEx.mk (hJ.pe hr (by decide) rfl Qu (Qz (pv 0) (Qz (pv 1) (Qz (QP Jd (Qj Q4 rfl O.len PySem.boot_len (Qz (pv 14) Qc)) Qd) Qc))))) rfl rfl)
   (Qi (Qy (i:=6) JM.nd rfl (Or.inl rfl) (PEx.mk (Qw xO Qg (hJ.pe hr (by decide) rfl Qu (Qz (pv 0) (Qz (pv 1) (Qz Qd Qc)))) (fun _ _=>rfl))) rfl rfl)
   (Qi (Qy (i:=7) JM.nd rfl (Or.inl rfl) (PEx.mk (hJ.pe hr (by decide) rfl Qu (Qz (pv 0) (Qz (pv 1) (Qz (Qj Qr rfl O.len PySem.boot_len (Qz (pv 3) Qc)) Qc))))) rfl rfl)
   (Qi (Qy (i:=8) JM.nd rfl (Or.inl rfl) (JF (QF (Q2 QJ (Q2 QJ (PEx.mk (QS XM (pv 14) Jl (QX (pv 5)))) (PEx.mk (pv 6))) (PEx.mk (QS XM (pv 14) (QX (pv 5)) Jl))) (QF (Q2 QJ (PEx.mk (QS XM (pv 14) Jl (QX (pv 5)))) (PEx.mk (QS XM (pv 14) (QX (QP Jd (pv 5) Qd)) Jl))) (QF (Q2 QJ (Q2 QJ (PEx.mk (QS XM (pv 14) Jl (QX (pv 5)))) (PEx.mk (pv 6))) (PEx.mk (QS XM (pv 14) (QX (QP Jd (pv 5) Qd)) Jl))) QA rfl) rfl) rfl)) rfl rfl)
   (Qi (Qy (i:=9) JM.nd rfl (Or.inl rfl) (Q2 Xg (PEx.mk (QS ZT (pv 3) Jl (QX (pv 7)))) (PEx.mk (QS ZT (pv 3) (QX (QP Jd (pv 7) Qd)) Jl))) rfl rfl)
   (Qi (Qy (i:=10) JM.nd rfl (Or.inl rfl) (Q2 Xg (PEx.mk (QS ZT (pv 3) Jl (QX (QP Jd (pv 7) Qd)))) (PEx.mk (QS ZT (pv 3) (QX (pv 7)) Jl))) rfl rfl)
   (Qi (Qy (i:=8) JM.nd rfl (Or.inl rfl) (Q2 Xg (PEx.mk (pv 8)) (JF (QF (Xq (QF (PEx.mk (Jo (NB:=[".0","_law_row"]) rfl ⟨rfl,by decide+kernel,by decide+kernel,by decide+kernel⟩ (Zb (pv 9)) (fun _ _ _=>(Qm (i:=1) (show([".0","_law_row"]:List Str).Nodup by decide+kernel) rfl (Or.inl rfl))) (fun _ _ _=>Jx) (fun _ _ _=>(QP QJ (pv 1) Qg)))) QA rfl) rfl rfl) (QF (Xq (QF (PEx.mk (Jo (NB:=[".0","_law_row"]) rfl ⟨rfl,by decide+kernel,by decide+kernel,by decide+kernel⟩ (Zb (pv 10)) (fun _ _ _=>(Qm (i:=1) (show([".0","_law_row"]:List Str).Nodup by decide+kernel) rfl (Or.inl rfl))) (fun _ _ _=>Jx) (fun _ _ _=>(QP QJ (pv 1) Qg)))) QA rfl) rfl rfl) QA rfl) rfl))) rfl rfl)
   (Qi (Qy (i:=15) JM.nd rfl (Or.inr rfl) (PEx.mk (Qw Zk (pv 8) (hJ.pe hr (by decide) rfl Qu (Qz (pv 0) (Qz (pv 1) (Qz Qd Qc)))) (fun _ _=>rfl))) rfl rfl)
   (Qi (Qy (i:=11) JM.nd rfl (Or.inl rfl) (PEx.mk (j7 (K0:=K) (q:=qq) rfl Fh hmh hbh T hZ hr rfl L rfl rfl rfl (fun _=>rfl) rfl rfl rfl (by decide+kernel) rfl (fun _ _ _ _=>rfl) (fun _ _ _ _ _ _ _ _ hr2=>(gW.pe hr2 (by decide) rfl (ZM jN) (pv 15))) mono1)) rfl rfl)
   (Qi (YU (PTx.mk (PW.pt (ZJ (Ql QZ (Qw Qt (pv 11) Qd (fun _ _=>rfl)) Qg (Qo _)) (Zq (PW.pt (ZS (Z5 (Zp (gm.pe hr (by decide) rfl Qu (Qz (Qw Qt (pv 11) Qd (fun _ _=>rfl)) Qc)))) (J3 (Ql Kd (gd.pe hr (by decide) rfl Qu (Qz (Qw Qt (pv 11) Qd (fun _ _=>rfl)) (Qz Qd Qc))) (pv 15) (Qo _))))))))) (Qs (QG (PEx.mk ZQ))) JN)
   (Qs (YU (PTx.mk (Ql kX (Qw Qt (pv 11) Qd (fun _ _=>rfl)) (QO (Qz Qg (Qz Qg Qc))) (by with_unfolding_all rfl))) (Qs (QG (PEx.mk ZQ))) JN)))))))))))) (fun _=>rfl))
   (Qi (Qy (i:=12) JM.nd rfl (Or.inl rfl) (JF (QF (PEx.mk Qg) (QF (PEx.mk Qg) (QF (PEx.mk Qg) (QF (PEx.mk Qg) (QF (PEx.mk Qg) (QF (PEx.mk Qg) (QF (PEx.mk Qg) (QF (PEx.mk Qg) QA rfl) rfl) rfl) rfl) rfl) rfl) rfl) rfl)) rfl rfl)
   (Qi (yV (QbI plainAttrs_list PySem.F.slot_list_append PySem.F.type_list_append Jm (PEx.mk (pv 12)) (QF (PEx.mk Qg) QA rfl) rfl rfl rfl) rfl)
   (Qi (Qy (i:=12) JM.nd rfl (Or.inl rfl) (Q2 Xg (PEx.mk (pv 12)) (JF (QF (PEx.mk Qg) (QF (PEx.mk Qg) (QF (PEx.mk Qg) (QF (PEx.mk Qg) QA rfl) rfl) rfl) rfl))) rfl rfl)
   (Qi (Qy (i:=12) JM.nd rfl (Or.inl rfl) (Q2 Xg (PEx.mk (pv 12)) (JF (QF (PEx.mk Qg) (QF (PEx.mk Qg) (QF (PEx.mk Qg) (QF (PEx.mk Qg) (QF (PEx.mk Qg) QA rfl) rfl) rfl) rfl) rfl))) rfl rfl)
   (Qi (Qy (i:=13) JM.nd rfl (Or.inl rfl) (Jt (QF (Jt (QF (PEx.mk Qg) (QF (PEx.mk Qg) (QF (PEx.mk Qd) (QF (Jt (QF (Jt (QF (PEx.mk Qg) (QF (PEx.mk Qg) (QF (PEx.mk Qg) QA rfl) rfl) rfl)) QA rfl)) QA rfl) rfl) rfl) rfl)) QA rfl)) rfl rfl)
   (Qi (YU (PTx.mk (Ql (qP (n:=16) (qW hr)) (gv.pe hr (by decide) rfl Qu (Qz Qg Qc)) (pv 13) (Qo _))) (Qs (QG (PEx.mk ZQ))) JN)
   (Qs (QG (PEx.mk (Q9 (Qdk (n:=1) (Qd4 hr)) (Jo (NB:=[".0","_law_line"]) rfl ⟨rfl,by decide+kernel,by decide+kernel,by decide+kernel⟩ (Zb (pv 12)) (fun _ _ _=>(Qm (i:=1) (show([".0","_law_line"]:List Str).Nodup by decide+kernel) rfl (Or.inr rfl))) (fun _ _ _=>Jx) (fun _ _ _=>(j7 (K0:=K) (q:=qq) rfl Fh hmh hbh T hZ hr rfl L rfl rfl rfl (fun _=>rfl) rfl rfl rfl (by decide+kernel) rfl (fun _ _ _ _=>rfl) (fun _ _ _ _ _ _ _ _ hr2=>(gv.pe hr2 (by decide) rfl (ZM jN) (Qz (pv 1) Qc))) mono2))) (Jo (NB:=[".0","_law_line"]) rfl ⟨rfl,by decide+kernel,by decide+kernel,by decide+kernel⟩ (Zb (pv 12)) (fun _ _ _=>(Qm (i:=1) (show([".0","_law_line"]:List Str).Nodup by decide+kernel) rfl (Or.inl rfl))) (fun _ _ _=>Jx) (fun _ _ _=>(QO (Qz Qg Qc)))) (Qo _))))))))))))))))),?_⟩
  refine⟨rfl,fun t r H1 ht hr1 T1 S1=>?_⟩;have St1:LawSt H1 a t r Pa qq ns 0:=⟨let ⟨o,h⟩:=hsc;⟨o,S1 _ _ h⟩,⟨[],T1⟩,(Qb6 hO.1).same S1,hln⟩;clear T1 S1 ht hr1 hsc hO;refine Vw fun N0 n0=>?_
  try dsimp only[QH,JP,QU]
  refine n0 _ _ (Vw fun N1 n1=>?_)
  try dsimp only[QH,JP,QU]
  have hcb:cb 2=420:=rfl;refine⟨_,rfl,_,rfl,a,t,r,ns,0,2,rfl,by decide,by decide,St1.bag,by omega,fun v H3 its c3 B3 hc3 A3 DI G=>?_⟩;obtain⟨rs3,T3⟩:=B3.tw;have St3:=St1.drawn A3 T3;clear St1 B3 A3 T3;have bd:=Wd 2 its G;have hcn:cnL its<=84:=bd.cn;have hdp:dpL its<=2:=bd.dp;obtain⟨hR,hovl⟩:=U9 2 its (by decide) G;obtain⟨hfr,hls⟩:=Qb3 (by decide) G;have hol:=hR.ol;have hpt:=zt hfr;have hll:((olL its 0).map lnW).length=cnL its:=by rw[uk,Kb]
  refine n1 _ _ (Vw fun N2 n2=>?_)
  try dsimp only[QH,JP,QU]
  refine⟨_,rfl,v,its,0,rfl,DI,by omega,by omega,(fun r hr=>⟨(hol r hr).1,by have:=(hol r hr).2;omega⟩),fun H4 S4=>?_⟩;have etx:flT (olL its 0)=txL its:=rfl;rw[etx];have hTB:TxB (txL its):=by rw[vg];exact(Uc hls (by omega)).b
  have St4:=St3.same S4;have DI4:=DI.same S4;clear St3 DI S4;refine n2 _ _ (Vw fun N3 n3=>?_);dsimp only[QH,JP,QU,qh,VA,tOp];refine⟨_,rfl,v,its,rfl,DI4,hR,by omega,fun H5 S5=>⟨_,rfl,rfl,false,by simp,QN ?_⟩⟩;have St5:=St4.same S5;have DI5:=DI4.same S5;clear St4 DI4 S5;refine⟨_,rfl,txL its,rfl,hTB,.inl ⟨its,hpt,hR,by omega,fun _ _ u6 H6 S6 D6=>?_,fun z=>absurd ⟨hovl,rfl⟩ z⟩⟩;have hdl:=qe its;refine⟨_,rfl,_,_,D6,DI5.same S6,by omega,false,by rw[Dv.Ww];rfl,QN ?_⟩;have St6:=St5.same S6;clear St5 DI5 S6 D6;refine n3 _ _ (Vw fun N4 n4=>?_)
  try dsimp only[QH,JP,QU]
  have htl:=hTB.t;have hsl:=YY 10 (txL its);have es:Txt.split (tx (txL its)) "\n"=(spl 10 (txL its)).map tx:=by rw[QeQ,YX]
  have hlt:Je (txL its)=(olL its 0).map lnW:=zr hfr;refine⟨_,rfl,rfl,tx (txL its),"\n",rfl,rfl,by decide+kernel,by rw[Qq];omega,by rw[es,uk];omega,fun p hp=>?_⟩;rw[es];have S7:=Qk.new (o:=.lst (((spl 10 (txL its)).map tx).map V.str)) hp;have g7:upd H6 p (.lst (((spl 10 (txL its)).map tx).map V.str)) p=some (.lst (((spl 10 (txL its)).map tx).map V.str)):=Qa;generalize upd H6 p (.lst (((spl 10 (txL its)).map tx).map V.str))=H7 at S7 g7;have hne7:((spl 10 (txL its)).map tx).map V.str≠[]:=by
   intro z;rw[List.map_eq_nil_iff,List.map_eq_nil_iff]at z;exact XS 10 _ z
  refine⟨1,rfl,_,rfl,p,_,rfl,.inl (.inl g7),fun q8 hq8=>?_⟩;rw[QaI hne7, ←List.map_dropLast, ←List.map_dropLast,show(spl 10 (txL its)).dropLast=(olL its 0).map lnW from hlt];have S8:=Qk.new (o:=.lst ((((olL its 0).map lnW).map tx).map V.str)) hq8;have g8:upd H7 q8 (.lst ((((olL its 0).map lnW).map tx).map V.str)) q8=some (.lst ((((olL its 0).map lnW).map tx).map V.str)):=Qa;generalize upd H7 q8 (.lst ((((olL its 0).map lnW).map tx).map V.str))=H8 at S8 g8;have St8:=(St6.same S7).same S8;clear St6 S7 S8 g7 hq8 hp hne7 es;rw[vg]at htl hTB ⊢;have hlnp:0<((olL its 0).map lnW).length:=by
   rw[hll];obtain⟨hne,_⟩:=(XE 2 its).mp G;cases its with
   |nil=>exact absurd rfl hne
   |cons x xs=>have:=Vk x;rw[cnL];omega
  have hll84:((olL its 0).map lnW).length<=84:=by omega
  generalize (olL its 0).map lnW=ls at hls hll htl hTB g8 hlnp hll84;clear hpt hfr hol hR hovl bd G hdp hdl hsl hlt hll etx hcn;refine n4 _ _ (Vw fun N5 n5=>?_)
  try dsimp only[QH,JP,QU]
  refine⟨10,rfl,by decide,by decide,xw (n:=10) (fun i σ H9=>∃(y4 y5 y6 y7 y8 y9 y10 y11 y15:Option V)(c9:Int),σ=[some (.ref a),some (.ref t),some v,some (.ref q8),y4,y5,y6,y7,y8,y9,y10,y11,none,none,some (.str (tx (Za ls))),y15]/\LawSt H9 a t r Pa qq ns c9/\c9<=c3+10*i/\H9 q8=some (.lst ((ls.map tx).map V.str))) ⟨none,none,none,none,none,none,none,none,none,c3,rfl,St8,by omega,g8⟩ ?_ ?_⟩
  ·clear St8 g8;rintro N6 Bk6 Rt6 i σ H9 hN6 hi ⟨y4,y5,y6,y7,y8,y9,y10,y11,y15,c9,rfl,St9,hc9,g9⟩;refine Vw fun N7 n7=>?_
   try dsimp only[QH,JP,QU]
   have hl21:=KJ hls;have lrs:((ls.map tx).map V.str).length=ls.length:=by rw[uk,uk]
   refine St9.bag.draw (K:=K) (n:=(((tx (Za ls)).length:Nat):Int)+1) rfl rfl (fun R h=>⟨_,rfl,tx (Za ls),rfl,by rw[Qq];omega,_,_,rfl,rfl,h⟩) (by omega) (by rw[Qq];omega) (by omega) fun d1 H10 hd1 B10 A10=>?_;obtain⟨rs10,T10⟩:=B10.tw;have St10:=St9.drawn A10 T10;have g10:=(Kp.Qdl St9 A10).lst g9;clear St9 g9 B10 A10 T10;rw[Qq]at hd1;have hd1':d1<=(Za ls).length:=by omega
   refine n7 _ _ (Vw fun N8 n8=>?_)
   try dsimp only[QH,JP,QU]
   dsimp only[tOp,tC];refine St10.bag.draw (K:=K) (n:=9) rfl rfl (fun R h=>h) (by omega) (by omega) (by omega) fun d2 H11 hd2 B11 A11=>?_;obtain⟨rs11,T11⟩:=B11.tw;have St11:=St10.drawn A11 T11;have g11:=(Kp.Qdl St10 A11).lst g10;clear St10 g10 B11 A11 T11;have h9:(" \nabox9(3":Str).cps.toList.length=9:=by decide+kernel
   obtain⟨ch,hch⟩:∃ch,(" \nabox9(3":Str).cps.toList[d2]? =some ch:=⟨_,List.getElem?_eq_getElem (by omega)⟩;refine⟨" \nabox9(3",(d2:Nat),ch,rfl,rfl,by rw[K02.len_list,h9];omega,QK hch,?_⟩;have ech:(⟨#[ch]⟩:Str)=tx [ch]:=rfl;rw[ech];refine n8 _ _ (Vw fun N9 n9=>?_)
   try dsimp only[QH,JP,QU]
   refine St11.bag.draw (K:=K) (n:=((ls.length:Nat):Int)) rfl rfl (fun R h=>⟨_,rfl,q8,_,rfl,.inl (.inl (.inl g11)),by rw[lrs];exact h⟩) (by omega) (by omega) (by omega) fun d3 H12 hd3 B12 A12=>?_;obtain⟨rs12,T12⟩:=B12.tw;have St12:=St11.drawn A12 T12;have g12:=(Kp.Qdl St11 A12).lst g11;clear St11 g11 B12 A12 T12;have hd3':d3<ls.length:=by omega
   refine n9 _ _ (Vw fun N10 n10=>?_)
   try dsimp only[QH,JP,QU]
   have ek1:((d1:Nat):Int)+1=((d1+1:Nat):Int):=by omega
   refine⟨_,rfl,_,rfl,_,rfl,tx (Za ls),rfl,by rw[Qq];omega,?_⟩;rw[Xy (Za ls) hd1'];have hcl:(Za ls).length<=2000:=by omega
   refine⟨_,rfl,_,_,rfl,rfl,by rw[Qq,Qq,uB,uu];omega,?_⟩;rw[Js];refine⟨_,rfl,_,rfl,_,rfl,tx (Za ls),rfl,by rw[Qq];omega,?_⟩;rw[KS];refine⟨_,_,rfl,rfl,by rw[Qq,Qq,uj,uB,uC,uu];omega,?_⟩;rw[Js];refine⟨_,rfl,_,rfl,_,rfl,tx (Za ls),rfl,by rw[Qq];omega,?_⟩;rw[Xy (Za ls) hd1'];refine⟨_,rfl,_,rfl,_,_,rfl,rfl,_,rfl,tx (Za ls),rfl,by rw[Qq];omega,?_⟩;rw[ek1,KS];refine⟨_,_,rfl,rfl,by rw[Qq,Qq,uB,uC];omega,?_⟩;rw[Js];refine⟨_,rfl,_,rfl,_,rfl,tx (Za ls),rfl,by rw[Qq];omega,?_⟩;rw[Xy (Za ls) hd1'];refine⟨_,rfl,_,_,rfl,rfl,by rw[Qq,Qq,uB,uu];omega,?_⟩;rw[Js];refine⟨_,rfl,_,rfl,_,_,rfl,rfl,_,rfl,tx (Za ls),rfl,by rw[Qq];omega,?_⟩;rw[ek1,KS];refine⟨_,_,rfl,rfl,by rw[Qq,Qq,uj,uB,uC,uu];omega,?_⟩;rw[Js];have tA1:TxM ((Za ls).take d1++[ch]++(Za ls).drop d1):=jx hls (by omega) d1 d1 [ch] (uq _) (uq _);have tA2:TxM ((Za ls).take d1++(Za ls).drop (d1+1)):=by
    have:=jx hls (by omega) d1 (d1+1) [] (uQ _) (Nat.le_succ _);rwa[uL]at this
   have tA3:TxM ((Za ls).take d1++[ch]++(Za ls).drop (d1+1)):=jx hls (by omega) d1 (d1+1) [ch] (uq _) (Nat.le_succ _);generalize (Za ls).take d1++[ch]++(Za ls).drop d1=A1 at tA1;generalize (Za ls).take d1++(Za ls).drop (d1+1)=A2 at tA2;generalize (Za ls).take d1++[ch]++(Za ls).drop (d1+1)=A3 at tA3;refine⟨sL3,fun lo hlo=>?_⟩;have S13:=Qk.new (o:=.lst [.str (tx A1),.str (tx A2),.str (tx A3)]) hlo;have g13:upd H12 lo (.lst [.str (tx A1),.str (tx A2),.str (tx A3)]) lo=some (.lst [.str (tx A1),.str (tx A2),.str (tx A3)]):=Qa;generalize upd H12 lo (.lst [.str (tx A1),.str (tx A2),.str (tx A3)])=H13 at S13 g13;have St13:=St12.same S13;have gr13:=S13 _ _ g12;clear St12 g12 S13 hlo;have ek3:((d3:Nat):Int)+1=((d3+1:Nat):Int):=by omega
   refine n10 _ _ (Vw fun N11 n11=>?_)
   try dsimp only[QH,JP,QU]
   refine⟨_,rfl,_,rfl,_,rfl,q8,_,rfl,.inl (.inl gr13),fun f1 hf1=>?_⟩;rw[zx (by omega)];have S14:=Qk.new (o:=.lst (((ls.map tx).map V.str).take d3)) hf1;refine⟨_,rfl,_,rfl,_,_,rfl,rfl,_,rfl,q8,_,rfl,.inl (.inl (S14 _ _ gr13)),fun f2 hf2=>?_⟩;rw[ek3,zy (by omega)];have S15:=Qk.new (o:=.lst (((ls.map tx).map V.str).drop (d3+1))) hf2;refine⟨f1,f2,_,_,rfl,rfl,S15 _ _ Qa,Qa,by rw[uB,uC];omega,fun f3 hf3=>?_⟩;have efw:((ls.map tx).map V.str).take d3++((ls.map tx).map V.str).drop (d3+1)=((ls.take d3++ls.drop (d3+1)).map tx).map V.str:=by
    rw[uH,uH,List.map_take,List.map_take,List.map_drop,List.map_drop]
   rw[efw];have S16:=Qk.new (o:=.lst (((ls.take d3++ls.drop (d3+1)).map tx).map V.str)) hf3;have g16:=Qa (H:=upd (upd H13 f1 (.lst (((ls.map tx).map V.str).take d3))) f2 (.lst (((ls.map tx).map V.str).drop (d3+1)))) (a:=f3) (o:=.lst (((ls.take d3++ls.drop (d3+1)).map tx).map V.str));have S1316:=S14.trans (S15.trans S16);generalize upd (upd (upd H13 f1 (.lst (((ls.map tx).map V.str).take d3))) f2 (.lst (((ls.map tx).map V.str).drop (d3+1)))) f3 (.lst (((ls.take d3++ls.drop (d3+1)).map tx).map V.str))=H16 at S16 g16 S1316;have St16:=St13.same S1316;have gr16:=S1316 _ _ gr13;have go16:=S1316 _ _ g13;clear St13 gr13 g13 S14 S15 S16 S1316 hf1 hf2 hf3 efw;refine n11 _ _ (Vw fun N12 n12=>?_)
   try dsimp only[QH,JP,QU]
   refine⟨_,rfl,_,rfl,_,_,rfl,rfl,_,rfl,q8,_,rfl,.inl (.inl gr16),fun f1 hf1=>?_⟩;rw[ek3,zx (by omega)];have S14:=Qk.new (o:=.lst (((ls.map tx).map V.str).take (d3+1))) hf1;refine⟨_,rfl,_,rfl,_,rfl,q8,_,rfl,.inl (.inl (S14 _ _ gr16)),fun f2 hf2=>?_⟩;rw[zy (by omega)];have S15:=Qk.new (o:=.lst (((ls.map tx).map V.str).drop d3)) hf2;refine⟨f1,f2,_,_,rfl,rfl,S15 _ _ Qa,Qa,by rw[uB,uC];omega,fun f4 hf4=>?_⟩;have efw:((ls.map tx).map V.str).take (d3+1)++((ls.map tx).map V.str).drop d3=((ls.take (d3+1)++ls.drop d3).map tx).map V.str:=by
    rw[uH,uH,List.map_take,List.map_take,List.map_drop,List.map_drop]
   rw[efw];have S16:=Qk.new (o:=.lst (((ls.take (d3+1)++ls.drop d3).map tx).map V.str)) hf4;have g17:=Qa (H:=upd (upd H16 f1 (.lst (((ls.map tx).map V.str).take (d3+1)))) f2 (.lst (((ls.map tx).map V.str).drop d3))) (a:=f4) (o:=.lst (((ls.take (d3+1)++ls.drop d3).map tx).map V.str));have S1317:=S14.trans (S15.trans S16);generalize upd (upd (upd H16 f1 (.lst (((ls.map tx).map V.str).take (d3+1)))) f2 (.lst (((ls.map tx).map V.str).drop d3))) f4 (.lst (((ls.take (d3+1)++ls.drop d3).map tx).map V.str))=H17 at S16 g17 S1317;have St17:=St16.same S1317;have gr17:=S1317 _ _ gr16;have go17:=S1317 _ _ go16;have gf17:=S1317 _ _ g16;clear St16 gr16 go16 g16 S14 S15 S16 S1317 hf1 hf2 hf4 efw;have hfw:∀l∈ls.take d3++ls.drop (d3+1),LnS l:=fun l hl=>by
    rcases List.mem_append.mp hl with hl|hl
    ·exact hls l (List.mem_of_mem_take hl)
    ·exact hls l (List.mem_of_mem_drop hl)
   have htw:∀l∈ls.take (d3+1)++ls.drop d3,LnS l:=fun l hl=>by
    rcases List.mem_append.mp hl with hl|hl
    ·exact hls l (List.mem_of_mem_take hl)
    ·exact hls l (List.mem_of_mem_drop hl)
   have lfw:(ls.take d3++ls.drop (d3+1)).length<=90:=by rw[uj,uB,uC];omega
   have ltw:(ls.take (d3+1)++ls.drop d3).length<=90:=by rw[uj,uB,uC];omega
   have tA4:TxM (Za (ls.take d3++ls.drop (d3+1))):=Uc hfw (by omega);have tA5:TxM (Za (ls.take (d3+1)++ls.drop d3)):=Uc htw (by omega);refine n12 _ _ (Vw fun N13 n13=>?_)
   try dsimp only[QH,JP,QU]
   refine⟨_,rfl,?_⟩;refine Qfv (taC (join_rows (q:=f3) (i:=9) rfl gf17 (by omega) hfw fun H18 S18=>taC (join_rows (q:=f4) (i:=10) rfl (S18 _ _ g17) (by omega) htw fun H19 S19=>?_)));generalize Za (ls.take d3++ls.drop (d3+1))=A4 at tA4;generalize Za (ls.take (d3+1)++ls.drop d3)=A5 at tA5;have S1719:=S18.trans S19;have St19:=St17.same S1719;have gr19:=S1719 _ _ gr17;have go19:=S1719 _ _ go17;clear St17 gr17 go17 gf17 g17 S18 S19 S1719;refine⟨sL2,fun l2 hl2=>?_⟩;have S20:=Qk.new (o:=.lst [.str (tx A4),.str (tx A5)]) hl2;refine⟨lo,l2,_,_,rfl,rfl,S20 _ _ go19,Qa,sL5,fun l3 hl3=>?_⟩;have S21:=Qk.new (o:=.lst [.str (tx A1),.str (tx A2),.str (tx A3),.str (tx A4),.str (tx A5)]) hl3;have g21:=Qa (H:=upd H19 l2 (.lst [.str (tx A4),.str (tx A5)])) (a:=l3) (o:=.lst [.str (tx A1),.str (tx A2),.str (tx A3),.str (tx A4),.str (tx A5)]);have S1921:=S20.trans S21;have eG:upd (upd H19 l2 (.lst [.str (tx A4),.str (tx A5)])) l3 (.lst ([.str (tx A1),.str (tx A2),.str (tx A3)]++[.str (tx A4),.str (tx A5)]))=upd (upd H19 l2 (.lst [.str (tx A4),.str (tx A5)])) l3 (.lst [.str (tx A1),.str (tx A2),.str (tx A3),.str (tx A4),.str (tx A5)]):=rfl;refine Eq.mpr (congrArg _ eG) ?_;generalize upd (upd H19 l2 (.lst [.str (tx A4),.str (tx A5)])) l3 (.lst [.str (tx A1),.str (tx A2),.str (tx A3),.str (tx A4),.str (tx A5)])=H21 at S21 g21 S1921;have St21:=St19.same S1921;have gr21:=S1921 _ _ gr19;clear St19 gr19 go19 S20 S21 S1921 hl2 hl3 eG;refine n13 _ _ (Vw fun N14 n14=>?_)
   try dsimp only[QH,JP,QU]
   dsimp only[tOp];refine⟨_,rfl,?_⟩;refine St21.bag.draw (K:=K) (n:=5) rfl rfl (fun R h=>h) (by omega) (by omega) (by omega) fun d4 H22 hd4 B22 A22=>?_;obtain⟨rs22,T22⟩:=B22.tw;have St22:=St21.drawn A22 T22;have g22:=(Kp.Qdl St21 A22).lst g21;have gr22:=(Kp.Qdl St21 A22).lst gr21;clear St21 g21 gr21 B22 A22 T22;obtain⟨B,hB,tB⟩:∃B,[V.str (tx A1),V.str (tx A2),V.str (tx A3),V.str (tx A4),V.str (tx A5)][d4]? =some (.str (tx B))/\TxM B:=by
    obtain rfl|rfl|rfl|rfl|rfl:d4=0\/d4=1\/d4=2\/d4=3\/d4=4:=by omega
    ·exact⟨A1,rfl,tA1⟩
    ·exact⟨A2,rfl,tA2⟩
    ·exact⟨A3,rfl,tA3⟩
    ·exact⟨A4,rfl,tA4⟩
    ·exact⟨A5,rfl,tA5⟩
   refine⟨l3,_,(d4:Nat),_,rfl,rfl,.inl g22,QK hB,?_⟩;clear g22 hB tA1 tA2 tA3 tA4 tA5;refine n14 _ _ (Vw fun N15 n15=>?_)
   try dsimp only[QH,JP,QU]
   refine⟨St22.tab,fun fl c' H23 un code T23 keep=>⟨code,fun H24 S24=>?_⟩⟩;have St24:=(St22.lam keep T23).same S24;have gr24:=S24 _ _ (St22.zR keep gr22 fun _ z=>nomatch z);clear St22 gr22 T23 keep S24 un code;have hno:∀(ex pw:Addr)(H25 H26:Hp),Qk H24 H25->H25 ex=none->Qk (upd H25 ex (zJ ex (.ref (c 4)))) H26->H26 pw=none->N15 ((((((((((([some (V.ref a),some (V.ref t),some v,some (V.ref q8),y4,y5,y6,y7,y8,y9,y10,y11,none,none,some (V.str (tx (Za ls))),y15]:L2.St).set 4 (some (V.int (0+(i:Int))))).set 5 (some (V.int (d1:Nat)))).set 6 (some (V.str (tx [ch])))).set 7 (some (V.int (d3:Nat)))).set 8 (some (V.ref lo))).set 9 (some (V.ref f3))).set 10 (some (V.ref f4))).set 8 (some (V.ref l3))).set 15 (some (V.str (tx B)))).set 11 (some (.ref pw))) (upd H26 pw (.tup [.str (j6 4)])):=by
    intro ex pw H25 H26 S25 hex S26 hpw;have Sx:=S25.trans ((Qk.new hex).trans (S26.trans (Qk.new (o:=.tup [.str (j6 4)]) hpw)));have St27:=St24.same Sx;have gr27:=Sx _ _ gr24;have gt:upd H26 pw (.tup [.str (j6 4)]) pw=some (.tup [.str (j6 4)]):=Qa;generalize upd H26 pw (.tup [.str (j6 4)])=H27 at St27 gr27 gt;refine n15 _ _ (Vw fun N16 n16=>?_);dsimp only[QH,JP,QU,qh,VA,tOp];refine⟨_,rfl,pw,_,0,_,rfl,rfl,.inl gt,rfl,rfl,false,by decide+kernel,QN ?_⟩;refine QN (n16 _ _ ?_);dsimp only[QH,JP,QU,qh,VA,tOp];refine⟨_,rfl,pw,_,0,_,rfl,rfl,.inl gt,rfl,sL2,fun p2 hp2=>⟨p2,["told","no text"],j6 4,rfl,rfl,.inl Qa,false,by decide+kernel,QN (hN6 _ _ ?_)⟩⟩;have S28:=Qk.new (o:=.tup [.str "told",.str "no text"]) hp2;exact⟨_,_,_,_,_,_,_,_,_,_,rfl,St27.same S28,by push_cast;omega,S28 _ _ gr27⟩
   refine⟨_,rfl,B,rfl,tB.b,?_⟩;rcases Yb tB.b with⟨its2,e2,hR2,hc2⟩|hbad;rotate_left
   ·exact .inr ⟨hbad,fun H25 S25=>⟨4,rfl,G4,fun ex pw H26 hex S26 hpw=>hno ex pw H25 H26 S25 hex S26 hpw⟩⟩
   refine .inl ⟨its2,e2,hR2,hc2,fun ho2 ht2 u H25 S25 Du pw hpw=>?_,fun _ H25 S25=>⟨4,rfl,G4,fun ex pw H26 hex S26 hpw=>hno ex pw H25 H26 S25 hex S26 hpw⟩⟩;clear hno;have Sp:=Qk.new (o:=.tup [.str "told",u]) hpw;have gt:upd H25 pw (.tup [.str "told",u]) pw=some (.tup [.str "told",u]):=Qa;have Du:=Du.same Sp;have St27:=(St24.same S25).same Sp;have gr27:=Sp _ _ (S25 _ _ gr24);generalize upd H25 pw (.tup [.str "told",u])=H27 at St27 gr27 gt Du;clear St24 gr24 S25 Sp hpw;obtain⟨hA2,hs2⟩:=vh tB.b e2;have hdp2:=Qb4 hR2 ht2 tB;have hol2:=hR2.ol;refine n15 _ _ (Vw fun N16 n16=>?_);dsimp only[QH,JP,QU,qh,VA,tOp];refine⟨_,rfl,pw,_,0,_,rfl,rfl,.inl gt,rfl,rfl,true,by decide+kernel,QQ ?_⟩;refine⟨_,rfl,pw,_,1,_,rfl,rfl,.inl gt,rfl,u,wR its2,true,rfl,by rw[wj];exact Du.ws,hA2,hs2,.inr ⟨its2,rfl,hR2,ho2.symm⟩,fun H28 S28=>⟨_,rfl,?_⟩⟩;refine QN ?_;refine⟨_,rfl,pw,_,1,_,rfl,rfl,.inl (S28 _ _ gt),rfl,u,its2,0,rfl,Du.same S28,by omega,by omega,(fun r hr=>⟨(hol2 r hr).1,by have:=(hol2 r hr).2;omega⟩),fun H29 S29=>?_⟩;have efl:flT (olL its2 0)=B:=ht2;rw[efl];refine⟨_,rfl,rfl,false,by simp,QN (n16 _ _ ?_)⟩;have S2829:=S28.trans S29;dsimp only[QH,JP,QU,qh,VA,tOp];refine⟨_,rfl,pw,_,0,_,rfl,rfl,.inl (S2829 _ _ gt),rfl,sL2,fun p2 hp2=>⟨p2,["told","no text"],"told",rfl,rfl,.inl Qa,false,by decide+kernel,QN (hN6 _ _ ?_)⟩⟩;have S30:=S2829.trans (Qk.new (o:=.tup [.str "told",.str "no text"]) hp2);exact⟨_,_,_,_,_,_,_,_,_,_,rfl,St27.same S30,by push_cast;omega,S30 _ _ gr27⟩
  ·clear St8 g8;rintro σ H9 ⟨y4,y5,y6,y7,y8,y9,y10,y11,y15,c9,rfl,St9,hc9,g9⟩;refine n5 _ _ (Vw fun N20 n20=>?_)
   try dsimp only[QH,JP,QU]
   refine⟨sL8,fun p1 hp1=>?_⟩;have S10:=Qk.new (o:=.lst (jy.map V.str)) hp1;have g10:upd H9 p1 (.lst (jy.map V.str)) p1=some (.lst (jy.map V.str)):=Qa;refine n20 _ (upd H9 p1 (.lst (jy.map V.str))) (Vw fun N21 n21=>?_);generalize upd H9 p1 (.lst (jy.map V.str))=H10 at S10 g10
   try dsimp only[QH,JP,QU]
   refine⟨_,rfl,.inl ⟨rfl,_,.inl (.inl g10)⟩,p1,_,_,rfl,rfl,g10,by show 8<sizeLine;omega,?_⟩;have S11:Qk H9 (upd H10 p1 (.lst ((jy++vx).map V.str))):=J1 S10 hp1;have g11:upd H10 p1 (.lst ((jy++vx).map V.str)) p1=some (.lst ((jy++vx).map V.str)):=Qa;refine n21 _ (upd H10 p1 (.lst ((jy++vx).map V.str))) (Vw fun N22 n22=>?_);generalize upd H10 p1 (.lst ((jy++vx).map V.str))=H11 at S11 g11;have St11:=St9.same S11;clear S10 g10 St9 S11 g9 hp1
   try dsimp only[QH,JP,QU]
   refine⟨_,rfl,sL4,fun l1 hl1=>?_⟩;have S12:=Qk.new (o:=.lst (Vx.map V.str)) hl1;refine⟨p1,l1,_,Vx.map V.str,rfl,rfl,S12 _ _ g11,Qa,sL13,fun p2 hp2=>?_⟩;have g13:=Qa (H:=upd H11 l1 (.lst (Vx.map V.str))) (a:=p2) (o:=.lst ((jy++vx++Vx).map V.str));have S1113:Qk H11 (upd (upd H11 l1 (.lst (Vx.map V.str))) p2 (.lst ((jy++vx++Vx).map V.str))):=S12.trans (Qk.new hp2);refine n22 _ (upd (upd H11 l1 (.lst (Vx.map V.str))) p2 (.lst ((jy++vx++Vx).map V.str))) (Vw fun N23 n23=>?_);generalize upd (upd H11 l1 (.lst (Vx.map V.str))) p2 (.lst ((jy++vx++Vx).map V.str))=H13 at g13 S1113;have St13:=St11.same S1113;clear S12 S1113 hl1 hp2 St11 g11
   try dsimp only[QH,JP,QU]
   refine⟨_,rfl,sL5,fun l2 hl2=>?_⟩;have S14:=Qk.new (o:=.lst (jz.map V.str)) hl2;refine⟨p2,l2,_,jz.map V.str,rfl,rfl,S14 _ _ g13,Qa,sL18,fun p3 hp3=>?_⟩;have g15:=Qa (H:=upd H13 l2 (.lst (jz.map V.str))) (a:=p3) (o:=.lst (xx.map V.str));have S1315:Qk H13 (upd (upd H13 l2 (.lst (jz.map V.str))) p3 (.lst (xx.map V.str))):=S14.trans (Qk.new hp3);refine n23 _ (upd (upd H13 l2 (.lst (jz.map V.str))) p3 (.lst (xx.map V.str))) (Vw fun N24 n24=>?_);generalize upd (upd H13 l2 (.lst (jz.map V.str))) p3 (.lst (xx.map V.str))=H15 at g15 S1315;have St15:=St13.same S1315;clear S14 S1315 hl2 hp3 St13 g13
   try dsimp only[QH,JP,QU]
   refine⟨sL3,fun b1 hb1=>⟨sL1,fun b2 hb2=>⟨sL4,fun b3 hb3=>⟨sL1,fun b4 hb4=>?_⟩⟩⟩⟩;have R1:=Qk.new (o:=.tup [.str "box",.str "b",.str "X"]) hb1;have R2:=Qk.new (o:=.tup [.ref b1]) hb2;have R3:=Qk.new (o:=.tup [.str "table",.str "abcdefghijkl",.int 30,.ref b2]) hb3;have R4:=Qk.new (o:=.tup [.ref b3]) hb4;have R14:=R1.trans (R2.trans (R3.trans R4));have DB:Deep (upd (upd (upd (upd H15 b1 (.tup [.str "box",.str "b",.str "X"])) b2 (.tup [.ref b1])) b3 (.tup [.str "table",.str "abcdefghijkl",.int 30,.ref b2])) b4 (.tup [.ref b3])) (.ref b4) (.tup (dvL zw)):=by
    have e:dvL zw=[.tup [.str "table",.str "abcdefghijkl",.int 30,.tup [.tup [.str "box",.str "b",.str "X"]]]]:=by
     rw[zw,dvL,dvL,dvI,if_neg (by decide),Ly.dv,vz,dvL,dvL,dvI,if_neg (by decide),Ly.dv,show Ue [88]="X" by decide+kernel];rfl
    rw[e];exact .tup Qa (.cons (.tup (R4 _ _ Qa) (.cons .str (.cons .str (.cons .int (.cons (.tup ((R3.trans R4) _ _ Qa) (.cons (.tup ((R2.trans (R3.trans R4)) _ _ Qa) (.cons .str (.cons .str (.cons .str .nil)))) .nil)) .nil))))) .nil)
   generalize upd (upd (upd (upd H15 b1 (.tup [.str "box",.str "b",.str "X"])) b2 (.tup [.ref b1])) b3 (.tup [.str "table",.str "abcdefghijkl",.int 30,.ref b2])) b4 (.tup [.ref b3])=H16 at R14 DB;have St16:=St15.same R14;have g16:=R14 _ _ g15;clear R1 R2 R3 R4 R14 hb1 hb2 hb3 hb4 St15 g15;refine n24 _ _ (Vw fun N25 n25=>?_);dsimp only[QH,JP,QU,qh,VA,tOp];refine⟨codes Qb8,by rw[codes, ←ZC];rfl,Qds,.inl ⟨zw,vm,Qdp,by decide,fun _ _ u H17 S17 D17=>?_,fun z=>absurd ⟨Qdq,QaU⟩ z⟩⟩;refine⟨_,rfl,_,_,D17,DB.same S17,?_,false,by rw[Dv.Ww];rfl,QN ?_⟩
   ·exact Nat.le_trans (qe zw) (by decide)
   have St17:=St16.same S17;have g17:=S17 _ _ g16;clear D17 DB S17 St16 g16;refine n25 _ _ ?_
   try dsimp only[QH,JP,QU]
   have lbad:xx.length=18:=rfl;refine Qax ?_;dsimp only[tOp];show KQ [".0","_law_line"] (qj K (Xa 12)) _ vY _ _ H17 _;refine zu (a:=p3) (xs:=xx.map V.str) (fun m vs H=>∃rs:List Addr,vs=rs.map V.ref/\rs.length=m/\LawSt H a t r Pa qq ns c9/\H p3=some (.lst (xx.map V.str))/\∀x∈rs,H x=some (.tup [.str "no text"]))
    rfl (.inl (.inl g17)) ⟨[],rfl,rfl,St17,g17,fun x hx=>nomatch hx⟩ (fun m vs H hm⟨rs,e,hl,_,g,_⟩=>⟨.inl (.inl g),by rw[e,uk];omega⟩) ?_ ?_ (by show 18<sizeLine;omega)
   ·rintro m x vs H6 hx ⟨rs,rfl,hrs,St6,g6,hr6⟩;obtain⟨z,hzb,rfl⟩:∃z,z∈xx/\x=.str z:=by
     rw[uE]at hx;cases e:xx[m]? with
     |none=>rw[e]at hx;cases hx
     |some z=>rw[e]at hx;exact⟨z,uF e,(ur hx).symm⟩
    obtain⟨hTz,hcz⟩:=vj hzb;refine⟨St6.tab,fun fl c' H7 un code T7 keep=>⟨code,fun H8 S8=>?_⟩⟩;have hno:∀(H9:Hp),Qk H8 H9->∀(ex pw:Addr)(H10:Hp),H9 ex=none->Qk (upd H9 ex (zJ ex (.ref (c 4)))) H10->H10 pw=none->∃rs2:List Addr,rs.map V.ref++[V.ref pw]=rs2.map V.ref/\rs2.length=m+1/\LawSt (upd H10 pw (.tup [.str (j6 4)])) a t r Pa qq ns c9/\upd H10 pw (.tup [.str (j6 4)]) p3=some (.lst (xx.map V.str))/\∀x∈rs2,upd H10 pw (.tup [.str (j6 4)]) x=some (.tup [.str "no text"]):=by
     intro H9 S9 ex pw H10 hex S10 hpw;have Sx:=S8.trans (S9.trans ((Qk.new hex).trans (S10.trans (Qk.new (o:=.tup [.str (j6 4)]) hpw))));refine⟨rs++[pw],by rw[uH];rfl,by rw[uj,uu,hrs],(St6.lam keep T7).same Sx,Sx _ _ (St6.zR keep g6 fun _ q=>nomatch q),fun x hx=>?_⟩;rcases List.mem_append.mp hx with hx|hx
     ·exact Sx _ _ (St6.Qfc keep (hr6 x hx))
     ·rw[List.mem_singleton.mp hx];exact Qa
    refine⟨_,rfl,codes z,by rw[codes, ←ZC];rfl,hTz,?_⟩;rcases hcz with⟨its2,e2,hR2,hc2,hn2⟩|hb
    ·exact .inl ⟨its2,e2,hR2,hc2,fun h1 h2=>absurd ⟨h1,h2⟩ hn2,fun _ H9 S9=>⟨4,rfl,G4,fun ex pw H10 hex S10 hpw=>hno H9 S9 ex pw H10 hex S10 hpw⟩⟩
    ·exact .inr ⟨hb,fun H9 S9=>⟨4,rfl,G4,fun ex pw H10 hex S10 hpw=>hno H9 S9 ex pw H10 hex S10 hpw⟩⟩
   rintro vs H6 ⟨rs,rfl,hrs,St6,g6,hr6⟩ p4 hp4;have S7:=Qk.new (o:=.lst (rs.map V.ref)) hp4;have g7:upd H6 p4 (.lst (rs.map V.ref)) p4=some (.lst (rs.map V.ref)):=Qa;generalize upd H6 p4 (.lst (rs.map V.ref))=H7 at S7 g7;have g73:=S7 _ _ g6;have hr7:∀x∈rs,H7 x=some (.tup [.str "no text"]):=fun x hx=>S7 _ _ (hr6 x hx);show KQ [".0","_law_line"] (qj K (Xa 12)) _ vY _ _ H7 _;refine zu (a:=p3) (xs:=xx.map V.str) (fun m vs H=>∃rs2:List Addr,vs=rs2.map V.ref/\rs2.length=m/\Qk H7 H/\∀x∈rs2,H x=some (.tup [.str "no text"])/\∀y∈rs,y≠x)
    rfl (.inl (.inl g73)) ⟨[],rfl,rfl,Qk.refl _,fun x hx=>nomatch hx⟩ (fun m vs H hm⟨rs2,e,hl,S,_⟩=>⟨.inl (.inl (S _ _ g73)),by rw[e,uk];omega⟩) ?_ ?_ (by show 18<sizeLine;omega)
   ·rintro m x vs H8 hx ⟨rs2,rfl,hrs2,S8,hr8⟩;refine⟨sL1,fun pn hpn=>?_⟩;have S9:=Qk.new (o:=.tup [.str "no text"]) hpn;refine⟨rs2++[pn],by rw[uH];rfl,by rw[uj,uu,hrs2],S8.trans S9,fun x hx=>?_⟩;rcases List.mem_append.mp hx with hx|hx
    ·exact⟨S9 _ _ (hr8 x hx).1,(hr8 x hx).2⟩
    ·rw[List.mem_singleton.mp hx];exact⟨Qa,fun y hy e=>by
      have:=S8 _ _ (hr7 y hy);rw[e,hpn]at this;cases this⟩
   rintro vs H8 ⟨rs2,rfl,hrs2,S8,hr8⟩ p5 hp5;have S9:=Qk.new (o:=.lst (rs2.map V.ref)) hp5;have S79:=S8.trans S9;exact⟨p4,p5,rs.map V.ref,rs2.map V.ref,rfl,rfl,.inl (.inl (S79 _ _ g7)),.inl (.inl Qa),qd rs rs2 (by rw[hrs,hrs2]) (fun x hx=>S79 _ _ (hr7 x hx)) (fun x hx=>⟨S9 _ _ (hr8 x hx).1,(hr8 x hx).2⟩),k _⟩
end
theorem KitL.of{K:PySem.W.Frag}(t1:kitOne K (.type "NoneType") (.type "tuple")=some false)(t2:kitOne K (.type "bool") (.type "tuple")=some false)(t3:kitOne K (.type "int") (.type "tuple")=some false)(t4:kitOne K (.type "str") (.type "tuple")=some false)(t5:kitOne K (.type "tuple") (.type "tuple")=some true)(t6:kitOne K (.type "list") (.type "tuple")=some false)
  (s1:kitOne K (.type "NoneType") (.type "str")=some false) (s2:kitOne K (.type "bool") (.type "str")=some false) (s3:kitOne K (.type "int") (.type "str")=some false) (s4:kitOne K (.type "str") (.type "str")=some true) (s5:kitOne K (.type "tuple") (.type "str")=some false) (s6:kitOne K (.type "list") (.type "str")=some false)
  (si:kitOne K (.type "str") (.type "int")=some false) (ii:kitOne K (.type "int") (.type "int")=some true) (bi:kitOne K (.type "bool") (.type "int")=some true) (ib:kitOne K (.type "int") (.type "bool")=some false) (bb:kitOne K (.type "bool") (.type "bool")=some true):KitL K:=
 ⟨fun d=>by cases d<;>assumption,fun d=>by cases d<;>assumption,si,ii,bi,ib,bb⟩
section
variable {P:Program}{w:World}{K:PySem.W.Frag}{mg:Str->Option Value}{base:Heap}
theorem vo(mk:∀k sp,(∀f fd,Fun K "_law_rows_of" "_law_rows_of" Jg f fd->FnOk P w K mg base (CXE P w) k f fd ["_law_items","_law_deep"] sp)->Def P w K mg base k "_law_rows_of" ["_law_items","_law_deep"] sp):
  ∀(d:Nat){f:Addr}{fd:FuncData},Fun K "_law_rows_of" "_law_rows_of" Jg f fd->Own mg->FnOk P w K mg base (CXE P w) (d+1) f fd ["_law_items","_law_deep"] (Qcc d)
 |0,_,_,F,_=>Wp F
 |d+1,_,_,F,O=>Vu d F O (mk _ _ fun _ _ F2=>vo mk d F2 O)
end
end Lw
namespace L2
open PySem PySem.Spec PyProof.Rows
theorem QaV{K:PySem.W.Frag}{a:Addr}{xs:List V}{its:Array Value}{n:Nat}{od:Option Addr}{osl:Array (Option Value)}(l:K.lookup a=some ⟨.type "tuple",od,.seq its n,osl⟩)(z:its.size<=sizeLine)(v:Vals xs its.toList)(H:Hp):SqT K H a xs:=.inr ⟨_,its,n,l,rfl,rfl,z,v⟩
theorem vp{P:Program}{w:World}{K:PySem.W.Frag}{a:Addr}{h1 h2:Int}{x1 x2 y1 y2:Str}{t1 t2 u1 u2:Tok}{n:Nat}(ne:(a==sysModules)=false)(l:K.lookup a=some ⟨.type "dict",none,.dict #[⟨h1,.str x1 t1,.str y1 u1⟩,⟨h2,.str x2 t2,.str y2 u2⟩] n, #[]⟩)
  (e1:h1=QdF w (.inr x1)) (e2:h2=QdF w (.inr x2)) (hx:x1≠x2):KDict P w K a [(Sum.inr x1,.str y1),(Sum.inr x2,.str y2)]:=by
 refine⟨ne,fun h KX=>⟨[(Sum.inr x1,.str y1 u1),(Sum.inr x2,.str y2 u2)],.cons ⟨rfl,_,rfl⟩ (.cons ⟨rfl,_,rfl⟩ .nil),_,_,_,KX a _ l,⟨rfl,rfl,rfl⟩,rfl,fun e he=>?_,.cons (Zo P w x1 t1) rfl (.cons (Zo P w x2 t2) rfl .nil),?_⟩⟩
 ·have he:e=⟨h1,.str x1 t1,.str y1 u1⟩\/e=⟨h2,.str x2 t2,.str y2 u2⟩:=by simpa using he
  rcases he with rfl|rfl
  ·exact⟨_,Zo P w x1 t1,e1⟩
  ·exact⟨_,Zo P w x2 t2,e2⟩
 ·have hk:¬ (Sum.inr x1:Key)=Sum.inr x2:=fun q=>hx (Sum.inr.inj q);simp[hk]
end L2
namespace Lw
open PySem PySem.Spec PyProof.Rows L2 K02 K04 K42
set_option maxHeartbeats 8000000 in
theorem all_mk{l:PySem.W.OpenLaw}{w:World}{K:PySem.W.Frag}{h:Heap}{mg:Str->Option Value}{fa fl ca R0 R1 R2 C0 C1 C2 C3 C4 C5 C6 C7 C8 C9 C10 C11 C12 C13 C14:Addr}{t0 t1 t2 t3 t4 t5 t6 t7 t8 t9 t10 t11:Tok}{oc kV doc pm ct:Value}{od an:Option Addr}{osl:Array (Option Value)}(X:K.In h)(G:h.Ns mainGlobals mg)(hfa:mg "law"=some (.ref fa))
  (pE:DefAt K "ten_to" Yr)
  (mH:DefAt K "is_figures" Xi)
  (mW:DefAt K "number_of" X0)
  (nt:DefAt K "times_at" KY)
  (nY:DefAt K "rows_of" W1)
  (mX:DefAt K "floats_at" X2)
  (mY:DefAt K "places_of" X3)
  (mI:DefAt K "whole_part" Xl)
  (mq:DefAt K "broken_part" Z1)
  (nZ:DefAt K "lead_of" W2)
  (n6:DefAt K "tail_of" W4)
  (md:DefAt K "number_facts" ZD)
  (mr:DefAt K "plain_facts" Z0)
  (pf:DefAt K "body_of" W3)
  (me:DefAt K "edited_facts" ZF)
  (nu:DefAt K "facts_of" KZ)
  (mJ:DefAt K "is_picture" Xk)
  (mK:DefAt K "understood" Zx)
  (ph:DefAt K "size_of" Kn)
  (nv:DefAt K "signs_in" K1)
  (mZ:DefAt K "_law_draw" X7)
  (mL:DefAt K "_law_begun" Xo)
  (mM:DefAt K "_law_class" Xp)
  (hV:DefAt K "_law_item_size" Jv)
  (hX:DefAt K "_law_a_layout" JL)
  (gA:DefAt K "begins_with_word" JK)
  (pj:DefAt K "is_name" W8)
  (ny:DefAt K "is_whole" K2)
  (mf:DefAt K "is_bare_item" ZH)
  (pk:DefAt K "is_item" W6)
  (pU:DefAt K "bare" ky)
  (gI:DefAt K "is_row_of_items" JW)
  (gJ:DefAt K "overs_have_room" JX)
  (m3:DefAt K "is_layout" X4)
  (mO:DefAt K "whole_item" Xn)
  (nz:DefAt K "parts_of" K3)
  (mP:DefAt K "close_last" Xm)
  (mv:DefAt K "layout_from" Z3)
  (pq:DefAt K "outline" W5)
  (mQ:DefAt K "figures_of" Xj)
  (m4:DefAt K "item_text" X6)
  (gS:DefAt K "layout_text" Z2)
  (gT:DefAt K "read_layout" Zi)
  (gK:DefAt K "_law_rows_of" Jg)
  (pI:DefAt K "_law_heard" Q5)
  (k_0:nsIn K mainGlobals "BoxError"=some (some (.ref C0)))
  (k_1:nsIn K mainGlobals "NoPicture"=some (some (.ref C1)))
  (k_2:nsIn K mainGlobals "NoRoom"=some (some (.ref C2)))
  (k_3:nsIn K mainGlobals "NoQuotient"=some (some (.ref C3)))
  (k_4:nsIn K mainGlobals "NoText"=some (some (.ref C4)))
  (k_5:nsIn K mainGlobals "NoFigures"=some (some (.ref C5)))
  (k_6:nsIn K mainGlobals "NoLetters"=some (some (.ref C6)))
  (k_7:nsIn K mainGlobals "NoMove"=some (some (.ref C7)))
  (k_8:nsIn K mainGlobals "NoPath"=some (some (.ref C8)))
  (k_9:nsIn K mainGlobals "NoAmount"=some (some (.ref C9)))
  (uc:nsIn K mainGlobals "NoGroup"=some (some (.ref C10)))
  (ud:nsIn K mainGlobals "BadSize"=some (some (.ref C11)))
  (ue:nsIn K mainGlobals "NoBack"=some (some (.ref C12)))
  (uf:nsIn K mainGlobals "BadRow"=some (some (.ref C13)))
  (ug:nsIn K mainGlobals "Closed"=some (some (.ref C14)))
  (mx:nsIn K mainGlobals "FIGURES"=some (some (.str "0123456789" t0)))
  (gL:nsIn K mainGlobals "INSERTED"=some (some (.str ",B0/" t2)))
  (nK:nsIn K mainGlobals "SIGNS"=some (some (.str "+-" t3)))
  (gM:nsIn K mainGlobals "FLOATING"=some (some (.str "+-$" t4)))
  (mU:nsIn K mainGlobals "PLACES"=some (some (.str "9Z*+-$" t5)))
  (gg:nsIn K mainGlobals "SMALL_LETTERS"=some (some (.str "abcdefghijklmnopqrstuvwxyz" t8)))
  (my:nsIn K mainGlobals "INDENT"=some (some (.str "  " t11)))
  (mT:nsIn K mainGlobals "PART"=some (some (.int 18 t1)))
  (gc:nsIn K mainGlobals "MOST_FIGURES"=some (some (.int 18 t6)))
  (gD:nsIn K mainGlobals "MOST_SIGNS"=some (some (.int 60 t7)))
  (gj:nsIn K mainGlobals "LONGEST_NAME"=some (some (.int 12 t9)))
  (gE:nsIn K mainGlobals "MOST_TIMES"=some (some (.int 30 t10)))
  (gk:nsIn K mainGlobals "NUMBER_FORMS"=some (some (.ref R0)))
  (ng:nsIn K mainGlobals "SHOWN"=some (some (.ref R1)))
  (gh:nsIn K mainGlobals "PLAIN_KINDS"=some (some (.ref R2)))
  (mh:∀H,SqT K H R0 [.str "9",.str "S9",.str "V9",.str "SV9",.str "9V9",.str "S9V9"])
  (nh:∀H,SqT K H R1 [.str "+",.str "-",.str "CR",.str "DB"])
  (kd:KDict l.prog w K R2 UE)
  (pF:nsIn K mainGlobals "tuple"=some none)
  (pV:nsIn K mainGlobals "all"=some none)
  (pW:nsIn K mainGlobals "set"=some none)
  (gP:kitOne K (.type "NoneType") (.type "tuple")=some false)
  (mR:kitOne K (.type "bool") (.type "tuple")=some false)
  (m5:kitOne K (.type "int") (.type "tuple")=some false)
  (m7:kitOne K (.type "str") (.type "tuple")=some false)
  (mw:kitOne K (.type "tuple") (.type "tuple")=some true)
  (mS:kitOne K (.type "list") (.type "tuple")=some false)
  (mi:kitOne K (.type "NoneType") (.type "str")=some false)
  (nA:kitOne K (.type "bool") (.type "str")=some false)
  (pz:kitOne K (.type "int") (.type "str")=some false)
  (pA:kitOne K (.type "str") (.type "str")=some true)
  (m8:kitOne K (.type "tuple") (.type "str")=some false)
  (nB:kitOne K (.type "list") (.type "str")=some false)
  (pB:kitOne K (.type "str") (.type "int")=some false)
  (pC:kitOne K (.type "int") (.type "int")=some true)
  (nC:kitOne K (.type "bool") (.type "int")=some true)
  (nE:kitOne K (.type "int") (.type "bool")=some false)
  (m9:kitOne K (.type "bool") (.type "bool")=some true)
  (pQ:kitOne K (.type "str") (.type "str")=some true)
  (pR:kitOne K (.type "int") (.type "str")=some false)
  (nF:kitOne K (.type "NoneType") (.type "str")=some false)
  (pJ:kitOne K (.type "tuple") (.type "str")=some false)
  (rC:nsIn K mainGlobals "len"=some none)
  (pK:nsIn K mainGlobals "range"=some none)
  (rD:nsIn K mainGlobals "abs"=some none)
  (rE:nsIn K mainGlobals "max"=some none)
  (rF:nsIn K mainGlobals "int"=some none)
  (rG:nsIn K mainGlobals "isinstance"=some none)
  (pX:nsIn K mainGlobals "bool"=some none)
  (rH:nsIn K mainGlobals "ValueError"=some none)
  (nG:nsIn K mainGlobals "reversed"=some none)
  (pG:nsIn K mainGlobals "divmod"=some none)
  (rJ:nsIn K mainGlobals "str"=some none)
  (rK:nsIn K mainGlobals "sum"=some none)
  (rL:excIn K C1 [.type "ValueError",.type "Exception",.type "BaseException",.type "object"] "ValueError.__new__"=true)
  (rb:excIn K C4 [.type "ValueError",.type "Exception",.type "BaseException",.type "object"] "ValueError.__new__"=true)
  (rM:findIn K (.ref C4) "__getattribute__"=some (some (.builtin "BaseException.__getattribute__")))
  (rN:findIn K (.ref C4) "__getattr__"=some none)
  (rO:findIn K (.ref C4) "__class__"=some (some (.builtin "object.__class__")))
  (rP:kitOne K (.ref C4) (.ref C1)=some false)
  (rQ:kitOne K (.ref C4) (.ref C2)=some false)
  (rR:kitOne K (.ref C4) (.ref C3)=some false)
  (rS:kitOne K (.ref C4) (.ref C4)=some true)
  (rT:kitOne K (.ref C4) (.ref C5)=some false)
  (rV:kitOne K (.ref C4) (.ref C6)=some false)
  (rW:kitOne K (.ref C4) (.ref C7)=some false)
  (rX:kitOne K (.ref C4) (.ref C8)=some false)
  (rY:kitOne K (.ref C4) (.ref C9)=some false)
  (rZ:kitOne K (.ref C4) (.ref C10)=some false)
  (pY:kitOne K (.ref C4) (.ref C11)=some false)
  (pZ:kitOne K (.ref C4) (.ref C12)=some false)
  (p8:kitOne K (.ref C4) (.ref C13)=some false)
  (ra:kitOne K (.ref C4) (.ref C14)=some false)
  (r6:kitOne K (.ref C4) (.type "ValueError")=some true)
  (r8:exmOne K (.ref C4) (.ref C0)=some true)
  (rf:nsIn K mainGlobals "law"=some (some (.ref fl)))
  (rg:K.lookup fl=some ⟨oc,od,.func (fnOf "law" "law" (JR Wn) (Q3 Wn) (Qf Wn) .none kV doc pm an (.ref ca) ct),osl⟩)
  (r9:codeIn K (.ref ca) "law"=true)
  :∃fd:FuncData,(∀(s:Shared)(v:Value),BindsTo s fd ⟨[v],[]⟩ [("_law_script",v)])/\∀(base:Heap)(c P:Addr),tabIn K "law"=some (c,P)->K.In base->base.Ns mainGlobals mg->Lamb mg base c P->FnOk l.prog w K mg base (CXE l.prog w) 45 fa fd ["_law_script"] (Qb5 P):=by
 have e:=hfa.symm.trans (mg_of X G rf);cases e;have O:Own mg:=⟨mg_none_of X G rC,mg_none_of X G pK,mg_none_of X G rD,mg_none_of X G rE,mg_none_of X G rF,mg_none_of X G rG,mg_none_of X G pX,mg_none_of X G rH,mg_none_of X G nG,mg_none_of X G pG,mg_none_of X G rJ,mg_none_of X G rK⟩;have G4:Kind K (fun i=>([C0,C1,C2,C3,C4,C5,C6,C7,C8,C9,C10,C11,C12,C13,C14]:List Addr).getD i 0) 4:=⟨by decide,by decide,⟨rb,rM,rN,rO⟩,fun j hj=>match j,hj with|0,_=>rP|1,_=>rQ|2,_=>rR|3,_=>rS|4,_=>rT|5,_=>rV|6,_=>rW|7,_=>rX|8,_=>rY|9,_=>rZ|10,_=>pY|11,_=>pZ|12,_=>p8|13,_=>ra|n+14,h=>absurd h (by omega),r6,r8⟩;have T:Txt K mg (fun i=>([t0,t1,t2,t3,t4,t5,t6,t7,t8,t9,t10,t11]:List Tok).getD i 0) (fun i=>([C0,C1,C2,C3,C4,C5,C6,C7,C8,C9,C10,C11,C12,C13,C14]:List Addr).getD i 0) (fun i=>([R0,R1,R2]:List Addr).getD i 0):=⟨mg_of X G k_0,mg_of X G k_1,mg_of X G k_2,mg_of X G k_3,mg_of X G k_4,mg_of X G k_5,mg_of X G k_6,mg_of X G k_7,mg_of X G k_8,mg_of X G k_9,mg_of X G uc,mg_of X G ud,mg_of X G ue,mg_of X G uf,mg_of X G ug,mg_of X G mx,mg_of X G mT,mg_of X G gL,mg_of X G nK,mg_of X G gM,mg_of X G mU,mg_of X G gc,mg_of X G gD,mg_of X G gg,mg_of X G gj,mg_of X G my,mg_of X G gE,mg_of X G gk,mg_of X G ng,mg_of X G gh,mh,nh,⟨rL⟩,⟨rb⟩,pQ,pR,nF,pJ⟩;have KD:KDict l.prog w K ((fun i=>([R0,R1,R2]:List Addr).getD i 0) 2) UE:=kd;have OT:mg "tuple"=none:=mg_none_of X G pF;have OA:mg "all"=none:=mg_none_of X G pV;have OS:mg "set"=none:=mg_none_of X G pW;generalize (fun i=>([C0,C1,C2,C3,C4,C5,C6,C7,C8,C9,C10,C11,C12,C13,C14]:List Addr).getD i 0)=c at G4 T;generalize (fun i=>([R0,R1,R2]:List Addr).getD i 0)=kr at T KD;generalize (fun i=>([t0,t1,t2,t3,t4,t5,t6,t7,t8,t9,t10,t11]:List Tok).getD i 0)=tk at T;refine⟨fnOf "law" "law" (JR Wn) (Q3 Wn) (Qf Wn) .none kV doc pm an (.ref ca) ct,fun s v=>.of_eq rfl,fun base c' P ht kb nb L=>?_⟩;obtain rfl:c'=ca:=by
  have z:tabIn K "law"=some (c',P):=ht;unfold tabIn at z;simp only[rf,rg]at z
  split at z
  ·split at z
   ·cases z;rfl
   ·cases z
  ·cases z
 have KT:KitL K:=KitL.of gP mR m5 m7 mw mS mi nA pz pA m8 nB pB pC nC nE m9;have mz:Def l.prog w K mg base 1 "ten_to" ["many"] (yg):=pE.d1 X G (fun f fd F=>kz F O) fun _ _ _ _ _ _ _=>rfl;have gr:Def l.prog w K mg base 1 "is_figures" ["text"] (Yw):=mH.d1 X G (fun f fd F=>Yx F T) fun _ _ _ _ _ _ _=>rfl;have gC:Def l.prog w K mg base 2 "number_of" ["text"] (yh):=mW.d1 X G (fun f fd F=>UF F O T mz) fun _ _ _ _ _ _ _=>rfl;have nj:Def l.prog w K mg base 3 "times_at" ["text","at"] (qI):=nt.d2 X G (fun f fd F=>qJ F O T gr gC) fun _ _ _ _ _ _ _ _=>rfl;have gY:Def l.prog w K mg base 4 "rows_of" ["thing"] (jS K):=nY.d1 X G (fun f fd F=>zZ F O T nj) fun _ _ _ _ _ _ _=>rfl;have mV:Def l.prog w K mg base 1 "floats_at" ["rows","at"] (Yy K):=mX.d2 X G (fun f fd F=>UI F O T) fun _ _ _ _ _ _ _ _=>rfl;have mj:Def l.prog w K mg base 1 "places_of" ["rows","at","place"] (Yz K):=mY.d3 X G (fun f fd F=>UJ F O T) fun _ _ _ _ _ _ _ _ _=>rfl;have mB:Def l.prog w K mg base 2 "whole_part" ["rows","at"] (qK K):=mI.d2 X G (fun f fd F=>YA F O T mj) fun _ _ _ _ _ _ _ _=>rfl;have mm:Def l.prog w K mg base 1 "broken_part" ["rows","at","place"] (YB K):=mq.d3 X G (fun f fd F=>VG F O T) fun _ _ _ _ _ _ _ _ _=>rfl;have nQ:Def l.prog w K mg base 2 "lead_of" ["rows"] (kD K):=nZ.d1 X G (fun f fd F=>z4 F O T mV) fun _ _ _ _ _ _ _=>rfl;have nS:Def l.prog w K mg base 1 "tail_of" ["rows","at"] (kG K):=n6.d2 X G (fun f fd F=>z6 F O T) fun _ _ _ _ _ _ _ _=>rfl;have gZ:Def l.prog w K mg base 1 "number_facts" ["rows"] (JZ K Jb):=md.d1 X G (fun f fd F=>Vd F O T) fun _ _ _ _ _ _ _=>rfl;have mn:Def l.prog w K mg base 1 "plain_facts" ["rows"] (JZ K Zl):=mr.d1 X G (fun f fd F=>VH F O T KD) fun _ _ _ _ _ _ _=>rfl;have nR:Def l.prog w K mg base 3 "body_of" ["rows","at"] (kL K):=pf.d2 X G (fun f fd F=>z8 F mB mm) fun _ _ _ _ _ _ _ _=>rfl;have ma:Def l.prog w K mg base 4 "edited_facts" ["rows"] (JZ K Jy):=me.d1 X G (fun f fd F=>Ve F O T nQ nR nS) fun _ _ _ _ _ _ _=>rfl;have gN:Def l.prog w K mg base 5 "facts_of" ["rows"] (JZ K JH):=nu.d1 X G (fun f fd F=>qM F gZ mn ma) fun _ _ _ _ _ _ _=>rfl;have mD:Def l.prog w K mg base 6 "is_picture" ["thing"] (qN K):=mJ.d1 X G (fun f fd F=>YE F gY gN) fun _ _ _ _ _ _ _=>rfl;have mC:Def l.prog w K mg base 6 "understood" ["picture"] (qO K c):=mK.d1 X G (fun f fd F=>YF F T gY gN) fun _ _ _ _ _ _ _=>rfl;have nU:Def l.prog w K mg base 7 "size_of" ["picture"] (kN):=ph.d1 X G (fun f fd F=>xb F O mC) fun _ _ _ _ _ _ _=>rfl;have mE:Def l.prog w K mg base 8 "signs_in" ["layout"] (qY):=nv.d1 X G (fun f fd F=>qZ F nU) fun _ _ _ _ _ _ _=>rfl;have hJ:Def l.prog w K mg base 1 "_law_draw" ["_law_script","_law_town","_law_many"] (WW K):=mZ.d3 X G (fun f fd F=>UY F O) fun _ _ _ _ _ _ _ _ _=>rfl;have mG:Def l.prog w K mg base 1 "_law_begun" [] (qy):=mL.d0 X G (fun f fd F=>YR F) fun _ _ _ _ _ _=>rfl;have hZ:Def l.prog w K mg base 1 "_law_class" ["_law_kept"] (Vp K c):=mM.d1 X G (fun f fd F=>YS F O T) fun _ _ _ _ _ _ _=>rfl;have nH:Def l.prog w K mg base 1 "_law_item_size" ["_law_item"] (U1 0):=hV.d1 X G (fun f fd F=>KC F) fun _ _ _ _ _ _ _=>rfl;have nI:Def l.prog w K mg base 2 "_law_item_size" ["_law_item"] (U1 1):=hV.d1 X G (fun f fd F=>J0 0 F O nH) fun _ _ _ _ _ _ _=>rfl;have nJ:Def l.prog w K mg base 3 "_law_item_size" ["_law_item"] (U1 2):=hV.d1 X G (fun f fd F=>J0 1 F O nI) fun _ _ _ _ _ _ _=>rfl;have gB:Def l.prog w K mg base 4 "_law_item_size" ["_law_item"] (U1 3):=hV.d1 X G (fun f fd F=>J0 2 F O nJ) fun _ _ _ _ _ _ _=>rfl;have nM:Def l.prog w K mg base 4 "_law_a_layout" ["_law_script","_law_town","_law_deep"] (Wm K 0):=hX.d3 X G (fun f fd F=>We F) fun _ _ _ _ _ _ _ _ _=>rfl;have nN:Def l.prog w K mg base 5 "_law_a_layout" ["_law_script","_law_town","_law_deep"] (Wm K 1):=hX.d3 X G (fun f fd F=>Zc 0 F O hJ gB nM) fun _ _ _ _ _ _ _ _ _=>rfl;have nO:Def l.prog w K mg base 6 "_law_a_layout" ["_law_script","_law_town","_law_deep"] (Wm K 2):=hX.d3 X G (fun f fd F=>Zc 1 F O hJ gB nN) fun _ _ _ _ _ _ _ _ _=>rfl;have nP:Def l.prog w K mg base 7 "_law_a_layout" ["_law_script","_law_town","_law_deep"] (Wm K 3):=hX.d3 X G (fun f fd F=>Zc 2 F O hJ gB nO) fun _ _ _ _ _ _ _ _ _=>rfl;have hU:Def l.prog w K mg base 1 "begins_with_word" ["thing"] (yK):=gA.d1 X G (fun f fd F=>Ka F O OT KT) fun _ _ _ _ _ _ _=>rfl;have nV:Def l.prog w K mg base 1 "is_name" ["thing"] (wf):=pj.d1 X G (fun f fd F=>xn F O T KT) fun _ _ _ _ _ _ _=>rfl;have nk:Def l.prog w K mg base 1 "is_whole" ["thing"] (YL):=ny.d1 X G (fun f fd F=>ja F O KT) fun _ _ _ _ _ _ _=>rfl;have gF:Def l.prog w K mg base 7 "is_bare_item" ["thing"] (jb):=mf.d1 X G (fun f fd F=>Vm F O T hU nV nk mD) fun _ _ _ _ _ _ _=>rfl;have nW:Def l.prog w K mg base 8 "is_item" ["thing"] (wg):=pk.d1 X G (fun f fd F=>xo F O hU gF) fun _ _ _ _ _ _ _=>rfl;have pL:Def l.prog w K mg base 1 "bare" ["item"] (Vn):=pU.d1 X G (fun f fd F=>yL F) fun _ _ _ _ _ _ _=>rfl;have gG:Def l.prog w K mg base 9 "is_row_of_items" ["thing"] (QbB):=gI.d1 X G (fun f fd F=>Ky F O OT OA OS KT nW pL) fun _ _ _ _ _ _ _=>rfl;have gH:Def l.prog w K mg base 9 "overs_have_room" ["items"] (jc):=gJ.d1 X G (fun f fd F=>KB F mE) fun _ _ _ _ _ _ _=>rfl;have gm:Def l.prog w K mg base 10 "is_layout" ["thing"] (YO):=m3.d1 X G (fun f fd F=>UX F O OA gG pL gH) fun _ _ _ _ _ _ _=>rfl;have gs:Def l.prog w K mg base 1 "whole_item" ["is_over","item"] (yW):=mO.d2 X G (fun f fd F=>Y0 F) fun _ _ _ _ _ _ _ _=>rfl;have nr:Def l.prog w K mg base 3 "parts_of" ["line"] (QbK):=nz.d1 X G (fun f fd F=>jk F O OT gr gC) fun _ _ _ _ _ _ _=>rfl;have gX:Def l.prog w K mg base 2 "close_last" ["opened"] (QbM):=mP.d1 X G (fun f fd F=>Y2 F OT gs) fun _ _ _ _ _ _ _=>rfl;have gQ:Def l.prog w K mg base 4 "layout_from" ["lines"] (wz):=mv.d1 X G (fun f fd F=>VM F O OT T gs gX nr) fun _ _ _ _ _ _ _=>rfl;have ni:Def l.prog w K mg base 2 "outline" ["layout"] (Qeu):=pq.d1 X G (fun f fd F=>xu F O pL) fun _ _ _ _ _ _ _=>rfl;have mF:Def l.prog w K mg base 2 "figures_of" ["number"] (wG):=mQ.d1 X G (fun f fd F=>Y7 F O T mz) fun _ _ _ _ _ _ _=>rfl;have ml:Def l.prog w K mg base 3 "item_text" ["depth","is_over","parts"] (QbO):=m4.d3 X G (fun f fd F=>U8 F O T KT mF) fun _ _ _ _ _ _ _ _ _=>rfl;have gR:Def l.prog w K mg base 4 "layout_text" ["layout"] (wK):=gS.d1 X G (fun f fd F=>XT F ni ml) fun _ _ _ _ _ _ _=>rfl;have gv:Def l.prog w K mg base 11 "read_layout" ["text"] (Xu c):=gT.d1 X G (fun f fd F=>XU F T gQ gm gR) fun _ _ _ _ _ _ _=>rfl;have gd:Def l.prog w K mg base 42 "_law_rows_of" ["_law_items","_law_deep"] (Qcc 41):=gK.d2 X G (fun f fd F=>vo (fun k sp h=>gK.d2 X G h fun _ _ _ _ _ _ _ _=>rfl) 41 F O) fun _ _ _ _ _ _ _ _=>rfl;have gU:DefK0 l.prog w K mg base 4 "layout_text" "layout" (wK):=gS.QcO X G (fun f fd F=>XT F ni ml) fun _ _ _ _ _ _ _=>rfl;have gW:DefK0 l.prog w K mg base 11 "read_layout" "text" (Xu c):=gT.QcO X G (fun f fd F=>XU F T gQ gm gR) fun _ _ _ _ _ _ _=>rfl;obtain⟨fh,fdh,ah,Fh⟩:=pI.ex;have hbh:Binds K fdh ["_law_deed"] []:=Fh.binds (ps:=["_law_deed"]) fun _ _ _ _ _ _ us hl=>match us,hl with|[_],_=>rfl
 exact Qdt (P:=l.prog) (w:=w) (base:=base) ⟨oc,od,kV,doc,pm,an,ct,osl,rfl,rg,r9⟩ O T L Fh (mg_of X G ah) hbh G4 hZ mG hJ nP gd gm gU gv gW
theorem Qdu{P:Program}{w:World}{H:Hp}{s:Shared}{e:Value}{s':Shared}(z:CXE P w [] H s (fun _ _ _=>False) e s'):False:=by
 obtain⟨_,_,_,_,_,_,_,_,_,_,_,_,_,_,h⟩:=z;exact h
theorem Qb9{K:PySem.W.Frag}{fl c P:Addr}{oc kV doc pm ct oc2:Value}{od an od2:Option Addr}{osl osl2:Array (Option Value)}{vs:Array Value}(a:nsIn K mainGlobals "law"=some (some (.ref fl)))
  (l:K.lookup fl=some ⟨oc,od,.func (fnOf "law" "law" (JR Wn) (Q3 Wn) (Qf Wn) .none kV doc pm an (.ref c) ct),osl⟩) (lc:K.lookup c=some ⟨oc2,od2,.fields vs,osl2⟩) (hv:(vs[11]? :Option Value)=some (.ref P)):∃c P,tabIn K "law"=some (c,P):=⟨c,P,QcH a l rfl lc hv⟩
end Lw
structure PySem.W.Fast:Prop where
 (tw5099422913204398176 tw14343782002159863936 tw1401432878437084320 tw7218304230696738016 tw10136560211226288416 tw12703263043658287488 tw16067666484828202368 tw13706433654682486240 tw3498020687094335168 tw5944500437603643168 tw4163634324215641952 tw3805650987342633856 tw2256488423354842113 tw16486015817625518113 tw3768200365474533569 tw14112712000814412993 tw16806643365525009761 tw15517487033526176129 tw3122233414838590977 tw16491763987561298593 tw10639394212873203393 tw11005316003266111329 tw3144638922746615681 tw1697254126656710529 tw5617282430142225377 tw17868020677816208450 tw1199955002955692130 tw11598252079290221698 tw12775665301597275298 tw497304438411829570 tw14047595013249912162 tw9457561073457385858 tw8217694372441956770 tw791969901914170882 tw14262466082300871298 tw1733528002430359362 tw18337779599304450882 tw13875160309696562050 tw12631147497842525187 tw7188425251922500611 tw7089736357135116419 tw7038952163939021155 tw8530506646407360963 tw9697645595676981763 tw13029213866794675715 tw9354495651720939267 tw3712404240850854691 tw6257483022317248516 tw13510060029791800356 tw9464041587876974692 tw1258295399010843780 tw3330493225668868292 tw5794344218733563108 tw2454455596780049796 tw8082005472024360452 tw831200436772137508 tw9371701996026489380 tw6304395821819414308 tw11885714975104662372 tw5303275584339618692 tw14449209412240751492 tw2192079966013155653 tw4279270008710262149 tw284495595172062629 tw13626367115095871141 tw7638485402423421637 tw16921803918550664997 tw4607259124509544261 tw7067389311953084229 tw12655431250358309733 tw6778424830390066149 tw2558880101305481222 tw1727248831021228102 tw3106696487359394982 tw7070097230111986886 tw1188958715578323174 tw3505212943097798918 tw3823299982177281382 tw10205417404363739526 tw15225750960360893894 tw12154117811222947366 tw14263795909059590950 tw12291727681934912326 tw6756879372636434310 tw1689798825893006246 tw7232153116680056806 tw8011564080823795751 tw4792783115923429479 tw3080384092937138311 tw13356604166479559815 tw10291010827932992679 tw1362675891756112039 tw6716171244706219175 tw17631581862507033895 tw13121686118322867623 tw9689825070435593703 tw14276895494177987079 tw11579449241017407143 tw14528683271486847815 tw3205770845781087079 tw3425923167287184327 tw14727163711715736519 tw14110147864528182247 tw4674830189368001576 tw14334429582406205544 tw15838639184109452424 tw8160497734816323752 tw10508175824571542760 tw11120665150199972072 tw11281236967658450152 tw7383389335295478024 tw7784575673837614344 tw2425636044344006024 tw10528504105116909160 tw9838602959475978856 tw16700704514988868232 tw10872655237823677064 tw1316875330120589032 tw7759652978825421800 tw8086989489218422760 tw16264184566043872265 tw552563598393478153 tw1257728906440347785 tw3965571158279557289 tw17622988464480670953 tw9937463037655695625 tw496019052885294345 tw16204407504912074025 tw9943126159031454057 tw3640901887296436617 tw8601299283465372105 tw9932707606081045033 tw18088477684880149129 tw5300739843557540521 tw8286321513861138185 tw7917963664503420745 tw8332798501357744969 tw9005813525440843721 tw9081840373907460073 tw3171235288323494889 tw11029550832795438090 tw8543140512129047594 tw1262999342302182474 tw16679376906983862410 tw13505129896038518954 tw3732103783265779914 tw13276883239409017034 tw3008128399093413098 tw5585612987067904330 tw1576680703259604330 tw17321759613548808746 tw10687352283132875338 tw13702003495128447690 tw7326505151401724650 tw11917579628144426762 tw2256421462175229738 tw18364422986413373258 tw3491981239427739498 tw5230199072873171818 tw4420141272731686794 tw1382751493587049707 tw6686491530701276459 tw13321682513316357419 tw16139169931870828939 tw12413422456829273579 tw1187830601065783915 tw4572493612371929771 tw1082194043866922763 tw11585461022877340523 tw17152193302592192395 tw16735566512641224748 tw10644772231338252492 tw1252725771353056524 tw15314798097706434892 tw11939227852658662732 tw2783800490555158892 tw6449706317495763340 tw12191313015630021100 tw861088052148512236 tw7322484703618403884 tw11617202483426874924 tw9551273255518397996 tw397651455400127052 tw12380817630049249132 tw4602081575553686476 tw9931028360169537741 tw7735057148032870637 tw10672378547851893005 tw1704540626114090253 tw12766977818387779917 tw17295069419944234317 tw9830356980173121901 tw3418772018821052781 tw6044543369305352621 tw2237415356151000525 tw4956288413506232813 tw7798228047599371789 tw12945309208131537453 tw18342580862402234957 tw1439041140424244877 tw129847198429914861 tw5264041049075505037 tw3694701149492203469 tw11961859857133176846 tw9776970131709136942 tw584946449204410414 tw15401313468180121678 tw5246840422910616750 tw50863877806420206 tw13627985351342832878 tw4976710378083829134 tw7490089882068928942 tw9034746080722481646 tw14995838915604958798 tw5512894228271935086 tw17200269190665643630 tw17746746424344912654 tw15144151375865215758 tw15629284309955292046 tw13770900234996151182 tw11401482515373701070 tw7970929405865985006 tw2572436522239856655 tw3339320014748865647 tw9903233291508269231 tw3994403398688213199 tw9731530565295905135 tw3837742204247481871 tw12498437527288005135 tw7803682859252007439 tw279907356078435887 tw6654718980988221039 tw13306148861986036495 tw14200783918590225167 tw6385841724602191727 tw7300805099913830255 tw7452880618540503983 tw9148087111872192463 tw14288975686381212688 tw17236933581594651664 tw7077351654550401136 tw10253439169248873584 tw8121406360244799664 tw2675075251007970512 tw15935621616396646640 tw3448340886564992304 tw15598027461421403696 tw17837597615280601648 tw8844646867533545040 tw4843893917692076688 tw14133996241183529712 tw11600780132508539664 tw12392736274482342736 tw8399631863466108784 tw5850293654329146320 tw1166342250094736368 tw137071119503912977 tw789923611644235825 tw4416903321268480049 tw2295921348655204433 tw13202602421118054513 tw8005013269514937521 tw3319100080329964817 tw13996963888022830353 tw12382262417526888785 tw13385635960412623217 tw9000207209364546929 tw10666396014141000177 tw6897795426164845105 tw912067436158366449 tw9892014951029150481 tw15719322254867517265 tw110736767141415889 tw4694573829655978034 tw730149252138598610 tw2926394628600553682 tw11828582217278416146 tw13364101738452848018 tw9020727683274067570 tw14675335243247195858 tw6417723138115344146 tw3974373931401662226 tw7515313485728576306 tw8449911236705541938 tw14267124561973622610 tw13258284461263397810 tw8038254895310493650 tw5777001490312515827 tw9044329051221012723 tw2993226550675029267 tw2825972552003770675 tw9029636095066350931 tw15913687077980078451 tw361820324381192563 tw8997764742518131411 tw1891401390320389875 tw11187379410926344947 tw11338586594655171315 tw15035129958055923475 tw7668345564386472755 tw12326438018046138163 tw16728287664003850067 tw2866481582571192243 tw3274915799671457715 tw9867298510244069331 tw2943896035285016563 tw2407321716789539860 tw13542030332451504276 tw16484312924250682644 tw4684204260949273908 tw6440403702414814580 tw14689728941281310068 tw3109117107825856916 tw8330959880430988724 tw12923535429286655412 tw17134015549437004244 tw11189555477886906900 tw6299803196048675412 tw4808931669918308052 tw12557403474523202452 tw16119624541653937076 tw4683119774862660629 tw6193643240271383637 tw12639303840342573173 tw7903588754732881077 tw6360178462963632341 tw4681158229370148053 tw13605628072234071317 tw176306215198848373 tw778018748101630357 tw4807440954053966293 tw5386075761534289461 tw16422938767663711989 tw17864530066903899957 tw17446956824358358901 tw3047459281832883446 tw9691528987465309430 tw7218249147084020086 tw2829304759966947734 tw10930636263807757814 tw5614143383337591446 tw7225932149083820694 tw14942115379191611094 tw5846665558609152758 tw11458472142945387254 tw14092978169372508950 tw14898325462254053334 tw5792372663713409047 tw5248167318450955351 tw13784411493134396535 tw3673480793172454519 tw13417984787692078231 tw6349402651483137239 tw2071563377960427831 tw1979517157883651415 tw8686674145874472279 tw1147745810144447895 tw17249835394827916727 tw8695511861014865399 tw12443734768076621335 tw529274498764643927 tw11124614303175877239 tw11989388858957597399 tw1499369889240945495 tw16384097398890560407 tw6885436532283659159 tw2808991738529771447 tw15696795936226952151 tw13404957472391263352 tw7381716267722523832 tw16825969312518666424 tw829124093072559608 tw4859288536014900824 tw18277980132212021880 tw10633371285626305208 tw17932568308344217272 tw15250010655148374744 tw11424825538504231672 tw5653068051296906104 tw18253430348271166392 tw6426222936472728568 tw199471552088809464 tw3394096196572909593 tw3940328345521803353 tw10737731967169996953 tw14919166909240151289 tw1520349890055658841 tw295341377112807833 tw13650729086156839385 tw12209421525360550361 tw3730439728759631353 tw14393502989097314809 tw14675578088647498265 tw5338241297330629145 tw14462632401673991769 tw16145105753017583225 tw2796164673271795321 tw8811617489919857337 tw15624075873246175961 tw7789348740067156761 tw3472889716393547609 tw1724034352810422137 tw17561569666307371929 tw16204452584367982553 tw4965317084124009498 tw18264068455155888282 tw13476756007772244218 tw15927613593458660602 tw6264398421082518842 tw6414791005895850330 tw9664724416620526938 tw1599951694305469818 tw9923108479998512634 tw17089296171731385850 tw4129505563730535994 tw313961254490078778 tw17712733901139839578 tw1113503026278793850 tw13586180010685979354 tw5501245227763319578 tw9854571131700927386 tw15413472510479949722 tw3974180111280156602 tw7835112837508210682 tw6209877139641692251 tw13077313105296989371 tw9868162154030368059 tw12637361233291777595 tw1636297356303574619 tw3156069664750585627 tw3393840934781595451 tw9749653482649545531 tw8965912590197881691 tw11886932599149048699 tw9913594698166223771 tw10842457052218477531 tw4807006718161231932 tw2304278076791479420 tw5336942379241293948 tw6084525145126683804 tw1157657313706827964 tw5733347670467336412 tw687408184905020828 tw11015140637980295932 tw10576422508482985756 tw3464541354131042204 tw18066815311643155517 tw9084032602384038237 tw13816741222785789309 tw14826764130650129981 tw1431300574831674973 tw2381220397379453661 tw3268674476644804317 tw7735836117455598301 tw3953680009552270077 tw12787960279505223421 tw3136935929506682653 tw10177398138443312093 tw8919898756334395389 tw9631249851127465022 tw1483936577087841342 tw1338323221940127902 tw7401121547655367934 tw8680567263822299422 tw12297637681189376318 tw8276193941704513950 tw13648873284897247678 tw10767186068414014014 tw18180351934007671358 tw15759425796966852254 tw12966004463214827198 tw15390726134346924798 tw3445158725163153150 tw6127394954078298910 tw5021089327030861630 tw12914558158694567742 tw1009494704138913726 tw10886932444458219583 tw9855518824136600639 tw8644417704733808735 tw938875581188547679 tw11080257295983635551 tw14963415175634346143 tw16696810032867086527 tw3906129000274356415 tw11051683587051907295 tw5967661647795387615 tw16069819205162400991 tw13480780219769382143 tw6983036549691547935 tw11875892327851832607 tw3824961078380988767 tw6058884894875848127 tw11691176473619852735 tw10135826607056530911 tw2520185264485221887 tw11901559196181199423 tw528073383488326399 tw690154802267574015 tw1409142918019413759 tw12882978678913324895 tw11526076210635803519 tw4639708133924632137:True)
open PySem PySem.W PyProof.Rows
set_option maxRecDepth 100000 in
set_option maxHeartbeats 0 in
theorem PySem.Challenge.cw_boxmoves_k42_layout_texts_holds : PySem.Challenge.rw_boxmoves_k42_layout_texts.Holds := by
 w_on;o_law;k_head;(case hw=>w_witness2)
 k_fill
 refine L2.vV (l:=PySem.Challenge.rw_boxmoves_k42_layout_texts) (n:=63) (k:=45) (x:="_law_script") (CX:=fun w=>L2.CXE PySem.Challenge.rw_boxmoves_k42_layout_texts.prog w) (sp:=fun _ P=>Lw.Qb5 P) rfl (by decide) rfl ⟨rfl,by decide,by decide⟩ (fun w h Y=>km_in_of Y) ?nL ?nT rfl ?hT ?F (fun w H a P ns hl hO hS=>⟨a,ns,rfl,hl,hO,hS,fun _=>rfl⟩) (fun w H s e s' z=>Lw.Qdu z)
 case nL=>intro w;kernel_rfl
 case nT=>intro w;kernel_rfl
 case hT=>
  intro w;refine' Lw.Qb9 ?a ?l ?lc ?hv
  (case a=>k_is);(case l=>k_is);(case lc=>k_is);(case hv=>exact rfl)
 case F=>
  intro w mg fa h KX G hmg;refine' Lw.all_mk KX G hmg ?pE ?mH ?mW ?nt ?nY ?mX ?mY ?mI ?mq ?nZ ?n6 ?md ?mr ?pf ?me ?nu ?mJ ?mK ?ph ?nv ?mZ ?mL ?mM ?hV ?hX ?gA ?pj ?ny ?mf ?pk ?pU ?gI ?gJ ?m3 ?mO ?nz ?mP ?mv ?pq ?mQ ?m4 ?gS ?gT ?gK ?pI ?k_0 ?k_1 ?k_2 ?k_3 ?k_4 ?k_5 ?k_6 ?k_7 ?k_8 ?k_9 ?uc ?ud ?ue ?uf ?ug ?mx ?gL ?nK ?gM ?mU ?gg ?my ?mT ?gc ?gD ?gj ?gE ?gk ?ng ?gh ?mh ?nh ?kd ?pF ?pV ?pW ?gP ?mR ?m5 ?m7 ?mw ?mS ?mi ?nA ?pz ?pA ?m8 ?nB ?pB ?pC ?nC ?nE ?m9 ?pQ ?pR ?nF ?pJ ?rC ?pK ?rD ?rE ?rF ?rG ?pX ?rH ?nG ?pG ?rJ ?rK ?rL ?rb ?rM ?rN ?rO ?rP ?rQ ?rR ?rS ?rT ?rV ?rW ?rX ?rY ?rZ ?pY ?pZ ?p8 ?ra ?r6 ?r8 ?rf ?rg ?r9
  (case pE|mH|mW|nt|nY|mX|mY|mI|mq|nZ|n6|md|mr|pf|me|nu|mJ|mK|ph|nv|mZ|mL|mM|hV|hX|gA|pj|ny|mf|pk|pU|gI|gJ|m3|mO|nz|mP|mv|pq|mQ|m4|gS|gT|gK|pI=>(refine' L2.vX ?a ?l ?c ?k;(case a=>k_is);(case l=>k_is);(case c=>k_is);(case k=>k_is)))
  (case k_0|k_1|k_2|k_3|k_4|k_5|k_6|k_7|k_8|k_9|uc|ud|ue|uf|ug|mx|gL|nK|gM|mU|gg|my|mT|gc|gD|gj|gE|gk|ng|gh|pF|pV|pW|rC|pK|rD|rE|rF|rG|pX|rH|nG|pG|rJ|rK|rM|rN|rO|rf|rg|r9=>k_is)
  (case mh=>(refine' L2.QaV ?l ?z ?v;(case l=>k_is);(case z=>show 6<=sizeLine;decide);(case v=>exact(.cons ⟨_,rfl⟩ (.cons ⟨_,rfl⟩ (.cons ⟨_,rfl⟩ (.cons ⟨_,rfl⟩ (.cons ⟨_,rfl⟩ (.cons ⟨_,rfl⟩ .nil)))))))))
  (case nh=>(refine' L2.QaV ?l ?z ?v;(case l=>k_is);(case z=>show 4<=sizeLine;decide);(case v=>exact(.cons ⟨_,rfl⟩ (.cons ⟨_,rfl⟩ (.cons ⟨_,rfl⟩ (.cons ⟨_,rfl⟩ .nil)))))))
  (case kd=>(refine' L2.vp ?ne ?l ?e1 ?e2 ?hx;(case l=>k_is);(case ne=>exact rfl);(case e1=>exact rfl);(case e2=>exact rfl);(case hx=>decide+kernel)))
  (case gP|mR|m5|m7|mw|mS|mi|nA|pz|pA|m8|nB|pB|pC|nC|nE|m9|pQ|pR|nF|pJ|rP|rQ|rR|rS|rT|rV|rW|rX|rY|rZ|pY|pZ|p8|ra|r6=>kit_is)
  (case rL|rb=>k_exc)
  (case r8=>kts_exm)
