import PyProof.Rows.All
import Wide.All
import OpenK.AllK
import Wide.FinOn
import Lean
import PyProof.EqAt
import PyProof.EqKinds
import PyProof.TupleCall
import PySem.Challenge.RW_boxmoves_k19_stored
set_option Elab.async false
set_option linter.all false
set_option maxRecDepth 100000
namespace L2
open PySem PySem.Spec PyProof.Rows
noncomputable abbrev Key:=Sum Int Str
noncomputable def qB:Key→Value→Bool
 | .inl k,v=>Value.isInt k v
 | .inr x,v=>Value.isStrOf x v
noncomputable def yl(w:World):Key→Int
 | .inl k=>hashInt k
 | .inr x=>hashStr w x
theorem Ji:∀{k:Key}{v:Value},qB k v=true→(∃i t,k=Sum.inl i∧v=Value.int i t)∨(∃x t,k=Sum.inr x∧v=Value.str x t)
 | .inl i,v,h=>by
  obtain⟨t,e⟩:=Value.isInt_shape (k:=i) (v:=v) h
  exact .inl ⟨i,t,rfl,e⟩
 | .inr x,v,h=>by
  obtain⟨t,e⟩:=Value.isStrOf_shape (x:=x) (v:=v) h
  exact .inr ⟨x,t,rfl,e⟩
theorem jj(i:Int)(t:Tok):qB (.inl i) (.int i t)=true:=by simp[qB,Value.isInt]
theorem jk(x:Str)(t:Tok):qB (.inr x) (.str x t)=true:=by simp[qB,Value.isStrOf]
theorem ym(a b:Int):decide ((Sum.inl a:Key)=Sum.inl b)=(a==b):=by
 by_cases e:a=b
 ·subst e;simp
 ·have h:¬ (Sum.inl a:Key)=Sum.inl b:=fun q=>e (Sum.inl.inj q)
  rw[decide_eq_false h]
  exact(beq_eq_false_iff_ne.mpr e).symm
theorem yn(a b:Str):decide ((Sum.inr a:Key)=Sum.inr b)=decide (a=b):=by
 by_cases e:a=b
 ·subst e;simp
 ·have h:¬ (Sum.inr a:Key)=Sum.inr b:=fun q=>e (Sum.inr.inj q)
  rw[decide_eq_false h,decide_eq_false e]
theorem yo(a:Int)(b:Str):decide ((Sum.inl a:Key)=Sum.inr b)=false:=decide_eq_false (fun q=>nomatch q)
theorem yp(a:Str)(b:Int):decide ((Sum.inr a:Key)=Sum.inl b)=false:=decide_eq_false (fun q=>nomatch q)
noncomputable def Jc(prog:Program)(w:World):PySem.KeyKind prog w Key where
 is:=qB
 hash:=yl w
 inj:=fun v a b ha hb=>by
  rcases Ji ha with⟨i,t,rfl,rfl⟩|⟨x,t,rfl,rfl⟩
  ·rcases Ji hb with⟨j,u,rfl,e⟩|⟨y,u,rfl,e⟩
   ·injection e with e1 _;rw[e1]
   ·exact nomatch e
  ·rcases Ji hb with⟨j,u,rfl,e⟩|⟨y,u,rfl,e⟩
   ·exact nomatch e
   ·injection e with e1 _;rw[e1]
 byValue:=fun k v h=>by
  rcases Ji h with⟨i,t,rfl,rfl⟩|⟨x,t,rfl,rfl⟩<;>rfl
 pyHash:=fun hv h=>by
  rcases Ji hv with⟨i,t,rfl,rfl⟩|⟨x,t,rfl,rfl⟩
  ·exact wpAny_pyHash_int h
  ·exact wpAny_pyHash_str h
 eqBool:=fun hu hv h=>by
  rcases Ji hu with⟨i,t,rfl,rfl⟩|⟨x,t,rfl,rfl⟩
  ·rcases Ji hv with⟨j,u,rfl,rfl⟩|⟨y,u,rfl,rfl⟩
   ·rw[ym]at h;exact wpAny_eqBool_int h
   ·rw[yo]at h;exact SeqAt.EqAt.int_str i t y u _ _ _ _ h
  ·rcases Ji hv with⟨j,u,rfl,rfl⟩|⟨y,u,rfl,rfl⟩
   ·rw[yp]at h;exact SeqAt.EqAt.str_int x t j u _ _ _ _ h
   ·rw[yn]at h;exact wpAny_eqBool_str h
 «strs»:=fun k x t v h=>by
  rcases Ji h with⟨i,u,rfl,e⟩|⟨y,u,rfl,e⟩
  ·exact nomatch e
  ·injection e with e1 _
   subst e1
   cases v<;>rfl
theorem Y9(prog:Program)(w:World)(i:Int)(t:Tok):(Jc prog w).is (.inl i) (.int i t)=true:=jj i t
theorem JM(prog:Program)(w:World)(x:Str)(t:Tok):(Jc prog w).is (.inr x) (.str x t)=true:=jk x t
end L2
namespace L2
open PySem PySem.Spec PyProof.Rows
inductive V where
 |non|bl (b:Bool)|int (i:Int)|str (x:Str)|byt (b:Array UInt8)|flt (b:UInt64)|ref (a:Addr)|ty (n:String)
 deriving DecidableEq
noncomputable def RelV:V→Value→Prop
 | .non,u=>u=Value.none
 | .bl b,u=>u=Value.bool b
 | .int i,u=>∃t,u=Value.int i t
 | .str x,u=>∃t,u=Value.str x t
 | .byt b,u=>∃t,u=Value.bytes b t
 | .flt b,u=>∃t,u=Value.float b t
 | .ref a,u=>u=Value.ref a
 | .ty n,u=>u=Value.type n
noncomputable abbrev Vals:List V→List Value→Prop:=Paired RelV
theorem Vals.length{xs:List V}{us:List Value}(r:Vals xs us):xs.length=us.length:=Paired.length r
theorem Vals.get:∀{xs:List V}{us:List Value}{i:Nat}{x:V},Vals xs us→xs[i]? =some x→∃u,us[i]? =some u∧RelV x u
 |_,_,_,_,.nil,e=>by simp at e
 |_,_,0,_,.cons r _,e=>by simp at e;subst e;exact⟨_,rfl,r⟩
 |_,_,i+1,x,.cons _ t,e=>by
  obtain⟨u,h1,h2⟩:=Vals.get (i:=i) (x:=x) t (by simpa using e)
  exact⟨u,by simpa using h1,h2⟩
theorem Vals.set{x:V}{u:Value}(r:RelV x u):∀{xs:List V}{us:List Value}(i:Nat),Vals xs us→Vals (xs.set i x) (us.set i u)
 |_,_,_,.nil=>.nil
 |_,_,0,.cons _ t=>.cons r t
 |_,_,i+1,.cons q t=>.cons q (Vals.set r i t)
theorem Vals.append:∀{xs ys:List V}{us ws:List Value},Vals xs us→Vals ys ws→Vals (xs++ys) (us++ws)
 |_,_,_,_,.nil,s=>s
 |_,_,_,_,.cons r t,s=>.cons r (Vals.append t s)
theorem Vals.take:∀{xs:List V}{us:List Value}(n:Nat),Vals xs us→Vals (xs.take n) (us.take n)
 |_,_,0,_=>.nil
 |_,_,_+1,.nil=>.nil
 |_,_,n+1,.cons r t=>.cons r (Vals.take n t)
theorem Vals.drop:∀{xs:List V}{us:List Value}(n:Nat),Vals xs us→Vals (xs.drop n) (us.drop n)
 |_,_,0,r=>r
 |_,_,_+1,.nil=>.nil
 |_,_,n+1,.cons _ t=>Vals.drop n t
noncomputable def UV:Option V→Option Value→Prop
 |some v,some u=>RelV v u
 |none,none=>True
 |_,_=>False
noncomputable def KV{κ:Type}:List (κ × V)→List (κ × Value)→Prop:=Paired fun(p:κ × V)(q:κ × Value)=>p.1=q.1∧RelV p.2 q.2
noncomputable def kV:Key→V
 | .inl i=>.int i
 | .inr x=>.str x
inductive HO where
 |lst (xs:List V)
 |tup (xs:List V)
 |dK (kvs:List (Key × V))|dT (kvs:List (List Key × V))
 |set (S:Int→Bool) (n:Nat)
 |ins (C dx:Addr) (fs:List (Str × V))
 |own (x:Addr)
 |xd (fs:List (Str × V))
 |met (f x:Addr)
 |rng (lo hi:Int)
 |frz (o:Obj) (u:HO)
 |tbl (ps:Array Value)
 |ext (φ:Heap→Prop)
noncomputable abbrev Hp:=Addr→Option HO
noncomputable def upd(H:Hp)(a:Addr)(o:HO):Hp:=fun b=>if b=a then some o else H b
theorem Qe{H:Hp}{a:Addr}{o:HO}:upd H a o a=some o:=by unfold upd;rw[if_pos rfl]
theorem Qt{H:Hp}{a b:Addr}{o:HO}(h:b≠a):upd H a o b=H b:=by unfold upd;rw[if_neg h]
theorem QaQ{H:Hp}{a b:Addr}{o u:HO}(h:H a=some o)(h':H b=some u)(d:o≠u):a≠b:=by
 intro e;subst e;rw[h]at h';exact d (Option.some.inj h')
theorem Qv{H:Hp}{a b:Addr}{o:HO}(h:H a=some o)(h':H b=none):a≠b:=by
 intro e;subst e;rw[h]at h';cases h'
section
variable (P:Program)(w:World)
noncomputable def JC(H:Hp)(h:Heap)(a:Addr):HO→Prop
 | .lst xs=>xs.length≤sizeLine∧∃(its:List Value)(n:Nat),Vals xs its∧h.get? a=some {cls:=.type "list",data:=.seq its.toArray n}
 | .tup xs=>xs.length≤sizeLine∧∃its:List Value,Vals xs its∧IsTup h a its.toArray
 | .dK kvs=>kvs.length≤sizeLine∧(a==sysModules)=false∧∃vs,KV kvs vs∧h.DictOf (Jc P w) a vs
 | .dT kvs=>kvs.length≤sizeLine∧(a==sysModules)=false∧∃xs:List (List Key × Addr × Value),
   Paired (fun(p:List Key × V)(q:List Key × Addr × Value)=>p.1=q.1∧H q.2.1=some (.tup (p.1.map kV))∧RelV p.2 q.2.2) kvs xs∧
   ∃o es ep,h.get? a=some o∧o.ExactDict∧o.data=.dict es ep∧es.toList=xs.map (entryOfKey (tupleKind (Jc P w)))∧(xs.map (·.1)).Nodup
 | .set S n=>h.SetOf (intKind P w) a S n
 | .ins C dx fs=>H dx=some (.own a)∧fs.length≤1000∧dx≠a∧h.get? a=some (PySem.W.instObj C dx)∧
   ∃mA,h.Ns1 dx mA∧(∀f,UV (fs.lookup f) (mA f))∧PySem.Within mA (fs.map (·.1))
 | .own _=>∃o,h.get? a=some o
 | .xd fs=>∃mA,h.Ns1 a mA∧∀f,UV (fs.lookup f) (mA f)
 | .rng lo hi=>∃t u v,h.get? a=some {cls:=.type "range",data:=.fields #[.int lo t,.int hi u,.int 1 v]}
 | .frz o u=>h.get? a=some o∧JC H h a u
 | .tbl ps=>h.get? a=some {cls:=.none,data:=.fields ps}
 | .met f x=>h.get? a=some (PySem.W.methodObj (.ref f) (.ref x))
 | .ext φ=>φ h∧(∃o,h.get? a=some o)∧∀h1 h2:Heap,φ h1→(∀o,h1.get? a=some o→h2.get? a=some o)→φ h2
noncomputable def HOk(H:Hp)(h:Heap):Prop:=∀a o,H a=some o→JC P w H h a o
end
section
variable {P:Program}{w:World}{H H':Hp}{h h':Heap}{a:Addr}{o:HO}
theorem JC.lt(x:JC P w H h a o):a<h.objs.size:=by
 cases o with
 |lst xs=>obtain⟨_,_,_,_,e⟩:=x;exact Heap.lt_size e
 |tup xs=>obtain⟨_,_,_,p⟩:=x;exact p.lt
 |dK kvs=>obtain⟨_,_,_,_,o,_,_,e,_⟩:=x;exact Heap.lt_size e
 |dT kvs=>obtain⟨_,_,_,_,o,_,_,e,_⟩:=x;exact Heap.lt_size e
 |set S n=>obtain⟨o,_,_,_,e,_⟩:=x;exact Heap.lt_size e
 |ins C dx fs=>obtain⟨_,_,_,e,_⟩:=x;exact Heap.lt_size e
 |own y=>obtain⟨_,e⟩:=x;exact Heap.lt_size e
 |xd fs=>obtain⟨_,⟨_,_,_,e,_⟩,_⟩:=x;exact Heap.lt_size e
 |rng lo hi=>obtain⟨_,_,_,e⟩:=x;exact Heap.lt_size e
 |frz ob u=>obtain⟨e,_⟩:=x;exact Heap.lt_size e
 |tbl ps=>exact Heap.lt_size (show h.get? a=some _ from x)
 |met f y=>exact Heap.lt_size (show h.get? a=some _ from x)
 |ext φ=>obtain⟨_,⟨_,e⟩,_⟩:=x;exact Heap.lt_size e
theorem Paired.QaR{α β:Type}{F G:α→β→Prop}:∀{l₁:List α}{l₂:List β},Paired F l₁ l₂→(∀a b,F a b→G a b)→Paired G l₁ l₂
 |_,_,.nil,_=>.nil
 |_,_,.cons r t,f=>.cons (f _ _ r) (Paired.QaR t f)
theorem JC.Kw(x:JC P w H h a o)(k:∀b u,(b=a∨H b=some (.own a))→h.get? b=some u→h'.get? b=some u)
  (ho:∀b,H b=some (.own a)→H' b=some (.own a)) (ht:∀b xs,H b=some (.tup xs)→H' b=some (.tup xs)):JC P w H' h' a o:=by
 induction o with
 |lst xs=>obtain⟨z,its,n,r,e⟩:=x;exact⟨z,its,n,r,k _ _ (.inl rfl) e⟩
 |tup xs=>obtain⟨z,its,r,ob,e,c⟩:=x;exact⟨z,its,r,ob,k _ _ (.inl rfl) e,c⟩
 |dK kvs=>obtain⟨z,y,vs,r,ob,es,ep,e,c⟩:=x;exact⟨z,y,vs,r,ob,es,ep,k _ _ (.inl rfl) e,c⟩
 |dT kvs=>
  obtain⟨z,y,xs,r,ob,es,ep,e,c⟩:=x
  exact⟨z,y,xs,Paired.QaR r fun p q z=>⟨z.1,ht _ _ z.2.1,z.2.2⟩,ob,es,ep,k _ _ (.inl rfl) e,c⟩
 |set S n=>obtain⟨ob,es,ep,t,e,c⟩:=x;exact⟨ob,es,ep,t,k _ _ (.inl rfl) e,c⟩
 |ins C dx fs=>
  obtain⟨d,z,ne,e,mA,⟨od,es,ep,e2,c⟩,r⟩:=x
  exact⟨ho _ d,z,ne,k _ _ (.inl rfl) e,mA,⟨od,es,ep,k _ _ (.inr d) e2,c⟩,r⟩
 |own y=>obtain⟨ob,e⟩:=x;exact⟨ob,k _ _ (.inl rfl) e⟩
 |xd fs=>obtain⟨mA,⟨od,es,ep,e,c⟩,r⟩:=x;exact⟨mA,⟨od,es,ep,k _ _ (.inl rfl) e,c⟩,r⟩
 |rng lo hi=>obtain⟨t,u,v,e⟩:=x;exact⟨t,u,v,k _ _ (.inl rfl) e⟩
 |frz ob u ih=>obtain⟨e,q⟩:=x;exact⟨k _ _ (.inl rfl) e,ih q⟩
 |tbl ps=>
  have e:h.get? a=some {cls:=.none,data:=.fields ps}:=x
  show h'.get? a=some {cls:=.none,data:=.fields ps}
  exact k a _ (.inl rfl) e
 |met f y=>
  have e:h.get? a=some (PySem.W.methodObj (.ref f) (.ref y)):=x
  show h'.get? a=some (PySem.W.methodObj (.ref f) (.ref y))
  exact k a _ (.inl rfl) e
 |ext φ=>obtain⟨p,⟨o,e⟩,st⟩:=x;exact⟨st _ _ p fun o q=>k _ _ (.inl rfl) q,⟨o,k _ _ (.inl rfl) e⟩,st⟩
theorem HOk.lt(x:HOk P w H h)(e:H a=some o):a<h.objs.size:=(x a o e).lt
theorem HOk.fresh(x:HOk P w H h)(e:h.objs.size≤a):H a=none:=by
 cases q:H a with
 |none=>rfl
 |some u=>exact absurd (Nat.lt_of_lt_of_le (x.lt q) e) (Nat.lt_irrefl _)
theorem HOk.kept(x:HOk P w H h)(k:∀b u,h.get? b=some u→h'.get? b=some u):HOk P w H h':=fun a o e=>
 (x a o e).Kw (fun b u _ q=>k b u q) (fun _ q=>q) fun _ _ q=>q
theorem HOk.laid(x:HOk P w H h)(k:∀b u,h.get? b=some u→h'.get? b=some u) (hp:h.objs.size≤a) (new:JC P w (upd H a o) h' a o):HOk P w (upd H a o) h':=fun b u e=>by
 have hn:=x.fresh hp
 by_cases hb:b=a
 ·subst hb;rw[Qe]at e;cases e;exact new
 ·rw[Qt hb]at e
  exact(x b u e).Kw (fun c v _ q=>k c v q) (fun c q=>by rw[Qt (Qv q hn)];exact q) fun c xs q=>by rw[Qt (Qv q hn)];exact q
end
noncomputable def Rd(H:Hp)(a:Addr)(u:HO):Prop:=H a=some u∨∃o,H a=some (.frz o u)
theorem Rd.ok{P:Program}{w:World}{H:Hp}{h:Heap}{a:Addr}{u:HO}(r:Rd H a u)(x:HOk P w H h):JC P w H h a u:=by
 rcases r with r|⟨o,r⟩
 ·exact x a u r
 ·obtain⟨_,q⟩:=x a _ r
  exact q
noncomputable def Mut:Option HO→Prop
 |some (.lst _)=>True
 |some (.dK _)=>True
 |some (.dT _)=>True
 |some (.set _ _)=>True
 |some (.ins _ _ _)=>True
 |some (.ext _)=>True
 |_=>False
section
variable {P:Program}{w:World}{H:Hp}{h h':Heap}{x e:Addr}{o':HO}
theorem HOk.write(ok:HOk P w H h)(mu:Mut (H x))(he:e=x∨H e=some (.own x))(k:∀b u,b≠e→h.get? b=some u→h'.get? b=some u) (heo:∃u,h'.get? e=some u)
  (new:JC P w (upd H x o') h' x o'):HOk P w (upd H x o') h':=fun b u q=>by
 have nown:∀c y,H c=some (.own y)→c≠x:=fun c y r z=>by subst z;rw[r]at mu;exact mu
 have ntup:∀c xs,H c=some (.tup xs)→c≠x:=fun c xs r z=>by subst z;rw[r]at mu;exact mu
 by_cases hb:b=x
 ·subst hb;rw[Qe]at q;cases q;exact new
 ·rw[Qt hb]at q
  by_cases hbe:b=e
  ·have q':H b=some (.own x):=by
    rcases he with z|z
    ·exact absurd (hbe.trans z) hb
    ·rw[hbe];exact z
   rw[q]at q';cases q'
   obtain⟨v,hv⟩:=heo
   exact⟨v,by rw[hbe];exact hv⟩
  ·refine(ok b u q).Kw (fun c v hc r=>k c v ?_ r) (fun c r=>by rw[Qt (nown c b r)];exact r) fun c xs r=>by rw[Qt (ntup c xs r)];exact r
   rcases hc with rfl|hc
   ·exact hbe
   ·rintro rfl
    rcases he with z|z
    ·exact nown c b hc z
    ·rw[hc]at z;cases z;exact hb rfl
end
structure Un(fs ex:List Addr)(H H':Hp)(h h':Heap):Prop where
 keep:∀b o,h.get? b=some o→H b=none→b∉fs→b∉ex→h'.get? b=some o
 slot:∀b o,h.get? b=some o→H b=none→b∈fs→b∉ex→∃sl,h'.get? b=some {o with slots:=sl}
 free:∀b o,h.get? b=some o→H b=none→b∉ex→H' b=none
 there:∀b o,h.get? b=some o→b∉ex→∃o',h'.get? b=some o'
 tups:∀b xs,H b=some (.tup xs)→H' b=some (.tup xs)
 frzs:∀b o u,H b=some (.frz o u)→H' b=some (.frz o u)
 tbls:∀b ps,H b=some (.tbl ps)→∃more,H' b=some (.tbl (ps++more))
section
variable {fs fs' ex ex':List Addr}{H H1 H2:Hp}{h h1 h2 h':Heap}{a x e:Addr}{o:HO}
theorem Un.any(u:Un fs ex H H1 h h1){b:Addr}{ob:Obj}(q:h.get? b=some ob)(n:H b=none)(hx:b∉ex):∃sl,h1.get? b=some {ob with slots:=sl}:=by
 by_cases hb:b∈fs
 ·exact u.slot b ob q n hb hx
 ·exact⟨ob.slots,u.keep b ob q n hb hx⟩
theorem Un.kept(k:∀b u,h.get? b=some u→h'.get? b=some u):Un fs ex H H h h':=
 ⟨fun b ob q _ _ _=>k b ob q,fun b ob q _ _ _=>⟨ob.slots,k b ob q⟩,fun _ _ _ n _=>n,fun b ob q _=>⟨ob,k b ob q⟩,fun _ _ q=>q,fun _ _ _ q=>q,fun _ ps q=>⟨#[],by rw[q];simp⟩⟩
theorem Un.refl:Un fs ex H H h h:=Un.kept fun _ _ q=>q
theorem Un.laid(k:∀b u,h.get? b=some u→h'.get? b=some u) (hp:h.objs.size≤a) (hn:H a=none):Un fs ex H (upd H a o) h h' where
 keep:=fun b u q _ _ _=>k b u q
 slot:=fun b u q _ _ _=>⟨u.slots,k b u q⟩
 free:=fun b u q n _=>by rw[Qt (Nat.ne_of_lt (Nat.lt_of_lt_of_le (Heap.lt_size q) hp))];exact n
 there:=fun b u q _=>⟨u,k b u q⟩
 tups:=fun b xs q=>by rw[Qt (Qv q hn)];exact q
 frzs:=fun b u xs q=>by rw[Qt (Qv q hn)];exact q
 tbls:=fun b ps q=>⟨#[],by rw[Qt (Qv q hn),q];simp⟩
theorem Un.write(mu:Mut (H x))(he:e=x∨H e=some (.own x))(k:∀b u,b≠e→h.get? b=some u→h'.get? b=some u) (heo:∃u,h'.get? e=some u):Un fs ex H (upd H x o) h h':=by
 have hx:∀b,H b=none→b≠x:=fun b n z=>by subst z;rw[n]at mu;exact mu
 have hb:∀b,H b=none→b≠e:=fun b n z=>by
  subst z
  rcases he with r|r
  ·exact hx b n r
  ·rw[n]at r;cases r
 have hm:∀b u,H b=some u→¬ Mut (some u)→b≠x:=fun b u q nm z=>by subst z;rw[q]at mu;exact nm mu
 refine⟨fun b u q n _ _=>k b u (hb b n) q,fun b u q n _ _=>⟨u.slots,k b u (hb b n) q⟩,fun b u q n _=>by rw[Qt (hx b n)];exact n,fun b u q _=>?_,
  fun b xs q=>by rw[Qt (hm b _ q fun z=>z)];exact q,fun b u xs q=>by rw[Qt (hm b _ q fun z=>z)];exact q,fun b ps q=>⟨#[],by rw[Qt (hm b _ q fun z=>z),q];simp⟩⟩
 by_cases hbe:b=e
 ·subst hbe;exact heo
 ·exact⟨u,k b u hbe q⟩
end
noncomputable def trk(h:Heap)(H:Hp):List Addr:=(List.range h.objs.size).filter fun a=>(H a).isSome
noncomputable def Y7(h:Heap)(H:Hp):Heap:=PySem.W.hideAll h (trk h H)
theorem jl(h:Heap)(H:Hp):(Y7 h H).objs.size=h.objs.size:=PySem.W.hideAll_size _ _
theorem xf{h:Heap}{H:Hp}{b:Addr}{o:Obj}(e:h.get? b=some o)(n:H b=none):(Y7 h H).get? b=some o:=
 PySem.W.hideAll_get _ e fun hm=>by
  have q:(H b).isSome=true:=(List.mem_filter.mp hm).2
  rw[n]at q;simp at q
theorem wF{h:Heap}{H:Hp}{b:Addr}{o:Obj}(e:(Y7 h H).get? b=some o):h.get? b=some o∧H b=none:=by
 have e':h.get? b=some o:=PySem.W.of_hideAll (trk h H) e
 refine⟨e',?_⟩
 cases q:H b with
 |none=>rfl
 |some x=>
  have hm:b∈trk h H:=List.mem_filter.mpr ⟨List.mem_range.mpr (Heap.lt_size e'),by simp[q]⟩
  have z:(Y7 h H).get? b=none:=PySem.W.hideAll_none (trk h H) hm
  rw[z]at e;cases e
end L2
namespace L2
open PySem PySem.Spec PyProof.Rows
structure Mod(K:PySem.W.Frag)(mg:Str→Option Value)(base:Heap):Prop where
 kin:K.In base
 glob:base.Ns mainGlobals mg
 blt:∃mb,base.Ns builtinsNs mb∧∀x:Str,x≠"__name__"→mb x=bootBuiltins x
 nolimit:base.NoLimit
structure Cx where
 prog:Program
 w:World
 K:PySem.W.Frag
 mg:Str→Option Value
 base:Heap
 A:Around
 N:List Str
 s₀:Shared
 H₀:Hp
 env:Env
 outer:List Env
 stack:List Env
 ex:List Addr
 fn:Str→Bool
 calm:Bool
 pn:List (Addr × Obj)
 xe:Value→Shared→Prop
noncomputable def frs(l:List Env):List Addr:=l.filterMap (·.frame)
noncomputable abbrev Cx.fs(X:Cx):List Addr:=frs X.outer
noncomputable def Vis(sc:Scope)(x:Str):Prop:=sc.names.lookup x=some .local∨sc.names.lookup x=some .cell∨sc.names.lookup x=some .free
noncomputable def Loc(sc:Scope)(x:Str):Prop:=sc.names.lookup x=some .local∨sc.names.lookup x=some .cell
noncomputable def Look(env:Env)(h:Heap)(m:Str→Option Value)(x:Str)(u:Value):Prop:=
 (env.kindOf x=some .local∧m x=some u)∨((env.kindOf x=some .cell∨env.kindOf x=some .free)∧∃c,env.cells.lookup x=some c∧h.IsCell c (some u))
structure Cx.Ok(X:Cx):Prop where
 mod:Mod X.K X.mg X.base
 kind:X.env.scope.kind=.function
 glob:X.env.globals=mainGlobals
 blt:X.env.builtins=builtinsNs
 above:X.s₀.heap.objs.size≤X.env.locals
 inj:∀x y c,X.env.cells.lookup x=some c→X.env.cells.lookup y=some c→x=y
 has:∀x,(X.env.kindOf x=some .cell∨X.env.kindOf x=some .free)→∃c,X.env.cells.lookup x=some c
 cab:∀x c,X.fn x=true→X.env.cells.lookup x=some c→X.s₀.heap.objs.size≤c
 hd:X.calm=true→X.A.handled=none
 frames:X.A.frames=some X.stack
 stk:X.stack=X.outer∨(X.stack=X.env::X.outer∧X.env.frame=some X.env.locals)
 exf:∀b∈X.ex,b≠X.env.locals∧∀x c,X.env.cells.lookup x=some c→c≠b
 bs:∀b o,X.base.get? b=some o→X.s₀.heap.get? b=some o∧X.H₀ b=none
 bsz:X.base.objs.size≤X.s₀.heap.objs.size
 noex:∀b o,X.base.get? b=some o→b∉X.ex
 exfs:∀b∈X.ex,b∉X.fs
 Y8:X.s₀.heap.FunFrames X.base X.outer
 frf:∀b∈X.fs,X.H₀ b=none
structure Inv(X:Cx)(pins:List (Addr × Obj))(σ:List (Option V))(H:Hp)(s:Shared):Prop where
 ok:X.Ok
 os:s.os=X.s₀.os
 bare:AllBare s.gens
 base:Un X.fs X.ex X.H₀ H X.s₀.heap s.heap
 loc:∃m,s.heap.Ns X.env.locals m∧∀(i:Nat)(x:Str)(v:V),X.N[i]? =some x→σ[i]? =some (some v)→Vis X.env.scope x→∃u,RelV v u∧Look X.env s.heap m x u
 cell:∀x c,X.env.cells.lookup x=some c→∃v,s.heap.IsCell c v
 free:H X.env.locals=none
 freeC:∀x c,X.env.cells.lookup x=some c→H c=none
 pin:∀p∈X.pn++pins,s.heap.get? p.1=some p.2∧H p.1=none∧p.1≠X.env.locals∧p.1∉X.fs∧∀v,p.2.data≠ .cell v
 hok:HOk X.prog X.w H s.heap
 len:σ.length=X.N.length
section
variable {X:Cx}{pins:List (Addr × Obj)}{σ:List (Option V)}{H H':Hp}{s:Shared}{h':Heap}
theorem Cx.Ok.QbX(ok:X.Ok){b:Addr}{o:Obj}(e:X.base.get? b=some o):b∉X.fs:=fun hb=>by
 have:=(ok.Y8.mem hb).1
 rw[e]at this;cases this
theorem Inv.bs(I:Inv X pins σ H s):∀b o,X.base.get? b=some o→s.heap.get? b=some o∧H b=none:=fun b o e=>
 ⟨I.base.keep b o (I.ok.bs b o e).1 (I.ok.bs b o e).2 (I.ok.QbX e) (I.ok.noex b o e),I.base.free b o (I.ok.bs b o e).1 (I.ok.bs b o e).2 (I.ok.noex b o e)⟩
theorem Inv.bk(I:Inv X pins σ H s):∀b o,X.base.get? b=some o→s.heap.get? b=some o:=fun b o e=>(I.bs b o e).1
theorem Inv.mod(I:Inv X pins σ H s):Mod X.K X.mg X.base:=I.ok.mod
theorem Inv.kIn(I:Inv X pins σ H s):X.K.In s.heap:=I.ok.mod.kin.keeps I.bk
theorem Inv.nolimit(I:Inv X pins σ H s):s.heap.NoLimit:=I.ok.mod.nolimit.keeps I.bk
theorem Inv.lt(I:Inv X pins σ H s):X.env.locals<s.heap.objs.size:=let ⟨_,hn,_⟩:=I.loc;hn.lt
theorem Inv.sz(I:Inv X pins σ H s):X.s₀.heap.objs.size≤s.heap.objs.size:=Nat.le_trans I.ok.above (Nat.le_of_lt I.lt)
theorem Inv.QbY(I:Inv X pins σ H s){a:Addr}(h:s.heap.objs.size≤a):a∉X.fs:=fun hb=>by
 obtain⟨_,o,ho,_⟩:=I.ok.Y8.mem hb
 exact absurd (Nat.lt_of_lt_of_le (Heap.lt_size ho) (Nat.le_trans I.sz h)) (Nat.lt_irrefl _)
theorem Inv.cne(I:Inv X pins σ H s):∀x c,X.env.cells.lookup x=some c→c≠X.env.locals:=fun x c e z=>by
 obtain⟨v,o,ho,hd⟩:=I.cell x c e
 obtain⟨m,⟨o',es,ep,ho',hd',_⟩,_⟩:=I.loc
 rw[z,ho']at ho;cases ho;rw[hd']at hd;cases hd
theorem Inv.Y8(I:Inv X pins σ H s):s.heap.FunFrames X.base X.outer:=by
 have all:∀(l:List Env),(∀b∈frs l,b∈X.fs)→X.s₀.heap.FunFrames X.base l→s.heap.FunFrames X.base l:=by
  intro l
  induction l with
  |nil=>intro _ _;trivial
  |cons env r ih=>
   intro hs hl
   obtain⟨hk,⟨L,o,hf,hn,ho,hd⟩,hr⟩:=hl
   have hL:L∈X.fs:=hs L (by unfold frs;rw[List.filterMap_cons,hf];exact List.mem_cons_self)
   obtain⟨sl,e⟩:=I.base.slot L o ho (I.ok.frf L hL) hL fun z=>I.ok.exfs L z hL
   exact⟨hk,⟨L,_,hf,hn,e,hd⟩,ih (fun b hb=>hs b (by unfold frs;rw[List.filterMap_cons,hf];exact List.mem_cons_of_mem _ hb)) hr⟩
 exact all X.outer (fun _ hb=>hb) I.ok.Y8
theorem Inv.stack(I:Inv X pins σ H s):s.heap.FunFrames X.base X.stack:=by
 rcases I.ok.stk with e|⟨e,hf⟩
 ·rw[e];exact I.Y8
 ·rw[e]
  obtain⟨m,hn,_⟩:=I.loc
  refine .cons (by rw[I.ok.kind];decide) hf hn ?_ I.Y8
  exact Heap.get?_none_of_le (Nat.le_trans I.ok.bsz I.ok.above)
theorem Inv.XQ(I:Inv X pins σ H s):∀b∈frs X.stack,b∈X.env.locals::X.fs:=fun b hb=>by
 rcases I.ok.stk with e|⟨e,hf⟩
 ·rw[e]at hb;exact List.mem_cons_of_mem _ hb
 ·rw[e]at hb
  unfold frs at hb
  rw[List.filterMap_cons,hf]at hb
  exact hb
theorem Inv.Xy(I:Inv X pins σ H s):∀b∈frs X.stack,H b=none:=fun b hb=>by
 rcases List.mem_cons.mp (I.XQ b hb)with e|hb
 ·rw[e];exact I.free
 ·obtain⟨_,o,ho,_⟩:=I.ok.Y8.mem hb
  exact I.base.free b o ho (I.ok.frf b hb) fun z=>I.ok.exfs b z hb
theorem Inv.step{g':Array GenState}{t':Nat}{d':Drawn}{ch:List Addr}(I:Inv X pins σ H s)
  (hch:∀b∈ch,(b∈X.ex∨X.s₀.heap.objs.size≤b)∧b≠X.env.locals∧(∀x c,X.env.cells.lookup x=some c→c≠b)∧∀p∈X.pn++pins,p.1≠b)
  (keep:∀b o,b≠X.env.locals→b∉X.fs→b∉ch→s.heap.get? b=some o→H b=none→h'.get? b=some o)
  (slot:∀b o,b≠X.env.locals→b∈X.fs→b∉ch→s.heap.get? b=some o→H b=none→∃sl,h'.get? b=some {o with slots:=sl}) (free:∀b o,b∉ch→s.heap.get? b=some o→H b=none→H' b=none)
  (there:∀b o,b∉ch→s.heap.get? b=some o→∃o',h'.get? b=some o')
  (tups:∀b xs,H b=some (.tup xs)→H' b=some (.tup xs)) (frzs:∀b o u,H b=some (.frz o u)→H' b=some (.frz o u)) (tbls:∀b ps,H b=some (.tbl ps)→∃more,H' b=some (.tbl (ps++more)))
  (ns:∀m,s.heap.Ns X.env.locals m→h'.Ns X.env.locals m) (hok:HOk X.prog X.w H' h') (hg:AllBare g'):
  Inv X pins σ H' {s with heap:=h',gens:=g',drawn:=d',toks:=t'}:=by
 have neL:∀b o,X.s₀.heap.get? b=some o→b≠X.env.locals:=fun b o e=>Nat.ne_of_lt (Nat.lt_of_lt_of_le (Heap.lt_size e) I.ok.above)
 have neC:∀b o,X.s₀.heap.get? b=some o→b∉X.ex→b∉ch:=fun b o e hx hb=>by
  rcases(hch b hb).1 with z|z
  ·exact hx z
  ·exact absurd (Nat.lt_of_lt_of_le (Heap.lt_size e) z) (Nat.lt_irrefl _)
 have cellK:∀x c,X.env.cells.lookup x=some c→∀v,s.heap.IsCell c v→h'.IsCell c v:=fun x c e v⟨o,ho,hd⟩=>by
  have nch:c∉ch:=fun z=>(hch c z).2.2.1 x c e rfl
  by_cases hc:c∈X.fs
  ·obtain⟨sl,q⟩:=slot c o (I.cne x c e) hc nch ho (I.freeC x c e)
   exact⟨_,q,hd⟩
  ·exact⟨o,keep c o (I.cne x c e) hc nch ho (I.freeC x c e),hd⟩
 refine⟨I.ok,I.os,hg,⟨fun b o e n hb hx=>?_,fun b o e n hb hx=>?_,fun b o e n hx=>?_,fun b o e hx=>?_,fun b xs e=>tups b xs (I.base.tups b xs e),fun b o xs e=>frzs b o xs (I.base.frzs b o xs e),fun b ps e=>?_⟩,?_,fun x c e=>?_,?_,fun x c e=>?_,fun p hp=>?_,hok,I.len⟩
 ·exact keep b o (neL b o e) hb (neC b o e hx) (I.base.keep b o e n hb hx) (I.base.free b o e n hx)
 ·obtain⟨sl,e1⟩:=I.base.slot b o e n hb hx
  obtain⟨sl',e2⟩:=slot b _ (neL b o e) hb (neC b o e hx) e1 (I.base.free b o e n hx)
  exact⟨sl',e2⟩
 ·obtain⟨o',e1⟩:=I.base.there b o e hx
  exact free b o' (neC b o e hx) e1 (I.base.free b o e n hx)
 ·obtain⟨o',e1⟩:=I.base.there b o e hx
  exact there b o' (neC b o e hx) e1
 ·obtain⟨m1,e1⟩:=I.base.tbls b ps e
  obtain⟨m2,e2⟩:=tbls b _ e1
  exact⟨m1++m2,by rw[e2,Array.append_assoc]⟩
 ·obtain⟨m,hn,hl⟩:=I.loc
  refine⟨m,ns m hn,fun i x v e1 e2 e3=>?_⟩
  obtain⟨u,r,l⟩:=hl i x v e1 e2 e3
  refine⟨u,r,?_⟩
  rcases l with l|⟨k,c,e,z⟩
  ·exact .inl l
  ·exact .inr ⟨k,c,e,cellK x c e _ z⟩
 ·obtain⟨v,z⟩:=I.cell x c e
  exact⟨v,cellK x c e v z⟩
 ·obtain⟨m,⟨o,_,_,ho,_⟩,_⟩:=I.loc
  exact free _ o (fun z=>(hch _ z).2.1 rfl) ho I.free
 ·obtain⟨v,o,ho,hd⟩:=I.cell x c e
  exact free c o (fun z=>(hch c z).2.2.1 x c e rfl) ho (I.freeC x c e)
 ·obtain⟨e,n,ne,nf,d⟩:=I.pin p hp
  have nch:p.1∉ch:=fun z=>(hch p.1 z).2.2.2 p hp rfl
  exact⟨keep p.1 p.2 ne nf nch e n,free p.1 p.2 nch e n,ne,nf,d⟩
theorem Inv.un{t':Nat}(I:Inv X pins σ H s)(u:Un X.fs [] H H' s.heap h')(hok:HOk X.prog X.w H' h'):Inv X pins σ H' {s with heap:=h',toks:=t'}:=by
 obtain⟨m,⟨o,es,ep,ho,r⟩,_⟩:=id I.loc
 obtain⟨sl,hL⟩:=u.any ho I.free (by simp)
 exact I.step (g':=s.gens) (d':=s.drawn) (ch:=[]) (fun _ z=>nomatch z) (fun b o _ hb _ e n=>u.keep b o e n hb (by simp)) (fun b o _ hb _ e n=>u.slot b o e n hb (by simp)) (fun b o _ e n=>u.free b o e n (by simp)) (fun b o _ e=>u.there b o e (by simp)) u.tups u.frzs u.tbls (fun m' hm=>by
  obtain⟨o',es',ep',ho',r'⟩:=hm
  rw[ho]at ho';cases ho'
  exact⟨_,es',ep',hL,r'⟩) hok I.bare
theorem Inv.call{g':Array GenState}{t':Nat}{d':Drawn}{ch:List Addr}(I:Inv X pins σ H s)(u:Un (frs X.stack) ch H H' s.heap h')(hok:HOk X.prog X.w H' h')(hg:AllBare g')
  (hch:∀b∈ch,(b∈X.ex∨X.s₀.heap.objs.size≤b)∧b≠X.env.locals∧(∀x c,X.env.cells.lookup x=some c→c≠b)∧∀p∈X.pn++pins,p.1≠b):
  Inv X pins σ H' {s with heap:=h',gens:=g',drawn:=d',toks:=t'}:=by
 obtain⟨m,⟨o,es,ep,ho,r⟩,_⟩:=id I.loc
 obtain⟨sl,hL⟩:=u.any ho I.free fun z=>(hch _ z).2.1 rfl
 exact I.step (ch:=ch) hch (fun b o hL hb hc e n=>u.keep b o e n (fun z=>(List.mem_cons.mp (I.XQ b z)).elim hL hb) hc) (fun b o _ _ hc e n=>u.any e n hc) (fun b o hc e n=>u.free b o e n hc) (fun b o hc e=>u.there b o e hc) u.tups u.frzs u.tbls (fun m' hm=>by
  obtain⟨o',es',ep',ho',r'⟩:=hm
  rw[ho]at ho';cases ho'
  exact⟨_,es',ep',hL,r'⟩) hok hg
theorem Inv.turned{t':Nat}{it:Addr}(I:Inv X pins σ H s)(k:∀b o,b≠it→s.heap.get? b=some o→h'.get? b=some o) (hn:H it=none) (hL:it≠X.env.locals)
  (h1:it∈X.ex∨X.s₀.heap.objs.size≤it) (h2:∀x c,X.env.cells.lookup x=some c→c≠it) (h3:∀p∈X.pn++pins,p.1≠it):Inv X pins σ H {s with heap:=h',toks:=t'}:=by
 have nit:∀b u,H b=some u→b≠it:=fun b u e z=>by rw[z,hn]at e;cases e
 refine I.step (g':=s.gens) (d':=s.drawn) (ch:=[it]) (fun b hb=>?_) (fun b o _ _ hc e _=>k b o (fun z=>hc (by simp[z])) e) (fun b o _ _ hc e _=>⟨o.slots,k b o (fun z=>hc (by simp[z])) e⟩) (fun _ _ _ _ n=>n)
  (fun b o hc e=>⟨o,k b o (fun z=>hc (by simp[z])) e⟩) (fun _ _ e=>e) (fun _ _ _ e=>e) (fun b ps e=>⟨#[],by rw[e];simp⟩) (fun m hm=>?_) (fun b u e=>?_) I.bare
 ·have e:b=it:=by simpa using hb
  subst e
  exact⟨h1,hL,h2,h3⟩
 ·obtain⟨o,es,ep,ho,r⟩:=hm
  exact⟨o,es,ep,k _ o (Ne.symm hL) ho,r⟩
 ·refine(I.hok b u e).Kw (fun c v hc q=>k c v ?_ q) (fun _ q=>q) fun _ _ q=>q
  rcases hc with z|z
  ·rw[z];exact nit b u e
  ·exact nit c _ z
theorem Inv.tok(I:Inv X pins σ H s)(t:Nat):Inv X pins σ H {s with toks:=t}:=I.un (h':=s.heap) (t':=t) Un.refl I.hok
theorem Inv.kept{t':Nat}(I:Inv X pins σ H s)(k:∀b u,s.heap.get? b=some u→h'.get? b=some u):Inv X pins σ H {s with heap:=h',toks:=t'}:=I.un (Un.kept k) (I.hok.kept k)
theorem Inv.laid{a:Addr}{o:HO}{t':Nat}(I:Inv X pins σ H s)(k:∀b u,s.heap.get? b=some u→h'.get? b=some u) (hp:s.heap.objs.size≤a) (new:JC X.prog X.w (upd H a o) h' a o):
  Inv X pins σ (upd H a o) {s with heap:=h',toks:=t'}:=I.un (Un.laid k hp (I.hok.fresh hp)) (I.hok.laid k hp new)
theorem Inv.write{x e:Addr}{o:HO}{t':Nat}(I:Inv X pins σ H s)(mu:Mut (H x))(he:e=x∨H e=some (.own x))(k:∀b u,b≠e→s.heap.get? b=some u→h'.get? b=some u) (heo:∃u,h'.get? e=some u)
  (new:JC X.prog X.w (upd H x o) h' x o):Inv X pins σ (upd H x o) {s with heap:=h',toks:=t'}:=I.un (Un.write mu he k heo) (I.hok.write mu he k heo new)
theorem Inv.weak{σ':List (Option V)}(I:Inv X pins σ H s)(hl:σ'.length=σ.length)(w:∀(i:Nat) v,σ'[i]? =some (some v)→σ[i]? =some (some v)):Inv X pins σ' H s:=
 ⟨I.ok,I.os,I.bare,I.base,let ⟨m,hn,hl'⟩:=I.loc;⟨m,hn,fun i x v e1 e2 e3=>hl' i x v e1 (w i v e2) e3⟩,I.cell,I.free,I.freeC,I.pin,I.hok,hl.trans I.len⟩
theorem Inv.Z1{pins':List (Addr × Obj)}(I:Inv X pins σ H s)(h:∀p∈pins',s.heap.get? p.1=some p.2∧H p.1=none∧p.1≠X.env.locals∧p.1∉X.fs∧∀v,p.2.data≠ .cell v):Inv X pins' σ H s:=
 ⟨I.ok,I.os,I.bare,I.base,I.loc,I.cell,I.free,I.freeC,fun p hp=>(List.mem_append.mp hp).elim (fun z=>I.pin p (List.mem_append_left _ z)) (h p),I.hok,I.len⟩
theorem Vp{N:List Str}(hN:N.Nodup){i j:Nat}{x:Str}(a:N[i]? =some x)(b:N[j]? =some x):i=j:=by
 obtain⟨h1,e1⟩:=List.getElem?_eq_some_iff.mp a
 obtain⟨h2,e2⟩:=List.getElem?_eq_some_iff.mp b
 exact(List.getElem_inj hN).mp (e1.trans e2.symm)
theorem K4{M:Model}{A:Around}{E:Value→Shared→Prop}{i:Nat}{x:Str}{v:V}{u:Value}{Q:Unit→Shared→Prop}(I:Inv X pins σ H s)(hN:X.N.Nodup)(hi:X.N[i]? =some x)(hx:Loc X.env.scope x)(r:RelV v u)
  (h:∀s',Inv X pins (σ.set i (some v)) H s'→(∃a,Heap.SameBut a s.heap s'.heap∧(a=X.env.locals∨X.env.cells.lookup x=some a))→Q () s') (hf:X.fn x=true∨X.env.scope.names.lookup x=some .local:=by first|exact .inl rfl|exact .inr rfl|assumption):wpAny M A (storeName X.env x u) Q E s:=by
 obtain⟨m,hn,hl⟩:=id I.loc
 have hcls:(X.env.scope.kind==.class||(X.env.scope.kind==.module&&X.env.locals !=X.env.globals))=false:=by rw[I.ok.kind];rfl
 have hiσ:i<σ.length:=by rw[I.len];exact(List.getElem?_eq_some_iff.mp hi).1
 have cne:=I.cne
 have tracked:∀{a:Addr}{h':Heap},(∃o,s.heap.get? a=some o∧H a=none)→Heap.SameBut a s.heap h'→HOk X.prog X.w H h':=fun{a h'} ha hs b ob e=>by
  obtain⟨_,_,hfree⟩:=ha
  refine(I.hok b ob e).Kw (fun c w' hc q=>(hs.2 c ?_).trans q) (fun _ q=>q) fun _ _ q=>q
  rintro rfl
  rcases hc with rfl|hc
  ·rw[hfree]at e;cases e
  ·rw[hfree]at hc;cases hc
 rcases hx with hk|hk
 ·refine wpAny_storeName_local hk hn (fun h' hn' hs=>?_) hcls
  obtain⟨oL,_,_,hoL,_⟩:=id hn
  refine h _ ⟨I.ok,I.os,I.bare,⟨fun b o e n hb hx=>?_,fun b o e n hb hx=>?_,I.base.free,fun b o e hx=>?_,I.base.tups,I.base.frzs,I.base.tbls⟩,⟨_,hn',fun j y v' e1 e2 e3=>?_⟩,fun y c e=>?_,I.free,I.freeC,fun p hp=>?_,tracked ⟨oL,hoL,I.free⟩ hs,by simpa using I.len⟩ ⟨_,hs,.inl rfl⟩
  ·exact(hs.2 b (Nat.ne_of_lt (Nat.lt_of_lt_of_le (Heap.lt_size e) I.ok.above))).trans (I.base.keep b o e n hb hx)
  ·obtain⟨sl,e1⟩:=I.base.slot b o e n hb hx
   exact⟨sl,(hs.2 b (Nat.ne_of_lt (Nat.lt_of_lt_of_le (Heap.lt_size e) I.ok.above))).trans e1⟩
  ·obtain⟨o',e1⟩:=I.base.there b o e hx
   exact⟨o',(hs.2 b (Nat.ne_of_lt (Nat.lt_of_lt_of_le (Heap.lt_size e) I.ok.above))).trans e1⟩
  ·by_cases hj:j=i
   ·subst hj
    rw[hi]at e1;cases e1
    rw[List.getElem?_set_self hiσ]at e2
    cases e2
    exact⟨u,r,.inl ⟨hk,by simp⟩⟩
   ·rw[List.getElem?_set_ne (Ne.symm hj)]at e2
    obtain⟨u',r',q⟩:=hl j y v' e1 e2 e3
    refine⟨u',r',?_⟩
    rcases q with⟨k,e⟩|⟨k,c,e,z⟩
    ·refine .inl ⟨k,?_⟩
     have:y≠x:=fun e=>hj (Vp hN e1 (e▸hi))
     simp[this,e]
    ·exact .inr ⟨k,c,e,z.sameBut hs (cne y c e)⟩
  ·obtain⟨w',z⟩:=I.cell y c e
   exact⟨w',z.sameBut hs (cne y c e)⟩
  ·obtain⟨e,n,ne,nf,d⟩:=I.pin p hp
   exact⟨(hs.2 p.1 ne).trans e,n,ne,nf,d⟩
 ·have hfn:X.fn x=true:=by
   rcases hf with z|z
   ·exact z
   ·rw[z]at hk;cases hk
  obtain⟨c,hc⟩:=I.ok.has x (.inl hk)
  obtain⟨w',z⟩:=I.cell x c hc
  refine wpAny_storeName_cell I.ok.kind hk hc z (fun h' hc' hs=>?_)
  obtain⟨oc,hoc,hocd⟩:=id z
  refine h {s with heap:=h'} ⟨I.ok,I.os,I.bare,⟨fun b o e n hb hx=>?_,fun b o e n hb hx=>?_,I.base.free,fun b o e hx=>?_,I.base.tups,I.base.frzs,I.base.tbls⟩,⟨m,hn.sameBut hs (Ne.symm (cne x c hc)),fun j y v' e1 e2 e3=>?_⟩,fun y c' e=>?_,I.free,I.freeC,fun p hp=>?_,tracked ⟨oc,hoc,I.freeC x c hc⟩ hs,by simpa using I.len⟩ ⟨c,hs,.inr hc⟩
  ·exact(hs.2 b (Nat.ne_of_lt (Nat.lt_of_lt_of_le (Heap.lt_size e) (I.ok.cab x c hfn hc)))).trans (I.base.keep b o e n hb hx)
  ·obtain⟨sl,e1⟩:=I.base.slot b o e n hb hx
   exact⟨sl,(hs.2 b (Nat.ne_of_lt (Nat.lt_of_lt_of_le (Heap.lt_size e) (I.ok.cab x c hfn hc)))).trans e1⟩
  ·obtain⟨o',e1⟩:=I.base.there b o e hx
   exact⟨o',(hs.2 b (Nat.ne_of_lt (Nat.lt_of_lt_of_le (Heap.lt_size e) (I.ok.cab x c hfn hc)))).trans e1⟩
  ·by_cases hj:j=i
   ·subst hj
    rw[hi]at e1;cases e1
    rw[List.getElem?_set_self hiσ]at e2
    cases e2
    exact⟨u,r,.inr ⟨.inl hk,c,hc,hc'⟩⟩
   ·rw[List.getElem?_set_ne (Ne.symm hj)]at e2
    obtain⟨u',r',q⟩:=hl j y v' e1 e2 e3
    refine⟨u',r',?_⟩
    rcases q with q|⟨k,c',e,z'⟩
    ·exact .inl q
    ·refine .inr ⟨k,c',e,z'.sameBut hs ?_⟩
     rintro rfl
     exact hj (Vp hN e1 (I.ok.inj _ _ _ e hc▸hi))
  ·by_cases hcc:c'=c
   ·subst hcc;exact⟨_,hc'⟩
   ·obtain⟨w2,z2⟩:=I.cell y c' e
    exact⟨w2,z2.sameBut hs hcc⟩
  ·obtain⟨e,n,ne,nf,d⟩:=I.pin p hp
   refine⟨(hs.2 p.1 ?_).trans e,n,ne,nf,d⟩
   intro q
   rw[q,hoc]at e
   have q':oc=p.2:=Option.some.inj e
   exact d w' (by rw[←q'];exact hocd)
theorem Zk{M:Model}{A:Around}{E:Value→Shared→Prop}{i:Nat}{x:Str}{v:V}{u:Value}{Q:Unit→Shared→Prop}(I:Inv X pins σ H s)(hN:X.N.Nodup)(hi:X.N[i]? =some x)(hx:Loc X.env.scope x)(r:RelV v u)
  (h:∀s',Inv X pins (σ.set i (some v)) H s'→Q () s') (hf:X.fn x=true∨X.env.scope.names.lookup x=some .local:=by first|exact .inl rfl|exact .inr rfl|assumption):wpAny M A (storeName X.env x u) Q E s:=
 K4 I hN hi hx r (fun s' I' _=>h s' I') hf
theorem Inv.jm{s':Shared}{ch:List Addr}(I:Inv X pins σ H s)(ho:s'.os=s.os)(u:Un (frs X.stack) ch H H' s.heap s'.heap)(hok:HOk X.prog X.w H' s'.heap)(hg:AllBare s'.gens)
  (hch:∀b∈ch,(b∈X.ex∨X.s₀.heap.objs.size≤b)∧b≠X.env.locals∧(∀x c,X.env.cells.lookup x=some c→c≠b)∧∀p∈X.pn++pins,p.1≠b):Inv X pins σ H' s':=by
 obtain⟨h',g',d',t',o'⟩:=s'
 have e:o'=s.os:=ho
 subst e
 exact I.call (g':=g') (t':=t') (d':=d') u hok hg hch
end
noncomputable abbrev XK:=Value→Option Addr→Hp→Prop
noncomputable abbrev St:=List (Option V)
noncomputable abbrev VK:=V→Hp→Prop
noncomputable abbrev TE:=St→Hp→VK→Prop
noncomputable abbrev TT:=St→Hp→(Bool→Hp→Prop)→Prop
noncomputable abbrev TA:=St→Hp→(List V→Hp→Prop)→Prop
structure Ends where
 nx:St→Hp→Prop
 rt:VK
 bk:St→Hp→Prop:=fun _ _=>False
 ct:St→Hp→Prop:=fun _ _=>False
noncomputable abbrev TS:=Ends→St→Hp→Prop
noncomputable def EP(X:Cx)(pins:List (Addr × Obj))(σ:St)(Q:VK)(u:Value)(s':Shared):Prop:=∃v H',Inv X pins σ H' s'∧RelV v u∧Q v H'
noncomputable def TP(X:Cx)(pins:List (Addr × Obj))(σ:St)(Q:Bool→Hp→Prop)(b:Bool)(s':Shared):Prop:=∃H',Inv X pins σ H' s'∧Q b H'
noncomputable def AP(X:Cx)(pins:List (Addr × Obj))(σ:St)(Q:List V→Hp→Prop)(us:List Value)(s':Shared):Prop:=∃vs H',Inv X pins σ H' s'∧Vals vs us∧Q vs H'
noncomputable def SP(X:Cx)(pins:List (Addr × Obj))(D:Ends)(f:Flow)(s':Shared):Prop:=
 match f with
 | .next=>∃σ' H',Inv X pins σ' H' s'∧D.nx σ' H'
 | .brk=>∃σ' H',Inv X pins σ' H' s'∧D.bk σ' H'
 | .cont=>∃σ' H',Inv X pins σ' H' s'∧D.ct σ' H'
 | .ret u=>∃v σ' H',Inv X pins σ' H' s'∧RelV v u∧D.rt v H'
noncomputable def PE(X:Cx)(e:Expr)(t:TE):Prop:=
 ∀(pins:List (Addr × Obj))(s:Shared)(σ:St)(H:Hp)(Q:VK),Inv X pins σ H s→t σ H Q→wpAny (model X.prog X.w) X.A (eval e X.env) (EP X pins σ Q) X.xe s
noncomputable def PT(X:Cx)(e:Expr)(t:TT):Prop:=
 ∀(pins:List (Addr × Obj))(s:Shared)(σ:St)(H:Hp)(Q:Bool→Hp→Prop),Inv X pins σ H s→t σ H Q→wpAny (model X.prog X.w) X.A (isTrue e X.env (eval e X.env)) (TP X pins σ Q) X.xe s
noncomputable def PW(X:Cx)(e:Expr)(t:TT):Prop:=
 ∀(whole:Sem Value)(pins:List (Addr × Obj))(s:Shared)(σ:St)(H:Hp)(Q:Bool→Hp→Prop),Inv X pins σ H s→t σ H Q→wpAny (model X.prog X.w) X.A (isTrue e X.env whole) (TP X pins σ Q) X.xe s
theorem PW.pt{X:Cx}{e:Expr}{t:TT}(h:PW X e t):PT X e t:=h _
noncomputable def PA(X:Cx)(es:List Expr)(t:TA):Prop:=
 ∀(pos:Pos)(pins:List (Addr × Obj))(s:Shared)(σ:St)(H:Hp)(Q:List V→Hp→Prop),Inv X pins σ H s→t σ H Q→wpAny (model X.prog X.w) X.A (spliced (backTo pos (starEach es X.env))) (AP X pins σ Q) X.xe s
noncomputable def PS(X:Cx)(st:Stmt)(t:TS):Prop:=
 ∀(pins:List (Addr × Obj))(s:Shared)(σ:St)(H:Hp)(D:Ends),Inv X pins σ H s→t D σ H→wpAny (model X.prog X.w) X.A (exec st X.env) (SP X pins D) X.xe s
noncomputable def PSs(X:Cx)(st:List Stmt)(t:TS):Prop:=
 ∀(pins:List (Addr × Obj))(s:Shared)(σ:St)(H:Hp)(D:Ends),Inv X pins σ H s→t D σ H→wpAny (model X.prog X.w) X.A (execs st X.env) (SP X pins D) X.xe s
theorem thn{α:Type}{t:Sem α}{Q Q':α→Shared→Prop}{M:Model}{A:Around}{E:Value→Shared→Prop}{s:Shared}(h:wpAny M A t Q E s)(hQ:∀a s,Q a s→Q' a s):wpAny M A t Q' E s:=wpAny_mono h hQ fun _ _ x=>x
end L2
namespace L2
open PySem PySem.Spec PyProof.Rows
section
variable {X:Cx}
noncomputable def Kx(i:Nat):TE:=fun σ H Q=>∃v,σ[i]? =some (some v)∧Q v H
noncomputable def tC(v:V):TE:=fun _ H Q=>Q v H
theorem kW{i:Nat}{x:Str}{pos:Pos}(hN:X.N[i]? =some x)(hv:Vis X.env.scope x)(hd:(x==("__debug__":Str))=false:=by decide)(hcd:(x==("__classdict__":Str))=false:=by decide):PE X (.Name x pos) (Kx i):=by
 intro pins s σ H Q I h
 obtain⟨v,e,h⟩:=h
 obtain⟨m,hn,hl⟩:=I.loc
 obtain⟨u,r,l⟩:=hl i x v hN e hv
 have fin:EP X pins σ Q u s:=⟨v,H,I,r,h⟩
 rcases l with⟨hk,hm⟩|⟨hk,c,hc,hcell⟩
 ·exact wpAny_Name (wpAny_loadName_local I.ok.kind hk hn hm fin) hd
 ·rcases hk with hk|hk
  ·exact wpAny_Name (wpAny_loadName_cell I.ok.kind hk hc hcell fin) hd
  ·exact wpAny_Name (wpAny_loadName_free I.ok.kind hk hc hcell fin hcd) hd
theorem Qh{i j pos}:PE X (.Constant (.int i) j pos) (tC (.int i)):=fun _ _ _ H _ I h=>wpAny_Constant_int ⟨.int i,H,I.tok _,⟨_,rfl⟩,h⟩
theorem XR{b j pos}:PE X (.Constant (.bool b) j pos) (tC (.bl b)):=fun _ _ _ H _ I h=>Constant_bool ⟨.bl b,H,I,rfl,h⟩
theorem J5{j pos}:PE X (.Constant .none j pos) (tC .non):=fun _ _ _ H _ I h=>Constant_none ⟨.non,H,I,rfl,h⟩
theorem Qd{x j pos}:PE X (.Constant (.str x) j pos) (tC (.str x)):=fun _ _ _ H _ I h=>Calls.Constant_str ⟨.str x,H,I.tok _,⟨_,rfl⟩,h⟩
noncomputable def Gl(X:Cx)(x:Str):Prop:=X.env.kindOf x=some .globalImplicit
theorem Z2{E:Value→Shared→Prop}{pins:List (Addr × Obj)}{s:Shared}{σ:St}{H:Hp}{x:Str}{u:Value}{pos:Pos}{Q:Value→Shared→Prop}(I:Inv X pins σ H s)(hg:Gl X x)(hm:X.mg x=some u)(h:Q u s)
  (hd:(x==("__debug__":Str))=false:=by decide):wpAny (model X.prog X.w) X.A (eval (.Name x pos) X.env) Q E s:=
 Calls.Name_function_global I.ok.kind hg (Calls.loadGlobal_global (by rw[I.ok.glob];exact I.mod.glob.keeps I.bk) hm h) hd
theorem K5{E:Value→Shared→Prop}{pins:List (Addr × Obj)}{s:Shared}{σ:St}{H:Hp}{x:Str}{u:Value}{pos:Pos}{Q:Value→Shared→Prop}(I:Inv X pins σ H s)(hg:Gl X x)(hm:X.mg x=none)(hv:bootBuiltins x=some u)(h:Q u s)
  (hn:x≠"__name__":=by decide) (hd:(x==("__debug__":Str))=false:=by decide):wpAny (model X.prog X.w) X.A (eval (.Name x pos) X.env) Q E s:=by
 obtain⟨mb,h1,h2⟩:=I.mod.blt
 exact Calls.Name_function_global I.ok.kind hg (Calls.loadGlobal_builtin (by rw[I.ok.glob];exact I.mod.glob.keeps I.bk) hm (by rw[I.ok.blt];exact h1.keeps I.bk) ((h2 x hn).trans hv) h) hd
theorem QC{x:Str}{v:V}{u:Value}{pos:Pos}(hg:Gl X x)(hm:X.mg x=some u)(r:RelV v u)(hd:(x==("__debug__":Str))=false:=by decide):PE X (.Name x pos) (tC v):=
 fun _ _ _ H _ I h=>Z2 I hg hm ⟨v,H,I,r,h⟩ hd
theorem jn{x:Str}{v:V}{u:Value}{pos:Pos}(hg:Gl X x)(hm:X.mg x=none)(hv:bootBuiltins x=some u)(r:RelV v u)(hn:x≠"__name__":=by decide)(hd:(x==("__debug__":Str))=false:=by decide):PE X (.Name x pos) (tC v):=
 fun _ _ _ H _ I h=>K5 I hg hm hv ⟨v,H,I,r,h⟩ hn hd
variable {a b:Expr}{ta tb:TE}{pos:Pos}
noncomputable def PC(X:Cx)(op:CmpOp)(a b:Expr)(t:TE):Prop:=
 ∀(pins:List (Addr × Obj))(s:Shared)(σ:St)(H:Hp)(Q:VK),Inv X pins σ H s→t σ H Q→
  wpAny (model X.prog X.w) X.A (eval a X.env) (fun v s₁=>wpAny (model X.prog X.w) X.A (eval b X.env) (fun u s₂=>wpAny (model X.prog X.w) X.A (compareOp op v u) (EP X pins σ Q) X.xe s₂) X.xe s₁) X.xe s
theorem xg(b:Expr){op:CmpOp}(h:op≠ .In)(h2:op≠ .NotIn):behindInMarks op b=false:=by
 have e1:(op==CmpOp.In)=false:=by cases op<;>first|rfl|exact absurd rfl h
 have e2:(op==CmpOp.NotIn)=false:=by cases op<;>first|rfl|exact absurd rfl h2
 cases b<;>simp[behindInMarks,e1,e2]
noncomputable def QbZ(ta:TE):TE:=fun σ H Q=>ta σ H fun x H1=>Q (.bl (decide (x=.non))) H1
noncomputable def QaS(ta:TE):TE:=fun σ H Q=>ta σ H fun x H1=>Q (.bl (!decide (x=.non))) H1
theorem RelV.UW{x:V}{v:Value}(r:RelV x v):(v==Value.none)=decide (x=.non):=by
 cases x with
 |non=>cases r;rfl
 |bl _=>cases r;rfl
 |int _=>obtain⟨t,rfl⟩:=r;rfl
 |str _=>obtain⟨t,rfl⟩:=r;rfl
 |byt _=>obtain⟨t,rfl⟩:=r;rfl
 |flt _=>obtain⟨t,rfl⟩:=r;rfl
 |ref _=>cases r;rfl
 |ty _=>cases r;rfl
theorem XS{j pos'}(ha:PE X a ta):PC X .Is a (.Constant .none j pos') (QbZ ta):=by
 intro pins s σ H Q I h
 refine thn (ha pins s σ H _ I h) fun v s1⟨x,H1,I1,r1,q1⟩=>?_
 exact Constant_none (is_none_gen ⟨.bl _,H1,I1,by rw[r1.UW];rfl,q1⟩)
theorem wG{j pos'}(ha:PE X a ta):PC X .IsNot a (.Constant .none j pos') (QaS ta):=by
 intro pins s σ H Q I h
 refine thn (ha pins s σ H _ I h) fun v s1⟨x,H1,I1,r1,q1⟩=>?_
 exact Constant_none (isnot_none_gen ⟨.bl _,H1,I1,by rw[r1.UW];rfl,q1⟩)
noncomputable def tB(t:TE):TT:=fun σ H Q=>t σ H fun x H1=>∃c,x=.bl c∧Q c H1
theorem ZJ{op:CmpOp}{t:TE}(h:PC X op a b t)(h1:behindInMarks op b=false:=by first|exact xg _ (by decide) (by decide)|rfl):PT X (.Compare a [op] [b] pos) (tB t):=by
 intro pins s σ H Q I hw
 refine wpAny_isTrue_Compare1 (thn (h pins s σ H _ I hw) fun v s1 h1=>thn h1 fun u s2 h2=>thn h2 fun c s3⟨x,H1,I1,r1,q1⟩=>?_) h1
 obtain⟨d,rfl,q⟩:=q1
 cases r1
 exact wpAny_truthy_bool ⟨H1,I1,q⟩
theorem W3{e:Expr}{t:TE}(h:PE X e t)(he:∀whole,isTrue e X.env whole=(do let v←whole;standAt e.pos;holding [v] (truthy v)):=by intro _;rfl):PT X e (tB t):=by
 intro pins s σ H Q I hw
 refine isTrue_plain (thn (h pins s σ H _ I hw) fun v s1⟨x,H1,I1,r1,q1⟩=>?_) (he _)
 obtain⟨d,rfl,q⟩:=q1
 cases r1
 exact wpAny_truthy_bool ⟨H1,I1,q⟩
variable {tA tB':TT}{rest:List Expr}
noncomputable def Qb0(t u:TT):TT:=fun σ H Q=>t σ H fun c H1=>if c=true then u σ H1 Q else Q false H1
noncomputable def tOr(t u:TT):TT:=fun σ H Q=>t σ H fun c H1=>if c=true then Q true H1 else u σ H1 Q
noncomputable def Qb1(t:TT):TT:=fun σ H Q=>t σ H fun c H1=>Q (!c) H1
theorem Je(ha:PT X a tA):PW X (.BoolOp .And [a] pos) tA:=by
 intro wh pins s σ H Q I h
 refine isTrue_and (thn (ha pins s σ H Q I h) fun c s1 e=>?_)
 cases c with
 |true=>exact isTrue_and_nil e
 |false=>exact e
theorem J6(ha:PT X a tA):PW X (.BoolOp .Or [a] pos) tA:=by
 intro wh pins s σ H Q I h
 refine isTrue_or (thn (ha pins s σ H Q I h) fun c s1 e=>?_)
 cases c with
 |false=>exact isTrue_or_nil e
 |true=>exact e
theorem Jp(ha:PT X a tA)(hb:PW X (.BoolOp .And (b::rest) pos) tB'):PW X (.BoolOp .And (a::b::rest) pos) (Qb0 tA tB'):=by
 intro wh pins s σ H Q I h
 refine isTrue_and (thn (ha pins s σ H _ I h) fun c s1⟨H1,I1,q1⟩=>?_)
 cases c with
 |true=>exact hb wh pins s1 σ H1 Q I1 q1
 |false=>exact⟨H1,I1,q1⟩
theorem Z0(ha:PT X a tA)(hb:PW X (.BoolOp .Or (b::rest) pos) tB'):PW X (.BoolOp .Or (a::b::rest) pos) (tOr tA tB'):=by
 intro wh pins s σ H Q I h
 refine isTrue_or (thn (ha pins s σ H _ I h) fun c s1⟨H1,I1,q1⟩=>?_)
 cases c with
 |true=>exact⟨H1,I1,q1⟩
 |false=>exact hb wh pins s1 σ H1 Q I1 q1
theorem W4(ha:PT X a tA):PT X (.UnaryOp .Not a pos) (Qb1 tA):=by
 intro pins s σ H Q I h
 exact isTrue_not (ha pins s σ H (fun c H1=>Q (!c) H1) I h)
noncomputable def wH(ta tb:TE):TE:=fun σ H Q=>ta σ H fun x H1=>∃c,x=.bl c∧if c=true then tb σ H1 Q else Q (.bl false) H1
theorem UX{op}{t:TE}(h:PE X a t):PE X (.BoolOp op [a] pos) t:=fun pins s σ H Q I hw=>BoolOp_one (h pins s σ H Q I hw)
theorem UY(ha:PE X a ta)(hb:PE X (.BoolOp .And (b::rest) pos) tb):PE X (.BoolOp .And (a::b::rest) pos) (wH ta tb):=by
 intro pins s σ H Q I h
 refine BoolOp_and (thn (ha pins s σ H _ I h) fun v s1⟨x,H1,I1,r1,q1⟩=>?_)
 obtain⟨c,rfl,q1⟩:=q1
 cases r1
 refine wpAny_truthy_bool ?_
 cases c with
 |true=>exact hb pins s1 σ H1 Q I1 q1
 |false=>exact⟨.bl false,H1,I1,rfl,q1⟩
noncomputable def tIf(t:TT)(ta tb:TE):TE:=fun σ H Q=>t σ H fun c H1=>if c=true then ta σ H1 Q else tb σ H1 Q
theorem QD{c:Expr}(hc:PT X c tA)(ha:PE X a ta)(hb:PE X b tb):PE X (.IfExp c a b pos) (tIf tA ta tb):=by
 intro pins s σ H Q I h
 refine wpAny_IfExp (thn (hc pins s σ H _ I h) fun d s1⟨H1,I1,q1⟩=>?_)
 cases d with
 |true=>exact ha pins s1 σ H1 Q I1 q1
 |false=>exact hb pins s1 σ H1 Q I1 q1
end
end L2
namespace L2
open PySem PySem.Spec PyProof.Rows
noncomputable def SqL(K:PySem.W.Frag)(H:Hp)(a:Addr)(xs:List V):Prop:=
 Rd H a (.lst xs)∨
  ∃(o:Obj)(its:Array Value)(n:Nat),K.lookup a=some o∧o.cls=.type "list"∧o.dict=none∧o.data=.seq its n∧its.size≤sizeLine∧Vals xs its.toList
noncomputable def SqT(K:PySem.W.Frag)(H:Hp)(a:Addr)(xs:List V):Prop:=
 Rd H a (.tup xs)∨
  ∃(o:Obj)(its:Array Value)(n:Nat),K.lookup a=some o∧o.cls=.type "tuple"∧o.data=.seq its n∧its.size≤sizeLine∧Vals xs its.toList
noncomputable def Qb2:Value→Option V
 | .none=>some .non
 | .bool b=>some (.bl b)
 | .int i _=>some (.int i)
 | .str x _=>some (.str x)
 | .bytes b _=>some (.byt b)
 | .float b _=>some (.flt b)
 | .ref a=>some (.ref a)
 | .type n=>some (.ty n)
 |_=>none
theorem RelV.abs{x:V}{u:Value}(r:RelV x u):Qb2 u=some x:=by
 cases x with
 |non=>cases r;rfl
 |bl _=>cases r;rfl
 |int _=>obtain⟨t,rfl⟩:=r;rfl
 |str _=>obtain⟨t,rfl⟩:=r;rfl
 |byt _=>obtain⟨t,rfl⟩:=r;rfl
 |flt _=>obtain⟨t,rfl⟩:=r;rfl
 |ref _=>cases r;rfl
 |ty _=>cases r;rfl
theorem RelV.inj{x y:V}{u:Value}(r:RelV x u)(q:RelV y u):x=y:=Option.some.inj (r.abs.symm.trans q.abs)
theorem Vals.inj:∀{xs ys:List V}{us:List Value},Vals xs us→Vals ys us→xs=ys
 |_,_,_,.nil,.nil=>rfl
 |_,_,_,.cons r t,.cons r' t'=>by rw[r.inj r',Vals.inj t t']
section
variable {X:Cx}{pins:List (Addr × Obj)}{σ:St}{H:Hp}{s:Shared}{a:Addr}{xs ys:List V}
theorem SqL.of{K:PySem.W.Frag}(h:H a=some (.lst xs)):SqL K H a xs:=.inl (.inl h)
theorem SqT.of{K:PySem.W.Frag}(h:H a=some (.tup xs)):SqT K H a xs:=.inl (.inl h)
theorem Inv.list(I:Inv X pins σ H s)(h:SqL X.K H a xs):∃its:List Value,Vals xs its∧PlainL s.heap a its.toArray∧xs.length≤sizeLine:=by
 rcases h with h|⟨o,its,n,hk,hc,hd,hs,hz,r⟩
 ·obtain⟨z,its,n,r,e⟩:=h.ok I.hok
  exact⟨its,r,⟨_,n,e,rfl,rfl,rfl⟩,z⟩
 ·refine⟨its.toList,r,⟨o,n,I.kIn a o hk,hc,hd,by simpa using hs⟩,?_⟩
  have e:=r.length
  simp only[Array.length_toList]at e
  omega
theorem Inv.tuple(I:Inv X pins σ H s)(h:SqT X.K H a xs):∃its:List Value,Vals xs its∧IsTup s.heap a its.toArray∧xs.length≤sizeLine:=by
 rcases h with h|⟨o,its,n,hk,hc,hs,hz,r⟩
 ·obtain⟨z,its,r,p⟩:=h.ok I.hok
  exact⟨its,r,p,z⟩
 ·refine⟨its.toList,r,⟨o,I.kIn a o hk,hc,n,by simpa using hs⟩,?_⟩
  have e:=r.length
  simp only[Array.length_toList]at e
  omega
theorem Inv.xh(I:Inv X pins σ H s)(h:SqL X.K H a xs)(h':SqL X.K H a ys):xs=ys:=by
 obtain⟨its,r,⟨o,n,e,_,_,d⟩,_⟩:=I.list h
 obtain⟨its',r',⟨o',n',e',_,_,d'⟩,_⟩:=I.list h'
 rw[e]at e';cases e'
 rw[d]at d'
 injection d' with d1 _
 have:its=its':=by simpa using congrArg Array.toList d1
 subst this
 exact r.inj r'
theorem Inv.jo(I:Inv X pins σ H s)(h:SqT X.K H a xs)(h':SqT X.K H a ys):xs=ys:=by
 obtain⟨its,r,⟨o,e,_,n,d⟩,_⟩:=I.tuple h
 obtain⟨its',r',⟨o',e',_,n',d'⟩,_⟩:=I.tuple h'
 rw[e]at e';cases e'
 rw[d]at d'
 injection d' with d1 _
 have:its=its':=by simpa using congrArg Array.toList d1
 subst this
 exact r.inj r'
end
noncomputable abbrev Cx.xc(X:Cx)(E:Value→Shared→Prop):Cx:={X with xe:=E}
noncomputable abbrev Cx.nox(X:Cx):Cx:=X.xc fun _ _=>False
theorem Cx.Ok.xc{X:Cx}(ok:X.Ok)(E:Value→Shared→Prop):(X.xc E).Ok:=
 ⟨ok.mod,ok.kind,ok.glob,ok.blt,ok.above,ok.inj,ok.has,ok.cab,ok.hd,ok.frames,ok.stk,ok.exf,ok.bs,ok.bsz,ok.noex,ok.exfs,ok.Y8,ok.frf⟩
theorem Cx.Ok.Ky{X:Cx}{E:Value→Shared→Prop}(ok:(X.xc E).Ok):X.Ok:=
 ⟨ok.mod,ok.kind,ok.glob,ok.blt,ok.above,ok.inj,ok.has,ok.cab,ok.hd,ok.frames,ok.stk,ok.exf,ok.bs,ok.bsz,ok.noex,ok.exfs,ok.Y8,ok.frf⟩
section
variable {X:Cx}{pins:List (Addr × Obj)}{σ:St}{H:Hp}{s:Shared}{E:Value→Shared→Prop}
theorem Inv.xc(I:Inv X pins σ H s)(E:Value→Shared→Prop):Inv (X.xc E) pins σ H s:=⟨I.ok.xc E,I.os,I.bare,I.base,I.loc,I.cell,I.free,I.freeC,I.pin,I.hok,I.len⟩
theorem Inv.Ky(I:Inv (X.xc E) pins σ H s):Inv X pins σ H s:=⟨I.ok.Ky,I.os,I.bare,I.base,I.loc,I.cell,I.free,I.freeC,I.pin,I.hok,I.len⟩
theorem SP.Ky{D:Ends}{f:Flow}{s':Shared}(h:SP (X.xc E) pins D f s'):SP X pins D f s':=by
 cases f with
 |next=>obtain⟨σ',H',I,q⟩:=h;exact⟨σ',H',I.Ky,q⟩
 |brk=>obtain⟨σ',H',I,q⟩:=h;exact⟨σ',H',I.Ky,q⟩
 |cont=>obtain⟨σ',H',I,q⟩:=h;exact⟨σ',H',I.Ky,q⟩
 |ret u=>obtain⟨v,σ',H',I,r,q⟩:=h;exact⟨v,σ',H',I.Ky,r,q⟩
theorem PSs.nox{st:List Stmt}{t:TS}(h:PSs X.nox st t):PSs X st t:=fun pins s σ H D I hw=>
 wpAny_mono (h pins s σ H D (I.xc _) hw) (fun _ _ q=>q.Ky) fun _ _ z=>False.elim z
end
section
variable {X:Cx}{st:Stmt}{rest:List Stmt}{t u:TS}{e:Expr}{te:TE}{pos:Pos}
noncomputable def WO:TS:=fun D σ H=>D.nx σ H
noncomputable def K6(t u:TS):TS:=fun D σ H=>t {D with nx:=u D} σ H
theorem Qy:PSs X [] WO:=fun _ _ σ H _ I h=>wpAny_execs_nil ⟨σ,H,I,h⟩
theorem Qb(h1:PS X st t)(h2:PSs X rest u):PSs X (st::rest) (K6 t u):=by
 intro pins s σ H D I h
 refine wpAny_execs_cons (thn (h1 pins s σ H {D with nx:=u D} I h) fun f s1 q=>?_)
 cases f with
 |next=>
  obtain⟨σ',H',I',q⟩:=q
  exact h2 pins s1 σ' H' D I' q
 |ret v=>exact q
 |brk=>exact q
 |cont=>exact q
theorem Qg(h1:PS X st t):PSs X [st] t:=by
 intro pins s σ H D I h
 refine wpAny_execs_cons (thn (h1 pins s σ H D I h) fun f s1 q=>?_)
 cases f with
 |next=>exact wpAny_execs_nil q
 |ret v=>exact q
 |brk=>exact q
 |cont=>exact q
theorem Inv.quiet{pins:List (Addr × Obj)}{σ:St}{H:Hp}{s:Shared}(I:Inv X pins σ H s):interactive X.env=false:=by simp[interactive,I.ok.kind]
noncomputable def QaT(te:TE):TS:=fun D σ H=>te σ H fun _ H1=>D.nx σ H1
theorem Z3(he:PE X e te)(hs:swapsWith e none pos.line X.env=pure false:=by rfl):PS X (.Expr e pos) (QaT te):=by
 intro pins s σ H D I h
 exact wpAny_Expr_any (thn (he pins s σ H _ I h) fun v s1⟨x,H1,I1,r1,q1⟩=>⟨σ,H1,I1,q1⟩) I.quiet hs
noncomputable def QaI(te:TE):TS:=fun D σ H=>te σ H D.rt
theorem Qs(he:PE X e te):PS X (.Return (some e) pos) (QaI te):=by
 intro pins s σ H D I h
 exact wpAny_Return_some (thn (he pins s σ H _ I h) fun v s1⟨x,H1,I1,r1,q1⟩=>⟨x,σ,H1,I1,r1,q1⟩)
noncomputable def QbL(c:TT)(t u:TS):TS:=fun D σ H=>c σ H fun b H1=>if b=true then t D σ H1 else u D σ H1
theorem QL{c:Expr}{a b:List Stmt}{tc:TT}(hc:PT X c tc)(ha:PSs X a t)(hb:PSs X b u):PS X (.If c a b pos) (QbL tc t u):=by
 intro pins s σ H D I h
 refine wpAny_If (thn (hc pins s σ H _ I h) fun d s1⟨H1,I1,q1⟩=>?_)
 cases d with
 |true=>exact ha pins s1 σ H1 D I1 q1
 |false=>exact hb pins s1 σ H1 D I1 q1
end
noncomputable abbrev TG:=V→St→Hp→(St→Hp→Prop)→Prop
noncomputable abbrev TGs:=List V→St→Hp→(St→Hp→Prop)→Prop
noncomputable def PG(X:Cx)(target:Expr)(t:TG):Prop:=
 ∀(pins:List (Addr × Obj))(s:Shared)(σ:St)(H:Hp)(v:V)(u:Value)(Q:St→Hp→Prop),Inv X pins σ H s→RelV v u→t v σ H Q→
  wpAny (model X.prog X.w) X.A (assign target X.env u) (fun _ s'=>∃σ' H',Inv X pins σ' H' s'∧Q σ' H') X.xe s
noncomputable def PGs(X:Cx)(ts:List Expr)(t:TGs):Prop:=
 ∀(pins:List (Addr × Obj))(s:Shared)(σ:St)(H:Hp)(vs:List V)(us:List Value)(Q:St→Hp→Prop),Inv X pins σ H s→Vals vs us→t vs σ H Q→
  wpAny (model X.prog X.w) X.A (assignInOrder ((assignEach ts X.env).map (·.2)) us) (fun _ s'=>∃σ' H',Inv X pins σ' H' s'∧Q σ' H') X.xe s
noncomputable abbrev QaU:=V→V→V→Hp→(Hp→Prop)→Prop
noncomputable def QbM(X:Cx)(t:QaU):Prop:=
 ∀(pins:List (Addr × Obj))(s:Shared)(σ:St)(H:Hp)(o i v:V)(ov iv u:Value)(Q:Hp→Prop),Inv X pins σ H s→RelV o ov→RelV i iv→RelV v u→t o i v H Q→
  wpAny (model X.prog X.w) X.A (setItem ov iv u) (fun _ s'=>∃H',Inv X pins σ H' s'∧Q H') X.xe s
noncomputable abbrev TIp:=V→V→Hp→VK→Prop
noncomputable def PIp(X:Cx)(op:Operator)(t:TIp):Prop:=
 ∀(pins:List (Addr × Obj))(s:Shared)(σ:St)(H:Hp)(x y:V)(v u:Value)(Q:VK),Inv X pins σ H s→RelV x v→RelV y u→t x y H Q→
  wpAny (model X.prog X.w) X.A (inplaceOp op v u) (EP X pins σ Q) X.xe s
section
variable {X:Cx}{pos:Pos}
noncomputable def JD(i:Nat):TG:=fun v σ H Q=>Q (σ.set i (some v)) H
theorem Qk{i:Nat}{x:Str}(hN:X.N.Nodup)(hi:X.N[i]? =some x)(hx:Loc X.env.scope x)(hf:X.fn x=true∨X.env.scope.names.lookup x=some .local:=by first|exact .inl rfl|exact .inr rfl|assumption):PG X (.Name x pos) (JD i):=by
 intro pins s σ H v u Q I r h
 exact wpAny_assign_Name (Zk I hN hi hx r (fun s' I'=>⟨_,H,I',h⟩) hf)
noncomputable def QaJ:TGs:=fun vs σ H Q=>vs=[]∧Q σ H
noncomputable def Ua(t:TG)(u:TGs):TGs:=fun vs σ H Q=>∃v r,vs=v::r∧t v σ H fun σ' H'=>u r σ' H' Q
theorem QG:PGs X [] QaJ:=by
 intro pins s σ H vs us Q I r h
 obtain⟨e,h⟩:=h
 subst e
 cases r
 exact assignInOrder_nil ⟨σ,H,I,h⟩
theorem Qi{e:Expr}{es:List Expr}{t:TG}{u:TGs}(h1:PG X e t)(h2:PGs X es u)
  (hs:(assignEach (e::es) X.env).map (·.2)=assign e X.env::(assignEach es X.env).map (·.2):=by rfl):PGs X (e::es) (Ua t u):=by
 intro pins s σ H vs us Q I r h
 obtain⟨v,vr,e1,h⟩:=h
 subst e1
 cases r with
 |cons r rr=>
  rw[hs]
  refine assignInOrder_cons (thn (h1 pins s σ H _ _ _ I r h) fun _ s1⟨σ1,H1,I1,q1⟩=>?_)
  exact h2 pins s1 σ1 H1 _ _ Q I1 rr q1
noncomputable def yq(K:PySem.W.Frag)(n:Nat)(t:TGs):TG:=fun v σ H Q=>∃a xs,v=.ref a∧SqT K H a xs∧xs.length=n∧t xs σ H Q
theorem Q1{es:List Expr}{k:Nat}{t:TGs}{n:Nat}(hc:X.calm=true)(h:PGs X es t)
  (hn:(assignEach es X.env).length=n:=by rfl) (hst:(assignEach es X.env).findIdx? (·.1)=none:=by rfl):PG X (.Tuple es k pos) (yq X.K n t):=by
 intro pins s σ H v u Q I r hw
 obtain⟨a,xs,e1,hq,hl,hw⟩:=hw
 subst e1
 cases r
 obtain⟨its,rv,ht,hz⟩:=I.tuple hq
 refine assign_Tuple_tuple (I.ok.hd hc) ht (by simp[hn, ←hl,rv.length]) hst fun h' hx=>?_
 have I1:Inv X pins σ H {s with heap:=h'}:=I.kept (t':=s.toks) fun b o e=>hx b o (Nat.ne_of_lt (Heap.lt_size e)) e
 exact h pins _ σ H xs _ Q I1 (by simpa using rv) hw
noncomputable def Qb3(to ti:TE)(t:QaU):TG:=fun v σ H Q=>to σ H fun o H1=>ti σ H1 fun i H2=>t o i v H2 fun H3=>Q σ H3
theorem kX{o i:Expr}{to ti:TE}{t:QaU}(ho:PE X o to)(hi:PE X i ti)(hs:QbM X t)
  (ha:∀v,assign (.Subscript o i pos) X.env v=(do
   let ov←holding [v] (eval o X.env)
   let iv←holding [v,ov] (eval i X.env)
   standAt pos
   holding [v,ov,iv] (setItem ov iv v)
   release [v,ov,iv] []):=by intro _;rfl):PG X (.Subscript o i pos) (Qb3 to ti t):=by
 intro pins s σ H v u Q I r h
 rw[ha]
 refine wpAny_bind (wpAny_holding (thn (ho pins s σ H _ I h) fun ov s1⟨x,H1,I1,r1,q1⟩=>?_))
 refine wpAny_bind (wpAny_holding (thn (hi pins s1 σ H1 _ I1 q1) fun iv s2⟨y,H2,I2,r2,q2⟩=>?_))
 refine wpAny_bind (wpAny_standAt (wpAny_bind (wpAny_holding (thn (hs pins s2 σ H2 x y v ov iv u _ I2 r1 r2 r q2) fun _ s3⟨H3,I3,q3⟩=>?_))))
 exact wpAny_release ⟨σ,H3,I3,q3⟩
noncomputable def KL(te:TE)(g:TG):TS:=fun D σ H=>te σ H fun x H1=>g x σ H1 D.nx
theorem Jf{tg e:Expr}{te:TE}{g:TG}(he:PE X e te)(hg:PG X tg g)(hs:swapsWithSole [tg] e pos.line X.env=pure false:=by rfl)(hw:swappedStores [tg] e X.env=pure none:=by rfl)
  (h1:(assignEach [tg] X.env).map (·.2)=[assign tg X.env]:=by rfl):PS X (.Assign [tg] e pos) (KL te g):=by
 intro pins s σ H D I h
 refine wpAny_Assign_stores (thn (he pins s σ H _ I h) fun v s1⟨x,H1,I1,r1,q1⟩=>?_) hs hw
 rw[h1]
 exact thn (hg pins s1 σ H1 x v _ I1 r1 q1) fun _ s2 q=>q
theorem Qm{i:Nat}{x:Str}{e:Expr}{te:TE}{pos':Pos}(hN:X.N.Nodup)(hi:X.N[i]? =some x)(hx:Loc X.env.scope x)(he:PE X e te)(hs:swapsWith e (some (.Name x pos')) pos.line X.env=pure false:=by rfl)(hf:X.fn x=true∨X.env.scope.names.lookup x=some .local:=by first|exact .inl rfl|exact .inr rfl|assumption):
  PS X (.Assign [.Name x pos'] e pos) (KL te (JD i)):=by
 intro pins s σ H D I h
 refine wpAny_Assign_Name (thn (he pins s σ H _ I h) fun v s1⟨y,H1,I1,r1,q1⟩=>?_) hs
 exact Zk I1 hN hi hx r1 (fun s2 I2=>⟨_,H1,I2,q1⟩) hf
noncomputable def Qb4(i j:Nat)(ta:TA):TS:=fun D σ H=>ta σ H fun vs H1=>∃v w,vs=[v,w]∧D.nx ((σ.set i (some v)).set j (some w)) H1
theorem jp{i j:Nat}{x y:Str}{a b:Expr}{ta:TA}{px py pt:Pos}{kt k2 pt2}(hc:X.calm=true)(hN:X.N.Nodup)(hi:X.N[i]? =some x)(hj:X.N[j]? =some y)(hij:i≠j)
  (hx:X.env.scope.names.lookup x=some .local) (hy:X.env.scope.names.lookup y=some .local) (ha:PA X [a,b] ta)
  (hw:swappedStores [.Tuple [.Name x px,.Name y py] kt pt] (.Tuple [a,b] k2 pt2) X.env=pure (some [x,y]))
  (hs:swapsWithSole [.Tuple [.Name x px,.Name y py] kt pt] (.Tuple [a,b] k2 pt2) pos.line X.env=pure false:=by rfl):
  PS X (.Assign [.Tuple [.Name x px,.Name y py] kt pt] (.Tuple [a,b] k2 pt2) pos) (Qb4 i j ta):=by
 intro pins s σ H D I h
 rw[exec_Assign_arm]
 refine wpAny_bind (wpAny_standAt ?_)
 rw[hs]
 refine wpAny_bind (wpAny_pure ?_)
 rw[if_neg (by decide)]
 refine wpAny_bind (Tuple_ (thn (ha _ pins s σ H _ I h) fun us s1⟨vs,H1,I1,r1,q1⟩=>?_))
 obtain⟨v,w,e1,q1⟩:=q1
 subst e1
 obtain⟨u1,u2,rfl,rv,rw'⟩:∃u1 u2,us=[u1,u2]∧RelV v u1∧RelV w u2:=by
  cases r1 with
  |cons p q=>
   cases q with
   |cons p' q'=>
    cases q'
    exact⟨_,_,rfl,p,p'⟩
 refine wpAny_newObj_type ?_ (by show 2≤sizeLine;decide)
 have I2:Inv X pins σ H1 {s1 with heap:=s1.heap.push {cls:=.type "tuple",data:=.seq [u1,u2].toArray}}:=I1.kept (t':=s1.toks) fun b o e=>Heap.get?_push_of_some _ e
 rw[hw]
 refine wpAny_bind (wpAny_pure ?_)
 show wpAny (model X.prog X.w) X.A (do rule "assign.swapped-stores";let items←unpackItems (.ref s1.heap.objs.size) 2 none;assignInOrder [fun v=>bindName X.env y v,fun v=>bindName X.env x v] items.reverse;pure Flow.next) _ _ _
 refine wpAny_bind (wpAny_rule (wpAny_bind (unpackItems_tuple (items:= #[u1,u2]) (I.ok.hd hc) (IsTup.new s1.heap _) fun h' hx'=>?_)))
 have I3:=I2.kept (h':=h') (t':=s1.toks) fun b o e=>hx' b o (Nat.ne_of_lt (Heap.lt_size e)) e
 show wpAny _ _ (assignInOrder [fun v=>bindName X.env y v,fun v=>bindName X.env x v] [u2,u1]>>=fun _=>pure Flow.next) _ _ _
 refine wpAny_bind (assignInOrder_cons (wpAny_bindName (Zk I3 hN hj (.inl hy) rw' (fun s2 I4=>?_) (.inr hy))))
 refine assignInOrder_cons (wpAny_bindName (Zk I4 hN hi (.inl hx) rv (fun s3 I5=>assignInOrder_nil (wpAny_pure ?_)) (.inr hx)))
 rw[List.set_comm _ _ (Ne.symm hij)]at I5
 exact⟨_,H1,I5,q1⟩
noncomputable def Qb5(i:Nat)(te:TE)(ti:TIp):TS:=fun D σ H=>∃x,σ[i]? =some (some x)∧te σ H fun y H1=>ti x y H1 fun z H2=>D.nx (σ.set i (some z)) H2
theorem K7{i:Nat}{x:Str}{e:Expr}{te:TE}{op:Operator}{ti:TIp}{pos':Pos}(hN:X.N.Nodup)(hi:X.N[i]? =some x)(hx:Loc X.env.scope x)(he:PE X e te)(ho:PIp X op ti)(hf:X.fn x=true∨X.env.scope.names.lookup x=some .local:=by first|exact .inl rfl|exact .inr rfl|assumption):
  PS X (.AugAssign (.Name x pos') op e pos) (Qb5 i te ti):=by
 intro pins s σ H D I h
 obtain⟨v,e1,h⟩:=h
 obtain⟨m,hn,hl⟩:=I.loc
 have vis:Vis X.env.scope x:=by rcases hx with k|k;exact .inl k;exact .inr (.inl k)
 obtain⟨u,r,l⟩:=hl i x v hi e1 vis
 refine wpAny_AugAssign_Name ?_
 have go:wpAny (model X.prog X.w) X.A (eval e X.env) (fun w s₂=>wpAny (model X.prog X.w) X.A (inplaceOp op u w) (fun r s₃=>wpAny (model X.prog X.w) X.A (storeName X.env x r) (fun _=>SP X pins D .next) X.xe s₃) X.xe s₂) X.xe s:=by
  refine thn (he pins s σ H _ I h) fun w s1⟨y,H1,I1,r1,q1⟩=>?_
  refine thn (ho pins s1 σ H1 v y u w _ I1 r r1 q1) fun z s2⟨zv,H2,I2,r2,q2⟩=>?_
  exact Zk I2 hN hi hx r2 (fun s3 I3=>⟨_,H2,I3,q2⟩) hf
 rcases l with⟨hk,hm⟩|⟨hk,c,hc,hcell⟩
 ·exact wpAny_loadName_local I.ok.kind hk hn hm go
 ·rcases hk with hk|hk
  ·exact wpAny_loadName_cell I.ok.kind hk hc hcell go
  ·rcases hx with k|k
   ·have:X.env.scope.names.lookup x=some .free:=hk
    rw[k]at this;cases this
   ·have:X.env.scope.names.lookup x=some .free:=hk
    rw[k]at this;cases this
noncomputable def ipI(f:Int→Int→Int):TIp:=fun x y H Q=>∃i j,x=.int i∧y=.int j∧Q (.int (f i j)) H
theorem W5:PIp X .Add (ipI fun i j=>i+j):=by
 intro pins s σ H x y v u Q I r1 r2 h
 obtain⟨i,j,e1,e2,q⟩:=h
 subst e1;subst e2
 obtain⟨t,rfl⟩:=r1
 obtain⟨t',rfl⟩:=r2
 exact iadd_int ⟨.int _,H,I.tok _,⟨_,rfl⟩,q⟩
end
section
variable {X:Cx}{pos:Pos}
noncomputable def yr(c:TT)(tb:TS):TS:=fun D σ H=>∃W:Nat→St→Hp→Prop,(∃m,W m σ H)∧∀m σ H,W m σ H→
 c σ H fun b H1=>if b=true then ∃N:St→Hp→Prop,(∀σ' H',N σ' H'→∃m',m'<m∧W m' σ' H')∧tb {D with nx:=N,ct:=N,bk:=D.nx} σ H1 else D.nx σ H1
theorem KM{c:Expr}{body:List Stmt}{tc:TT}{tb:TS}(hp:PassesOwn (model X.prog X.w) X.A X.env X.xe)(hc:PT X c tc)(hb:PSs X body tb):PS X (.While c body [] pos) (yr tc tb):=by
 intro pins s σ H D I h
 obtain⟨W,⟨m0,w0⟩,turn⟩:=h
 refine wpAny_While (codeAny_whileLoop (fun n s'=>∃σ' H',Inv X pins σ' H' s'∧W n σ' H') ?_ m0 ⟨σ,H,I,w0⟩)
 rintro n s1 ⟨σ1,H1,I1,w1⟩
 refine wpAny_passesOwn hp (thn (hc pins s1 σ1 H1 _ I1 (turn n σ1 H1 w1)) fun b s2⟨H2,I2,q2⟩=>?_)
 cases b with
 |true=>
  obtain⟨N,hN,q2⟩:=q2
  rw[if_pos rfl]
  refine wpAny_passesOwn hp (thn (hb pins s2 σ1 H2 _ I2 q2) fun f s3 q3=>?_)
  cases f with
  |next=>
   obtain⟨σ3,H3,I3,n3⟩:=q3
   obtain⟨m',hm,w3⟩:=hN σ3 H3 n3
   exact⟨m',hm,σ3,H3,I3,w3⟩
  |cont=>
   obtain⟨σ3,H3,I3,n3⟩:=q3
   obtain⟨m',hm,w3⟩:=hN σ3 H3 n3
   exact⟨m',hm,σ3,H3,I3,w3⟩
  |brk=>exact q3
  |ret v=>exact q3
 |false=>
  rw[if_neg Bool.false_ne_true]
  exact wpAny_execs_nil ⟨σ1,H2,I2,q2⟩
end
structure It where
 go:Nat→Hp→Prop
 yld:Nat→Hp→V→Hp→Prop
 stop:Nat→Hp→Prop
noncomputable def jq(X:Cx)(pins:List (Addr × Obj))(H:Hp)(b:Addr):Prop:=
 H b=none∧b≠X.env.locals∧b∉X.fs∧(b∈X.ex∨X.s₀.heap.objs.size≤b)∧(∀x c,X.env.cells.lookup x=some c→c≠b)∧∀p∈X.pn++pins,p.1≠b
theorem Inv.xi{X:Cx}{pins:List (Addr × Obj)}{σ:St}{H H':Hp}{s:Shared}{b:Addr}(I:Inv X pins σ H s)(hb:s.heap.objs.size≤b)(hn:H' b=none):jq X pins H' b:=by
 refine⟨hn,Nat.ne_of_gt (Nat.lt_of_lt_of_le I.lt hb),I.QbY hb,.inr (Nat.le_trans I.sz hb),fun x c e z=>?_,fun p hp z=>?_⟩
 ·obtain⟨v,q⟩:=I.cell x c e
  exact absurd (Nat.lt_of_lt_of_le q.lt (by rw[z];exact hb)) (Nat.lt_irrefl _)
 ·exact absurd (Nat.lt_of_lt_of_le (Heap.lt_size (I.pin p hp).1) (by rw[z];exact hb)) (Nat.lt_irrefl _)
structure Turn(P:Program)(w:World)(K:PySem.W.Frag)(tg:Expr)(J:It)(fp:List Addr)(it:Addr)(tn:Nat→Heap→Prop):Prop where
 mem:it∈fp
 obj:∀i h,tn i h→∀b∈fp,∃o,h.get? b=some o∧∀v,o.data≠ .cell v
 keep:∀i h h',tn i h→(∀b∈fp,∀o,h.get? b=some o→h'.get? b=some o)→tn i h'
 item:∀(X:Cx),X.prog=P→X.w=w→X.K=K→X.calm=true→∀(i:Nat)(pins:List (Addr × Obj))(s:Shared)(σ:St)(H:Hp)(E:Value→Shared→Prop),Inv X pins σ H s→(∀b∈fp,jq X pins H b)→tn i s.heap→J.go i H→
  wpAny (model P w) X.A (pyNext (.ref it)) (fun r s1=>∃u,r=some u∧
   wpAny (model P w) X.A (letOwnedTupleGo tg (.ref it) u) (fun _ s2=>∃x H',Inv X pins σ H' s2∧RelV x u∧J.yld i H x H'∧tn (i+1) s2.heap∧∀b∈fp,H' b=none) E s1) E s
 done:∀(X:Cx),X.prog=P→X.w=w→X.K=K→X.calm=true→∀(i:Nat)(pins:List (Addr × Obj))(s:Shared)(σ:St)(H:Hp)(E:Value→Shared→Prop),Inv X pins σ H s→(∀b∈fp,jq X pins H b)→tn i s.heap→J.stop i H→
  wpAny (model P w) X.A (pyNext (.ref it)) (fun r s1=>r=none∧Inv X pins σ H s1) E s
 self:∀(A:Around)(i:Nat)(s:Shared)(Q:Value→Shared→Prop)(E:Value→Shared→Prop),tn i s.heap→Q (.ref it) s→wpAny (model P w) A (pyIter (.ref it)) Q E s
noncomputable abbrev TI:=St→Hp→(It→Hp→Prop)→Prop
noncomputable def PIE(X:Cx)(pins:List (Addr × Obj))(σ:St)(tg:Expr)(R:It→Hp→Prop)(itv:Value)(s2:Shared):Prop:=
 ∃(it:Addr)(fp:List Addr)(tn:Nat→Heap→Prop)(J:It)(H':Hp),itv=.ref it∧Inv X pins σ H' s2∧Turn X.prog X.w X.K tg J fp it tn∧tn 0 s2.heap∧(∀b∈fp,jq X pins H' b)∧R J H'
noncomputable def PI(X:Cx)(tg iter:Expr)(wi:TI):Prop:=
 ∀(pins:List (Addr × Obj))(s:Shared)(σ:St)(H:Hp)(R:It→Hp→Prop),Inv X pins σ H s→wi σ H R→
  wpAny (model X.prog X.w) X.A (eval iter X.env) (fun v s1=>wpAny (model X.prog X.w) X.A (pyIter v) (PIE X pins σ tg R) X.xe s1) X.xe s
theorem jr{M:Model}{A:Around}{E:Value→Shared→Prop}{s:Shared}{tg:Expr}{it:Addr}{u:Value}{o:Obj}{n:String}{vs:Array Value}{Q:Unit→Shared→Prop}(ho:s.heap.get? it=some o)(hc:o.cls=.type n)(hd:o.data=.fields vs)
  (hn:["enumerate","zip","dict_itemiterator","dict_reverseitemiterator","odict_iterator","itertools.zip_longest","itertools.pairwise"].contains n=false) (hQ:Q () s):wpAny M A (letOwnedTupleGo tg (.ref it) u) Q E s:=by
 unfold letOwnedTupleGo
 cases tg<;>first
  |exact wpAny_pure hQ
  |(cases u<;>first
    |exact wpAny_pure hQ
    |(refine wpAny_bind (wpAny_load ho ?_)
      rw[hc,hd]
      show wpAny M A (if(["enumerate","zip","dict_itemiterator","dict_reverseitemiterator","odict_iterator","itertools.zip_longest","itertools.pairwise"].contains n&&vs[0]? ==some (rawInt _))=true then _ else _) Q E s
      rw[if_neg (by intro h;rw[hn,Bool.false_and]at h;cases h)]
      exact wpAny_pure hQ))
noncomputable def Itl(K:PySem.W.Frag)(a:Addr):It:=
 ⟨fun i H=>∃xs x,SqL K H a xs∧xs[i]? =some x,fun i H x H'=>H'=H∧∀xs,SqL K H a xs→xs[i]? =some x,fun i H=>∃xs,SqL K H a xs∧xs.length≤i⟩
noncomputable def Itt(K:PySem.W.Frag)(a:Addr):It:=
 ⟨fun i H=>∃xs x,SqT K H a xs∧xs[i]? =some x,fun i H x H'=>H'=H∧∀xs,SqT K H a xs→xs[i]? =some x,fun i H=>∃xs,SqT K H a xs∧xs.length≤i⟩
noncomputable def Itr(lo:Int)(n:Nat):It:=⟨fun i _=>i<n,fun i H x H'=>H'=H∧x=.int (lo+i),fun i _=>n≤i⟩
theorem js{P:Program}{w:World}{K:PySem.W.Frag}{tg:Expr}(a it:Addr):Turn P w K tg (Itl K a) [it] it (fun i h=>h.IsListIter it a i) where
 mem:=by simp
 obj:=fun i h st b hb=>by
  have e:b=it:=by simpa using hb
  subst e
  obtain⟨o,e,c,d⟩:=st
  exact⟨o,e,fun v z=>by rw[d]at z;cases z⟩
 keep:=fun i h h' st k=>st.at fun o e=>k it (by simp) o e
 item:=by
  intro X hP hw hK hc i pins s σ H E I hf st hg
  subst hP hw hK
  obtain⟨xs,x,hq,hx⟩:=hg
  obtain⟨its,rv,p,hz⟩:=I.list hq
  obtain⟨u,hu,ru⟩:=rv.get hx
  obtain⟨f0,f1,f2,f3,f4,f5⟩:=hf it (by simp)
  refine wpAny_pyNext_list_item st p.isList (x:=u) (by simpa using hu) fun h' st' sb=>?_
  have I1:Inv X pins σ H {s with heap:=h'}:=I.turned (t':=s.toks) (fun b o hb e=>(sb.2 b hb).trans e) f0 f1 f3 f4 f5
  obtain⟨o,e,c,d⟩:=id st'
  exact⟨u,rfl,jr (s:={s with heap:=h'}) e c d (by decide) ⟨x,H,I1,ru,⟨rfl,fun ys hy=>by rw[I.xh hy hq];exact hx⟩,st',fun b hb=>(hf b hb).1⟩⟩
 done:=by
  intro X hP hw hK hc i pins s σ H E I hf st hg
  subst hP hw hK
  obtain⟨xs,hq,hx⟩:=hg
  obtain⟨its,rv,p,hz⟩:=I.list hq
  obtain⟨f0,f1,f2,f3,f4,f5⟩:=hf it (by simp)
  have hl:=rv.length
  exact wpAny_pyNext_list_end (I.ok.hd hc) st p.isList (by simp;omega) fun h' eb=>⟨rfl,I.turned (t':=s.toks) (fun b o hb e=>eb b o hb e) f0 f1 f3 f4 f5⟩
 self:=fun _ _ _ _ _ st h=>wpAny_pyIter_listiter st h
theorem qC{P:Program}{w:World}{K:PySem.W.Frag}{tg:Expr}(a it:Addr):Turn P w K tg (Itt K a) [it] it (fun i h=>h.IsTupleIter it a i) where
 mem:=by simp
 obj:=fun i h st b hb=>by
  have e:b=it:=by simpa using hb
  subst e
  obtain⟨o,e,c,d⟩:=st
  exact⟨o,e,fun v z=>by rw[d]at z;cases z⟩
 keep:=fun i h h' st k=>st.at fun o e=>k it (by simp) o e
 item:=by
  intro X hP hw hK hc i pins s σ H E I hf st hg
  subst hP hw hK
  obtain⟨xs,x,hq,hx⟩:=hg
  obtain⟨its,rv,p,hz⟩:=I.tuple hq
  obtain⟨u,hu,ru⟩:=rv.get hx
  obtain⟨f0,f1,f2,f3,f4,f5⟩:=hf it (by simp)
  refine wpAny_pyNext_tuple_item st (show s.heap.IsTuple a its.toArray from p) (x:=u) (by simpa using hu) fun h' st' sb=>?_
  have I1:Inv X pins σ H {s with heap:=h'}:=I.turned (t':=s.toks) (fun b o hb e=>(sb.2 b hb).trans e) f0 f1 f3 f4 f5
  obtain⟨o,e,c,d⟩:=id st'
  exact⟨u,rfl,jr (s:={s with heap:=h'}) e c d (by decide) ⟨x,H,I1,ru,⟨rfl,fun ys hy=>by rw[I.jo hy hq];exact hx⟩,st',fun b hb=>(hf b hb).1⟩⟩
 done:=by
  intro X hP hw hK hc i pins s σ H E I hf st hg
  subst hP hw hK
  obtain⟨xs,hq,hx⟩:=hg
  obtain⟨its,rv,p,hz⟩:=I.tuple hq
  obtain⟨f0,f1,f2,f3,f4,f5⟩:=hf it (by simp)
  have hl:=rv.length
  exact wpAny_pyNext_tuple_end (I.ok.hd hc) st (show s.heap.IsTuple a its.toArray from p) (by simp;omega) fun h' eb=>⟨rfl,I.turned (t':=s.toks) (fun b o hb e=>eb b o hb e) f0 f1 f3 f4 f5⟩
 self:=fun _ _ _ _ _ st h=>wpAny_pyIter_tupleiter st h
theorem qD{P:Program}{w:World}{K:PySem.W.Frag}{tg:Expr}(it:Addr)(lo:Int)(n:Nat):Turn P w K tg (Itr lo n) [it] it (fun i h=>IsRangeIter h it (lo+(i:Nat)*1) ((n:Int)-(i:Nat)) 1) where
 mem:=by simp
 obj:=fun i h st b hb=>by
  have e:b=it:=by simpa using hb
  subst e
  exact⟨_,st,fun v z=>by
   have z':Data.fields _=Data.cell v:=z
   cases z'⟩
 keep:=fun i h h' st k=>k it (by simp) _ st
 item:=by
  intro X hP hw hK hc i pins s σ H E I hf st hg
  subst hP hw hK
  obtain⟨f0,f1,f2,f3,f4,f5⟩:=hf it (by simp)
  have W:=Walks.range (prog:=X.prog) (w:=X.w) (I.ok.hd hc) it lo 1 n
  refine W.item i s _ _ hg st fun v h' tk hv st' kk=>?_
  obtain⟨t,rfl⟩:=hv
  have I1:Inv X pins σ H {s with heap:=h',toks:=tk}:=I.turned (fun b o hb e=>kk b o (by simpa using hb) e) f0 f1 f3 f4 f5
  refine⟨_,rfl,jr (s:={s with heap:=h',toks:=tk}) (n:="range_iterator") st' rfl rfl (by decide) ⟨.int (lo+i),H,I1,⟨t,?_⟩,⟨rfl,rfl⟩,st',fun b hb=>(hf b hb).1⟩⟩
  rw[Int.mul_one]
 done:=by
  intro X hP hw hK hc i pins s σ H E I hf st hg
  subst hP hw hK
  obtain⟨f0,f1,f2,f3,f4,f5⟩:=hf it (by simp)
  exact wpAny_pyNext_range_end (I.ok.hd hc) st (by have:n≤i:=hg;omega) fun h' eb=>⟨rfl,I.turned (t':=s.toks) (fun b o hb e=>eb b o hb e) f0 f1 f3 f4 f5⟩
 self:=fun _ _ _ _ _ st h=>wpAny_pyIter_rangeiter st h
end L2
namespace L2
open PySem PySem.Spec PyProof.Rows
section
variable {X:Cx}{tg:Expr}
noncomputable def wI(K:PySem.W.Frag)(tl:TE):TI:=fun σ H R=>tl σ H fun x H1=>∃a,x=.ref a∧(∃xs,SqL K H1 a xs)∧R (Itl K a) H1
noncomputable def QbN(K:PySem.W.Frag)(tl:TE):TI:=fun σ H R=>tl σ H fun x H1=>∃a,x=.ref a∧(∃xs,SqT K H1 a xs)∧R (Itt K a) H1
theorem Ke{l:Expr}{tl:TE}(hl:PE X l tl):PI X tg l (wI X.K tl):=by
 intro pins s σ H R I h
 refine thn (hl pins s σ H _ I h) fun v s1⟨x,H1,I1,r1,q1⟩=>?_
 obtain⟨a,e,⟨xs,hq⟩,q⟩:=q1
 subst e
 cases r1
 obtain⟨its,rv,p,hz⟩:=I1.list hq
 refine wpAny_pyIter_list p.isList ?_
 refine⟨s1.heap.objs.size,[s1.heap.objs.size],_,_,H1,rfl,I1.kept (t':=s1.toks) fun b o e=>Heap.get?_push_of_some _ e,js a _,⟨_,Heap.get?_push_size _ rfl,rfl,rfl⟩,fun b hb=>?_,q⟩
 have e:b=s1.heap.objs.size:=by simpa using hb
 subst e
 exact I1.xi (Nat.le_refl _) (I1.hok.fresh (Nat.le_refl _))
theorem kY{l:Expr}{tl:TE}(hl:PE X l tl):PI X tg l (QbN X.K tl):=by
 intro pins s σ H R I h
 refine thn (hl pins s σ H _ I h) fun v s1⟨x,H1,I1,r1,q1⟩=>?_
 obtain⟨a,e,⟨xs,hq⟩,q⟩:=q1
 subst e
 cases r1
 obtain⟨its,rv,p,hz⟩:=I1.tuple hq
 refine wpAny_pyIter_tuple (show s1.heap.IsTuple a its.toArray from p) ?_
 refine⟨s1.heap.objs.size,[s1.heap.objs.size],_,_,H1,rfl,I1.kept (t':=s1.toks) fun b o e=>Heap.get?_push_of_some _ e,qC a _,⟨_,Heap.get?_push_size _ rfl,rfl,rfl⟩,fun b hb=>?_,q⟩
 have e:b=s1.heap.objs.size:=by simpa using hb
 subst e
 exact I1.xi (Nat.le_refl _) (I1.hok.fresh (Nat.le_refl _))
theorem xj{pins:List (Addr × Obj)}{σ:St}{H:Hp}{s:Shared}{R:It→Hp→Prop}{E:Value→Shared→Prop}{lo hi:Int}{t u v:Tok}{tk:Nat}(I:Inv X pins σ H s)(h1: -(2^62)≤lo)(h2:lo<2^62)(h3: -(2^62)≤hi)(h4:hi<2^62)
  (q:R (Itr lo (hi-lo).toNat) H):wpAny (model X.prog X.w) X.A (pyIter (.ref s.heap.objs.size)) (PIE X pins σ tg R) E {s with heap:=s.heap.push {cls:=.type "range",data:=.fields #[.int lo t,.int hi u,.int 1 v]},toks:=tk}:=by
 refine wpAny_pyIter_range (IsRange.new ..) (small_one h1 h2 h3 h4) ?_
 have I1:Inv X pins σ H {s with heap:=s.heap.push {cls:=.type "range",data:=.fields #[.int lo t,.int hi u,.int 1 v]},toks:=tk}:=I.kept fun b o e=>Heap.get?_push_of_some _ e
 refine⟨(s.heap.push {cls:=.type "range",data:=.fields #[.int lo t,.int hi u,.int 1 v]}).objs.size,[(s.heap.push {cls:=.type "range",data:=.fields #[.int lo t,.int hi u,.int 1 v]}).objs.size],_,_,H,rfl,
  I1.kept (t':=tk) fun b o e=>Heap.get?_push_of_some _ e,qD _ lo (hi-lo).toNat,?_,fun b hb=>?_,q⟩
 ·have e1:lo+((0:Nat):Int)*1=lo:=by simp
  have e2:(((hi-lo).toNat:Nat):Int)-((0:Nat):Int)=Builtin.Range.rangeSize lo hi 1:=by rw[rangeSize_one];split<;>omega
  show IsRangeIter _ _ (lo+((0:Nat):Int)*1) ((((hi-lo).toNat:Nat):Int)-((0:Nat):Int)) 1
  rw[e1,e2]
  exact Heap.get?_push_size _ rfl
 ·have e:b=(s.heap.push {cls:=.type "range",data:=.fields #[.int lo t,.int hi u,.int 1 v]}).objs.size:=by simpa using hb
  subst e
  exact I1.xi (Nat.le_refl _) (I1.hok.fresh (Nat.le_refl _))
noncomputable def QaV(ta:TA):TI:=fun σ H R=>ta σ H fun vs H1=>∃j:Int,vs=[.int j]∧ -(2^62)≤j∧j<2^62∧R (Itr 0 j.toNat) H1
theorem XT{a:Expr}{ta:TA}{p pos:Pos}(hg:Gl X "range")(hm:X.mg "range"=none)(ha:PA X [a] ta)(hs:starEach [a] X.env=[(false,eval a X.env)]:=by rfl):PI X tg (.Call (.Name "range" p) [a] [] pos) (QaV ta):=by
 intro pins s σ H R I h
 refine Call_ (K5 I hg hm boot_range (PyProof.Rows.callWith_type1 (thn (ha pos pins s σ H _ I h) fun us s1⟨vs,H1,I1,r1,q1⟩=>?_) hs rfl))
 obtain⟨j,e,q1,q2,q⟩:=q1
 subst e
 cases r1 with
 |cons r rr=>
  cases rr
  obtain⟨t,rfl⟩:=r
  exact call_range_1 (xj I1 (by omega) (by omega) q1 q2 (by simpa using q))
noncomputable def Qb6(wi:TI)(g:TG)(tb:TS):TS:=fun D σ H=>wi σ H fun J H1=>∃W:Nat→Nat→St→Hp→Prop,(∃m,W 0 m σ H1)∧∀i m σ H,W i m σ H→
 (J.stop i H∧D.nx σ H)∨(J.go i H∧∃N:St→Hp→Prop,(∀σ' H',N σ' H'→∃m',m'<m∧W (i+1) m' σ' H')∧∀x H',J.yld i H x H'→g x σ H' fun σ2 H2=>tb {D with nx:=N,ct:=N,bk:=D.nx} σ2 H2)
noncomputable def K8(fp:List Addr)(h:Heap):List (Addr × Obj):=fp.filterMap fun b=>(h.get? b).map fun o=>(b,o)
theorem JO{fp:List Addr}{h:Heap}{b:Addr}{o:Obj}(hb:b∈fp)(e:h.get? b=some o):(b,o)∈K8 fp h:=List.mem_filterMap.mpr ⟨b,hb,by rw[e];rfl⟩
theorem jt{fp:List Addr}{h:Heap}{p:Addr × Obj}(hp:p∈K8 fp h):p.1∈fp∧h.get? p.1=some p.2:=by
 obtain⟨b,hb,e⟩:=List.mem_filterMap.mp hp
 cases q:h.get? b with
 |none=>rw[q]at e;cases e
 |some o=>
  rw[q]at e
  have e':(b,o)=p:=Option.some.inj e
  subst e'
  exact⟨hb,q⟩
theorem Inv.pinned{pins:List (Addr × Obj)}{σ:St}{H:Hp}{s:Shared}{fp:List Addr}(I:Inv X pins σ H s)(hf:∀b∈fp,jq X pins H b) (ho:∀b∈fp,∃o,s.heap.get? b=some o∧∀v,o.data≠ .cell v):Inv X (pins++K8 fp s.heap) σ H s:=
 I.Z1 fun p hp=>(List.mem_append.mp hp).elim (fun z=>I.pin p (List.mem_append_right _ z)) fun z=>by
  obtain⟨hb,e⟩:=jt z
  obtain⟨f0,f1,f2,_⟩:=hf p.1 hb
  obtain⟨o,e',d⟩:=ho p.1 hb
  rw[e]at e';cases e'
  exact⟨e,f0,f1,f2,d⟩
theorem Inv.Zl{pins pl:List (Addr × Obj)}{σ:St}{H:Hp}{s:Shared}(I:Inv X (pins++pl) σ H s):Inv X pins σ H s:=I.Z1 fun p hp=>I.pin p (List.mem_append_right _ (List.mem_append_left _ hp))
theorem Xr{iter:Expr}{body:List Stmt}{wi:TI}{g:TG}{tb:TS}{pos:Pos}(hp:PassesOwn (model X.prog X.w) X.A X.env X.xe)(hc:X.calm=true)(hi:PI X tg iter wi)(hg:PG X tg g)(hb:PSs X body tb)
  (hs:∀x,foldedSetIterable iter X.env x=pure x:=by intro _;rfl):PS X (.For tg iter body [] pos) (Qb6 wi g tb):=by
 intro pins s σ H D I h
 refine wpAny_For (thn (hi pins s σ H _ I h) fun v s1 h1=>thn h1 fun itv s2 h2=>?_) hs
 obtain⟨it,fp,tn,J,H2,e,I2,T,st2,f2,W,⟨m0,w0⟩,turn⟩:=h2
 subst e
 have stat:∀{H':Hp},(∀b∈fp,H' b=none)→∀b∈fp,jq X pins H' b:=fun hn b hb=>⟨hn b hb,(f2 b hb).2⟩
 refine codeAny_forLoop_any (fun n s'=>∃i σ' H',Inv X pins σ' H' s'∧tn i s'.heap∧(∀b∈fp,H' b=none)∧W i n σ' H') ?_ m0 ⟨0,σ,H2,I2,st2,fun b hb=>(f2 b hb).1,w0⟩
 rintro n s3 ⟨i,σ3,H3,I3,st3,fr3,w3⟩
 rcases turn i n σ3 H3 w3 with⟨stop,qn⟩|⟨go,N,hN,step⟩
 ·refine wpAny_passesOwn hp (thn (T.done X rfl rfl rfl hc i pins s3 σ3 H3 X.xe I3 (stat fr3) st3 stop) fun r s4⟨hr,I4⟩=>?_)
  subst hr
  exact wpAny_execs_nil ⟨σ3,H3,I4,qn⟩
 ·refine wpAny_passesOwn hp (thn (T.item X rfl rfl rfl hc i pins s3 σ3 H3 X.xe I3 (stat fr3) st3 go) fun r s4⟨u,hr,h4⟩=>?_)
  subst hr
  refine wpAny_passesOwn hp (thn h4 fun _ s5⟨x,H5,I5,r5,y5,st5,fr5⟩=>?_)
  have I5':=I5.pinned (stat fr5) (T.obj _ _ st5)
  refine wpAny_passesOwn hp (thn (hg _ s5 σ3 H5 x u _ I5' r5 (step x H5 y5)) fun _ s6⟨σ6,H6,I6,q6⟩=>?_)
  refine wpAny_passesOwn hp (thn (hb _ s6 σ6 H6 _ I6 q6) fun f s7 q7=>?_)
  have again:∀{σ7:St}{H7:Hp},Inv X (pins++K8 fp s5.heap) σ7 H7 s7→N σ7 H7→∃m,m<n∧∃i σ' H',Inv X pins σ' H' s7∧tn i s7.heap∧(∀b∈fp,H' b=none)∧W i m σ' H':=fun{σ7 H7} I7 n7=>by
   obtain⟨m',hm,w7⟩:=hN σ7 H7 n7
   refine⟨m',hm,i+1,σ7,H7,I7.Zl,T.keep _ _ _ st5 fun b hb o e=>(I7.pin (b,o) (List.mem_append_right _ (List.mem_append_right _ (JO hb e)))).1,fun b hb=>?_,w7⟩
   obtain⟨o,e,d⟩:=T.obj _ _ st5 b hb
   exact(I7.pin (b,o) (List.mem_append_right _ (List.mem_append_right _ (JO hb e)))).2.1
  cases f with
  |next=>obtain⟨σ7,H7,I7,n7⟩:=q7;exact again I7 n7
  |cont=>obtain⟨σ7,H7,I7,n7⟩:=q7;exact again I7 n7
  |brk=>obtain⟨σ7,H7,I7,q7⟩:=q7;exact⟨σ7,H7,I7.Zl,q7⟩
  |ret v=>obtain⟨x7,σ7,H7,I7,r7,q7⟩:=q7;exact⟨x7,σ7,H7,I7.Zl,r7,q7⟩
end
theorem xk{K:PySem.W.Frag}{a:Addr}{xs:List V}{g:TG}{tb:TS}{D:Ends}{σ:St}{H:Hp}(Pv:Nat→St→Hp→Prop)(h0:Pv 0 σ H)(hl:∀i σ H,i≤xs.length→Pv i σ H→SqL K H a xs)
  (hs:∀i x σ H,xs[i]? =some x→Pv i σ H→g x σ H fun σ2 H2=>tb {D with nx:=Pv (i+1),ct:=Pv (i+1),bk:=D.nx} σ2 H2) (hd:∀σ H,Pv xs.length σ H→D.nx σ H):
  ∃W:Nat→Nat→St→Hp→Prop,(∃m,W 0 m σ H)∧∀i m σ H,W i m σ H→
   ((Itl K a).stop i H∧D.nx σ H)∨((Itl K a).go i H∧∃N:St→Hp→Prop,(∀σ' H',N σ' H'→∃m',m'<m∧W (i+1) m' σ' H')∧∀x H',(Itl K a).yld i H x H'→g x σ H' fun σ2 H2=>tb {D with nx:=N,ct:=N,bk:=D.nx} σ2 H2):=by
 refine⟨fun i m σ H=>m=xs.length-i∧i≤xs.length∧Pv i σ H,⟨xs.length,by simp,Nat.zero_le _,h0⟩,?_⟩
 rintro i m σ H ⟨rfl,hi,p⟩
 have q:=hl i σ H hi p
 by_cases hlt:i<xs.length
 ·refine .inr ⟨⟨xs,xs[i],q,by simp[hlt]⟩,Pv (i+1),fun σ' H' p'=>⟨xs.length-(i+1),by omega,rfl,hlt,p'⟩,fun x H' y=>?_⟩
  obtain⟨e,y⟩:=y
  subst e
  exact hs i x σ _ (y xs q) p
 ·have e:i=xs.length:=by omega
  subst e
  exact .inl ⟨⟨xs,q,Nat.le_refl _⟩,hd σ H p⟩
theorem wJ{K:PySem.W.Frag}{a:Addr}{xs:List V}{g:TG}{tb:TS}{D:Ends}{σ:St}{H:Hp}(Pv:Nat→St→Hp→Prop)(h0:Pv 0 σ H)(hl:∀i σ H,i≤xs.length→Pv i σ H→SqT K H a xs)
  (hs:∀i x σ H,xs[i]? =some x→Pv i σ H→g x σ H fun σ2 H2=>tb {D with nx:=Pv (i+1),ct:=Pv (i+1),bk:=D.nx} σ2 H2) (hd:∀σ H,Pv xs.length σ H→D.nx σ H):
  ∃W:Nat→Nat→St→Hp→Prop,(∃m,W 0 m σ H)∧∀i m σ H,W i m σ H→
   ((Itt K a).stop i H∧D.nx σ H)∨((Itt K a).go i H∧∃N:St→Hp→Prop,(∀σ' H',N σ' H'→∃m',m'<m∧W (i+1) m' σ' H')∧∀x H',(Itt K a).yld i H x H'→g x σ H' fun σ2 H2=>tb {D with nx:=N,ct:=N,bk:=D.nx} σ2 H2):=by
 refine⟨fun i m σ H=>m=xs.length-i∧i≤xs.length∧Pv i σ H,⟨xs.length,by simp,Nat.zero_le _,h0⟩,?_⟩
 rintro i m σ H ⟨rfl,hi,p⟩
 have q:=hl i σ H hi p
 by_cases hlt:i<xs.length
 ·refine .inr ⟨⟨xs,xs[i],q,by simp[hlt]⟩,Pv (i+1),fun σ' H' p'=>⟨xs.length-(i+1),by omega,rfl,hlt,p'⟩,fun x H' y=>?_⟩
  obtain⟨e,y⟩:=y
  subst e
  exact hs i x σ _ (y xs q) p
 ·have e:i=xs.length:=by omega
  subst e
  exact .inl ⟨⟨xs,q,Nat.le_refl _⟩,hd σ H p⟩
theorem XU{lo:Int}{n:Nat}{g:TG}{tb:TS}{D:Ends}{σ:St}{H:Hp}(Pv:Nat→St→Hp→Prop)(h0:Pv 0 σ H)
  (hs:∀i σ H,i<n→Pv i σ H→g (.int (lo+i)) σ H fun σ2 H2=>tb {D with nx:=Pv (i+1),ct:=Pv (i+1),bk:=D.nx} σ2 H2) (hd:∀σ H,Pv n σ H→D.nx σ H):
  ∃W:Nat→Nat→St→Hp→Prop,(∃m,W 0 m σ H)∧∀i m σ H,W i m σ H→
   ((Itr lo n).stop i H∧D.nx σ H)∨((Itr lo n).go i H∧∃N:St→Hp→Prop,(∀σ' H',N σ' H'→∃m',m'<m∧W (i+1) m' σ' H')∧∀x H',(Itr lo n).yld i H x H'→g x σ H' fun σ2 H2=>tb {D with nx:=N,ct:=N,bk:=D.nx} σ2 H2):=by
 refine⟨fun i m σ H=>m=n-i∧i≤n∧Pv i σ H,⟨n,by simp,Nat.zero_le _,h0⟩,?_⟩
 rintro i m σ H ⟨rfl,hi,p⟩
 by_cases hlt:i<n
 ·refine .inr ⟨hlt,Pv (i+1),fun σ' H' p'=>⟨n-(i+1),by omega,rfl,hlt,p'⟩,fun x H' y=>?_⟩
  obtain⟨e,y⟩:=y
  subst e y
  exact hs i σ _ hlt p
 ·have e:i=n:=by omega
  subst e
  exact .inl ⟨Nat.le_refl _,hd σ H p⟩
end L2
namespace L2
open PySem PySem.Spec PyProof.Rows
noncomputable abbrev R2:=V→V→Hp→VK→Prop
noncomputable def OpR(X:Cx)(f:Value→Value→Sem Value)(r:R2):Prop:=
 ∀(pins:List (Addr × Obj))(s:Shared)(σ:St)(H:Hp)(x y:V)(v u:Value)(Q:VK),Inv X pins σ H s→RelV x v→RelV y u→r x y H Q→
  wpAny (model X.prog X.w) X.A (f v u) (EP X pins σ Q) X.xe s
noncomputable def UnR(X:Cx)(f:Value→Sem Value)(r:V→Hp→VK→Prop):Prop:=
 ∀(pins:List (Addr × Obj))(s:Shared)(σ:St)(H:Hp)(x:V)(v:Value)(Q:VK),Inv X pins σ H s→RelV x v→r x H Q→
  wpAny (model X.prog X.w) X.A (f v) (EP X pins σ Q) X.xe s
noncomputable def Kf(X:Cx)(f:Value)(r:List V→Hp→VK→Prop):Prop:=
 ∀(pins:List (Addr × Obj))(s:Shared)(σ:St)(H:Hp)(xs:List V)(us:List Value)(Q:VK),Inv X pins σ H s→Vals xs us→r xs H Q→
  wpAny (model X.prog X.w) X.A (call f us) (EP X pins σ Q) X.xe s
noncomputable def Qb7(X:Cx)(r:V→Hp→(Bool→Hp→Prop)→Prop):Prop:=
 ∀(pins:List (Addr × Obj))(s:Shared)(σ:St)(H:Hp)(x:V)(v:Value)(Q:Bool→Hp→Prop),Inv X pins σ H s→RelV x v→r x H Q→
  wpAny (model X.prog X.w) X.A (truthy v) (TP X pins σ Q) X.xe s
noncomputable def tOp(r:R2)(ta tb:TE):TE:=fun σ H Q=>ta σ H fun x H1=>tb σ H1 fun y H2=>r x y H2 Q
noncomputable def tUn(r:V→Hp→VK→Prop)(ta:TE):TE:=fun σ H Q=>ta σ H fun x H1=>r x H1 Q
noncomputable def rI(C:Int→Int→Prop)(g:Int→Int→V):R2:=fun x y H Q=>∃i j,x=.int i∧y=.int j∧C i j∧Q (g i j) H
noncomputable def rI0(g:Int→Int→V):R2:=fun x y H Q=>∃i j,x=.int i∧y=.int j∧Q (g i j) H
noncomputable def rU(g:Int→V):V→Hp→VK→Prop:=fun x H Q=>∃i,x=.int i∧Q (g i) H
section
variable {X:Cx}{a b c:Expr}{ta tb tc:TE}{pos:Pos}
theorem QaW(ha:PE X a ta)(hb:PE X b tb){pins:List (Addr × Obj)}{s:Shared}{σ:St}{H:Hp}{R:V→V→Hp→Prop}(I:Inv X pins σ H s)
  (h:ta σ H fun x H1=>tb σ H1 fun y H2=>R x y H2) {Q:Value→Shared→Prop} {f:Value→Value→Sem Value}
  (hf:∀v u s2 x y H2,Inv X pins σ H2 s2→RelV x v→RelV y u→R x y H2→wpAny (model X.prog X.w) X.A (f v u) Q X.xe s2):
  wpAny (model X.prog X.w) X.A (eval a X.env) (fun v s₁=>wpAny (model X.prog X.w) X.A (eval b X.env) (fun u s₂=>wpAny (model X.prog X.w) X.A (f v u) Q X.xe s₂) X.xe s₁) X.xe s:=by
 refine thn (ha pins s σ H _ I h) fun v s1⟨x,H1,I1,r1,q1⟩=>?_
 refine thn (hb pins s1 σ H1 _ I1 q1) fun u s2⟨y,H2,I2,r2,q2⟩=>?_
 exact hf v u s2 x y H2 I2 r1 r2 q2
theorem Qn{op:Operator}{r:R2}(ho:OpR X (binaryOp op) r)(ha:PE X a ta)(hb:PE X b tb):PE X (.BinOp a op b pos) (tOp r ta tb):=by
 intro pins s σ H Q I h
 exact wpAny_BinOp (QaW ha hb I h fun v u s2 x y H2 I2 rx ry q=>ho pins s2 σ H2 x y v u Q I2 rx ry q)
theorem WP{op:UnaryOp}{r:V→Hp→VK→Prop}(ho:UnR X (unaryOp op) r)(ha:PE X a ta):PE X (.UnaryOp op a pos) (tUn r ta):=by
 intro pins s σ H Q I h
 exact UnaryOp_ (thn (ha pins s σ H _ I h) fun v s1⟨x,H1,I1,r1,q1⟩=>ho pins s1 σ H1 x v Q I1 r1 q1)
theorem opI{f:Value→Value→Sem Value}{C:Int→Int→Prop}{g:Int→Int→Int}
  (rule:∀(i j:Int)(t u:Tok)(s:Shared)(Q:Value→Shared→Prop)(E:Value→Shared→Prop),C i j→Q (.int (g i j) s.toks) {s with toks:=s.toks+1}→wpAny (model X.prog X.w) X.A (f (.int i t) (.int j u)) Q E s):
  OpR X f (rI C fun i j=>.int (g i j)):=by
 intro pins s σ H x y v u Q I rx ry h
 obtain⟨i,j,rfl,rfl,hc,q⟩:=h
 obtain⟨t,rfl⟩:=rx
 obtain⟨t',rfl⟩:=ry
 exact rule i j t t' s _ _ hc ⟨.int (g i j),H,I.tok _,⟨_,rfl⟩,q⟩
theorem QbO{f:Value→Value→Sem Value}{g:Int→Int→Int}
  (rule:∀(i j:Int)(t u:Tok)(s:Shared)(Q:Value→Shared→Prop)(E:Value→Shared→Prop),Q (.int (g i j) s.toks) {s with toks:=s.toks+1}→wpAny (model X.prog X.w) X.A (f (.int i t) (.int j u)) Q E s):
  OpR X f (rI0 fun i j=>.int (g i j)):=by
 intro pins s σ H x y v u Q I rx ry h
 obtain⟨i,j,rfl,rfl,q⟩:=h
 obtain⟨t,rfl⟩:=rx
 obtain⟨t',rfl⟩:=ry
 exact rule i j t t' s _ _ ⟨.int (g i j),H,I.tok _,⟨_,rfl⟩,q⟩
theorem QaK{f:Value→Value→Sem Value}{g:Int→Int→Bool}
  (rule:∀(i j:Int)(t u:Tok)(s:Shared)(Q:Value→Shared→Prop)(E:Value→Shared→Prop),Q (.bool (g i j)) s→wpAny (model X.prog X.w) X.A (f (.int i t) (.int j u)) Q E s):
  OpR X f (rI0 fun i j=>.bl (g i j)):=by
 intro pins s σ H x y v u Q I rx ry h
 obtain⟨i,j,rfl,rfl,q⟩:=h
 obtain⟨t,rfl⟩:=rx
 obtain⟨t',rfl⟩:=ry
 exact rule i j t t' s _ _ ⟨.bl (g i j),H,I,rfl,q⟩
noncomputable def QbP(i j:Int):Prop:=0<j∧j<1073741824
noncomputable def Qb8(i j:Int):Prop:=0≤j∧j≤1000000∧i.natAbs<2^64
noncomputable def QaX(i j:Int):Prop:=(-(2^64)<i∧i<2^64)∨(-(2^64)<j∧j<2^64)
theorem QaX.ok{i j:Int}(h:QaX i j):IntMulOk i j:=by
 rcases h with⟨h1,h2⟩|⟨h1,h2⟩
 ·exact .of_left (intBits_le_64 h1 h2)
 ·exact .of_right (intBits_le_64 h1 h2)
theorem QT:OpR X (binaryOp .Add) (rI0 fun i j=>.int (i+j)):=QbO fun _ _ _ _ _ _ _ q=>add_int q
theorem Zh:OpR X (binaryOp .Sub) (rI0 fun i j=>.int (i-j)):=QbO fun _ _ _ _ _ _ _ q=>sub_int q
theorem UZ:OpR X (binaryOp .Mult) (rI QaX fun i j=>.int (i*j)):=opI fun _ _ _ _ _ _ _ hc q=>mul_int q hc.ok
theorem Ub:OpR X (binaryOp .FloorDiv) (rI QbP fun i j=>.int (i/j)):=opI fun i j _ _ _ _ _ hc q=>by
 have h1:(0:Int)<j:=hc.1
 have h2:j<1073741824:=hc.2
 exact floordiv_int (by omega) (by rw[Int.fdiv_eq_ediv_of_nonneg i (by omega)];exact q) (.inl (PyProof.noPylong_small (by omega)))
theorem K9:OpR X (binaryOp .Mod) (rI (fun _ j=>0<j) fun i j=>.int (i % j)):=opI fun i j _ _ _ _ _ hc q=>by
 have h1:(0:Int)<j:=hc
 exact mod_int' (by omega) (by rw[Int.fmod_eq_emod_of_nonneg i (by omega)];exact q)
theorem kZ:OpR X (binaryOp .Pow) (rI Qb8 fun i j=>.int (i^j.toNat)):=opI fun _ _ _ _ _ _ _ hc q=>pow_int_small hc.1 hc.2.1 hc.2.2 q
theorem unI{f:Value→Sem Value}{g:Int→Int}
  (rule:∀(i:Int)(t:Tok)(s:Shared)(Q:Value→Shared→Prop)(E:Value→Shared→Prop),Q (.int (g i) s.toks) {s with toks:=s.toks+1}→wpAny (model X.prog X.w) X.A (f (.int i t)) Q E s):
  UnR X f (rU fun i=>.int (g i)):=by
 intro pins s σ H x v Q I rx h
 obtain⟨i,rfl,q⟩:=h
 obtain⟨t,rfl⟩:=rx
 exact rule i t s _ _ ⟨.int (g i),H,I.tok _,⟨_,rfl⟩,q⟩
theorem Xt:UnR X (unaryOp .USub) (rU fun i=>.int (-i)):=unI fun _ _ _ _ _ q=>neg_int q
end
noncomputable def QaY:V→V→Bool
 | .non,.non=>true| .non,.int _=>true| .int _,.non=>true| .non,.bl _=>true| .bl _,.non=>true| .non,.str _=>true| .str _,.non=>true
 | .int _,.int _=>true| .bl _,.bl _=>true| .str _,.str _=>true| .byt _,.byt _=>true
 | .int _,.str _=>true| .str _,.int _=>true| .bl _,.str _=>true| .str _,.bl _=>true
 |_,_=>false
noncomputable def rEq:R2:=fun x y H Q=>QaY x y=true∧Q (.bl (decide (x=y))) H
noncomputable def rNe:R2:=fun x y H Q=>QaY x y=true∧Q (.bl (!decide (x=y))) H
theorem ju{i j:Int}:decide (V.int i=V.int j)=(i==j):=by
 rw[Bool.eq_iff_iff]
 simp
theorem k4{i j:Bool}:decide (V.bl i=V.bl j)=(i==j):=by
 rw[Bool.eq_iff_iff]
 simp
theorem Z4{i j:Str}:decide (V.str i=V.str j)=(i==j):=by
 rw[Bool.eq_iff_iff]
 simp
theorem jv{i j:Array UInt8}:decide (V.byt i=V.byt j)=(i.toList==j.toList):=by
 rw[Bool.eq_iff_iff]
 cases i
 cases j
 simp
section
variable {X:Cx}{a b c:Expr}{ta tb tc:TE}{pos:Pos}
theorem Q2{pins:List (Addr × Obj)}{σ:St}{H:Hp}{s:Shared}{Q:VK}{k k':Bool}(I:Inv X pins σ H s)(q:Q (.bl k) H)(e:k=k'):EP X pins σ Q (.bool k') s:=by
 subst e
 exact⟨.bl k,H,I,rfl,q⟩
theorem Jw:OpR X (compareOp .Eq) rEq:=by
 intro pins s σ H x y v u Q I rx ry h
 obtain⟨hs,q⟩:=h
 cases x with
 |non=>
  cases rx
  cases y with
  |non=>cases ry;exact PySem.EqNone.eq_none_none (Q2 I q (by simp))
  |bl j=>cases ry;exact PySem.EqNone.eq_none_bool (Q2 I q (by simp))
  |int j=>obtain⟨t',rfl⟩:=ry;exact PySem.EqNone.eq_none_int (Q2 I q (by simp))
  |str j=>obtain⟨t',rfl⟩:=ry;exact PySem.EqNone.eq_none_str (Q2 I q (by simp))
  |_=>exact absurd (show false=true from hs) Bool.false_ne_true
 |bl i=>
  cases rx
  cases y with
  |non=>cases ry;exact PySem.EqNone.eq_bool_none (Q2 I q (by simp))
  |bl j=>cases ry;exact eq_bool (Q2 I q k4)
  |str j=>obtain⟨t',rfl⟩:=ry;exact PySem.EqMixed.eq_bool_str (Q2 I q (by simp))
  |_=>exact absurd (show false=true from hs) Bool.false_ne_true
 |int i=>
  obtain⟨t,rfl⟩:=rx
  cases y with
  |non=>cases ry;exact PySem.EqNone.eq_int_none (Q2 I q (by simp))
  |int j=>obtain⟨t',rfl⟩:=ry;exact eq_int (Q2 I q ju)
  |str j=>obtain⟨t',rfl⟩:=ry;exact PySem.EqMixed.eq_int_str (Q2 I q (by simp))
  |_=>exact absurd (show false=true from hs) Bool.false_ne_true
 |str i=>
  obtain⟨t,rfl⟩:=rx
  cases y with
  |non=>cases ry;exact PySem.EqNone.eq_str_none (Q2 I q (by simp))
  |bl j=>cases ry;exact PySem.EqMixed.eq_str_bool (Q2 I q (by simp))
  |int j=>obtain⟨t',rfl⟩:=ry;exact PySem.EqMixed.eq_str_int (Q2 I q (by simp))
  |str j=>obtain⟨t',rfl⟩:=ry;exact eq_str (Q2 I q Z4)
  |_=>exact absurd (show false=true from hs) Bool.false_ne_true
 |byt i=>
  obtain⟨t,rfl⟩:=rx
  cases y with
  |byt j=>obtain⟨t',rfl⟩:=ry;exact PySem.W.eq_bytes (Q2 I q jv)
  |_=>exact absurd (show false=true from hs) Bool.false_ne_true
 |_=>cases y<;>exact absurd (show false=true from hs) Bool.false_ne_true
theorem Zc:OpR X (compareOp .NotEq) rNe:=by
 intro pins s σ H x y v u Q I rx ry h
 obtain⟨hs,q⟩:=h
 cases x with
 |non=>
  cases rx
  cases y with
  |non=>cases ry;exact PySem.EqNone.ne_none_none (Q2 I q (by simp))
  |bl j=>cases ry;exact PySem.EqNone.ne_none_bool (Q2 I q (by simp))
  |int j=>obtain⟨t',rfl⟩:=ry;exact PySem.EqNone.ne_none_int (Q2 I q (by simp))
  |str j=>obtain⟨t',rfl⟩:=ry;exact PySem.EqNone.ne_none_str (Q2 I q (by simp))
  |_=>exact absurd (show false=true from hs) Bool.false_ne_true
 |bl i=>
  cases rx
  cases y with
  |non=>cases ry;exact PySem.EqNone.ne_bool_none (Q2 I q (by simp))
  |bl j=>cases ry;exact ne_bool (Q2 I q (congrArg not k4))
  |str j=>obtain⟨t',rfl⟩:=ry;exact PySem.EqMixed.ne_bool_str (Q2 I q (by simp))
  |_=>exact absurd (show false=true from hs) Bool.false_ne_true
 |int i=>
  obtain⟨t,rfl⟩:=rx
  cases y with
  |non=>cases ry;exact PySem.EqNone.ne_int_none (Q2 I q (by simp))
  |int j=>obtain⟨t',rfl⟩:=ry;exact ne_int (Q2 I q (congrArg not ju))
  |str j=>obtain⟨t',rfl⟩:=ry;exact PySem.EqMixed.ne_int_str (Q2 I q (by simp))
  |_=>exact absurd (show false=true from hs) Bool.false_ne_true
 |str i=>
  obtain⟨t,rfl⟩:=rx
  cases y with
  |non=>cases ry;exact PySem.EqNone.ne_str_none (Q2 I q (by simp))
  |bl j=>cases ry;exact PySem.EqMixed.ne_str_bool (Q2 I q (by simp))
  |int j=>obtain⟨t',rfl⟩:=ry;exact PySem.EqMixed.ne_str_int (Q2 I q (by simp))
  |str j=>obtain⟨t',rfl⟩:=ry;exact ne_str (Q2 I q (congrArg not Z4))
  |_=>exact absurd (show false=true from hs) Bool.false_ne_true
 |byt i=>
  obtain⟨t,rfl⟩:=rx
  cases y with
  |byt j=>obtain⟨t',rfl⟩:=ry;exact PySem.W.ne_bytes (Q2 I q (congrArg not jv))
  |_=>exact absurd (show false=true from hs) Bool.false_ne_true
 |_=>cases y<;>exact absurd (show false=true from hs) Bool.false_ne_true
theorem Xz:OpR X (compareOp .Lt) (rI0 fun i j=>.bl (decide (i<j))):=QaK fun _ _ _ _ _ _ _ q=>lt_int q
theorem QaZ:OpR X (compareOp .LtE) (rI0 fun i j=>.bl (decide (i≤j))):=QaK fun _ _ _ _ _ _ _ q=>le_int q
theorem Wa:OpR X (compareOp .Gt) (rI0 fun i j=>.bl (decide (j<i))):=QaK fun _ _ _ _ _ _ _ q=>gt_int q
theorem jw:OpR X (compareOp .GtE) (rI0 fun i j=>.bl (decide (j≤i))):=QaK fun _ _ _ _ _ _ _ q=>ge_int q
theorem Jx:OpR X (compareOp .In) (fun x y H Q=>∃i j,x=.str i∧y=.str j∧Q (.bl (!(Builtin.Str.occurrences j i 0 j.length 1).isEmpty)) H):=by
 intro pins s σ H x y v u Q I rx ry h
 obtain⟨i,j,rfl,rfl,q⟩:=h
 obtain⟨t,rfl⟩:=rx
 obtain⟨t',rfl⟩:=ry
 exact in_str (Q2 I q rfl)
theorem Q9:OpR X (compareOp .NotIn) (fun x y H Q=>∃i j,x=.str i∧y=.str j∧Q (.bl (!(!(Builtin.Str.occurrences j i 0 j.length 1).isEmpty))) H):=by
 intro pins s σ H x y v u Q I rx ry h
 obtain⟨i,j,rfl,rfl,q⟩:=h
 obtain⟨t,rfl⟩:=rx
 obtain⟨t',rfl⟩:=ry
 exact notIn_str (Q2 I q rfl)
theorem Qp(b:Expr){op:CmpOp}(h:op≠ .In:=by decide)(h2:op≠ .NotIn:=by decide):behindInMarks op b=false:=by
 have e1:(op==CmpOp.In)=false:=by cases op<;>first|rfl|exact absurd rfl h
 have e2:(op==CmpOp.NotIn)=false:=by cases op<;>first|rfl|exact absurd rfl h2
 cases b<;>simp[behindInMarks,e1,e2]
theorem Jy{op:CmpOp}{r:R2}(ho:OpR X (compareOp op) r)(ha:PE X a ta)(hb:PE X b tb)(hm:behindInMarks op b=false):PE X (.Compare a [op] [b] pos) (tOp r ta tb):=by
 intro pins s σ H Q I h
 exact wpAny_Compare1 (QaW ha hb I h fun v u s2 x y H2 I2 rx ry q=>ho pins s2 σ H2 x y v u Q I2 rx ry q) hm
noncomputable def xl(t:TE):TT:=fun σ H Q=>t σ H fun x H'=>∃k,x=.bl k∧Q k H'
theorem Ql{op:CmpOp}{r:R2}(ho:OpR X (compareOp op) r)(ha:PE X a ta)(hb:PE X b tb)(hm:behindInMarks op b=false):PT X (.Compare a [op] [b] pos) (xl (tOp r ta tb)):=by
 intro pins s σ H Q I h
 refine wpAny_isTrue_Compare1 (thn (ha pins s σ H _ I h) fun v s1⟨x,H1,I1,r1,q1⟩=>thn (hb pins s1 σ H1 _ I1 q1) fun u s2⟨y,H2,I2,r2,q2⟩=>
  thn (ho pins s2 σ H2 x y v u _ I2 r1 r2 q2) fun c s3⟨z,H3,I3,r3,k,e,q3⟩=>?_) hm
 subst e
 cases r3
 exact wpAny_truthy_bool ⟨H3,I3,q3⟩
noncomputable def QaL(K:PySem.W.Frag)(x:V)(H:Hp)(k:Bool):Prop:=
 match x with
 | .non=>k=false
 | .bl b=>k=b
 | .int i=>k=(i !=0)
 | .str y=>y.length≤sizeLine∧k=((y.length:Int) !=0)
 | .byt y=>y.size≤sizeLine∧k=((y.size:Int) !=0)
 | .ref p=>(∃xs,SqL K H p xs∧k= !xs.isEmpty)∨(∃xs,SqT K H p xs∧k= !xs.isEmpty)∨∃kvs,H p=some (.dK kvs)∧k= !kvs.isEmpty
 |_=>False
theorem qE{κ:Type}{kvs:List (κ × V)}{vs:List (κ × Value)}(r:KV kvs vs):(!vs.isEmpty)= !kvs.isEmpty:=by
 cases r<;>rfl
theorem W6{xs:List V}{its:List Value}(r:Vals xs its):(!its.toArray.isEmpty)= !xs.isEmpty:=by
 cases r<;>simp
theorem XV:(sizeLine:Nat)<2^63:=by rw[sizeLine_eq];decide
theorem yt:Qb7 X (fun x H Q=>∃k,QaL X.K x H k∧Q k H):=by
 intro pins s σ H x v Q I rx h
 obtain⟨k,e,q⟩:=h
 have hl:=XV
 have hs:sizeLine=16777216:=sizeLine_eq
 cases x with
 |non=>
  cases rx
  have e':k=false:=e
  subst e'
  exact truthy_none ⟨H,I,q⟩
 |bl b=>
  cases rx
  have e':k=b:=e
  subst e'
  exact wpAny_truthy_bool ⟨H,I,q⟩
 |int i=>
  obtain⟨t,rfl⟩:=rx
  have e':k=(i !=0):=e
  subst e'
  exact PySem.P.truthy_int ⟨H,I,q⟩
 |str y=>
  obtain⟨t,rfl⟩:=rx
  obtain⟨hy,e'⟩:y.length≤sizeLine∧k=((y.length:Int) !=0):=e
  subst e'
  exact PySem.P.truthy_str (by omega) ⟨H,I.tok _,q⟩
 |byt y=>
  obtain⟨t,rfl⟩:=rx
  obtain⟨hy,e'⟩:y.size≤sizeLine∧k=((y.size:Int) !=0):=e
  subst e'
  exact PySem.W.truthy_bytes (by omega) ⟨H,I.tok _,q⟩
 |ref p=>
  cases rx
  have e':(∃xs,SqL X.K H p xs∧k= !xs.isEmpty)∨(∃xs,SqT X.K H p xs∧k= !xs.isEmpty)∨∃kvs,H p=some (.dK kvs)∧k= !kvs.isEmpty:=e
  rcases e' with⟨xs,hx,e'⟩|⟨xs,hx,e'⟩|⟨kvs,hx,e'⟩
  ·subst e'
   obtain⟨its,r,pl,hz⟩:=I.list hx
   have hlen:=r.length
   exact wpAny_truthy_list pl.isList (by simp only[List.size_toArray];omega) ⟨H,I.tok _,by rw[W6 r];exact q⟩
  ·subst e'
   obtain⟨its,r,pl,hz⟩:=I.tuple hx
   have hlen:=r.length
   exact truthy_tuple pl (by simp only[List.size_toArray];omega) ⟨H,I.tok _,by rw[W6 r];exact q⟩
  ·subst e'
   obtain⟨hz,hS,vs,r,m⟩:kvs.length≤sizeLine∧(p==sysModules)=false∧∃vs,KV kvs vs∧s.heap.DictOf (Jc X.prog X.w) p vs:=I.hok p _ hx
   have hlen:kvs.length=vs.length:=Paired.length r
   exact wpAny_truthy_dict hS m (by omega) ⟨H,I.tok _,by rw[qE r];exact q⟩
 |_=>exact(show False from e).elim
theorem QY(ha:PE X a ta)(he:∀whole,isTrue a X.env whole=(do let v←whole;standAt a.pos;holding [v] (truthy v))):
  PT X a (fun σ H Q=>ta σ H fun x H'=>∃k,QaL X.K x H' k∧Q k H'):=by
 intro pins s σ H Q I h
 exact isTrue_plain (thn (ha pins s σ H _ I h) fun v s1⟨x,H1,I1,r1,q1⟩=>yt pins s1 σ H1 x v Q I1 r1 q1) (he _)
theorem Qo:OpR X (binaryOp .Add) (fun x y H Q=>∃i j,x=.str i∧y=.str j∧i.length+j.length≤sizeLine∧Q (.str (i++j)) H):=by
 intro pins s σ H x y v u Q I rx ry h
 obtain⟨i,j,rfl,rfl,hz,q⟩:=h
 obtain⟨t,rfl⟩:=rx
 obtain⟨t',rfl⟩:=ry
 exact add_str (fun t' tk=>⟨.str (i++j),H,I.tok _,⟨_,rfl⟩,q⟩) hz
theorem vals1{x:V}{us:List Value}(r:Vals [x] us):∃u,us=[u]∧RelV x u:=by
 cases r with
 |cons r1 r2=>cases r2;exact⟨_,rfl,r1⟩
theorem vals2{x y:V}{us:List Value}(r:Vals [x,y] us):∃u w',us=[u,w']∧RelV x u∧RelV y w':=by
 cases r with
 |cons r1 r2=>
  cases r2 with
  |cons r3 r4=>cases r4;exact⟨_,_,rfl,r1,r3⟩
theorem J3:Kf X (.builtin "abs") (fun xs H Q=>∃i,xs=[.int i]∧Q (.int (if i<0 then-i else i)) H):=by
 intro pins s σ H xs us Q I r h
 obtain⟨i,rfl,q⟩:=h
 obtain⟨u,rfl,t,rfl⟩:=vals1 r
 exact call_abs_int fun u tk=>⟨.int (if i<0 then-i else i),H,I.tok _,⟨_,rfl⟩,q⟩
theorem jx(hc:X.calm=true):Kf X (.builtin "max") (fun xs H Q=>∃i j,xs=[.int i,.int j]∧Q (.int (if j>i then j else i)) H):=by
 intro pins s σ H xs us Q I r h
 obtain⟨i,j,rfl,q⟩:=h
 obtain⟨u,w',rfl,⟨t,rfl⟩,⟨t',rfl⟩⟩:=vals2 r
 refine max_two_ints (I.ok.hd hc) fun h' tk k=>⟨_,H,I.kept k,?_,q⟩
 by_cases hj:j>i
 ·rw[if_pos hj,if_pos hj];exact⟨_,rfl⟩
 ·rw[if_neg hj,if_neg hj];exact⟨_,rfl⟩
theorem JP:Kf X (.type "str") (fun xs H Q=>∃i,xs=[.int i]∧i.natAbs.log2<1920∧Q (.str (toString i)) H):=by
 intro pins s σ H xs us Q I r h
 obtain⟨i,rfl,hz,q⟩:=h
 obtain⟨u,rfl,t,rfl⟩:=vals1 r
 exact PySem.P.str_of_int hz ⟨.str _,H,I.tok _,⟨_,rfl⟩,q⟩
theorem Uc:Kf X (.builtin "divmod") (fun xs H Q=>∃i j,xs=[.int i,.int j]∧QbP i j∧∀p,H p=none→Q (.ref p) (upd H p (.tup [.int (i/j),.int (i % j)]))):=by
 intro pins s σ H xs us Q I r h
 obtain⟨i,j,rfl,⟨h1,h2⟩,q⟩:=h
 obtain⟨u,w',rfl,⟨t,rfl⟩,⟨t',rfl⟩⟩:=vals2 r
 refine divmod_int (by omega) ?_ (.inl (PyProof.noPylong_small (by omega)))
 rw[Int.fdiv_eq_ediv_of_nonneg i (by omega),Int.fmod_eq_emod_of_nonneg i (by omega)]
 have hn:H s.heap.objs.size=none:=I.hok.fresh (Nat.le_refl _)
 refine⟨.ref s.heap.objs.size,_,?_,rfl,q _ hn⟩
 refine I.laid (fun b o e=>Heap.get?_push_of_some _ e) (Nat.le_refl _) ⟨by simp only[List.length_cons,List.length_nil];rw[sizeLine_eq];decide,[.int (i/j) s.toks,.int (i % j) (s.toks+1)],.cons ⟨_,rfl⟩ (.cons ⟨_,rfl⟩ .nil),?_⟩
 exact⟨_,Heap.get?_push_size s.heap rfl,rfl,0,rfl⟩
end
end L2
namespace L2
open PySem PySem.Spec PyProof.Rows
structure ObjM(h:Heap)(x dx C:Addr)(mA:Str→Option Value):Prop where
 obj:h.get? x=some (PySem.W.instObj C dx)
 ns:h.Ns1 dx mA
 ne:dx≠x
theorem jy{h:Heap}{dx:Addr}{mA:Str→Option Value}(n:h.Ns1 dx mA):∃od,h.get? dx=some od∧∀name,PySem.W.lookIn name od=some (mA name):=by
 obtain⟨o,es,ep,ho,hd,hk,_,hm⟩:=n
 refine⟨o,ho,fun name=>?_⟩
 have e:=hm name
 unfold nsFind findBy at e
 rw[←Array.find?_toList]at e
 unfold PySem.W.lookIn
 rw[hd]
 dsimp only
 split
 ·rename_i y q
  rw[q]at e
  exact congrArg some e
 ·rename_i q
  rw[q]at e
  have a:es.toList.any (·.refKey)=false:=by
   rw[List.any_eq_false]
   intro y hy
   obtain⟨z,t,hkey⟩:=hk y (Array.mem_toList_iff.mp hy)
   simp[DictEntry.refKey,hkey]
  have a':¬ es.toList.any (·.refKey)=true:=by rw[a];exact Bool.false_ne_true
  rw[if_neg a']
  exact congrArg some e
theorem ObjM.look{h:Heap}{x dx C:Addr}{mA:Str→Option Value}(I:ObjM h x dx C mA):∃od,PySem.W.InstAt h x (PySem.W.instObj C dx) C (some od)∧∀name,PySem.W.lookIn name od=some (mA name):=
 let ⟨od,ho,hl⟩:=jy I.ns
 ⟨od,⟨I.obj,rfl,rfl,ho⟩,hl⟩
section
variable {prog:Program}{w:World}{A:Around}{E:Value→Shared→Prop}{s:Shared}{K:PySem.W.Frag}{x dx C f:Addr}{mA:Str→Option Value}{name:Str}{v:Value}
end
theorem UV.some_of{v:V}{o:Option Value}(r:UV (some v) o):∃u,o=some u∧RelV v u:=by
 cases o with
 |none=>exact(show False from r).elim
 |some u=>exact⟨u,rfl,r⟩
section
variable {P:Program}{w:World}{H H':Hp}{h h':Heap}{a C dx:Addr}{fs fs':List (Str × V)}
theorem wK(hok:HOk P w H h)(e:H a=some (.ins C dx fs)):∃mA,ObjM h a dx C mA∧(∀f,UV (fs.lookup f) (mA f))∧PySem.Within mA (fs.map (·.1))∧fs.length≤1000∧H dx=some (.own a):=by
 obtain⟨d,z,ne,ob,mA,n,r,q⟩:=(show JC P w H h a (.ins C dx fs)from hok a _ e)
 exact⟨mA,⟨ob,n,ne⟩,r,q,z,d⟩
end
structure Cls(K:PySem.W.Frag)(C:Addr):Prop where
 pg:PySem.W.plainGet K C Str.empty=true
 hd:PySem.W.hasDictIn K C=true
 po:PySem.W.plainOver K C=true
 sa:PySem.W.findIn K (.ref C) "__setattr__"=some (some (.builtin "object.__setattr__"))
theorem Cls.get{K:PySem.W.Frag}{C:Addr}(c:Cls K C)(f:Str):PySem.W.plainGet K C f=true:=c.pg
section
variable {X:Cx}{pins:List (Addr × Obj)}{σ:St}{H:Hp}{s:Shared}{a C dx:Addr}{fs:List (Str × V)}{f:Str}{v:V}{A:Around}{E:Value→Shared→Prop}
end
section
variable {X:Cx}{o e value:Expr}{f:Str}{pos pos' tpos:Pos}{ta tv:TE}
end
section
variable {X:Cx}{pins:List (Addr × Obj)}{σ:St}{H:Hp}{s:Shared}{A:Around}{E:Value→Shared→Prop}{Q:Value→Shared→Prop}{c:Value}{b:Bool}
inductive TyOf (K:PySem.W.Frag) (H:Hp):V→Value→Prop where
 |non:TyOf K H .non (.type "NoneType")
 |bl (x:Bool):TyOf K H (.bl x) (.type "bool")
 |int (i:Int):TyOf K H (.int i) (.type "int")
 |str (x:Str):TyOf K H (.str x) (.type "str")
 |flt (x:UInt64):TyOf K H (.flt x) (.type "float")
 |lst {a:Addr} {xs:List V} (e:H a=some (.lst xs)):TyOf K H (.ref a) (.type "list")
 |frz {a:Addr} {o:Obj} {xs:List V} (e:H a=some (.frz o (.lst xs))):TyOf K H (.ref a) (.type "list")
 |tup {a:Addr} {xs:List V} (e:H a=some (.tup xs)):TyOf K H (.ref a) (.type "tuple")
 |dK {a:Addr} {kvs:List (Key × V)} (e:H a=some (.dK kvs)):TyOf K H (.ref a) (.type "dict")
 |dT {a:Addr} {kvs:List (List Key × V)} (e:H a=some (.dT kvs)):TyOf K H (.ref a) (.type "dict")
 |ins {a C dx:Addr} {fs:List (Str × V)} (e:H a=some (.ins C dx fs)) (cl:Cls K C) (ha:PySem.W.findIn K (.ref C) "__class__"=some (some (.builtin "object.__class__")))
   (hn:PySem.W.specialIn K (.builtin "object.__class__") "__get__"=some (some (.builtin "getset_descriptor.__get__"))) (htk:PySem.W.takesIn K (.builtin "object.__class__")=some true)
   (hm:PySem.W.mroIn K C (.type "object")=some true):TyOf K H (.ref a) (.ref C)
theorem jz{x:V}{u t:Value}(I:Inv X pins σ H s)(rx:RelV x u)(ty:TyOf X.K H x t)(e:PySem.W.kitOne X.K t c=some b)(h:∀tk,Q (.bool b) {s with toks:=tk}):
  wpAny (model X.prog X.w) A (call (.builtin "isinstance") [u,c]) Q E s:=by
 cases ty with
 |non=>cases(show u=Value.none from rx);exact PySem.W.kia_one PySem.W.kitx_none I.kIn True.intro e (fun z=>nomatch z) h
 |bl y=>cases(show u=Value.bool y from rx);exact PySem.W.kia_one PySem.W.kitx_bool I.kIn True.intro e (fun z=>nomatch z) h
 |int i=>obtain⟨t,q⟩:=(show ∃t,u=Value.int i t from rx);cases q;exact PySem.W.kia_one PySem.W.kitx_int I.kIn True.intro e (fun z=>nomatch z) h
 |str y=>obtain⟨t,q⟩:=(show ∃t,u=Value.str y t from rx);cases q;exact PySem.W.kia_one PySem.W.kitx_str I.kIn True.intro e (fun z=>nomatch z) h
 |flt y=>obtain⟨t,q⟩:=(show ∃t,u=Value.float y t from rx);cases q;exact PySem.W.kia_one PySem.W.kitx_float I.kIn True.intro e (fun z=>nomatch z) h
 |@lst a xs ea=>
  cases(show u=Value.ref a from rx)
  obtain⟨_,_,n,_,h1⟩:=(show JC X.prog X.w H s.heap a (.lst xs)from I.hok a _ ea)
  exact PySem.W.kia_one PySem.W.kitx_list I.kIn ⟨_,h1,rfl⟩ e (fun z=>nomatch z) h
 |@frz a ob xs ea=>
  cases(show u=Value.ref a from rx)
  obtain⟨_,_,_,n,_,h1⟩:=(show JC X.prog X.w H s.heap a (.frz ob (.lst xs))from I.hok a _ ea)
  exact PySem.W.kia_one PySem.W.kitx_list I.kIn ⟨_,h1,rfl⟩ e (fun z=>nomatch z) h
 |@tup a xs ea=>
  cases(show u=Value.ref a from rx)
  obtain⟨_,_,_,p⟩:=(show JC X.prog X.w H s.heap a (.tup xs)from I.hok a _ ea)
  obtain⟨o,h1,h2,_⟩:=p
  exact PySem.W.kia_one PySem.W.kitx_tuple I.kIn ⟨o,h1,h2⟩ e (fun z=>nomatch z) h
 |@dK a kvs ea=>
  cases(show u=Value.ref a from rx)
  obtain⟨_,_,vs,_,p⟩:=(show JC X.prog X.w H s.heap a (.dK kvs)from I.hok a _ ea)
  obtain⟨o,es,ep,h1,h2,_⟩:=p
  exact PySem.W.kia_one PySem.W.kitx_dict I.kIn ⟨o,h1,h2.1⟩ e (fun z=>nomatch z) h
 |@dT a kvs ea=>
  cases(show u=Value.ref a from rx)
  obtain⟨_,_,xs,_,o,es,ep,h1,h2,_⟩:=(show JC X.prog X.w H s.heap a (.dT kvs)from I.hok a _ ea)
  exact PySem.W.kia_one PySem.W.kitx_dict I.kIn ⟨o,h1,h2.1⟩ e (fun z=>nomatch z) h
 |@ins a C dx fs ea cl ha hn htk hm=>
  cases(show u=Value.ref a from rx)
  obtain⟨mA,O,_⟩:=wK I.hok ea
  obtain⟨od,J,_⟩:=O.look
  exact PySem.W.kia_one (PySem.W.kitx_own (cl.get _) cl.hd ha hn htk hm) I.kIn J e (fun z=>nomatch z) h
end
end L2
namespace L2
open PySem PySem.Spec PyProof.Rows
structure Room(k:Nat)(A:Around):Prop where
 hd:A.handled=none
 dp:A.depth+3*k+5<recursionLimit
 un:A.units+16*k+200<cLine
theorem Room.mono{j k:Nat}{A:Around}(r:Room k A)(h:j≤k):Room j A:=⟨r.hd,by have:=r.dp;omega,by have:=r.un;omega⟩
theorem Room.deeper{k:Nat}{A:Around}(r:Room (k+1) A)(env:Env):Room k (A.deeper env):=
 ⟨r.hd,by have:=r.dp;show A.depth+1+3*k+5<_;omega,by have:=r.un;show A.units+3+16*k+200<_;omega⟩
theorem Room.depth{k:Nat}{A:Around}(r:Room k A):A.depth<recursionLimit:=by have:=r.dp;omega
theorem Room.units{k:Nat}{A:Around}(r:Room k A):A.units+64<cLine:=by have:=r.un;omega
noncomputable def W7:TA:=fun _ H Q=>Q [] H
noncomputable def JN(ta:TE)(tr:TA):TA:=fun σ H Q=>ta σ H fun x H1=>tr σ H1 fun xs H2=>Q (x::xs) H2
section
variable {X:Cx}{e:Expr}{es:List Expr}{te:TE}{t:TA}{pos:Pos}
theorem Qc:PA X [] W7:=fun _ _ _ _ H Q I h=>Calls.spliced_nil ⟨[],H,I,.nil,h⟩
theorem Qa(ha:PE X e te)(hr:PA X es t)(hs:starEach (e::es) X.env=(false,eval e X.env)::starEach es X.env:=by rfl):PA X (e::es) (JN te t):=by
 intro pos pins s σ H Q I h
 rw[hs]
 show wpAny _ _ (spliced ((false,eval e X.env)::backTo pos (starEach es X.env))) _ _ s
 refine Calls.spliced_cons (thn (ha pins s σ H _ I h) fun u s1⟨x,H1,I1,r1,q1⟩=>?_)
 exact thn (hr pos pins s1 σ H1 _ I1 q1) fun us s2⟨xs,H2,I2,r2,q2⟩=>⟨x::xs,H2,I2,.cons r1 r2,q2⟩
noncomputable def QaM(t:TA):TE:=fun σ H Q=>t σ H fun xs H1=>xs.length≤sizeLine∧∀p,H1 p=none→Q (.ref p) (upd H1 p (.tup xs))
noncomputable def QbQ(t:TA):TE:=fun σ H Q=>t σ H fun xs H1=>xs.length≤sizeLine∧∀p,H1 p=none→Q (.ref p) (upd H1 p (.lst xs))
theorem QK{x1}(h:PA X es t):PE X (.Tuple es x1 pos) (QaM t):=by
 intro pins s σ H Q I hq
 refine wpAny_Tuple_spliced (thn (h pos pins s σ H _ I hq) fun us s1⟨xs,H1,I1,r,z,q⟩=>⟨by rw[←r.length];exact z,?_⟩)
 have hf:H1 s1.heap.objs.size=none:=I1.hok.fresh (Nat.le_refl _)
 refine⟨.ref s1.heap.objs.size,upd H1 s1.heap.objs.size (.tup xs),I1.laid (t':=s1.toks) (fun b u e=>Heap.get?_push_of_some _ e) (Nat.le_refl _) ?_,rfl,q _ hf⟩
 exact⟨z,us,r,⟨_,Heap.get?_push_size _ rfl,rfl,_,rfl⟩⟩
theorem JH(h:PA X es t):PE X (.List es pos) (QbQ t):=by
 intro pins s σ H Q I hq
 refine wpAny_List_spliced (thn (h pos pins s σ H _ I hq) fun us s1⟨xs,H1,I1,r,z,q⟩=>⟨by rw[←r.length];exact z,?_⟩)
 have hf:H1 s1.heap.objs.size=none:=I1.hok.fresh (Nat.le_refl _)
 refine⟨.ref s1.heap.objs.size,upd H1 s1.heap.objs.size (.lst xs),I1.laid (t':=s1.toks) (fun b u e=>Heap.get?_push_of_some _ e) (Nat.le_refl _) ?_,rfl,q _ hf⟩
 exact⟨z,us,0,r,Heap.get?_push_size _ rfl⟩
end
noncomputable abbrev Sp:=List V→Hp→VK→XK→Prop
noncomputable abbrev CXT:=List Env→Hp→Shared→XK→Value→Shared→Prop
structure Env0(P:Program)(w:World)(K:PySem.W.Frag)(mg:Str→Option Value)(base:Heap)(A:Around)(outer:List Env)(s:Shared)(H:Hp):Prop where
 frames:A.frames=some outer
 mod:Mod K mg base
 bs:∀b o,base.get? b=some o→s.heap.get? b=some o∧H b=none
 bsz:base.objs.size≤s.heap.objs.size
 Y8:s.heap.FunFrames base outer
 frf:∀b∈frs outer,H b=none
 hok:HOk P w H s.heap
 bare:AllBare s.gens
noncomputable def CE(outer:List Env)(P:Program)(w:World)(H:Hp)(s:Shared)(Q:VK)(u:Value)(s':Shared):Prop:=
 ∃v H',s'.os=s.os∧AllBare s'.gens∧Un (frs outer) [] H H' s.heap s'.heap∧HOk P w H' s'.heap∧RelV v u∧Q v H'
noncomputable def CR(CX:CXT)(outer:List Env)(P:Program)(w:World)(H:Hp)(s:Shared)(Q:VK)(E:XK)(r:Result)(s':Shared):Prop:=
 match r with
 | .ok (.ret u)=>CE outer P w H s Q u s'
 | .ok _=>False
 | .error e=>CX outer H s E e s'
structure FnOk(P:Program)(w:World)(K:PySem.W.Frag)(mg:Str→Option Value)(base:Heap)(CX:CXT)(k:Nat)(f:Addr)(fd:FuncData)(ps:List Str)(sp:Sp):Prop where
 len:∀vs H Q E,sp vs H Q E→vs.length=ps.length
 run:∀(A:Around)(outer:List Env)(s:Shared)(H:Hp)(args:Args)(us:List Value)(vs:List V)(Q:VK)(E:XK),Room k A→Env0 P w K mg base A outer s H→BindsTo s fd args (ps.zip us)→Vals vs us→sp vs H Q E→
  codeAny (model P w) A (.call (.ref f) args) (CR CX outer P w H s Q E) s
section
variable {X:Cx}{pins:List (Addr × Obj)}{σ:St}{H:Hp}{s s':Shared}
theorem Inv.QaN(I:Inv X pins σ H s):Env0 X.prog X.w X.K X.mg X.base X.A X.stack s H:=
 ⟨I.ok.frames,I.ok.mod,I.bs,Nat.le_trans I.ok.bsz I.sz,I.stack,I.Xy,I.hok,I.bare⟩
theorem Inv.after{Q:VK}{u:Value}(I:Inv X pins σ H s)(h:CE X.stack X.prog X.w H s Q u s'):EP X pins σ Q u s':=by
 obtain⟨v,H',os,bare,un,hok,r,q⟩:=h
 obtain⟨hh,g,d,t,os'⟩:=s'
 obtain rfl:os'=s.os:=os
 exact⟨v,H',I.call (h':=hh) (g':=g) (d':=d) (t':=t) (ch:=[]) un hok bare (fun b z=>absurd z (by simp)),r,q⟩
end
noncomputable def WQ(sp:Sp)(dvs:List V)(E:XK)(t:TA):TE:=fun σ H Q=>t σ H fun vs H1=>sp (vs++dvs) H1 Q E
noncomputable def Binds(K:PySem.W.Frag)(fd:FuncData)(ps:List Str)(ds:List Value):Prop:=
 ∀(s:Shared)(us:List Value),K.In s.heap→(us++ds).length=ps.length→BindsTo s fd ⟨us,[]⟩ (ps.zip (us++ds))
theorem Binds.all{K:PySem.W.Frag}{fd:FuncData}{ps:List Str}(h:∀us:List Value,us.length=ps.length→bindArgs fd ⟨us,[]⟩=pure (ps.zip us)):Binds K fd ps []:=fun s us _ hl=>by
 rw[List.append_nil]at hl ⊢
 exact .of_eq (h us hl)
noncomputable def Passes(CX:CXT)(X:Cx)(E:XK):Prop:=∀(pins:List (Addr × Obj))(σ:St)(H:Hp)(s:Shared)(e:Value)(s':Shared),Inv X pins σ H s→CX X.stack H s E e s'→X.xe e s'
section
variable {X:Cx}{CX:CXT}{k:Nat}{f C:Addr}{fd:FuncData}{ps:List Str}{sp:Sp}{dvs:List V}{ds:List Value}{E:XK}{x m:Str}{p pos apos:Pos}{e o:Expr}{es:List Expr}{ta:TE}{t:TA}
theorem k8{pins:List (Addr × Obj)}{σ:St}{H:Hp}{s:Shared}{Q:VK}{us:List Value}{vs:List V}(F:FnOk X.prog X.w X.K X.mg X.base CX k f fd ps sp)(hr:Room k X.A)(hb:Binds X.K fd ps ds)(hd:Vals dvs ds)(hx:Passes CX X E)
  (I:Inv X pins σ H s) (r:Vals vs us) (h:sp (vs++dvs) H Q E):wpAny (model X.prog X.w) X.A (call (.ref f) us) (EP X pins σ Q) X.xe s:=by
 have r2:Vals (vs++dvs) (us++ds):=r.append hd
 have hl:(us++ds).length=ps.length:=by rw[←r2.length];exact F.len _ _ _ _ h
 refine wpAny_call (codeAny_mono (F.run X.A X.stack s H ⟨us,[]⟩ (us++ds) (vs++dvs) Q E hr I.QaN (hb s us I.kIn hl) r2 h) fun r s' hq=>?_)
 cases r with
 |error e=>exact hx pins σ H s e s' I hq
 |ok fl=>
  cases fl with
  |ret u=>exact I.after hq
  |next=>exact False.elim hq
  |brk=>exact False.elim hq
  |cont=>exact False.elim hq
theorem jA(F:FnOk X.prog X.w X.K X.mg X.base CX k f fd ps sp)(hr:Room k X.A)(hg:Gl X x)(hm:X.mg x=some (.ref f))(hk:PySem.W.keepIn X.K (.ref f)=true)(hb:Binds X.K fd ps ds)(hd:Vals dvs ds)(hx:Passes CX X E)
  (ha:PA X (e::es) t) (hdb:(x==("__debug__":Str))=false:=by decide) (he:starEach (e::es) X.env=(false,eval e X.env)::starEach es X.env:=by rfl) (hpl:(backTo pos (starEach es X.env)).any (·.1)=false:=by rfl):
  PE X (.Call (.Name x p) (e::es) [] pos) (WQ sp dvs E t):=by
 intro pins s σ H Q I h
 refine wpAny_Call_Name_kw (Z2 I hg hm ?_ hdb)
 refine PySem.W.callWith_K (h₀:=X.base) I.ok.mod.kin hk (thn (ha pos pins s σ H _ I h) fun us s1⟨vs,H1,I1,r,q⟩=>⟨I1.kIn,?_⟩) he hpl
 exact k8 F hr hb hd hx I1 r q
theorem xm(F:FnOk X.prog X.w X.K X.mg X.base CX k f fd ps sp)(hr:Room k X.A)(hg:Gl X x)(hm:X.mg x=some (.ref f))(hk:PySem.W.keepIn X.K (.ref f)=true)(hb:Binds X.K fd ps ds)(hd:Vals dvs ds)(hx:Passes CX X E)
  (hdb:(x==("__debug__":Str))=false:=by decide):PE X (.Call (.Name x p) [] [] pos) (WQ sp dvs E W7):=by
 intro pins s σ H Q I h
 refine wpAny_Call_Name_kw (Z2 I hg hm ?_ hdb)
 exact PySem.W.callWith_K0 I.kIn hk (k8 (us:=[]) F hr hb hd hx I .nil h)
end
noncomputable def PK(X:Cx)(kws:List Keyword)(t:TA):Prop:=
 ∀(pos:Pos)(pins:List (Addr × Obj))(s:Shared)(σ:St)(H:Hp)(Q:List V→Hp→Prop),Inv X pins σ H s→t σ H Q→wpAny (model X.prog X.w) X.A (evalAll ((backToKw pos (keywordEach kws X.env)).map (·.2))) (AP X pins σ Q) X.xe s
section
variable {X:Cx}{CX:CXT}{k:Nat}{f C:Addr}{fd:FuncData}{ps ks:List Str}{sp:Sp}{E:XK}{x m:Str}{p pos apos kpos:Pos}{e o:Expr}{es:List Expr}{kws:List Keyword}{te ta:TE}{t tk:TA}{nm:Option Str}
theorem jB:PK X [] W7:=fun _ _ _ _ H Q I h=>wpAny_evalAll_nil ⟨[],H,I,.nil,h⟩
theorem Vq(ha:PE X e te)(hr:PK X kws t):PK X (⟨nm,e,kpos⟩::kws) (JN te t):=by
 intro pos pins s σ H Q I h
 show wpAny _ _ (evalAll ((do let v←eval e X.env;standAt pos;pure v)::(backToKw pos (keywordEach kws X.env)).map (·.2))) _ _ s
 refine wpAny_evalAll_cons (wpAny_bind (thn (ha pins s σ H _ I h) fun u s1⟨x,H1,I1,r1,q1⟩=>wpAny_bind (wpAny_standAt (wpAny_pure ?_))))
 exact thn (hr pos pins s1 σ H1 _ I1 q1) fun us s2⟨xs,H2,I2,r2,q2⟩=>⟨x::xs,H2,I2,.cons r1 r2,q2⟩
structure KBinds(K:PySem.W.Frag)(fd:FuncData)(ps ks:List Str)(g:List Value→List Value→List Value)(gV:List V→List V→List V):Prop where
 to:∀(s:Shared)(us ws:List Value),K.In s.heap→(g us ws).length=ps.length→BindsTo s fd ⟨us,ks.zip ws⟩ (ps.zip (g us ws))
 rel:∀{vs:List V}{us:List Value}{zs:List V}{ws:List Value},Vals vs us→Vals zs ws→Vals (gV vs zs) (g us ws)
noncomputable def jC(sp:Sp)(gV:List V→List V→List V)(E:XK)(t tk:TA):TE:=fun σ H Q=>t σ H fun vs H1=>tk σ H1 fun zs H2=>sp (gV vs zs) H2 Q E
variable {g:List Value→List Value→List Value}{gV:List V→List V→List V}
theorem wL{pins:List (Addr × Obj)}{σ:St}{H:Hp}{s:Shared}{Q:VK}{us ws:List Value}{vs zs:List V}(F:FnOk X.prog X.w X.K X.mg X.base CX k f fd ps sp)(hr:Room k X.A)(hb:KBinds X.K fd ps ks g gV)(hx:Passes CX X E)
  (I:Inv X pins σ H s) (r:Vals vs us) (rz:Vals zs ws) (h:sp (gV vs zs) H Q E):wpAny (model X.prog X.w) X.A (call (.ref f) us (ks.zip ws)) (EP X pins σ Q) X.xe s:=by
 have r2:=hb.rel r rz
 have hl:(g us ws).length=ps.length:=by rw[←r2.length];exact F.len _ _ _ _ h
 refine wpAny_call (codeAny_mono (F.run X.A X.stack s H ⟨us,ks.zip ws⟩ (g us ws) (gV vs zs) Q E hr I.QaN (hb.to s us ws I.kIn hl) r2 h) fun r s' hq=>?_)
 cases r with
 |error e=>exact hx pins σ H s e s' I hq
 |ok fl=>
  cases fl with
  |ret u=>exact I.after hq
  |next=>exact False.elim hq
  |brk=>exact False.elim hq
  |cont=>exact False.elim hq
theorem xn(F:FnOk X.prog X.w X.K X.mg X.base CX k f fd ps sp)(hr:Room k X.A)(hg:Gl X x)(hm:X.mg x=some (.ref f))(hk:PySem.W.keepIn X.K (.ref f)=true)(hb:KBinds X.K fd ps ks g gV)(hx:Passes CX X E)
  (ha:PA X (e::es) t) (hkw:PK X kws tk) (hall:(backToKw pos (keywordEach kws X.env)).all (·.1.isSome)=true:=by rfl) (hks:(backToKw pos (keywordEach kws X.env)).filterMap (·.1)=ks:=by rfl)
  (hdb:(x==("__debug__":Str))=false:=by decide) (he:starEach (e::es) X.env=(false,eval e X.env)::starEach es X.env:=by rfl)
  (hpl:((backTo pos (starEach (e::es) X.env)).any (·.1)||(backToKw pos (keywordEach kws X.env)).any (·.1.isNone))=false:=by rfl):
  PE X (.Call (.Name x p) (e::es) kws pos) (jC sp gV E t tk):=by
 intro pins s σ H Q I h
 refine wpAny_Call_Name_kw (Z2 I hg hm ?_ hdb)
 refine PySem.W.callWith_KW (h₀:=X.base) I.ok.mod.kin hk hall (thn (ha pos pins s σ H _ I h) fun us s1⟨vs,H1,I1,r,q⟩=>?_) hpl he
 refine thn (hkw pos pins s1 σ H1 _ I1 q) fun ws s2⟨zs,H2,I2,rz,q2⟩=>⟨I2.kIn,?_⟩
 rw[hks]
 exact wL F hr hb hx I2 r rz q2
end
structure FnScope(N P:List Str)(sc:Scope):Prop where
 kind:sc.kind=.function
 co:sc.isCoroutine=false
 gen:sc.isGenerator=false
 nd:N.Nodup
 pre:N.take P.length=P
 par:∀x∈P,sc.names.lookup x=some .local∨sc.names.lookup x=some .cell
 nofree:∀y∈sc.names,y.2≠ .free
theorem Yb{kindOf:Str→Option NameKind}{x:Str}:∀{binds:List (Str × Value)}{m:Str→Option Value},(∀v,(x,v)∉binds)→bindL kindOf binds m x=m x
 |[],_,_=>rfl
 |(n,v)::r,m,h=>by
  unfold bindL
  rw[Yb fun w hw=>h w (List.mem_cons_of_mem _ hw)]
  split
  ·have:x≠n:=by rintro rfl;exact h v List.mem_cons_self
   simp[this]
  ·rfl
theorem Yc{kindOf:Str→Option NameKind}{x:Str}:∀{binds:List (Str × Value)}{m:Str→Option Value},(∀v,(x,v)∉binds)→bindC kindOf binds m x=m x
 |[],_,_=>rfl
 |(n,v)::r,m,h=>by
  unfold bindC
  rw[Yc fun w hw=>h w (List.mem_cons_of_mem _ hw)]
  split
  ·rfl
  ·have:x≠n:=by rintro rfl;exact h v List.mem_cons_self
   simp[this]
theorem Yd{kindOf:Str→Option NameKind}{x:Str}{v:Value}:∀{P:List Str}{vs:List Value}{i:Nat}{m:Str→Option Value},P.Nodup→P[i]? =some x→vs[i]? =some v→kindOf x=some .local→
  bindL kindOf (P.zip vs) m x=some v
 |[],_,_,_,_,h,_,_=>by simp at h
 |_::_,[],_,_,_,_,h,_=>by simp at h
 |p::P,w::vs,0,m,nd,h1,h2,hk=>by
  simp at h1 h2;subst h1;subst h2
  show bindL kindOf ((p,w)::P.zip vs) m p=_
  unfold bindL
  rw[Yb fun v hv=>(List.nodup_cons.mp nd).1 (List.of_mem_zip hv).1,if_pos hk]
  simp
 |p::P,w::vs,i+1,m,nd,h1,h2,hk=>by
  show bindL kindOf ((p,w)::P.zip vs) m x=_
  unfold bindL
  exact Yd (i:=i) (List.nodup_cons.mp nd).2 (by simpa using h1) (by simpa using h2) hk
theorem Ye{kindOf:Str→Option NameKind}{x:Str}{v:Value}:∀{P:List Str}{vs:List Value}{i:Nat}{m:Str→Option Value},P.Nodup→P[i]? =some x→vs[i]? =some v→kindOf x≠some .local→
  bindC kindOf (P.zip vs) m x=some v
 |[],_,_,_,_,h,_,_=>by simp at h
 |_::_,[],_,_,_,_,h,_=>by simp at h
 |p::P,w::vs,0,m,nd,h1,h2,hk=>by
  simp at h1 h2;subst h1;subst h2
  show bindC kindOf ((p,w)::P.zip vs) m p=_
  unfold bindC
  rw[Yc fun v hv=>(List.nodup_cons.mp nd).1 (List.of_mem_zip hv).1,if_neg hk]
  simp
 |p::P,w::vs,i+1,m,nd,h1,h2,hk=>by
  show bindC kindOf ((p,w)::P.zip vs) m x=_
  unfold bindC
  exact Ye (i:=i) (List.nodup_cons.mp nd).2 (by simpa using h1) (by simpa using h2) hk
noncomputable def start(N:List Str)(vs:List V):St:=vs.map some++List.replicate (N.length-vs.length) none
noncomputable def WR(CX:CXT)(P:Program)(w:World)(K:PySem.W.Frag)(mg:Str→Option Value)(base:Heap)(N:List Str)(qual:Str)(scope:Scope)(f:Addr)(cd:Value)(A:Around)(outer:List Env)(s:Shared)(H:Hp)(E:XK):Cx where
 prog:=P
 w:=w
 K:=K
 mg:=mg
 base:=base
 A:=A.deeper (envOfC qual scope s.heap.objs.size f cd)
 N:=N
 s₀:=s
 H₀:=H
 env:=envOfC qual scope s.heap.objs.size f cd
 outer:=outer
 stack:=envOfC qual scope s.heap.objs.size f cd::outer
 ex:=[]
 calm:=true
 fn:=fun _=>true
 pn:=[]
 xe:=fun e s'=>wpAny (model P w) (A.deeper (envOfC qual scope s.heap.objs.size f cd)) (leaving (envOfC qual scope s.heap.objs.size f cd) e) (fun _ s''=>CX outer H s E e s'') (fun e' s''=>CX outer H s E e' s'') s'
theorem KO{sc:Scope}{n:Nat}{x:Str}(h:sc.names.lookup x=some .cell):∃c,(cellsFrom n sc.names []).lookup x=some c:=by
 have q:=PySem.W.cellsFrom_some sc.names n [] (.inl h)
 exact Option.isSome_iff_exists.mp q
theorem Yf{CX:CXT}{P:Program}{w:World}{K:PySem.W.Frag}{mg:Str→Option Value}{base:Heap}{N ps:List Str}{qual:Str}{scope:Scope}{f:Addr}{cd:Value}{A:Around}{outer:List Env}{s s1:Shared}{H:Hp}{E:XK}{us:List Value}{vs:List V}
  (S:FnScope N ps scope) (hd:A.handled=none) (e0:Env0 P w K mg base A outer s H) (hl:vs.length=ps.length) (r:Vals vs us)
  (x:InCallC s s.heap.objs.size (bindL (envOfC qual scope s.heap.objs.size f cd).kindOf (ps.zip us) fun _=>none) (cellsFrom (s.heap.objs.size+1) scope.names []) (bindC (envOfC qual scope s.heap.objs.size f cd).kindOf (ps.zip us) fun _=>none) s1):
  Inv (WR CX P w K mg base N qual scope f cd A outer s H E) [] (start N vs) H s1:=by
 have hpl:ps.length≤N.length:=by have:=congrArg List.length S.pre;rw[List.length_take]at this;omega
 obtain⟨h1,tk,rfl,hk⟩:=x.done
 have noA:∀b:Addr,b∉(WR CX P w K mg base N qual scope f cd A outer s H E).ex:=fun b z=>absurd (show b∈([]:List Addr)from z) (by simp)
 refine⟨⟨e0.mod,S.kind,rfl,rfl,Nat.le_refl _,fun y z c h1 h2=>?_,fun y hy=>?_,fun y c _ h=>?_,fun _=>hd,Around.frames_deeper e0.frames,.inr ⟨rfl,rfl⟩,fun b z=>absurd z (noA b),e0.bs,e0.bsz,fun b _ _=>noA b,fun b z=>absurd z (noA b),e0.Y8,e0.frf⟩,
  rfl,e0.bare,Un.kept hk,⟨_,x.toInCall.ns,fun i y v h1 h2 h3=>?_⟩,fun y c h=>⟨_,x.cell y c h⟩,e0.hok.fresh (Nat.le_refl _),fun y c h=>?_,fun p hp=>absurd (show p∈([]:List (Addr × Obj))from hp) (by simp),e0.hok.kept hk,?_⟩
 ·exact name_of_addr x.apart (PySem.mem_of_lookup h1) (PySem.mem_of_lookup h2)
 ·have hy:scope.names.lookup y=some .cell∨scope.names.lookup y=some .free:=hy
  rcases hy with hy|hy
  ·exact KO hy
  ·exact absurd rfl (S.nofree _ (PySem.mem_of_lookup hy))
 ·exact Nat.le_of_lt (x.above y c (PySem.mem_of_lookup h))
 ·have hi:i<vs.length:=by
   unfold start at h2
   by_cases hi:i<vs.length
   ·exact hi
   ·rw[List.getElem?_append_right (by simpa using hi)]at h2
    rw[List.getElem?_replicate]at h2
    split at h2<;>cases h2
  have ha:vs[i]? =some v:=by
   unfold start at h2
   rw[List.getElem?_append_left (by simpa using hi),List.getElem?_map]at h2
   cases e:vs[i]? with
   |none=>rw[e]at h2;cases h2
   |some a=>rw[e]at h2;cases h2;rfl
  obtain⟨u,hu,rv⟩:=r.get ha
  have hp:ps[i]? =some y:=by
   rw[←S.pre,List.getElem?_take_of_lt (by omega)];exact h1
  have ndP:ps.Nodup:=by rw[←S.pre];exact S.nd.sublist (List.take_sublist _ _)
  refine⟨u,rv,?_⟩
  rcases S.par y (List.mem_of_getElem? hp)with k|k
  ·exact .inl ⟨k,Yd ndP hp hu k⟩
  ·obtain⟨c,e⟩:=KO (n:=s.heap.objs.size+1) k
   refine .inr ⟨.inl k,c,e,?_⟩
   have q:=x.cell y c e
   rw[Ye ndP hp hu (by show scope.names.lookup y≠_;rw[k];decide)]at q
   exact q
 ·exact e0.hok.fresh (Nat.le_of_lt (x.above y c (PySem.mem_of_lookup h)))
 ·unfold start
  show _=N.length
  rw[List.length_append,List.length_map,List.length_replicate]
  omega
theorem yu{CX:CXT}{P:Program}{w:World}{K:PySem.W.Frag}{mg:Str→Option Value}{base:Heap}{k:Nat}{f:Addr}{name qual:Str}{params:Arguments}{body:List Stmt}{scope:Scope}{dV kV doc pm cdv ct oc:Value}{an od:Option Addr}
  {osl:Array (Option Value)} {N ps:List Str} {sp:Sp} (lk:K.lookup f=some ⟨oc,od,.func (PySem.W.fnOf name qual params body scope dV kV doc pm an cdv ct),osl⟩) (hcd:PySem.W.codeIn K cdv qual=true) (S:FnScope N ps scope)
  (len:∀vs H Q E,sp vs H Q E→vs.length=ps.length)
  (hbody:∀(A:Around)(outer:List Env)(s:Shared)(H:Hp)(vs:List V)(Q:VK)(E:XK),Room k (A.deeper (envOfC qual scope s.heap.objs.size f cdv))→sp vs H Q E→
   ∃t,PSs (WR CX P w K mg base N qual scope f cdv A outer s H E) body t∧t {nx:=fun _ H'=>Q .non H',rt:=Q} (start N vs) H):
  FnOk P w K mg base CX (k+1) f (PySem.W.fnOf name qual params body scope dV kV doc pm an cdv ct) ps sp:=by
 refine⟨len,fun A outer s H args us vs Q E hr e0 hb r hsp=>?_⟩
 have hl:=len _ _ _ _ hsp
 have KX:K.In s.heap:=e0.mod.kin.keeps fun b o e=>(e0.bs b o e).1
 have lim:s.heap.NoLimit:=e0.mod.nolimit.keeps fun b o e=>(e0.bs b o e).1
 have hkind:∀y∈ps.zip us,scope.names.lookup y.1=some .local∨(scope.names.lookup y.1=some .cell∧((cellsFrom (s.heap.objs.size+1) scope.names []).lookup y.1).isSome=true):=fun⟨n,v⟩ hy=>by
  rcases S.par n (List.of_mem_zip hy).1 with q|q
  ·exact .inl q
  ·exact .inr ⟨q,PySem.W.cellsFrom_some _ _ _ (.inl q)⟩
 refine codeAny_call_function hr.depth (KX _ _ lk) rfl S.co S.gen rfl (PySem.W.codeRec_of KX hcd) (hb _ _ _ _ ?_)
 refine wpAny_newFunctionEnv_cells S.kind hkind fun env he s1 x=>?_
 subst he
 refine⟨lim.keeps x.toInCall.keep,codeAny_func ?_⟩
 obtain⟨t,ht,hq⟩:=hbody A outer s H vs Q E (hr.deeper _) hsp
 have I:Inv (WR CX P w K mg base N qual scope f cdv A outer s H E) [] (start N vs) H s1:=Yf S hr.hd e0 hl r x
 refine wpAny_mono (ht [] s1 (start N vs) H _ I hq) (fun fl s' hs=>?_) fun e s' hs=>hs
 have fin:∀{σ':St}{H':Hp}{v:V}{u:Value},Inv (WR CX P w K mg base N qual scope f cdv A outer s H E) [] σ' H' s'→RelV v u→Q v H'→CE outer P w H s Q u s':=
  fun{σ' H' v u} J rv q=>⟨v,H',J.os,J.bare,J.base,J.hok,rv,q⟩
 cases fl with
 |ret u=>
  obtain⟨v,σ',H',J,rv,q⟩:=hs
  exact fin J rv q
 |next=>
  obtain⟨σ',H',J,q⟩:=hs
  exact fin (v:=V.non) (u:=Value.none) J rfl q
 |brk=>
  obtain⟨_,_,_,q⟩:=hs
  exact False.elim q
 |cont=>
  obtain⟨_,_,_,q⟩:=hs
  exact False.elim q
end L2
namespace L2
open PySem PySem.Spec PyProof.Rows
section
variable {X:Cx}{x:Str}{p pos:Pos}{e:Expr}{es:List Expr}{t:TA}{id T:String}{r:List V→Hp→VK→Prop}
noncomputable def tCB(r:List V→Hp→VK→Prop)(t:TA):TE:=fun σ H Q=>t σ H fun vs H1=>r vs H1 Q
theorem Qq(hc:Kf X (.builtin id) r)(hg:Gl X x)(hm:X.mg x=none)(hv:bootBuiltins x=some (.builtin id))(ha:PA X (e::es) t)(hn:x≠"__name__":=by decide)(hdb:(x==("__debug__":Str))=false:=by decide)
  (he:starEach (e::es) X.env=(false,eval e X.env)::starEach es X.env:=by rfl) (hpl:(backTo pos (starEach es X.env)).any (·.1)=false:=by rfl):PE X (.Call (.Name x p) (e::es) [] pos) (tCB r t):=by
 intro pins s σ H Q I h
 refine wpAny_Call_Name_kw (K5 I hg hm hv ?_ hn hdb)
 exact PyProof.Rows.callWith_builtin1 (thn (ha pos pins s σ H _ I h) fun us s1⟨vs,H1,I1,r1,q1⟩=>hc pins s1 σ H1 vs us Q I1 r1 q1) he hpl
theorem Ja(hc:Kf X (.type T) r)(hg:Gl X x)(hm:X.mg x=none)(hv:bootBuiltins x=some (.type T))(ha:PA X (e::es) t)(hn:x≠"__name__":=by decide)(hdb:(x==("__debug__":Str))=false:=by decide)
  (he:starEach (e::es) X.env=(false,eval e X.env)::starEach es X.env:=by rfl) (hpl:(backTo pos (starEach es X.env)).any (·.1)=false:=by rfl):PE X (.Call (.Name x p) (e::es) [] pos) (tCB r t):=by
 intro pins s σ H Q I h
 refine wpAny_Call_Name_kw (K5 I hg hm hv ?_ hn hdb)
 exact PyProof.Rows.callWith_type1 (thn (ha pos pins s σ H _ I h) fun us s1⟨vs,H1,I1,r1,q1⟩=>hc pins s1 σ H1 vs us Q I1 r1 q1) he hpl
end
end L2
namespace HT
open PySem PyProof.Rows
section
open PySem.SeqAt
open PySem.AutoSeq1 (wpAny_loadPart')
open PySem.MeetsSeq PySem.MeetsSeq2 PySem.MeetsSeq3
end
section
variable {prog:Program}{w:World}{A:Around}{E:Value→Shared→Prop}{s:Shared}
noncomputable def sIx(n d:Nat):Option Int→Nat
 |none=>d
 |some v=>if v<0 then(v+(n:Int)).toNat else min v.toNat n
theorem U0(n d:Nat):sIx n d none=d:=rfl
theorem Vr(n d k:Nat):sIx n d (some (k:Int))=min k n:=by
 show(if(k:Int)<0 then((k:Int)+(n:Int)).toNat else min (k:Int).toNat n)=min k n
 rw[if_neg (by omega),Int.toNat_natCast]
theorem yw(n d:Nat)(hd:d≤n)(o:Option Int):sIx n d o≤n:=by
 cases o with
 |none=>exact hd
 |some v=>
  show(if v<0 then(v+(n:Int)).toNat else min v.toNat n)≤n
  by_cases hv:v<0
  ·rw[if_pos hv];omega
  ·rw[if_neg hv];exact Nat.min_le_right _ _
theorem jD(v:Int)(n d:Nat):(if v<0 then max (v+(n:Int)) 0 else min v (n:Int))=((sIx n d (some v):Nat):Int):=by
 show(if v<0 then max (v+(n:Int)) 0 else min v (n:Int))=(((if v<0 then(v+(n:Int)).toNat else min v.toNat n):Nat):Int)
 by_cases hv:v<0
 ·simp only[if_pos hv];omega
 ·simp only[if_neg hv];omega
theorem qF(lo hi:Option Int)(n:Nat):Builtin.Slice.sliceAdjust lo hi 1 (n:Int)=(((sIx n 0 lo:Nat):Int),((sIx n n hi:Nat):Int)):=by
 have h1:¬ ((1:Int)<0):=by omega
 unfold Builtin.Slice.sliceAdjust
 simp only[h1,if_false]
 refine Prod.ext ?_ ?_
 ·cases lo with
  |none=>rfl
  |some v=>exact jD v n 0
 ·cases hi with
  |none=>rfl
  |some v=>exact jD v n n
theorem qG(i j:Nat):Builtin.Slice.slicePlaces (i:Int) (j:Int) 1=j-i:=by
 unfold Builtin.Slice.slicePlaces
 have h1:(1:Int)>0:=by omega
 simp only[h1,if_true,Int.ediv_one]
 split<;>omega
theorem W8{v:Value}{o:Option Int}{Q:Option Int→Shared→Prop}(p:IsPart v o)(h:Q o s):wpAny (model prog w) A (Builtin.Slice.slicePartIndex v) Q E s:=by
 cases p with
 |none=>exact slicePart_none h
 |int i t=>exact slicePart_int h
theorem KG{sl:Addr}{vl vu:Value}{lo hi:Option Int}{n:Nat}{Q:Int × Int × Nat→Shared→Prop}(hs:s.heap.IsSliceOf sl vl vu .none)(pl:IsPart vl lo)(pu:IsPart vu hi)
  (h:Q (((sIx n 0 lo:Nat):Int),1,sIx n n hi-sIx n 0 lo) s):wpAny (model prog w) A (Builtin.Slice.sliceApplied (.ref sl) (pure (n:Int))) Q E s:=by
 obtain⟨os,hos,hcs,hds⟩:=id hs
 unfold Builtin.Slice.sliceApplied Builtin.Slice.sliceFields
 refine wpAny_bind (wpAny_bind (wpAny_field hos hds (x:=vl) rfl (wpAny_bind (wpAny_field hos hds (x:=vu) rfl (wpAny_bind (wpAny_field hos hds (x:=.none) rfl (wpAny_pure ?_)))))))
 refine wpAny_bind (slicePart_none ?_)
 show wpAny _ _ (if((1:Int)==0)=true then _ else _) _ _ s
 rw[if_neg (by decide)]
 refine wpAny_bind (W8 pl (wpAny_bind (W8 pu (wpAny_bind (wpAny_pure ?_)))))
 show wpAny _ _ (match Builtin.Slice.sliceAdjust lo hi 1 (n:Int)with|(lo,hi)=>pure (lo,(1:Int),Builtin.Slice.slicePlaces lo hi 1)) _ _ s
 rw[qF lo hi n]
 show wpAny _ _ (pure (((sIx n 0 lo:Nat):Int),(1:Int),Builtin.Slice.slicePlaces ((sIx n 0 lo:Nat):Int) ((sIx n n hi:Nat):Int) 1)) _ _ s
 rw[qG]
 exact wpAny_pure h
theorem xo(xs:Array Value)(i k:Nat):((List.range k).filterMap fun(m:Nat)=>xs[((i:Int)+(m:Int)*1).toNat]?).toArray=((xs.toList.drop i).take k).toArray:=by
 have e:(fun(m:Nat)=>xs[((i:Int)+(m:Int)*1).toNat]?)=fun m=>xs[i+m]? :=by
  funext m
  have:((i:Int)+(m:Int)*1).toNat=i+m:=by omega
  rw[this]
 rw[e]
 have:=pick_run xs i k
 rw[List.filterMap_map]at this
 have e2:((fun x=>xs[x]?)∘fun x=>i+x)=fun m=>xs[i+m]? :=rfl
 rw[e2]at this
 rw[this]
theorem Kg{t sl:Addr}{items:Array Value}{vl vu:Value}{lo hi:Option Int}{Q:Value→Shared→Prop}(ht:IsTup s.heap t items)(hs:s.heap.IsSliceOf sl vl vu .none)(pl:IsPart vl lo)(pu:IsPart vu hi)
  (hw:¬ (sIx items.size 0 lo=0∧sIx items.size items.size hi=items.size))
  (h:Q (.ref s.heap.objs.size) {s with heap:=s.heap.push {cls:=.type "tuple",data:=.seq ((items.toList.drop (sIx items.size 0 lo)).take (sIx items.size items.size hi-sIx items.size 0 lo)).toArray}})
  (hsz:items.size≤sizeLine):wpAny (model prog w) A (getItem (.ref t) (.ref sl)) Q E s:=by
 have htake:sizeOk (.seq ((items.toList.drop (sIx items.size 0 lo)).take (sIx items.size items.size hi-sIx items.size 0 lo)).toArray):=by
  show((items.toList.drop (sIx items.size 0 lo)).take (sIx items.size items.size hi-sIx items.size 0 lo)).toArray.size≤sizeLine
  rw[List.size_toArray,List.length_take,List.length_drop,Array.length_toList]
  omega
 have hj:sIx items.size items.size hi≤items.size:=yw _ _ (Nat.le_refl _) hi
 obtain⟨os,hos,hcs,hds⟩:=id hs
 have hTs:s.TypeIs (.ref sl) "slice":=⟨os,hos,hcs⟩
 unfold getItem
 try with_reducible refine wpAny_holding ?_
 first|refine wpAny_bind (wpAny_pure ?_)|skip
 refine wpAny_bind (wpAny_sequenceKey ht.typeIs (by decide) ?_)
 refine wpAny_bind (wpAny_callSpecial?_slot (name:=Str.ofString "__getitem__") ht.typeIs PyProof.Rows.slot_tuple_getitem
  (wpAny_call_entry PyProof.Rows.slot_tuple_getitem ht.typeIs entry_tuple_getitem ?_ (args_tuple_getitem _ _)))
 show wpAny _ _ (Builtin.Tuple.tupleItemsOf (.ref t)>>=_) _ _ s
 refine wpAny_bind (tupleItemsOf_ ht ?_)
 refine wpAny_bind (wpAny_typeOf hTs ?_)
 rw[if_pos (by decide)]
 refine wpAny_bind (KG hs pl pu ?_)
 have hno:¬ ((((sIx items.size 0 lo:Nat):Int)==0&&(1:Int)==1&&(sIx items.size items.size hi-sIx items.size 0 lo)==items.size)=true):=by
  intro q
  rw[Bool.and_eq_true,Bool.and_eq_true]at q
  have q1:((sIx items.size 0 lo:Nat):Int)=0:=eq_of_beq q.1.1
  have q2:sIx items.size items.size hi-sIx items.size 0 lo=items.size:=eq_of_beq q.2
  exact hw ⟨by omega,by omega⟩
 show wpAny _ _ (if(((sIx items.size 0 lo:Nat):Int)==0&&(1:Int)==1&&(sIx items.size items.size hi-sIx items.size 0 lo)==items.size)=true then _ else _) _ _ s
 rw[if_neg hno,xo]
 first
  |exact wpAny_bind (m:=Builtin.Tuple.tupleExact _) (wpAny_newObj_type (wpAny_pure ⟨_,rfl,wpAny_pure h⟩) htake)
  |exact wpAny_bind (m:=Builtin.Tuple.tupleExact _) (wpAny_newObj_type (wpAny_bind (wpAny_pure (wpAny_pure ⟨_,rfl,wpAny_pure h⟩))) htake)
  |exact wpAny_bind (wpAny_bind (m:=Builtin.Tuple.tupleExact _) (wpAny_newObj_type (wpAny_pure (wpAny_pure ⟨_,rfl,wpAny_pure h⟩)) htake))
  |exact wpAny_bind (wpAny_bind (m:=Builtin.Tuple.tupleExact _) (wpAny_newObj_type (wpAny_pure ⟨_,rfl,wpAny_pure h⟩) htake))
end
end HT
namespace L2
open PySem PySem.Spec PyProof.Rows
noncomputable abbrev TO:=St→Hp→(Option Int→Hp→Prop)→Prop
noncomputable def PO(X:Cx)(e:Option Expr)(t:TO):Prop:=
 ∀(pins:List (Addr × Obj))(s:Shared)(σ:St)(H:Hp)(Q:Option Int→Hp→Prop),Inv X pins σ H s→t σ H Q→
  wpAny (model X.prog X.w) X.A (evalPart e X.env) (fun u s'=>∃o H',Inv X pins σ H' s'∧IsPart u o∧Q o H') X.xe s
noncomputable def Ud:TO:=fun _ H Q=>Q none H
noncomputable def wM(t:TE):TO:=fun σ H Q=>t σ H fun x H1=>∃i,x=.int i∧Q (some i) H1
section
variable {X:Cx}{e:Expr}{te:TE}{lo hi:Option Expr}{tl th:TO}{pos p2:Pos}
theorem JU:PO X none Ud:=by
 intro pins s σ H Q I h
 rw[evalPart_none]
 exact wpAny_pure ⟨none,H,I,.none,h⟩
theorem Q7(h:PE X e te):PO X (some e) (wM te):=by
 intro pins s σ H Q I hw
 rw[evalPart_some]
 refine thn (h pins s σ H _ I hw) fun u s1⟨x,H1,I1,r1,q1⟩=>?_
 obtain⟨i,rfl,q⟩:=q1
 obtain⟨t,rfl⟩:=r1
 exact⟨some i,H1,I1,.int i t,q⟩
noncomputable def SlR(X:Cx)(r:V→Option Int→Option Int→Hp→VK→Prop):Prop:=
 ∀(pins:List (Addr × Obj))(s:Shared)(σ:St)(H:Hp)(x:V)(v vl vu:Value)(lo hi:Option Int)(sl:Addr)(Q:VK),Inv X pins σ H s→RelV x v→s.heap.IsSliceOf sl vl vu .none→IsPart vl lo→IsPart vu hi→r x lo hi H Q→
  ∃T id,typeLookup (.type T) "__getitem__"=pure (some (.builtin id))∧s.TypeIs v T∧wpAny (model X.prog X.w) X.A (getItem v (.ref sl)) (EP X pins σ Q) X.xe s
noncomputable def tSl(r:V→Option Int→Option Int→Hp→VK→Prop)(te:TE)(tl th:TO):TE:=fun σ H Q=>te σ H fun x H1=>tl σ H1 fun l H2=>th σ H2 fun u H3=>r x l u H3 Q
theorem Q6{r:V→Option Int→Option Int→Hp→VK→Prop}(hr:SlR X r)(he:PE X e te)(hl:PO X lo tl)(hu:PO X hi th):PE X (.Subscript e (.Slice lo hi none p2) pos) (tSl r te tl th):=by
 intro pins s σ H Q I h
 refine Subscript_ (thn (he pins s σ H _ I h) fun v s1⟨x,H1,I1,r1,q1⟩=>?_)
 refine wpAny_Slice (thn (hl pins s1 σ H1 _ I1 q1) fun vl s2⟨l,H2,I2,pl,q2⟩=>thn (hu pins s2 σ H2 _ I2 q2) fun vu s3⟨u,H3,I3,pu,q3⟩=>?_)
 rw[evalPart_none]
 refine wpAny_pure ?_
 have I4:Inv X pins σ H3 {s3 with heap:=s3.heap.push {cls:=.type "slice",data:=.fields #[vl,vu,.none]}}:=I3.kept (t':=s3.toks) fun b ob q=>Heap.get?_push_of_some _ q
 obtain⟨T,id,hT,ht,hg⟩:=hr pins {s3 with heap:=s3.heap.push {cls:=.type "slice",data:=.fields #[vl,vu,.none]}} σ H3 x v vl vu l u s3.heap.objs.size Q I4 r1 (Heap.IsSliceOf.new ..) pl pu q3
 show wpAny (model X.prog X.w) X.A (subscriptTail e (.Slice lo hi none p2) v (.ref s3.heap.objs.size)) (EP X pins σ Q) X.xe {s3 with heap:=s3.heap.push {cls:=.type "slice",data:=.fields #[vl,vu,.none]}}
 exact tail_any (ops:=[.ref s3.heap.objs.size,v]) ht hT hg (by with_unfolding_all rfl)
noncomputable def jh(xs:List V)(lo hi:Option Int):List V:=(xs.drop (HT.sIx xs.length 0 lo)).take (HT.sIx xs.length xs.length hi-HT.sIx xs.length 0 lo)
theorem Wb(xs:List V)(lo hi:Option Int):(jh xs lo hi).length≤xs.length:=by
 unfold jh
 rw[List.length_take,List.length_drop]
 omega
noncomputable def Qb9(K:PySem.W.Frag):V→Option Int→Option Int→Hp→VK→Prop:=fun x lo hi H Q=>∃a xs,x=.ref a∧SqT K H a xs∧
 ¬ (HT.sIx xs.length 0 lo=0∧HT.sIx xs.length xs.length hi=xs.length)∧∀p,H p=none→Q (.ref p) (upd H p (.tup (jh xs lo hi)))
theorem yx:SlR X (Qb9 X.K):=by
 intro pins s σ H x v vl vu lo hi sl Q I rx hs pl pu h
 obtain⟨a,xs,rfl,hx,hw,q⟩:=h
 cases rx
 obtain⟨its,r,ht,hz⟩:=I.tuple hx
 have hlen:its.toArray.size=xs.length:=by rw[List.size_toArray];exact r.length.symm
 refine⟨"tuple",_,PyProof.Rows.slot_tuple_getitem.lookup,ht.typeIs,?_⟩
 refine HT.Kg ht hs pl pu (by rw[hlen];exact hw) ?_ (by rw[hlen];exact hz)
 rw[hlen]
 refine⟨.ref s.heap.objs.size,_,I.laid (t':=s.toks) (o:=.tup (jh xs lo hi)) (fun b ob q=>Heap.get?_push_of_some _ q) (Nat.le_refl _) ?_,rfl,q _ (I.hok.fresh (Nat.le_refl _))⟩
 exact⟨Nat.le_trans (Wb xs lo hi) hz,_,(r.drop (HT.sIx xs.length 0 lo)).take (HT.sIx xs.length xs.length hi-HT.sIx xs.length 0 lo),IsTup.new _ _⟩
end
end L2
namespace L2
open PySem PySem.Spec PyProof.Rows
noncomputable def ixN(n:Nat)(i:Int):Option Nat:=if 0≤i then(if i<n then some i.toNat else none)else if-(n:Int)≤i then some (i+n).toNat else none
noncomputable def atI{α:Type}(xs:List α)(i:Int):Option α:=(ixN xs.length i).bind fun j=>xs[j]?
theorem jE{n:Nat}{i:Int}{j:Nat}(h:ixN n i=some j):seqIndex? i n=some j∧j<n∧ -(n:Int)≤i∧i<n:=by
 unfold ixN at h
 by_cases h0:0≤i
 ·rw[if_pos h0]at h
  by_cases h1:i<n
  ·rw[if_pos h1]at h
   have e:i.toNat=j:=Option.some.inj h
   exact⟨by rw[seqIndex_of h0 h1,e],by omega,by omega,h1⟩
  ·rw[if_neg h1]at h;cases h
 ·rw[if_neg h0]at h
  by_cases h1: -(n:Int)≤i
  ·rw[if_pos h1]at h
   have e:(i+n).toNat=j:=Option.some.inj h
   exact⟨by rw[seqIndex_neg (by omega) h1,e],by omega,h1,by omega⟩
  ·rw[if_neg h1]at h;cases h
theorem Ue{α:Type}{xs:List α}{i:Int}{v:α}(h:atI xs i=some v):∃j,seqIndex? i xs.length=some j∧xs[j]? =some v∧j<xs.length∧ -(xs.length:Int)≤i∧i<xs.length:=by
 unfold atI at h
 cases e:ixN xs.length i with
 |none=>rw[e]at h;cases h
 |some j=>
  rw[e]at h
  obtain⟨h1,h2,h3,h4⟩:=jE e
  exact⟨j,h1,h,h2,h3,h4⟩
theorem Zd{α:Type}{xs:List α}{j:Nat}{v:α}(h:xs[j]? =some v):atI xs (j:Int)=some v:=by
 have hj:j<xs.length:=(List.getElem?_eq_some_iff.mp h).1
 have e:ixN xs.length (j:Int)=some j:=by
  unfold ixN
  rw[if_pos (by omega),if_pos (by omega)];simp
 unfold atI;rw[e];exact h
theorem KP{α:Type}(xs:List α)(v:α):atI (xs++[v]) (-1)=some v:=by
 have hl:(xs++[v]).length=xs.length+1:=by simp
 have e:ixN (xs++[v]).length (-1)=some xs.length:=by
  unfold ixN
  rw[hl,if_neg (by decide),if_pos (by omega)]
  congr 1
  omega
 unfold atI
 rw[e]
 show(xs++[v])[xs.length]? =some v
 simp
noncomputable def wN(b:Expr):Prop:=∀o i,subscripted b false o i=operate [o,i] (getItem o i)
noncomputable def IxR(X:Cx)(r:R2):Prop:=
 ∀(value slice:Expr)(pins:List (Addr × Obj))(s:Shared)(σ:St)(H:Hp)(x y:V)(v u:Value)(Q:VK),Inv X pins σ H s→RelV x v→RelV y u→r x y H Q→
  subscripted slice false v u=operate [v,u] (getItem v u)→wpAny (model X.prog X.w) X.A (subscriptTail value slice v u) (EP X pins σ Q) X.xe s
noncomputable def MtR(X:Cx)(id:String)(r:V→List V→Hp→VK→Prop):Prop:=
 ∀(pins:List (Addr × Obj))(s:Shared)(σ:St)(H:Hp)(x:V)(xs:List V)(v:Value)(us:List Value)(Q:VK),Inv X pins σ H s→RelV x v→Vals xs us→r x xs H Q→
  wpAny (model X.prog X.w) X.A (call (.builtin id) (v::us)) (EP X pins σ Q) X.xe s
section
variable {X:Cx}{a b:Expr}{ta tb:TE}{pos:Pos}
theorem QJ{r:R2}(hr:IxR X r)(ha:PE X a ta)(hb:PE X b tb)(hs:wN b):PE X (.Subscript a b pos) (tOp r ta tb):=by
 intro pins s σ H Q I h
 exact Subscript_ (QaW ha hb I h fun v u s2 x y H2 I2 rx ry q=>hr a b pins s2 σ H2 x y v u Q I2 rx ry q (hs _ _))
noncomputable def yy(K:PySem.W.Frag):R2:=fun x y H Q=>∃p xs i v,x=.ref p∧y=.int i∧SqL K H p xs∧atI xs i=some v∧Q v H
noncomputable def Qa0(K:PySem.W.Frag):R2:=fun x y H Q=>∃p xs i v,x=.ref p∧y=.int i∧SqT K H p xs∧atI xs i=some v∧Q v H
noncomputable def Qca:R2:=fun x y H Q=>∃z i c,x=.str z∧y=.int i∧z.length≤sizeLine∧atI z.cps.toList i=some c∧Q (.str ⟨#[c]⟩) H
theorem QN:IxR X (yy X.K):=by
 intro value slice pins s σ H x y v u Q I rx ry h hs
 obtain⟨p,xs,i,z,rfl,rfl,hq,he,q⟩:=h
 cases rx
 obtain⟨t,rfl⟩:=ry
 obtain⟨its,r,pl,hz⟩:=I.list hq
 obtain⟨j,h1,h2,h3,h4,h5⟩:=Ue he
 obtain⟨w,ew,rw'⟩:=r.get h2
 have hl:=r.length
 have hn:=XV
 have fin:EP X pins σ Q w s:=⟨z,H,I,rw',q⟩
 by_cases h0:0≤i
 ·have hj:i.toNat=j:=by
   rw[seqIndex_of h0 h5]at h1
   exact Option.some.inj h1
  exact item_listR pl.isList h0 (by omega) (by rw[hj];simpa using ew) fin hs
 ·have hj:(i+(its.toArray.size:Int)).toNat=j:=by
   rw[seqIndex_neg (by omega) h4]at h1
   rw[List.size_toArray, ←hl]
   exact Option.some.inj h1
  exact subscriptTail_builtinR (x:=w) pl.isList.typeIs slot_list_getitem.lookup
   (wpAny_getItem_list_neg (Q:=fun r s'=>r=w∧EP X pins σ Q r s') pl.isList (by omega) (by rw[List.size_toArray]<;>omega) (by omega) (by rw[hj];simpa using ew) ⟨rfl,fin⟩) hs
theorem Jq:IxR X (Qa0 X.K):=by
 intro value slice pins s σ H x y v u Q I rx ry h hs
 obtain⟨p,xs,i,z,rfl,rfl,hq,he,q⟩:=h
 cases rx
 obtain⟨t,rfl⟩:=ry
 obtain⟨its,r,pl,hz⟩:=I.tuple hq
 obtain⟨j,h1,h2,h3,h4,h5⟩:=Ue he
 obtain⟨w,ew,rw'⟩:=r.get h2
 have hl:=r.length
 have hn:=XV
 have fin:EP X pins σ Q w s:=⟨z,H,I,rw',q⟩
 exact subscriptTail_builtinR (x:=w) pl.typeIs slot_tuple_getitem.lookup
  (getItem_tuple (j:=j) (Q:=fun r s'=>r=w∧EP X pins σ Q r s') pl (by omega) (by omega) (by rw[List.size_toArray, ←hl];exact h1) (by simpa using ew) ⟨rfl,fin⟩) hs
theorem XW:IxR X Qca:=by
 intro value slice pins s σ H x y v u Q I rx ry h hs
 obtain⟨z,i,c,rfl,rfl,hz,he,q⟩:=h
 obtain⟨t,rfl⟩:=rx
 obtain⟨t',rfl⟩:=ry
 obtain⟨j,h1,h2,h3,h4,h5⟩:=Ue he
 have hl:z.cps.toList.length=z.length:=by simp[Str.length]
 rw[hl]at h1 h4 h5
 have hn:=XV
 exact tail_any (typeIs_str s z t) slot_str_getitem.lookup (getItem_str (c:=c) (by
  have e1:decide (i< -(2^63:Int))=false:=decide_eq_false (by omega)
  have e2:decide (i≥2^63)=false:=decide_eq_false (by omega)
  rw[e1,e2,Bool.or_false]) (by rw[h1];simpa using h2) ⟨.str ⟨#[c]⟩,H,I.tok _,⟨_,rfl⟩,q⟩) hs
theorem qH(its:List Value)(n j:Nat)(u:Value):Obj.mapSeq (·.setIfInBounds j u) {cls:=.type "list",data:=.seq its.toArray n}={cls:=.type "list",data:=.seq (its.set j u).toArray n}:=by
 simp[Obj.mapSeq]
theorem Inv.lst{pins:List (Addr × Obj)}{σ:St}{H:Hp}{s:Shared}{p:Addr}{xs:List V}(I:Inv X pins σ H s)(h:H p=some (.lst xs)):
  ∃(its:List Value)(n:Nat),Vals xs its∧s.heap.get? p=some {cls:=.type "list",data:=.seq its.toArray n}∧xs.length≤sizeLine:=by
 obtain⟨z,its,n,r,e⟩:=I.hok p _ h
 exact⟨its,n,r,e,z⟩
theorem Inv.yz{pins:List (Addr × Obj)}{σ:St}{H:Hp}{s:Shared}{p:Addr}{xs ys:List V}{its its':List Value}{n n':Nat}{f:Obj→Obj}(I:Inv X pins σ H s)(h:H p=some (.lst xs))
  (ho:s.heap.get? p=some {cls:=.type "list",data:=.seq its.toArray n}) (hf:f {cls:=.type "list",data:=.seq its.toArray n}={cls:=.type "list",data:=.seq its'.toArray n'}) (r:Vals ys its') (hz:ys.length≤sizeLine) (t:Nat):
  Inv X pins σ (upd H p (.lst ys)) {s with heap:=s.heap.update p f,toks:=t}:=by
 have e:(s.heap.update p f).get? p=some {cls:=.type "list",data:=.seq its'.toArray n'}:=by
  rw[Heap.get?_update_self f ho (by rw[hf]<;>rfl),hf]
 refine I.write (x:=p) (e:=p) (by rw[h];trivial) (.inl rfl) (fun b u hb q=>(Heap.get?_update_other _ _ (Ne.symm hb)).trans q) ⟨_,e⟩ ?_
 exact⟨hz,its',n',r,e⟩
noncomputable def Qa1:V→V→V→Hp→(Hp→Prop)→Prop:=fun o i v H Q=>∃p xs k j,o=.ref p∧i=.int k∧H p=some (.lst xs)∧ixN xs.length k=some j∧Q (upd H p (.lst (xs.set j v)))
theorem set_list:QbM X Qa1:=by
 intro pins s σ H o i v ov iv u Q I ro ri rv h
 obtain⟨p,xs,k,j,rfl,rfl,hp,hj,q⟩:=h
 cases ro
 obtain⟨t,rfl⟩:=ri
 obtain⟨its,n,r,ho,hz⟩:=I.lst hp
 obtain⟨h1,h2,h3,h4⟩:=jE hj
 have hl:=r.length
 have hn:=XV
 have I':Inv X pins σ (upd H p (.lst (xs.set j v))) {s with heap:=s.heap.update p (Obj.mapSeq (·.setIfInBounds j u))}:=
  I.yz hp ho (qH its n j u) (r.set rv j) (by rw[List.length_set];exact hz) s.toks
 by_cases h0:0≤k
 ·have hk:k.toNat=j:=by
   rw[seqIndex_of h0 h4]at h1
   exact Option.some.inj h1
  exact PySem.W.ki_setAt ho h0 (by omega) (by rw[List.size_toArray, ←hl];exact h4) (by rw[hk];exact⟨_,I',q⟩)
 ·have hk:(k+(its.toArray.size:Int)).toNat=j:=by
   rw[seqIndex_neg (by omega) h3]at h1
   rw[List.size_toArray, ←hl]
   exact Option.some.inj h1
  exact PySem.W.ki_setBack ho (by omega) (by rw[List.size_toArray, ←hl];exact h3) (by omega) (by rw[hk];exact⟨_,I',q⟩)
theorem Yg(lo hi:Option Int)(n:Nat):(sliceBounds lo hi none n).1=((HT.sIx n 0 lo:Nat):Int)∧(sliceBounds lo hi none n).2.1=((HT.sIx n n hi:Nat):Int)∧(sliceBounds lo hi none n).2.2=1:=by
 refine⟨?_,?_,rfl⟩
 ·cases lo with
  |none=>simp[sliceBounds,HT.sIx]
  |some i=>
   simp only[sliceBounds,HT.sIx,Option.getD_none,show(1:Int)>0 by decide,if_true]
   by_cases h:i<0
   ·simp only[h,if_true]<;>omega
   ·simp only[h,if_false]<;>omega
 ·cases hi with
  |none=>simp[sliceBounds,HT.sIx]
  |some i=>
   simp only[sliceBounds,HT.sIx,Option.getD_none,show(1:Int)>0 by decide,if_true]
   by_cases h:i<0
   ·simp only[h,if_true]<;>omega
   ·simp only[h,if_false]<;>omega
theorem Vs(its:List Value)(lo hi:Option Int):slicePick its.toArray lo hi none=((its.drop (HT.sIx its.length 0 lo)).take (HT.sIx its.length its.length hi-HT.sIx its.length 0 lo)).toArray:=by
 obtain⟨h1,h2,h3⟩:=Yg lo hi its.toArray.size
 unfold slicePick
 rw[h1,h2,h3]
 simp only[sliceRange_one,pick_run,List.size_toArray]<;>rfl
noncomputable def Qa2(K:PySem.W.Frag):V→Option Int→Option Int→Hp→VK→Prop:=fun x lo hi H Q=>∃a xs,x=.ref a∧SqL K H a xs∧∀p,H p=none→Q (.ref p) (upd H p (.lst (jh xs lo hi)))
theorem Vt:SlR X (Qa2 X.K):=by
 intro pins s σ H x v vl vu lo hi sl Q I rx hs pl pu h
 obtain⟨a,xs,rfl,hx,q⟩:=h
 cases rx
 obtain⟨its,r,ht,hz⟩:=I.list hx
 have hlen:=r.length
 refine⟨"list",_,slot_list_getitem.lookup,ht.isList.typeIs,?_⟩
 refine wpAny_getItem_list_slice ht.isList hs pl pu .none (by simp) ?_ (by rw[List.size_toArray]<;>omega)
 rw[Vs, ←hlen]
 refine⟨.ref s.heap.objs.size,_,I.laid (t':=s.toks) (o:=.lst (jh xs lo hi)) (fun b ob q=>Heap.get?_push_of_some _ q) (Nat.le_refl _) ?_,rfl,q _ (I.hok.fresh (Nat.le_refl _))⟩
 exact⟨Nat.le_trans (Wb xs lo hi) hz,_,0,(r.drop (HT.sIx xs.length 0 lo)).take (HT.sIx xs.length xs.length hi-HT.sIx xs.length 0 lo),Heap.get?_push_size _ rfl⟩
noncomputable def Z5:V→Bool
 | .non=>true
 | .bl _=>true
 | .int _=>true
 | .str _=>true
 |_=>false
noncomputable def eqV:V→V→Bool
 | .non,.non=>true
 | .bl a,.bl b=>a==b
 | .bl a,.int b=>(if a then 1 else 0)==b
 | .int a,.bl b=>a==(if b then 1 else 0)
 | .int a,.int b=>a==b
 | .str a,.str b=>a==b
 |_,_=>false
theorem k9{A:Around}{s:Shared}{y x:V}{u v:Value}(ry:RelV y u)(rx:RelV x v)(fy:Z5 y=true)(fx:Z5 x=true):SeqAt.EqAt A s u v (eqV y x):=by
 cases y with
 |non=>
  cases ry
  cases x with
  |non=>cases rx;exact SeqAt.EqAt.same _
  |bl b=>cases rx;exact SeqAt.EqAt.none_bool b
  |int b=>obtain⟨t,rfl⟩:=rx;exact SeqAt.EqAt.none_int b t
  |str b=>obtain⟨t,rfl⟩:=rx;exact SeqAt.EqAt.none_str b t
  |_=>exact absurd (show false=true from fx) Bool.false_ne_true
 |bl a=>
  cases ry
  cases x with
  |non=>cases rx;exact SeqAt.EqAt.bool_none a
  |bl b=>cases rx;exact SeqAt.EqAt.bool_bool a b
  |int b=>obtain⟨t,rfl⟩:=rx;exact SeqAt.EqAt.bool_int a b t
  |str b=>obtain⟨t,rfl⟩:=rx;exact SeqAt.EqAt.bool_str a b t
  |_=>exact absurd (show false=true from fx) Bool.false_ne_true
 |int a=>
  obtain⟨t',rfl⟩:=ry
  cases x with
  |non=>cases rx;exact SeqAt.EqAt.int_none a t'
  |bl b=>cases rx;exact SeqAt.EqAt.int_bool a t' b
  |int b=>obtain⟨t,rfl⟩:=rx;exact SeqAt.EqAt.int_int a t' b t
  |str b=>obtain⟨t,rfl⟩:=rx;exact SeqAt.EqAt.int_str a t' b t
  |_=>exact absurd (show false=true from fx) Bool.false_ne_true
 |str a=>
  obtain⟨t',rfl⟩:=ry
  cases x with
  |non=>cases rx;exact SeqAt.EqAt.str_none a t'
  |bl b=>cases rx;exact SeqAt.EqAt.str_bool a t' b
  |int b=>obtain⟨t,rfl⟩:=rx;exact SeqAt.EqAt.str_int a t' b t
  |str b=>obtain⟨t,rfl⟩:=rx;exact SeqAt.EqAt.str_str a t' b t
  |_=>exact absurd (show false=true from fx) Bool.false_ne_true
 |_=>exact absurd (show false=true from fy) Bool.false_ne_true
noncomputable def eqU(x:V)(u:Value):Bool:=match u with
 | .none=>eqV .non x
 | .bool b=>eqV (.bl b) x
 | .int i _=>eqV (.int i) x
 | .str z _=>eqV (.str z) x
 |_=>false
theorem U1{x y:V}{u:Value}(r:RelV y u)(f:Z5 y=true):eqU x u=eqV y x:=by
 cases y with
 |non=>cases r;rfl
 |bl b=>cases r;rfl
 |int i=>obtain⟨t,rfl⟩:=r;rfl
 |str z=>obtain⟨t,rfl⟩:=r;rfl
 |_=>exact absurd (show false=true from f) Bool.false_ne_true
theorem Wc{x:V}:∀{xs:List V}{us:List Value},Vals xs us→xs.all Z5=true→us.any (eqU x)=xs.any fun y=>eqV y x
 |_,_,.nil,_=>rfl
 |y::xs,u::us,.cons r t,f=>by
  rw[List.all_cons,Bool.and_eq_true]at f
  rw[List.any_cons,List.any_cons,U1 r f.1,Wc t f.2]
theorem ZN{A:Around}{s:Shared}{x:V}{v:Value}(rx:RelV x v)(fx:Z5 x=true):∀{xs:List V}{us:List Value},Vals xs us→xs.all Z5=true→∀u∈us,SeqAt.EqAt A s u v (eqU x u)
 |_,_,.nil,_=>fun u hu=>by cases hu
 |y::xs,u::us,.cons r t,f=>fun u' hu=>by
  rw[List.all_cons,Bool.and_eq_true]at f
  rcases List.mem_cons.mp hu with rfl|hu
  ·rw[U1 r f.1];exact k9 r rx f.1 fx
  ·exact ZN rx fx t f.2 u' hu
noncomputable def inV(x:V)(xs:List V):Bool:=xs.any fun y=>eqV y x
noncomputable def rIn(K:PySem.W.Frag)(neg:Bool):R2:=fun x y H Q=>∃p xs,y=.ref p∧(SqL K H p xs∨SqT K H p xs)∧Z5 x=true∧xs.all Z5=true∧Q (.bl (if neg then !inV x xs else inV x xs)) H
theorem Yh:OpR X (compareOp .In) (rIn X.K false):=by
 intro pins s σ H x y v u Q I rx ry h
 obtain⟨p,xs,rfl,hq,fx,fs,q⟩:=h
 cases ry
 rcases hq with hq|hq
 ·obtain⟨its,r,pl,hz⟩:=I.list hq
  refine SeqAt.in_listAt (eqU x) pl.isList (fun w hw=>ZN rx fx r fs w (by simpa using hw)) ⟨.bl _,H,I,rfl,?_⟩
  rw[show its.toArray.any (eqU x)=its.any (eqU x) by simp,Wc r fs]
  exact q
 ·obtain⟨its,r,pl,hz⟩:=I.tuple hq
  refine SeqAt.in_tupleAt (eqU x) pl (fun w hw=>ZN rx fx r fs w (by simpa using hw)) ⟨.bl _,H,I,rfl,?_⟩
  rw[show its.toArray.any (eqU x)=its.any (eqU x) by simp,Wc r fs]
  exact q
theorem Z6:OpR X (compareOp .NotIn) (rIn X.K true):=by
 intro pins s σ H x y v u Q I rx ry h
 obtain⟨p,xs,rfl,hq,fx,fs,q⟩:=h
 cases ry
 rcases hq with hq|hq
 ·obtain⟨its,r,pl,hz⟩:=I.list hq
  refine SeqAt.notIn_listAt (eqU x) pl.isList (fun w hw=>ZN rx fx r fs w (by simpa using hw)) ⟨.bl _,H,I,rfl,?_⟩
  rw[show its.toArray.any (eqU x)=its.any (eqU x) by simp,Wc r fs]
  exact q
 ·obtain⟨its,r,pl,hz⟩:=I.tuple hq
  refine SeqAt.notIn_tupleAt (eqU x) pl (fun w hw=>ZN rx fx r fs w (by simpa using hw)) ⟨.bl _,H,I,rfl,?_⟩
  rw[show its.toArray.any (eqU x)=its.any (eqU x) by simp,Wc r fs]
  exact q
theorem QF:Kf X (.builtin "len") (fun xs H Q=>∃p ys,xs=[.ref p]∧(SqL X.K H p ys∨SqT X.K H p ys)∧Q (.int ys.length) H):=by
 intro pins s σ H xs us Q I r h
 obtain⟨p,ys,rfl,hq,q⟩:=h
 obtain⟨u,rfl,rx⟩:=vals1 r
 cases rx
 have hn:=XV
 rcases hq with hq|hq
 ·obtain⟨its,r',pl,hz⟩:=I.list hq
  have hlen:=r'.length
  exact Calls.call_len_list pl.isList (by simp only[List.size_toArray]<;>omega) ⟨.int ys.length,H,I.tok _,⟨s.toks+1,by rw[List.size_toArray,hlen]⟩,q⟩
 ·obtain⟨its,r',pl,hz⟩:=I.tuple hq
  have hlen:=r'.length
  exact len_tuple pl (by simp only[List.size_toArray]<;>omega) ⟨.int ys.length,H,I.tok _,⟨s.toks+1,by rw[List.size_toArray,hlen]⟩,q⟩
theorem Jb:Kf X (.builtin "len") (fun xs H Q=>∃z,xs=[.str z]∧z.length≤sizeLine∧Q (.int z.length) H):=by
 intro pins s σ H xs us Q I r h
 obtain⟨z,rfl,hz,q⟩:=h
 obtain⟨u,rfl,t,rfl⟩:=vals1 r
 have hn:=XV
 exact len_str (by omega) ⟨.int z.length,H,I.tok _,⟨_,rfl⟩,q⟩
noncomputable def tyV(K:PySem.W.Frag)(T:String)(x:V)(H:Hp):Prop:=match x with
 | .str _=>T="str"
 | .int _=>T="int"
 | .ref p=>(T="list"∧∃xs,SqL K H p xs)∨(T="tuple"∧∃o,K.lookup p=some o∧o.cls=.type "tuple"∧o.dict=none)∨
   (T="dict"∧((∃kvs,H p=some (.dK kvs))∨∃kvs,H p=some (.dT kvs)))∨(T="set"∧∃S n,H p=some (.set S n))
 |_=>False
theorem wa{pins:List (Addr × Obj)}{σ:St}{H:Hp}{s:Shared}{T:String}{x:V}{v:Value}(I:Inv X pins σ H s)(r:RelV x v)(ty:tyV X.K T x H):
  s.TypeIs v T∧∀a,v=.ref a→∃ob,s.heap.get? a=some ob∧ob.dict=none:=by
 cases x with
 |str z=>
  obtain⟨t,rfl⟩:=r
  cases(show T="str" from ty)
  exact⟨typeIs_str s z t,fun _ e=>nomatch e⟩
 |int i=>
  obtain⟨t,rfl⟩:=r
  cases(show T="int" from ty)
  exact⟨typeIs_int s i t,fun _ e=>nomatch e⟩
 |ref p=>
  cases r
  rcases ty with⟨rfl,xs,hq⟩|⟨rfl,o,hk,hc,hd⟩|⟨rfl,hk⟩|⟨rfl,S,n,hk⟩
  ·obtain⟨its,_,pl,_⟩:=I.list hq
   refine⟨pl.isList.typeIs,fun a e=>?_⟩
   cases e
   obtain⟨o,n,e,c,hd,_⟩:=pl
   exact⟨o,e,hd⟩
  ·refine⟨⟨o,I.kIn p o hk,hc⟩,fun a e=>?_⟩
   cases e
   exact⟨o,I.kIn _ o hk,hd⟩
  ·have z:∃o,s.heap.get? p=some o∧o.ExactDict:=by
    rcases hk with⟨kvs,hk⟩|⟨kvs,hk⟩
    ·obtain⟨_,_,_,_,o,_,_,e,ex,_⟩:=I.hok p _ hk
     exact⟨o,e,ex⟩
    ·obtain⟨_,_,_,_,o,_,_,e,ex,_⟩:=I.hok p _ hk
     exact⟨o,e,ex⟩
   obtain⟨o,e,ex⟩:=z
   refine⟨⟨o,e,ex.1⟩,fun a e2=>?_⟩
   cases e2
   exact⟨o,e,ex.2.1⟩
  ·obtain⟨o,_,_,_,e,ex,_⟩:=I.hok p _ hk
   refine⟨⟨o,e,ex.1⟩,fun a e2=>?_⟩
   cases e2
   exact⟨o,e,ex.2.1⟩
 |_=>exact False.elim ty
noncomputable def Qcb(K:PySem.W.Frag)(T:String)(r:V→List V→Hp→VK→Prop)(to:TE):TE:=fun σ H Q=>to σ H fun x H1=>tyV K T x H1∧r x [] H1 Q
noncomputable def tBM(K:PySem.W.Frag)(T:String)(r:V→List V→Hp→VK→Prop)(to:TE)(t:TA):TE:=fun σ H Q=>to σ H fun x H1=>tyV K T x H1∧t σ H1 fun xs H2=>r x xs H2 Q
variable {o e:Expr}{es:List Expr}{to:TE}{t:TA}{name:Str}{apos cpos:Pos}{T id:String}{r:V→List V→Hp→VK→Prop}
theorem yA(pa:PlainAttrs T)(slot:Slot T name id)(hty:typeOf (.builtin id)=pure (.type "method_descriptor"))(hm:MtR X id r)(ho:PE X o to)
  (hbase:attributeBase o name X.env (eval o X.env)=eval o X.env:=by rfl) (hline:(apos.endLine==cpos.line)=true:=by rfl):PE X (.Call (.Attribute o name apos) [] [] cpos) (Qcb X.K T r to):=by
 intro pins s σ H Q I h
 refine wpAny_Call_method0_late hbase hline (thn (ho pins s σ H _ I h) fun v s1⟨x,H1,I1,r1,ty,q1⟩=>?_)
 obtain⟨h1,h2⟩:=wa I1 r1 ty
 exact⟨T,id,pa,slot,hty,h1,h2,Calls.callWith_builtin rfl (PySem.evalArgs_none (hm pins s1 σ H1 x [] v [] Q I1 r1 .nil q1))⟩
theorem JS(pa:PlainAttrs T)(slot:Slot T name id)(hty:typeOf (.builtin id)=pure (.type "method_descriptor"))(hm:MtR X id r)(ho:PE X o to)(ha:PA X (e::es) t)
  (hbase:attributeBase o name X.env (eval o X.env)=eval o X.env:=by rfl)
  (hfew:((backTo cpos (starEach (e::es) X.env)).all (fun x=> !x.1)&&(backToKw cpos (keywordEach [] X.env)).all (fun x=>x.1.isSome)
   &&decide ((e::es).length+([]:List Keyword).length+(if([]:List Keyword).isEmpty then 0 else 1)<30))=true:=by rfl)
  (hline:(apos.endLine==cpos.line)=true:=by rfl) (hs:starEach (e::es) X.env=(false,eval e X.env)::starEach es X.env:=by rfl) (hplain:(backTo cpos (starEach es X.env)).any (·.1)=false:=by rfl):
  PE X (.Call (.Attribute o name apos) (e::es) [] cpos) (tBM X.K T r to t):=by
 intro pins s σ H Q I h
 refine wpAny_Call_method_late hbase hfew hline rfl (thn (ho pins s σ H _ I h) fun v s1⟨x,H1,I1,r1,ty,q1⟩=>?_)
 obtain⟨h1,h2⟩:=wa I1 r1 ty
 refine⟨T,id,pa,slot,hty,h1,h2,?_⟩
 have hA:=ha cpos pins s1 σ H1 _ I1 q1
 rw[hs]at hA ⊢
 refine Calls.callWith_builtin (by show(false||(backTo cpos (starEach es X.env)).any (·.1))=false;rw[hplain]<;>rfl) (Calls.evalArgs_plain ?_)
 exact thn hA fun us s2⟨vs,H2,I2,r2,q2⟩=>hm pins s2 σ H2 x vs v us Q I2 r1 r2 q2
end
end L2
namespace L2
open PySem PySem.Spec PyProof.Rows
noncomputable def MtM(X:Cx)(id:String)(r:V→List V→Hp→VK→Prop):Prop:=
 ∀(pins:List (Addr × Obj))(s:Shared)(σ:St)(H:Hp)(x:V)(xs:List V)(v:Value)(us:List Value)(Q:VK),Inv X pins σ H s→RelV x v→Vals xs us→r x xs H Q→
  wpAny (model X.prog X.w) X.A (call (.builtin id) (v::us)) (EP X pins σ Q) X.xe s
theorem Vals.one:∀{x:V}{us:List Value},Vals [x] us→∃u,us=[u]∧RelV x u
 |_,_,.cons r .nil=>⟨_,rfl,r⟩
theorem Vals.zero:∀{us:List Value},Vals [] us→us=[]
 |_,.nil=>rfl
theorem Vals.dropLast{xs:List V}{us:List Value}(h:Vals xs us):Vals xs.dropLast us.dropLast:=by
 induction h with
 |nil=>exact .nil
 |cons r t ih=>
  cases t with
  |nil=>exact .nil
  |cons q t'=>exact .cons r ih
theorem Vals.eraseIdx:∀{xs:List V}{us:List Value}(i:Nat),Vals xs us→Vals (xs.eraseIdx i) (us.eraseIdx i)
 |_,_,_,.nil=>.nil
 |_,_,0,.cons _ t=>t
 |_,_,i+1,.cons r t=>.cons r (Vals.eraseIdx i t)
theorem Vals.rep{xs:List V}{us:List Value}(h:Vals xs us):∀k:Nat,Vals (List.replicate k xs).flatten (List.replicate k us).flatten
 |0=>.nil
 |k+1=>by
  rw[List.replicate_succ,List.replicate_succ,List.flatten_cons,List.flatten_cons]
  exact Vals.append h (Vals.rep h k)
theorem qI{α:Type}(l:List α):l.eraseIdx (l.length-1)=l.dropLast:=by
 induction l with
 |nil=>rfl
 |cons a r ih=>
  cases r with
  |nil=>rfl
  |cons b r=>
   have e:(a::b::r).length-1=((b::r).length-1)+1:=by
    have h1:(a::b::r).length=r.length+2:=rfl
    have h2:(b::r).length=r.length+1:=rfl
    omega
   rw[e,List.eraseIdx_cons_succ,ih]
   all_goals rfl
theorem Yi{α:Type}:∀(l:List α)(i:Nat),(l.eraseIdx i).length≤l.length
 |[],_=>Nat.le_refl _
 |_::_,0=>Nat.le_succ _
 |_::r,i+1=>Nat.succ_le_succ (Yi r i)
theorem foldl_rep(its:List Value):∀(k:Nat)(acc:List Value),
  List.foldl (fun x1 x2=>x1++x2) acc.toArray (List.replicate k its.toArray)=(acc++(List.replicate k its).flatten).toArray
 |0,acc=>by simp
 |k+1,acc=>by
  have e:acc.toArray++its.toArray=(acc++its).toArray:=by simp
  have e2:(acc++its)++(List.replicate k its).flatten=acc++(List.replicate (k+1) its).flatten:=by
   rw[List.replicate_succ,List.flatten_cons,List.append_assoc]
  rw[←e2, ←foldl_rep its k (acc++its), ←e,List.replicate_succ,List.foldl_cons]
section
variable {X:Cx}{pins:List (Addr × Obj)}{σ:St}{H:Hp}{s:Shared}{l b:Addr}{xs ys zs:List V}
theorem Inv.Qa3{its its':List Value}{n:Nat}{f:Array Value→Array Value}{t':Nat}(I:Inv X pins σ H s)(hH:H l=some (.lst xs))
  (e:s.heap.get? l=some {cls:=.type "list",data:=.seq its.toArray n}) (hf:f its.toArray=its'.toArray) (hv:Vals ys its') (hz:ys.length≤sizeLine):
  Inv X pins σ (upd H l (.lst ys)) {s with heap:=s.heap.update l (Obj.mapSeq f),toks:=t'}:=by
 have q:=PySem.IsL.update e f
 rw[hf]at q
 refine I.write (x:=l) (e:=l) (by rw[hH];exact trivial) (.inl rfl) (fun b' u hb hu=>(Heap.get?_update_other s.heap (Obj.mapSeq f) (Ne.symm hb)).trans hu) ⟨_,q⟩ ?_
 exact⟨hz,its',_,hv,q⟩
theorem Inv.QbR{its:List Value}{t':Nat}(I:Inv X pins σ H s)(hv:Vals ys its)(hz:ys.length≤sizeLine):
  Inv X pins σ (upd H s.heap.objs.size (.lst ys)) {s with heap:=s.heap.push {cls:=.type "list",data:=.seq its.toArray},toks:=t'}:=
 I.laid (fun _ _ q=>Heap.get?_push_of_some _ q) (Nat.le_refl _) ⟨hz,its,0,hv,Heap.get?_push_size _ rfl⟩
theorem Inv.fresh(I:Inv X pins σ H s):H s.heap.objs.size=none:=I.hok.fresh (Nat.le_refl _)
theorem Inv.xp(I:Inv X pins σ H s)(hH:H l=some (.lst xs)):xs.length≤sizeLine∧∃(its:List Value)(n:Nat),Vals xs its∧xs.length=its.length∧s.heap.get? l=some {cls:=.type "list",data:=.seq its.toArray n}:=by
 obtain⟨z,its,n,r,e⟩:=I.hok l _ hH
 exact⟨z,its,n,r,r.length,e⟩
theorem xq{n:Nat}(h:n≤sizeLine):Builtin.List.listTooLong n=false:=by
 unfold Builtin.List.listTooLong
 exact decide_eq_false (by omega)
end
section
variable {X:Cx}
noncomputable def wO:V→List V→Hp→VK→Prop:=fun x vs H Q=>∃l xs y,x=.ref l∧vs=[y]∧H l=some (.lst xs)∧xs.length<sizeLine∧Q .non (upd H l (.lst (xs++[y])))
theorem J7:MtM X "list.append" wO:=by
 intro pins s σ H x vs v us Q I rx rv h
 obtain⟨l,xs,y,rfl,rfl,hH,hz,q⟩:=h
 cases rx
 obtain⟨u,rfl,ru⟩:=rv.one
 obtain⟨z,its,n,r,hl,e⟩:=I.xp hH
 refine call_meets F.slot_list_append ⟨_,e,rfl⟩ F.entry_list_append (F.args_list_append_2 _ _) (PySem.list_append l its.toArray n u (by rw[List.size_toArray];omega)) ⟨e,?_⟩
 refine⟨.non,_,I.Qa3 (its':=its++[u]) hH e (by simp) (r.append (.cons ru .nil)) ?_,rfl,q⟩
 rw[List.length_append,List.length_singleton]
 omega
noncomputable def Qcc:V→List V→Hp→VK→Prop:=fun x vs H Q=>∃l xs y,x=.ref l∧vs=[]∧H l=some (.lst xs)∧xs[xs.length-1]? =some y∧Q y (upd H l (.lst xs.dropLast))
theorem yB:MtM X "list.pop" Qcc:=by
 intro pins s σ H x vs v us Q I rx rv h
 obtain⟨l,xs,y,rfl,rfl,hH,hy,q⟩:=h
 cases rx
 have hus:=rv.zero
 subst hus
 obtain⟨z,its,n,r,hl,e⟩:=I.xp hH
 obtain⟨u,hu,ru⟩:=r.get hy
 have hy':its.toArray[its.toArray.size-1]? =some u:=by
  show its.toArray[its.length-1]? =some u
  rw[←Array.getElem?_toList, ←hl]
  exact hu
 refine call_meets F.slot_list_pop ⟨_,e,rfl⟩ F.entry_list_pop (F.args_list_pop_1 _) (MeetsSeq.list_pop_last l its.toArray n u hy' (by rw[List.size_toArray];omega)) ⟨e,?_⟩
 refine⟨y,_,I.Qa3 (its':=its.dropLast) hH e ?_ r.dropLast ?_,ru,q⟩
 ·show its.toArray.eraseIdxIfInBounds (its.toArray.size-1)=its.dropLast.toArray
  rw[List.size_toArray,List.eraseIdxIfInBounds_toArray,qI]
 ·rw[List.length_dropLast]
  omega
noncomputable def yC:V→List V→Hp→VK→Prop:=fun x vs H Q=>∃l xs i k y,x=.ref l∧vs=[.int i]∧H l=some (.lst xs)∧ -(2^63)≤i∧i<2^63∧seqIndex? i xs.length=some k∧xs[k]? =some y∧Q y (upd H l (.lst (xs.eraseIdx k)))
theorem xr:MtM X "list.pop" yC:=by
 intro pins s σ H x vs v us Q I rx rv h
 obtain⟨l,xs,i,k,y,rfl,rfl,hH,h1,h2,hk,hy,q⟩:=h
 cases rx
 obtain⟨u,rfl,ru⟩:=rv.one
 obtain⟨t,rfl⟩:=ru
 obtain⟨z,its,n,r,hl,e⟩:=I.xp hH
 obtain⟨w,hw,rw'⟩:=r.get hy
 refine call_meets F.slot_list_pop ⟨_,e,rfl⟩ F.entry_list_pop (F.args_list_pop_2 _ _)
  (MeetsSeq.list_pop_at l its.toArray n i t k w (fitsIndex_both h1 h2) (by rw[List.size_toArray, ←hl];exact hk) (by rw[←Array.getElem?_toList];exact hw) (by rw[List.size_toArray];omega)) ⟨e,?_⟩
 refine⟨y,_,I.Qa3 (its':=its.eraseIdx k) hH e ?_ (r.eraseIdx k) ?_,rw',q⟩
 ·show its.toArray.eraseIdxIfInBounds k=(its.eraseIdx k).toArray
  rw[List.eraseIdxIfInBounds_toArray]
 ·have:=Yi xs k
  omega
noncomputable def Qcd:R2:=fun x y H Q=>∃l b xs zs,x=.ref l∧y=.ref b∧H l=some (.lst xs)∧H b=some (.lst zs)∧xs.length+zs.length≤sizeLine∧∀p,H p=none→Q (.ref p) (upd H p (.lst (xs++zs)))
theorem Wd:OpR X (binaryOp .Add) Qcd:=by
 intro pins s σ H x y v u Q I rx ry h
 obtain⟨l,b,xs,zs,rfl,rfl,hH,hB,hz,q⟩:=h
 cases rx
 cases ry
 obtain⟨z,its,n,r,hl,e⟩:=I.xp hH
 obtain⟨z2,its2,n2,r2,hl2,e2⟩:=I.xp hB
 refine PySem.P.add_list e e2 ?_ (by rw[List.size_toArray,List.size_toArray];omega)
 have ea:its.toArray++its2.toArray=(its++its2).toArray:=by simp
 rw[ea]
 exact⟨.ref _,_,I.QbR (t':=s.toks) (r.append r2) (by rw[List.length_append];omega),rfl,q _ I.fresh⟩
noncomputable def Qce:R2:=fun x y H Q=>∃l k xs,x=.ref l∧y=.int k∧H l=some (.lst xs)∧ -(2^63)≤k∧k<2^63∧xs.length*k.toNat≤sizeLine∧
 ∀p,H p=none→Q (.ref p) (upd H p (.lst (List.replicate k.toNat xs).flatten))
theorem len_rep{α:Type}(xs:List α)(k:Nat):(List.replicate k xs).flatten.length=k*xs.length:=by
 induction k with
 |zero=>simp
 |succ k ih=>rw[List.replicate_succ,List.flatten_cons,List.length_append,ih,Nat.succ_mul,Nat.add_comm]
theorem yD:OpR X (binaryOp .Mult) Qce:=by
 intro pins s σ H x y v u Q I rx ry h
 obtain⟨l,k,xs,rfl,rfl,hH,h1,h2,hz,q⟩:=h
 cases rx
 obtain⟨t,rfl⟩:=ry
 obtain⟨z,its,n,r,hl,e⟩:=I.xp hH
 have hlen:its.toArray.size*k.toNat≤sizeLine:=by rw[List.size_toArray, ←hl];exact hz
 have hcap:¬ its.toArray.size*k.toNat>(2^63-1)/8:=by
  have:(sizeLine:Nat)≤(2^63-1)/8:=by decide
  omega
 have hfit:¬ (!Builtin.List.listFitsIndex k)=true:=by
  rw[fitsIndex_both h1 h2]
  exact Bool.false_ne_true
 have hlong:¬ Builtin.List.listTooLong (its.toArray.size*k.toNat)=true:=by
  rw[xq hlen]
  exact Bool.false_ne_true
 have hnew:List.foldl (fun x1 x2=>x1++x2) #[] (List.replicate (if its.toArray.isEmpty=true then 0 else k.toNat) its.toArray)=(List.replicate k.toNat its).flatten.toArray:=by
  have f0:∀m:Nat,List.foldl (fun x1 x2=>x1++x2) #[] (List.replicate m its.toArray)=(List.replicate m its).flatten.toArray:=fun m=>by
   have:=foldl_rep its m []
   rw[List.nil_append]at this
   exact this
  rw[f0]
  cases its with
  |nil=>simp
  |cons a r'=>rw[if_neg (by simp)]
 refine wpAny_binaryOp_repeat_ref (T:="list") (U:="int") (by decide) ⟨_,e,rfl⟩ (fun s'=>typeIs_int s' k t) noFill_list_mul F.fills_int_mul F.slot_int_rmul repeat_list F.slot_int_index.lookup
  (call_meets F.slot_int_rmul (typeIs_int s k t) F.entry_int_rmul (F.args_int_rmul_2 _ _) (int___rmul___int_list k t l its.toArray n)
   ⟨e,rfl,⟨_,e,rfl⟩,call_meets F.slot_list_mul ⟨_,e,rfl⟩ F.entry_list_mul (F.args_list_mul_2 _ _) (AutoListH.list___mul___list_int_3 l its.toArray n k t hfit hcap hlong) ⟨e,?_⟩⟩)
 rw[hnew]
 exact⟨.ref _,_,I.QbR (t':=s.toks) (r.rep k.toNat) (by rw[len_rep,Nat.mul_comm];exact hz),rfl,q _ I.fresh⟩
end
section
variable {prog:Program}{w:World}{A:Around}{E:Value→Shared→Prop}{s:Shared}
end
section
variable {X:Cx}
end
end L2
namespace L2
open PySem PySem.Spec PyProof.Rows
section
variable {κ:Type}[DecidableEq κ]
noncomputable def Kz(kvs:List (κ × V))(k:κ):Option V:=(kvs.find? fun kv=>decide (kv.1=k)).map (·.2)
noncomputable def putK(kvs:List (κ × V))(k:κ)(v:V):List (κ × V):=
 if(kvs.any fun kv=>decide (kv.1=k))=true then kvs.map (fun kv=>if kv.1=k then(kv.1,v)else kv)else kvs++[(k,v)]
theorem XX{p:κ × V}{r:List (κ × V)}{k:κ}(e:p.1=k):Kz (p::r) k=some p.2:=by simp[Kz,List.find?_cons,e]
theorem KQ{p:κ × V}{r:List (κ × V)}{k:κ}(e:¬ p.1=k):Kz (p::r) k=Kz r k:=by simp[Kz,List.find?_cons,e]
theorem U2(k:κ):∀kvs:List (κ × V),(kvs.any fun kv=>decide (kv.1=k))=(Kz kvs k).isSome
 |[]=>rfl
 |p::r=>by
  rw[List.any_cons]
  by_cases e:p.1=k
  ·simp only[XX e,decide_eq_true e,Bool.true_or,Option.isSome_some]
  ·rw[KQ e,decide_eq_false e,Bool.false_or];exact U2 k r
theorem XA(kvs:List (κ × V))(k:κ)(v:V):(putK kvs k v).length≤kvs.length+1:=by
 unfold putK
 split
 ·rw[List.length_map];omega
 ·rw[List.length_append,List.length_cons,List.length_nil];omega
theorem UV.We{o:Option V}{u:Option Value}(r:UV o u):o.isSome=u.isSome:=by
 cases o with
 |none=>cases u with
  |none=>rfl
  |some _=>exact(show False from r).elim
 |some _=>cases u with
  |none=>exact(show False from r).elim
  |some _=>rfl
theorem UV.getD{o:Option V}{u:Option Value}{d:V}{d':Value}(r:UV o u)(rd:RelV d d'):RelV (o.getD d) (u.getD d'):=by
 cases o with
 |none=>cases u with
  |none=>exact rd
  |some _=>exact(show False from r).elim
 |some _=>cases u with
  |none=>exact(show False from r).elim
  |some _=>exact r
theorem KV.val{kvs:List (κ × V)}{vs:List (κ × Value)}(r:KV kvs vs)(k:κ):UV (Kz kvs k) (valueAt vs k):=by
 unfold KV at r
 induction r with
 |nil=>exact True.intro
 |@cons p q ps qs h t ih=>
  obtain⟨h1,h2⟩:=h
  by_cases e:p.1=k
  ·have e':q.1=k:=h1.symm.trans e
   have b:valueAt (q::qs) k=some q.2:=by simp[valueAt,List.find?_cons,e']
   rw[XX e,b];exact h2
  ·have e':¬ q.1=k:=fun z=>e (h1.trans z)
   have b:valueAt (q::qs) k=valueAt qs k:=by simp[valueAt,List.find?_cons,e']
   rw[KQ e,b];exact ih
theorem KV.any{kvs:List (κ × V)}{vs:List (κ × Value)}(r:KV kvs vs)(k:κ):(kvs.any fun kv=>decide (kv.1=k))=vs.any fun kv=>decide (kv.1=k):=by
 unfold KV at r
 induction r with
 |nil=>rfl
 |cons h t ih=>rw[List.any_cons,List.any_cons,ih,h.1]
theorem KV.Qa4{kvs:List (κ × V)}{vs:List (κ × Value)}(r:KV kvs vs)(k:κ){y:V}{u:Value}(ry:RelV y u):
  KV (kvs.map fun kv=>if kv.1=k then(kv.1,y)else kv) (vs.map fun kv=>if kv.1=k then(kv.1,u)else kv):=by
 unfold KV at r ⊢
 induction r with
 |nil=>exact .nil
 |@cons p q ps qs h t ih=>
  rw[List.map_cons,List.map_cons]
  refine .cons ?_ ih
  obtain⟨h1,h2⟩:=h
  by_cases e:p.1=k
  ·rw[if_pos e,if_pos (h1.symm.trans e)];exact⟨h1,ry⟩
  ·rw[if_neg e,if_neg (fun z=>e (h1.trans z))];exact⟨h1,h2⟩
theorem KV.put{kvs:List (κ × V)}{vs:List (κ × Value)}(r:KV kvs vs)(k:κ){y:V}{u:Value}(ry:RelV y u):KV (putK kvs k y) (stored vs k u):=by
 unfold putK stored
 rw[r.any k]
 by_cases e:(vs.any fun kv=>decide (kv.1=k))=true
 ·rw[if_pos e,if_pos e];exact r.Qa4 k ry
 ·rw[if_neg e,if_neg e];exact Paired.snoc r ⟨rfl,ry⟩
theorem KV.length{kvs:List (κ × V)}{vs:List (κ × Value)}(r:KV kvs vs):kvs.length=vs.length:=Paired.length r
end
theorem Yj{P:Program}{w:World}{k:Key}{u:Value}(r:RelV (kV k) u):(Jc P w).is k u=true:=by
 cases k with
 |inl i=>obtain⟨t,e⟩:=(show ∃t,u=Value.int i t from r);subst e;exact Y9 P w i t
 |inr x=>obtain⟨t,e⟩:=(show ∃t,u=Value.str x t from r);subst e;exact JM P w x t
theorem Yk{P:Program}{w:World}:∀{ks:List Key}{us:List Value},Vals (ks.map kV) us→ItemsAre (Jc P w) ks us
 |[],_,r=>by rw[List.map_nil]at r;cases r;exact .nil
 |k::ks,_,r=>by
  rw[List.map_cons]at r
  cases r with
  |cons h t=>exact .cons (Yj h) (Yk t)
noncomputable abbrev KT(H:Hp):List (List Key × V)→List (List Key × Addr × Value)→Prop:=Paired fun p q=>p.1=q.1∧H q.2.1=some (.tup (p.1.map kV))∧RelV p.2 q.2.2
theorem KT.val{H:Hp}{kvs:List (List Key × V)}{xs:List (List Key × Addr × Value)}(r:KT H kvs xs)(k:List Key):UV (Kz kvs k) ((atKey xs k).map (·.2)):=by
 induction r with
 |nil=>exact True.intro
 |@cons p q ps qs h t ih=>
  obtain⟨h1,_,h2⟩:=h
  by_cases e:p.1=k
  ·have e':q.1=k:=h1.symm.trans e
   have b:atKey (q::qs) k=some q.2:=by simp[atKey,List.find?_cons,e']
   rw[XX e,b];exact h2
  ·have e':¬ q.1=k:=fun z=>e (h1.trans z)
   have b:atKey (q::qs) k=atKey qs k:=by simp[atKey,List.find?_cons,e']
   rw[KQ e,b];exact ih
theorem KT.Qa4{H:Hp}{kvs:List (List Key × V)}{xs:List (List Key × Addr × Value)}(r:KT H kvs xs)(k:List Key){y:V}{u:Value}(ry:RelV y u):
  KT H (kvs.map fun kv=>if kv.1=k then(kv.1,y)else kv) (xs.map (putAt k u)):=by
 induction r with
 |nil=>exact .nil
 |@cons p q ps qs h t ih=>
  rw[List.map_cons,List.map_cons]
  refine .cons ?_ ih
  obtain⟨h1,h2,h3⟩:=h
  unfold putAt
  by_cases e:p.1=k
  ·rw[if_pos e,if_pos (h1.symm.trans e)];exact⟨h1,h2,ry⟩
  ·rw[if_neg e,if_neg (fun z=>e (h1.trans z))];exact⟨h1,h2,h3⟩
theorem KT.put{H:Hp}{kvs:List (List Key × V)}{xs:List (List Key × Addr × Value)}(r:KT H kvs xs)(k:List Key){b:Addr}{y:V}{u:Value}(hb:H b=some (.tup (k.map kV)))(ry:RelV y u):
  KT H (putK kvs k y) (storedH xs k b u):=by
 have e:(kvs.any fun kv=>decide (kv.1=k))=(atKey xs k).isSome:=by
  rw[U2,(r.val k).We,Option.isSome_map]
 unfold putK storedH
 rw[e]
 by_cases q:(atKey xs k).isSome=true
 ·rw[if_pos q,if_pos q];exact r.Qa4 k ry
 ·rw[if_neg q,if_neg q];exact Paired.snoc r ⟨rfl,hb,ry⟩
theorem KT.keeps{H H':Hp}{kvs:List (List Key × V)}{xs:List (List Key × Addr × Value)}(r:KT H kvs xs)(ht:∀b ys,H b=some (.tup ys)→H' b=some (.tup ys)):KT H' kvs xs:=
 Paired.QaR r fun _ _ z=>⟨z.1,ht _ _ z.2.1,z.2.2⟩
section
variable {P:Program}{w:World}{H:Hp}{h:Heap}{a:Addr}
theorem yE{u:HO}(ok:HOk P w H h)(e:Rd H a u):JC P w H h a u:=e.ok ok
theorem jF{kvs:List (Key × V)}(ok:HOk P w H h)(e:Rd H a (.dK kvs)):kvs.length≤sizeLine∧(a==sysModules)=false∧∃vs,KV kvs vs∧h.DictOf (Jc P w) a vs:=
 show JC P w H h a (.dK kvs)from yE ok e
theorem yF{kvs:List (Key × V)}(ok:HOk P w H h)(e:H a=some (.dK kvs)):kvs.length≤sizeLine∧(a==sysModules)=false∧∃vs,KV kvs vs∧h.DictOf (Jc P w) a vs:=jF ok (.inl e)
theorem U3{ks:List Key}(ok:HOk P w H h)(e:H a=some (.tup (ks.map kV))):(tupleKind (Jc P w)).is h ks a:=by
 obtain⟨_,its,r,o,h1,h2,n,h3⟩:=(show JC P w H h a (.tup (ks.map kV))from ok a _ e)
 exact⟨o,its.toArray,n,h1,h2,h3,by simpa using Yk r⟩
theorem jG{kvs:List (List Key × V)}(ok:HOk P w H h)(e:Rd H a (.dT kvs)):kvs.length≤sizeLine∧(a==sysModules)=false∧
  ∃xs,KT H kvs xs∧h.DictOfH (tupleKind (Jc P w)) a xs:=by
 obtain⟨z,y,xs,r,o,es,ep,h1,h2,h3,h4,h5⟩:=(show JC P w H h a (.dT kvs)from yE ok e)
 refine⟨z,y,xs,r,o,es,ep,h1,h2,h3,h4,fun x hx=>?_,h5⟩
 have all:∀{l:List (List Key × V)}{m:List (List Key × Addr × Value)},KT H l m→∀x∈m,(tupleKind (Jc P w)).is h x.1 x.2.1:=by
  intro l m q
  induction q with
  |nil=>intro x hx;exact nomatch hx
  |@cons p q ps qs hq t ih=>
   intro x hx
   rcases List.mem_cons.mp hx with e|hx
   ·subst e
    exact U3 ok (by rw[←hq.1];exact hq.2.1)
   ·exact ih x hx
 exact all r x hx
theorem Qa5{kvs:List (List Key × V)}(ok:HOk P w H h)(e:H a=some (.dT kvs)):kvs.length≤sizeLine∧(a==sysModules)=false∧
  ∃xs,KT H kvs xs∧h.DictOfH (tupleKind (Jc P w)) a xs:=jG ok (.inl e)
end
noncomputable def qJ(H:Hp)(a:Addr)(y:V)(r:Option V):Prop:=
 (∃kvs k,Rd H a (.dK kvs)∧y=kV k∧r=Kz kvs k)∨∃kvs k b,Rd H a (.dT kvs)∧y=.ref b∧H b=some (.tup (k.map kV))∧r=Kz kvs k
noncomputable def wb(H:Hp)(a:Addr)(y v:V)(H':Hp):Prop:=
 (∃kvs k,H a=some (.dK kvs)∧y=kV k∧kvs.length<sizeLine∧H'=upd H a (.dK (putK kvs k v)))∨
 ∃kvs k b,H a=some (.dT kvs)∧y=.ref b∧H b=some (.tup (k.map kV))∧kvs.length<sizeLine∧H'=upd H a (.dT (putK kvs k v))
theorem qJ.k{H:Hp}{a:Addr}{kvs:List (Key × V)}{k:Key}(e:H a=some (.dK kvs)):qJ H a (kV k) (Kz kvs k):=.inl ⟨kvs,k,.inl e,rfl,rfl⟩
theorem wb.k{H:Hp}{a:Addr}{kvs:List (Key × V)}{k:Key}{v:V}(e:H a=some (.dK kvs))(hl:kvs.length<sizeLine):wb H a (kV k) v (upd H a (.dK (putK kvs k v))):=.inl ⟨kvs,k,e,rfl,hl,rfl⟩
section
variable {X:Cx}{pins:List (Addr × Obj)}{σ:St}{H:Hp}{s:Shared}{a:Addr}{y v:V}{u r:Value}{o:Option V}{A:Around}{E:Value→Shared→Prop}
theorem Inv.big(I:Inv X pins σ H s):sysModules<s.heap.objs.size:=by
 have h:mainGlobals<s.heap.objs.size:=(I.mod.glob.keeps I.bk).lt
 exact Nat.lt_trans (by decide) h
theorem jH{Q:Value→Shared→Prop}(hu:A.units+1<cLine)(I:Inv X pins σ H s)(g:qJ H a y (some v))(ry:RelV y u)(h:∀w' s',Inv X pins σ H s'→RelV v w'→Q w' s'):
  wpAny (model X.prog X.w) A (getItem (.ref a) u) Q E s:=by
 rcases g with⟨kvs,k,e,ey,l⟩|⟨kvs,k,b,e,ey,eb,l⟩
 ·subst ey
  obtain⟨z,hd,vs,rel,dd⟩:=jF I.hok e
  obtain⟨w',hw,rw'⟩:=UV.some_of (v:=v) (o:=valueAt vs k) (by rw[l];exact rel.val k)
  exact wpAny_getItem_of (Yj ry) dd.mapOf hw (h w' _ (I.tok _) rw')
 ·subst ey
  cases(show u=Value.ref b from ry)
  obtain⟨z,hd,xs,rel,dd⟩:=jG I.hok e
  obtain⟨w',hw,rw'⟩:=UV.some_of (v:=v) (o:=(atKey xs k).map (·.2)) (by rw[l];exact rel.val k)
  obtain⟨p,hp,hp2⟩:=Option.map_eq_some_iff.mp hw
  refine wpAny_getItem_heap (tupleKind_room_in1 hu) (U3 I.hok eb) dd hp ?_
  rw[hp2]
  exact h w' _ (I.tok _) rw'
theorem Uf{h':Heap}{t':Nat}{ob:HO}(I:Inv X pins σ H s)(mu:Mut (H a))(hs:Heap.SameBut a s.heap h')(he:∃q,h'.get? a=some q) (new:JC X.prog X.w (upd H a ob) h' a ob):
  Inv X pins σ (upd H a ob) {s with heap:=h',toks:=t'}:=
 I.write (x:=a) (e:=a) mu (.inl rfl) (fun b q hb z=>(hs.2 b hb).trans z) he new
theorem wc{P:Program}{w:World}{H':Hp}{h':Heap}{kvs:List (Key × V)}{vs:List (Key × Value)}(z:kvs.length≤sizeLine)(hd:(a==sysModules)=false)(rel:KV kvs vs)(dd:h'.DictOf (Jc P w) a vs):
  JC P w H' h' a (.dK kvs):=⟨z,hd,vs,rel,dd⟩
theorem jI{H':Hp}{Q:Unit→Shared→Prop}(hu:A.units+1<cLine)(I:Inv X pins σ H s)(g:wb H a y v H')(ry:RelV y u)(rv:RelV v r)(h:∀s',Inv X pins σ H' s'→Q () s'):
  wpAny (model X.prog X.w) A (setItem (.ref a) u r) Q E s:=by
 rcases g with⟨kvs,k,e,ey,l,eH⟩|⟨kvs,k,b,e,ey,eb,l,eH⟩
 ·subst ey eH
  obtain⟨z,hd,vs,rel,dd⟩:=yF I.hok e
  have hz:vs.length≤sizeLine:=by rw[←rel.length];exact z
  have hl:(putK kvs k v).length≤sizeLine:=by have:=XA kvs k v;omega
  refine wpAny_setItem_pairs (hsz:=hz) (Yj ry) dd fun h' dd' hs=>h _ ?_
  have he:∃q,h'.get? a=some q:=let ⟨q,_,_,hq,_⟩:=dd';⟨q,hq⟩
  exact Uf I (by rw[e];exact True.intro) hs he (wc hl hd (rel.put k rv) dd')
 ·subst ey eH
  cases(show u=Value.ref b from ry)
  obtain⟨z,hd,xs,rel,dd⟩:=Qa5 I.hok e
  have hz:xs.length≤sizeLine:=by rw[←Paired.length rel];exact z
  have hl:(putK kvs k v).length≤sizeLine:=by have:=XA kvs k v;omega
  refine wpAny_setItem_heap (hsz:=hz) (tupleKind_room_in1 hu) (U3 I.hok eb) dd fun h' dd' hs=>h _ ?_
  obtain⟨q,es,ep,hq,h2,h3,h4,_,h5⟩:=dd'
  refine Uf I (by rw[e];exact True.intro) hs ⟨q,hq⟩ ⟨hl,hd,_,(rel.put k eb rv).keeps fun c ys ec=>?_,q,es,ep,hq,h2,h3,h4,h5⟩
  rw[Qt (QaQ ec e (fun z=>nomatch z))]
  exact ec
end
section
variable {X:Cx}{pins:List (Addr × Obj)}{σ:St}{H:Hp}{s:Shared}{a:Addr}{kvs:List (Key × V)}{k:Key}{u:Value}{A:Around}{E:Value→Shared→Prop}
end
noncomputable def Qa6(i:Expr):Prop:=∀ov iv,subscripted i false ov iv=operate [ov,iv] (getItem ov iv)
theorem jJ{prog:Program}{w:World}{A:Around}{E:Value→Shared→Prop}{s:Shared}{env:Env}{value slice:Expr}{pos:Pos}{T id:String}{Q:Value→Shared→Prop}
  (hl:typeLookup (.type T) "__getitem__"=pure (some (.builtin id))) (hs:Qa6 slice)
  (h:wpAny (model prog w) A (eval value env) (fun o s₁=>wpAny (model prog w) A (eval slice env) (fun i s₂=>s₂.TypeIs o T∧wpAny (model prog w) A (getItem o i) Q E s₂) E s₁) E s):
  wpAny (model prog w) A (eval (.Subscript value slice pos) env) Q E s:=by
 refine Subscript_ (wpAny_mono h (fun o s₁ h₁=>wpAny_mono h₁ (fun i s₂ h₂=>?_) fun _ _ x=>x) fun _ _ x=>x)
 obtain⟨hT,h₂⟩:=h₂
 unfold subscriptTail
 refine wpAny_bind ?_
 rw[getitemInPython_of_ne hT.not_modules]
 refine wpAny_bind (wpAny_specialOf hT hl ?_)
 have fin:wpAny (model prog w) A (subscripted slice false o i) (fun r s₃=>wpAny (model prog w) A (letTemporaryGo value o r>>=fun _=>pure r) Q E s₃) E s₂:=by
  rw[hs o i]
  exact wpAny_operating (wpAny_mono h₂ (fun r s₃ h₃=>wpAny_bind (wpAny_letTemporaryGo (wpAny_pure h₃))) fun _ _ x=>x)
 first
  |exact wpAny_pure (wpAny_bind fin)
  |exact wpAny_bind (wpAny_pure (wpAny_bind fin))
  |exact wpAny_bind fin
theorem Ug{X:Cx}{pins:List (Addr × Obj)}{σ:St}{H:Hp}{s:Shared}{a:Addr}{y:V}{o:Option V}(I:Inv X pins σ H s)(g:qJ H a y o):s.TypeIs (.ref a) "dict":=by
 rcases g with⟨kvs,k,e,_,_⟩|⟨kvs,k,b,e,_,_,_⟩
 ·obtain⟨_,_,vs,_,dd⟩:=jF I.hok e
  exact dd.typeIs
 ·obtain⟨_,_,xs,_,dd⟩:=jG I.hok e
  exact dd.typeIs
noncomputable def Qa7(td ty:TE):TE:=fun σ H Q=>td σ H fun x H1=>ty σ H1 fun y H2=>∃a v,x=.ref a∧qJ H2 a y (some v)∧Q v H2
noncomputable def Qa8(td ty tv:TE):TS:=fun D σ H=>tv σ H fun v H1=>td σ H1 fun x H2=>ty σ H2 fun y H3=>∃a H4,x=.ref a∧wb H3 a y v H4∧D.nx σ H4
section
variable {X:Cx}{o i e value:Expr}{pos pos' tpos:Pos}{td ty tv:TE}
theorem Z7(hu:X.A.units+1<cLine)(ho:PE X o td)(hi:PE X i ty)(hs:Qa6 i):PE X (.Subscript o i pos) (Qa7 td ty):=by
 intro pins s σ H Q I h
 refine jJ PySem.F.slot_dict_getitem.lookup hs (thn (ho pins s σ H _ I h) fun u s1⟨x,H1,I1,rx,q1⟩=>thn (hi pins s1 σ H1 _ I1 q1) fun iv s2⟨y,H2,I2,ry,a,v,ex,g,q2⟩=>?_)
 subst ex
 obtain rfl:u=Value.ref a:=rx
 exact⟨Ug I2 g,jH hu I2 g ry fun w' s3 I3 rw'=>⟨v,H2,I3,rw',q2⟩⟩
theorem jK(hu:X.A.units+1<cLine)(ho:PE X o td)(hi:PE X i ty)(hv:PE X value tv)(hs:swapsWith value (some (.Subscript o i pos')) pos.line X.env=pure false):
  PS X (.Assign [.Subscript o i pos'] value pos) (Qa8 td ty tv):=by
 intro pins s σ H D I h
 refine wpAny_Assign_Subscript (thn (hv pins s σ H _ I h) fun r s1⟨v,H1,I1,rv,q1⟩=>thn (ho pins s1 σ H1 _ I1 q1) fun u s2⟨x,H2,I2,rx,q2⟩=>thn (hi pins s2 σ H2 _ I2 q2) fun iv s3⟨y,H3,I3,ry,a,H4,ex,g,q3⟩=>?_) hs
 subst ex
 obtain rfl:u=Value.ref a:=rx
 exact jI hu I3 g ry rv fun s4 I4=>⟨σ,H4,I4,q3⟩
end
theorem U4{P:Program}{w:World}{H:Hp}(h:Heap)(hb:sysModules<h.objs.size):JC P w H (h.push {cls:=.type "dict",data:=.dict #[]}) h.objs.size (.dK []):=
 ⟨Nat.zero_le _,beq_eq_false_iff_ne.mpr (Ne.symm (Nat.ne_of_lt hb)),[],.nil,Heap.DictOf.new h⟩
noncomputable def wd:TE:=fun _ H Q=>∀p,H p=none→Q (.ref p) (upd H p (.dK []))
section
variable {X:Cx}{pos:Pos}
theorem xt:PE X (.Dict [] [] pos) wd:=fun pins s σ H Q I h=>
 wpAny_Dict_empty ⟨.ref s.heap.objs.size,_,I.laid (a:=s.heap.objs.size) (o:=.dK []) (t':=s.toks) (fun _ _ q=>Heap.get?_push_of_some _ q) (Nat.le_refl _) (U4 s.heap I.big),rfl,h _ (I.hok.fresh (Nat.le_refl _))⟩
end
noncomputable def U5:List (TE × TE)→St→Hp→(List (V × V)→Hp→Prop)→Prop
 |[],_,H,Q=>Q [] H
 |(tk,tv)::r,σ,H,Q=>tk σ H fun x H1=>tv σ H1 fun y H2=>U5 r σ H2 fun ps H3=>Q ((x,y)::ps) H3
noncomputable abbrev VV:List (V × V)→List (Value × Value)→Prop:=Paired fun p q=>RelV p.1 q.1∧RelV p.2 q.2
noncomputable def PPs(X:Cx)(pos:Pos)(keys:List (Option Expr))(values:List Expr)(trs:List (TE × TE)):Prop:=
 ∀(pins:List (Addr × Obj))(s:Shared)(σ:St)(H:Hp)(Q:List (V × V)→Hp→Prop),Inv X pins σ H s→U5 trs σ H Q→
  wpAny (model X.prog X.w) X.A (evalPairs (pairTrees keys values X.env pos)) (fun vs s'=>∃ps H',Inv X pins σ H' s'∧VV ps vs∧Q ps H') X.xe s
theorem jL{X:Cx}{pos:Pos}:PPs X pos [] [] []:=fun pins s σ H Q I h=>pairTrees_nil_walk ⟨[],H,I,.nil,h⟩
theorem Xl{X:Cx}{pos:Pos}{k v:Expr}{ks:List (Option Expr)}{vs:List Expr}{tk tv:TE}{trs:List (TE × TE)}(hk:PE X k tk)(hv:PE X v tv)(hr:PPs X pos ks vs trs):
  PPs X pos (some k::ks) (v::vs) ((tk,tv)::trs):=fun pins s σ H Q I h=>
 pairTrees_cons_walk (thn (hk pins s σ H _ I h) fun u s1⟨x,H1,I1,rx,q1⟩=>thn (hv pins s1 σ H1 _ I1 q1) fun w2 s2⟨y,H2,I2,ry,q2⟩=>
  thn (hr pins s2 σ H2 _ I2 q2) fun ws s3⟨ps,H3,I3,rel,q3⟩=>⟨(x,y)::ps,H3,I3,.cons ⟨rx,ry⟩ rel,q3⟩)
noncomputable def KA(kvs more:List (Key × V)):List (Key × V):=more.foldl (fun acc kv=>putK acc kv.1 kv.2) kvs
theorem KV.merge:∀{more:List (Key × V)}{rs:List (Key × Value)}{kvs:List (Key × V)}{vs:List (Key × Value)},KV more rs→KV kvs vs→KV (KA kvs more) (merged vs rs):=by
 intro more rs kvs vs r
 unfold KV at r
 induction r generalizing kvs vs with
 |nil=>intro q;exact q
 |@cons p q ps qs h t ih=>
  intro r0
  have e:KV (putK kvs p.1 p.2) (stored vs q.1 q.2):=by
   have:=r0.put p.1 h.2
   rw[←h.1];exact this
  exact ih e
theorem XY:∀(more kvs:List (Key × V)),(KA kvs more).length≤kvs.length+more.length
 |[],kvs=>by show kvs.length≤kvs.length+0;omega
 |p::r,kvs=>by
  have h1:=XY r (putK kvs p.1 p.2)
  have h2:=XA kvs p.1 p.2
  show(KA (putK kvs p.1 p.2) r).length≤_
  rw[List.length_cons];omega
theorem W9{P:Program}{w:World}:∀{kvs:List (Key × V)}{ws:List (Value × Value)},VV (kvs.map fun kv=>(kV kv.1,kv.2)) ws→∃rs,Carries (Jc P w) ws rs∧KV kvs rs
 |[],_,r=>by rw[List.map_nil]at r;cases r;exact⟨[],True.intro,.nil⟩
 |p::kvs,_,r=>by
  rw[List.map_cons]at r
  cases r with
  |@cons a b as bs h t=>
   obtain⟨rs,c,q⟩:=W9 (P:=P) (w:=w) t
   obtain⟨b1,b2⟩:=b
   exact⟨(p.1,b2)::rs,⟨Yj h.1,rfl,c⟩,.cons ⟨rfl,h.2⟩ q⟩
noncomputable def wP(trs:List (TE × TE)):TE:=fun σ H Q=>∀p,H p=none→U5 trs σ (upd H p (.dK [])) fun ps H2=>H2 p=some (.dK [])∧∃kvs:List (Key × V),ps=kvs.map (fun kv=>(kV kv.1,kv.2))∧kvs.length≤15∧Q (.ref p) (upd H2 p (.dK (KA [] kvs)))
theorem jM{X:Cx}{pos:Pos}{keys:List (Option Expr)}{values:List Expr}{trs:List (TE × TE)}(h:PPs X pos keys values trs)(hall:keys.all (·.isSome)=true)(hl:keys.length=values.length)(h0:keys≠[])
  (h15:keys.length≤15):PE X (.Dict keys values pos) (wP trs):=by
 intro pins s σ H Q I q
 have hn:=I.hok.fresh (Nat.le_refl s.heap.objs.size)
 have I1:=I.laid (a:=s.heap.objs.size) (o:=.dK []) (h':=s.heap.push {cls:=.type "dict",data:=.dict #[]}) (t':=s.toks) (fun _ _ q=>Heap.get?_push_of_some _ q) (Nat.le_refl _) (U4 s.heap I.big)
 refine wpAny_Dict_walk (knd:=Jc X.prog X.w) hall hl h0 h15 (thn (h pins _ σ _ _ I1 (q _ hn)) fun ws s2⟨ps,H2,I2,rel,e,kvs,ep,lk,q2⟩=>?_)
 subst ep
 obtain⟨rs,c,rk⟩:=W9 (P:=X.prog) (w:=X.w) rel
 obtain⟨z,hd,vs0,r0,dd⟩:=yF I2.hok e
 cases r0
 refine⟨rs,c,dd,fun h' dd' hs=>⟨.ref s.heap.objs.size,_,?_,rfl,q2⟩⟩
 have hz:(KA [] kvs).length≤sizeLine:=by
  have h1:=XY kvs []
  rw[List.length_nil]at h1
  rw[sizeLine_eq];omega
 have he:∃q,h'.get? s.heap.objs.size=some q:=let ⟨q,_,_,hq,_⟩:=dd';⟨q,hq⟩
 exact Uf I2 (by rw[e];exact True.intro) hs he (wc hz hd (rk.merge .nil) dd')
structure M2(X:Cx)(o:Expr)(m:Str)(apos:Pos)(e f:Expr)(cpos:Pos):Prop where
 base:attributeBase o m X.env (eval o X.env)=eval o X.env
 few:((backTo cpos (starEach [e,f] X.env)).all (fun x=> !x.1)&&(backToKw cpos (keywordEach [] X.env)).all (fun x=>x.1.isSome)
  &&decide (([e,f]:List Expr).length+([]:List Keyword).length+(if([]:List Keyword).isEmpty then 0 else 1)<30))=true
 line:(apos.endLine==cpos.line)=true
 trees:backTo cpos (starEach [e,f] X.env)=[(false,eval e X.env),(false,eval f X.env)]
noncomputable def IsD(H:Hp)(a:Addr):Prop:=(∃kvs,Rd H a (.dK kvs))∨∃kvs,Rd H a (.dT kvs)
theorem yG{X:Cx}{pins:List (Addr × Obj)}{σ:St}{H:Hp}{s:Shared}{a:Addr}(I:Inv X pins σ H s)(d:IsD H a):
  s.TypeIs (.ref a) "dict"∧(∀b,Value.ref a=.ref b→∃ob,s.heap.get? b=some ob∧ob.dict=none)∧(a==sysModules)=false:=by
 rcases d with⟨kvs,e⟩|⟨kvs,e⟩
 ·obtain⟨_,hd,vs,_,dd⟩:=jF I.hok e
  refine⟨dd.typeIs,fun b q=>?_,hd⟩
  cases q
  obtain⟨ob,_,_,h1,h2,_⟩:=dd
  exact⟨ob,h1,h2.2.1⟩
 ·obtain⟨_,hd,xs,_,dd⟩:=jG I.hok e
  refine⟨dd.typeIs,fun b q=>?_,hd⟩
  cases q
  obtain⟨ob,_,_,h1,h2,_⟩:=dd
  exact⟨ob,h1,h2.2.1⟩
section
variable {X:Cx}{pins:List (Addr × Obj)}{σ:St}{H:Hp}{s:Shared}{a:Addr}{y d:V}{u r:Value}{o:Option V}{A:Around}{E:Value→Shared→Prop}
theorem yH{Q:Value→Shared→Prop}(hu:A.units+1<cLine)(I:Inv X pins σ H s)(g:qJ H a y o)(ry:RelV y u)(rd:RelV d r)(h:∀w' s',Inv X pins σ H s'→RelV (o.getD d) w'→Q w' s'):
  wpAny (model X.prog X.w) A (call (.builtin "dict.get") [.ref a,u,r]) Q E s:=by
 rcases g with⟨kvs,k,e,ey,l⟩|⟨kvs,k,b,e,ey,eb,l⟩
 ·subst ey
  obtain⟨z,hd,vs,rel,dd⟩:=jF I.hok e
  refine call_meetsIn PySem.F.slot_dict_get dd.typeIs PySem.F.entry_dict_get (PySem.F.args_dict_get_3 _ _ _) (meets_dict_get_default (Jc X.prog X.w) a (Yj ry) hd r) ⟨_,dd.mapOf,h _ _ (I.tok _) ?_⟩
  rw[l]
  exact(rel.val k).getD rd
 ·subst ey
  cases(show u=Value.ref b from ry)
  obtain⟨z,hd,xs,rel,dd⟩:=jG I.hok e
  refine call_meetsIn PySem.F.slot_dict_get dd.typeIs PySem.F.entry_dict_get (PySem.F.args_dict_get_3 _ _ _) (meetsH_dict_get_default (tupleKind (Jc X.prog X.w)) a b hd r) ⟨tupleKind_room_in1 hu,k,xs,U3 I.hok eb,dd,h _ _ (I.tok _) ?_⟩
  rw[l]
  exact(rel.val k).getD rd
end
noncomputable def yI(td ty tx:TE):TE:=fun σ H Q=>td σ H fun x H1=>∃a,x=.ref a∧IsD H1 a∧ty σ H1 fun y H2=>tx σ H2 fun z H3=>∃o,qJ H3 a y o∧Q (o.getD z) H3
section
variable {X:Cx}{o e f:Expr}{apos cpos:Pos}{td ty tx:TE}
theorem xu(hu:X.A.units+1<cLine)(ho:PE X o td)(he:PE X e ty)(hf:PE X f tx)(m:M2 X o "get" apos e f cpos):PE X (.Call (.Attribute o "get" apos) [e,f] [] cpos) (yI td ty tx):=by
 intro pins s σ H Q I h
 refine wpAny_Call_method m.base m.few m.line PySem.F.plainAttrs_dict PySem.F.slot_dict_get PySem.F.type_dict_get (thn (ho pins s σ H _ I h) fun u s1⟨x,H1,I1,rx,a,ex,d,q1⟩=>?_)
 subst ex
 obtain rfl:u=Value.ref a:=rx
 obtain⟨t1,t2,_⟩:=yG I1 d
 refine⟨t1,t2,?_⟩
 rw[m.trees]
 refine Calls.callWith_builtin rfl (Calls.evalArgs_plain (Calls.spliced_cons (thn (he pins s1 σ H1 _ I1 q1) fun iv s2⟨y,H2,I2,ry,q2⟩=>
  Calls.spliced_cons (thn (hf pins s2 σ H2 _ I2 q2) fun fv s3⟨z,H3,I3,rz,ov,g,q3⟩=>Calls.spliced_nil ?_))))
 exact yH hu I3 g ry rz fun w' s4 I4 rw'=>⟨_,H3,I4,rw',q3⟩
end
section
variable {X:Cx}{pins:List (Addr × Obj)}{σ:St}{H:Hp}{s:Shared}{a:Addr}{kvs:List (Key × V)}{A:Around}{E:Value→Shared→Prop}
end
section
variable {X:Cx}{pins:List (Addr × Obj)}{σ:St}{H:Hp}{s:Shared}{a:Addr}{y:V}{u:Value}{A:Around}{E:Value→Shared→Prop}
end
end L2
namespace Att
open PySem PySem.W PySem.Calls PyProof.Rows
theorem Wf{P:Params}{h:Heap}:∀(ns:List Int)(vs:List Value),WellAll P h vs (ns.map WData.int)→IntsAre vs ns:=by
 intro ns
 induction ns with
 |nil=>
  intro vs w
  rw[List.map_nil]at w
  cases w
  exact .nil
 |cons n ns ih=>
  intro vs w
  rw[List.map_cons]at w
  cases w with
  |cons a b=>
   cases a
   exact .cons _ _ (ih _ b)
theorem jN{l:OpenLaw}{n:Nat}(hn:l.most=some n){P:Params}{h:Heap}{args:List WData}{vals:List Value}
  (hpre:l.row.toRowW.claim.pre args=true) (hwl:WellAll P h vals args):
  ∃a vs ns,vals=[Value.ref a]∧args=[WData.list (ns.map WData.int)]∧h.get? a=some {cls:=.type "list",data:=.seq vs.toArray}∧IntsAre vs ns∧ns.length≤n:=by
 have hsh:WShape.hasAll [] args [.list .int]=true:=(pre_splitW hpre).1
 have hc:l.pre.holds [] {args:=args}=true:=(pre_splitW hpre).2
 obtain⟨d,r,rfl,h1,h2⟩:=hasAllW_cons hsh
 obtain rfl:=hasAllW_nil h2
 obtain⟨xs,rfl,h3⟩:=hasW_list h1
 obtain⟨ns,rfl⟩:=items_int h3
 have hlen:ns.length≤n:=by
  unfold OpenLaw.pre at hc
  have h4:(WTm.not (.lt (.lit (.int (n:Int))) (.len (.arg 0)))).holds [] {args:=[.list (ns.map .int)]}=true:=by
   have h4:=(holds_andW hc).1
   rw[hn]at h4
   exact h4
  have h5:=condW_of h4 (w_not (w_lt w_lit (w_len_list (w_arg rfl))))
  rw[List.length_map]at h5
  refine Nat.le_of_not_lt fun q=>?_
  have q':(n:Int)<((ns.length:Nat):Int):=by omega
  first
   |(rw[decide_eq_true q']at h5;exact absurd h5 (by decide))
   |(simp at h5;omega)
 cases hwl with
 |cons w1 w2=>
  cases w2
  cases w1 with
  |list ho hall=>exact⟨_,_,ns,rfl,rfl,ho,Wf ns _ hall,hlen⟩
theorem jO(l:OpenLaw)(args:List WData):l.row.toRowW.claim.post args (.bool true) args=true:=
 postW_of (r:=l.row.toRowW) (X:=(true==true))
  (show WShape.has [] (.bool true) .bool=true by first|rfl|decide|simp[WShape.has,WShape.arms,WShape.armsAll])
  (show(WTm.eq .res (.lit (.bool true))).value [] {args:=args,res:=some (.bool true),after:=args}=some (.bool (true==true))from w_eq_bool (w_res rfl) w_lit) rfl
theorem Uh{l:OpenLaw}{n:Nat}{q:Program}{loose:List Str}{XP:(Str→Option Value)→Heap→Prop}{YP:World→Heap→Prop}{d:DefRec}
  (hn:l.most=some n) (hdf:d.params.defaults=[])
  (call:∀(w:World)(s₀ s₁:Shared)(mg mb:Str→Option Value)(fa:Addr)(o:Obj)(pm cd doc:Value)(a:Addr)(vs:List Value)(ns:List Int),
   Ground q loose [] XP w s₀ mg mb s₁.heap→YP w s₁.heap→
   s₁.heap.get? fa=some o→o.data=.func (docDef d.name d.params d.body d.scope pm cd doc)→s₁.heap.CodeRec cd d.name→mg d.name=some (.ref fa)→
   s₁.heap.get? a=some {cls:=.type "list",data:=.seq vs.toArray}→IntsAre vs ns→ns.length≤n→s₁.gens= #[]→
   codeAny (model l.prog w) callerA (.call (.ref fa) ⟨[.ref a],[]⟩) (fun r s'=>r=.ok (.ret (.bool true))∧OldK s₁.heap s'.heap∧s'.os=s₁.os∧AllBare s'.gens) s₁):
  WalkO q loose XP YP l.row.toRowW d [] (fun f vs=>PySem.call f vs):=by
 intro w s₀ s₁ mg mb G Y fa o pm cd doc dV kV ho hd hcd hD hmg hg args vals as hpre hlay hrd hwl hlo
 obtain rfl:dV=.none:=Dflts.none hD hdf
 obtain rfl:kV=.none:=Dflts.noKw hD
 obtain⟨a,vs,ns,rfl,rfl,hobj,hints,hlen⟩:=jN hn hpre hwl
 refine enter_call (codeAny_mono (call w s₀ s₁ mg mb fa o pm cd doc a vs ns G Y ho (fd_plain hd) hcd hmg hobj hints hlen hg) fun r s' hq=>?_)
 obtain⟨rfl,h2,h3,h4⟩:=hq
 exact⟨.inl ⟨.bool true,.bool true,[],rfl,fun _=>rfl,.bool true,jO l _,fun _=>⟨List.Pairwise.nil,fun _ hm=>(nomatch hm)⟩⟩,h2,h3,h4⟩
section
variable {prog:Program}{w:World}{A:Around}{E:Value→Shared→Prop}{s:Shared}{K:Frag}
end
end Att
namespace L2
open PySem PySem.Spec PyProof.Rows
theorem Yl:∀{vs:List Value}{ns:List Int},IntsAre vs ns→Vals (ns.map V.int) vs
 |_,_,.nil=>.nil
 |_,_,.cons n t h=>.cons ⟨t,rfl⟩ (Yl h)
end L2
namespace L2
open PySem PySem.Spec PyProof.Rows
end L2
namespace L2
open PySem PySem.Spec PyProof.Rows
noncomputable def Jt(s:Stmt):Arguments:=match s with
 | .FunctionDef _ a _ _ _ _ _ _ _ _=>a
 |_=>{posonlyargs:=[],args:=[],vararg:=none,kwonlyargs:=[],kw_defaults:=[],kwarg:=none,defaults:=[]}
noncomputable def QP(s:Stmt):List Stmt:=match s with
 | .FunctionDef _ _ b _ _ _ _ _ _ _=>b
 |_=>[]
noncomputable def Qf(s:Stmt):Scope:=match s with
 | .FunctionDef _ _ _ _ _ _ sc _ _ _=>sc
 |_=>{kind:=.function,names:=[],isGenerator:=false,isCoroutine:=false}
noncomputable abbrev E0:XK:=fun _ _ _=>False
structure Fun(K:PySem.W.Frag)(x qual:Str)(st:Stmt)(f:Addr)(fd:FuncData):Prop where
 ex:∃(oc:Value)(od:Option Addr)(kV doc pm:Value)(an:Option Addr)(cdv ct:Value)(osl:Array (Option Value)),
  fd=PySem.W.fnOf x qual (Jt st) (QP st) (Qf st) .none kV doc pm an cdv ct∧K.lookup f=some ⟨oc,od,.func fd,osl⟩∧PySem.W.codeIn K cdv qual=true
 kp:PySem.W.keepIn K (.ref f)=true
section
variable {P:Program}{w:World}{K:PySem.W.Frag}{mg:Str→Option Value}{base:Heap}
theorem Fun.binds{x qual:Str}{st:Stmt}{f:Addr}{fd:FuncData}{ps:List Str}(F:Fun K x qual st f fd)
  (h:∀(kV doc pm:Value)(an:Option Addr)(cdv ct:Value)(us:List Value),us.length=ps.length→bindArgs (PySem.W.fnOf x qual (Jt st) (QP st) (Qf st) .none kV doc pm an cdv ct) ⟨us,[]⟩=pure (ps.zip us)):Binds K fd ps []:=by
 obtain⟨oc,od,kV,doc,pm,an,cdv,ct,osl,rfl,lk,hcd⟩:=F.ex
 exact .all (h kV doc pm an cdv ct)
end
theorem jP{A:Around}{k:Nat}(hr:Room k A):A.units+1<cLine:=Nat.lt_of_le_of_lt (Nat.add_le_add_left (by decide:1≤64) _) hr.units
section
variable {X:Cx}
theorem pv(i:Nat){x:Str}{pos:Pos}(hN:X.N[i]? =some x:=by rfl)(hv:Vis X.env.scope x:=by first|exact Or.inl rfl|exact Or.inr (Or.inl rfl)|exact Or.inr (Or.inr rfl))(hd:(x==("__debug__":Str))=false:=by decide)
  (hcd:(x==("__classdict__":Str))=false:=by decide):PE X (.Name x pos) (Kx i):=kW hN hv hd hcd
end
theorem QX{A B:Prop}(h:B):if false=true then A else B:=by
 rw[if_neg Bool.false_ne_true]
 exact h
theorem Q4{A B:Prop}(h:A):if true=true then A else B:=by
 rw[if_pos rfl]
 exact h
noncomputable def Qz(H H':Hp):Prop:=∀b o,H b=some o→H' b=some o
theorem Qz.refl(H:Hp):Qz H H:=fun _ _ h=>h
theorem Qz.trans{H H1 H2:Hp}(a:Qz H H1)(b:Qz H1 H2):Qz H H2:=fun c o h=>b c o (a c o h)
end L2
namespace L2
open PySem PySem.Spec PyProof.Rows
section
variable {X:Cx}
end
section
variable {κ:Type}[DecidableEq κ]
end
end L2
set_option Elab.async false
set_option linter.all false
set_option maxRecDepth 100000
namespace L2
open PySem PySem.Spec PyProof.Rows
theorem JC.ex{P:Program}{w:World}{H:Hp}{h:Heap}{a:Addr}{o:HO}(x:JC P w H h a o):∃ob,h.get? a=some ob:=by
 cases o with
 |lst xs=>obtain⟨_,_,_,_,e⟩:=x;exact⟨_,e⟩
 |tup xs=>obtain⟨_,_,_,ob,e,_⟩:=x;exact⟨_,e⟩
 |dK kvs=>obtain⟨_,_,_,_,o,_,_,e,_⟩:=x;exact⟨_,e⟩
 |dT kvs=>obtain⟨_,_,_,_,o,_,_,e,_⟩:=x;exact⟨_,e⟩
 |set S n=>obtain⟨o,_,_,_,e,_⟩:=x;exact⟨_,e⟩
 |ins C dx fs=>obtain⟨_,_,_,e,_⟩:=x;exact⟨_,e⟩
 |own y=>exact x
 |xd fs=>obtain⟨_,⟨_,_,_,e,_⟩,_⟩:=x;exact⟨_,e⟩
 |rng lo hi=>obtain⟨_,_,_,e⟩:=x;exact⟨_,e⟩
 |frz ob u=>obtain⟨e,_⟩:=x;exact⟨_,e⟩
 |tbl ps=>exact⟨_,(show h.get? a=some _ from x)⟩
 |met f y=>exact⟨_,(show h.get? a=some _ from x)⟩
 |ext φ=>obtain⟨_,e,_⟩:=x;exact e
noncomputable def wQ(h:Heap)(e T:Addr)(cls:Value):Prop:=
 ∃oe vs oT ts a0,h.get? e=some oe∧oe.cls=cls∧oe.data=.fields vs∧vs[0]? =some a0∧vs[1]? =some (.ref T)∧T≠e∧h.get? T=some oT∧oT.data=.fields ts∧ts[3]? =some .none
noncomputable def CXE(P:Program)(w:World):CXT:=fun outer H s E e s'=>
 ∃a T cls H',e=.ref a∧wQ s'.heap a T cls∧s.heap.get? a=none∧s.heap.get? T=none∧H' a=none∧H' T=none∧s'.os=s.os∧AllBare s'.gens∧
  Un (frs outer) [] H H' s.heap s'.heap∧HOk P w H' s'.heap∧E cls none H'
theorem Qw{P:Program}{w:World}{X:Cx}:Passes (CXE P w) X E0:=fun _ _ _ _ _ _ _⟨_,_,_,_,_,_,_,_,_,_,_,_,_,_,h⟩=>h.elim
section
variable {X:Cx}{pins:List (Addr × Obj)}{σ:St}{H:Hp}{s:Shared}
theorem Ym{E:XK}{a:Addr}{cls a0:Value}{ys:List Addr}{h'':Heap}(I:Inv X pins σ H s)(hex:X.ex=[])(hstk:X.stack=X.env::X.outer)
  (hys:∀y∈ys,H y=none∧X.s₀.heap.get? y=none) (ha:H a=none) (ha0:X.s₀.heap.get? a=none)
  (fl:Heap.FlyingW (PySem.W.hideAll s.heap (frs X.stack++ys)) X.outer a cls a0 h'') (up:∀b∈frs X.stack,∀o,s.heap.get? b=some o→(∀vs,o.data≠ .fields vs)→∃sl,h''.get? b=some {o with slots:=sl}) (hE:E cls none H):
  CXE X.prog X.w X.outer X.H₀ X.s₀ E (.ref a) {s with heap:=h''}:=by
 obtain⟨f1,f2,f3,oe,vs,T,oT,ts,t1,⟨t2,t3⟩,t4,t5,t6,t7,t8,t9,t10⟩:=fl
 have nex:∀b:Addr,b∉X.ex:=fun b hb=>by rw[hex]at hb;cases hb
 have inB:∀b o,s.heap.get? b=some o→b∉frs X.stack→b∉ys→h''.get? b=some o:=fun b o e n1 n2=>
  f1 b o (PySem.W.hideAll_get _ e fun hm=>(List.mem_append.mp hm).elim n1 n2)
 have fr:∀b∈frs X.stack,∃o,s.heap.get? b=some o∧∀vs,o.data≠ .fields vs:=fun b hb=>(I.stack.mem hb).2
 have old:∀b o,X.s₀.heap.get? b=some o→b∉ys:=fun b o e hb=>by rw[(hys b hb).2]at e;cases e
 have notF:∀b,b∈frs X.stack→b∈X.env.locals::X.fs:=I.XQ
 have neL:∀b o,X.s₀.heap.get? b=some o→b≠X.env.locals:=fun b o e=>Nat.ne_of_lt (Nat.lt_of_lt_of_le (Heap.lt_size e) I.ok.above)
 have noT:∀o,s.heap.get? T=some o→T∉ys→False:=fun o e n2=>by
  by_cases hf:T∈frs X.stack
  ·obtain⟨o2,e2,d2⟩:=fr T hf
   obtain⟨sl,e3⟩:=up T hf o2 e2 d2
   rw[t8]at e3
   cases e3
   exact d2 _ t9
  ·have:=PySem.W.hideAll_get (frs X.stack++ys) e fun hm=>(List.mem_append.mp hm).elim hf n2
   rw[t6]at this
   cases this
 refine⟨a,T,cls,H,rfl,⟨oe,vs,oT,ts,a0,t1,t2,t4,t3,t5,t7,t8,t9,t10⟩,ha0,?_,ha,?_,I.os,I.bare,⟨fun b o e n hb hx=>?_,fun b o e n hb hx=>?_,fun b o e n hx=>I.base.free b o e n (nex b),fun b o e hx=>?_,I.base.tups,I.base.frzs,I.base.tbls⟩,fun b o e=>?_,hE⟩
 ·cases q:X.s₀.heap.get? T with
  |none=>rfl
  |some o=>
   obtain⟨o',e'⟩:=I.base.there T o q (nex T)
   exact(noT o' e' (old T o q)).elim
 ·cases q:H T with
  |none=>rfl
  |some u=>
   obtain⟨ob,e⟩:=(I.hok T u q).ex
   exact(noT ob e fun hm=>by rw[(hys T hm).1]at q;cases q).elim
 ·refine inB b o (I.base.keep b o e n hb (nex b)) (fun hm=>?_) (old b o e)
  rcases List.mem_cons.mp (notF b hm)with z|z
  ·exact neL b o e z
  ·exact hb z
 ·obtain⟨sl,e1⟩:=I.base.slot b o e n hb (nex b)
  have hm:b∈frs X.stack:=by rw[hstk];unfold frs;rw[List.filterMap_cons];split<;>first|exact hb|exact List.mem_cons_of_mem _ hb
  obtain⟨o2,e2,d2⟩:=fr b hm
  rw[e1]at e2
  cases e2
  obtain⟨sl',e3⟩:=up b hm _ e1 d2
  exact⟨sl',e3⟩
 ·obtain⟨o',e1⟩:=I.base.there b o e (nex b)
  by_cases hm:b∈frs X.stack
  ·obtain⟨o2,e2,d2⟩:=fr b hm
   obtain⟨sl',e3⟩:=up b hm _ e2 d2
   exact⟨_,e3⟩
  ·exact⟨o',inB b o' e1 hm (old b o e)⟩
 ·refine(I.hok b o e).Kw (fun c u hc q=>inB c u q (fun hm=>?_) fun hm=>?_) (fun _ q=>q) fun _ _ q=>q
  ·have z:=I.Xy c hm
   rcases hc with rfl|hc
   ·rw[e]at z;cases z
   ·rw[hc]at z;cases z
  ·have z:=(hys c hm).1
   rcases hc with rfl|hc
   ·rw[e]at z;cases z
   ·rw[hc]at z;cases z
theorem XB(I:Inv X pins σ H s)(ys:List Addr):s.heap.FunFrames (PySem.W.hideAll s.heap (frs X.stack++ys)) X.stack:=
 PySem.W.funFrames_hide I.stack fun env he a hf=>List.mem_append_left _ (List.mem_filterMap.mpr ⟨env,he,hf⟩)
end
noncomputable def yJ(X:Cx)(E:XK):Prop:=∀(pins:List (Addr × Obj))(σ:St)(H:Hp)(s:Shared)(h':Heap)(a:Addr)(cls:Value)(args:List Value),
 Inv X pins σ H s→Heap.MadeExcOf s.heap h' a cls args→E cls none H→X.xe (.ref a) {s with heap:=h'}
structure Fram(X:Cx)(E:XK):Prop where
 ex:X.ex=[]
 stk:X.stack=X.env::X.outer
 fr:X.env.frame=some X.env.locals
 xe:∀e s',wpAny (model X.prog X.w) X.A (leaving X.env e) (fun _ s''=>CXE X.prog X.w X.outer X.H₀ X.s₀ E e s'') (fun e' s''=>CXE X.prog X.w X.outer X.H₀ X.s₀ E e' s'') s'→X.xe e s'
theorem ZO{P:Program}{w:World}{K:PySem.W.Frag}{mg:Str→Option Value}{base:Heap}{N:List Str}{qual:Str}{scope:Scope}{f:Addr}{cd:Value}{A:Around}{outer:List Env}{s:Shared}{H:Hp}{E:XK}:
  Fram (WR (CXE P w) P w K mg base N qual scope f cd A outer s H E) E:=⟨rfl,rfl,rfl,fun _ _ h=>h⟩
section
variable {X:Cx}{E:XK}
theorem Wg(F:Fram X E):yJ X E:=by
 intro pins σ H1 s1 h' a cls args I hx hE
 have nex:∀b:Addr,b∉X.ex:=fun b hb=>by rw[F.ex]at hb;cases hb
 refine F.xe _ _ ?_
 have ff:s1.heap.FunFrames (PySem.W.hideAll s1.heap (frs X.stack++[])) (X.env::X.outer):=by
  have z:=XB I []
  rw[F.stk]at z ⊢
  exact z
 refine wpAny_leaves_madeW (s:={s1 with heap:=h'}) (h:=s1.heap) (base:=PySem.W.hideAll s1.heap (frs X.stack++[])) (by rw[←F.stk];exact I.ok.frames) F.fr
  (fun b o q=>PySem.W.of_hideAll _ q) ff hx fun h'' t fl _ _ up=>?_
 refine Ym (s:=s1) (ys:=[]) I F.ex F.stk (fun y hy=>nomatch hy) ?_ ?_ fl (fun b _ o e d=>?_) hE
 ·cases q:H1 a with
  |none=>rfl
  |some u=>
   obtain⟨ob,e⟩:=(I.hok a u q).ex
   have:=hx.new
   rw[e]at this
   cases this
 ·cases q:X.s₀.heap.get? a with
  |none=>rfl
  |some o=>
   obtain⟨o',e'⟩:=I.base.there a o q (nex a)
   have:=hx.new
   rw[e']at this
   cases this
 ·exact up b o (hx.keeps b o e) d
theorem Jr(F:Fram X E):Passes (CXE X.prog X.w) X E:=by
 intro pins σ H1 s1 e s' I h
 obtain⟨a,T,cls,H',rfl,⟨oe,vs,oT,ts,a0,t1,t2,t3,t4,t5,t6,t7,t8,t9⟩,n1,n2,ha,hT,os,bare,un,hok,hE⟩:=h
 have nex:∀b:Addr,b∉X.ex:=fun b hb=>by rw[F.ex]at hb;cases hb
 have I':Inv X pins σ H' s':=I.jm os un hok bare fun b hb=>nomatch hb
 have old:∀b,s1.heap.get? b=none→X.s₀.heap.get? b=none:=fun b hb=>by
  cases q:X.s₀.heap.get? b with
  |none=>rfl
  |some o=>
   obtain⟨o',e'⟩:=I.base.there b o q (nex b)
   rw[hb]at e'
   cases e'
 refine F.xe _ _ ?_
 have ff:s'.heap.FunFrames (PySem.W.hideAll s'.heap (frs X.stack++[a,T])) (X.env::X.outer):=by
  have z:=XB I' [a,T]
  rw[F.stk]at z ⊢
  exact z
 refine wpAny_leaves_onW (base:=PySem.W.hideAll s'.heap (frs X.stack++[a,T])) (cls:=cls) (a0:=a0) (by rw[←F.stk];exact I.ok.frames) F.fr
  ⟨fun b o q=>PySem.W.of_hideAll _ q,PySem.W.hideAll_none _ (List.mem_append_right _ (by simp)),ff,oe,vs,T,oT,ts,t1,⟨t2,t4⟩,t3,t5,PySem.W.hideAll_none _ (List.mem_append_right _ (by simp)),t6,t7,t8,t9⟩
  fun h'' fl up=>?_
 refine Ym I' F.ex F.stk (fun y hy=>?_) ha (old a n1) fl (fun b _ o e d=>up b o e d) hE
 rcases List.mem_cons.mp hy with rfl|hy
 ·exact⟨ha,old _ n1⟩
 ·obtain rfl:=List.mem_singleton.mp hy
  exact⟨hT,old _ n2⟩
end
section
variable {X:Cx}
structure Err(K:PySem.W.Frag)(C:Addr):Prop where
 ex:PySem.W.excIn K C [.type "ValueError",.type "Exception",.type "BaseException",.type "object"] "ValueError.__new__"=true
noncomputable def yK(C:Addr)(E:XK)(t:TA):TS:=fun _ σ H=>t σ H fun vs H1=>vs.length≤sizeLine∧E (.ref C) none H1
theorem U6{C:Addr}{x:Str}{np cpos pos:Pos}{e₀:Expr}{rest:List Expr}{t:TA}{E:XK}(T:yJ X E)(hc:X.calm=true)(hg:Gl X x)(hm:X.mg x=some (.ref C))(hC:Err X.K C)(ha:PA X (e₀::rest) t)
  (he:starEach (e₀::rest) X.env=(false,eval e₀ X.env)::starEach rest X.env:=by rfl) (hpl:(backTo cpos (starEach rest X.env)).any (·.1)=false:=by rfl) (hdb:(x==("__debug__":Str))=false:=by decide):
  PS X (.Raise (some (.Call (.Name x np) (e₀::rest) [] cpos)) none pos) (yK C E t):=by
 intro pins s σ H D I h
 have q:=hC.ex
 have O:∃bm N nm q bs hdct sn sub ab col dd k0 k1 k2 k3 k5 mN,X.base.get? C=some (excClassObj nm q C N bs bm hdct sn sub ab col dd k0 k1 k2 k3 k5 "ValueError.__new__")∧X.base.Ns N mN∧mN "__init__"=none∧
   OwnTail X.base [.type "ValueError",.type "Exception",.type "BaseException",.type "object"] bm:=by
  have KX:=I.mod.kin
  unfold PySem.W.excIn at q
  split at q
  ·rename_i dd cd sl ho
   split at q
   ·rename_i C' bm k0 k1 k2 k3 n k5 hm hs
    simp only[Bool.and_eq_true,beq_iff_eq,Bool.not_eq_true']at q
    obtain⟨⟨⟨⟨⟨rfl,rfl⟩,hdel⟩,ht⟩,hok⟩,hni⟩:=q
    obtain⟨nm,bs,mro,ns,qn,hd,sn,sub,ab,col,del⟩:=cd
    dsimp only at hm hdel hok hni
    subst hm hdel
    have hsl:sl= #[k0,k1,k2,k3,some (.builtin "ValueError.__new__"),k5]:=by
     obtain⟨l⟩:=sl
     simp only at hs
     rw[hs]
    subst hsl
    exact⟨bm,ns,nm,qn,bs,hd,sn,sub,ab,col,dd,k0,k1,k2,k3,k5,_,KX _ _ ho,.of_isNs (PySem.W.isNs_of_in KX hok),PySem.W.nsMap_none_of_in KX hok hni,PySem.W.tail_of_in KX ht⟩
   ·cases q
  ·cases q
 obtain⟨tl,Nn,nm,qq,bs,hdct,sn,sub,ab,col,dd,k0,k1,k2,k3,k5,mN,h1,h2,h3,h4⟩:=O
 refine wpAny_Raise_call_subT (C:=C) (nm:=nm) (q:=qq) (N:=Nn) (bs:=bs) (bm:=tl) (hdct:=hdct) (sn:=sn) (sub:=sub) (ab:=ab) (col:=col) (dd:=dd) (k0:=k0) (k1:=k1) (k2:=k2) (k3:=k3) (k5:=k5)
  PySem.F.excBase_ValueError (mN:=mN) (h4.hasType PySem.F.excBase_ValueError.hasBase) (I.ok.hd hc) (by rw[he];show(false||(backTo cpos (starEach rest X.env)).any (·.1))=false;rw[hpl];rfl) h3 ?_
 refine Z2 I hg hm ⟨rfl,?_⟩ (hd:=hdb)
 have w1:=ha cpos pins s σ H _ I h
 rw[he]at w1 ⊢
 refine Calls.evalArgs_plain (wpAny_mono w1 (fun us s2 q2=>?_) fun _ _ y=>y)
 obtain⟨vs,H',I2,rv,hl,hE⟩:=q2
 refine⟨rfl,?_,I2.bk _ _ h1,h2.keeps I2.bk,h4.keeps I2.bk,fun h' e hm=>T pins σ H' s2 h' e (.ref C) _ I2 hm hE⟩
 show us.length≤sizeLine
 rw[←rv.length]
 exact hl
end
end L2
set_option Elab.async false
set_option linter.all false
set_option maxRecDepth 100000
namespace L2
open PySem PySem.Spec PyProof.Rows
section
variable {X:Cx}{pins:List (Addr × Obj)}{σ:St}{H H':Hp}{s:Shared}{h':Heap}
theorem Inv.Qa9{t':Nat}{ch:List Addr}(I:Inv X pins σ H s)
  (hch:∀b∈ch,X.s₀.heap.get? b=none∧b≠X.env.locals∧(∀x c,X.env.cells.lookup x=some c→c≠b)∧∀p∈X.pn++pins,p.1≠b)
  (keep:∀b o,b≠X.env.locals→b∉X.fs→b∉ch→s.heap.get? b=some o→H b=none→h'.get? b=some o)
  (slot:∀b o,b≠X.env.locals→b∈X.fs→b∉ch→s.heap.get? b=some o→H b=none→∃sl,h'.get? b=some {o with slots:=sl})
  (there:∀b o,b∉ch→s.heap.get? b=some o→∃o',h'.get? b=some o')
  (ns:∀m,s.heap.Ns X.env.locals m→h'.Ns X.env.locals m) (hok:HOk X.prog X.w H h'):
  Inv X pins σ H {s with heap:=h',toks:=t'}:=by
 have neL:∀b o,X.s₀.heap.get? b=some o→b≠X.env.locals:=fun b o e=>Nat.ne_of_lt (Nat.lt_of_lt_of_le (Heap.lt_size e) I.ok.above)
 have neC:∀b o,X.s₀.heap.get? b=some o→b∉ch:=fun b o e hb=>by
  have z:=(hch b hb).1
  rw[e]at z
  cases z
 have cellK:∀x c,X.env.cells.lookup x=some c→∀v,s.heap.IsCell c v→h'.IsCell c v:=fun x c e v⟨o,ho,hd⟩=>by
  have nch:c∉ch:=fun z=>(hch c z).2.2.1 x c e rfl
  by_cases hc:c∈X.fs
  ·obtain⟨sl,q⟩:=slot c o (I.cne x c e) hc nch ho (I.freeC x c e)
   exact⟨_,q,hd⟩
  ·exact⟨o,keep c o (I.cne x c e) hc nch ho (I.freeC x c e),hd⟩
 refine⟨I.ok,I.os,I.bare,⟨fun b o e n hb hx=>?_,fun b o e n hb hx=>?_,I.base.free,fun b o e hx=>?_,I.base.tups,I.base.frzs,I.base.tbls⟩,?_,fun x c e=>?_,I.free,I.freeC,fun p hp=>?_,hok,I.len⟩
 ·exact keep b o (neL b o e) hb (neC b o e) (I.base.keep b o e n hb hx) (I.base.free b o e n hx)
 ·obtain⟨sl,e1⟩:=I.base.slot b o e n hb hx
  obtain⟨sl',e2⟩:=slot b _ (neL b o e) hb (neC b o e) e1 (I.base.free b o e n hx)
  exact⟨sl',e2⟩
 ·obtain⟨o',e1⟩:=I.base.there b o e hx
  exact there b o' (neC b o e) e1
 ·obtain⟨m,hn,hl⟩:=I.loc
  refine⟨m,ns m hn,fun i x v e1 e2 e3=>?_⟩
  obtain⟨u,r,l⟩:=hl i x v e1 e2 e3
  refine⟨u,r,?_⟩
  rcases l with l|⟨k,c,e,z⟩
  ·exact .inl l
  ·exact .inr ⟨k,c,e,cellK x c e _ z⟩
 ·obtain⟨v,z⟩:=I.cell x c e
  exact⟨v,cellK x c e v z⟩
 ·obtain⟨e,n,ne,nf,d⟩:=I.pin p hp
  have nch:p.1∉ch:=fun z=>(hch p.1 z).2.2.2 p hp rfl
  exact⟨keep p.1 p.2 ne nf nch e n,n,ne,nf,d⟩
noncomputable def jQ(a:Addr)(cls:Value):HO:=.ext fun h=>∃o vs,h.get? a=some o∧o.cls=cls∧o.data=.fields vs
theorem wR{P:Program}{w:World}{H:Hp}{h:Heap}{a:Addr}{cls:Value}{o:Obj}{vs:Array Value}(e:h.get? a=some o)(hc:o.cls=cls)(hd:o.data=.fields vs):JC P w H h a (jQ a cls):=
 ⟨⟨o,vs,e,hc,hd⟩,⟨o,e⟩,fun _ _⟨o,vs,e,r⟩ k=>⟨o,vs,k o e,r⟩⟩
theorem Inv.xv{a:Addr}{o:HO}(I:Inv X pins σ H s)(hn:H a=none)(h0:X.s₀.heap.get? a=none)(hL:a≠X.env.locals)(hc:∀x c,X.env.cells.lookup x=some c→c≠a) (hp:∀p∈X.pn++pins,p.1≠a)
  (new:JC X.prog X.w (upd H a o) s.heap a o):Inv X pins σ (upd H a o) s:=by
 refine⟨I.ok,I.os,I.bare,⟨I.base.keep,I.base.slot,fun b u e n hx=>?_,I.base.there,fun b xs e=>?_,fun b u xs e=>?_,fun b ps e=>?_⟩,I.loc,I.cell,?_,fun x c e=>?_,fun p q=>?_,fun b u e=>?_,I.len⟩
 ·rw[Qt fun z=>by rw[z,h0]at e;cases e]
  exact I.base.free b u e n hx
 ·have q:=I.base.tups b xs e
  rw[Qt (Qv q hn)]
  exact q
 ·have q:=I.base.frzs b u xs e
  rw[Qt (Qv q hn)]
  exact q
 ·obtain⟨m,q⟩:=I.base.tbls b ps e
  exact⟨m,by rw[Qt (Qv q hn)];exact q⟩
 ·rw[Qt hL.symm]
  exact I.free
 ·rw[Qt (hc x c e)]
  exact I.freeC x c e
 ·obtain⟨e,n,r⟩:=I.pin p q
  exact⟨e,by rw[Qt (hp p q)];exact n,r⟩
 ·by_cases hb:b=a
  ·subst hb
   rw[Qe]at e
   cases e
   exact new
  ·rw[Qt hb]at e
   exact(I.hok b u e).Kw (fun c v _ q=>q) (fun c q=>by rw[Qt (Qv q hn)];exact q) fun c xs q=>by rw[Qt (Qv q hn)];exact q
end
noncomputable abbrev Cx.alt(X:Cx)(pn:List (Addr × Obj))(xe:Value→Shared→Prop):Cx:={X with pn:=pn,xe:=xe}
noncomputable abbrev Cx.marked(X:Cx)(v:Value)(xe:Value→Shared→Prop):Cx:={X with A:=X.A.mark (some v),calm:=false,xe:=xe}
section
variable {X:Cx}{pins:List (Addr × Obj)}{σ:St}{H H':Hp}{s:Shared}
theorem Inv.Qba(I:Inv X pins σ H s)(xe:Value→Shared→Prop):Inv (X.alt (X.pn++pins) xe) [] σ H s:=
 ⟨⟨I.ok.mod,I.ok.kind,I.ok.glob,I.ok.blt,I.ok.above,I.ok.inj,I.ok.has,I.ok.cab,I.ok.hd,I.ok.frames,I.ok.stk,I.ok.exf,I.ok.bs,I.ok.bsz,I.ok.noex,I.ok.exfs,I.ok.Y8,I.ok.frf⟩,I.os,I.bare,I.base,I.loc,I.cell,I.free,I.freeC,
  fun p hp=>I.pin p (by simpa using hp),I.hok,I.len⟩
theorem Inv.ofAlt{xe:Value→Shared→Prop}{pins2:List (Addr × Obj)}(I:Inv (X.alt (X.pn++pins) xe) pins2 σ H s):Inv X pins σ H s:=
 ⟨⟨I.ok.mod,I.ok.kind,I.ok.glob,I.ok.blt,I.ok.above,I.ok.inj,I.ok.has,I.ok.cab,I.ok.hd,I.ok.frames,I.ok.stk,I.ok.exf,I.ok.bs,I.ok.bsz,I.ok.noex,I.ok.exfs,I.ok.Y8,I.ok.frf⟩,I.os,I.bare,I.base,I.loc,I.cell,I.free,I.freeC,
  fun p hp=>I.pin p (List.mem_append_left _ hp),I.hok,I.len⟩
theorem Inv.U7(I:Inv X pins σ H s)(v:Value)(xe:Value→Shared→Prop):Inv (X.marked v xe) pins σ H s:=
 ⟨⟨I.ok.mod,I.ok.kind,I.ok.glob,I.ok.blt,I.ok.above,I.ok.inj,I.ok.has,I.ok.cab,(fun z=>nomatch z),I.ok.frames,I.ok.stk,I.ok.exf,I.ok.bs,I.ok.bsz,I.ok.noex,I.ok.exfs,I.ok.Y8,I.ok.frf⟩,I.os,I.bare,I.base,I.loc,I.cell,I.free,I.freeC,
  I.pin,I.hok,I.len⟩
theorem Inv.KR{v:Value}{xe:Value→Shared→Prop}(I:Inv (X.marked v xe) pins σ H s)(hh:X.A.handled=none):Inv X pins σ H s:=
 ⟨⟨I.ok.mod,I.ok.kind,I.ok.glob,I.ok.blt,I.ok.above,I.ok.inj,I.ok.has,I.ok.cab,fun _=>hh,I.ok.frames,I.ok.stk,I.ok.exf,I.ok.bs,I.ok.bsz,I.ok.noex,I.ok.exfs,I.ok.Y8,I.ok.frf⟩,I.os,I.bare,I.base,I.loc,I.cell,I.free,I.freeC,
  I.pin,I.hok,I.len⟩
theorem name_goes{n:Str}{i:Nat}{pos:Pos}{E:Value→Shared→Prop}{M:Model}{A:Around}{Q:Unit→Shared→Prop}(I:Inv X pins σ H s)(hN:X.N.Nodup)(hi:X.N[i]? =some n)(hl:X.env.scope.names.lookup n=some .local)
  (h:∀s',Inv X pins (σ.set i none) H s'→Q () s'):wpAny M A (do bindName X.env n .none;unbindBehindTheSuite X.env n pos) Q E s:=by
 have hp:(X.env.scope.kind==.class||(X.env.scope.kind==.module&&X.env.locals !=X.env.globals))=false:=by rw[I.ok.kind];rfl
 have hk:X.env.kindOf n=some .local:=hl
 refine wpAny_bind (wpAny_bindName (Zk (v:=V.non) I hN hi (.inl hl) rfl (fun s1 I1=>?_) (.inr hl)))
 unfold unbindBehindTheSuite
 refine wpAny_onRaise ?_
 unfold unbindName
 refine wpAny_bind (wpAny_point (wpAny_bind ?_))
 unfold deleteName
 simp only[hk,hp]
 rw[if_neg (by decide)]
 obtain⟨m,hn,hloc⟩:=id I1.loc
 obtain⟨u,ru,lk⟩:=hloc i n V.non hi (by rw[List.getElem?_set_self (by rw[I.len];exact(List.getElem?_eq_some_iff.mp hi).1)]) (.inl hl)
 have hmn:(m n).isSome=true:=by
  rcases lk with⟨_,e⟩|⟨z,_⟩
  ·rw[e];rfl
  ·have z':X.env.scope.names.lookup n=some .cell∨X.env.scope.names.lookup n=some .free:=z
   rcases z' with z'|z'<;>(rw[hl]at z';cases z')
 refine wpAny_bind (wpAny_nsDel_keeps hn fun h' v hn' hs=>?_)
 rw[hmn]
 simp only[Bool.not_true,Bool.false_eq_true,if_false]
 refine wpAny_pure (wpAny_point (h _ ?_))
 obtain⟨oL,_,_,hoL,_⟩:=id hn
 have kp:∀b o,b≠X.env.locals→s1.heap.get? b=some o→h'.get? b=some o:=fun b o hb e=>(hs.2 b hb).trans e
 refine⟨I1.ok,I1.os,I1.bare,⟨fun b o e n hb hx=>?_,fun b o e n hb hx=>?_,I1.base.free,fun b o e hx=>?_,I1.base.tups,I1.base.frzs,I1.base.tbls⟩,⟨_,hn',fun j y w e1 e2 e3=>?_⟩,fun y c e=>?_,I1.free,I1.freeC,fun p hp=>?_,fun b ob e=>?_,?_⟩
 ·exact kp b o (Nat.ne_of_lt (Nat.lt_of_lt_of_le (Heap.lt_size e) I1.ok.above)) (I1.base.keep b o e n hb hx)
 ·obtain⟨sl,e1⟩:=I1.base.slot b o e n hb hx
  exact⟨sl,kp b _ (Nat.ne_of_lt (Nat.lt_of_lt_of_le (Heap.lt_size e) I1.ok.above)) e1⟩
 ·obtain⟨o',e1⟩:=I1.base.there b o e hx
  exact⟨o',kp b _ (Nat.ne_of_lt (Nat.lt_of_lt_of_le (Heap.lt_size e) I1.ok.above)) e1⟩
 ·by_cases hj:j=i
  ·subst hj
   rw[List.getElem?_set]at e2
   simp only[if_true]at e2
   split at e2<;>cases e2
  ·rw[List.getElem?_set_ne (Ne.symm hj)]at e2
   obtain⟨u',r',q⟩:=hloc j y w e1 (by rw[List.getElem?_set_ne (Ne.symm hj)];exact e2) e3
   refine⟨u',r',?_⟩
   rcases q with⟨k,e⟩|⟨k,c,e,z⟩
   ·refine .inl ⟨k,?_⟩
    have:y≠n:=fun e=>hj (Vp hN e1 (e▸hi))
    simp only[this,if_false]
    exact e
   ·exact .inr ⟨k,c,e,z.sameBut hs (I1.cne y c e)⟩
 ·obtain⟨w',z⟩:=I1.cell y c e
  exact⟨w',z.sameBut hs (I1.cne y c e)⟩
 ·obtain⟨e,n,ne,nf,d⟩:=I1.pin p hp
  exact⟨kp p.1 p.2 ne e,n,ne,nf,d⟩
 ·refine(I1.hok b ob e).Kw (fun c w' hc q=>kp c w' ?_ q) (fun _ q=>q) fun _ _ q=>q
  rintro rfl
  have z:=I1.free
  rcases hc with rfl|hc
  ·rw[e]at z;cases z
  ·rw[hc]at z;cases z
 ·rw[List.length_set]
  exact I.len
theorem Inv.looked{a T:Addr}{cls:Value}{h5:Heap}{t':Nat}(I:Inv X pins σ H s)(hstk:X.stack=X.env::X.outer)(F:wQ s.heap a T cls)(ha:H a=none)(hT:H T=none)(f1:X.s₀.heap.get? a=none)(f2:X.s₀.heap.get? T=none)
  (hpn:∀p∈X.pn++pins,p.1≠a∧p.1≠T) (st:(PySem.W.hideAll s.heap (frs X.stack++[a,T])).StaysIn h5) (up:s.heap.UpToSlots h5):
  Inv X pins σ H {s with heap:=h5,toks:=t'}:=by
 obtain⟨oe,vs,oT,ts,a0,t1,t2,t3,t4,t5,t6,t7,t8,t9⟩:=F
 have two:∀b,b∈[a,T]→b=a∨b=T:=fun b hb=>by simpa using hb
 have recd:∀b,b∈[a,T]→∃o vs,s.heap.get? b=some o∧o.data=.fields vs:=fun b hb=>by
  rcases two b hb with rfl|rfl
  ·exact⟨_,_,t1,t3⟩
  ·exact⟨_,_,t7,t8⟩
 have inB:∀b o,s.heap.get? b=some o→b∉frs X.stack→b∉[a,T]→h5.get? b=some o:=fun b o e n1 n2=>
  st b o (PySem.W.hideAll_get _ e fun hm=>(List.mem_append.mp hm).elim n1 n2)
 have fr:∀b∈frs X.stack,∃o,s.heap.get? b=some o∧∀vs,o.data≠ .fields vs:=fun b hb=>(I.stack.mem hb).2
 have inS:∀b∈X.fs,b∈frs X.stack:=fun b hb=>by rw[hstk];unfold frs;rw[List.filterMap_cons];split<;>first|exact hb|exact List.mem_cons_of_mem _ hb
 refine I.Qa9 (ch:=[a,T]) (fun b hb=>⟨?_,?_,fun x c e z=>?_,fun p hp=>?_⟩) (fun b o hL hb hc e n=>?_) (fun b o hL hb hc e n=>?_) (fun b o hc e=>?_) (fun m hm=>up.ns hm) fun b u e=>?_
 ·rcases two b hb with rfl|rfl
  ·exact f1
  ·exact f2
 ·obtain⟨o,ws,e,d⟩:=recd b hb
  rintro rfl
  obtain⟨m,⟨o',es,ep,e',d',_⟩,_⟩:=I.loc
  rw[e]at e'
  cases e'
  rw[d]at d'
  cases d'
 ·obtain⟨o,ws,e1,d⟩:=recd b hb
  obtain⟨v,o',e',d'⟩:=I.cell x c e
  rw[z,e1]at e'
  cases e'
  rw[d]at d'
  cases d'
 ·rcases two b hb with rfl|rfl
  ·exact(hpn p hp).1
  ·exact(hpn p hp).2
 ·exact inB b o e (fun hm=>(List.mem_cons.mp (I.XQ b hm)).elim hL hb) hc
 ·obtain⟨o2,e2,d2⟩:=fr b (inS b hb)
  rw[e]at e2
  cases e2
  exact up b o e d2
 ·by_cases hm:b∈frs X.stack
  ·obtain⟨o2,e2,d2⟩:=fr b hm
   obtain⟨sl,q⟩:=up b o2 e2 d2
   exact⟨_,q⟩
  ·exact⟨o,inB b o e hm hc⟩
 ·refine(I.hok b u e).Kw (fun c v hc q=>inB c v q (fun hm=>?_) fun hm=>?_) (fun _ q=>q) fun _ _ q=>q
  ·have z:=I.Xy c hm
   rcases hc with rfl|hc
   ·rw[e]at z;cases z
   ·rw[hc]at z;cases z
  ·have z:H c=none:=by
    rcases two c hm with rfl|rfl
    ·exact ha
    ·exact hT
   rcases hc with rfl|hc
   ·rw[e]at z;cases z
   ·rw[hc]at z;cases z
noncomputable def Qcf(K:PySem.W.Frag)(C:Addr)(i n:Nat)(tb:XK→TS)(th:TS):TS:=fun D σ H=>
 tb (fun cls _ H'=>PySem.W.exmOne K cls (.ref C)=some true∧∀a,H' a=none→
  th {nx:=fun σ2 H2=>D.nx (σ2.set i none) H2,rt:=D.rt,bk:=fun σ2 H2=>D.bk (σ2.set i none) H2,ct:=fun σ2 H2=>D.ct (σ2.set i none) H2} ((List.replicate n none).set i (some (.ref a))) (upd H' a (jQ a cls))) D σ H
theorem yL{body suite:List Stmt}{b₀:Stmt}{x nm:Str}{np hpos pos:Pos}{C:Addr}{i:Nat}{tb:XK→TS}{th:TS}(hc:X.calm=true)(hex:X.ex=[])(hstk:X.stack=X.env::X.outer)(hfr:X.env.frame=some X.env.locals)
  (hg:Gl X x) (hm:X.mg x=some (.ref C)) (hN:X.N.Nodup) (hi:X.N[i]? =some nm) (hl:X.env.scope.names.lookup nm=some .local)
  (hb:∀(E:XK)(pn:List (Addr × Obj))(xe:Value→Shared→Prop),Passes (CXE X.prog X.w) (X.alt pn xe) E→PSs (X.alt pn xe) body (tb E))
  (hs:∀v:Value,PSs (X.marked v fun _ _=>False) (b₀::suite) th) (hdb:(x==("__debug__":Str))=false:=by decide):
  PS X (.Try body [.ExceptHandler (some (.Name x np)) (some nm) (b₀::suite) hpos] [] [] pos) (Qcf X.K C i X.N.length tb th):=by
 intro pins s σ H D I h
 refine wpAny_Try_except ?_
 have hpass:Passes (CXE X.prog X.w) (X.alt (X.pn++pins) fun e s'=>∃a T cls σ' H',e=.ref a∧Inv X pins σ' H' s'∧wQ s'.heap a T cls∧H' a=none∧H' T=none∧X.s₀.heap.get? a=none∧X.s₀.heap.get? T=none∧
   (∀p∈X.pn++pins,p.1≠a∧p.1≠T)∧PySem.W.exmOne X.K cls (.ref C)=some true∧∀a,H' a=none→
  th {nx:=fun σ2 H2=>D.nx (σ2.set i none) H2,rt:=D.rt,bk:=fun σ2 H2=>D.bk (σ2.set i none) H2,ct:=fun σ2 H2=>D.ct (σ2.set i none) H2} ((List.replicate X.N.length none).set i (some (.ref a))) (upd H' a (jQ a cls)))
   (fun cls _ H'=>PySem.W.exmOne X.K cls (.ref C)=some true∧∀a,H' a=none→
  th {nx:=fun σ2 H2=>D.nx (σ2.set i none) H2,rt:=D.rt,bk:=fun σ2 H2=>D.bk (σ2.set i none) H2,ct:=fun σ2 H2=>D.ct (σ2.set i none) H2} ((List.replicate X.N.length none).set i (some (.ref a))) (upd H' a (jQ a cls))):=by
  intro pins2 σ2 H2 s2 e s' I2 q
  obtain⟨a,T,cls,H',rfl,fl,n1,n2,ha,hT,os,bare,un,hok,hE⟩:=q
  have I3:=I2.jm os un hok bare fun b hb=>nomatch hb
  have frs0:∀b,s2.heap.get? b=none→X.s₀.heap.get? b=none:=fun b hb=>by
   cases q:X.s₀.heap.get? b with
   |none=>rfl
   |some o=>
    obtain⟨o',e'⟩:=I2.base.there b o q (by show b∉X.ex;rw[hex];simp)
    rw[hb]at e'
    cases e'
  have pn:∀b,s2.heap.get? b=none→∀p∈X.pn++pins,p.1≠b:=fun b hb p hp z=>by
   have:=(I2.pin p (List.mem_append_left _ hp)).1
   rw[z,hb]at this
   cases this
  exact⟨a,T,cls,σ2,H',rfl,I3.ofAlt,fl,ha,hT,frs0 a n1,frs0 T n2,fun p hp=>⟨pn a n1 p hp,pn T n2 p hp⟩,hE⟩
 refine wpAny_mono (hb _ (X.pn++pins) _ hpass [] s σ H D (I.Qba _) h) (fun f s1 q=>?_) (fun e s1 q=>?_)
 ·cases f with
  |next=>obtain⟨σ',H',I',q⟩:=q;exact wpAny_execs_nil ⟨σ',H',I'.ofAlt,q⟩
  |brk=>obtain⟨σ',H',I',q⟩:=q;exact⟨σ',H',I'.ofAlt,q⟩
  |cont=>obtain⟨σ',H',I',q⟩:=q;exact⟨σ',H',I'.ofAlt,q⟩
  |ret u=>obtain⟨v,σ',H',I',q⟩:=q;exact⟨v,σ',H',I'.ofAlt,q⟩
 ·obtain⟨a,T,cls,σ',H',rfl,I1,F1,ha,hT,f1,f2,hpn,hx,hh⟩:=q
  obtain⟨oe,vs,oT,ts,a0,t1,t2,t3,t4,t5,t6,t7,t8,t9⟩:=id F1
  have hfrm:X.A.frames=some (X.env::X.outer):=by rw[←hstk];exact I1.ok.frames
  have ff:s1.heap.FunFrames (PySem.W.hideAll s1.heap (frs X.stack++[a,T])) (X.env::X.outer):=by
   have z:=XB I1 [a,T]
   rw[hstk]at z ⊢
   exact z
  have fl0:Heap.FlyingW (PySem.W.hideAll s1.heap (frs X.stack++[a,T])) (X.env::X.outer) a cls a0 s1.heap:=
   ⟨fun b o q=>PySem.W.of_hideAll _ q,PySem.W.hideAll_none _ (List.mem_append_right _ (by simp)),ff,oe,vs,T,oT,ts,t1,⟨t2,t4⟩,t3,t5,PySem.W.hideAll_none _ (List.mem_append_right _ (by simp)),t6,t7,t8,t9⟩
  refine wpAny_looks_onW hfrm hfr fl0 fun h4 held up4=>?_
  refine wpAny_landsW held fun h5 fl5 up5=>?_
  have up15:s1.heap.UpToSlots h5:=up4.trans up5
  have I5:Inv X pins σ' H' {s1 with heap:=h5}:=I1.looked (t':=s1.toks) hstk F1 ha hT f1 f2 hpn fl5.1 up15
  obtain⟨oe5,vs5,e5,c5,d5,_⟩:=fl5.first
  refine wpAny_handleBy_cons (codeAny_handlers_test ?_) (by intro q;cases q)
  refine Z2 (X:=X.marked (.ref a) fun _ _=>False) (I5.U7 (.ref a) _) hg hm ?_ (hd:=hdb)
  have LT:PySem.W.Looks (model X.prog X.w) h5 (typeOf (.ref a)) cls:=by
   subst c5
   exact(PySem.W.Looks.ld e5).andThen .now
  refine(PySem.W.exm_one (M:=model X.prog X.w) I5.kIn LT hx).here ?_
  show codeAny _ _ (.handlers (.ref a) [.ExceptHandler none (some nm) (b₀::suite) hpos] X.env) _ _
  refine codeAny_handlers_suite_as ?_
  refine lands_againW fl5 fun h6 fl6 up6=>?_
  have up16:s1.heap.UpToSlots h6:=up15.trans up6
  have I6:Inv X pins σ' H' {s1 with heap:=h6}:=I1.looked (t':=s1.toks) hstk F1 ha hT f1 f2 hpn fl6.1 up16
  obtain⟨oe6,vs6,e6,c6,d6,_⟩:=fl6.first
  have aL:a≠X.env.locals:=by
   rintro rfl
   obtain⟨m,⟨o',es,ep,e',d',_⟩,_⟩:=I1.loc
   rw[t1]at e'
   cases e'
   rw[t3]at d'
   cases d'
  have aC:∀x c,X.env.cells.lookup x=some c→c≠a:=fun x c e z=>by
   obtain⟨v,o',e',d'⟩:=I1.cell x c e
   rw[z,t1]at e'
   cases e'
   rw[t3]at d'
   cases d'
  refine K4 (X:=X.marked (.ref a) fun _ _=>False) (v:=V.ref a) (I6.U7 (.ref a) fun _ _=>False) hN hi (.inl hl) rfl (fun s7 I7 sb=>?_) (.inr hl)
  have e7:s7.heap.get? a=some oe6:=by
   obtain⟨b,hs,hb⟩:=sb
   rw[hs.2 a ?_]
   ·exact e6
   ·rcases hb with rfl|hb
    ·exact aL
    ·exact(aC _ _ hb).symm
  have I8:Inv (X.marked (.ref a) fun _ _=>False) pins ((List.replicate X.N.length none).set i (some (.ref a))) H' s7:=I7.weak (by rw[List.length_set,List.length_set,List.length_replicate];exact I1.len.symm) fun j v e=>by
   by_cases hj:j=i
   ·subst hj
    rw[List.getElem?_set]at e ⊢
    simp only[if_true,List.length_replicate]at e ⊢
    split at e
    ·rename_i hlt
     rw[if_pos (by rw[I1.len];exact hlt)]
     exact e
    ·cases e
   ·rw[List.getElem?_set_ne (Ne.symm hj),List.getElem?_replicate]at e
    split at e<;>cases e
  have I9:=I8.xv (o:=jQ a cls) ha f1 aL aC (fun p hp=>(hpn p hp).1) (wR e7 c6 d6)
  refine wpAny_mono (hs (.ref a) pins s7 _ _ _ I9 (hh a ha)) (fun f s8 q8=>?_) (fun _ _ z=>z.elim)
  have hnd:=I.ok.hd hc
  cases f with
  |next=>obtain⟨σ8,H8,J,q⟩:=q8;exact name_goes (J.KR hnd) hN hi hl fun s9 J9=>⟨_,_,J9,q⟩
  |brk=>obtain⟨σ8,H8,J,q⟩:=q8;exact name_goes (J.KR hnd) hN hi hl fun s9 J9=>⟨_,_,J9,q⟩
  |cont=>obtain⟨σ8,H8,J,q⟩:=q8;exact name_goes (J.KR hnd) hN hi hl fun s9 J9=>⟨_,_,J9,q⟩
  |ret u=>obtain⟨v,σ8,H8,J,q⟩:=q8;exact name_goes (J.KR hnd) hN hi hl fun s9 J9=>⟨v,_,_,J9,q⟩
end
end L2
set_option Elab.async false
set_option linter.all false
set_option maxRecDepth 100000
namespace L2
open PySem PySem.Spec PyProof.Rows
noncomputable def XZ(a:Addr)(q:Str):HO:=.ext fun h=>∃o vs t,h.get? a=some o∧o.data=.fields vs∧vs[1]? =some (.str q t)
theorem xw{P:Program}{w:World}{H:Hp}{h:Heap}{a:Addr}{q:Str}(e:h.CodeRec (.ref a) q):JC P w H h a (XZ a q):=by
 obtain⟨c,o,vs,t,e1,e2,e3,e4⟩:=e
 cases e1
 exact⟨⟨o,vs,t,e2,e3,e4⟩,⟨o,e2⟩,fun _ _⟨o,vs,t,e,r⟩ k=>⟨o,vs,t,k o e,r⟩⟩
theorem jR{P:Program}{w:World}{H:Hp}{h:Heap}{a:Addr}{q:Str}(e:JC P w H h a (XZ a q)):h.CodeRec (.ref a) q:=by
 obtain⟨⟨o,vs,t,e2,e3,e4⟩,_⟩:=e
 exact⟨a,o,vs,t,rfl,e2,e3,e4⟩
noncomputable def WS(H:Hp)(P:Addr)(q:Str):Prop:=
 ∃ps:Array Value,H P=some (.tbl ps)∧TriplesOk ps.toList∧∀pos cv,codeAmong pos ps.toList=some cv→∃a,cv=.ref a∧H a=some (XZ a q)
structure Lamb(mg:Str→Option Value)(base:Heap)(c P:Addr):Prop where
 hd:PySem.W.CodeHd base c P
 bm:∃bm ob,mg "__builtins__"=some (.ref bm)∧bm≠builtinsNs∧base.get? bm=some ob∧ob.cls=.type "module"∧ob.dict=some builtinsNs∧ob.data=.plain
theorem Yn{a b:Int}{ta tb:Tok}{c:Value}(l:List Value)(h:TriplesOk l):TriplesOk (l++[.int a ta,.int b tb,c]):=by
 fun_induction TriplesOk l with
 |case1=>simp[TriplesOk]
 |case2 a' t b' u x rest ih=>exact ih h
 |case3=>exact h.elim
theorem qK{p:Pos}{a b:Int}{ta tb:Tok}{c cv:Value}(l:List Value)(h:TriplesOk l)(e:codeAmong p (l++[.int a ta,.int b tb,c])=some cv):codeAmong p l=some cv∨cv=c:=by
 fun_induction TriplesOk l with
 |case1=>
  simp only[List.nil_append,codeAmong]at e
  split at e
  ·cases e;exact .inr rfl
  ·cases e
 |case2 a' t b' u x rest ih=>
  simp only[List.cons_append,codeAmong]at e ⊢
  split at e
  ·rename_i q;rw[if_pos q];exact .inl e
  ·rename_i q;rw[if_neg q];exact ih h e
 |case3=>exact h.elim
section
variable {X:Cx}{pins:List (Addr × Obj)}{σ:St}{H:Hp}{s:Shared}
theorem xx{c P:Addr}{q:Str}{params:Arguments}{body:Expr}{scope:Scope}{pos:Pos}{cl:List (Str × Addr)}{Q:Value→Shared→Prop}(I:Inv X pins σ H s)(L:Lamb X.mg X.base c P)(hcode:X.env.code=.ref c)(hq:q=X.env.qual++"<lambda>")
  (hdef:defaultsOf params X.env=([],[])) (hcl:closureFor scope X.env=pure cl) (T:WS H P q)
  (h:∀f c' pm ctv H' s',Inv X pins σ H' s'→s'.heap.get? f=some (PySem.W.kla_obj "<lambda>" q params body scope cl pm c' ctv)→H' f=none→s.heap.objs.size≤f→H' c'=some (XZ c' q)→WS H' P q→
   (∀b o,H b=some o→b≠P→H' b=some o)→(∀b o,s.heap.get? b=some o→b≠P→s'.heap.get? b=some o)→Q (.ref f) s'):
  wpAny (model X.prog X.w) X.A (eval (.Lambda params body scope pos) X.env) Q X.xe s:=by
 subst hq
 obtain⟨ps,hP,ht,hc⟩:=T
 obtain⟨bm,ob,b1,b2,b3,b4,b5,b6⟩:=L.bm
 have hPo:s.heap.get? P=some (PySem.W.tabObj ps):=I.hok P _ hP
 have hg:s.heap.Ns mainGlobals X.mg:=I.mod.glob.keeps I.bk
 have hgP:mainGlobals≠P:=fun z=>by
  obtain⟨o,es,ep,e,hd,_⟩:=hg
  rw[z,hPo]at e
  cases e
  cases hd
 have b3':=I.bk _ _ b3
 have hbG:bm≠mainGlobals:=fun z=>by
  obtain⟨o,es,ep,e,hd,_⟩:=hg
  rw[z,e]at b3'
  cases b3'
  rw[hd]at b6
  cases b6
 have hbP:bm≠P:=fun z=>by
  rw[z,hPo]at b3'
  cases b3'
  cases b4
 have hB:s.heap.BuiltinsAt X.mg P:=⟨bm,ob,b1,b2,hbG,hbP,b3',b4,b5,b6⟩
 refine PySem.W.kla_eval hdef ?_
 cases ha:codeAmong pos ps.toList with
 |some cv=>
  obtain⟨c',rfl,hc'⟩:=hc pos cv ha
  refine PySem.W.kla_makeFunctionHit hcl I.ok.glob hg hcode (L.hd.keeps I.bk) hPo ht ha hB fun ctv h' tk k hsz=>?_
  have kp:∀b o,s.heap.get? b=some o→(h'.push (PySem.W.kla_obj "<lambda>" (X.env.qual++"<lambda>") params body scope cl ((X.mg "__name__").getD .none) c' ctv)).get? b=some o:=fun b o e=>Heap.get?_push_of_some _ (k b o e)
  exact h h'.objs.size c' _ ctv H _ (I.kept kp) (Heap.get?_push_size _ rfl) (I.hok.fresh hsz) hsz hc' ⟨ps,hP,ht,hc⟩ (fun _ _ e _=>e) fun b o e _=>kp b o e
 |none=>
  refine PySem.W.kla_makeFunction hcl I.ok.glob hg hcode (L.hd.keeps I.bk) hPo ht ha hgP hB fun c' ctv h' tk ext hge hlt hrec htb=>?_
  have kp:∀b o,s.heap.get? b=some o→b≠P→(h'.push (PySem.W.kla_obj "<lambda>" (X.env.qual++"<lambda>") params body scope cl ((X.mg "__name__").getD .none) c' ctv)).get? b=some o:=fun b o e n=>Heap.get?_push_of_some _ (ext b o n e)
  have hc0:H c'=none:=I.hok.fresh hge
  have ncP:c'≠P:=fun z=>by rw[z,hP]at hc0;cases hc0
  have Hk:∀b o,H b=some o→b≠P→upd (upd H P (.tbl (ps++ #[rawInt pos.line,rawInt pos.col,.ref c']))) c' (XZ c' (X.env.qual++"<lambda>")) b=some o:=fun b o e n=>by
   rw[Qt (Qv e hc0),Qt n]
   exact e
  have HP:upd (upd H P (.tbl (ps++ #[rawInt pos.line,rawInt pos.col,.ref c']))) c' (XZ c' (X.env.qual++"<lambda>")) P=some (.tbl (ps++ #[rawInt pos.line,rawInt pos.col,.ref c'])):=by
   rw[Qt ncP.symm,Qe]
  have hsz:s.heap.objs.size≤h'.objs.size:=Nat.le_of_lt (Nat.lt_of_le_of_lt hge hlt)
  refine h h'.objs.size c' _ ctv (upd (upd H P (.tbl (ps++ #[rawInt pos.line,rawInt pos.col,.ref c']))) c' (XZ c' (X.env.qual++"<lambda>"))) _ (I.un (t':=tk) ⟨fun b o e n hb hx=>?_,fun b o e n hb hx=>?_,fun b o e n hx=>?_,fun b o e hx=>?_,fun b xs e=>?_,fun b o u e=>?_,fun b qs e=>?_⟩ fun b u e=>?_) (Heap.get?_push_size _ rfl) ?_ hsz (Qe) ⟨_,HP,?_,fun p cv e=>?_⟩ Hk fun b o e n=>kp b o e n
  ·exact kp b o e fun z=>by rw[z,hP]at n;cases n
  ·exact⟨o.slots,kp b o e fun z=>by rw[z,hP]at n;cases n⟩
  ·have n1:b≠P:=fun z=>by rw[z,hP]at n;cases n
   have n2:b≠c':=Nat.ne_of_lt (Nat.lt_of_lt_of_le (Heap.lt_size e) hge)
   rw[Qt n2,Qt n1]
   exact n
  ·by_cases z:b=P
   ·exact⟨_,by rw[z];exact Heap.get?_push_of_some _ htb⟩
   ·exact⟨o,kp b o e z⟩
  ·exact Hk b _ e fun z=>by rw[z,hP]at e;cases e
  ·exact Hk b _ e fun z=>by rw[z,hP]at e;cases e
  ·by_cases z:b=P
   ·subst z
    rw[hP]at e
    cases e
    exact⟨_,HP⟩
   ·exact⟨#[],by rw[Hk b _ e z];simp⟩
  ·by_cases z1:b=c'
   ·subst z1
    rw[Qe]at e
    cases e
    exact xw (hrec.keeps fun b o e=>Heap.get?_push_of_some _ e)
   ·by_cases z2:b=P
    ·subst z2
     rw[HP]at e
     cases e
     exact(Heap.get?_push_of_some _ htb:_)
    ·rw[Qt z1,Qt z2]at e
     refine(I.hok b u e).Kw (fun d v hd q'=>kp d v q' fun z=>?_) (fun d q'=>Hk d _ q' fun z=>by rw[z,hP]at q';cases q') fun d xs q'=>Hk d _ q' fun z=>by rw[z,hP]at q';cases q'
     rcases hd with rfl|hd
     ·exact z2 z
     ·rw[z,hP]at hd
      cases hd
  ·have n2:h'.objs.size≠c':=Nat.ne_of_gt hlt
   have n0:H h'.objs.size=none:=I.hok.fresh hsz
   have n1:h'.objs.size≠P:=fun z=>by rw[z,hP]at n0;cases n0
   show upd _ _ _ _=none
   rw[Qt n2,Qt n1]
   exact n0
  ·rw[Array.toList_append]
   exact Yn _ ht
  ·rw[Array.toList_append]at e
   rcases qK _ ht e with e|rfl
   ·obtain⟨a,rfl,ha'⟩:=hc p cv e
    exact⟨a,rfl,Hk a _ ha' fun z=>by rw[z,hP]at ha';cases ha'⟩
   ·exact⟨c',rfl,Qe⟩
end
noncomputable def qL(P:Program)(w:World)(K:PySem.W.Frag)(mg:Str→Option Value)(base:Heap)(N:List Str)(q:Str)(scope:Scope)(f c':Addr)(cl:List (Str × Addr))(A:Around)(outer:List Env)(s:Shared)(H:Hp)(E:XK):Cx where
 prog:=P
 w:=w
 K:=K
 mg:=mg
 base:=base
 A:=A.deeper (PySem.W.envX q scope s.heap.objs.size f (.ref c') cl)
 N:=N
 s₀:=s
 H₀:=H
 env:=PySem.W.envX q scope s.heap.objs.size f (.ref c') cl
 outer:=outer
 stack:=PySem.W.envX q scope s.heap.objs.size f (.ref c') cl::outer
 ex:=[]
 calm:=true
 fn:=fun _=>false
 pn:=[]
 xe:=fun e s'=>wpAny (model P w) (A.deeper (PySem.W.envX q scope s.heap.objs.size f (.ref c') cl)) (leaving (PySem.W.envX q scope s.heap.objs.size f (.ref c') cl) e) (fun _ s''=>CXE P w outer H s E e s'') (fun e' s''=>CXE P w outer H s E e' s'') s'
theorem xy{P:Program}{w:World}{K:PySem.W.Frag}{mg:Str→Option Value}{base:Heap}{N:List Str}{q:Str}{scope:Scope}{f c':Addr}{cl:List (Str × Addr)}{A:Around}{outer:List Env}{s:Shared}{H:Hp}{E:XK}:
  Fram (qL P w K mg base N q scope f c' cl A outer s H E) E:=⟨rfl,rfl,rfl,fun _ _ h=>h⟩
structure CellsOk(N:List Str)(σ:St)(scope:Scope)(cl:List (Str × Addr))(H:Hp)(fs:List Addr)(h:Heap):Prop where
 inj:∀x y c,cl.lookup x=some c→cl.lookup y=some c→x=y
 has:∀x,scope.names.lookup x=some .free→∃c,cl.lookup x=some c
 none_:∀y∈scope.names,y.2≠ .local∧y.2≠ .cell
 cell:∀x c,cl.lookup x=some c→H c=none∧c∉fs∧∃v,h.IsCell c v
 val:∀(i:Nat)(x:Str)(v:V),N[i]? =some x→σ[i]? =some (some v)→scope.names.lookup x=some .free→∃u c,RelV v u∧cl.lookup x=some c∧h.IsCell c (some u)
section
variable {X:Cx}{pins:List (Addr × Obj)}{σ1:St}{H:Hp}{s:Shared}
theorem xz{k:Nat}{N:List Str}{σ:St}{q:Str}{params:Arguments}{body:Expr}{scope:Scope}{f c':Addr}{cl:List (Str × Addr)}{pm ctv:Value}{te:TE}{Q:VK}{E:XK}(I:Inv X pins σ1 H s)(hh:X.A.handled=none)(hr:Room (k+1) X.A)
  (ho:s.heap.get? f=some (PySem.W.kla_obj "<lambda>" q params body scope cl pm c' ctv)) (hc':H c'=some (XZ c' q)) (hk:scope.kind=.function) (hco:scope.isCoroutine=false) (hgen:scope.isGenerator=false)
  (hbind:bindArgs (PySem.W.kla_fn "<lambda>" q params body scope cl pm (.ref c') ctv) ⟨[],[]⟩=pure []) (hlen:σ.length=N.length)
  (C:CellsOk N σ scope cl H (frs X.stack) s.heap) (hx:Passes (CXE X.prog X.w) X E)
  (hb:Room k (X.A.deeper (PySem.W.envX q scope s.heap.objs.size f (.ref c') cl))→PE (qL X.prog X.w X.K X.mg X.base N q scope f c' cl X.A X.stack s H E) body te) (h:te σ H Q):
  wpAny (model X.prog X.w) X.A (call (.ref f) []) (EP X pins σ1 Q) X.xe s:=by
 have hcell:∀x∈scope.names,x.2≠ .cell:=fun x hx=>(C.none_ x hx).2
 refine wpAny_call (codeAny_mono (R:=CR (CXE X.prog X.w) X.stack X.prog X.w H s Q E) ?_ fun r s' hq=>?_)
 ·refine PySem.W.kla_callFunE hr.depth ho rfl hco hgen rfl (jR (I.hok c' _ hc')) ?_
  rw[hbind]
  refine wpAny_pure (wpAny_newFunctionEnv hcell (fun y hy=>nomatch hy) (fun h₁ hns hsb=>⟨I.nolimit.fresh _ hsb,?_⟩) hk)
  show codeAny _ _ (.expr body (PySem.W.envX q scope s.heap.objs.size f (.ref c') cl)) _ _
  have hk₁:∀b o,s.heap.get? b=some o→h₁.get? b=some o:=fun b o e=>hsb.extBut b o (Nat.ne_of_lt (Heap.lt_size e)) (Heap.get?_push_of_some _ e)
  have vis:∀x,Vis scope x→scope.names.lookup x=some .free:=fun x hv=>by
   rcases hv with z|z|z
   ·exact absurd rfl (C.none_ _ (PySem.mem_of_lookup z)).1
   ·exact absurd rfl (C.none_ _ (PySem.mem_of_lookup z)).2
   ·exact z
  have J:Inv (qL X.prog X.w X.K X.mg X.base N q scope f c' cl X.A X.stack s H E) [] σ H {s with heap:=h₁,toks:=s.toks+([]:List (Str × Value)).length}:=by
   refine⟨⟨I.ok.mod,hk,rfl,rfl,Nat.le_refl _,C.inj,fun x hx'=>?_,(fun x c z _=>nomatch z),fun _=>hh,Around.frames_deeper I.ok.frames,.inr ⟨rfl,rfl⟩,fun b z=>absurd (show b∈([]:List Addr)from z) (by simp),I.bs,Nat.le_trans I.ok.bsz I.sz,fun b _ _ z=>absurd (show b∈([]:List Addr)from z) (by simp),fun b z=>absurd (show b∈([]:List Addr)from z) (by simp),I.stack,I.Xy⟩,
    rfl,I.bare,Un.kept hk₁,⟨_,hns,fun i x v h1 h2 h3=>?_⟩,fun x c e=>?_,I.hok.fresh (Nat.le_refl _),fun x c e=>(C.cell x c e).1,fun p hp=>absurd (show p∈([]:List (Addr × Obj))from hp) (by simp),I.hok.kept hk₁,hlen⟩
   ·have hx'':scope.names.lookup x=some .cell∨scope.names.lookup x=some .free:=hx'
    rcases hx'' with z|z
    ·exact absurd rfl (C.none_ _ (PySem.mem_of_lookup z)).2
    ·exact C.has x z
   ·obtain⟨u,c,r,e,⟨o,e1,e2⟩⟩:=C.val i x v h1 h2 (vis x h3)
    exact⟨u,r,.inr ⟨.inr (vis x h3),c,e,⟨o,hk₁ _ _ e1,e2⟩⟩⟩
   ·obtain⟨_,_,v,o,e1,e2⟩:=C.cell x c e
    exact⟨v,o,hk₁ _ _ e1,e2⟩
  refine PySem.W.kla_codeExpr (wpAny_mono (hb (hr.deeper _) [] _ σ H Q J h) (fun v s' hq=>?_) fun e s' hq=>hq)
  obtain⟨y,H',J',r,q'⟩:=hq
  exact⟨y,H',J'.os,J'.bare,J'.base,J'.hok,r,q'⟩
 ·cases r with
  |error e=>exact hx pins σ1 H s e s' I hq
  |ok fl=>
   cases fl with
   |ret u=>exact I.after hq
   |next=>exact False.elim hq
   |brk=>exact False.elim hq
   |cont=>exact False.elim hq
end
end L2
set_option Elab.async false
set_option linter.all false
set_option maxRecDepth 100000
namespace L2
open PySem PySem.Spec PyProof.Rows
theorem Qbb{CX:CXT}{P:Program}{w:World}{K:PySem.W.Frag}{mg:Str→Option Value}{base:Heap}{k:Nat}{f:Addr}{name qual:Str}{params:Arguments}{body:List Stmt}{scope:Scope}{dV kV doc pm cdv ct oc:Value}{an od:Option Addr}
  {osl:Array (Option Value)} {N ps:List Str} {A:Around} {outer:List Env} {s:Shared} {H:Hp} {args:Args} {us:List Value} {vs:List V} {Q:VK} {E:XK}
  (lk:K.lookup f=some ⟨oc,od,.func (PySem.W.fnOf name qual params body scope dV kV doc pm an cdv ct),osl⟩) (hcd:PySem.W.codeIn K cdv qual=true) (S:FnScope N ps scope)
  (hr:Room (k+1) A) (e0:Env0 P w K mg base A outer s H) (hb:BindsTo s (PySem.W.fnOf name qual params body scope dV kV doc pm an cdv ct) args (ps.zip us)) (r:Vals vs us) (hl:vs.length=ps.length)
  (hbody:Room k (A.deeper (envOfC qual scope s.heap.objs.size f cdv))→
   ∃t,PSs (WR CX P w K mg base N qual scope f cdv A outer s H E) body t∧t {nx:=fun _ H'=>Q .non H',rt:=Q} (start N vs) H):
  codeAny (model P w) A (.call (.ref f) args) (CR CX outer P w H s Q E) s:=by
 have KX:K.In s.heap:=e0.mod.kin.keeps fun b o e=>(e0.bs b o e).1
 have lim:s.heap.NoLimit:=e0.mod.nolimit.keeps fun b o e=>(e0.bs b o e).1
 have hkind:∀y∈ps.zip us,scope.names.lookup y.1=some .local∨(scope.names.lookup y.1=some .cell∧((cellsFrom (s.heap.objs.size+1) scope.names []).lookup y.1).isSome=true):=fun⟨n,v⟩ hy=>by
  rcases S.par n (List.of_mem_zip hy).1 with q|q
  ·exact .inl q
  ·exact .inr ⟨q,PySem.W.cellsFrom_some _ _ _ (.inl q)⟩
 refine codeAny_call_function hr.depth (KX _ _ lk) rfl S.co S.gen rfl (PySem.W.codeRec_of KX hcd) (hb _ _ _ _ ?_)
 refine wpAny_newFunctionEnv_cells S.kind hkind fun env he s1 x=>?_
 subst he
 refine⟨lim.keeps x.toInCall.keep,codeAny_func ?_⟩
 obtain⟨t,ht,hq⟩:=hbody (hr.deeper _)
 have I:Inv (WR CX P w K mg base N qual scope f cdv A outer s H E) [] (start N vs) H s1:=Yf S hr.hd e0 hl r x
 refine wpAny_mono (ht [] s1 (start N vs) H _ I hq) (fun fl s' hs=>?_) fun e s' hs=>hs
 have fin:∀{σ':St}{H':Hp}{v:V}{u:Value},Inv (WR CX P w K mg base N qual scope f cdv A outer s H E) [] σ' H' s'→RelV v u→Q v H'→CE outer P w H s Q u s':=
  fun{σ' H' v u} J rv q=>⟨v,H',J.os,J.bare,J.base,J.hok,rv,q⟩
 cases fl with
 |ret u=>
  obtain⟨v,σ',H',J,rv,q⟩:=hs
  exact fin J rv q
 |next=>
  obtain⟨σ',H',J,q⟩:=hs
  exact fin (v:=V.non) (u:=Value.none) J rfl q
 |brk=>
  obtain⟨_,_,_,q⟩:=hs
  exact False.elim q
 |cont=>
  obtain⟨_,_,_,q⟩:=hs
  exact False.elim q
structure LamAt(X:Cx)(N:List Str)(σ:St)(q:Str)(params:Arguments)(body:Expr)(scope:Scope)(f c':Addr)(cl:List (Str × Addr))(pm ctv:Value):Prop where
 ob:X.s₀.heap.get? f=some (PySem.W.kla_obj "<lambda>" q params body scope cl pm c' ctv)
 un:X.H₀ f=none
 fr:f∉X.fs
 code:X.H₀ c'=some (XZ c' q)
 kind:scope.kind=.function
 co:scope.isCoroutine=false
 gen:scope.isGenerator=false
 bind:bindArgs (PySem.W.kla_fn "<lambda>" q params body scope cl pm (.ref c') ctv) ⟨[],[]⟩=pure []
 len:σ.length=N.length
 cells:CellsOk N σ scope cl X.H₀ X.fs X.s₀.heap
noncomputable def Qbc(i:Nat)(f c':Addr)(q:Str)(σ:St)(te:TE):TE:=fun σ1 H Q=>σ1[i]? =some (some (.ref f))∧H c'=some (XZ c' q)∧te σ H Q
section
variable {X:Cx}
theorem wS{k i:Nat}{x:Str}{p pos:Pos}{N:List Str}{σ:St}{q:Str}{params:Arguments}{body:Expr}{scope:Scope}{f c':Addr}{cl:List (Str × Addr)}{pm ctv:Value}{te:TE}{E:XK}
  (L:LamAt X N σ q params body scope f c' cl pm ctv) (hex:X.ex=[]) (hcalm:X.calm=true) (hN:X.N[i]? =some x) (hv:Vis X.env.scope x) (hr:Room (k+1) X.A) (hx:Passes (CXE X.prog X.w) X E)
  (hloc:∀x c,cl.lookup x=some c→c<X.s₀.heap.objs.size)
  (hb:∀s H,Room k (X.A.deeper (PySem.W.envX q scope s.heap.objs.size f (.ref c') cl))→PE (qL X.prog X.w X.K X.mg X.base N q scope f c' cl X.A X.stack s H E) body te)
  (hd:(x==("__debug__":Str))=false:=by decide) (hcd:(x==("__classdict__":Str))=false:=by decide):PE X (.Call (.Name x p) [] [] pos) (Qbc i f c' q σ te):=by
 intro pins s σ1 H Q I h
 obtain⟨h1,h2,h3⟩:=h
 have nex:∀b:Addr,b∉X.ex:=fun b z=>by rw[hex]at z;cases z
 have ho:=I.base.keep f _ L.ob L.un L.fr (nex f)
 refine wpAny_Call_Name_kw (thn (kW (X:=X) hN hv hd hcd pins s σ1 H (fun v H'=>v=.ref f∧H'=H) I ⟨_,h1,rfl,rfl⟩) fun u s1⟨v,H',I1,rv,e,e2⟩=>?_)
 subst e e2
 obtain rfl:u=Value.ref f:=rv
 have ho1:=I1.base.keep f _ L.ob L.un L.fr (nex f)
 have neL:∀b,b<X.s₀.heap.objs.size→b≠X.env.locals:=fun b hb=>Nat.ne_of_lt (Nat.lt_of_lt_of_le hb I1.ok.above)
 refine PySem.W.callWith_of (P:=fun h=>h=s1.heap) rfl (fun h e=>⟨.frame,.inl rfl,by subst e;exact(PySem.W.Looks.ld (part:=none) ho1).andThen .now⟩) (PyProof.Rows.evalArgs_nil3 ⟨rfl,?_⟩)
 refine xz I1 (I1.ok.hd hcalm) hr ho1 h2 L.kind L.co L.gen L.bind L.len ?_ hx (hb s1 H') h3
 refine⟨L.cells.inj,L.cells.has,L.cells.none_,fun x c e=>?_,fun j y v e1 e2 e3=>?_⟩
 ·obtain⟨a1,a2,v,o,a3,a4⟩:=L.cells.cell x c e
  refine⟨I1.base.free c o a3 a1 (nex c),fun z=>?_,v,o,I1.base.keep c o a3 a1 a2 (nex c),a4⟩
  rcases List.mem_cons.mp (I1.XQ c z)with z|z
  ·exact neL c (hloc x c e) z
  ·exact a2 z
 ·obtain⟨u,c,r,e,o,a3,a4⟩:=L.cells.val j y v e1 e2 e3
  obtain⟨a1,a2,_⟩:=L.cells.cell y c e
  exact⟨u,c,r,e,o,I1.base.keep c o a3 a1 a2 (nex c),a4⟩
end
end L2
set_option Elab.async false
set_option linter.all false
set_option maxRecDepth 100000
namespace L2
open PySem PySem.Spec PyProof.Rows
section
variable {X:Cx}
theorem U8{i:Int}(h:i.natAbs<2^2000):Builtin.Int.intBits i≤2^20:=Nat.le_trans (intBits_le h) (by decide)
noncomputable def Qcg(i j:Int):Prop:=i.natAbs<2^2000∧j.natAbs<2^2000
theorem Z8:OpR X (binaryOp .Mult) (rI Qcg fun i j=>.int (i*j)):=opI fun _ _ _ _ _ _ _ hc q=>mul_int q (IntMulOk.of_bits (U8 hc.1) (U8 hc.2))
noncomputable def Qbd(i j:Int):Prop:=0<j∧j.natAbs<2^2000
theorem KS:OpR X (binaryOp .FloorDiv) (rI Qbd fun i j=>.int (i/j)):=opI fun i j _ _ _ _ _ hc q=>by
 have hp:Builtin.divisionGoesByPylong i j=false:=PyProof.noPylong_of_log2 (by
  by_cases h0:j.natAbs=0
  ·rw[h0];decide
  ·have:=(Nat.log2_lt h0).mpr hc.2
   omega)
 refine floordiv_int (Int.ne_of_gt hc.1) ?_ (.inl hp)
 rw[Int.fdiv_eq_ediv_of_nonneg _ (Int.le_of_lt hc.1)]
 exact q
noncomputable def KU(x:Str)(n:Nat):Str:=⟨(List.replicate n x.cps).foldl (· ++ ·) #[]⟩
theorem qM:OpR X (binaryOp .Mult) (fun x y H Q=>∃z n,x=.str z∧y=.int n∧0≤n∧z.length*n.toNat≤sizeLine∧n<2^40∧Q (.str (KU z n.toNat)) H):=by
 intro pins s σ H x y v u Q I rx ry h
 obtain⟨z,n,rfl,rfl,h0,hl,hn,q⟩:=h
 obtain⟨t,rfl⟩:=rx
 obtain⟨t',rfl⟩:=ry
 have hlen:∀k:Nat,(KU z k).cps.toList=(List.replicate k z.cps.toList).flatten:=fun k=>by
  unfold KU
  have:∀(l:List (Array Nat))(acc:Array Nat),(l.foldl (· ++ ·) acc).toList=acc.toList++(l.map (·.toList)).flatten:=by
   intro l
   induction l with
   |nil=>intro acc;simp
   |cons a r ih=>intro acc;rw[List.foldl_cons,ih];simp
  rw[this]
  simp
 refine PySem.P.mul_str ?_ ?_ ?_ ?_
 ·rw[decide_eq_false (by omega),decide_eq_false (by omega)];rfl
 ·intro h1 h2 h3
  have:(z.length:Int)*n≤2^63-1:=by
   have e:((z.length*n.toNat:Nat):Int)=(z.length:Int)*n:=by push_cast;rw[Int.toNat_of_nonneg h0]
   have:=XV
   omega
  have:=(Int.le_ediv_iff_mul_le (by omega:0<n)).mpr this
  omega
 ·intro h1 h2
  have:=hl
  exact decide_eq_false (Nat.not_lt.mpr hl)
 ·by_cases h1:n<1
  ·rw[if_pos h1]
   have e:KU z n.toNat=Str.empty:=by rw[show n=0 by omega];rfl
   exact⟨by decide,.str (KU z n.toNat),H,I.tok _,⟨_,by rw[e]⟩,q⟩
  ·rw[if_neg h1]
   by_cases h2:(n==1||z.length==0)=true
   ·rw[if_pos h2]
    have e:KU z n.toNat=z:=by
     have:(KU z n.toNat).cps.toList=z.cps.toList:=by
      rw[hlen]
      simp only[Bool.or_eq_true,beq_iff_eq]at h2
      rcases h2 with h2|h2
      ·rw[h2];simp
      ·have:z.cps.toList=[]:=by
        have h3:z.cps.size=0:=h2
        rw[Array.eq_empty_of_size_eq_zero h3]
       rw[this];simp
     have:(KU z n.toNat).cps=z.cps:=by rw[←Array.toList_inj];exact this
     cases z
     cases hh:KU _ n.toNat
     rw[hh]at this
     simp only at this
     rw[this]
    exact⟨.str (KU z n.toNat),H,I,⟨t,by rw[e]⟩,q⟩
   ·rw[if_neg h2]
    refine⟨?_,.str (KU z n.toNat),H,I.tok _,⟨_,rfl⟩,q⟩
    show(KU z n.toNat).cps.size≤sizeLine
    rw[←Array.length_toList,hlen,List.length_flatten,List.map_replicate,List.sum_replicate_nat]
    have e:z.cps.toList.length=z.length:=by rw[Array.length_toList];rfl
    rw[e,Nat.mul_comm]
    exact hl
theorem Jj:Kf X (.type "int") (fun xs H Q=>∃x n,xs=[.str x]∧PySem.intText? x=some n∧x.length≤640∧Q (.int n) H):=by
 intro pins s σ H xs us Q I r h
 obtain⟨x,n,rfl,hn,hl,q⟩:=h
 obtain⟨u,rfl,t,rfl⟩:=vals1 r
 exact PySem.W.KIN.call_text hn hl ⟨.int n,H,I.tok _,⟨_,rfl⟩,q⟩
inductive EqD (K:PySem.W.Frag) (H:Hp):Nat→V→V→Bool→Prop where
 |flat {n:Nat} {x y:V} (fx:Z5 x=true) (fy:Z5 y=true):EqD K H n x y (eqV x y)
 |tup {n:Nat} {a b:Addr} {xs ys:List V} {e:Nat→Bool} (ne:a≠b) (ha:SqT K H a xs) (hb:SqT K H b ys) (he:∀j x y,xs[j]? =some x→ys[j]? =some y→EqD K H n x y (e j)):
   EqD K H (n+1) (.ref a) (.ref b) ((List.range (min xs.length ys.length)).all e&&xs.length==ys.length)
theorem Yo{pins:List (Addr × Obj)}{σ:St}{H:Hp}{s:Shared}{A:Around}{xs ys:List V}{its its2:List Value}{e:Nat→Bool}{n:Nat}(r1:Vals xs its)(r2:Vals ys its2)
  (he:∀j x y u v,xs[j]? =some x→ys[j]? =some y→RelV x u→RelV y v→SeqAt.EqAt A s u v (e j)):∀j(h1:j<its.toArray.size)(h2:j<its2.toArray.size),SeqAt.EqAt A s its.toArray[j] its2.toArray[j] (e j):=by
 intro j h1 h2
 have l1:=r1.length
 have l2:=r2.length
 rw[List.size_toArray]at h1 h2
 have k1:xs[j]? =some xs[j]:=List.getElem?_eq_getElem (by omega)
 have k2:ys[j]? =some ys[j]:=List.getElem?_eq_getElem (by omega)
 obtain⟨u,e1,q1⟩:=r1.get k1
 obtain⟨v,e2,q2⟩:=r2.get k2
 have z1:its.toArray[j]=u:=by
  rw[List.getElem?_eq_getElem h1]at e1
  simpa using Option.some.inj e1
 have z2:its2.toArray[j]=v:=by
  rw[List.getElem?_eq_getElem h2]at e2
  simpa using Option.some.inj e2
 rw[z1,z2]
 exact he j _ _ u v k1 k2 q1 q2
theorem EqD.at{pins:List (Addr × Obj)}{σ:St}{H:Hp}{s:Shared}(I:Inv X pins σ H s){n:Nat}{x y:V}{k:Bool}(d:EqD X.K H n x y k):∀{A:Around}{u v:Value},A.units+n<cLine→RelV x u→RelV y v→SeqAt.EqAt A s u v k:=by
 induction d with
 |flat fx fy=>intro A u v _ rx ry;exact k9 rx ry fx fy
 |@tup n a b xs ys e ne ha hb he ih=>
  intro A u v hu rx ry
  obtain rfl:u=Value.ref a:=rx
  obtain rfl:v=Value.ref b:=ry
  obtain⟨its,r1,p1,_⟩:=I.tuple ha
  obtain⟨its2,r2,p2,_⟩:=I.tuple hb
  have l1:=r1.length
  have l2:=r2.length
  have z:=SeqAt.RcAt.tuples (A:=A) (s:=s) (e:=e) p1 p2 (by omega) (Yo (pins:=pins) (σ:=σ) (H:=H) (n:=n) r1 r2 fun j x y u v h1 h2 q1 q2=>ih j x y h1 h2 (A:=A.in1) (by show A.units+1+n<cLine;omega) q1 q2)
  rw[List.size_toArray,List.size_toArray, ←l1, ←l2]at z
  exact .of_refs ne z
noncomputable def QbS(K:PySem.W.Frag)(n:Nat)(neg:Bool):R2:=fun x y H Q=>∃a b xs ys e k,x=.ref a∧y=.ref b∧SqT K H a xs∧SqT K H b ys∧(∀j x y,xs[j]? =some x→ys[j]? =some y→EqD K H n x y (e j))∧
 ((List.range (min xs.length ys.length)).all e&&xs.length==ys.length)=k∧Q (.bl (if neg then !k else k)) H
theorem yM{n:Nat}(hu:X.A.units+1+n<cLine):OpR X (compareOp .NotEq) (QbS X.K n true):=by
 intro pins s σ H x y v u Q I rx ry h
 obtain⟨a,b,xs,ys,e,k,rfl,rfl,ha,hb,he,hk,q⟩:=h
 obtain rfl:v=Value.ref a:=rx
 obtain rfl:u=Value.ref b:=ry
 obtain⟨its,r1,p1,_⟩:=I.tuple ha
 obtain⟨its2,r2,p2,_⟩:=I.tuple hb
 have l1:=r1.length
 have l2:=r2.length
 refine SeqAt.RcNeAt.tuples (e:=e) p1 p2 (by omega) (Yo (pins:=pins) (σ:=σ) (H:=H) (n:=n) r1 r2 fun j x y u v h1 h2 q1 q2=>(he j x y h1 h2).at I (A:=X.A.in1) (by show X.A.units+1+n<cLine;omega) q1 q2) X.prog X.w X.xe _ ?_
 rw[List.size_toArray,List.size_toArray, ←l1, ←l2,hk]
 exact⟨.bl (!k),H,I,rfl,q⟩
noncomputable def yN:V→List V→Hp→VK→Prop:=fun x vs H Q=>∃l xs y,x=.ref l∧vs=[y]∧H l=some (.lst xs)∧Z5 y=true∧xs.all Z5=true∧Q (.int (xs.countP fun z=>eqV z y)) H
theorem Va{y:V}:∀{xs:List V}{us:List Value},Vals xs us→xs.all Z5=true→us.countP (eqU y)=xs.countP fun z=>eqV z y
 |_,_,.nil,_=>rfl
 |x::xs,u::us,.cons r t,h=>by
  rw[List.all_cons,Bool.and_eq_true]at h
  rw[List.countP_cons,List.countP_cons,Va t h.2,U1 r h.1]
theorem xA:MtR X "list.count" yN:=by
 intro pins s σ H x vs v us Q I rx rv h
 obtain⟨l,xs,y,rfl,rfl,hH,fy,fs,q⟩:=h
 obtain rfl:v=Value.ref l:=rx
 obtain⟨u,rfl,ru⟩:=vals1 rv
 obtain⟨z,its,n,r,hl,e⟩:=I.xp hH
 refine call_meets PySem.F.slot_list_count ⟨_,e,rfl⟩ PySem.F.entry_list_count (PySem.F.args_list_count_2 _ _) (SeqAt.list_countAt l its.toArray n none #[] u (eqU y)) ⟨e,fun w hw=>ZN ru fy r fs w (by simpa using hw),?_⟩
 rw[show its.toArray.toList=its from rfl,Va r fs]
 exact⟨.int _,H,I.tok _,⟨_,rfl⟩,q⟩
noncomputable def yO:V→List V→Hp→VK→Prop:=fun x vs H Q=>∃l xs y j,x=.ref l∧vs=[y]∧H l=some (.lst xs)∧Z5 y=true∧xs.all Z5=true∧(∃z,xs[j]? =some z∧eqV z y=true)∧(∀i z,i<j→xs[i]? =some z→eqV z y=false)∧Q (.int (j:Nat)) H
theorem xB:MtR X "list.index" yO:=by
 intro pins s σ H x vs v us Q I rx rv h
 obtain⟨l,xs,y,j,rfl,rfl,hH,fy,fs,⟨zj,hz,hit⟩,hno,q⟩:=h
 obtain rfl:v=Value.ref l:=rx
 obtain⟨u,rfl,ru⟩:=vals1 rv
 obtain⟨z,its,n,r,hl,e⟩:=I.xp hH
 have hj:j<xs.length:=(List.getElem?_eq_some_iff.mp hz).1
 have at_:∀(i:Nat)(hi:i<its.toArray.size)(w:V),xs[i]? =some w→eqU y its.toArray[i]=eqV w y:=fun i hi w hw=>by
  obtain⟨w',e1,q1⟩:=r.get hw
  have hi':i<its.length:=by simpa using hi
  rw[List.getElem?_eq_getElem hi']at e1
  have z1:its.toArray[i]=w':=by simpa using Option.some.inj e1
  rw[z1]
  refine U1 q1 ?_
  exact List.all_eq_true.mp fs w (List.mem_of_getElem? hw)
 have hsz:its.toArray.size=xs.length:=by rw[List.size_toArray];exact hl.symm
 refine call_meets PySem.F.slot_list_index ⟨_,e,rfl⟩ PySem.F.entry_list_index (PySem.F.args_list_index_2 _ _)
  (SeqAt.list_indexAt l its.toArray n none #[] u (eqU y) j (by omega) (by have:=XV;omega) ?_ ?_) ⟨e,fun w hw=>ZN ru fy r fs w (by simpa using hw),⟨.int _,H,I.tok _,⟨_,rfl⟩,q⟩⟩
 ·rw[at_ j (by omega) zj hz];exact hit
 ·intro m hm hlt
  have:xs[m]? =some xs[m]:=List.getElem?_eq_getElem (by omega)
  rw[at_ m hm _ this]
  exact hno m _ hlt this
end
end L2
set_option Elab.async false
set_option linter.all false
set_option maxRecDepth 100000
namespace L2
open PySem PySem.Spec PyProof.Rows
structure ErrK(K:PySem.W.Frag)(C:Addr):Prop where
 ex:PySem.W.excIn K C [.type "ValueError",.type "Exception",.type "BaseException",.type "object"] "ValueError.__new__"=true
 ga:PySem.W.findIn K (.ref C) "__getattribute__"=some (some (.builtin "BaseException.__getattribute__"))
 gn:PySem.W.findIn K (.ref C) "__getattr__"=some none
 cl:PySem.W.findIn K (.ref C) "__class__"=some (some (.builtin "object.__class__"))
theorem ErrK.err{K:PySem.W.Frag}{C:Addr}(e:ErrK K C):Err K C:=⟨e.ex⟩
theorem Vu{K:PySem.W.Frag}{C:Addr}{h:Heap}(KX:K.In h)(e:Err K C):∃bm N nm q bs hdct sn sub ab col dd k0 k1 k2 k3 k5,h.get? C=some (excClassObj nm q C N bs bm hdct sn sub ab col dd k0 k1 k2 k3 k5 "ValueError.__new__")∧
  OwnTail h [.type "ValueError",.type "Exception",.type "BaseException",.type "object"] bm:=by
 have q:=e.ex
 unfold PySem.W.excIn at q
 split at q
 ·rename_i dd cd sl ho
  split at q
  ·rename_i C' bm k0 k1 k2 k3 n k5 hm hs
   simp only[Bool.and_eq_true,beq_iff_eq,Bool.not_eq_true']at q
   obtain⟨⟨⟨⟨⟨rfl,rfl⟩,hdel⟩,ht⟩,hok⟩,hni⟩:=q
   obtain⟨nm,bs,mro,ns,qn,hd,sn,sub,ab,col,del⟩:=cd
   dsimp only at hm hdel hok hni
   subst hm hdel
   have hsl:sl= #[k0,k1,k2,k3,some (.builtin "ValueError.__new__"),k5]:=by
    obtain⟨l⟩:=sl
    simp only at hs
    rw[hs]
   subst hsl
   exact⟨bm,ns,nm,qn,bs,hd,sn,sub,ab,col,dd,k0,k1,k2,k3,k5,KX _ _ ho,PySem.W.tail_of_in KX ht⟩
  ·cases q
 ·cases q
section
variable {prog:Program}{w:World}{A:Around}{E:Value→Shared→Prop}{h:Heap}{g:Array GenState}{d:Drawn}{t:Nat}{os:OsState}{K:PySem.W.Frag}{a C:Addr}{o:Obj}
theorem Vv{R:Result→Shared→Prop}(KX:K.In h)(e:ErrK K C)(hx:h.get? a=some o)(hc:o.cls=.ref C)(hq:R (.ok (.ret (.ref C))) ⟨h,g,d,t,os⟩):
  codeAny (model prog w) A (.call (.builtin "getset_descriptor.__get__") ⟨[.builtin "object.__class__",.ref a,.ref C],[]⟩) R ⟨h,g,d,t,os⟩:=by
 obtain⟨bm,N,nm,q,bs,hdct,sn,sub,ab,col,dd,k0,k1,k2,k3,k5,hC,T⟩:=Vu KX e.err
 have hT5:(⟨h,g,d,t,os⟩:Shared).TypeIs (.builtin "object.__class__") "getset_descriptor":=F.typeOf_object_class
 have hcB:(Value.ref C::bm).contains (.type (".".intercalate ("object.__class__".cutAt '.').dropLast))=true:=by
  rw[F.owner_object_class,List.contains_cons,T.hasType (X:="object") (b:=true) (by decide)];rfl
 refine codeAny_call_builtin F.slot_gs_get.plain F.entry_gs_get (F.slot_gs_get.check _ _ _ _ _ _ _ _ hT5 (F.args_gs_get _ _ _) ?_)
 repeat (any_goals (first|assumption|(with_reducible refine wpAny_loadPart_at hx ?_;rw[hc])|(with_reducible refine wpAny_isSubtype_exc hC ?_;rw[hcB])|wp_step))
 refine⟨Code.quiet_builtin _ (by decide+kernel),codeAny_builtin F.entry_object_class ?_⟩
 repeat (any_goals (first|assumption|(with_reducible refine wpAny_loadPart_at hx ?_;rw[hc])|wp_step))
theorem Wi{tk:Tok}{Q:Fin→Shared→Prop}(KX:K.In h)(e:ErrK K C)(hx:h.get? a=some o)(hc:o.cls=.ref C)(hq:Q (.done (.ret (.ref C))) ⟨h,g,d,t,os⟩):
  wpAny (model prog w) A (Builtin.«object.__getattribute__» ⟨[.ref a,.str "__class__" tk],[]⟩) Q E ⟨h,g,d,t,os⟩:=by
 have L:=PySem.W.looks_findIn (M:=model prog w) KX e.cl
 have hT5:(⟨h,g,d,t,os⟩:Shared).TypeIs (.builtin "object.__class__") "getset_descriptor":=F.typeOf_object_class
 have f5:=F.typeOf_object_class
 have f6:=F.slot_gs_get.lookup
 have f7:=F.slot_gs_set.lookup
 repeat (any_goals (first|assumption|(with_reducible refine wpAny_loadPart_at hx ?_;rw[hc])|with_reducible refine PySem.W.Looks.at L ?_|wp_step))
 refine Vv KX e hx hc ?_
 repeat (any_goals (first|assumption|wp_step))
theorem Wj{M:Model}{nameV:Value}{Q:Unit→Shared→Prop}(KX:K.In h)(e:ErrK K C)(hx:h.get? a=some o)(hc:o.cls=.ref C)(hq:Q () ⟨h,g,d,t,os⟩):
  wpAny M A (checkBuiltinCall "BaseException.__getattribute__" ⟨[.ref a,nameV],[]⟩) Q E ⟨h,g,d,t,os⟩:=by
 obtain⟨bm,N,nm,q,bs,hdct,sn,sub,ab,col,dd,k0,k1,k2,k3,k5,hC,T⟩:=Vu KX e.err
 have hk:builtinKind "BaseException.__getattribute__"=some .slot:=by decide+kernel
 have hsplit:splitId "BaseException.__getattribute__"=some ("BaseException","__getattribute__"):=by decide+kernel
 have hcB:(Value.ref C::bm).contains (.type "BaseException")=true:=by rw[List.contains_cons,T.hasType (X:="BaseException") (b:=true) (by decide)];rfl
 have ha:=F.args_bexc_ga (.ref a) nameV
 simp only[checkBuiltinCall,hk,hsplit]
 refine wpAny_bind ?_
 ·unfold isInstance
  repeat (first|(with_reducible refine wpAny_loadPart_at hx ?_;rw[hc])|(with_reducible refine wpAny_isSubtype_exc hC ?_;rw[hcB])|wp_step)
  exact hq
theorem WT{tk:Tok}{R:Result→Shared→Prop}(KX:K.In h)(e:ErrK K C)(hx:h.get? a=some o)(hc:o.cls=.ref C)(hq:R (.ok (.ret (.ref C))) ⟨h,g,d,t,os⟩):
  codeAny (model prog w) A (.call (.builtin "BaseException.__getattribute__") ⟨[.ref a,.str "__class__" tk],[]⟩) R ⟨h,g,d,t,os⟩:=
 codeAny_call_builtin F.excAttr_ValueError.ga.plain F.entry_bexc_ga (Wj KX e hx hc (Wi KX e hx hc hq))
theorem Yp{tk:Tok}{Q:Value→Shared→Prop}(KX:K.In h)(e:ErrK K C)(hx:h.get? a=some o)(hc:o.cls=.ref C)(hq:Q (.ref C) ⟨h,g,d,t,os⟩):
  wpAny (model prog w) A (getAttrBy (.ref a) (.str "__class__" tk) false) Q E ⟨h,g,d,t,os⟩:=by
 have L1:=PySem.W.looks_findIn (M:=model prog w) KX e.ga
 have L2:=PySem.W.looks_findIn (M:=model prog w) KX e.gn
 have f3:=F.excAttr_ValueError.ga.bind (.ref a)
 have hx2:(Value.builtin "BaseException.__getattribute__"==Value.builtin "object.__getattribute__")=false:=by decide+kernel
 have hx1:(onTheHeap (Value.ref C)&&Value.builtin "BaseException.__getattribute__"==Value.builtin "object.__getattribute__")=false:=by rw[hx2];rfl
 repeat (any_goals (first|assumption|(with_reducible refine wpAny_loadPart_at hx ?_;rw[hc])|with_reducible refine PySem.W.Looks.at L1 ?_|with_reducible refine PySem.W.Looks.at L2 ?_|wp_step))
 refine WT KX e hx hc ?_
 repeat (any_goals (first|assumption|wp_step))
theorem WU{Q:Option Value→Shared→Prop}(KX:K.In h)(e:ErrK K C)(hx:h.get? a=some o)(hc:o.cls=.ref C)(hq:Q (some (.ref C)) ⟨h,g,d,t+1,os⟩):
  wpAny (model prog w) A (getAttr? (.ref a) "__class__") Q E ⟨h,g,d,t,os⟩:=by
 unfold getAttr? getAttrBy?
 repeat (any_goals (first|assumption|with_reducible apply Yp KX e hx hc|wp_step))
end
theorem xC{K:PySem.W.Frag}{a C:Addr}(e:ErrK K C):PySem.W.KitX K (.ref a) (.ref C) (fun h=>∃o,h.get? a=some o∧o.cls=.ref C) where
 ty:=fun M h X⟨o,e1,e2⟩=>by
  rw[←e2]
  exact(PySem.W.Looks.ld e1).andThen .now
 it:=fun M h X _=>by
  obtain⟨bm,N,nm,q,bs,hdct,sn,sub,ab,col,dd,k0,k1,k2,k3,k5,hC,T⟩:=Vu X e.err
  intro A' Q' E' s' k q
  unfold isType loadHead
  exact wpAny_bind (wpAny_loadPart (k _ _ hC) (wpAny_pure q))
 ne:=fun h tp dd its n sl X htp=>by
  obtain⟨bm,N,nm,q,bs,hdct,sn,sub,ab,col,dd,k0,k1,k2,k3,k5,hC,T⟩:=Vu X e.err
  refine Bool.eq_false_iff.mpr fun q=>?_
  have e:C=tp:=Value.ref.inj (beq_iff_eq.mp q)
  subst e
  rw[hC]at htp
  exact absurd (Value.type.inj (congrArg Obj.cls (Option.some.inj htp))) (by decide)
 ca:=fun{prog w A E Q s} X⟨o,e1,e2⟩ k=>by
  obtain⟨h,g,d,t,os⟩:=s
  exact WU X e e1 e2 k
section
variable {X:Cx}
noncomputable def wT:V→Bool
 | .ref _=>true
 | .ty _=>true
 |_=>false
noncomputable def wU:V→Value
 | .ref C=>.ref C
 | .ty n=>.type n
 |_=>.none
theorem wV{c:V}{u:Value}(h:wT c=true)(r:RelV c u):u=wU c:=by
 cases c<;>first|exact r|cases h
noncomputable def Qch(K:PySem.W.Frag):List V→Hp→VK→Prop:=fun xs H Q=>∃x c b,xs=[x,c]∧wT c=true∧((∃t,TyOf K H x t∧PySem.W.kitOne K t (wU c)=some b)∨∃a C,x=.ref a∧H a=some (jQ a (.ref C))∧ErrK K C∧PySem.W.kitOne K (.ref C) (wU c)=some b)∧Q (.bl b) H
theorem Jd:Kf X (.builtin "isinstance") (Qch X.K):=by
 intro pins s σ H xs us Q I r h
 obtain⟨x,c,b,rfl,hc,hx,q⟩:=h
 obtain⟨u,u2,rfl,ru,ru2⟩:=vals2 r
 obtain rfl:=wV hc ru2
 rcases hx with⟨t,ty,k⟩|⟨a,C,rfl,hH,e,k⟩
 ·exact jz I ru ty k fun tk=>⟨.bl b,H,I.tok tk,rfl,q⟩
 ·obtain rfl:u=Value.ref a:=ru
  obtain⟨⟨o,vs,e1,e2,_⟩,_⟩:=(show JC X.prog X.w H s.heap a (jQ a (.ref C))from I.hok a _ hH)
  exact PySem.W.kia_one (xC e) I.kIn ⟨o,e1,e2⟩ k (fun z=>nomatch z) fun tk=>⟨.bl b,H,I.tok tk,rfl,q⟩
end
end L2
set_option Elab.async false
set_option linter.all false
set_option maxRecDepth 100000
namespace L2
open PySem PySem.Spec PyProof.Rows
noncomputable def xD(P:Addr)(H:Hp):Prop:=H P=some (.tbl #[])∧∀b,b≠P→H b=none∨∃o xs,H b=some (.frz o (.lst xs))
noncomputable def Ui(K:PySem.W.Frag):Bool:=K.all fun p=>match p.2.cls with
 | .type n=> !(n=="list")
 |_=>true
theorem qN{K:PySem.W.Frag}{a:Addr}{o:Obj}(h:Ui K=true)(e:K.lookup a=some o):o.cls≠ .type "list":=fun z=>by
 have q:=List.all_eq_true.mp h (a,o) (PySem.W.mem_of_lookupK e)
 dsimp only at q
 rw[z]at q
 exact absurd q (by decide)
theorem jS{Pr:Program}{w:World}{K:PySem.W.Frag}{mg mb:Str→Option Value}{CX:CXT}{k:Nat}{fa a c P:Addr}{fd:FuncData}{x:Str}{sp:Sp}{s₁:Shared}{vs:List Value}{ns:List Int}
  (KX:K.In s₁.heap) (nL:Ui K=true) (nT:PySem.W.noTabs K=true) (hns:s₁.heap.Ns mainGlobals mg) (hb:s₁.heap.Ns builtinsNs mb) (hbb:∀x:Str,x≠"__name__"→mb x=bootBuiltins x) (hlim:s₁.heap.NoLimit) (hg:s₁.gens= #[])
  (hC:PySem.W.CodeHd s₁.heap c P) (hP:s₁.heap.get? P=some (PySem.W.tabObj #[])) (hbm:∃bm ob,mg "__builtins__"=some (.ref bm)∧bm≠builtinsNs∧s₁.heap.get? bm=some ob∧ob.cls=.type "module"∧ob.dict=some builtinsNs∧ob.data=.plain)
  (ha:s₁.heap.get? a=some {cls:=.type "list",data:=.seq vs.toArray}) (hi:IntsAre vs ns) (hl:ns.length≤sizeLine) (hr:Room k callerA)
  (F:∀base:Heap,K.In base→base.Ns mainGlobals mg→Lamb mg base c P→FnOk Pr w K mg base CX k fa fd [x] sp) (hbind:∀(s:Shared)(u:Value),BindsTo s fd ⟨[u],[]⟩ [(x,u)])
  (hsp:∀H:Hp,xD P H→(∃o,H a=some (.frz o (.lst (ns.map V.int))))→sp [.ref a] H (fun v _=>v=.bl true) fun _ _ _=>False)
  (hCX:∀H e s',CX [] H s₁ (fun _ _ _=>False) e s'→False):
  codeAny (model Pr w) callerA (.call (.ref fa) ⟨[.ref a],[]⟩) (fun r s'=>r=.ok (.ret (.bool true))∧OldK s₁.heap s'.heap∧s'.os=s₁.os∧AllBare s'.gens) s₁:=by
 have rv:=Yl hi
 have lenV:=hi.length
 have hPa:P≠a:=fun z=>by rw[z,ha]at hP;cases hP
 have hKP:K.lookup P=none:=by
  cases q:K.lookup P with
  |none=>rfl
  |some o=>
   have e:=KX P o q
   rw[hP]at e
   cases e
   have z:=List.all_eq_true.mp nT (P,_) (PySem.W.mem_of_lookupK q)
   exact absurd (show false=true from z) Bool.false_ne_true
 have core:∀H:Hp,xD P H→(∃o,H a=some (.frz o (.lst (ns.map V.int))))→HOk Pr w H s₁.heap→(∀b,H b≠none→b=a∨b=P)→(H a≠none→K.lookup a=none)→
   codeAny (model Pr w) callerA (.call (.ref fa) ⟨[.ref a],[]⟩) (fun r s'=>r=.ok (.ret (.bool true))∧OldK s₁.heap s'.heap∧s'.os=s₁.os∧AllBare s'.gens) s₁:=by
  intro H hO hS hok hA hK
  have base_of:∀{b:Addr}{o:Obj},s₁.heap.get? b=some o→H b=none→(Y7 s₁.heap H).get? b=some o:=fun e n=>xf e n
  have noO:∀{b:Addr}{o:Obj},s₁.heap.get? b=some o→(∀vs n,o.data≠ .seq vs n)→(o.cls≠ .none)→H b=none:=fun{b o} e d1 d2=>by
   cases q:H b with
   |none=>rfl
   |some u=>
    rcases hA b (by rw[q];simp)with z|z
    ·subst z
     rw[ha]at e
     cases e
     exact absurd rfl (d1 _ _)
    ·subst z
     rw[hP]at e
     cases e
     exact absurd rfl d2
  have noA:∀{b:Addr}{o:Obj}{es:Array DictEntry}{ep:Nat},s₁.heap.get? b=some o→o.data=.dict es ep→H b=none:=fun{b o es ep} e d=>by
   cases q:H b with
   |none=>rfl
   |some u=>
    rcases hA b (by rw[q];simp)with z|z
    ·subst z
     rw[ha]at e
     cases e
     cases d
    ·subst z
     rw[hP]at e
     cases e
     cases d
  have nsK:∀{b:Addr}{m:Str→Option Value},s₁.heap.Ns b m→(Y7 s₁.heap H).Ns b m:=fun{b m}⟨o,es,ep,e,d,r⟩=>⟨o,es,ep,base_of e (noA e d),d,r⟩
  have hKb:K.In (Y7 s₁.heap H):=fun b o e=>base_of (KX b o e) (by
   cases q:H b with
   |none=>rfl
   |some u=>
    rcases hA b (by rw[q];simp)with z|z
    ·subst z
     rw[hK (by rw[q];simp)]at e
     cases e
    ·subst z
     rw[hKP]at e
     cases e)
  have hM:Mod K mg (Y7 s₁.heap H):=⟨hKb,nsK hns,⟨mb,nsK hb,hbb⟩,let ⟨mc,h1,h2⟩:=hlim;⟨mc,nsK h1,h2⟩⟩
  have e0:Env0 Pr w K mg (Y7 s₁.heap H) callerA [] s₁ H:=⟨rfl,hM,fun b o e=>wF e,Nat.le_of_eq (jl _ _),trivial,fun b hb=>absurd (show b∈([]:List Addr)from hb) (by simp),hok,.of_eq hg⟩
  have L:Lamb mg (Y7 s₁.heap H) c P:=by
   obtain⟨o,vs',file,tf,flags,tg,inF,text,tt,e1,r1,r2,r⟩:=hC
   obtain⟨bm,ob,b1,b2,b3,b4,b5,b6⟩:=hbm
   exact⟨⟨o,vs',file,tf,flags,tg,inF,text,tt,base_of e1 (noO e1 (fun vs n z=>by rw[r2]at z;cases z) fun z=>by rw[r1]at z;cases z),r1,r2,r⟩,
    ⟨bm,ob,b1,b2,base_of b3 (noO b3 (fun vs n z=>by rw[b6]at z;cases z) fun z=>by rw[b4]at z;cases z),b4,b5,b6⟩⟩
  refine codeAny_mono ((F _ hKb (nsK hns) L).run callerA [] s₁ H ⟨[.ref a],[]⟩ [.ref a] [.ref a] _ _ hr e0 (hbind s₁ (.ref a)) (.cons rfl .nil) (hsp H hO hS)) fun r s' h=>?_
  cases r with
  |error e=>exact(hCX H e s' h).elim
  |ok fl=>
   cases fl with
   |next=>exact False.elim h
   |brk=>exact False.elim h
   |cont=>exact False.elim h
   |ret u=>
    obtain⟨v,H',os,bare,un,hok',r',q⟩:=h
    have q':v=.bl true:=q
    subst q'
    obtain rfl:u=Value.bool true:=r'
    have tabK:∃ps,s'.heap.get? P=some (PySem.W.tabObj ps):=by
     obtain⟨more,e⟩:=un.tbls P #[] hO.1
     exact⟨_,hok' P _ e⟩
    have keep:∀b o,b≠P→s₁.heap.get? b=some o→s'.heap.get? b=some o:=fun b o hbP e=>by
     cases q:H b with
     |none=>exact un.keep b o e q (by intro z;exact absurd (show b∈([]:List Addr)from z) (by simp)) (by simp)
     |some u=>
      rcases hO.2 b hbP with z|⟨ob,xs,z⟩
      ·rw[q]at z;cases z
      ·have z2:=un.frzs b ob _ z
       obtain⟨e1,_⟩:=hok b _ z
       obtain⟨e2,_⟩:=hok' b _ z2
       rw[e]at e1;cases e1
       exact e2
    refine⟨rfl,⟨fun b o e=>?_,fun b o e=>?_⟩,os,bare⟩
    ·by_cases hbP:b=P
     ·subst hbP
      rw[hP]at e
      cases e
      obtain⟨ps,e2⟩:=tabK
      exact .inr (.inl ⟨(hC.tab hP).isCodeTable,rfl, #[],ps,rfl,by rw[Array.empty_append];exact e2⟩)
     ·exact .inl (keep b o hbP e)
    ·by_cases hbP:b=P
     ·subst hbP
      obtain⟨ps,e2⟩:=tabK
      exact⟨_,e2⟩
     ·exact⟨o,keep b o hbP e⟩
 cases hk:K.lookup a with
 |some o=>
  have e:=KX a o hk
  rw[ha]at e
  cases e
  exact absurd rfl (qN nL hk)
 |none=>
  refine core (fun b=>if b=a then some (.frz {cls:=.type "list",data:=.seq vs.toArray} (.lst (ns.map V.int)))else if b=P then some (.tbl #[])else none) ⟨?_,fun b hb=>?_⟩ ⟨{cls:=.type "list",data:=.seq vs.toArray},if_pos rfl⟩ (fun b u z=>?_) (fun b z=>?_) fun _=>hk
  ·show(if P=a then _ else if P=P then _ else _)=_
   rw[if_neg hPa,if_pos rfl]
  ·by_cases h1:b=a
   ·exact .inr ⟨_,_,if_pos h1⟩
   ·exact .inl (by show(if b=a then _ else if b=P then _ else _)=_;rw[if_neg h1,if_neg hb])
  ·by_cases h1:b=a
   ·have z':=(if_pos h1).symm.trans z
    cases z'
    subst h1
    exact⟨ha,by rw[List.length_map];exact hl,vs,_,rv,ha⟩
   ·have z1:=(if_neg h1).symm.trans z
    by_cases hb:b=P
    ·subst hb
     have z':=(if_pos rfl).symm.trans z1
     cases z'
     exact hP
    ·have z':=(if_neg hb).symm.trans z1
     cases z'
  ·by_cases h1:b=a
   ·exact .inl h1
   ·by_cases hb:b=P
    ·exact .inr hb
    ·exact absurd ((if_neg h1).trans (if_neg hb)) z
theorem xE{l:PySem.W.OpenLaw}{n k:Nat}{q:Program}{loose:List Str}{XP:(Str→Option Value)→Heap→Prop}{YP:World→Heap→Prop}{d d':DefRec}{K:Params→PySem.W.Frag}{CX:World→CXT}{sp:World→Addr→Sp}{x:Str}
  (hn:l.most=some n) (hn2:n≤sizeLine) (hdf:d.params.defaults=[]) (hr:Room k callerA)
  (hY:∀(w:World)(h:Heap),YP w h→(K w.params).In h) (nL:∀w:World,Ui (K w.params)=true) (nT:∀w:World,PySem.W.noTabs (K w.params)=true) (hrec:(recsOf q).find? (fun e=>e.name==d.name)=some d')
  (hT:∀w:World,∃c P,PySem.W.tabIn (K w.params) d.name=some (c,P))
  (F:∀(w:World)(mg:Str→Option Value)(fa:Addr)(h:Heap),(K w.params).In h→h.Ns mainGlobals mg→mg d.name=some (.ref fa)→
   ∃fd:FuncData,(∀(s:Shared)(u:Value),BindsTo s fd ⟨[u],[]⟩ [(x,u)])∧
    ∀(base:Heap)(c P:Addr),PySem.W.tabIn (K w.params) d.name=some (c,P)→(K w.params).In base→base.Ns mainGlobals mg→Lamb mg base c P→FnOk l.prog w (K w.params) mg base (CX w) k fa fd [x] (sp w P))
  (hsp:∀(w:World)(H:Hp)(a P:Addr)(ns:List Int),ns.length≤n→xD P H→(∃o,H a=some (.frz o (.lst (ns.map V.int))))→sp w P [.ref a] H (fun v _=>v=.bl true) fun _ _ _=>False)
  (hCX:∀(w:World)(H:Hp)(s:Shared)(e:Value)(s':Shared),CX w [] H s (fun _ _ _=>False) e s'→False):
  PySem.W.WalkO q loose XP YP l.row.toRowW d [] (fun f vs=>PySem.call f vs):=by
 refine Att.Uh hn hdf fun w s₀ s₁ mg mb fa o pm cd doc a vs ns G Y ho hd hcd hmg hobj hints hlen hg=>?_
 have KX:=hY w _ Y
 obtain⟨fd,hb,hF⟩:=F w mg fa _ KX G.T.g hmg
 obtain⟨c,P,ht⟩:=hT w
 obtain⟨hC,hP⟩:=PySem.W.tab_of G.T KX hrec ht
 exact jS (c:=c) (P:=P) (sp:=sp w P) KX (nL w) (nT w) G.T.g G.T.b G.T.builtins G.T.nolimit hg hC hP G.T.bmain hobj hints (Nat.le_trans hlen hn2) hr (fun base kb nb L=>hF base c P ht kb nb L) hb (fun H hO hS=>hsp w H a P ns hlen hO hS) fun H e s'=>hCX w H s₁ e s'
end L2
set_option Elab.async false
set_option linter.all false
set_option maxRecDepth 100000
namespace L2
open PySem PySem.Spec PyProof.Rows
section
variable {X:Cx}
noncomputable def Qbe(i j k:Nat)(ta:TA):TS:=fun D σ H=>ta σ H fun vs H1=>∃v w z,vs=[v,w,z]∧D.nx (((σ.set i (some v)).set j (some w)).set k (some z)) H1
theorem wW{i j k:Nat}{x y z:Str}{a b c:Expr}{ta:TA}{px py pz pt pos:Pos}{kt k2 pt2}(hc:X.calm=true)(hN:X.N.Nodup)(hi:X.N[i]? =some x)(hj:X.N[j]? =some y)(hk:X.N[k]? =some z)(hij:i≠j)(hik:i≠k)(hjk:j≠k)
  (hx:X.env.scope.names.lookup x=some .local) (hy:X.env.scope.names.lookup y=some .local) (hz:X.env.scope.names.lookup z=some .local) (ha:PA X [a,b,c] ta)
  (hw:swappedStores [.Tuple [.Name x px,.Name y py,.Name z pz] kt pt] (.Tuple [a,b,c] k2 pt2) X.env=pure (some [x,y,z]))
  (hs:swapsWithSole [.Tuple [.Name x px,.Name y py,.Name z pz] kt pt] (.Tuple [a,b,c] k2 pt2) pos.line X.env=pure false:=by rfl):
  PS X (.Assign [.Tuple [.Name x px,.Name y py,.Name z pz] kt pt] (.Tuple [a,b,c] k2 pt2) pos) (Qbe i j k ta):=by
 intro pins s σ H D I h
 rw[exec_Assign_arm]
 refine wpAny_bind (wpAny_standAt ?_)
 rw[hs]
 refine wpAny_bind (wpAny_pure ?_)
 rw[if_neg (by decide)]
 refine wpAny_bind (Tuple_ (thn (ha _ pins s σ H _ I h) fun us s1⟨vs,H1,I1,r1,q1⟩=>?_))
 obtain⟨v,w,u,e1,q1⟩:=q1
 subst e1
 obtain⟨u1,u2,u3,rfl,rv,rw',ru⟩:∃u1 u2 u3,us=[u1,u2,u3]∧RelV v u1∧RelV w u2∧RelV u u3:=by
  cases r1 with
  |cons p q=>
   cases q with
   |cons p' q'=>
    cases q' with
    |cons p'' q''=>
     cases q''
     exact⟨_,_,_,rfl,p,p',p''⟩
 refine wpAny_newObj_type ?_ (by show 3≤sizeLine;decide)
 have I2:Inv X pins σ H1 {s1 with heap:=s1.heap.push {cls:=.type "tuple",data:=.seq [u1,u2,u3].toArray}}:=I1.kept (t':=s1.toks) fun b o e=>Heap.get?_push_of_some _ e
 rw[hw]
 refine wpAny_bind (wpAny_pure ?_)
 show wpAny (model X.prog X.w) X.A (do rule "assign.swapped-stores";let items←unpackItems (.ref s1.heap.objs.size) 3 none;assignInOrder [fun v=>bindName X.env z v,fun v=>bindName X.env y v,fun v=>bindName X.env x v] items.reverse;pure Flow.next) _ _ _
 refine wpAny_bind (wpAny_rule (wpAny_bind (unpackItems_tuple (items:= #[u1,u2,u3]) (I.ok.hd hc) (IsTup.new s1.heap _) fun h' hx'=>?_)))
 have I3:=I2.kept (h':=h') (t':=s1.toks) fun b o e=>hx' b o (Nat.ne_of_lt (Heap.lt_size e)) e
 show wpAny _ _ (assignInOrder [fun v=>bindName X.env z v,fun v=>bindName X.env y v,fun v=>bindName X.env x v] [u3,u2,u1]>>=fun _=>pure Flow.next) _ _ _
 refine wpAny_bind (assignInOrder_cons (wpAny_bindName (Zk I3 hN hk (.inl hz) ru (fun s2 I4=>?_) (.inr hz))))
 refine assignInOrder_cons (wpAny_bindName (Zk I4 hN hj (.inl hy) rw' (fun s3 I5=>?_) (.inr hy)))
 refine assignInOrder_cons (wpAny_bindName (Zk I5 hN hi (.inl hx) rv (fun s4 I6=>assignInOrder_nil (wpAny_pure ?_)) (.inr hx)))
 have e:((σ.set k (some u)).set j (some w)).set i (some v)=((σ.set i (some v)).set j (some w)).set k (some u):=by
  rw[List.set_comm _ _ (Ne.symm hjk),List.set_comm _ _ (Ne.symm hik),List.set_comm (i:=j) (j:=i) _ _ (Ne.symm hij)]
 rw[e]at I6
 exact⟨_,H1,I6,q1⟩
end
noncomputable def JV(cells:List (Str × Addr)):List (Str × NameKind)→List (Str × Addr)→List (Str × Addr)
 |[],acc=>acc
 |(n,k)::r,acc=>JV cells r (if k==.free then(n,(cells.lookup n).getD 0)::acc else acc)
theorem jT{env:Env}:∀(names:List (Str × NameKind))(acc:List (Str × Addr)),(∀y∈names,y.2=.free→∃c,env.cells.lookup y.1=some c)→
  (forIn names acc fun x(cs:List (Str × Addr))=>(do
   let (name,kind):=x
   if kind==.free then
    let c←cellOf env name
    pure (ForInStep.yield ((name,c)::cs))
   else pure (ForInStep.yield cs):Sem (ForInStep (List (Str × Addr)))))=pure (JV env.cells names acc)
 |[],acc,_=>rfl
 |(n,k)::r,acc,h=>by
  rw[List.forIn_cons]
  have ih:=fun acc'=>jT (env:=env) r acc' fun y hy=>h y (List.mem_cons_of_mem _ hy)
  by_cases hk:k=.free
  ·subst hk
   obtain⟨c,hc⟩:=h (n,.free) List.mem_cons_self rfl
   have hc':env.cells.lookup n=some c:=hc
   show _=pure (JV env.cells r (if NameKind.free==NameKind.free then _ else _))
   have e:cellOf env n=pure c:=by unfold cellOf;rw[hc']
   simp only[beq_self_eq_true,if_true,e,pure_bind,hc',Option.getD_some]
   exact ih _
  ·have hb:(k==NameKind.free)=false:=beq_eq_false_iff_ne.mpr hk
   show _=pure (JV env.cells r (if k==NameKind.free then _ else _))
   simp only[hb,Bool.false_eq_true,if_false,pure_bind]
   exact ih _
theorem ZP{scope:Scope}{env:Env}(h:∀y∈scope.names,y.2=.free→∃c,env.cells.lookup y.1=some c):closureFor scope env=pure (JV env.cells scope.names []):=by
 unfold closureFor
 have:=jT (env:=env) scope.names [] h
 simp only[bind_pure]at this ⊢
 exact this
theorem Wk{cells:List (Str × Addr)}{x:Str}{c:Addr}:∀(names:List (Str × NameKind))(acc:List (Str × Addr)),(∀y∈names,y.2=.free→∃c,cells.lookup y.1=some c)→(acc.lookup x=some c→cells.lookup x=some c)→
  (JV cells names acc).lookup x=some c→cells.lookup x=some c
 |[],_,_,h,e=>h e
 |(n,k)::r,acc,h0,h,e=>by
  unfold JV at e
  refine Wk r _ (fun y hy=>h0 y (List.mem_cons_of_mem _ hy)) (fun e'=>?_) e
  split at e'
  ·rename_i hk
   rw[List.lookup_cons]at e'
   split at e'
   ·rename_i hx
    have hx':x=n:=eq_of_beq hx
    subst hx'
    obtain⟨d,hd⟩:=h0 (x,k) List.mem_cons_self (eq_of_beq hk)
    have hd':cells.lookup x=some d:=hd
    rw[hd']at e' ⊢
    exact e'
   ·exact h e'
  ·exact h e'
theorem X0{cells:List (Str × Addr)}{x:Str}:∀(names:List (Str × NameKind))(acc:List (Str × Addr)),((∃c,acc.lookup x=some c)∨(x,NameKind.free)∈names)→∃c,(JV cells names acc).lookup x=some c
 |[],acc,h=>by
  rcases h with h|h
  ·exact h
  ·cases h
 |(n,k)::r,acc,h=>by
  unfold JV
  refine X0 r _ ?_
  rcases h with⟨c,h⟩|h
  ·refine .inl ?_
   split
   ·rw[List.lookup_cons]
    split
    ·exact⟨_,rfl⟩
    ·exact⟨c,h⟩
   ·exact⟨c,h⟩
  ·rcases List.mem_cons.mp h with e|h
   ·cases e
    refine .inl ?_
    rw[if_pos (by rfl),List.lookup_cons,beq_self_eq_true]
    exact⟨_,rfl⟩
   ·exact .inr h
end L2
set_option Elab.async false
set_option linter.all false
set_option maxRecDepth 100000
namespace L2
open PySem PySem.Spec PyProof.Rows
section
variable {P:Program}{w:World}{K:PySem.W.Frag}{mg:Str→Option Value}{base:Heap}
theorem okE{x qual:Str}{st:Stmt}{f:Addr}{fd:FuncData}{N ps:List Str}{k:Nat}{sp:Sp}(F:Fun K x qual st f fd)(S:FnScope N ps (Qf st))(len:∀vs H Q E,sp vs H Q E→vs.length=ps.length)
  (hbody:∀(cdv:Value)(A:Around)(outer:List Env)(s:Shared)(H:Hp)(vs:List V)(Q:VK)(E:XK),Room k (A.deeper (envOfC qual (Qf st) s.heap.objs.size f cdv))→sp vs H Q E→
   ∃t,PSs (WR (CXE P w) P w K mg base N qual (Qf st) f cdv A outer s H E) (QP st) t∧t {nx:=fun _ H'=>Q .non H',rt:=Q} (start N vs) H):FnOk P w K mg base (CXE P w) (k+1) f fd ps sp:=by
 obtain⟨oc,od,kV,doc,pm,an,cdv,ct,osl,rfl,lk,hcd⟩:=F.ex
 exact yu lk hcd S len fun A outer s H vs Q E hr hsp=>hbody cdv A outer s H vs Q E hr hsp
theorem okN{x qual:Str}{st:Stmt}{f:Addr}{fd:FuncData}{N ps:List Str}{k:Nat}{sp:Sp}(F:Fun K x qual st f fd)(S:FnScope N ps (Qf st))(len:∀vs H Q E,sp vs H Q E→vs.length=ps.length)
  (hbody:∀(cdv:Value)(A:Around)(outer:List Env)(s:Shared)(H:Hp)(vs:List V)(Q:VK)(E:XK),Room k (A.deeper (envOfC qual (Qf st) s.heap.objs.size f cdv))→sp vs H Q E→
   ∃t,PSs (WR (CXE P w) P w K mg base N qual (Qf st) f cdv A outer s H E).nox (QP st) t∧t {nx:=fun _ H'=>Q .non H',rt:=Q} (start N vs) H):FnOk P w K mg base (CXE P w) (k+1) f fd ps sp:=
 okE F S len fun cdv A outer s H vs Q E hr hsp=>by
  obtain⟨t,h,q⟩:=hbody cdv A outer s H vs Q E hr hsp
  exact⟨t,h.nox,q⟩
end
structure PEx(X:Cx)(e:Expr)(t:TE):Prop where
 pe:PE X e t
structure PSx(X:Cx)(e:List Stmt)(t:TS):Prop where
 ps:PSs X e t
theorem Qbf{X:Cx}{k1 k2 v1 v2:Expr}{pos pos':Pos}{t1 t2 u1 u2:TE}(h1:PEx X k1 t1)(h2:PEx X v1 u1)(h3:PEx X k2 t2)(h4:PEx X v2 u2):PSx X [.Return (some (.Dict [some k1,some k2] [v1,v2] pos)) pos'] (QaI (wP [(t1,u1),(t2,u2)])):=
 ⟨Qg (Qs (jM (Xl h1.pe h2.pe (Xl h3.pe h4.pe jL)) rfl rfl (List.cons_ne_nil _ _) (Nat.le_of_ble_eq_true rfl)))⟩
theorem qO{X:Cx}{x y:Str}{i:Int}{p1 p2 p3 p4 p5 p6:Pos}{j1 j2 j3:Nat}:PSx X [.Return (some (.Dict [some (.Constant (.str x) j1 p1),some (.Constant (.str y) j2 p2)] [.Constant (.int i) j3 p3,.Dict [] [] p4] p5)) p6] (QaI (wP [(tC (.str x),tC (.int i)),(tC (.str y),wd)])):=
 Qbf ⟨Qd⟩ ⟨Qh⟩ ⟨Qd⟩ ⟨xt⟩
theorem Qci{P:Program}{w:World}{K:PySem.W.Frag}{mg:Str→Option Value}{base:Heap}{x qual:Str}{st:Stmt}{f:Addr}{fd:FuncData}{N ps:List Str}{k:Nat}{sp:Sp}(F:Fun K x qual st f fd)(S:FnScope N ps (Qf st))(len:∀vs H Q E,sp vs H Q E→vs.length=ps.length)
  (hbody:∀(cdv:Value)(A:Around)(outer:List Env)(s:Shared)(H:Hp)(vs:List V)(Q:VK)(E:XK),Room k (A.deeper (envOfC qual (Qf st) s.heap.objs.size f cdv))→sp vs H Q E→
   ∃t,PSx (WR (CXE P w) P w K mg base N qual (Qf st) f cdv A outer s H E).nox (QP st) t∧t {nx:=fun _ H'=>Q .non H',rt:=Q} (start N vs) H):FnOk P w K mg base (CXE P w) (k+1) f fd ps sp:=
 okN F S len fun cdv A outer s H vs Q E hr hsp=>by
  obtain⟨t,h,q⟩:=hbody cdv A outer s H vs Q E hr hsp
  exact⟨t,h.ps,q⟩
structure Def(P:Program)(w:World)(K:PySem.W.Frag)(mg:Str→Option Value)(base:Heap)(k:Nat)(x:Str)(ps:List Str)(sp:Sp):Prop where
 ex:∃f fd,mg x=some (.ref f)∧PySem.W.keepIn K (.ref f)=true∧Binds K fd ps []∧FnOk P w K mg base (CXE P w) k f fd ps sp
section
variable {X:Cx}{k k':Nat}{x:Str}{ps:List Str}{sp:Sp}{E:XK}{p pos:Pos}{e:Expr}{es:List Expr}{t:TA}
theorem Def.pe(D:Def X.prog X.w X.K X.mg X.base k x ps sp)(hr:Room k' X.A)(hk:k≤k')(hg:Gl X x)(hx:Passes (CXE X.prog X.w) X E)(ha:PA X (e::es) t)(hdb:(x==("__debug__":Str))=false:=by decide)
  (he:starEach (e::es) X.env=(false,eval e X.env)::starEach es X.env:=by rfl) (hpl:(backTo pos (starEach es X.env)).any (·.1)=false:=by rfl):PE X (.Call (.Name x p) (e::es) [] pos) (WQ sp [] E t):=by
 obtain⟨f,fd,h1,h2,h3,h4⟩:=D.ex
 exact jA h4 (hr.mono hk) hg h1 h2 h3 .nil hx ha hdb he hpl
theorem Def.pe0(D:Def X.prog X.w X.K X.mg X.base k x ps sp)(hr:Room k' X.A)(hk:k≤k')(hg:Gl X x)(hx:Passes (CXE X.prog X.w) X E)(hdb:(x==("__debug__":Str))=false:=by decide):
  PE X (.Call (.Name x p) [] [] pos) (WQ sp [] E W7):=by
 obtain⟨f,fd,h1,h2,h3,h4⟩:=D.ex
 exact xm h4 (hr.mono hk) hg h1 h2 h3 .nil hx hdb
end
section
variable {X:Cx}{k k':Nat}{x:Str}{ps ks:List Str}{sp:Sp}{E:XK}{p pos:Pos}{e:Expr}{es:List Expr}{t tk:TA}{kws:List Keyword}
end
theorem ifB{c:Bool}{A B:Prop}(hT:c=true→A)(hF:c=false→B):if c=true then A else B:=by
 cases c with
 |true=>rw[if_pos rfl];exact hT rfl
 |false=>rw[if_neg (by decide)];exact hF rfl
theorem yP(x y:Bool):(!decide (V.bl x=V.bl y))=(x !=y):=by cases x<;>cases y<;>rfl
theorem wX(x y:Int):(!decide (V.int x=V.int y))=decide (x≠y):=by
 by_cases h:x=y
 ·subst h;simp
 ·rw[decide_eq_false (fun e=>h (V.int.inj e)),decide_eq_true h];rfl
theorem Zp(x y:Int):decide (V.int x=V.int y)=decide (x=y):=by
 by_cases h:x=y
 ·subst h;simp
 ·rw[decide_eq_false (fun e=>h (V.int.inj e)),decide_eq_false h]
theorem Qbg{A:Around}{k:Nat}(hr:Room k A):A.units+1+1<cLine:=Nat.lt_of_le_of_lt (by omega:A.units+1+1≤A.units+64) hr.units
theorem SqL.upd{K:PySem.W.Frag}{H:Hp}{a b:Addr}{o:HO}{xs:List V}(h:SqL K H a xs)(n:a≠b):SqL K (upd H b o) a xs:=by
 rcases h with(h|⟨o',h⟩)|h
 ·exact .inl (.inl (by rw[Qt n];exact h))
 ·exact .inl (.inr ⟨o',by rw[Qt n];exact h⟩)
 ·exact .inr h
theorem SqT.same{K:PySem.W.Frag}{H H':Hp}{a:Addr}{xs:List V}(e:Qz H H')(h:SqT K H a xs):SqT K H' a xs:=by
 rcases h with(h|⟨o,h⟩)|h
 ·exact .inl (.inl (e _ _ h))
 ·exact .inl (.inr ⟨o,e _ _ h⟩)
 ·exact .inr h
theorem Qz.new{H:Hp}{p:Addr}{o:HO}(h:H p=none):Qz H (upd H p o):=fun b u e=>by rw[Qt (Qv e h)];exact e
structure TownAt(H:Hp)(t r:Addr)(c:Int)(rs:List (Key × V)):Prop where
 tw:H t=some (.dK [(Sum.inr "count",.int c),(Sum.inr "rests",.ref r)])
 rt:H r=some (.dK rs)
 vs:∀kv∈rs,∃k z,kv=(Sum.inl k,V.int z)
 c0:0≤c
 ln:(rs.length:Int)≤c
 ne:t≠r
theorem TownAt.same{H H':Hp}{t r:Addr}{c:Int}{rs:List (Key × V)}(T:TownAt H t r c rs)(e:Qz H H'):TownAt H' t r c rs:=⟨e _ _ T.tw,e _ _ T.rt,T.vs,T.c0,T.ln,T.ne⟩
noncomputable def Apart(t r:Addr)(H H':Hp):Prop:=∀b o,H b=some o→b≠t→b≠r→H' b=some o
theorem Apart.trans{t r:Addr}{H H1 H2:Hp}(a:Apart t r H H1)(b:Apart t r H1 H2):Apart t r H H2:=fun c o e n1 n2=>b c o (a c o e n1 n2) n1 n2
theorem Apart.of{t r:Addr}{H H1:Hp}(a:Qz H H1):Apart t r H H1:=fun c o e _ _=>a c o e
theorem Apart.seq{K:PySem.W.Frag}{t r a:Addr}{H H':Hp}{xs:List V}(e:Apart t r H H')(h:SqL K H a xs)(n1:a≠t)(n2:a≠r):SqL K H' a xs:=by
 rcases h with(h|⟨o,h⟩)|h
 ·exact .inl (.inl (e _ _ h n1 n2))
 ·exact .inl (.inr ⟨o,e _ _ h n1 n2⟩)
 ·exact .inr h
theorem Yq{rs:List (Key × V)}(h:∀kv∈rs,∃k z,kv=(Sum.inl k,V.int z)) (k:Int) (d:Int):∃z,(Kz rs (Sum.inl k:Key)).getD (.int d)=.int z:=by
 cases e:rs.find? fun kv=>decide (kv.1=(Sum.inl k:Key))with
 |none=>exact⟨d,by unfold Kz;rw[e];rfl⟩
 |some p=>
  obtain⟨k',z,rfl⟩:=h p (List.mem_of_find?_eq_some e)
  exact⟨z,by unfold Kz;rw[e];rfl⟩
theorem Yr{rs:List (Key × V)}(h:∀kv∈rs,∃k z,kv=(Sum.inl k,V.int z)) (k z:Int):(∀kv∈putK rs (Sum.inl k:Key) (.int z),∃k z,kv=(Sum.inl k,V.int z))∧(putK rs (Sum.inl k:Key) (.int z)).length≤rs.length+1:=by
 unfold putK
 split
 ·refine⟨fun kv hm=>?_,by rw[List.length_map];omega⟩
  obtain⟨p,hp,rfl⟩:=List.mem_map.mp hm
  obtain⟨k',z',rfl⟩:=h p hp
  split
  ·exact⟨k',z,rfl⟩
  ·exact⟨k',z',rfl⟩
 ·refine⟨fun kv hm=>?_,by rw[List.length_append];exact Nat.le_refl _⟩
  rcases List.mem_append.mp hm with hm|hm
  ·exact h kv hm
  ·exact⟨k,z,List.mem_singleton.mp hm⟩
theorem jU:¬ ((Sum.inr "count":Key)=(Sum.inr "rests":Key)):=by
 have h:¬ ("count":Str)="rests":=by decide+kernel
 exact fun e=>h (Sum.inr.inj e)
theorem xF(c d:Int)(r:Addr):putK [((Sum.inr "count":Key),V.int c),(Sum.inr "rests",V.ref r)] (Sum.inr "count") (.int d)=[((Sum.inr "count":Key),V.int d),((Sum.inr "rests":Key),V.ref r)]:=by
 have h:¬ ((Sum.inr "rests":Key)=(Sum.inr "count":Key)):=fun e=>jU e.symm
 unfold putK
 rw[if_pos (by simp)]
 simp only[List.map_cons,List.map_nil,if_true,if_neg h]
theorem Xm{H:Hp}{t r:Addr}{c:Int}(h:H t=some (.dK [(Sum.inr "count",.int c),(Sum.inr "rests",.ref r)])):qJ H t (.str "count") (some (.int c)):=by
 have e:=qJ.k (k:=(Sum.inr "count":Key)) h
 rw[XX rfl]at e
 exact e
theorem Xn{H:Hp}{t r:Addr}{c:Int}(h:H t=some (.dK [(Sum.inr "count",.int c),(Sum.inr "rests",.ref r)])):qJ H t (.str "rests") (some (.ref r)):=by
 have e:=qJ.k (k:=(Sum.inr "rests":Key)) h
 rw[KQ jU,XX rfl]at e
 exact e
theorem qP{H:Hp}{t r:Addr}{c:Int}(d:Int)(h:H t=some (.dK [(Sum.inr "count",.int c),(Sum.inr "rests",.ref r)])):wb H t (.str "count") (.int d) (upd H t (.dK [(Sum.inr "count",.int d),(Sum.inr "rests",.ref r)])):=by
 have e:=wb.k (k:=(Sum.inr "count":Key)) (v:=.int d) h (by show 2<sizeLine;decide)
 rw[xF]at e
 exact e
noncomputable def X1(K:PySem.W.Frag):Sp:=fun vs H Q _=>∃(a t r:Addr)(ns:List Int)(c many:Int)(rs:List (Key × V)),vs=[.ref a,.ref t,.int many]∧SqL K H a (ns.map V.int)∧TownAt H t r c rs∧a≠t∧a≠r∧ns.length≤63∧c<100000∧0<many∧many<1000000∧
 ∀(v:Int)(rs':List (Key × V))(H':Hp),0≤v→v<many→TownAt H' t r (c+1) rs'→Apart t r H H'→Q (.int v) H'
noncomputable def Uj:Sp:=fun vs H Q _=>vs=[]∧∀(t r:Addr)(H':Hp),H t=none→H r=none→TownAt H' t r 0 []→Qz H H'→Q (.ref t) H'
structure Own(mg:Str→Option Value):Prop where
 len:mg "len"=none
 range:mg "range"=none
 abs:mg "abs"=none
 max:mg "max"=none
 int:mg "int"=none
 isi:mg "isinstance"=none
 bool:mg "bool"=none
 val:mg "ValueError"=none
 reversed:mg "reversed"=none
 divmod:mg "divmod"=none
 str:mg "str"=none
 sum:mg "sum"=none
end L2
set_option Elab.async false
set_option linter.all false
set_option maxRecDepth 100000
namespace L2
open PySem PySem.Spec PyProof.Rows
noncomputable def E00:XK:=fun _ _ _=>False
theorem LamAt.alt{X:Cx}{N:List Str}{σ:St}{q:Str}{params:Arguments}{body:Expr}{scope:Scope}{f c':Addr}{cl:List (Str × Addr)}{pm ctv:Value}{pn:List (Addr × Obj)}{xe:Value→Shared→Prop}
  (L:LamAt X N σ q params body scope f c' cl pm ctv):LamAt (X.alt pn xe) N σ q params body scope f c' cl pm ctv:=
 ⟨L.ob,L.un,L.fr,L.code,L.kind,L.co,L.gen,L.bind,L.len,L.cells⟩
noncomputable def Qbh(P:Addr)(q:Str)(th:St→Addr→Addr→Hp→VK→Prop):TE:=fun σ H Q=>WS H P q∧∀(f c':Addr)(H1:Hp),H1 f=none→H1 c'=some (XZ c' q)→WS H1 P q→(∀b o,H b=some o→b≠P→H1 b=some o)→th σ f c' H1 Q
section
variable {X:Cx}{k:Nat}{x qual:Str}{st:Stmt}{fa:Addr}{fd:FuncData}{N:List Str}{p1:Str}{E:XK}{c P:Addr}{q:Str}{params:Arguments}{body:Expr}{scope:Scope}{p lpos cpos:Pos}{th:St→Addr→Addr→Hp→VK→Prop}
theorem qQ(F:Fun X.K x qual st fa fd)(S:FnScope N [p1] (Qf st))(hm:X.mg x=some (.ref fa))(hg:Gl X x)(hb:Binds X.K fd [p1] [])(hr:Room (k+1) X.A)(hx:Passes (CXE X.prog X.w) X E)
  (L:Lamb X.mg X.base c P) (hcode:X.env.code=.ref c) (hq:q=X.env.qual++"<lambda>") (hdef:defaultsOf params X.env=([],[])) (hfn:∀y,X.fn y=true)
  (sk:scope.kind=.function) (sco:scope.isCoroutine=false) (sgen:scope.isGenerator=false) (snone:∀y∈scope.names,y.2≠ .local∧y.2≠ .cell) (sfree:∀y∈scope.names,y.2=.free→X.env.scope.names.lookup y.1=some .cell)
  (hbind:∀cl pm c' ctv,bindArgs (PySem.W.kla_fn "<lambda>" q params body scope cl pm (.ref c') ctv) ⟨[],[]⟩=pure [])
  (hbody:∀(cdv:Value)(σ:St)(f c':Addr)(cl:List (Str × Addr))(pm ctv:Value)(s1:Shared)(H1:Hp)(Q:VK),
   LamAt (WR (CXE X.prog X.w) X.prog X.w X.K X.mg X.base N qual (Qf st) fa cdv X.A X.stack s1 H1 E) X.N σ q params body scope f c' cl pm ctv→
   (∀x c,cl.lookup x=some c→c<s1.heap.objs.size)→Room k (X.A.deeper (envOfC qual (Qf st) s1.heap.objs.size fa cdv))→th σ f c' H1 Q→
   ∃t,PSs (WR (CXE X.prog X.w) X.prog X.w X.K X.mg X.base N qual (Qf st) fa cdv X.A X.stack s1 H1 E) (QP st) t∧t {nx:=fun _ H'=>Q .non H',rt:=Q} (start N [.ref f]) H1)
  (hdb:(x==("__debug__":Str))=false:=by decide):PE X (.Call (.Name x p) [.Lambda params body scope lpos] [] cpos) (Qbh P q th):=by
 intro pins s σ H Q I h
 obtain⟨hT,h⟩:=h
 obtain⟨oc,od,kV,doc,pm',an,cdv,ct,osl,rfl,lk,hcd⟩:=F.ex
 have has:∀y∈scope.names,y.2=.free→∃c,X.env.cells.lookup y.1=some c:=fun y hy e=>I.ok.has y.1 (.inl (sfree y hy e))
 refine wpAny_Call_Name_kw (Z2 I hg hm ?_ hdb)
 refine PySem.W.callWith_K (h₀:=X.base) I.ok.mod.kin F.kp ?_ rfl rfl
 show wpAny _ _ (spliced ((false,eval (.Lambda params body scope lpos) X.env)::[])) _ _ s
 refine Calls.spliced_cons (xx I L hcode hq hdef (ZP has) hT fun f c' pm ctv H1 s1 I1 ob un fr code T1 keep kp=>Calls.spliced_nil ⟨I1.kIn,?_⟩)
 have fs0:∀b∈frs X.stack,∃o,s.heap.get? b=some o:=fun b hb=>let ⟨o,e,_⟩:=(I.stack.mem hb).2;⟨o,e⟩
 have cs:∀y d,(JV X.env.cells scope.names []).lookup y=some d→X.env.cells.lookup y=some d:=fun y d e=>Wk scope.names [] has (fun z=>nomatch z) e
 have frS:∀b∈frs X.stack,b=X.env.locals∨b∈X.fs:=fun b hb=>List.mem_cons.mp (I.XQ b hb)
 have LA:LamAt (WR (CXE X.prog X.w) X.prog X.w X.K X.mg X.base N qual (Qf st) fa cdv X.A X.stack s1 H1 E) X.N σ q params body scope f c' (JV X.env.cells scope.names []) pm ctv:=by
  refine⟨ob,un,fun hf=>?_,code,sk,sco,sgen,hbind _ _ _ _,I.len,⟨fun y z d e1 e2=>I.ok.inj y z d (cs y d e1) (cs z d e2),fun y hy=>X0 scope.names [] (.inr (PySem.mem_of_lookup hy)),snone,fun y d e=>?_,fun j y v e1 e2 e3=>?_⟩⟩
  ·obtain⟨o,e⟩:=fs0 f hf
   exact absurd (Heap.lt_size e) (Nat.not_lt.mpr fr)
  ·refine⟨I1.freeC y d (cs y d e),fun hf=>?_,I1.cell y d (cs y d e)⟩
   rcases frS d hf with z|z
   ·exact I.cne y d (cs y d e) z
   ·obtain⟨o,eo⟩:∃o,X.s₀.heap.get? d=some o:=let ⟨o,e,_⟩:=(I.ok.Y8.mem z).2;⟨o,e⟩
    exact absurd (Heap.lt_size eo) (Nat.not_lt.mpr (I.ok.cab y d (hfn y) (cs y d e)))
  ·have hy:X.env.scope.names.lookup y=some .cell:=sfree _ (PySem.mem_of_lookup e3) rfl
   obtain⟨m,_,hl⟩:=I1.loc
   obtain⟨u,r,lk'⟩:=hl j y v e1 e2 (.inr (.inl hy))
   obtain⟨d,hd⟩:=I.ok.has y (.inl hy)
   rcases lk' with⟨kk,_⟩|⟨_,d',hd',hc⟩
   ·have z:X.env.scope.names.lookup y=some .local:=kk
    rw[hy]at z
    cases z
   ·obtain⟨d2,hd2⟩:=X0 (cells:=X.env.cells) scope.names [] (.inr (PySem.mem_of_lookup e3))
    have:=cs y d2 hd2
    rw[hd']at this
    cases this
    exact⟨u,d',r,hd2,hc⟩
 have hlo:∀y d,(JV X.env.cells scope.names []).lookup y=some d→d<s1.heap.objs.size:=fun y d e=>by
  obtain⟨v,o,e1,_⟩:=I1.cell y d (cs y d e)
  exact Heap.lt_size e1
 have hB:=hb s1 [.ref f] I1.kIn rfl
 refine wpAny_call (codeAny_mono (Qbb (N:=N) (ps:=[p1]) (Q:=Q) (E:=E) lk hcd S hr I1.QaN hB (vs:=[.ref f]) (.cons rfl .nil) rfl fun hr'=>hbody cdv σ f c' _ pm ctv s1 H1 Q LA hlo hr' (h f c' H1 un code T1 keep)) fun r s' hq=>?_)
 cases r with
 |error e=>exact hx pins σ H1 s1 e s' I1 hq
 |ok fl=>
  cases fl with
  |ret u=>exact I1.after hq
  |next=>exact False.elim hq
  |brk=>exact False.elim hq
  |cont=>exact False.elim hq
end
noncomputable def jV(sc outer:Scope):Bool:=sc.names.all fun y=> !(y.2==.free)||outer.names.lookup y.1==some .cell
theorem Ys{sc outer:Scope}(h:jV sc outer=true):∀y∈sc.names,y.2=.free→outer.names.lookup y.1=some .cell:=fun y hy e=>by
 have q:=List.all_eq_true.mp h y hy
 rw[e]at q
 simpa using q
structure FunC(K:PySem.W.Frag)(x qual:Str)(st:Stmt)(f:Addr)(fd:FuncData)(cdv:Value):Prop where
 ex:∃(oc:Value)(od:Option Addr)(kV doc pm:Value)(an:Option Addr)(ct:Value)(osl:Array (Option Value)),
  fd=PySem.W.fnOf x qual (Jt st) (QP st) (Qf st) .none kV doc pm an cdv ct∧K.lookup f=some ⟨oc,od,.func fd,osl⟩∧PySem.W.codeIn K cdv qual=true
theorem Qcj{P:Program}{w:World}{K:PySem.W.Frag}{mg:Str→Option Value}{base:Heap}{x qual:Str}{st:Stmt}{f:Addr}{fd:FuncData}{cdv:Value}{N ps:List Str}{k:Nat}{sp:Sp}(F:FunC K x qual st f fd cdv)(S:FnScope N ps (Qf st))(len:∀vs H Q E,sp vs H Q E→vs.length=ps.length)
  (hbody:∀(A:Around)(outer:List Env)(s:Shared)(H:Hp)(vs:List V)(Q:VK)(E:XK),Room k (A.deeper (envOfC qual (Qf st) s.heap.objs.size f cdv))→sp vs H Q E→
   ∃t,PSs (WR (CXE P w) P w K mg base N qual (Qf st) f cdv A outer s H E).nox (QP st) t∧t {nx:=fun _ H'=>Q .non H',rt:=Q} (start N vs) H):FnOk P w K mg base (CXE P w) (k+1) f fd ps sp:=by
 obtain⟨oc,od,kV,doc,pm,an,ct,osl,rfl,lk,hcd⟩:=F.ex
 exact yu lk hcd S len fun A outer s H vs Q E hr hsp=>by
  obtain⟨t,h,q⟩:=hbody A outer s H vs Q E hr hsp
  exact⟨t,h.nox,q⟩
structure DefAt(K:PySem.W.Frag)(x:Str)(st:Stmt):Prop where
 ex:∃f fd,PySem.W.nsIn K mainGlobals x=some (some (.ref f))∧Fun K x x st f fd
theorem Qu{K:PySem.W.Frag}{x:Str}{st:Stmt}{f:Addr}{oc:Value}{od an:Option Addr}{osl:Array (Option Value)}{kV doc pm cdv ct:Value}(a:PySem.W.nsIn K mainGlobals x=some (some (.ref f)))
  (l:K.lookup f=some ⟨oc,od,.func (PySem.W.fnOf x x (Jt st) (QP st) (Qf st) .none kV doc pm an cdv ct),osl⟩) (c:PySem.W.codeIn K cdv x=true) (k:PySem.W.keepIn K (.ref f)=true):DefAt K x st:=
 ⟨f,_,a,⟨⟨oc,od,kV,doc,pm,an,cdv,ct,osl,rfl,l,c⟩,k⟩⟩
section
variable {P:Program}{w:World}{K:PySem.W.Frag}{mg:Str→Option Value}{base h:Heap}{x:Str}{st:Stmt}{k:Nat}{ps:List Str}{sp:Sp}
theorem DefAt.def(D:DefAt K x st)(X:K.In h)(G:h.Ns mainGlobals mg)(hok:∀f fd,Fun K x x st f fd→FnOk P w K mg base (CXE P w) k f fd ps sp)
  (hb:∀(kV doc pm:Value)(an:Option Addr)(cdv ct:Value)(us:List Value),us.length=ps.length→bindArgs (PySem.W.fnOf x x (Jt st) (QP st) (Qf st) .none kV doc pm an cdv ct) ⟨us,[]⟩=pure (ps.zip us)):Def P w K mg base k x ps sp:=by
 obtain⟨f,fd,a,F⟩:=D.ex
 exact⟨f,fd,PySem.W.mg_of X G a,F.kp,F.binds hb,hok f fd F⟩
end
theorem yQ{K:PySem.W.Frag}{x:Str}{f c P:Addr}{oc oc2:Value}{od od2:Option Addr}{osl osl2:Array (Option Value)}{fd:FuncData}{vs:Array Value}(a:PySem.W.nsIn K mainGlobals x=some (some (.ref f)))(l:K.lookup f=some ⟨oc,od,.func fd,osl⟩)(hc:fd.code=.ref c)
  (lc:K.lookup c=some ⟨oc2,od2,.fields vs,osl2⟩) (hv:(vs[11]? :Option Value)=some (.ref P)):PySem.W.tabIn K x=some (c,P):=by
 unfold PySem.W.tabIn
 simp only[a,l,hc,lc,hv]
theorem Ju{k:Bool}{ta tb:TE}{σ:St}{H:Hp}{Q:VK}(Good:V→Hp→Prop)(hT:k=true→(∀v H',Good v H'→Q v H')→ta σ H Q) (hF:k=false→(∀v H',Good v H'→Q v H')→tb σ H Q) (rest:∀v H',Good v H'→Q v H'):if k=true then ta σ H Q else tb σ H Q:=by
 cases k with
 |true=>rw[if_pos rfl];exact hT rfl rest
 |false=>rw[if_neg (by decide)];exact hF rfl rest
theorem wY(a:Str):eqV (.str a) (.str a)=true:=by simp[eqV]
theorem EqD.str{K:PySem.W.Frag}{H:Hp}{n:Nat}{a:Str}:EqD K H n (.str a) (.str a) true:=by
 have:=EqD.flat (K:=K) (H:=H) (n:=n) (x:=.str a) (y:=.str a) rfl rfl
 rw[wY]at this
 exact this
theorem all_true(n:Nat):(List.range n).all (fun _=>true)=true:=List.all_eq_true.mpr fun _ _=>rfl
inductive Like (K:PySem.W.Frag) (H:Hp) (n:Nat):List V→List V→Prop where
 |nil:Like K H n [] []
 |cons {x y:V} {xs ys:List V} (h:EqD K H n x y true) (t:Like K H n xs ys):Like K H n (x::xs) (y::ys)
theorem Like.len{K:PySem.W.Frag}{H:Hp}{n:Nat}{xs ys:List V}(l:Like K H n xs ys):xs.length=ys.length:=by
 induction l with
 |nil=>rfl
 |cons h t ih=>rw[List.length_cons,List.length_cons,ih]
theorem Like.at{K:PySem.W.Frag}{H:Hp}{n:Nat}{xs ys:List V}(l:Like K H n xs ys):∀(j:Nat)(x y:V),xs[j]? =some x→ys[j]? =some y→EqD K H n x y true:=by
 induction l with
 |nil=>intro j x y h;cases h
 |cons h t ih=>
  intro j x y h1 h2
  cases j with
  |zero=>cases h1;cases h2;exact h
  |succ j=>exact ih j x y h1 h2
theorem xG{K:PySem.W.Frag}{H:Hp}{n:Nat}{neg:Bool}{a b:Addr}{xs ys:List V}{Q:VK}(ha:SqT K H a xs)(hb:SqT K H b ys)(l:Like K H n xs ys)(k:Q (.bl (!neg)) H):QbS K n neg (.ref a) (.ref b) H Q:=by
 refine⟨a,b,xs,ys,fun _=>true,true,rfl,rfl,ha,hb,l.at,by rw[all_true,l.len];simp,?_⟩
 cases neg<;>exact k
structure LawSt(H:Hp)(a t r Pa:Addr)(q:Str)(ns:List Int)(c:Int):Prop where
 sc:∃o,H a=some (.frz o (.lst (ns.map V.int)))
 tw:∃rs,TownAt H t r c rs
 tab:WS H Pa q
 ln:ns.length≤63
theorem WS.same{H H':Hp}{P:Addr}{q:Str}(T:WS H P q)(e:Qz H H'):WS H' P q:=by
 obtain⟨ps,h1,h2,h3⟩:=T
 exact⟨ps,e _ _ h1,h2,fun p cv z=>let ⟨a,z1,z2⟩:=h3 p cv z;⟨a,z1,e _ _ z2⟩⟩
section
variable {H H':Hp}{a t r Pa:Addr}{q:Str}{ns:List Int}{c c':Int}{K:PySem.W.Frag}
theorem LawSt.same(S:LawSt H a t r Pa q ns c)(e:Qz H H'):LawSt H' a t r Pa q ns c:=
 ⟨let ⟨o,h⟩:=S.sc;⟨o,e _ _ h⟩,let ⟨rs,h⟩:=S.tw;⟨rs,h.same e⟩,S.tab.same e,S.ln⟩
theorem LawSt.nat(S:LawSt H a t r Pa q ns c):a≠t:=fun z=>by
 obtain⟨o,h⟩:=S.sc
 obtain⟨rs,h2⟩:=S.tw
 rw[z,h2.tw]at h
 cases h
theorem LawSt.nar(S:LawSt H a t r Pa q ns c):a≠r:=fun z=>by
 obtain⟨o,h⟩:=S.sc
 obtain⟨rs,h2⟩:=S.tw
 rw[z,h2.rt]at h
 cases h
theorem LawSt.sq(S:LawSt H a t r Pa q ns c):SqL K H a (ns.map V.int):=let ⟨o,h⟩:=S.sc; .inl (.inr ⟨o,h⟩)
theorem LawSt.keep(S:LawSt H a t r Pa q ns c)(A:Apart t r H H'){b:Addr}{o:HO}(e:H b=some o)(n:∀kvs,o≠ .dK kvs):H' b=some o:=by
 obtain⟨rs,h2⟩:=S.tw
 refine A b o e (fun z=>?_) fun z=>?_
 ·rw[z,h2.tw]at e;cases e;exact n _ rfl
 ·rw[z,h2.rt]at e;cases e;exact n _ rfl
theorem LawSt.tup(S:LawSt H a t r Pa q ns c)(A:Apart t r H H'){b:Addr}{xs:List V}(e:H b=some (.tup xs)):H' b=some (.tup xs):=S.keep A e fun _ z=>nomatch z
theorem LawSt.drawn(S:LawSt H a t r Pa q ns c)(A:Apart t r H H'){rs:List (Key × V)}(T:TownAt H' t r c' rs):LawSt H' a t r Pa q ns c':=by
 obtain⟨o,h⟩:=S.sc
 obtain⟨ps,h1,h2,h3⟩:=S.tab
 exact⟨⟨o,S.keep A h fun _ z=>nomatch z⟩,⟨rs,T⟩,⟨ps,S.keep A h1 (fun _ z=>nomatch z),h2,fun p cv z=>let ⟨b,z1,z2⟩:=h3 p cv z;⟨b,z1,S.keep A z2 fun _ z=>nomatch z⟩⟩,S.ln⟩
theorem LawSt.xH(S:LawSt H a t r Pa q ns c)(k:∀b o,H b=some o→b≠Pa→H' b=some o) {b:Addr} {o:HO} (e:H b=some o) (n:∀ps,o≠ .tbl ps):H' b=some o:=by
 obtain⟨ps,h1,_⟩:=S.tab
 refine k b o e fun z=>?_
 rw[z,h1]at e
 cases e
 exact n _ rfl
theorem LawSt.lam(S:LawSt H a t r Pa q ns c)(k:∀b o,H b=some o→b≠Pa→H' b=some o) (T:WS H' Pa q):LawSt H' a t r Pa q ns c:=by
 obtain⟨o,h⟩:=S.sc
 obtain⟨rs,h2⟩:=S.tw
 exact⟨⟨o,S.xH k h fun _ z=>nomatch z⟩,⟨rs,S.xH k h2.tw (fun _ z=>nomatch z),S.xH k h2.rt (fun _ z=>nomatch z),h2.vs,h2.c0,h2.ln,h2.ne⟩,T,S.ln⟩
end
end L2
set_option Elab.async false
set_option linter.all false
set_option maxRecDepth 100000
namespace L2
open PySem PySem.Spec PyProof.Rows
noncomputable def jW(scope:Scope)(env:Env)(C:Addr):Env:=
 {scope:=scope,locals:=C,globals:=env.globals,cells:=cellsFrom (C+1) scope.names [],qual:=env.qual,func:=none,code:=env.code,frame:=env.frame,builtins:=env.builtins}
noncomputable abbrev JT(X:Cx)(NB:List Str)(scope:Scope)(s:Shared)(H:Hp)(ex:List Addr):Cx:=
 {X with N:=NB,s₀:=s,H₀:=H,env:=jW scope X.env s.heap.objs.size,outer:=X.stack,ex:=ex,fn:=fun _=>true,pn:=[],xe:=fun _ _=>False}
structure BlkScope(NB:List Str)(scope:Scope):Prop where
 kind:scope.kind=.function
 nd:NB.Nodup
 nofree:∀y∈scope.names,y.2≠ .free
 loc:∀y∈scope.names,y.2=.local→scope.names.lookup y.1=some .local
theorem KC{scope:Scope}{env:Env}(h:∀y∈scope.names,y.2≠ .free):relabel scope env=scope:=by
 obtain⟨k,names,g,c,m⟩:=scope
 have e:∀l:List (Str × NameKind),(∀y∈l,y.2≠ .free)→(l.map fun(n,k)=>if(k==NameKind.free&&env.scope.kind==.function&&env.kindOf n==some .cell)then(n,NameKind.cell)else(n,k))=l:=by
  intro l
  induction l with
  |nil=>intro _;rfl
  |cons y r ih=>
   intro hl
   obtain⟨n,k⟩:=y
   have hk:(k==NameKind.free)=false:=beq_eq_false_iff_ne.mpr (hl (n,k) List.mem_cons_self)
   rw[List.map_cons,ih fun y hy=>hl y (List.mem_cons_of_mem _ hy)]
   simp only[hk,Bool.false_and,Bool.false_eq_true,if_false]
 unfold relabel
 simp only[e names h]
theorem Yt{scope:Scope}{env:Env}(h:∀y∈scope.names,y.2≠ .free):closureFor scope env=pure []:=by
 rw[ZP fun y hy e=>absurd e (h y hy)]
 have e:∀(l:List (Str × NameKind))(acc:List (Str × Addr)),(∀y∈l,y.2≠ .free)→JV env.cells l acc=acc:=by
  intro l
  induction l with
  |nil=>intro acc _;rfl
  |cons y r ih=>
   intro acc hl
   obtain⟨n,k⟩:=y
   have hk:(k==NameKind.free)=false:=beq_eq_false_iff_ne.mpr (hl (n,k) List.mem_cons_self)
   unfold JV
   rw[hk]
   exact ih acc fun y hy=>hl y (List.mem_cons_of_mem _ hy)
 rw[e _ _ h]
theorem Xu{M:Model}{A:Around}{E:Value→Shared→Prop}{s:Shared}{scope:Scope}{globals:Addr}{qual:Str}{env:Env}{Q:Env→Shared→Prop}(hk:scope.kind=.function)
  (hQ:∀cenv s',cenv={scope:=scope,locals:=s.heap.objs.size,globals:=globals,cells:=cellsFrom (s.heap.objs.size+1) scope.names [],qual:=qual,func:=none,code:=env.code,frame:=env.frame,builtins:=env.builtins}→
   InCallC s s.heap.objs.size (fun _=>none) (cellsFrom (s.heap.objs.size+1) scope.names []) (fun _=>none) s'→Q cenv s'):
  wpAny M A (newFunctionEnv scope globals [] [] qual none .none (some env)) Q E s:=by
 simp only[newFunctionEnv,Option.isSome_some,if_true]
 refine wpAny_bind (wpAny_alloc ?_)
 refine wpAny_bind (wpAny_layCells _ (fun name kind cells=>by cases hkc:kind==NameKind.cell<;>simp[hkc]) _ _ _ _ ?_)
 have ok:=cellsFrom_ok scope.names (s.heap.push {cls:=.type "dict",data:=.dict #[]}) (s.heap.objs.size+1) [] ⟨fun _ _ hm=>(nomatch hm),List.Pairwise.nil⟩ (by rw[Heap.size_push];exact Nat.le_refl _)
 rw[Heap.size_push]at ok
 rw[show({s with heap:=s.heap.push {cls:=.type "dict",data:=.dict #[]}}:Shared).heap.objs.size=s.heap.objs.size+1 from Heap.size_push ..]
 refine wpAny_bind (wpAny_pure (wpAny_pure (hQ _ _ rfl ?_)))
 exact⟨⟨⟨_,_,rfl⟩,(Heap.Ns.new s.heap (.type "dict")).keeps (pushCells_keeps _ _),fun b o e=>pushCells_keeps _ _ b o (Heap.get?_push_of_some _ e),Nat.le_refl _⟩,
   fun n c hc=>(ok.empty n c (mem_of_lookup hc)).1,ok.apart,fun n c hm=>(ok.empty n c hm).2⟩
section
variable {prog:Program}{w:World}{A:Around}{E:Value→Shared→Prop}{R:Result→Shared→Prop}{s:Shared}
theorem Wl{elt target iter:Expr}{ifs:List Expr}{scope:Scope}{pos:Pos}{it acc:Value}{env:Env}(I:Nat→Shared→Prop)
  (turn:∀n s,I n s→wpAny (model prog w) A (pyNext it) (fun r s₁=>match r with
   |none=>R (.ok .next) s₁
   |some v=>wpAny (model prog w) A (letOwnedTupleGo target it v) (fun _ s₁'=>wpAny (model prog w) A (assign target env v) (fun _ s₂=>
     wpAny (model prog w) A (forIn ifs true fun c r=>if r=true then do let ok←isTrue c env (eval c env);pure (ForInStep.yield ok)else pure (ForInStep.yield r)) (fun ok s₃=>
      if ok=true then wpAny (model prog w) A (eval elt env) (fun x s₄=>
       wpAny (model prog w) A (call (.builtin "list.append") [acc,x]) (fun _ s₅=>∃m,m<n∧I m s₅) (notedBy (model prog w) A env fun e s'=>R (.error e) s') s₄) (notedBy (model prog w) A env fun e s'=>R (.error e) s') s₃
      else ∃m,m<n∧I m s₃) (notedBy (model prog w) A env fun e s'=>R (.error e) s') s₂) (notedBy (model prog w) A env fun e s'=>R (.error e) s') s₁') (notedBy (model prog w) A env fun e s'=>R (.error e) s') s₁) (notedBy (model prog w) A env fun e s'=>R (.error e) s') s)
  (n:Nat) (h:I n s):
  codeAny (model prog w) A (.compLoop (.ListComp elt [⟨target,iter,ifs,0⟩] scope pos) 0 it acc env) R s:=by
 refine codeAny_loop rfl I (fun n s hI=>?_) n h
 show wpAny _ A ((compTurn (.ListComp elt [⟨target,iter,ifs,0⟩] scope pos) 0 it acc env).onRaise (fun x=>do noteFrame x env;theTreesLotGoes x)) _ _ s
 refine wpAny_noted ?_
 rw[compTurn_list]
 refine wpAny_bind (wpAny_standAt (wpAny_bind (wpAny_mono (turn n s hI) (fun r s₁ h₁=>?_) fun _ _ h'=>h')))
 cases r with
 |none=>exact wpAny_pure h₁
 |some v=>
  refine wpAny_bind (wpAny_mono h₁ (fun _ s₁' h₁'=>?_) fun _ _ h'=>h')
  refine wpAny_bind (wpAny_mono h₁' (fun _ s₂ h₂=>wpAny_bind (wpAny_mono h₂ (fun ok s₃ h₃=>?_) fun _ _ h'=>h')) fun _ _ h'=>h')
  cases ok with
  |false=>exact wpAny_pure ⟨rfl,h₃⟩
  |true=>
   exact wpAny_bind (wpAny_bind (wpAny_mono h₃ (fun x s₄ h₄=>wpAny_bind (wpAny_mono h₄ (fun _ s₅ h₅=>wpAny_pure (wpAny_pure ⟨rfl,h₅⟩)) fun _ _ h'=>h')) fun _ _ h'=>h'))
end
noncomputable def PTs(X:Cx)(ifs:List Expr)(t:TT):Prop:=
 ∀(pins:List (Addr × Obj))(s:Shared)(σ:St)(H:Hp)(Q:Bool→Hp→Prop),Inv X pins σ H s→t σ H Q→
  wpAny (model X.prog X.w) X.A (forIn ifs true fun c r=>if r=true then do let ok←isTrue c X.env (eval c X.env);pure (ForInStep.yield ok)else pure (ForInStep.yield r)) (TP X pins σ Q) X.xe s
noncomputable def wZ:TT:=fun _ H Q=>Q true H
theorem XC{X:Cx}:PTs X [] wZ:=fun pins s σ H Q I h=>wpAny_tests_nil ⟨H,I,h⟩
theorem Vw{X:Cx}{c:Expr}{t:TT}(h:PT X c t):PTs X [c] t:=fun pins s σ H Q I q=>wpAny_tests_one (h pins s σ H Q I q)
noncomputable def Uk(NB:List Str)(wi:TI)(g:TG)(tt:TT)(te:TE):TE:=fun σ H Q=>wi σ H fun J H1=>∃W:Nat→Nat→List V→Hp→Prop,(∃m,W 0 m [] H1)∧∀i m vs H,W i m vs H→
 (J.stop i H∧∀p,H p=none→Q (.ref p) (upd H p (.lst vs)))∨(J.go i H∧vs.length<sizeLine∧∃N:List V→Hp→Prop,(∀vs' H',N vs' H'→∃m',m'<m∧W (i+1) m' vs' H')∧
  ∀x H',J.yld i H x H'→g x (List.replicate NB.length none) H' fun σ2 H2=>tt σ2 H2 fun b H3=>if b=true then te σ2 H3 fun v H4=>N (vs++[v]) H4 else N vs H3)
noncomputable abbrev Xq(ys:List Value):Obj:={cls:=.type "list",data:=.seq ys.toArray ys.length}
section
variable {X:Cx}
theorem ZQ{elt tg iter:Expr}{ifs:List Expr}{scope:Scope}{pos:Pos}{NB:List Str}{wi:TI}{g:TG}{tt:TT}{te:TE}(hc:X.calm=true)(S:BlkScope NB scope)(hi:PI X tg iter wi)
  (hg:∀s H ex,PG (JT X NB scope s H ex) tg g) (ht:∀s H ex,PTs (JT X NB scope s H ex) ifs tt) (he:∀s H ex,PE (JT X NB scope s H ex) elt te)
  (hs:∀x,foldedSetIterable iter X.env x=pure x:=by intro _;rfl):PE X (.ListComp elt [⟨tg,iter,ifs,0⟩] scope pos) (Uk NB wi g tt te):=by
 intro pins s σ H Q I h
 rw[eval_ListComp]
 refine wpAny_comprehension_free (use:=none) (cl:=[]) rfl hs (Yt S.nofree) S.kind S.loc (thn (hi pins s σ H _ I h) fun v s1 h1=>thn h1 fun itv s2 h2=>?_)
 obtain⟨it,fp,tn,J,H2,e,I2,T,st2,f2,W,⟨m0,w0⟩,turn⟩:=h2
 subst e
 refine wpAny_newObj_type ?_
 have up2:∀b o,s2.heap.get? b=some o→(s2.heap.push {cls:=.type "list",data:=.seq ([]:List Value).toArray}).get? b=some o:=fun b o e=>Heap.get?_push_of_some _ e
 have I3:Inv X pins σ H2 {s2 with heap:=s2.heap.push {cls:=.type "list",data:=.seq ([]:List Value).toArray}}:=I2.kept (t':=s2.toks) up2
 have st3:tn 0 (s2.heap.push {cls:=.type "list",data:=.seq ([]:List Value).toArray}):=T.keep _ _ _ st2 fun b _ o e=>up2 b o e
 have hD3:(s2.heap.push {cls:=.type "list",data:=.seq ([]:List Value).toArray}).get? s2.heap.objs.size=some (Xq []):=Heap.get?_push_size _ rfl
 have hD2:H2 s2.heap.objs.size=none:=I2.hok.fresh (Nat.le_refl _)
 have lt2:∀b o,s2.heap.get? b=some o→b≠s2.heap.objs.size:=fun b o e=>Nat.ne_of_lt (Heap.lt_size e)
 have fpO:∀b∈fp,∃o,s2.heap.get? b=some o:=fun b hb=>let ⟨o,e,_⟩:=T.obj _ _ st2 b hb;⟨o,e⟩
 have hDs0:X.s₀.heap.objs.size≤s2.heap.objs.size:=I2.sz
 have hDL:s2.heap.objs.size≠X.env.locals:=Nat.ne_of_gt I2.lt
 have hDC:∀x c,X.env.cells.lookup x=some c→c≠s2.heap.objs.size:=fun x c e=>let ⟨v,o,e1,_⟩:=I2.cell x c e;lt2 c o e1
 have hDp:∀p∈X.pn++pins,p.1≠s2.heap.objs.size:=fun p hp=>lt2 p.1 _ (I2.pin p hp).1
 have hDf:s2.heap.objs.size∉frs X.stack:=fun z=>let ⟨o,e,_⟩:=(I2.stack.mem z).2;lt2 _ o e rfl
 generalize hS3:({s2 with heap:=s2.heap.push {cls:=.type "list",data:=.seq ([]:List Value).toArray}}:Shared)=s3 at I3 ⊢
 have hh3:s3.heap=s2.heap.push {cls:=.type "list",data:=.seq ([]:List Value).toArray}:=by rw[←hS3]
 rw[←hh3]at st3 hD3 up2
 generalize s2.heap.objs.size=D at hD3 hD2 lt2 hDs0 hDL hDC hDp hDf ⊢
 refine Xu S.kind fun cenv s4 hce x4=>?_
 subst hce
 rw[KC S.nofree]
 have lt3:∀b o,s3.heap.get? b=some o→b<s3.heap.objs.size:=fun b o e=>Heap.lt_size e
 have fp3:∀b∈fp,b<s3.heap.objs.size:=fun b hb=>let ⟨o,e⟩:=fpO b hb;lt3 b o (up2 b o e)
 have dl3:D<s3.heap.objs.size:=lt3 D _ hD3
 have DfpN:∀b∈fp,b≠D:=fun b hb=>let ⟨o,e⟩:=fpO b hb;lt2 b o e
 obtain⟨h4,tk4,rfl,hk4⟩:=x4.done
 have bsN:∀b o,X.base.get? b=some o→b∉D::fp:=fun b o e hb=>by
  rcases List.mem_cons.mp hb with rfl|hb
  ·exact absurd (Nat.lt_of_lt_of_le (Heap.lt_size (I2.ok.bs b o e).1) hDs0) (Nat.lt_irrefl _)
  ·obtain⟨_,_,_,f3,_⟩:=f2 b hb
   rcases f3 with z|z
   ·exact I2.ok.noex b o e z
   ·exact absurd (Nat.lt_of_lt_of_le (Heap.lt_size (I2.ok.bs b o e).1) z) (Nat.lt_irrefl _)
 have exF:∀b∈D::fp,b∉frs X.stack:=fun b hb hf=>by
  rcases List.mem_cons.mp hb with rfl|hb
  ·exact hDf hf
  ·obtain⟨_,f1,f2',_⟩:=f2 b hb
   rcases List.mem_cons.mp (I2.XQ b hf)with z|z
   ·exact f1 z
   ·exact f2' z
 have cge:∀y c,(cellsFrom (s3.heap.objs.size+1) scope.names []).lookup y=some c→s3.heap.objs.size<c:=fun y c e=>x4.above y c (PySem.mem_of_lookup e)
 have exLt:∀b∈D::fp,b<s3.heap.objs.size:=fun b hb=>by
  rcases List.mem_cons.mp hb with rfl|hb
  ·exact dl3
  ·exact fp3 b hb
 have okB:(JT X NB scope s3 H2 (D::fp)).Ok:=by
  refine⟨I3.ok.mod,S.kind,I3.ok.glob,I3.ok.blt,Nat.le_refl _,fun y z c h1 h2=>?_,fun y hy=>?_,fun y c _ h=>Nat.le_of_lt (cge y c h),I3.ok.hd,I3.ok.frames,.inl rfl,fun b hb=>⟨Nat.ne_of_lt (exLt b hb),fun y c e z=>?_⟩,I3.bs,Nat.le_trans I3.ok.bsz I3.sz,bsN,exF,I3.stack,I3.Xy⟩
  ·exact name_of_addr x4.apart (PySem.mem_of_lookup h1) (PySem.mem_of_lookup h2)
  ·have hy:scope.names.lookup y=some .cell∨scope.names.lookup y=some .free:=hy
   rcases hy with hy|hy
   ·exact KO hy
   ·exact absurd rfl (S.nofree _ (PySem.mem_of_lookup hy))
  ·have:=cge y c e
   rw[z]at this
   exact absurd (Nat.lt_trans this (exLt b hb)) (Nat.lt_irrefl _)
 have rep:∀(j:Nat)(v:V),(List.replicate NB.length (none:Option V))[j]? ≠some (some v):=fun j v z=>by
  rw[List.getElem?_replicate]at z
  split at z<;>cases z
 have IB:Inv (JT X NB scope s3 H2 (D::fp)) [(D,Xq [])] (List.replicate NB.length none) H2 {s3 with heap:=h4,toks:=tk4}:=by
  refine⟨okB,rfl,I3.bare,Un.kept hk4,⟨_,x4.toInCall.ns,fun i y v h1 h2 h3=>absurd h2 (rep i v)⟩,fun y c h=>⟨_,x4.cell y c h⟩,I3.hok.fresh (Nat.le_refl _),fun y c h=>I3.hok.fresh (Nat.le_of_lt (cge y c h)),fun p hp=>?_,I3.hok.kept hk4,by rw[List.length_replicate]⟩
  obtain rfl:p=(D,Xq []):=by simpa using hp
  exact⟨hk4 _ _ hD3,hD2,Nat.ne_of_lt dl3,hDf,fun v z=>nomatch z⟩
 have stat:∀{H':Hp}{ys:List Value},(∀b∈fp,H' b=none)→∀b∈fp,jq (JT X NB scope s3 H2 (D::fp)) [(D,Xq ys)] H' b:=fun hn b hb=>
  ⟨hn b hb,Nat.ne_of_lt (fp3 b hb),exF b (List.mem_cons_of_mem _ hb),.inl (List.mem_cons_of_mem _ hb),fun y c e z=>by
   have:=cge y c e
   rw[z]at this
   exact absurd (Nat.lt_trans this (fp3 b hb)) (Nat.lt_irrefl _),fun p hp=>by
    obtain rfl:p=(D,_):=by simpa using hp
    exact(DfpN b hb).symm⟩
 have st4:tn 0 h4:=T.keep _ _ _ st3 fun b _ o e=>hk4 b o e
 have fr4:∀b∈fp,H2 b=none:=fun b hb=>(f2 b hb).1
 have hcB:(JT X NB scope s3 H2 (D::fp)).calm=true:=hc
 have loop:codeAny (model X.prog X.w) X.A (.compLoop (.ListComp elt [⟨tg,iter,ifs,0⟩] scope pos) 0 (.ref it) (.ref D) (jW scope X.env s3.heap.objs.size))
   (compPost (model X.prog X.w) X.A X.xe none (EP X pins σ Q) (.ref D) s3.heap.objs.size) {s3 with heap:=h4,toks:=tk4}:=by
  refine Wl (fun n s'=>∃i vs ys H',Inv (JT X NB scope s3 H2 (D::fp)) [(D,Xq ys)] (List.replicate NB.length none) H' s'∧Vals vs ys∧vs.length≤sizeLine∧tn i s'.heap∧(∀b∈fp,H' b=none)∧W i n vs H') ?_ m0 ⟨0,[],[],H2,IB,.nil,Nat.zero_le _,st4,fr4,w0⟩
  rintro n s5 ⟨i,vs,ys,H5,I5,rv,hvl,st5,fr5,w5⟩
  rcases turn i n vs H5 w5 with⟨stop,qn⟩|⟨go,hlt,N,hN,step⟩
  ·refine wpAny_mono (T.done (JT X NB scope s3 H2 (D::fp)) rfl rfl rfl hcB i _ s5 _ H5 (fun _ _=>False) I5 (stat fr5) st5 stop) (fun r s6⟨hr,I6⟩=>?_) (fun _ _ z=>z.elim)
   subst hr
   obtain⟨m6,hn6,_⟩:=id I6.loc
   refine⟨m6,hn6,fun h7 sb7=>?_⟩
   have kp7:∀b o,b≠s3.heap.objs.size→s6.heap.get? b=some o→h7.get? b=some o:=fun b o hb e=>(sb7.2 b hb).trans e
   have hC6:H5 s3.heap.objs.size=none:=I6.free
   have un7:Un (frs X.stack) (D::fp) H2 H5 s3.heap h7:=by
    have u:=I6.base
    refine⟨fun b o e n hb hx=>kp7 b o (Nat.ne_of_lt (Heap.lt_size e)) (u.keep b o e n hb hx),fun b o e n hb hx=>?_,u.free,fun b o e hx=>?_,u.tups,u.frzs,u.tbls⟩
    ·obtain⟨sl,q⟩:=u.slot b o e n hb hx
     exact⟨sl,kp7 b _ (Nat.ne_of_lt (Heap.lt_size e)) q⟩
    ·obtain⟨o',q⟩:=u.there b o e hx
     exact⟨o',kp7 b _ (Nat.ne_of_lt (Heap.lt_size e)) q⟩
   have hok7:HOk X.prog X.w H5 h7:=fun b u e=>(I6.hok b u e).Kw (fun c w' hcc q=>kp7 c w' (by
    rintro rfl
    rcases hcc with rfl|hcc
    ·rw[hC6]at e;cases e
    ·rw[hC6]at hcc;cases hcc) q) (fun _ q=>q) fun _ _ q=>q
   have I7:Inv X pins σ H5 {s6 with heap:=h7}:=I3.jm (s':={s6 with heap:=h7}) I6.os un7 hok7 I6.bare fun b hb=>by
    rcases List.mem_cons.mp hb with rfl|hb
    ·exact⟨.inr hDs0,hDL,hDC,hDp⟩
    ·obtain⟨_,f1,_,f3,f4,f5⟩:=f2 b hb
     exact⟨f3,f1,f4,f5⟩
   obtain⟨eD,nD,_⟩:=I6.pin (D,Xq ys) (by simp)
   have nD':H5 D=none:=nD
   have eD':h7.get? D=some (Xq ys):=kp7 D _ (Nat.ne_of_lt dl3) eD
   have hD0:X.s₀.heap.get? D=none:=by
    cases q:X.s₀.heap.get? D with
    |none=>rfl
    |some o=>exact absurd (Nat.lt_of_lt_of_le (Heap.lt_size q) hDs0) (Nat.lt_irrefl _)
   exact⟨.ref D,upd H5 D (.lst vs),I7.xv nD' hD0 hDL hDC hDp ⟨hvl,ys,ys.length,rv,eD'⟩,rfl,qn D nD'⟩
  ·refine wpAny_mono (T.item (JT X NB scope s3 H2 (D::fp)) rfl rfl rfl hcB i _ s5 _ H5 (fun _ _=>False) I5 (stat fr5) st5 go) (fun r s6⟨u,hr,h6⟩=>?_) (fun _ _ z=>z.elim)
   subst hr
   refine wpAny_mono h6 (fun _ s7⟨x,H7,I7,r7,y7,st7,fr7⟩=>?_) (fun _ _ z=>z.elim)
   have I7':=I7.pinned (stat fr7) (T.obj _ _ st7)
   refine wpAny_mono (hg s3 H2 (D::fp) _ s7 _ H7 x u _ I7' r7 (step x H7 y7)) (fun _ s8⟨σ8,H8,I8,q8⟩=>?_) (fun _ _ z=>z.elim)
   refine wpAny_mono (ht s3 H2 (D::fp) _ s8 σ8 H8 _ I8 q8) (fun ok s9⟨H9,I9,q9⟩=>?_) (fun _ _ z=>z.elim)
   have fpK:∀{σ':St}{H':Hp}{s':Shared},Inv (JT X NB scope s3 H2 (D::fp)) ([(D,Xq ys)]++K8 fp s7.heap) σ' H' s'→tn (i+1) s'.heap∧∀b∈fp,H' b=none:=fun J=>
    ⟨T.keep _ _ _ st7 fun b hb o e=>(J.pin (b,o) (List.mem_append_right _ (List.mem_append_right _ (JO hb e)))).1,fun b hb=>by
     obtain⟨o,e,d⟩:=T.obj _ _ st7 b hb
     exact(J.pin (b,o) (List.mem_append_right _ (List.mem_append_right _ (JO hb e)))).2.1⟩
   have wk:∀{σ':St}{H':Hp}{s':Shared}{pl:List (Addr × Obj)},Inv (JT X NB scope s3 H2 (D::fp)) pl σ' H' s'→Inv (JT X NB scope s3 H2 (D::fp)) pl (List.replicate NB.length none) H' s':=fun J=>
    J.weak (by rw[List.length_replicate];exact J.len.symm) fun j v z=>absurd z (rep j v)
   cases ok with
   |false=>
    rw[if_neg (by decide)]at q9
    rw[if_neg (by decide)]
    obtain⟨m',hm,w9⟩:=hN vs H9 q9
    obtain⟨t9,f9⟩:=fpK I9
    exact⟨m',hm,i+1,vs,ys,H9,wk I9.Zl,rv,hvl,t9,f9,w9⟩
   |true=>
    rw[if_pos rfl]at q9
    rw[if_pos rfl]
    refine wpAny_mono (he s3 H2 (D::fp) _ s9 σ8 H9 _ I9 q9) (fun y s10⟨v,H10,I10,rv10,q10⟩=>?_) (fun _ _ z=>z.elim)
    obtain⟨eD,nD,_,nf,_⟩:=I10.pin (D,Xq ys) (by simp)
    have hyl:=rv.length
    refine append_at (hsz:=by show ys.toArray.size≤sizeLine;rw[List.size_toArray, ←hyl];exact hvl) eD fun h11 sb11 hD11=>?_
    obtain⟨m',hm,w11⟩:=hN (vs++[v]) H10 q10
    obtain⟨t10,f10⟩:=fpK I10
    have I10u:=I10.Zl
    have k11:∀b o,b≠D→s10.heap.get? b=some o→h11.get? b=some o:=fun b o hb e=>(sb11.2 b hb).trans e
    have IE:Inv (JT X NB scope s3 H2 (D::fp)) [] σ8 H10 s10:=I10u.Z1 fun p hp=>nomatch hp
    have I11:Inv (JT X NB scope s3 H2 (D::fp)) [] σ8 H10 {s10 with heap:=h11}:=IE.turned (t':=s10.toks) k11 nD (Nat.ne_of_lt dl3) (.inl List.mem_cons_self) (fun y' c e z=>by
     have:=cge y' c e
     rw[z]at this
     exact absurd (Nat.lt_trans this dl3) (Nat.lt_irrefl _)) (fun p hp=>absurd (show p∈([]:List (Addr × Obj))from hp) (by simp))
    have eL:({cls:=.type "list",data:=.seq (ys.toArray.push y) (ys.length+1)}:Obj)=Xq (ys++[y]):=by
     show({cls:=.type "list",data:=.seq (ys.toArray.push y) (ys.length+1)}:Obj)={cls:=.type "list",data:=.seq (ys++[y]).toArray (ys++[y]).length}
     rw[List.length_append,List.length_singleton,List.push_toArray]
    refine⟨m',hm,i+1,vs++[v],ys++[y],H10,wk (I11.Z1 fun p hp=>?_),rv.append (.cons rv10 .nil),by rw[List.length_append,List.length_singleton];exact hlt,T.keep _ _ _ t10 fun b hb o e=>k11 b o (DfpN b hb) e,f10,w11⟩
    obtain rfl:p=(D,Xq (ys++[y])):=by simpa using hp
    exact⟨by rw[←eL];exact hD11,nD,Nat.ne_of_lt dl3,nf,fun v z=>nomatch z⟩
 exact codeAny_compStart_list loop (T.self _ 0 _ _ _ st4 loop)
end
end L2
set_option Elab.async false
set_option linter.all false
set_option maxRecDepth 100000
namespace L2
open PySem PySem.Spec PyProof.Rows
open Builtin Builtin.Str
section
variable {prog:Program}{w:World}{A:Around}{E:Value→Shared→Prop}{s:Shared}
theorem call_gives{name:Str}{id:String}{B:Builtin}{x:Str}{t:Tok}{rest:List Value}{m:Made}{Q:Value→Shared→Prop}(slot:Slot "str" name id)(entry:entryFor table id=some B)(args:argsOk id ⟨.str x t::rest,[]⟩)
  (g:Gives (B ⟨.str x t::rest,[]⟩) m) (h:m.post Q s):wpAny (model prog w) A (call (.builtin id) (.str x t::rest)) Q E s:=
 wpAny_call (codeAny_call_builtin slot.plain entry (slot.check _ _ _ _ _ _ _ _ (typeIs_str _ _ _) args (g prog w A (wants Q E) s h)))
end
section
variable {X:Cx}
noncomputable def Qbi(C:Str→Str→Prop)(f:Str→Str→V):V→List V→Hp→VK→Prop:=fun x vs H Q=>∃z y,x=.str z∧vs=[.str y]∧C z y∧Q (f z y) H
noncomputable def Qck(z _:Str):Prop:=z.length≤sizeLine
theorem X2:MtR X "str.strip" (Qbi Qck fun z y=>.str (Txt.stripChars z y)):=by
 intro pins s σ H x vs v us Q I rx rv h
 obtain⟨z,y,rfl,rfl,hl,q⟩:=h
 obtain⟨t,rfl⟩:=rx
 obtain⟨u,rfl,t',rfl⟩:=vals1 rv
 exact call_gives F.slot_str_strip F.entry_str_strip (F.args_str_strip_2 _ _) (gives_str_strip_chars z y t t') (post_val_or_made (fun _=>fits_stripped _ _ _ hl) fun t2 k=>⟨.str _,H,I.tok k,⟨t2,rfl⟩,q⟩)
theorem Vx:MtR X "str.startswith" (Qbi (fun _ _=>True) fun z y=>.bl (Txt.startswith z y)):=by
 intro pins s σ H x vs v us Q I rx rv h
 obtain⟨z,y,rfl,rfl,_,q⟩:=h
 obtain⟨t,rfl⟩:=rx
 obtain⟨u,rfl,t',rfl⟩:=vals1 rv
 exact call_gives F.slot_str_startswith F.entry_str_startswith (F.args_str_startswith_2 _ _) (gives_str_startswith z y t t') ⟨.bl _,H,I,rfl,q⟩
theorem Vy:MtR X "str.zfill" (fun x vs H Q=>∃z i,x=.str z∧vs=[.int i]∧PadOk i=true∧Q (.str (Txt.zfill z i)) H):=by
 intro pins s σ H x vs v us Q I rx rv h
 obtain⟨z,i,rfl,rfl,hp,q⟩:=h
 obtain⟨t,rfl⟩:=rx
 obtain⟨u,rfl,t',rfl⟩:=vals1 rv
 exact call_gives F.slot_str_zfill F.entry_str_zfill (F.args_str_zfill_2 _ _) (gives_str_zfill z i t t' (PadOk.parts hp).1 (PadOk.parts hp).2) (post_val_or_made (fits_zfilled (PadOk.parts hp).2) fun t2 k=>⟨.str _,H,I.tok k,⟨t2,rfl⟩,q⟩)
theorem ZK:SlR X (fun x lo hi H Q=>∃z,x=.str z∧z.length≤sizeLine∧Q (.str (StrLaws.sliceText z lo hi)) H):=by
 intro pins s σ H x v vl vu lo hi sl Q I rx hs pl pu h
 obtain⟨z,rfl,hl,q⟩:=h
 obtain⟨t,rfl⟩:=rx
 have part:∀{v:Value}{o:Option Int},IsPart v o→∃p:Option (Int × Tok),v=partValue p∧p.map (·.1)=o:=fun p=>by
  cases p with
  |none=>exact⟨none,rfl,rfl⟩
  |int i t=>exact⟨some (i,t),rfl,rfl⟩
 obtain⟨p,rfl,rfl⟩:=part pl
 obtain⟨p2,rfl,rfl⟩:=part pu
 refine⟨"str",_,F.slot_str_getitem.lookup,typeIs_str _ _ _,?_⟩
 refine wpAny_getItem_str_slice (l:=p) (u:=p2) (st:=none) hs rfl ?_
 unfold sliceMade slicePicked
 refine post_val_or_made (fun _=>?_) fun t2 k=>⟨.str (StrLaws.sliceText z (p.map (·.1)) (p2.map (·.1))),H,I.tok k,⟨t2,rfl⟩,q⟩
 show(List.filterMap _ _).toArray.size≤sizeLine
 rw[List.size_toArray]
 exact Nat.le_trans (List.length_filterMap_le _ _) (Nat.le_trans (sliceIndices_le _ _ _) hl)
end
end L2
set_option Elab.async false
set_option linter.all false
set_option maxRecDepth 100000
namespace L2
open PySem PySem.Spec PyProof.Rows
open Builtin Builtin.Str
theorem jX:typeLookup (.type "list_reverseiterator") "__len__"=pure none:=by rw[typeLookup_type,builtinLookup_eq_fast];kernel_rfl
theorem xI:typeLookup (.type "list_reverseiterator") "__length_hint__"=pure (some (.builtin "list_reverseiterator.__length_hint__")):=by rw[typeLookup_type,builtinLookup_eq_fast];kernel_rfl
section
variable {prog:Program}{w:World}{A:Around}{E:Value→Shared→Prop}{s:Shared}
theorem jY(hh:A.handled=none)(I l:Addr)(hne:l≠I)(items:Array Value):
  WalksS prog w A I [I,l] [I] (fun a b=>a=b) items.size (fun i v=>items[items.size-1-i]? =some v) (fun i s=>i≤items.size∧s.heap.IsRevIter I l ((items.size:Int)-1-(i:Int))∧s.heap.IsList l items) where
 sub:=fun b hb=>by simp at hb;simp[hb]
 grefl:=fun _=>rfl
 gtrans:=fun _ _ _ a b=>a.trans b
 frame:=fun i s h' tk x _ hk=>⟨x.1,x.2.1.at fun o e=>hk I (by simp) o e,x.2.2.at fun o e=>hk l (by simp) o e⟩
 item:=fun i s Q E hi x hQ=>by
  have e:(items.size:Int)-1-(i:Int)=((items.size-1-i:Nat):Int):=by omega
  have hit:=x.2.1
  rw[e]at hit
  have hx:items[items.size-1-i]? =some (items[items.size-1-i]'(by omega)):=Array.getElem?_eq_getElem (by omega)
  refine wpAny_pyNext_rev_item hit x.2.2 hx fun h' hit' hs'=>?_
  have e2:((items.size-1-i:Nat):Int)-1=(items.size:Int)-1-((i+1:Nat):Int):=by omega
  rw[e2]at hit'
  exact hQ _ _ hx ⟨hi,hit',x.2.2.at fun o eo=>(hs'.2 l hne).trans eo⟩ ⟨fun b o hb eo=>hs'.extBut b o (fun h=>hb (by simp[h])) eo,rfl,rfl,rfl,Nat.le_refl _⟩
 done:=fun s Q E x hQ=>by
  have e:(items.size:Int)-1-(items.size:Int)= -1:=by omega
  have hit:=x.2.1
  rw[e]at hit
  exact wpAny_pyNext_rev_end hh hit fun h' he'=>hQ _ ⟨fun b o hb eo=>he' b o (fun h=>hb (by simp[h])) eo,rfl,rfl,rfl,Nat.le_refl _⟩
 self:=fun _ _ _ _ x hQ=>wpAny_pyIter_revIter x.2.1 hQ
variable {I:Addr}{fp wr:List Addr}{G:Array GenState→Array GenState→Prop}{n:Nat}{P:Nat→Value→Prop}{St:Nat→Shared→Prop}
theorem Ul{Q:List Value→Shared→Prop}(W:WalksS prog w A.in1 I fp wr G n P St)(hT:∀i s,St i s→s.TypeIs (.ref I) "list_reverseiterator") (hst:St 0 s) (hfp:∀b∈fp,b<s.heap.objs.size) (hI:I∈fp)
  (hQ:∀s' acc,Moved wr G s s'→ItemsOf P acc n→Q acc.toList s') (hn:n≤sizeLine):wpAny (model prog w) A (collect (.ref I)) Q E s:=by
 have hSf:s.heap.objs.size∉fp:=fun hm=>Nat.lt_irrefl _ (hfp _ hm)
 have hSI:s.heap.objs.size≠I:=fun e=>hSf (e▸hI)
 unfold collect
 refine wpAny_bind (wpAny_runValue (codeAny_builtin F.entry_proto_collect ?_))
 rw[Around.under_plainId F.plain_proto_collect _]
 show wpAny _ A.in1 (newList []>>=fun l=>again (.builtin "list.__iadd__" ⟨[l,.ref I],[]⟩)) _ _ s
 refine wpAny_bind (wpAny_newObj_type ?_)
 refine wpAny_pure ⟨plainId_quiet F.plain_list_iadd _,codeAny_builtin F.entry_list_iadd ?_⟩
 rw[Around.under_plainId F.plain_list_iadd _]
 have hst₁:=W.frame 0 s (s.heap.push {cls:=.type "list",data:=.seq ([]:List Value).toArray}) s.toks hst (Nat.le_refl _) fun b _ o e=>Heap.get?_push_of_some _ e
 have hS₁:(s.heap.push {cls:=.type "list",data:=.seq ([]:List Value).toArray}).get? s.heap.objs.size=some {cls:=.type "list",data:=.seq ([]:List Value).toArray}:=Heap.get?_push_size _ rfl
 have h1:Builtin.List.listSameRef (.ref s.heap.objs.size) (.ref I)=false:=by simp[Builtin.List.listSameRef,hSI]
 show wpAny _ A.in1 (Builtin.List.listExtendWith (.ref s.heap.objs.size) (.ref I) (.ref s.heap.objs.size)) _ _ _
 unfold Builtin.List.listExtendWith
 refine wpAny_bind (wpAny_typeOf (hT 0 _ hst₁) ?_)
 rw[if_neg (by rw[h1];decide)]
 refine wpAny_bind (W.self 0 _ _ _ hst₁ ?_)
 refine wpAny_bind (wpAny_holding ?_)
 unfold Builtin.List.listLengthHint
 refine wpAny_bind (wpAny_specialOf (hT 0 _ hst₁) jX ?_)
 show wpAny _ A.in1 (specialOf (Value.ref I) (Str.ofString "__length_hint__")>>=_) _ _ _
 refine wpAny_bind (wpAny_specialOf (hT 0 _ hst₁) xI ?_)
 generalize hid:("list_reverseiterator.__length_hint__":String)=id0
 (fail_if_success (clear hid id0))
 wp_delta
 rw[show splitId id0=some ("list_reverseiterator","__length_hint__")from by subst hid;decide+kernel]
 subst hid
 refine wpAny_bind (wpAny_isInstance (b:=true) (hT 0 _ hst₁) (by rw[isSubtype_type];kernel_rfl) ?_)
 refine wpAny_pure ?_
 rw[if_neg (by decide)]
 refine wpAny_pure ⟨plainId_quiet F.plain_extend_loop _,codeAny_extend_loopS W hn _ hSf _ n 0 _ _ _ rfl (Nat.zero_le _) hst₁ hS₁ (ItemsOf.nil P) fun s' acc' c' hm hS' hacc=>?_⟩
 show wpAny _ A (load s.heap.objs.size>>=_) _ _ s'
 refine wpAny_bind (wpAny_load hS' ?_)
 exact wpAny_pure (hQ s' acc' (Moved.drop_new (o:={cls:=.type "list",data:=.seq ([]:List Value).toArray}) (tk:=s.toks) hm (Nat.le_refl _)) hacc)
theorem xJ{x:Str}{t:Tok}{Q:Value→Shared→Prop}(W:WalksS prog w A.in1.in1 I fp wr G n P St)(hT:∀i s,St i s→s.TypeIs (.ref I) "list_reverseiterator") (hst:St 0 s) (hfp:∀b∈fp,b<s.heap.objs.size) (hI:I∈fp)
  (hstr:∀i v,P i v→∃y u,v=Value.str y u)
  (hq:∀s'(l:List (Str × Tok)),Moved wr G s s'→ItemsOf P (strValues l).toArray n→JoinOk x (l.map (·.1))=true∧∀t' k,Q (.str (Txt.join x (l.map (·.1))) t') {s' with toks:=k}) (hsz:n≤sizeLine):
  wpAny (model prog w) A (call (.builtin "str.join") [.str x t,.ref I]) Q E s:=by
 refine wpAny_call (codeAny_call_builtin F.slot_str_join.plain F.entry_str_join (F.slot_str_join.check _ _ _ _ _ _ _ _ (typeIs_str _ _ _) (F.args_str_join_2 _ _) ?_))
 rw[join_tree_other]
 refine wpAny_bind (wpAny_typeOf (hT 0 s hst) ?_)
 show wpAny _ A.in1 ((pyIter (.ref I)).tryCatch _>>=fun it=>collect it>>=fun items=>joinTail x items) _ _ s
 refine wpAny_bind (wpAny_tryCatch (W.of_in1.self 0 s _ _ hst ?_))
 refine wpAny_bind (Ul W hT hst hfp hI (fun s' acc hm hacc=>?_) hsz)
 obtain⟨l,hl⟩:=exists_strValues acc.toList fun v hv=>by
  obtain⟨j,hj,rfl⟩:=Array.mem_iff_getElem.mp (Array.mem_toList_iff.mp hv)
  exact hstr j _ (hacc.2 j _ (Array.getElem?_eq_getElem hj))
 rw[←hl]
 have hacc':ItemsOf P (strValues l).toArray n:=by rw[hl];simpa using hacc
 obtain⟨hok,hpost⟩:=hq s' l hm hacc'
 unfold JoinOk at hok
 rw[Bool.not_eq_true']at hok
 have g:Gives (joinTail x (strValues l)) (joinMade x l):=by
  have g0:=gives_joinTail x l hok
  cases l with
  |nil=>exact g0
  |cons p r=>cases r with
   |nil=>exact g0
   |cons q r'=>exact g0
 exact g prog w A (wants Q E) s' (post_join l ⟨joinFit_length hok,hpost⟩)
end
end L2
set_option Elab.async false
set_option linter.all false
set_option maxRecDepth 100000
namespace L2
open PySem PySem.Spec PyProof.Rows
open Builtin Builtin.Str
theorem boot_reversed:bootBuiltins "reversed"=some (.type "reversed"):=by boot_by_name
section
variable {X:Cx}
noncomputable def tJR(to te:TE):TE:=fun σ H Q=>to σ H fun x H1=>∃z,x=.str z∧te σ H1 fun y H2=>∃(l:Addr)(ys:List Str),y=.ref l∧H2 l=some (.lst (ys.map V.str))∧JoinOk z ys.reverse=true∧Q (.str (Txt.join z ys.reverse)) H2
theorem qR{o e:Expr}{to te:TE}{apos rpos cpos p:Pos}(hc:X.calm=true)(hg:Gl X "reversed")(hm:X.mg "reversed"=none)(ho:PE X o to)(he:PE X e te)
  (hbase:attributeBase o "join" X.env (eval o X.env)=eval o X.env:=by rfl) (hline:(apos.endLine==cpos.line)=true:=by rfl) (hs:starEach [e] X.env=[(false,eval e X.env)]:=by rfl):
  PE X (.Call (.Attribute o "join" apos) [.Call (.Name "reversed" p) [e] [] rpos] [] cpos) (tJR to te):=by
 intro pins s σ H Q I h
 refine wpAny_Call_method_late hbase rfl hline rfl (thn (ho pins s σ H _ I h) fun v s1⟨x,H1,I1,r1,q1⟩=>?_)
 obtain⟨z,rfl,q1⟩:=q1
 obtain⟨t,rfl⟩:=r1
 refine⟨"str","str.join",PySem.F.plainAttrs_str,PySem.F.slot_str_join,PySem.F.type_str_join,typeIs_str _ _ _,(fun _ e=>nomatch e),?_⟩
 refine Calls.callWith_builtin rfl (Calls.evalArgs_plain ?_)
 show wpAny _ _ (spliced ((false,eval (.Call (.Name "reversed" p) [e] [] rpos) X.env)::[])) _ _ s1
 refine Calls.spliced_cons ?_
 refine wpAny_Call_Name_kw (K5 I1 hg hm boot_reversed ?_ (by decide) (by decide))
 refine PyProof.Rows.callWith_type1 ?_ hs rfl
 rw[hs]
 show wpAny _ _ (spliced ((false,eval e X.env)::[])) _ _ s1
 refine Calls.spliced_cons (thn (he pins s1 σ H1 _ I1 q1) fun y s2⟨yv,H2,I2,r2,l,ys,e2,hl,hj,q2⟩=>Calls.spliced_nil ?_)
 subst e2
 obtain rfl:y=Value.ref l:=r2
 obtain⟨zz,its,n,rv,hlen,eo⟩:=I2.xp hl
 have hil:s2.heap.IsList l its.toArray:=⟨_,eo,rfl,n,rfl⟩
 have lenI:its.length=ys.length:=by rw[←rv.length,List.length_map]
 refine call_reversed_list hil ?_
 refine Calls.spliced_nil ?_
 have up:∀b o,s2.heap.get? b=some o→(s2.heap.push (revObj l ((its.toArray.size:Int)-1))).get? b=some o:=fun b o e=>Heap.get?_push_of_some _ e
 have I3:Inv X pins σ H2 {s2 with heap:=s2.heap.push (revObj l ((its.toArray.size:Int)-1))}:=I2.kept (t':=s2.toks) up
 have hne:l≠s2.heap.objs.size:=Nat.ne_of_lt (Heap.lt_size eo)
 have hh:X.A.in1.in1.handled=none:=I2.ok.hd hc
 have hstr0:∀(i:Nat)(u:Value),its.toArray[its.toArray.size-1-i]? =some u→∃y t,u=Value.str y t:=fun i u hu=>by
  have h1:its[its.toArray.size-1-i]? =some u:=by simpa using hu
  have hlt:=(List.getElem?_eq_some_iff.mp h1).1
  have h2:(ys.map V.str)[its.toArray.size-1-i]? =some ((ys.map V.str)[its.toArray.size-1-i]'(by rw[List.length_map];omega)):=List.getElem?_eq_getElem _
  obtain⟨u',e',r'⟩:=rv.get h2
  rw[h1]at e'
  cases e'
  rw[List.getElem_map]at r'
  obtain⟨t',rfl⟩:=r'
  exact⟨_,_,rfl⟩
 show wpAny _ _ (call (.builtin "str.join") [.str z t,.ref s2.heap.objs.size]) _ _ _
 refine xJ (jY hh s2.heap.objs.size l hne its.toArray) (fun i s x=>x.2.1.typeIs) ⟨Nat.zero_le _,⟨_,Heap.get?_push_size _ rfl,rfl,by simp[revObj]⟩,hil.push _⟩ (fun b hb=>?_) (by simp) hstr0 (fun s' ls hm hi=>?_) ?_
 ·show b<(s2.heap.push _).objs.size
  rw[Heap.size_push]
  rcases List.mem_cons.mp hb with rfl|hb
  ·exact Nat.lt_succ_self _
  ·rw[List.mem_singleton.mp hb];exact Nat.lt_succ_of_lt (Heap.lt_size eo)
 ·have els:ls.map (·.1)=ys.reverse:=by
   have hsz:ls.length=its.length:=by
    have:=hi.1
    unfold strValues at this
    simpa using this
   refine List.ext_getElem? fun j=>?_
   by_cases hj:j<ls.length
   ·have e1:(strValues ls).toArray[j]? =some (Value.str ls[j].1 ls[j].2):=by
     unfold strValues
     simp[hj]
    have e2:=hi.2 j _ e1
    have e3:its[its.toArray.size-1-j]? =some (Value.str ls[j].1 ls[j].2):=by simpa using e2
    have h2:(ys.map V.str)[its.toArray.size-1-j]? =some ((ys.map V.str)[its.toArray.size-1-j]'(by rw[List.length_map,List.size_toArray];omega)):=List.getElem?_eq_getElem _
    obtain⟨u',e',r'⟩:=rv.get h2
    rw[e3]at e'
    cases e'
    rw[List.getElem_map]at r'
    obtain⟨t',r'⟩:=r'
    have hq:=(Value.str.inj r').1
    rw[List.getElem?_map,List.getElem?_eq_getElem hj,List.getElem?_reverse (by omega)]
    simp only[Option.map_some]
    have hix:its.toArray.size-1-j=ys.length-1-j:=by rw[List.size_toArray,lenI]
    simp only[hix]at hq
    rw[List.getElem?_eq_getElem (by omega),hq]
   ·rw[List.getElem?_eq_none (by rw[List.length_map];omega),List.getElem?_eq_none (by rw[List.length_reverse];omega)]
  rw[els]
  refine⟨hj,fun t' k=>?_⟩
  obtain⟨h',g',d',tk',os'⟩:=s'
  obtain rfl:g'=s2.gens:=hm.gens.symm
  obtain rfl:d'=s2.drawn:=hm.drawn
  obtain rfl:os'=s2.os:=hm.os
  have fr:H2 s2.heap.objs.size=none:=I2.hok.fresh (Nat.le_refl _)
  have F3:=I2.xi (Nat.le_refl _) fr
  obtain⟨f0,f1,f2,f3,f4,f5⟩:=F3
  refine⟨.str _,H2,?_,⟨t',rfl⟩,q2⟩
  exact(I3.turned (h':=h') (t':=k) (it:=s2.heap.objs.size) (fun b o hb e=>hm.heap b o (by simpa using hb) e) f0 f1 f3 f4 f5:)
 ·rw[List.size_toArray,lenI, ←List.length_map (f:=V.str)]
  exact zz
end
end L2
set_option Elab.async false
set_option linter.all false
set_option maxRecDepth 100000
namespace L2
open PySem PySem.Spec PyProof.Rows
open Builtin Builtin.Str
section
variable {X:Cx}
theorem QB:OpR X (binaryOp .Mult) (fun x y H Q=>∃z n,x=.str z∧y=.int n∧ -(2^40)<n∧z.length*n.toNat≤sizeLine∧n<2^40∧Q (.str (KU z n.toNat)) H):=by
 intro pins s σ H x y v u Q I rx ry h
 obtain⟨z,n,ex,ey,h0,hl,hn,q⟩:=h
 by_cases hz:0≤n
 ·exact qM pins s σ H x y v u Q I rx ry ⟨z,n,ex,ey,hz,hl,hn,q⟩
 ·subst ex ey
  obtain⟨t,rfl⟩:=rx
  obtain⟨t',rfl⟩:=ry
  refine PySem.P.mul_str ?_ ?_ ?_ ?_
  ·rw[decide_eq_false (by omega),decide_eq_false (by omega)];rfl
  ·intro h1 h2 h3
   omega
  ·intro h1 h2
   omega
  ·rw[if_pos (by omega)]
   have e:KU z n.toNat=Str.empty:=by rw[show n.toNat=0 by omega];rfl
   exact⟨by decide,.str (KU z n.toNat),H,I.tok _,⟨_,by rw[e]⟩,q⟩
end
section
variable {X:Cx}{k k':Nat}{x p1:Str}{sp:Sp}{E:XK}{p pos kpos:Pos}{e:Expr}{te:TE}
end
end L2
set_option Elab.async false
set_option linter.all false
set_option maxRecDepth 100000
namespace L2
open PySem PySem.Spec PyProof.Rows
noncomputable def yR(lo c:Int)(n:Nat):It:=⟨fun i _=>i<n,fun i H x H'=>H'=H∧x=.int (lo+i*c),fun i _=>n≤i⟩
theorem Um{P:Program}{w:World}{K:PySem.W.Frag}{tg:Expr}(it:Addr)(lo c:Int)(n:Nat):Turn P w K tg (yR lo c n) [it] it (fun i h=>IsRangeIter h it (lo+(i:Nat)*c) ((n:Int)-(i:Nat)) c) where
 mem:=by simp
 obj:=fun i h st b hb=>by
  have e:b=it:=by simpa using hb
  subst e
  exact⟨_,st,fun v z=>by
   have z':Data.fields _=Data.cell v:=z
   cases z'⟩
 keep:=fun i h h' st k=>k it (by simp) _ st
 item:=by
  intro X hP hw hK hc i pins s σ H E I hf st hg
  subst hP hw hK
  obtain⟨f0,f1,f2,f3,f4,f5⟩:=hf it (by simp)
  have W:=Walks.range (prog:=X.prog) (w:=X.w) (I.ok.hd hc) it lo c n
  refine W.item i s _ _ hg st fun v h' tk hv st' kk=>?_
  obtain⟨t,rfl⟩:=hv
  have I1:Inv X pins σ H {s with heap:=h',toks:=tk}:=I.turned (fun b o hb e=>kk b o (by simpa using hb) e) f0 f1 f3 f4 f5
  exact⟨_,rfl,jr (s:={s with heap:=h',toks:=tk}) (n:="range_iterator") st' rfl rfl (by decide) ⟨.int (lo+i*c),H,I1,⟨t,rfl⟩,⟨rfl,rfl⟩,st',fun b hb=>(hf b hb).1⟩⟩
 done:=by
  intro X hP hw hK hc i pins s σ H E I hf st hg
  subst hP hw hK
  obtain⟨f0,f1,f2,f3,f4,f5⟩:=hf it (by simp)
  exact wpAny_pyNext_range_end (I.ok.hd hc) st (by have:n≤i:=hg;omega) fun h' eb=>⟨rfl,I.turned (t':=s.toks) (fun b o hb e=>eb b o hb e) f0 f1 f3 f4 f5⟩
 self:=fun _ _ _ _ _ st h=>wpAny_pyIter_rangeiter st h
section
variable {X:Cx}{tg:Expr}
noncomputable def Qbj(ta:TA):TI:=fun σ H R=>ta σ H fun vs H1=>∃(i j c:Int)(n:Nat),vs=[.int i,.int j,.int c]∧(-(2^40)≤i∧i<2^40∧ -(2^40)≤j∧j<2^40∧0<c∧c<2^20)∧Builtin.Range.rangeSize i j c=(n:Int)∧R (yR i c n) H1
theorem jZ{a b d:Expr}{ta:TA}{p pos:Pos}(hg:Gl X "range")(hm:X.mg "range"=none)(ha:PA X [a,b,d] ta)(hs:starEach [a,b,d] X.env=(false,eval a X.env)::starEach [b,d] X.env:=by rfl)(hp:(backTo pos (starEach [b,d] X.env)).any (·.1)=false:=by rfl):
  PI X tg (.Call (.Name "range" p) [a,b,d] [] pos) (Qbj ta):=by
 intro pins s σ H R I h
 refine Call_ (K5 I hg hm boot_range (PyProof.Rows.callWith_type1 (thn (ha pos pins s σ H _ I h) fun us s1⟨vs,H1,I1,r1,q1⟩=>?_) hs hp))
 obtain⟨i,j,c,n,e,⟨b1,b2,b3,b4,b5,b6⟩,hn,q⟩:=q1
 subst e
 obtain⟨u1,u2,u3,rfl,⟨t1,rfl⟩,⟨t2,rfl⟩,⟨t3,rfl⟩⟩:∃u1 u2 u3,us=[u1,u2,u3]∧RelV (.int i) u1∧RelV (.int j) u2∧RelV (.int c) u3:=by
  cases r1 with
  |cons p q=>
   cases q with
   |cons p' q'=>
    cases q' with
    |cons p'' q''=>
     cases q''
     exact⟨_,_,_,rfl,p,p',p''⟩
 refine call_range_3 (by omega) ?_ (.inl (PyProof.noPylong_small (by omega)))
 refine wpAny_pyIter_range (IsRange.new ..) ?_ ?_
 ·have hq1:0≤(n:Int):=Int.natCast_nonneg n
  have hq2:(n:Int)≤2^41:=by
   rw[←hn]
   unfold Builtin.Range.rangeSize
   rw[if_pos b5]
   split
   ·have:(j-i-1)/c≤(j-i-1)/1:=by
     rw[Int.ediv_one]
     exact Int.ediv_le_self _ (by omega)
    rw[Int.ediv_one]at this
    omega
   ·omega
  unfold Builtin.Range.small
  simp only[hn]
  unfold Builtin.Range.rangeFitsLong
  rw[if_pos b5]
  rw[decide_eq_true (show-(2^63)≤i by omega),decide_eq_true (show i<2^63 by omega),decide_eq_true (show-(2^63)≤j by omega),decide_eq_true (show j<2^63 by omega),decide_eq_true (show-(2^63)≤c by omega),decide_eq_true (show c<2^63 by omega),decide_eq_true (show-(2^63)≤(n:Int) by omega),decide_eq_true (show(n:Int)<2^63 by omega),
   decide_eq_true (show-(2^63)≤j+(c-1) by omega),decide_eq_true (show j+(c-1)<2^63 by omega)]
  simp
 have I2:Inv X pins σ H1 {s1 with heap:=s1.heap.push {cls:=.type "range",data:=.fields #[.int i t1,.int j t2,.int c t3]},toks:=s1.toks}:=I1.kept fun b o e=>Heap.get?_push_of_some _ e
 refine⟨(s1.heap.push {cls:=.type "range",data:=.fields #[.int i t1,.int j t2,.int c t3]}).objs.size,[(s1.heap.push {cls:=.type "range",data:=.fields #[.int i t1,.int j t2,.int c t3]}).objs.size],_,_,H1,rfl,
  I2.kept (t':=s1.toks) fun b o e=>Heap.get?_push_of_some _ e,Um _ i c n,?_,fun b hb=>?_,q⟩
 ·have e1:i+((0:Nat):Int)*c=i:=by simp
  have e2:((n:Nat):Int)-((0:Nat):Int)=Builtin.Range.rangeSize i j c:=by rw[hn];simp
  show IsRangeIter _ _ (i+((0:Nat):Int)*c) (((n:Nat):Int)-((0:Nat):Int)) c
  rw[e1,e2]
  exact Heap.get?_push_size _ rfl
 ·have e:b=(s1.heap.push {cls:=.type "range",data:=.fields #[.int i t1,.int j t2,.int c t3]}).objs.size:=by simpa using hb
  subst e
  exact I2.xi (Nat.le_refl _) (I2.hok.fresh (Nat.le_refl _))
theorem qS{lo c:Int}{n:Nat}{g:TG}{tb:TS}{D:Ends}{σ:St}{H:Hp}(Pv:Nat→St→Hp→Prop)(h0:Pv 0 σ H)
  (hs:∀i σ H,i<n→Pv i σ H→g (.int (lo+i*c)) σ H fun σ2 H2=>tb {D with nx:=Pv (i+1),ct:=Pv (i+1),bk:=D.nx} σ2 H2) (hd:∀σ H,Pv n σ H→D.nx σ H):
  ∃W:Nat→Nat→St→Hp→Prop,(∃m,W 0 m σ H)∧∀i m σ H,W i m σ H→
   ((yR lo c n).stop i H∧D.nx σ H)∨((yR lo c n).go i H∧∃N:St→Hp→Prop,(∀σ' H',N σ' H'→∃m',m'<m∧W (i+1) m' σ' H')∧∀x H',(yR lo c n).yld i H x H'→g x σ H' fun σ2 H2=>tb {D with nx:=N,ct:=N,bk:=D.nx} σ2 H2):=by
 refine⟨fun i m σ H=>m=n-i∧i≤n∧Pv i σ H,⟨n,by simp,Nat.zero_le _,h0⟩,?_⟩
 rintro i m σ H ⟨rfl,hi,p⟩
 by_cases hlt:i<n
 ·refine .inr ⟨hlt,Pv (i+1),fun σ' H' p'=>⟨n-(i+1),by omega,rfl,hlt,p'⟩,fun x H' y=>?_⟩
  obtain⟨e,y⟩:=y
  subst e y
  exact hs i σ _ hlt p
 ·have e:i=n:=by omega
  subst e
  exact .inl ⟨Nat.le_refl _,hd σ H p⟩
end
end L2
namespace L2
open PySem PySem.Spec PyProof.Rows
section
variable {X:Cx}
end
end L2
set_option linter.all false
namespace K01
noncomputable def ten(m:Int):Int:=10^m.toNat
noncomputable def Zi(i:Int):Int:=if i<0 then-i else i
noncomputable def xK(a b:Int):Int:=if decide (a<0) !=decide (b<0)then-(Zi a/Zi b)else Zi a/Zi b
noncomputable def short(a b:Int):Int:=if a*b<0 then 0-Zi a/Zi b else Zi a/Zi b
noncomputable def Uo(u o p:Int):Int:=xK (u*ten (p-o)) (ten (o-p))
noncomputable def rnd(u o p:Int):Int:=if u<0 then-((2*Zi u*ten (p-o)+ten (o-p))/(2*ten (o-p)))else(2*Zi u*ten (p-o)+ten (o-p))/(2*ten (o-p))
theorem Jk(m:Int):0<ten m:=Int.pow_pos (by decide)
theorem Up{m:Int}(h:m≤0):ten m=1:=by
 unfold ten
 rw[Int.toNat_of_nonpos h]
 rfl
theorem Uq{a b:Int}(ha:0≤a)(hb:0≤b):ten (a+b)=ten a*ten b:=by
 unfold ten
 rw[Int.toNat_add ha hb,Int.pow_add]
theorem U9{i t:Int}(ht:0<t):Zi (i*t)=Zi i*t:=by
 unfold Zi
 by_cases h:i<0
 ·rw[if_pos h,if_pos (Int.mul_neg_of_neg_of_pos h ht),Int.neg_mul]
 ·rw[if_neg h,if_neg (Int.not_lt.mpr (Int.mul_nonneg (Int.not_lt.mp h) (Int.le_of_lt ht)))]
theorem Wm{t:Int}(ht:0<t):Zi t=t:=by unfold Zi;rw[if_neg (by omega)]
theorem lt_mul{i t:Int}(ht:0<t):decide (i*t<0)=decide (i<0):=by
 by_cases h:i<0
 ·rw[decide_eq_true h,decide_eq_true (Int.mul_neg_of_neg_of_pos h ht)]
 ·rw[decide_eq_false h,decide_eq_false (Int.not_lt.mpr (Int.mul_nonneg (Int.not_lt.mp h) (Int.le_of_lt ht)))]
theorem xL{u t b:Int}(ht:0<t)(hb:0<b):xK (u*t) b=if u<0 then-(Zi u*t/b)else Zi u*t/b:=by
 unfold xK
 rw[lt_mul ht,U9 ht,Wm hb,decide_eq_false (Int.not_lt.mpr (Int.le_of_lt hb))]
 by_cases h:u<0
 ·rw[decide_eq_true h,if_pos h];rfl
 ·rw[decide_eq_false h,if_neg h];rfl
theorem Yu{u t b:Int}(ht:0<t)(hb:0<b):short (u*t) b=if u<0 then-(Zi u*t/b)else Zi u*t/b:=by
 unfold short
 rw[U9 ht,Wm hb]
 by_cases h:u<0
 ·rw[if_pos h,if_pos (Int.mul_neg_of_neg_of_pos (Int.mul_neg_of_neg_of_pos h ht) hb)];omega
 ·rw[if_neg h,if_neg (Int.not_lt.mpr (Int.mul_nonneg (Int.mul_nonneg (Int.not_lt.mp h) (Int.le_of_lt ht)) (Int.le_of_lt hb)))]
theorem yS{u o p:Int}(h1:0≤o)(h2:o≤18)(h3:0≤p)(h4:p≤18):Uo u o p=short (u*ten (18-o)) (ten (18-p)):=by
 unfold Uo
 rw[xL (Jk _) (Jk _),Yu (Jk _) (Jk _)]
 have e:Zi u*ten (p-o)/ten (o-p)=Zi u*ten (18-o)/ten (18-p):=by
  by_cases h:o≤p
  ·rw[Up (show o-p≤0 by omega),Int.ediv_one,show(18:Int)-o=(p-o)+(18-p) by omega,Uq (by omega) (by omega), ←Int.mul_assoc,Int.mul_ediv_cancel _ (Int.ne_of_gt (Jk _))]
  ·rw[Up (show p-o≤0 by omega),Int.mul_one,show(18:Int)-p=(o-p)+(18-o) by omega,Uq (by omega) (by omega),Int.mul_ediv_mul_of_pos_left _ _ (Jk _)]
 rw[e]
theorem qa{a b:Int}(h:a≤b)(hb:0≤b):ten a≤ten b:=by
 by_cases ha:0≤a
 ·rw[show b=a+(b-a) by omega,Uq ha (by omega)]
  have:=Jk (b-a)
  have h2:=Jk a
  calc ten a=ten a*1:=(Int.mul_one _).symm
   _≤ten a*ten (b-a):=Int.mul_le_mul_of_nonneg_left (by omega) (Int.le_of_lt h2)
 ·rw[Up (by omega)]
  have:=Jk b
  omega
end K01
set_option Elab.async false
set_option linter.all false
set_option maxRecDepth 100000
namespace K02
open PySem PySem.NumText Builtin Builtin.Str StrLaws
noncomputable abbrev tx(l:List Nat):Str:=⟨l.toArray⟩
theorem Vz(l:List Nat):(tx l).cps.toList=l:=rfl
theorem Qj(l:List Nat):(tx l).length=l.length:=by show l.toArray.size=_;rw[List.size_toArray]
theorem VA(z:Str):z=tx z.cps.toList:=by cases z;rfl
theorem len_list(z:Str):z.length=z.cps.toList.length:=by show z.cps.size=_;rw[Array.length_toList]
theorem Yv{a b:List Nat}(h:tx a=tx b):a=b:=by
 have:=congrArg (fun z:Str=>z.cps.toList) h
 exact this
theorem QM(a b:List Nat):tx a++tx b=tx (a++b):=by
 show(⟨a.toArray++b.toArray⟩:Str)=_
 rw[List.append_toArray]
noncomputable def dec(n:Nat):List Nat:=(Nat.toDigits 10 n).map Char.toNat
theorem Z4(n:Nat):PySem.Str.ofString (toString ((n:Nat):Int))=tx (dec n):=by
 rw[VA (PySem.Str.ofString _),PySem.W.KIN.signs_num n]
 rfl
theorem VB(n:Nat):digitsVal (dec n)=n:=PySem.W.KIN.val_back n
theorem Wn(n:Nat):AllDigits (dec n):=by
 intro c hc
 obtain⟨ch,h1,rfl⟩:=List.mem_map.mp hc
 have h:=Nat.isDigit_of_mem_toDigits (b:=10) (by decide) (by decide) h1
 unfold Char.isDigit at h
 simp only[Bool.and_eq_true,decide_eq_true_eq]at h
 exact⟨UInt32.le_iff_toNat_le.mp h.1,UInt32.le_iff_toNat_le.mp h.2⟩
theorem j0(n:Nat):1≤(dec n).length:=by
 unfold dec
 rw[List.length_map]
 exact toDigits_len_ge 10 n
theorem VC{n:Nat}(h:n<2^100):(dec n).length≤100:=by
 have:=nat_repr_length_le (n:=n) (k:=100) (by decide) h
 unfold dec
 rw[List.length_map]
 have e:(Nat.repr n).length=(Nat.toDigits 10 n).length:=by rw[←String.length_toList,Nat.toList_repr]
 omega
theorem j4{a b:List Nat}(ha:AllDigits a)(hb:AllDigits b):AllDigits (a++b):=fun c hc=>(List.mem_append.mp hc).elim (ha c) (hb c)
theorem j5(k:Nat):AllDigits (List.replicate k 48):=fun c hc=>by rw[List.eq_of_mem_replicate hc];decide
theorem yT(b:List Nat):∀acc:Nat,b.foldl (fun acc c=>acc*10+(c-48)) acc=acc*10^b.length+b.foldl (fun acc c=>acc*10+(c-48)) 0:=by
 induction b with
 |nil=>intro acc;simp
 |cons c r ih=>
  intro acc
  rw[List.foldl_cons,List.foldl_cons,ih (acc*10+(c-48)),ih (0*10+(c-48)),List.length_cons,Nat.pow_succ]
  rw[Nat.add_mul,Nat.zero_mul,Nat.zero_add,Nat.mul_assoc,Nat.mul_comm 10,Nat.add_assoc]
theorem ZA(a b:List Nat):digitsVal (a++b)=digitsVal a*10^b.length+digitsVal b:=by
 unfold digitsVal
 rw[List.foldl_append,yT]
theorem Ur(k:Nat):digitsVal (List.replicate k 48)=0:=by
 induction k with
 |zero=>rfl
 |succ k ih=>rw[show List.replicate (k+1) 48=[48]++List.replicate k 48 from rfl,ZA,ih];simp[digitsVal]
theorem j6{l:List Nat}(h:AllDigits l):digitsVal l<10^l.length:=by
 induction l with
 |nil=>decide
 |cons c r ih=>
  have h1:=ih h.tail
  have h2:=h.head
  rw[show c::r=[c]++r from rfl,ZA,List.length_append,List.length_singleton]
  have e:digitsVal [c]=c-48:=by simp[digitsVal]
  rw[e,Nat.pow_add]
  have h3:(c-48)*10^r.length≤9*10^r.length:=Nat.mul_le_mul_right _ (by omega)
  omega
noncomputable def fig(n o:Nat):List Nat:=List.replicate (o+1-(dec n).length) 48++dec n
theorem j7(n o:Nat):Txt.zfill (tx (dec n)) ((o:Int)+1)=tx (fig n o):=by
 have hl:=Qj (dec n)
 unfold Txt.zfill fig
 split
 ·rename_i h
  rw[hl]at h
  rw[show o+1-(dec n).length=0 by omega]
  rfl
 ·rename_i h
  rw[hl]at h ⊢
  have e:((o:Int)+1).toNat-(dec n).length=o+1-(dec n).length:=by omega
  rw[e]
  unfold zfilled
  have hd:=Wn n
  have hn:=j0 n
  cases hc:dec n with
  |nil=>rw[hc]at hn;exact absurd hn (by decide)
  |cons c r=>
   rw[hc]at hd
   have hr:=hd.head
   have e0:(tx (c::r)).cps[0]? =some c:=rfl
   rw[e0]
   have key:padded (tx (c::r)) (o+1-(c::r).length) 0 48=tx (List.replicate (o+1-(c::r).length) 48++(c::r)):=by
    unfold padded
    rw[VA ⟨_⟩]
    congr 1
    simp
   split
   ·rename_i h1;cases h1;omega
   ·rename_i h1;cases h1;omega
   ·exact key
theorem Kh(l:List Nat){k:Nat}(h:k≤l.length):sliceText (tx l) none (some (k:Int))=tx (l.take k):=by
 have e:=sliceText_nat (tx l) (a:=0) (b:=k) (Nat.zero_le _) (by rw[Qj];exact h)
 have e2:sliceText (tx l) none (some (k:Int))=sliceText (tx l) (some ((0:Nat):Int)) (some (k:Int)):=by
  unfold sliceText
  rw[sliceIdx_none_lo]
  rfl
 rw[e2,e]
 simp
theorem X3(l:List Nat){a b:Nat}(h:a≤l.length)(hab:a≤b):sliceText (tx l) (some (a:Int)) (some (b:Int))=tx ((l.drop a).take (b-a)):=by
 by_cases hb:b≤l.length
 ·exact sliceText_nat (tx l) hab (by rw[Qj];exact hb)
 ·have e2:sliceText (tx l) (some (a:Int)) (some (b:Int))=sliceText (tx l) (some (a:Int)) (some ((l.length:Nat):Int)):=by
   have e3:strSliceIndices (some (a:Int)) (some (b:Int)) 1 (tx l).length=strSliceIndices (some (a:Int)) (some ((l.length:Nat):Int)) 1 (tx l).length:=by
    rw[Qj]
    unfold strSliceIndices
    have h1:¬ ((b:Int)<0):=by omega
    have h2:¬ (((l.length:Nat):Int)<0):=by omega
    have h3:min (b:Int) (l.length:Int)=l.length:=by omega
    have h4:min ((l.length:Nat):Int) (l.length:Int)=l.length:=by omega
    simp only[h1,h2,if_false,h3,h4,show((1:Int)>0)=True from by simp,if_true]
   unfold sliceText
   rw[e3]
  rw[e2,sliceText_nat (tx l) h (by rw[Qj];exact Nat.le_refl _)]
  have e4:(l.drop a).take (l.length-a)=(l.drop a).take (b-a):=by
   rw[List.take_of_length_le (by rw[List.length_drop];omega),List.take_of_length_le (by rw[List.length_drop];omega)]
  show tx ((l.drop a).take (l.length-a))=_
  rw[e4]
theorem Xo(l:List Nat)(k:Nat):sliceText (tx l) (some (k:Int)) none=tx (l.drop k):=by
 by_cases h:k≤l.length
 ·have e2:sliceText (tx l) (some (k:Int)) none=sliceText (tx l) (some (k:Int)) (some ((l.length:Nat):Int)):=by
   unfold sliceText
   rw[sliceIdx_none_hi,Qj]
  rw[e2,X3 l h h]
  rw[List.take_of_length_le (by rw[List.length_drop];omega)]
 ·rw[List.drop_eq_nil_of_le (by omega)]
  have e3:strSliceIndices (some (k:Int)) none 1 (tx l).length=[]:=by
   rw[sliceIdx_none_hi,Qj]
   unfold strSliceIndices
   have h1:¬ ((k:Int)<0):=by omega
   have h2:¬ (((l.length:Nat):Int)<0):=by omega
   have h3:max (0:Int) (min (k:Int) (l.length:Int))=l.length:=by omega
   have h4:max (0:Int) (min ((l.length:Nat):Int) (l.length:Int))=l.length:=by omega
   simp only[h1,h2,if_false,show((1:Int)>0)=True from by simp,if_true,h3,h4]
   unfold sliceRange
   simp
  unfold sliceText
  rw[e3]
  split
  ·rename_i h1
   have:l.length=0:=by
    have h2:(0==(tx l).length)=true:=by simpa using h1
    rw[Qj]at h2
    have:=beq_iff_eq.mp h2
    omega
   rw[List.length_eq_zero_iff.mp this]
  ·rfl
theorem sub_one(l:List Nat)(c:Nat):subAt (tx l) ⟨#[c]⟩ 0=(l.head?==some c):=by
 rw[subAt_eq]
 show((l.drop 0).take 1==[c])=_
 cases l with
 |nil=>rfl
 |cons a r=>
  simp only[List.drop_zero,List.take_succ_cons,List.take_zero,List.head?_cons]
  by_cases h:a=c
  ·subst h;simp
  ·rw[beq_eq_false_iff_ne.mpr (by simpa using h),beq_eq_false_iff_ne.mpr (by simpa using h)]
theorem xM(c:Nat):("0123456789":Str).cps.contains c=decide (48≤c∧c≤57):=by
 have e:("0123456789":Str).cps= #[48,49,50,51,52,53,54,55,56,57]:=by decide+kernel
 rw[e]
 by_cases h:48≤c∧c≤57
 ·rw[decide_eq_true h]
  have:c=48∨c=49∨c=50∨c=51∨c=52∨c=53∨c=54∨c=55∨c=56∨c=57:=by omega
  rcases this with rfl|rfl|rfl|rfl|rfl|rfl|rfl|rfl|rfl|rfl<;>decide+kernel
 ·rw[decide_eq_false h]
  simp
  omega
instance (l:List Nat):Decidable (AllDigits l):=inferInstanceAs (Decidable (∀c∈l,48≤c∧c≤57))
theorem Yw{p:Nat→Bool}{l:List Nat}{c:Nat}(h:c∈l.takeWhile p):p c=true:=by
 induction l with
 |nil=>cases h
 |cons a r ih=>
  rw[List.takeWhile_cons]at h
  cases hp:p a with
  |false=>rw[hp]at h;cases h
  |true=>
   rw[hp,if_pos rfl]at h
   rcases List.mem_cons.mp h with rfl|h
   ·exact hp
   ·exact ih h
theorem j8(l:List Nat):decide (Txt.stripChars (tx l) "0123456789"=(Str.empty:Str))=decide (AllDigits l):=by
 have g:∀c,("0123456789":Str).cps.contains c=true↔(48≤c∧c≤57):=fun c=>by rw[xM];simp
 unfold Txt.stripChars Txt.stripBy stripSame stripped stripLo stripHi
 simp only[if_true,Qj]
 generalize hp:(("0123456789":Str).cps.contains:Nat→Bool)=p
 have g':∀c,p c=true↔(48≤c∧c≤57):=fun c=>by rw[←hp];exact g c
 by_cases h:AllDigits l
 ·rw[decide_eq_true h,decide_eq_true]
  have e1:(tx l).cps.toList.takeWhile p=l:=takeWhile_all fun c hc=>(g' c).mpr (h c hc)
  rw[e1]
  have e2:(tx l).cps.toList.drop l.length=[]:=List.drop_eq_nil_of_le (Nat.le_refl _)
  rw[e2]
  show(if(l.length==0&&l.length==l.length)=true then tx l else strSub (tx l) l.length l.length)=Str.empty
  by_cases hz:(l.length==0&&l.length==l.length)=true
  ·rw[if_pos hz]
   have:l.length=0:=by
    simp only[Bool.and_eq_true,beq_iff_eq]at hz
    exact hz.1
   rw[List.length_eq_zero_iff.mp this]
   rfl
  ·rw[if_neg hz,VA (strSub _ _ _),strSub_toList,Nat.sub_self,List.take_zero]
   rfl
 ·rw[decide_eq_false h,decide_eq_false]
  have hlt:((tx l).cps.toList.takeWhile p).length<l.length:=by
   have hle:((tx l).cps.toList.takeWhile p).length≤l.length:=List.IsPrefix.length_le (List.takeWhile_prefix p)
   rcases Nat.lt_or_ge ((tx l).cps.toList.takeWhile p).length l.length with z|z
   ·exact z
   ·refine absurd (fun c hc=>?_) h
    have e:(tx l).cps.toList.takeWhile p=l:=List.IsPrefix.eq_of_length_le (List.takeWhile_prefix p) z
    rw[←e]at hc
    exact(g' c).mp (Yw hc)
  generalize hlo:((tx l).cps.toList.takeWhile p).length=lo at hlt
  have hdrop:∃a r,l.drop lo=a::r∧p a=false:=by
   have hd:l.dropWhile p=l.drop lo:=by
    have:=List.takeWhile_append_dropWhile (p:=p) (l:=l)
    have e3:l.drop lo=((l.takeWhile p)++l.dropWhile p).drop lo:=by rw[this]
    rw[e3,List.drop_append_of_le_length (by rw[←hlo];exact Nat.le_refl _),List.drop_eq_nil_of_le (by rw[←hlo];exact Nat.le_refl _),List.nil_append]
   cases hx:l.drop lo with
   |nil=>
    have:=congrArg List.length hx
    rw[List.length_drop,List.length_nil]at this
    omega
   |cons a r=>
    refine⟨a,r,rfl,?_⟩
    rw[hx]at hd
    have:=List.head?_dropWhile_not (p:=p) (l:=l)
    rw[hd]at this
    simpa using this
  obtain⟨a,r,hx,hpa⟩:=hdrop
  have hx':(tx l).cps.toList.drop lo=a::r:=hx
  rw[hx']
  have hrl:r.length+1=l.length-lo:=by
   have:=congrArg List.length hx
   rw[List.length_drop,List.length_cons]at this
   omega
  have hk:((a::r).reverse.takeWhile p).length≤r.length:=by
   rw[List.reverse_cons]
   have hle:((r.reverse++[a]).takeWhile p).length≤r.length:=by
    by_cases hall:∀c∈r.reverse,p c=true
    ·rw[List.takeWhile_append_of_pos hall,List.takeWhile_cons,hpa]
     simp
    ·have:((r.reverse++[a]).takeWhile p).length<(r.reverse++[a]).length:=by
      have hle:((r.reverse++[a]).takeWhile p).length≤(r.reverse++[a]).length:=List.IsPrefix.length_le (List.takeWhile_prefix p)
      rcases Nat.lt_or_ge ((r.reverse++[a]).takeWhile p).length (r.reverse++[a]).length with z|z
      ·exact z
      ·have e:(r.reverse++[a]).takeWhile p=r.reverse++[a]:=List.IsPrefix.eq_of_length_le (List.takeWhile_prefix p) z
       have:p a=true:=Yw (l:=r.reverse++[a]) (by rw[e];simp)
       rw[hpa]at this
       cases this
     rw[List.length_append,List.length_reverse,List.length_singleton]at this
     omega
   exact hle
  split
  ·intro z
   have:=congrArg (fun z:Str=>z.cps.toList.length) z
   have e0:l.length=0:=this
   omega
  ·intro z
   have:=congrArg (fun z:Str=>z.cps.toList.length) z
   have e0:(strSub (tx l) lo (l.length-((a::r).reverse.takeWhile p).length)).cps.toList.length=0:=this
   rw[strSub_toList,List.length_take,Vz,hx,List.length_cons]at e0
   omega
end K02
set_option Elab.async false
set_option linter.all false
set_option maxRecDepth 100000
namespace L2
open PySem PySem.Spec PyProof.Rows
open Builtin Builtin.Str
noncomputable def j9(z y:Str)(i:Int):Int:=match occurrences z y (fromIndex z.length i) z.length 1 with|k::_=>(k:Int)|[]=> -1
theorem Yx:∀{ys:List Str}{us:List Value},Vals (ys.map V.str) us→∃l:List (Str × Tok),us=strValues l∧l.map (·.1)=ys
 |[],_,.nil=>⟨[],rfl,rfl⟩
 |y::ys,_,.cons r t=>by
  obtain⟨l,e1,e2⟩:=Yx t
  obtain⟨tk,rfl⟩:=r
  exact⟨(y,tk)::l,by rw[e1];rfl,by rw[List.map_cons,e2]⟩
section
variable {X:Cx}
theorem XD:MtR X "str.join" (fun x vs H Q=>∃(z:Str)(p:Addr)(ys:List Str),x=.str z∧vs=[.ref p]∧SqL X.K H p (ys.map V.str)∧JoinOk z ys=true∧Q (.str (Txt.join z ys)) H):=by
 intro pins s σ H x vs v us Q I rx rv h
 obtain⟨z,p,ys,rfl,rfl,hq,hj,q⟩:=h
 obtain⟨t,rfl⟩:=rx
 obtain⟨u,rfl,ru⟩:=vals1 rv
 obtain rfl:u=Value.ref p:=ru
 obtain⟨its,rv,pl,hl⟩:=I.list hq
 obtain⟨l,e1,e2⟩:=Yx rv
 subst e1
 have hok:=hj
 unfold JoinOk at hok
 rw[Bool.not_eq_true', ←e2]at hok
 refine call_meets F.slot_str_join (typeIs_str _ _ _) F.entry_str_join (F.args_str_join_2 _ _) (meets_str_join_list z t p l hok) ⟨pl.isList,?_⟩
 refine post_join l ⟨joinFit_length hok,fun t' k=>⟨.str (Txt.join z (l.map (·.1))),H,I.tok k,⟨t',rfl⟩,?_⟩⟩
 rw[e2]
 exact q
theorem xN:MtR X "str.find" (fun x vs H Q=>∃(z y:Str)(i:Int),x=.str z∧vs=[.str y,.int i]∧Q (.int (j9 z y i)) H):=by
 intro pins s σ H x vs v us Q I rx rv h
 obtain⟨z,y,i,rfl,rfl,q⟩:=h
 obtain⟨t,rfl⟩:=rx
 obtain⟨u1,u2,rfl,⟨t1,rfl⟩,⟨t2,rfl⟩⟩:=vals2 rv
 exact call_gives F.slot_str_find F.entry_str_find (F.args_str_find_3 _ _ _) (gives_str_find_from z y i t t1 t2) ⟨.int _,H,I.tok _,⟨_,rfl⟩,q⟩
end
theorem Vb{prog:Program}{w:World}{A:Around}(hh:A.handled=none)(I l:Addr)(hne:l≠I)(items:Array Value):
  WalksS prog w A I [I,l] [I] (fun a b=>a=b) items.size (fun i v=>items[i]? =some v) (fun i s=>s.heap.IsListIter I l i∧s.heap.IsList l items) where
 sub:=fun b hb=>by simp at hb;simp[hb]
 grefl:=fun _=>rfl
 gtrans:=fun _ _ _ a b=>a.trans b
 frame:=fun i s h' tk x _ hk=>⟨x.1.at fun o e=>hk I (by simp) o e,x.2.at fun o e=>hk l (by simp) o e⟩
 item:=fun i s Q E hi x hQ=>by
  have hx:items[i]? =some (items[i]'hi):=Array.getElem?_eq_getElem hi
  refine wpAny_pyNext_list_item x.1 x.2 hx fun h' st' sb=>?_
  exact hQ _ _ hx ⟨st',x.2.at fun o eo=>(sb.2 l hne).trans eo⟩ ⟨fun b o hb eo=>(sb.2 b (fun h=>hb (by simp[h]))).trans eo,rfl,rfl,rfl,Nat.le_refl _⟩
 done:=fun s Q E x hQ=>wpAny_pyNext_list_end hh x.1 x.2 (Array.getElem?_eq_none (Nat.le_refl _)) fun h' eb=>hQ _ ⟨fun b o hb eo=>eb b o (fun h=>hb (by simp[h])) eo,rfl,rfl,rfl,Nat.le_refl _⟩
 self:=fun _ _ _ _ x hQ=>wpAny_pyIter_listiter x.1 hQ
theorem Us{ns:List Int}{us:List Value}(r:Vals (ns.map V.int) us):∀i v,us.toArray[i]? =some v→∃t,v=Value.int (ns.getD i 0) t:=fun i v hv=>by
 have h1:us[i]? =some v:=by simpa using hv
 have hlt:=(List.getElem?_eq_some_iff.mp h1).1
 have hl:=r.length
 rw[List.length_map]at hl
 have h2:(ns.map V.int)[i]? =some (V.int (ns.getD i 0)):=by
  rw[List.getElem?_map,List.getElem?_eq_getElem (by omega)]
  simp[List.getD,List.getElem?_eq_getElem (show i<ns.length by omega)]
 obtain⟨u,e,q⟩:=r.get h2
 rw[h1]at e
 cases e
 exact q
theorem Ut(ns:List Int):∀k,k≤ns.length→preSum (fun i=>ns.getD i 0) k=(ns.take k).sum:=by
 intro k
 induction k with
 |zero=>intro _;rfl
 |succ k ih=>
  intro hk
  have e:ns.take (k+1)=ns.take k++[ns.getD k 0]:=by
   rw[List.take_add_one,List.getElem?_eq_getElem (by omega)]
   simp[List.getD,List.getElem?_eq_getElem (show k<ns.length by omega)]
  show preSum _ k+ns.getD k 0=_
  rw[ih (by omega),e,List.sum_append]
  simp
theorem w4(val:Nat→Int):∀k,argBest (fun i j=>decide (val i>val j)) k≤k∧∀i,i≤k→val i≤val (argBest (fun i j=>decide (val i>val j)) k):=by
 intro k
 induction k with
 |zero=>exact⟨Nat.le_refl _,fun i hi=>by rw[Nat.le_zero.mp hi];exact Int.le_refl _⟩
 |succ k ih=>
  unfold argBest
  by_cases h:val (k+1)>val (argBest (fun i j=>decide (val i>val j)) k)
  ·rw[if_pos (decide_eq_true h)]
   refine⟨Nat.le_refl _,fun i hi=>?_⟩
   rcases Nat.lt_or_ge i (k+1)with h1|h1
   ·have:=ih.2 i (by omega)
    omega
   ·rw[show i=k+1 by omega];exact Int.le_refl _
  ·rw[if_neg (by rw[decide_eq_true_eq];exact h)]
   refine⟨by omega,fun i hi=>?_⟩
   rcases Nat.lt_or_ge i (k+1)with h1|h1
   ·exact ih.2 i (by omega)
   ·rw[show i=k+1 by omega];omega
section
variable {X:Cx}
theorem qb(hc:X.calm=true):Kf X (.builtin "sum") (fun xs H Q=>∃(p:Addr)(ns:List Int),xs=[.ref p]∧SqL X.K H p (ns.map V.int)∧Q (.int ns.sum) H):=by
 intro pins s σ H xs us Q I r h
 obtain⟨p,ns,rfl,hq,q⟩:=h
 obtain⟨u,rfl,ru⟩:=vals1 r
 obtain rfl:u=Value.ref p:=ru
 obtain⟨its,rv,pl,hl⟩:=I.list hq
 have hil:=pl.isList
 have hlt:p<s.heap.objs.size:=by obtain⟨o,e,_⟩:=hil;exact Heap.lt_size e
 have hlen:=rv.length
 rw[List.length_map]at hlen
 refine call_sum_walkAnyS (wpAny_pyIter_list hil ?_)
 have I2:Inv X pins σ H {s with heap:=s.heap.push {cls:=.type "list_iterator",data:=.fields #[.ref p,.int 0 0]}}:=I.kept (t':=s.toks) fun b o e=>Heap.get?_push_of_some _ e
 refine⟨s.heap.objs.size,_,_,_,_,_,_,fun i=>ns.getD i 0,rfl,Vb (A:=X.A.in1) (I.ok.hd hc) _ p (Nat.ne_of_lt hlt) its.toArray,⟨⟨_,Heap.get?_push_size _ rfl,rfl,rfl⟩,hil.push _⟩,fun b hb=>?_,Us rv,fun s' t' hm=>?_⟩
 ·show b<(s.heap.push _).objs.size
  rw[Heap.size_push]
  rcases List.mem_cons.mp hb with rfl|hb
  ·exact Nat.lt_succ_self _
  ·rw[List.mem_singleton.mp hb];exact Nat.lt_succ_of_lt hlt
 ·obtain⟨f0,f1,f2,f3,f4,f5⟩:=I.xi (Nat.le_refl _) (I.hok.fresh (Nat.le_refl _))
  obtain⟨h',g',d',tk',os'⟩:=s'
  obtain rfl:g'=s.gens:=hm.gens.symm
  obtain rfl:d'=s.drawn:=hm.drawn
  obtain rfl:os'=s.os:=hm.os
  have e:preSum (fun i=>ns.getD i 0) its.toArray.size=ns.sum:=by
   rw[List.size_toArray, ←hlen,Ut ns _ (Nat.le_refl _),List.take_length]
  rw[e]
  refine⟨.int ns.sum,H,?_,⟨t',rfl⟩,q⟩
  exact(I2.turned (h':=h') (t':=tk') (it:=s.heap.objs.size) (fun b o hb eo=>hm.heap b o (by simpa using hb) eo) f0 f1 f3 f4 f5:)
theorem za(hc:X.calm=true):Kf X (.builtin "max") (fun xs H Q=>∃(p:Addr)(ns:List Int),xs=[.ref p]∧SqL X.K H p (ns.map V.int)∧ns≠[]∧∀m,m∈ns→(∀n∈ns,n≤m)→Q (.int m) H):=by
 intro pins s σ H xs us Q I r h
 obtain⟨p,ns,rfl,hq,hne,q⟩:=h
 obtain⟨u,rfl,ru⟩:=vals1 r
 obtain rfl:u=Value.ref p:=ru
 obtain⟨its,rv,pl,hl⟩:=I.list hq
 have hil:=pl.isList
 have hlt:p<s.heap.objs.size:=by obtain⟨o,e,_⟩:=hil;exact Heap.lt_size e
 have hlen:=rv.length
 rw[List.length_map]at hlen
 have hpos:0<ns.length:=by cases ns with|nil=>exact absurd rfl hne|cons a r=>exact Nat.succ_pos _
 refine call_max_walkS (wpAny_pyIter_list hil ?_)
 have I2:Inv X pins σ H {s with heap:=s.heap.push {cls:=.type "list_iterator",data:=.fields #[.ref p,.int 0 0]}}:=I.kept (t':=s.toks) fun b o e=>Heap.get?_push_of_some _ e
 refine⟨s.heap.objs.size,_,_,_,_,_,_,_,rfl,Vb (A:=X.A.in1) (I.ok.hd hc) _ p (Nat.ne_of_lt hlt) its.toArray,⟨⟨_,Heap.get?_push_size _ rfl,rfl,rfl⟩,hil.push _⟩,fun b hb=>?_,by rw[List.size_toArray];omega,CmpOf.ints_gt (fun i=>ns.getD i 0) (Us rv),fun v s' hv hm=>?_⟩
 ·show b<(s.heap.push _).objs.size
  rw[Heap.size_push]
  rcases List.mem_cons.mp hb with rfl|hb
  ·exact Nat.lt_succ_self _
  ·rw[List.mem_singleton.mp hb];exact Nat.lt_succ_of_lt hlt
 ·obtain⟨f0,f1,f2,f3,f4,f5⟩:=I.xi (Nat.le_refl _) (I.hok.fresh (Nat.le_refl _))
  obtain⟨h',g',d',tk',os'⟩:=s'
  obtain rfl:g'=s.gens:=hm.gens.symm
  obtain rfl:d'=s.drawn:=hm.drawn
  obtain rfl:os'=s.os:=hm.os
  obtain⟨t,rfl⟩:=Us rv _ _ hv
  obtain⟨b1,b2⟩:=w4 (fun i=>ns.getD i 0) (its.toArray.size-1)
  generalize argBest (fun i j=>decide (ns.getD i 0>ns.getD j 0)) (its.toArray.size-1)=j at b1 b2
  rw[List.size_toArray]at b1 b2
  have getD_eq:∀i,i<ns.length→ns.getD i 0=ns[i]! :=fun i hi=>by simp[List.getD,List.getElem?_eq_getElem hi]
  have hj:j<ns.length:=by omega
  refine⟨.int (ns.getD j 0),H,?_,⟨t,rfl⟩,q _ ?_ fun n hn=>?_⟩
  ·exact(I2.turned (h':=h') (t':=tk') (it:=s.heap.objs.size) (fun b o hb eo=>hm.heap b o (by simpa using hb) eo) f0 f1 f3 f4 f5:)
  ·have:ns.getD j 0=ns[j]:=by simp[List.getD,List.getElem?_eq_getElem hj]
   rw[this]
   exact List.getElem_mem hj
  ·obtain⟨i,hi,rfl⟩:=List.mem_iff_getElem.mp hn
   have e:ns.getD i 0=ns[i]:=by simp[List.getD,List.getElem?_eq_getElem hi]
   rw[←e]
   exact b2 i (by omega)
end
end L2
set_option Elab.async false
set_option linter.all false
set_option maxRecDepth 100000
namespace L2
open PySem PySem.Spec PyProof.Rows
structure KDict(P:Program)(w:World)(K:PySem.W.Frag)(a:Addr)(kvs:List (Key × V)):Prop where
 ne:(a==sysModules)=false
 ok:∀h:Heap,K.In h→∃vs,KV kvs vs∧h.DictOf (Jc P w) a vs
section
variable {X:Cx}{o i:Expr}{td ty:TE}{pos:Pos}{a:Addr}{kvs:List (Key × V)}
noncomputable def Qbk(a:Addr)(kvs:List (Key × V))(td ty:TE):TE:=fun σ H Q=>td σ H fun x H1=>ty σ H1 fun y H2=>∃k v,x=.ref a∧y=kV k∧Kz kvs k=some v∧Q v H2
theorem KY(D:KDict X.prog X.w X.K a kvs)(ho:PE X o td)(hi:PE X i ty)(hs:Qa6 i):PE X (.Subscript o i pos) (Qbk a kvs td ty):=by
 intro pins s σ H Q I h
 refine jJ PySem.F.slot_dict_getitem.lookup hs (thn (ho pins s σ H _ I h) fun u s1⟨x,H1,I1,rx,q1⟩=>thn (hi pins s1 σ H1 _ I1 q1) fun iv s2⟨y,H2,I2,ry,k,v,ex,ey,l,q2⟩=>?_)
 subst ex ey
 obtain rfl:u=Value.ref a:=rx
 obtain⟨vs,rel,dd⟩:=D.ok s2.heap I2.kIn
 obtain⟨w',hw,rw'⟩:=UV.some_of (v:=v) (o:=valueAt vs k) (by rw[←l];exact rel.val k)
 exact⟨dd.typeIs,wpAny_getItem_of (Yj ry) dd.mapOf hw ⟨v,H2,I2.tok _,rw',q2⟩⟩
noncomputable def w6(a:Addr)(kvs:List (Key × V))(ty td:TE):TE:=fun σ H Q=>ty σ H fun y H1=>td σ H1 fun x H2=>∃k,x=.ref a∧y=kV k∧Q (.bl (!(Kz kvs k).isSome)) H2
theorem Vc(D:KDict X.prog X.w X.K a kvs)(hi:PE X i ty)(ho:PE X o td):PC X .NotIn i o (w6 a kvs ty td):=by
 intro pins s σ H Q I h
 refine thn (hi pins s σ H _ I h) fun iv s1⟨y,H1,I1,ry,q1⟩=>thn (ho pins s1 σ H1 _ I1 q1) fun u s2⟨x,H2,I2,rx,k,ex,ey,q2⟩=>?_
 subst ex ey
 obtain rfl:u=Value.ref a:=rx
 obtain⟨vs,rel,dd⟩:=D.ok s2.heap I2.kIn
 refine wpAny_notIn_of (Yj ry) D.ne dd.mapOf ?_
 rw[←(rel.val k).We]
 exact⟨.bl _,H2,I2.tok _,rfl,q2⟩
end
theorem boot_sum:bootBuiltins "sum"=some (.builtin "sum"):=by boot_by_name
section
variable {X:Cx}
theorem w8:PIp X .Add (fun x y H Q=>∃i j,x=.str i∧y=.str j∧i.length+j.length≤sizeLine∧Q (.str (i++j)) H):=by
 intro pins s σ H x y v u Q I r1 r2 h
 obtain⟨i,j,e1,e2,hl,q⟩:=h
 subst e1;subst e2
 obtain⟨t,rfl⟩:=r1
 obtain⟨t',rfl⟩:=r2
 exact SB.iadd (fun t2 k=>⟨.str _,H,I.tok k,⟨t2,rfl⟩,q⟩) hl
end
end L2
set_option Elab.async false
set_option linter.all false
set_option maxRecDepth 100000
namespace L2
open PySem PySem.Spec PyProof.Rows
section
variable {X:Cx}
theorem qc{elt tg iter:Expr}{ifs:List Expr}{scope:Scope}{pos spos py:Pos}{NB:List Str}{wi:TI}{g:TG}{tt:TT}{te:TE}{iy:Nat}{y:Str}(hc:X.calm=true)(S:BlkScope NB scope)(hi:PI X tg iter wi)
  (hg:∀s H ex,PG (JT X NB scope s H ex) tg g) (ht:∀s H ex,PTs (JT X NB scope s H ex) ifs tt) (he:∀s H ex,PE (JT X NB scope s H ex) elt te)
  (hN:X.N.Nodup) (hiy:X.N[iy]? =some y) (hy:Loc X.env.scope y) (hsw:swapsWith (.ListComp elt [⟨tg,iter,ifs,0⟩] scope pos) (some (.Name y py)) spos.line X.env=pure true)
  (hs:∀x,foldedSetIterable iter X.env x=pure x:=by intro _;rfl) (hf:X.fn y=true∨X.env.scope.names.lookup y=some .local:=by first|exact .inl rfl|exact .inr rfl|assumption):
  PS X (.Assign [.Name y py] (.ListComp elt [⟨tg,iter,ifs,0⟩] scope pos) spos) (KL (Uk NB wi g tt te) (JD iy)):=by
 intro pins s σ H Dn I h
 rw[exec_Assign_Name_used _ _ _ _ hsw]
 refine wpAny_bind (wpAny_standAt (wpAny_bind ?_))
 show wpAny _ X.A (do let _←comprehension (.ListComp elt [⟨tg,iter,ifs,0⟩] scope pos) scope X.env _ (newList []) false (eval iter X.env) (some (assign (.Name y py) X.env))) _ _ s
 refine wpAny_bind (wpAny_mono (wpAny_comprehension_free (use:=some (assign (.Name y py) X.env)) (Q:=fun _ s'=>SP X pins Dn .next s') (cl:=[]) rfl hs (Yt S.nofree) S.kind S.loc (thn (hi pins s σ H _ I h) fun v s1 h1=>thn h1 fun itv s2 h2=>?_)) (fun _ s' hq=>wpAny_pure (wpAny_pure hq)) fun _ _ e=>e)
 obtain⟨it,fp,tn,J,H2,e,I2,T,st2,f2,W,⟨m0,w0⟩,turn⟩:=h2
 subst e
 refine wpAny_newObj_type ?_
 have up2:∀b o,s2.heap.get? b=some o→(s2.heap.push {cls:=.type "list",data:=.seq ([]:List Value).toArray}).get? b=some o:=fun b o e=>Heap.get?_push_of_some _ e
 have I3:Inv X pins σ H2 {s2 with heap:=s2.heap.push {cls:=.type "list",data:=.seq ([]:List Value).toArray}}:=I2.kept (t':=s2.toks) up2
 have st3:tn 0 (s2.heap.push {cls:=.type "list",data:=.seq ([]:List Value).toArray}):=T.keep _ _ _ st2 fun b _ o e=>up2 b o e
 have hD3:(s2.heap.push {cls:=.type "list",data:=.seq ([]:List Value).toArray}).get? s2.heap.objs.size=some (Xq []):=Heap.get?_push_size _ rfl
 have hD2:H2 s2.heap.objs.size=none:=I2.hok.fresh (Nat.le_refl _)
 have lt2:∀b o,s2.heap.get? b=some o→b≠s2.heap.objs.size:=fun b o e=>Nat.ne_of_lt (Heap.lt_size e)
 have fpO:∀b∈fp,∃o,s2.heap.get? b=some o:=fun b hb=>let ⟨o,e,_⟩:=T.obj _ _ st2 b hb;⟨o,e⟩
 have hDs0:X.s₀.heap.objs.size≤s2.heap.objs.size:=I2.sz
 have hDL:s2.heap.objs.size≠X.env.locals:=Nat.ne_of_gt I2.lt
 have hDC:∀x c,X.env.cells.lookup x=some c→c≠s2.heap.objs.size:=fun x c e=>let ⟨v,o,e1,_⟩:=I2.cell x c e;lt2 c o e1
 have hDp:∀p∈X.pn++pins,p.1≠s2.heap.objs.size:=fun p hp=>lt2 p.1 _ (I2.pin p hp).1
 have hDf:s2.heap.objs.size∉frs X.stack:=fun z=>let ⟨o,e,_⟩:=(I2.stack.mem z).2;lt2 _ o e rfl
 generalize hS3:({s2 with heap:=s2.heap.push {cls:=.type "list",data:=.seq ([]:List Value).toArray}}:Shared)=s3 at I3 ⊢
 have hh3:s3.heap=s2.heap.push {cls:=.type "list",data:=.seq ([]:List Value).toArray}:=by rw[←hS3]
 rw[←hh3]at st3 hD3 up2
 generalize s2.heap.objs.size=D at hD3 hD2 lt2 hDs0 hDL hDC hDp hDf ⊢
 refine Xu S.kind fun cenv s4 hce x4=>?_
 subst hce
 rw[KC S.nofree]
 have lt3:∀b o,s3.heap.get? b=some o→b<s3.heap.objs.size:=fun b o e=>Heap.lt_size e
 have fp3:∀b∈fp,b<s3.heap.objs.size:=fun b hb=>let ⟨o,e⟩:=fpO b hb;lt3 b o (up2 b o e)
 have dl3:D<s3.heap.objs.size:=lt3 D _ hD3
 have DfpN:∀b∈fp,b≠D:=fun b hb=>let ⟨o,e⟩:=fpO b hb;lt2 b o e
 obtain⟨h4,tk4,rfl,hk4⟩:=x4.done
 have bsN:∀b o,X.base.get? b=some o→b∉D::fp:=fun b o e hb=>by
  rcases List.mem_cons.mp hb with rfl|hb
  ·exact absurd (Nat.lt_of_lt_of_le (Heap.lt_size (I2.ok.bs b o e).1) hDs0) (Nat.lt_irrefl _)
  ·obtain⟨_,_,_,f3,_⟩:=f2 b hb
   rcases f3 with z|z
   ·exact I2.ok.noex b o e z
   ·exact absurd (Nat.lt_of_lt_of_le (Heap.lt_size (I2.ok.bs b o e).1) z) (Nat.lt_irrefl _)
 have exF:∀b∈D::fp,b∉frs X.stack:=fun b hb hf=>by
  rcases List.mem_cons.mp hb with rfl|hb
  ·exact hDf hf
  ·obtain⟨_,f1,f2',_⟩:=f2 b hb
   rcases List.mem_cons.mp (I2.XQ b hf)with z|z
   ·exact f1 z
   ·exact f2' z
 have cge:∀y c,(cellsFrom (s3.heap.objs.size+1) scope.names []).lookup y=some c→s3.heap.objs.size<c:=fun y c e=>x4.above y c (PySem.mem_of_lookup e)
 have exLt:∀b∈D::fp,b<s3.heap.objs.size:=fun b hb=>by
  rcases List.mem_cons.mp hb with rfl|hb
  ·exact dl3
  ·exact fp3 b hb
 have okB:(JT X NB scope s3 H2 (D::fp)).Ok:=by
  refine⟨I3.ok.mod,S.kind,I3.ok.glob,I3.ok.blt,Nat.le_refl _,fun y z c h1 h2=>?_,fun y hy=>?_,fun y c _ h=>Nat.le_of_lt (cge y c h),I3.ok.hd,I3.ok.frames,.inl rfl,fun b hb=>⟨Nat.ne_of_lt (exLt b hb),fun y c e z=>?_⟩,I3.bs,Nat.le_trans I3.ok.bsz I3.sz,bsN,exF,I3.stack,I3.Xy⟩
  ·exact name_of_addr x4.apart (PySem.mem_of_lookup h1) (PySem.mem_of_lookup h2)
  ·have hy:scope.names.lookup y=some .cell∨scope.names.lookup y=some .free:=hy
   rcases hy with hy|hy
   ·exact KO hy
   ·exact absurd rfl (S.nofree _ (PySem.mem_of_lookup hy))
  ·have:=cge y c e
   rw[z]at this
   exact absurd (Nat.lt_trans this (exLt b hb)) (Nat.lt_irrefl _)
 have rep:∀(j:Nat)(v:V),(List.replicate NB.length (none:Option V))[j]? ≠some (some v):=fun j v z=>by
  rw[List.getElem?_replicate]at z
  split at z<;>cases z
 have IB:Inv (JT X NB scope s3 H2 (D::fp)) [(D,Xq [])] (List.replicate NB.length none) H2 {s3 with heap:=h4,toks:=tk4}:=by
  refine⟨okB,rfl,I3.bare,Un.kept hk4,⟨_,x4.toInCall.ns,fun i y v h1 h2 h3=>absurd h2 (rep i v)⟩,fun y c h=>⟨_,x4.cell y c h⟩,I3.hok.fresh (Nat.le_refl _),fun y c h=>I3.hok.fresh (Nat.le_of_lt (cge y c h)),fun p hp=>?_,I3.hok.kept hk4,by rw[List.length_replicate]⟩
  obtain rfl:p=(D,Xq []):=by simpa using hp
  exact⟨hk4 _ _ hD3,hD2,Nat.ne_of_lt dl3,hDf,fun v z=>nomatch z⟩
 have stat:∀{H':Hp}{ys:List Value},(∀b∈fp,H' b=none)→∀b∈fp,jq (JT X NB scope s3 H2 (D::fp)) [(D,Xq ys)] H' b:=fun hn b hb=>
  ⟨hn b hb,Nat.ne_of_lt (fp3 b hb),exF b (List.mem_cons_of_mem _ hb),.inl (List.mem_cons_of_mem _ hb),fun y c e z=>by
   have:=cge y c e
   rw[z]at this
   exact absurd (Nat.lt_trans this (fp3 b hb)) (Nat.lt_irrefl _),fun p hp=>by
    obtain rfl:p=(D,_):=by simpa using hp
    exact(DfpN b hb).symm⟩
 have st4:tn 0 h4:=T.keep _ _ _ st3 fun b _ o e=>hk4 b o e
 have fr4:∀b∈fp,H2 b=none:=fun b hb=>(f2 b hb).1
 have hcB:(JT X NB scope s3 H2 (D::fp)).calm=true:=hc
 have loop:codeAny (model X.prog X.w) X.A (.compLoop (.ListComp elt [⟨tg,iter,ifs,0⟩] scope pos) 0 (.ref it) (.ref D) (jW scope X.env s3.heap.objs.size))
   (compPost (model X.prog X.w) X.A X.xe (some (assign (.Name y py) X.env)) (fun _ s'=>SP X pins Dn .next s') (.ref D) s3.heap.objs.size) {s3 with heap:=h4,toks:=tk4}:=by
  refine Wl (fun n s'=>∃i vs ys H',Inv (JT X NB scope s3 H2 (D::fp)) [(D,Xq ys)] (List.replicate NB.length none) H' s'∧Vals vs ys∧vs.length≤sizeLine∧tn i s'.heap∧(∀b∈fp,H' b=none)∧W i n vs H') ?_ m0 ⟨0,[],[],H2,IB,.nil,Nat.zero_le _,st4,fr4,w0⟩
  rintro n s5 ⟨i,vs,ys,H5,I5,rv,hvl,st5,fr5,w5⟩
  rcases turn i n vs H5 w5 with⟨stop,qn⟩|⟨go,hlt,N,hN,step⟩
  ·refine wpAny_mono (T.done (JT X NB scope s3 H2 (D::fp)) rfl rfl rfl hcB i _ s5 _ H5 (fun _ _=>False) I5 (stat fr5) st5 stop) (fun r s6⟨hr,I6⟩=>?_) (fun _ _ z=>z.elim)
   subst hr
   obtain⟨m6,hn6,_⟩:=id I6.loc
   have hC6:H5 s3.heap.objs.size=none:=I6.free
   have un7:Un (frs X.stack) (D::fp) H2 H5 s3.heap s6.heap:=I6.base
   have I7:Inv X pins σ H5 s6:=I3.jm (s':=s6) I6.os un7 I6.hok I6.bare fun b hb=>by
    rcases List.mem_cons.mp hb with rfl|hb
    ·exact⟨.inr hDs0,hDL,hDC,hDp⟩
    ·obtain⟨_,f1,_,f3,f4,f5⟩:=f2 b hb
     exact⟨f3,f1,f4,f5⟩
   obtain⟨eD,nD,_⟩:=I6.pin (D,Xq ys) (by simp)
   have nD':H5 D=none:=nD
   have eD':s6.heap.get? D=some (Xq ys):=eD
   have hD0:X.s₀.heap.get? D=none:=by
    cases q:X.s₀.heap.get? D with
    |none=>rfl
    |some o=>exact absurd (Nat.lt_of_lt_of_le (Heap.lt_size q) hDs0) (Nat.lt_irrefl _)
   have I8:Inv X pins σ (upd H5 D (.lst vs)) s6:=I7.xv nD' hD0 hDL hDC hDp ⟨hvl,ys,ys.length,rv,eD'⟩
   have hq:=qn D nD'
   have s03:X.s₀.heap.objs.size≤s3.heap.objs.size:=I3.sz
   have cL:s3.heap.objs.size≠X.env.locals:=Nat.ne_of_gt I3.lt
   have cC:∀x c,X.env.cells.lookup x=some c→c≠s3.heap.objs.size:=fun x c e=>let ⟨v,o,e1,_⟩:=I3.cell x c e;Nat.ne_of_lt (lt3 c o e1)
   have cP:∀p∈X.pn++pins,p.1≠s3.heap.objs.size:=fun p hp=>Nat.ne_of_lt (lt3 p.1 _ (I3.pin p hp).1)
   show wpAny (model X.prog X.w) X.A (assign (.Name y py) X.env (.ref D)) _ X.xe s6
   refine wpAny_assign_Name (K4 (v:=.ref D) I8 hN hiy hy rfl (fun s9 I9⟨a9,sb9,ha9⟩=>?_) hf)
   have na:s3.heap.objs.size≠a9:=by
    rcases ha9 with rfl|z
    ·exact cL
    ·exact(cC y a9 z).symm
   refine⟨m6,hn6.sameBut sb9 na,fun h10 sb10=>⟨_,_,?_,hq⟩⟩
   have hD3':upd H5 D (.lst vs) s3.heap.objs.size=none:=by rw[Qt (Nat.ne_of_gt dl3)];exact hC6
   exact(I9.turned (h':=h10) (t':=s9.toks) (it:=s3.heap.objs.size) (fun b o hb e=>(sb10.2 b hb).trans e) hD3' cL (.inr s03) cC cP:)
  ·refine wpAny_mono (T.item (JT X NB scope s3 H2 (D::fp)) rfl rfl rfl hcB i _ s5 _ H5 (fun _ _=>False) I5 (stat fr5) st5 go) (fun r s6⟨u,hr,h6⟩=>?_) (fun _ _ z=>z.elim)
   subst hr
   refine wpAny_mono h6 (fun _ s7⟨x,H7,I7,r7,y7,st7,fr7⟩=>?_) (fun _ _ z=>z.elim)
   have I7':=I7.pinned (stat fr7) (T.obj _ _ st7)
   refine wpAny_mono (hg s3 H2 (D::fp) _ s7 _ H7 x u _ I7' r7 (step x H7 y7)) (fun _ s8⟨σ8,H8,I8,q8⟩=>?_) (fun _ _ z=>z.elim)
   refine wpAny_mono (ht s3 H2 (D::fp) _ s8 σ8 H8 _ I8 q8) (fun ok s9⟨H9,I9,q9⟩=>?_) (fun _ _ z=>z.elim)
   have fpK:∀{σ':St}{H':Hp}{s':Shared},Inv (JT X NB scope s3 H2 (D::fp)) ([(D,Xq ys)]++K8 fp s7.heap) σ' H' s'→tn (i+1) s'.heap∧∀b∈fp,H' b=none:=fun J=>
    ⟨T.keep _ _ _ st7 fun b hb o e=>(J.pin (b,o) (List.mem_append_right _ (List.mem_append_right _ (JO hb e)))).1,fun b hb=>by
     obtain⟨o,e,d⟩:=T.obj _ _ st7 b hb
     exact(J.pin (b,o) (List.mem_append_right _ (List.mem_append_right _ (JO hb e)))).2.1⟩
   have wk:∀{σ':St}{H':Hp}{s':Shared}{pl:List (Addr × Obj)},Inv (JT X NB scope s3 H2 (D::fp)) pl σ' H' s'→Inv (JT X NB scope s3 H2 (D::fp)) pl (List.replicate NB.length none) H' s':=fun J=>
    J.weak (by rw[List.length_replicate];exact J.len.symm) fun j v z=>absurd z (rep j v)
   cases ok with
   |false=>
    rw[if_neg (by decide)]at q9
    rw[if_neg (by decide)]
    obtain⟨m',hm,w9⟩:=hN vs H9 q9
    obtain⟨t9,f9⟩:=fpK I9
    exact⟨m',hm,i+1,vs,ys,H9,wk I9.Zl,rv,hvl,t9,f9,w9⟩
   |true=>
    rw[if_pos rfl]at q9
    rw[if_pos rfl]
    refine wpAny_mono (he s3 H2 (D::fp) _ s9 σ8 H9 _ I9 q9) (fun y s10⟨v,H10,I10,rv10,q10⟩=>?_) (fun _ _ z=>z.elim)
    obtain⟨eD,nD,_,nf,_⟩:=I10.pin (D,Xq ys) (by simp)
    have hyl:=rv.length
    refine append_at (hsz:=by show ys.toArray.size≤sizeLine;rw[List.size_toArray, ←hyl];exact hvl) eD fun h11 sb11 hD11=>?_
    obtain⟨m',hm,w11⟩:=hN (vs++[v]) H10 q10
    obtain⟨t10,f10⟩:=fpK I10
    have I10u:=I10.Zl
    have k11:∀b o,b≠D→s10.heap.get? b=some o→h11.get? b=some o:=fun b o hb e=>(sb11.2 b hb).trans e
    have IE:Inv (JT X NB scope s3 H2 (D::fp)) [] σ8 H10 s10:=I10u.Z1 fun p hp=>nomatch hp
    have I11:Inv (JT X NB scope s3 H2 (D::fp)) [] σ8 H10 {s10 with heap:=h11}:=IE.turned (t':=s10.toks) k11 nD (Nat.ne_of_lt dl3) (.inl List.mem_cons_self) (fun y' c e z=>by
     have:=cge y' c e
     rw[z]at this
     exact absurd (Nat.lt_trans this dl3) (Nat.lt_irrefl _)) (fun p hp=>absurd (show p∈([]:List (Addr × Obj))from hp) (by simp))
    have eL:({cls:=.type "list",data:=.seq (ys.toArray.push y) (ys.length+1)}:Obj)=Xq (ys++[y]):=by
     show({cls:=.type "list",data:=.seq (ys.toArray.push y) (ys.length+1)}:Obj)={cls:=.type "list",data:=.seq (ys++[y]).toArray (ys++[y]).length}
     rw[List.length_append,List.length_singleton,List.push_toArray]
    refine⟨m',hm,i+1,vs++[v],ys++[y],H10,wk (I11.Z1 fun p hp=>?_),rv.append (.cons rv10 .nil),by rw[List.length_append,List.length_singleton];exact hlt,T.keep _ _ _ t10 fun b hb o e=>k11 b o (DfpN b hb) e,f10,w11⟩
    obtain rfl:p=(D,Xq (ys++[y])):=by simpa using hp
    exact⟨by rw[←eL];exact hD11,nD,Nat.ne_of_lt dl3,nf,fun v z=>nomatch z⟩
 exact codeAny_compStart_list loop (T.self _ 0 _ _ _ st4 loop)
theorem qT{K0:PySem.W.Frag}(hK:X.K=K0):OpR X (compareOp .In) (rIn K0 false):=by
 subst hK
 exact Yh
end
end L2
set_option Elab.async false
set_option linter.all false
set_option maxRecDepth 100000
namespace L2
open PySem PySem.Spec PyProof.Rows
open Builtin Builtin.Str
section
variable {X:Cx}
theorem zc:MtR X "str.count" (Qbi (fun _ _=>True) fun z y=>.int (Txt.count z y)):=by
 intro pins s σ H x vs v us Q I rx rv h
 obtain⟨z,y,rfl,rfl,_,q⟩:=h
 obtain⟨t,rfl⟩:=rx
 obtain⟨u,rfl,t',rfl⟩:=vals1 rv
 exact call_gives F.slot_str_count F.entry_str_count (F.args_str_count_2 _ _) (gives_str_count z y t t') ⟨.int _,H,I.tok _,⟨_,rfl⟩,q⟩
end
structure Bag(K:PySem.W.Frag)(H:Hp)(a t r:Addr)(ns:List Int)(c:Int):Prop where
 sq:SqL K H a (ns.map V.int)
 tw:∃rs,TownAt H t r c rs
 nat:a≠t
 nar:a≠r
 ln:ns.length≤63
section
variable {K:PySem.W.Frag}{H H':Hp}{a t r:Addr}{ns:List Int}{c c':Int}
theorem Bag.drawn(B:Bag K H a t r ns c)(A:Apart t r H H'){rs:List (Key × V)}(T:TownAt H' t r c' rs):Bag K H' a t r ns c':=
 ⟨A.seq B.sq B.nat B.nar,⟨rs,T⟩,B.nat,B.nar,B.ln⟩
theorem Bag.same(B:Bag K H a t r ns c)(e:Qz H H'):Bag K H' a t r ns c:=by
 obtain⟨rs,T⟩:=B.tw
 exact⟨(Apart.of e).seq B.sq B.nat B.nar,⟨rs,T.same e⟩,B.nat,B.nar,B.ln⟩
theorem LawSt.bag{Pa:Addr}{q:Str}(S:LawSt H a t r Pa q ns c):Bag K H a t r ns c:=⟨S.sq,S.tw,S.nat,S.nar,S.ln⟩
theorem Bag.draw{σ:St}{i j:Nat}{n:Int}{tn:TE}{Q:VK}{E:XK}(B:Bag K H a t r ns c)(hi:σ[i]? =some (some (.ref a)))(hj:σ[j]? =some (some (.ref t)))(hn:∀R:VK,R (.int n) H→tn σ H R) (h0:0<n) (h1:n<1000000) (hc:c<100000)
  (k:∀(d:Nat)(H':Hp),(d:Int)<n→Bag K H' a t r ns (c+1)→Apart t r H H'→Q (.int d) H'):WQ (X1 K) [] E (JN (Kx i) (JN (Kx j) (JN tn W7))) σ H Q:=by
 obtain⟨rs,T⟩:=B.tw
 refine⟨_,hi,_,hj,hn _ ⟨a,t,r,ns,c,n,rs,rfl,B.sq,T,B.nat,B.nar,B.ln,hc,h0,h1,fun v rs' H' v0 v1 T' A'=>?_⟩⟩
 obtain⟨d,rfl⟩:=Int.eq_ofNat_of_zero_le v0
 exact k d H' v1 (B.drawn A' T') A'
theorem Bag.keep(B:Bag K H a t r ns c)(A:Apart t r H H'){b:Addr}{o:HO}(e:H b=some o)(n:∀kvs,o≠ .dK kvs):H' b=some o:=by
 obtain⟨rs,T⟩:=B.tw
 refine A b o e (fun z=>?_) fun z=>?_
 ·rw[z,T.tw]at e;cases e;exact n _ rfl
 ·rw[z,T.rt]at e;cases e;exact n _ rfl
theorem Bag.free(B:Bag K H a t r ns c)(B':Bag K H' a t r ns c')(A:Apart t r H H'){q:Addr}(h:H' q=none):H q=none:=by
 obtain⟨rs',T'⟩:=B'.tw
 cases e:H q with
 |none=>rfl
 |some o=>
  by_cases z1:q=t
  ·rw[z1,T'.tw]at h;cases h
  ·by_cases z2:q=r
   ·rw[z2,T'.rt]at h;cases h
   ·rw[A q o e z1 z2]at h;cases h
theorem Bag.pick{σ:St}{i j:Nat}{n:Int}{ta:TA}{xs:List V}{Q:VK}{E:XK}(B:Bag K H a t r ns c)(hi:σ[i]? =some (some (.ref a)))(hj:σ[j]? =some (some (.ref t)))(hta:∀R:List V→Hp→Prop,R xs H→ta σ H R) (hn:n=(xs.length:Int)) (h0:0<n) (h1:n<1000) (hc:c<100000)
  (k:∀(d:Nat)(x:V)(H':Hp),xs[d]? =some x→Bag K H' a t r ns (c+1)→Apart t r H H'→Q x H'):tOp (yy K) (QbQ ta) (WQ (X1 K) [] E (JN (Kx i) (JN (Kx j) (JN (tC (.int n)) W7)))) σ H Q:=by
 have hz:1000≤sizeLine:=by decide
 refine hta _ ⟨by omega,fun p hp=>?_⟩
 have S:=Qz.new (o:=.lst xs) hp
 refine(B.same S).draw hi hj (fun R h=>h) h0 (by omega) hc fun d H' hd B' A'=>?_
 obtain⟨x,hx⟩:∃x,xs[d]? =some x:=⟨_,List.getElem?_eq_getElem (by omega)⟩
 have hpp:H' p=some (.lst xs):=(B.same S).keep A' Qe fun _ z=>nomatch z
 exact⟨p,xs,d,x,rfl,rfl,.inl (.inl hpp),Zd hx,k d x H' hx B' (fun b o e n1 n2=>A' b o (S _ _ e) n1 n2)⟩
end
end L2
set_option Elab.async false
set_option linter.all false
set_option maxRecDepth 100000
namespace L2
open PySem PySem.Spec PyProof.Rows
section
variable {X:Cx}
end
end L2
set_option Elab.async false
set_option linter.all false
set_option maxRecDepth 100000
namespace L2
open PySem PySem.Spec PyProof.Rows
open Builtin Builtin.Str
noncomputable def Its(z:Str):It:=⟨fun i _=>i<z.cps.size,fun i H x H'=>H'=H∧∃c,z.cps[i]? =some c∧x=.str ⟨#[c]⟩,fun i _=>z.cps.size≤i⟩
theorem xO{P:Program}{w:World}{K:PySem.W.Frag}{tg:Expr}(it:Addr)(z:Str)(t:Tok):Turn P w K tg (Its z) [it] it (fun i h=>h.IsStrIter it "str_ascii_iterator" z t i) where
 mem:=by simp
 obj:=fun i h st b hb=>by
  have e:b=it:=by simpa using hb
  subst e
  obtain⟨o,e,c,d⟩:=st
  exact⟨o,e,fun v z=>by rw[d]at z;cases z⟩
 keep:=fun i h h' st k=>by
  obtain⟨o,e,c,d⟩:=st
  exact⟨o,k it (by simp) o e,c,d⟩
 item:=by
  intro X hP hw hK hc i pins s σ H E I hf st hg
  subst hP hw hK
  obtain⟨f0,f1,f2,f3,f4,f5⟩:=hf it (by simp)
  have hg':i<z.cps.size:=hg
  obtain⟨c,hcs⟩:∃c,z.cps[i]? =some c:=⟨z.cps[i],by simp[hg']⟩
  refine wpAny_pyNext_ascii_item st hcs fun h' st' sb=>?_
  have I1:Inv X pins σ H {s with heap:=h',toks:=s.toks+1}:=I.turned (fun b o hb e=>(sb.2 b hb).trans e) f0 f1 f3 f4 f5
  obtain⟨o,e,cc,d⟩:=id st'
  exact⟨_,rfl,jr (s:={s with heap:=h',toks:=s.toks+1}) e cc d (by decide) ⟨.str ⟨#[c]⟩,H,I1,⟨_,rfl⟩,⟨rfl,c,hcs,rfl⟩,st',fun b hb=>(hf b hb).1⟩⟩
 done:=by
  intro X hP hw hK hc i pins s σ H E I hf st hg
  subst hP hw hK
  obtain⟨f0,f1,f2,f3,f4,f5⟩:=hf it (by simp)
  have hg':z.cps.size≤i:=hg
  exact wpAny_pyNext_ascii_end (I.ok.hd hc) st (by simp[hg']) fun h' eb=>⟨rfl,I.turned (t':=s.toks) (fun b o hb e=>eb b o hb e) f0 f1 f3 f4 f5⟩
 self:=fun _ _ _ _ _ st h=>wpAny_pyIter_striter_ascii st h
section
variable {X:Cx}{tg:Expr}
noncomputable def QaO(tl:TE):TI:=fun σ H R=>tl σ H fun x H1=>∃z:Str,x=.str z∧z.cps.all (· <128)=true∧R (Its z) H1
theorem Vd{l:Expr}{tl:TE}(hl:PE X l tl):PI X tg l (QaO tl):=by
 intro pins s σ H R I h
 refine thn (hl pins s σ H _ I h) fun v s1⟨x,H1,I1,r1,q1⟩=>?_
 obtain⟨z,e,ha,q⟩:=q1
 subst e
 obtain⟨t,rfl⟩:=r1
 refine wpAny_pyIter_ascii ha ?_
 refine⟨s1.heap.objs.size,[s1.heap.objs.size],_,_,H1,rfl,I1.kept (t':=s1.toks) fun b o e=>Heap.get?_push_of_some _ e,xO _ z t,⟨_,Heap.get?_push_size _ rfl,rfl,rfl⟩,fun b hb=>?_,q⟩
 have e:b=s1.heap.objs.size:=by simpa using hb
 subst e
 exact I1.xi (Nat.le_refl _) (I1.hok.fresh (Nat.le_refl _))
end
theorem VD{z:Str}{NB:List Str}{g:TG}{tt:TT}{te:TE}{tl:TE}{Q:VK}{σ:St}{H:Hp}(Pv:Nat→List V→Hp→Prop)(h:∀R:VK,R (.str z) H→tl σ H R) (ha:z.cps.all (· <128)=true) (h0:Pv 0 [] H) (hl:∀i vs H,i≤z.cps.size→Pv i vs H→vs.length≤i)
  (hs:∀i c vs H,z.cps[i]? =some c→Pv i vs H→g (.str ⟨#[c]⟩) (List.replicate NB.length none) H fun σ2 H2=>tt σ2 H2 fun b H3=>if b=true then te σ2 H3 fun v H4=>Pv (i+1) (vs++[v]) H4 else Pv (i+1) vs H3)
  (hd:∀vs H,Pv z.cps.size vs H→∀p,H p=none→Q (.ref p) (upd H p (.lst vs))) (hz:z.cps.size<sizeLine):Uk NB (QaO tl) g tt te σ H Q:=by
 refine h _ ⟨z,rfl,ha,?_⟩
 refine⟨fun i m vs H=>m=z.cps.size-i∧i≤z.cps.size∧Pv i vs H,⟨z.cps.size,by simp,Nat.zero_le _,h0⟩,?_⟩
 rintro i m vs H ⟨rfl,hi,p⟩
 have hv:=hl i vs H hi p
 by_cases hlt:i<z.cps.size
 ·refine .inr ⟨hlt,by omega,Pv (i+1),fun vs' H' p'=>⟨z.cps.size-(i+1),by omega,rfl,hlt,p'⟩,fun x H' y=>?_⟩
  obtain⟨e,c,hc,e2⟩:=y
  subst e e2
  exact hs i c vs _ hc p
 ·have e:i=z.cps.size:=by omega
  subst e
  exact .inl ⟨Nat.le_refl _,hd vs H p⟩
section
variable {X:Cx}
theorem zd:MtR X "str.index" (fun x vs H Q=>∃(z y:Str)(i:Nat)(r:List Nat),x=.str z∧vs=[.str y]∧occurrences z y 0 z.length 1=i::r∧Q (.int i) H):=by
 intro pins s σ H x vs v us Q I rx rv h
 obtain⟨z,y,i,r,rfl,rfl,ho,q⟩:=h
 obtain⟨t,rfl⟩:=rx
 obtain⟨u,rfl,t',rfl⟩:=vals1 rv
 exact call_gives F.slot_str_index F.entry_str_index (F.args_str_index_2 _ _) (gives_str_index z y t t' i r ho) ⟨.int _,H,I.tok _,⟨_,rfl⟩,q⟩
end
end L2
set_option Elab.async false
set_option linter.all false
set_option maxRecDepth 100000
namespace L2
open PySem PySem.Spec PyProof.Rows
open Builtin Builtin.Str
section
variable {X:Cx}
variable {o e:Expr}{es:List Expr}{to:TE}{t:TA}{name:Str}{apos cpos:Pos}{T id:String}{r:V→List V→Hp→VK→Prop}
end
end L2
set_option Elab.async false
set_option linter.all false
set_option maxRecDepth 100000
namespace L2
open PySem PySem.Spec PyProof.Rows
noncomputable def ze(scope:Scope)(env:Env)(C:Addr):Env:=
 {scope:=relabel scope env,locals:=C,globals:=env.globals,cells:=JV env.cells scope.names [],qual:=env.qual,func:=none,code:=env.code,frame:=env.frame,builtins:=env.builtins}
noncomputable abbrev Zq(X:Cx)(NB:List Str)(scope:Scope)(s:Shared)(H:Hp)(ex:List Addr):Cx:=
 {X with N:=NB,s₀:=s,H₀:=H,env:=ze scope X.env s.heap.objs.size,outer:=X.stack,ex:=ex,fn:=fun _=>false,pn:=[],xe:=fun _ _=>False}
structure BlkScopeF(NB FR:List Str)(scope:Scope):Prop where
 kind:scope.kind=.function
 nd:(NB++FR).Nodup
 nocell:∀y∈scope.names,y.2≠ .cell
 loc:∀y∈scope.names,y.2=.local→scope.names.lookup y.1=some .local
 nd2:(scope.names.map (·.1)).Nodup
 fr:∀y∈FR,(y,NameKind.free)∈scope.names
noncomputable def we(n:Nat)(fi:List Nat)(wi:TI)(g:TG)(tt:TT)(te:TE):TE:=fun σ H Q=>wi σ H fun J H1=>∃fv:List V,fi.map (fun i=>σ[i]?)=fv.map (fun v=>some (some v))∧∃W:Nat→Nat→List V→Hp→Prop,(∃m,W 0 m [] H1)∧∀i m vs H,W i m vs H→
 (J.stop i H∧∀p,H p=none→Q (.ref p) (upd H p (.lst vs)))∨(J.go i H∧vs.length<sizeLine∧∃N:List V→Hp→Prop,(∀vs' H',N vs' H'→∃m',m'<m∧W (i+1) m' vs' H')∧
  ∀x H',J.yld i H x H'→g x (List.replicate n none++fv.map some) H' fun σ2 H2=>σ2.drop n=fv.map some∧tt σ2 H2 fun b H3=>if b=true then te σ2 H3 fun v H4=>N (vs++[v]) H4 else N vs H3)
noncomputable def reF(env:Env)(x:Str × NameKind):Str × NameKind:=if(x.2==NameKind.free&&env.scope.kind==.function&&env.kindOf x.1==some .cell)then(x.1,NameKind.cell)else(x.1,x.2)
theorem qd(env:Env){x:Str × NameKind}{y:Str}(h:y≠x.1)(l:List (Str × NameKind)):(reF env x::l).lookup y=l.lookup y:=by
 have hb:(y==x.1)=false:=beq_eq_false_iff_ne.mpr h
 unfold reF
 split<;>rw[List.lookup_cons,hb]
theorem Yy{env:Env}{scope:Scope}{y:Str}(nd:(scope.names.map (·.1)).Nodup)(h:(y,NameKind.free)∈scope.names)(hk:(env.scope.kind==.function)=true)(hc:env.scope.names.lookup y=some .cell):(relabel scope env).names.lookup y=some .cell:=by
 have key:∀l:List (Str × NameKind),(l.map (·.1)).Nodup→(y,NameKind.free)∈l→(l.map (reF env)).lookup y=some .cell:=by
  intro l
  induction l with
  |nil=>intro _ h;cases h
  |cons z r ih=>
   intro nd h
   rw[List.map_cons,List.nodup_cons]at nd
   rw[List.map_cons]
   rcases List.mem_cons.mp h with h|h
   ·subst h
    have e:(env.kindOf y==some NameKind.cell)=true:=by rw[show env.kindOf y=env.scope.names.lookup y from rfl,hc];rfl
    have e2:reF env (y,NameKind.free)=(y,NameKind.cell):=by unfold reF;rw[if_pos (by rw[hk,e];rfl)]
    rw[e2,List.lookup_cons,beq_self_eq_true]
   ·have hne:y≠z.1:=fun q=>nd.1 (by rw[←q];exact List.mem_map.mpr ⟨_,h,rfl⟩)
    rw[qd env hne]
    exact ih nd.2 h
 exact key scope.names nd h
theorem Yz{env:Env}{scope:Scope}{y:Str}(nc:∀y∈scope.names,y.2≠ .cell) (h:(relabel scope env).names.lookup y=some .cell∨(relabel scope env).names.lookup y=some .free):(y,NameKind.free)∈scope.names:=by
 have key:∀l:List (Str × NameKind),(∀y∈l,y.2≠ .cell)→((l.map (reF env)).lookup y=some .cell∨(l.map (reF env)).lookup y=some .free)→(y,NameKind.free)∈l:=by
  intro l
  induction l with
  |nil=>intro _ h;rcases h with h|h<;>simp at h
  |cons z r ih=>
   intro nc h
   have hk:z.2≠ .cell:=nc z List.mem_cons_self
   rw[List.map_cons]at h
   by_cases hn:y=z.1
   ·obtain⟨n,k⟩:=z
    have hn:y=n:=hn
    subst hn
    have hf:k=.free:=by
     cases k with
     |cell=>exact absurd rfl hk
     |free=>rfl
     |_=>
      have e2:∀q:NameKind,(q==NameKind.free)=false→reF env (y,q)=(y,q):=fun q hq=>by unfold reF;rw[if_neg (by rw[show((y,q).2==NameKind.free)=false from hq];simp)]
      rw[e2 _ rfl,List.lookup_cons,beq_self_eq_true]at h
      rcases h with h|h<;>cases h
    rw[hf]
    exact List.mem_cons_self
   ·rw[qd env hn]at h
    exact List.mem_cons_of_mem _ (ih (fun y hy=>nc y (List.mem_cons_of_mem _ hy)) h)
 exact key scope.names nc h
theorem Xv:∀(l:List (Str × NameKind))(n:Nat)(acc:List (Str × Addr)),(∀y∈l,y.2≠ .cell)→cellsFrom n l acc=acc
 |[],_,_,_=>rfl
 |(x,k)::r,n,acc,h=>by
  have hk:(k==NameKind.cell)=false:=beq_eq_false_iff_ne.mpr (h (x,k) List.mem_cons_self)
  unfold cellsFrom
  rw[hk]
  exact Xv r n acc fun y hy=>h y (List.mem_cons_of_mem _ hy)
theorem Xw:∀(l:List (Str × NameKind))(h:Heap),(∀y∈l,y.2≠ .cell)→pushCells h l=h
 |[],_,_=>rfl
 |(x,k)::r,h,hn=>by
  have hk:(k==NameKind.cell)=false:=beq_eq_false_iff_ne.mpr (hn (x,k) List.mem_cons_self)
  unfold pushCells
  rw[hk]
  exact Xw r h fun y hy=>hn y (List.mem_cons_of_mem _ hy)
theorem Wo{M:Model}{A:Around}{E:Value→Shared→Prop}{s:Shared}{scope:Scope}{globals:Addr}{qual:Str}{env:Env}{cl:List (Str × Addr)}{Q:Env→Shared→Prop}(hk:scope.kind=.function)(hn:∀y∈scope.names,y.2≠ .cell)
  (hQ:∀cenv s',cenv={scope:=scope,locals:=s.heap.objs.size,globals:=globals,cells:=cl,qual:=qual,func:=none,code:=env.code,frame:=env.frame,builtins:=env.builtins}→
   InCall s s.heap.objs.size (fun _=>none) s'→Q cenv s'):
  wpAny M A (newFunctionEnv scope globals cl [] qual none .none (some env)) Q E s:=by
 simp only[newFunctionEnv,Option.isSome_some,if_true]
 refine wpAny_bind (wpAny_alloc ?_)
 refine wpAny_bind (wpAny_layCells _ (fun name kind cells=>by cases hkc:kind==NameKind.cell<;>simp[hkc]) _ _ _ _ ?_)
 rw[Xv _ _ _ hn,Xw _ _ hn]
 refine wpAny_bind (wpAny_pure (wpAny_pure (hQ _ _ rfl ?_)))
 exact⟨⟨_,_,rfl⟩,Heap.Ns.new s.heap (.type "dict"),fun b o e=>Heap.get?_push_of_some _ e,Nat.le_refl _⟩
section
variable {X:Cx}
theorem YA{elt tg iter:Expr}{ifs:List Expr}{scope:Scope}{pos:Pos}{NB FR:List Str}{fi:List Nat}{wi:TI}{g:TG}{tt:TT}{te:TE}(hc:X.calm=true)(S:BlkScopeF NB FR scope)(hfree:jV scope X.env.scope=true)(hfi:fi.map (fun i=>X.N[i]?)=FR.map some) (hi:PI X tg iter wi)
  (hg:∀s H ex,PG (Zq X (NB++FR) scope s H ex) tg g) (ht:∀s H ex,PTs (Zq X (NB++FR) scope s H ex) ifs tt) (he:∀s H ex,PE (Zq X (NB++FR) scope s H ex) elt te)
  (hs:∀x,foldedSetIterable iter X.env x=pure x:=by intro _;rfl):PE X (.ListComp elt [⟨tg,iter,ifs,0⟩] scope pos) (we NB.length fi wi g tt te):=by
 intro pins s σ H Q I h
 have hfc:∀y∈scope.names,y.2=.free→X.env.scope.names.lookup y.1=some .cell:=Ys hfree
 have hasF:∀y∈scope.names,y.2=.free→∃c,X.env.cells.lookup y.1=some c:=fun y hy e=>I.ok.has y.1 (.inl (hfc y hy e))
 have clook:∀y c,(JV X.env.cells scope.names []).lookup y=some c→X.env.cells.lookup y=some c:=fun y c e=>Wk scope.names [] hasF (fun z=>nomatch z) e
 rw[eval_ListComp]
 refine wpAny_comprehension_free (use:=none) (cl:=JV X.env.cells scope.names []) rfl hs (ZP hasF) S.kind S.loc (thn (hi pins s σ H _ I h) fun v s1 h1=>thn h1 fun itv s2 h2=>?_)
 obtain⟨it,fp,tn,J,H2,e,I2,T,st2,f2,fv,hfv,W,⟨m0,w0⟩,turn⟩:=h2
 subst e
 refine wpAny_newObj_type ?_
 have up2:∀b o,s2.heap.get? b=some o→(s2.heap.push {cls:=.type "list",data:=.seq ([]:List Value).toArray}).get? b=some o:=fun b o e=>Heap.get?_push_of_some _ e
 have I3:Inv X pins σ H2 {s2 with heap:=s2.heap.push {cls:=.type "list",data:=.seq ([]:List Value).toArray}}:=I2.kept (t':=s2.toks) up2
 have st3:tn 0 (s2.heap.push {cls:=.type "list",data:=.seq ([]:List Value).toArray}):=T.keep _ _ _ st2 fun b _ o e=>up2 b o e
 have hD3:(s2.heap.push {cls:=.type "list",data:=.seq ([]:List Value).toArray}).get? s2.heap.objs.size=some (Xq []):=Heap.get?_push_size _ rfl
 have hD2:H2 s2.heap.objs.size=none:=I2.hok.fresh (Nat.le_refl _)
 have lt2:∀b o,s2.heap.get? b=some o→b≠s2.heap.objs.size:=fun b o e=>Nat.ne_of_lt (Heap.lt_size e)
 have fpO:∀b∈fp,∃o,s2.heap.get? b=some o:=fun b hb=>let ⟨o,e,_⟩:=T.obj _ _ st2 b hb;⟨o,e⟩
 have hDs0:X.s₀.heap.objs.size≤s2.heap.objs.size:=I2.sz
 have hDL:s2.heap.objs.size≠X.env.locals:=Nat.ne_of_gt I2.lt
 have hDC:∀x c,X.env.cells.lookup x=some c→c≠s2.heap.objs.size:=fun x c e=>let ⟨v,o,e1,_⟩:=I2.cell x c e;lt2 c o e1
 have hDp:∀p∈X.pn++pins,p.1≠s2.heap.objs.size:=fun p hp=>lt2 p.1 _ (I2.pin p hp).1
 have hDf:s2.heap.objs.size∉frs X.stack:=fun z=>let ⟨o,e,_⟩:=(I2.stack.mem z).2;lt2 _ o e rfl
 generalize hS3:({s2 with heap:=s2.heap.push {cls:=.type "list",data:=.seq ([]:List Value).toArray}}:Shared)=s3 at I3 ⊢
 have hh3:s3.heap=s2.heap.push {cls:=.type "list",data:=.seq ([]:List Value).toArray}:=by rw[←hS3]
 rw[←hh3]at st3 hD3 up2
 generalize s2.heap.objs.size=D at hD3 hD2 lt2 hDs0 hDL hDC hDp hDf ⊢
 refine Wo S.kind S.nocell fun cenv s4 hce x4=>?_
 subst hce
 have lt3:∀b o,s3.heap.get? b=some o→b<s3.heap.objs.size:=fun b o e=>Heap.lt_size e
 have fp3:∀b∈fp,b<s3.heap.objs.size:=fun b hb=>let ⟨o,e⟩:=fpO b hb;lt3 b o (up2 b o e)
 have dl3:D<s3.heap.objs.size:=lt3 D _ hD3
 have DfpN:∀b∈fp,b≠D:=fun b hb=>let ⟨o,e⟩:=fpO b hb;lt2 b o e
 obtain⟨h4,tk4,rfl,hk4⟩:=x4.done
 have bsN:∀b o,X.base.get? b=some o→b∉D::fp:=fun b o e hb=>by
  rcases List.mem_cons.mp hb with rfl|hb
  ·exact absurd (Nat.lt_of_lt_of_le (Heap.lt_size (I2.ok.bs b o e).1) hDs0) (Nat.lt_irrefl _)
  ·obtain⟨_,_,_,f3,_⟩:=f2 b hb
   rcases f3 with z|z
   ·exact I2.ok.noex b o e z
   ·exact absurd (Nat.lt_of_lt_of_le (Heap.lt_size (I2.ok.bs b o e).1) z) (Nat.lt_irrefl _)
 have exF:∀b∈D::fp,b∉frs X.stack:=fun b hb hf=>by
  rcases List.mem_cons.mp hb with rfl|hb
  ·exact hDf hf
  ·obtain⟨_,f1,f2',_⟩:=f2 b hb
   rcases List.mem_cons.mp (I2.XQ b hf)with z|z
   ·exact f1 z
   ·exact f2' z
 have ccl:∀y c,(JV X.env.cells scope.names []).lookup y=some c→(∃v,s3.heap.IsCell c v)∧H2 c=none∧c≠D∧∀b∈fp,c≠b:=fun y c e=>by
  have e':=clook y c e
  exact⟨I3.cell y c e',I3.freeC y c e',hDC y c e',fun b hb=>(f2 b hb).2.2.2.2.1 y c e'⟩
 have clt:∀y c,(JV X.env.cells scope.names []).lookup y=some c→c<s3.heap.objs.size:=fun y c e=>let ⟨⟨v,o,ho,_⟩,_⟩:=ccl y c e;lt3 c o ho
 have exLt:∀b∈D::fp,b<s3.heap.objs.size:=fun b hb=>by
  rcases List.mem_cons.mp hb with rfl|hb
  ·exact dl3
  ·exact fp3 b hb
 have okB:(Zq X (NB++FR) scope s3 H2 (D::fp)).Ok:=by
  refine⟨I3.ok.mod,S.kind,I3.ok.glob,I3.ok.blt,Nat.le_refl _,fun y z c h1 h2=>?_,fun y hy=>?_,(fun y c z _=>nomatch z),I3.ok.hd,I3.ok.frames,.inl rfl,fun b hb=>⟨Nat.ne_of_lt (exLt b hb),fun y c e z=>?_⟩,I3.bs,Nat.le_trans I3.ok.bsz I3.sz,bsN,exF,I3.stack,I3.Xy⟩
  ·exact I3.ok.inj y z c (clook y c h1) (clook z c h2)
  ·exact X0 scope.names [] (.inr (Yz S.nocell hy))
  ·obtain⟨_,_,n1,n2⟩:=ccl y c e
   rcases List.mem_cons.mp hb with q|q
   ·exact n1 (z.trans q)
   ·exact n2 b q z
 have hlen0:(List.replicate NB.length (none:Option V)++fv.map some).length=(NB++FR).length:=by
  have h1:=congrArg List.length hfv
  have h2:=congrArg List.length hfi
  simp only[List.length_map]at h1 h2
  rw[List.length_append,List.length_append,List.length_replicate,List.length_map]
  omega
 have rep:∀(j:Nat)(v:V),(List.replicate NB.length (none:Option V)++fv.map some)[j]? =some (some v)→∃k,j=NB.length+k∧fv[k]? =some v:=fun j v z=>by
  rw[List.getElem?_append]at z
  split at z
  ·rw[List.getElem?_replicate]at z
   split at z<;>cases z
  ·rename_i hj
   rw[List.length_replicate]at hj z
   refine⟨j-NB.length,by omega,?_⟩
   rw[List.getElem?_map]at z
   cases e:fv[j-NB.length]? with
   |none=>rw[e]at z;cases z
   |some y=>rw[e]at z;exact congrArg some (Option.some.inj (Option.some.inj z))
 have fvAt:∀(k:Nat)(v:V)(y:Str),fv[k]? =some v→FR[k]? =some y→∃i,X.N[i]? =some y∧σ[i]? =some (some v):=fun k v y h1 h2=>by
  have a1:=congrArg (fun l=>l[k]?) hfv
  have a2:=congrArg (fun l=>l[k]?) hfi
  simp only[List.getElem?_map,h1,h2]at a1 a2
  cases e:fi[k]? with
  |none=>rw[e]at a1;cases a1
  |some i=>
   rw[e]at a1 a2
   exact⟨i,Option.some.inj a2,Option.some.inj a1⟩
 have IB:Inv (Zq X (NB++FR) scope s3 H2 (D::fp)) [(D,Xq [])] (List.replicate NB.length none++fv.map some) H2 {s3 with heap:=h4,toks:=tk4}:=by
  refine⟨okB,rfl,I3.bare,Un.kept hk4,⟨_,x4.ns,fun i y v h1 h2 h3=>?_⟩,fun y c h=>let ⟨⟨v,o,ho,hd⟩,_⟩:=ccl y c h;⟨v,o,hk4 _ _ ho,hd⟩,I3.hok.fresh (Nat.le_refl _),fun y c h=>(ccl y c h).2.1,fun p hp=>?_,I3.hok.kept hk4,hlen0⟩
  ·obtain⟨k,rfl,hk⟩:=rep i v h2
   have hy:FR[k]? =some y:=by
    have h1:(NB++FR)[NB.length+k]? =some y:=h1
    rw[List.getElem?_append_right (Nat.le_add_right _ _),Nat.add_sub_cancel_left]at h1
    exact h1
   obtain⟨io,hN,hσ⟩:=fvAt k v y hk hy
   have hfr:(y,NameKind.free)∈scope.names:=S.fr y (List.mem_of_getElem? hy)
   obtain⟨m,_,hl⟩:=I3.loc
   obtain⟨u,r,l⟩:=hl io y v hN hσ (.inr (.inl (hfc _ hfr rfl)))
   refine⟨u,r,.inr ⟨.inl ?_,?_⟩⟩
   ·exact Yy S.nd2 hfr (by show(X.env.scope.kind==.function)=true;rw[I3.ok.kind];rfl) (hfc _ hfr rfl)
   ·obtain⟨c,hc1⟩:=X0 (cells:=X.env.cells) (x:=y) scope.names [] (.inr hfr)
    refine⟨c,hc1,?_⟩
    have hc2:=clook y c hc1
    rcases l with⟨hk,_⟩|⟨_,c',hc',o,ho,hd⟩
    ·have e1:=hfc _ hfr rfl
     rw[show X.env.kindOf y=X.env.scope.names.lookup y from rfl]at hk
     rw[hk]at e1
     cases e1
    ·rw[hc2]at hc'
     cases hc'
     exact⟨o,hk4 _ _ ho,hd⟩
  obtain rfl:p=(D,Xq []):=by simpa using hp
  exact⟨hk4 _ _ hD3,hD2,Nat.ne_of_lt dl3,hDf,fun v z=>nomatch z⟩
 have stat:∀{H':Hp}{ys:List Value},(∀b∈fp,H' b=none)→∀b∈fp,jq (Zq X (NB++FR) scope s3 H2 (D::fp)) [(D,Xq ys)] H' b:=fun hn b hb=>
  ⟨hn b hb,Nat.ne_of_lt (fp3 b hb),exF b (List.mem_cons_of_mem _ hb),.inl (List.mem_cons_of_mem _ hb),fun y c e z=>(ccl y c e).2.2.2 b hb z,fun p hp=>by
    obtain rfl:p=(D,_):=by simpa using hp
    exact(DfpN b hb).symm⟩
 have st4:tn 0 h4:=T.keep _ _ _ st3 fun b _ o e=>hk4 b o e
 have fr4:∀b∈fp,H2 b=none:=fun b hb=>(f2 b hb).1
 have hcB:(Zq X (NB++FR) scope s3 H2 (D::fp)).calm=true:=hc
 have loop:codeAny (model X.prog X.w) X.A (.compLoop (.ListComp elt [⟨tg,iter,ifs,0⟩] scope pos) 0 (.ref it) (.ref D) (ze scope X.env s3.heap.objs.size))
   (compPost (model X.prog X.w) X.A X.xe none (EP X pins σ Q) (.ref D) s3.heap.objs.size) {s3 with heap:=h4,toks:=tk4}:=by
  refine Wl (fun n s'=>∃i vs ys H',Inv (Zq X (NB++FR) scope s3 H2 (D::fp)) [(D,Xq ys)] (List.replicate NB.length none++fv.map some) H' s'∧Vals vs ys∧vs.length≤sizeLine∧tn i s'.heap∧(∀b∈fp,H' b=none)∧W i n vs H') ?_ m0 ⟨0,[],[],H2,IB,.nil,Nat.zero_le _,st4,fr4,w0⟩
  rintro n s5 ⟨i,vs,ys,H5,I5,rv,hvl,st5,fr5,w5⟩
  rcases turn i n vs H5 w5 with⟨stop,qn⟩|⟨go,hlt,N,hN,step⟩
  ·refine wpAny_mono (T.done (Zq X (NB++FR) scope s3 H2 (D::fp)) rfl rfl rfl hcB i _ s5 _ H5 (fun _ _=>False) I5 (stat fr5) st5 stop) (fun r s6⟨hr,I6⟩=>?_) (fun _ _ z=>z.elim)
   subst hr
   obtain⟨m6,hn6,_⟩:=id I6.loc
   refine⟨m6,hn6,fun h7 sb7=>?_⟩
   have kp7:∀b o,b≠s3.heap.objs.size→s6.heap.get? b=some o→h7.get? b=some o:=fun b o hb e=>(sb7.2 b hb).trans e
   have hC6:H5 s3.heap.objs.size=none:=I6.free
   have un7:Un (frs X.stack) (D::fp) H2 H5 s3.heap h7:=by
    have u:=I6.base
    refine⟨fun b o e n hb hx=>kp7 b o (Nat.ne_of_lt (Heap.lt_size e)) (u.keep b o e n hb hx),fun b o e n hb hx=>?_,u.free,fun b o e hx=>?_,u.tups,u.frzs,u.tbls⟩
    ·obtain⟨sl,q⟩:=u.slot b o e n hb hx
     exact⟨sl,kp7 b _ (Nat.ne_of_lt (Heap.lt_size e)) q⟩
    ·obtain⟨o',q⟩:=u.there b o e hx
     exact⟨o',kp7 b _ (Nat.ne_of_lt (Heap.lt_size e)) q⟩
   have hok7:HOk X.prog X.w H5 h7:=fun b u e=>(I6.hok b u e).Kw (fun c w' hcc q=>kp7 c w' (by
    rintro rfl
    rcases hcc with rfl|hcc
    ·rw[hC6]at e;cases e
    ·rw[hC6]at hcc;cases hcc) q) (fun _ q=>q) fun _ _ q=>q
   have I7:Inv X pins σ H5 {s6 with heap:=h7}:=I3.jm (s':={s6 with heap:=h7}) I6.os un7 hok7 I6.bare fun b hb=>by
    rcases List.mem_cons.mp hb with rfl|hb
    ·exact⟨.inr hDs0,hDL,hDC,hDp⟩
    ·obtain⟨_,f1,_,f3,f4,f5⟩:=f2 b hb
     exact⟨f3,f1,f4,f5⟩
   obtain⟨eD,nD,_⟩:=I6.pin (D,Xq ys) (by simp)
   have nD':H5 D=none:=nD
   have eD':h7.get? D=some (Xq ys):=kp7 D _ (Nat.ne_of_lt dl3) eD
   have hD0:X.s₀.heap.get? D=none:=by
    cases q:X.s₀.heap.get? D with
    |none=>rfl
    |some o=>exact absurd (Nat.lt_of_lt_of_le (Heap.lt_size q) hDs0) (Nat.lt_irrefl _)
   exact⟨.ref D,upd H5 D (.lst vs),I7.xv nD' hD0 hDL hDC hDp ⟨hvl,ys,ys.length,rv,eD'⟩,rfl,qn D nD'⟩
  ·refine wpAny_mono (T.item (Zq X (NB++FR) scope s3 H2 (D::fp)) rfl rfl rfl hcB i _ s5 _ H5 (fun _ _=>False) I5 (stat fr5) st5 go) (fun r s6⟨u,hr,h6⟩=>?_) (fun _ _ z=>z.elim)
   subst hr
   refine wpAny_mono h6 (fun _ s7⟨x,H7,I7,r7,y7,st7,fr7⟩=>?_) (fun _ _ z=>z.elim)
   have I7':=I7.pinned (stat fr7) (T.obj _ _ st7)
   refine wpAny_mono (hg s3 H2 (D::fp) _ s7 _ H7 x u _ I7' r7 (step x H7 y7)) (fun _ s8⟨σ8,H8,I8,hk8,q8⟩=>?_) (fun _ _ z=>z.elim)
   refine wpAny_mono (ht s3 H2 (D::fp) _ s8 σ8 H8 _ I8 q8) (fun ok s9⟨H9,I9,q9⟩=>?_) (fun _ _ z=>z.elim)
   have fpK:∀{σ':St}{H':Hp}{s':Shared},Inv (Zq X (NB++FR) scope s3 H2 (D::fp)) ([(D,Xq ys)]++K8 fp s7.heap) σ' H' s'→tn (i+1) s'.heap∧∀b∈fp,H' b=none:=fun J=>
    ⟨T.keep _ _ _ st7 fun b hb o e=>(J.pin (b,o) (List.mem_append_right _ (List.mem_append_right _ (JO hb e)))).1,fun b hb=>by
     obtain⟨o,e,d⟩:=T.obj _ _ st7 b hb
     exact(J.pin (b,o) (List.mem_append_right _ (List.mem_append_right _ (JO hb e)))).2.1⟩
   have wk:∀{H':Hp}{s':Shared}{pl:List (Addr × Obj)},Inv (Zq X (NB++FR) scope s3 H2 (D::fp)) pl σ8 H' s'→Inv (Zq X (NB++FR) scope s3 H2 (D::fp)) pl (List.replicate NB.length none++fv.map some) H' s':=fun J=>
    J.weak (hlen0.trans J.len.symm) fun j v z=>by
     obtain⟨k,rfl,hk⟩:=rep j v z
     have:=congrArg (fun l=>l[k]?) hk8
     simp only[List.getElem?_drop,List.getElem?_map,hk]at this
     exact this
   cases ok with
   |false=>
    rw[if_neg (by decide)]at q9
    rw[if_neg (by decide)]
    obtain⟨m',hm,w9⟩:=hN vs H9 q9
    obtain⟨t9,f9⟩:=fpK I9
    exact⟨m',hm,i+1,vs,ys,H9,wk I9.Zl,rv,hvl,t9,f9,w9⟩
   |true=>
    rw[if_pos rfl]at q9
    rw[if_pos rfl]
    refine wpAny_mono (he s3 H2 (D::fp) _ s9 σ8 H9 _ I9 q9) (fun y s10⟨v,H10,I10,rv10,q10⟩=>?_) (fun _ _ z=>z.elim)
    obtain⟨eD,nD,_,nf,_⟩:=I10.pin (D,Xq ys) (by simp)
    have hyl:=rv.length
    refine append_at (hsz:=by show ys.toArray.size≤sizeLine;rw[List.size_toArray, ←hyl];exact hvl) eD fun h11 sb11 hD11=>?_
    obtain⟨m',hm,w11⟩:=hN (vs++[v]) H10 q10
    obtain⟨t10,f10⟩:=fpK I10
    have I10u:=I10.Zl
    have k11:∀b o,b≠D→s10.heap.get? b=some o→h11.get? b=some o:=fun b o hb e=>(sb11.2 b hb).trans e
    have IE:Inv (Zq X (NB++FR) scope s3 H2 (D::fp)) [] σ8 H10 s10:=I10u.Z1 fun p hp=>nomatch hp
    have I11:Inv (Zq X (NB++FR) scope s3 H2 (D::fp)) [] σ8 H10 {s10 with heap:=h11}:=IE.turned (t':=s10.toks) k11 nD (Nat.ne_of_lt dl3) (.inl List.mem_cons_self) (fun y' c e z=>(ccl y' c e).2.2.1 z) (fun p hp=>absurd (show p∈([]:List (Addr × Obj))from hp) (by simp))
    have eL:({cls:=.type "list",data:=.seq (ys.toArray.push y) (ys.length+1)}:Obj)=Xq (ys++[y]):=by
     show({cls:=.type "list",data:=.seq (ys.toArray.push y) (ys.length+1)}:Obj)={cls:=.type "list",data:=.seq (ys++[y]).toArray (ys++[y]).length}
     rw[List.length_append,List.length_singleton,List.push_toArray]
    refine⟨m',hm,i+1,vs++[v],ys++[y],H10,wk (I11.Z1 fun p hp=>?_),rv.append (.cons rv10 .nil),by rw[List.length_append,List.length_singleton];exact hlt,T.keep _ _ _ t10 fun b hb o e=>k11 b o (DfpN b hb) e,f10,w11⟩
    obtain rfl:p=(D,Xq (ys++[y])):=by simpa using hp
    exact⟨by rw[←eL];exact hD11,nD,Nat.ne_of_lt dl3,nf,fun v z=>nomatch z⟩
 exact codeAny_compStart_list loop (T.self _ 0 _ _ _ st4 loop)
end
end L2
set_option Elab.async false
set_option linter.all false
set_option maxRecDepth 100000
namespace L2
open PySem PySem.Spec PyProof.Rows
open Builtin Builtin.Str
section
variable {X:Cx}{pins:List (Addr × Obj)}{σ:List (Option V)}{H:Hp}{s:Shared}{h':Heap}
theorem Inv.vb{t':Nat}{ch:List Addr}(I:Inv X pins σ H s)(hf:∀b∈ch,jq X pins H b) (k:∀b o,b∉ch→s.heap.get? b=some o→h'.get? b=some o):Inv X pins σ H {s with heap:=h',toks:=t'}:=by
 have nit:∀b u,H b=some u→b∉ch:=fun b u e z=>by rw[(hf b z).1]at e;cases e
 refine I.step (g':=s.gens) (d':=s.drawn) (ch:=ch) (fun b hb=>?_) (fun b o _ _ hc e _=>k b o hc e) (fun b o _ _ hc e _=>⟨o.slots,k b o hc e⟩) (fun _ _ _ _ n=>n) (fun b o hc e=>⟨o,k b o hc e⟩) (fun _ _ e=>e) (fun _ _ _ e=>e) (fun b ps e=>⟨#[],by rw[e];simp⟩) (fun m hm=>?_) (fun b u e=>?_) I.bare
 ·obtain⟨_,f1,_,f3,f4,f5⟩:=hf b hb
  exact⟨f3,f1,f4,f5⟩
 ·obtain⟨o,es,ep,ho,r⟩:=hm
  exact⟨o,es,ep,k _ o (fun z=>(hf _ z).2.1 rfl) ho,r⟩
 ·refine(I.hok b u e).Kw (fun c v hc q=>k c v ?_ q) (fun _ q=>q) fun _ _ q=>q
  rcases hc with z|z
  ·rw[z];exact nit b u e
  ·exact nit c _ z
theorem Inv.vc{t':Nat}{ch:List Addr}{T:Addr}{xs:List V}(I:Inv X pins σ H s)(hf:∀b∈ch,jq X pins H b) (k:∀b o,b∉ch→s.heap.get? b=some o→h'.get? b=some o) (hT:s.heap.objs.size≤T)
  (new:JC X.prog X.w (upd H T (.tup xs)) h' T (.tup xs)):Inv X pins σ (upd H T (.tup xs)) {s with heap:=h',toks:=t'}:=by
 have hn:=I.hok.fresh hT
 have nit:∀b u,H b=some u→b∉ch:=fun b u e z=>by rw[(hf b z).1]at e;cases e
 have nT:∀b o,H b=some o→upd H T (.tup xs) b=some o:=fun b o e=>by rw[Qt (Qv e hn)];exact e
 refine I.step (g':=s.gens) (d':=s.drawn) (ch:=ch) (fun b hb=>?_) (fun b o _ _ hc e _=>k b o hc e) (fun b o _ _ hc e _=>⟨o.slots,k b o hc e⟩) (fun b o _ e n=>?_) (fun b o hc e=>⟨o,k b o hc e⟩) (fun b ys e=>nT b _ e) (fun b o u e=>nT b _ e) (fun b ps e=>⟨#[],by rw[nT b _ e];simp⟩) (fun m hm=>?_) (fun b u e=>?_) I.bare
 ·obtain⟨_,f1,_,f3,f4,f5⟩:=hf b hb
  exact⟨f3,f1,f4,f5⟩
 ·rw[Qt (fun z=>absurd (Heap.lt_size e) (by rw[z];exact Nat.not_lt.mpr hT))]
  exact n
 ·obtain⟨o,es,ep,ho,r⟩:=hm
  exact⟨o,es,ep,k _ o (fun z=>(hf _ z).2.1 rfl) ho,r⟩
 ·by_cases hb:b=T
  ·subst hb;rw[Qe]at e;cases e;exact new
  ·rw[Qt hb]at e
   refine(I.hok b u e).Kw (fun c v hc q=>k c v ?_ q) (fun c q=>nT c _ q) fun c ys q=>nT c _ q
   rcases hc with z|z
   ·rw[z];exact nit b u e
   ·exact nit c _ z
end
noncomputable def Ite(z:Str):It:=⟨fun i _=>i<z.cps.size,fun i H x H'=>∃p c,H p=none∧z.cps[i]? =some c∧x=.ref p∧H'=upd H p (.tup [.int (i:Nat),.str ⟨#[c]⟩]),fun i _=>z.cps.size≤i⟩
theorem qU{P:Program}{w:World}{K:PySem.W.Frag}{es:List Expr}{k:Nat}{pos:Pos}(e it:Addr)(hei:e≠it)(z:Str)(t:Tok):
  Turn P w K (.Tuple es k pos) (Ite z) [e,it] e (fun i h=>(∃old,IsEnum h e it (i:Nat) old)∧h.IsStrIter it "str_ascii_iterator" z t (min i z.cps.size)) where
 mem:=by simp
 obj:=fun i h st b hb=>by
  obtain⟨⟨old,he⟩,o,ho,hc,hd⟩:=st
  rcases List.mem_cons.mp hb with rfl|hb
  ·exact⟨_,he,fun v q=>nomatch (show Data.fields _=Data.cell v from q)⟩
  ·obtain rfl:b=it:=by simpa using hb
   exact⟨o,ho,fun v q=>by rw[hd]at q;cases q⟩
 keep:=fun i h h' st kk=>by
  obtain⟨⟨old,he⟩,o,ho,r⟩:=st
  exact⟨⟨old,kk e (by simp) _ he⟩,o,kk it (by simp) o ho,r⟩
 item:=by
  intro X hP hw hK hc i pins s σ H E I hf st hg
  subst hP hw hK
  obtain⟨⟨old,he⟩,hst⟩:=st
  have hg':i<z.cps.size:=hg
  rw[Nat.min_eq_left (Nat.le_of_lt hg')]at hst
  have D:=Draws.strAscii (prog:=X.prog) (w:=X.w) (A:=X.A.in1) (I.ok.hd hc) it z t
  refine wpAny_pyNext_enum_itemD D he hst hg' hei (by simpa using hei) fun x h1 tk hx ho st1 hT hsz hk=>⟨_,rfl,?_⟩
  obtain⟨c,u,hcs,rfl⟩:=hx
  refine wpAny_letOwnedTupleGo_enum ho fun h2 he2 hs2=>?_
  have hTe:s.heap.objs.size≠e:=fun q=>absurd (Heap.lt_size he) (by rw[←q];exact Nat.lt_irrefl _)
  refine⟨.ref s.heap.objs.size,upd H s.heap.objs.size (.tup [.int (i:Nat),.str ⟨#[c]⟩]),I.vc (ch:=[e,it]) hf (fun b o hb q=>?_) (Nat.le_refl _) ?_,rfl,⟨_,c,I.hok.fresh (Nat.le_refl _),hcs,rfl,rfl⟩,⟨⟨_,he2⟩,?_⟩,fun b hb=>?_⟩
  ·simp only[List.mem_cons,List.not_mem_nil,or_false,not_or]at hb
   exact(hs2.2 b hb.1).trans (hk b o hb.1 hb.2 q)
  ·exact⟨by show 2≤sizeLine;decide,[.int (i:Nat) tk,.str ⟨#[c]⟩ u],.cons ⟨_,rfl⟩ (.cons ⟨_,rfl⟩ .nil),⟨_,(hs2.2 _ hTe).trans hT,rfl,_,rfl⟩⟩
  ·rw[Nat.min_eq_left (show i+1≤z.cps.size from hg')]
   obtain⟨o,ho1,r1⟩:=st1
   exact⟨o,(hs2.2 it hei.symm).trans ho1,r1⟩
  ·have hlt:b<s.heap.objs.size:=by
    rcases List.mem_cons.mp hb with q|q
    ·rw[q];exact Heap.lt_size he
    ·obtain⟨o,ho1,_⟩:=hst
     rw[show b=it by simpa using q];exact Heap.lt_size ho1
   rw[Qt (Nat.ne_of_lt hlt)]
   exact(hf b hb).1
 done:=by
  intro X hP hw hK hc i pins s σ H E I hf st hg
  subst hP hw hK
  obtain⟨⟨old,he⟩,hst⟩:=st
  have hg':z.cps.size≤i:=hg
  rw[Nat.min_eq_right hg']at hst
  have D:=Draws.strAscii (prog:=X.prog) (w:=X.w) (A:=X.A.in1) (I.ok.hd hc) it z t
  exact wpAny_pyNext_enum_endD D he hst fun h1 eb=>⟨rfl,I.vb (t':=s.toks) (ch:=[e,it]) hf fun b o hb q=>eb b o (fun r=>hb (by simp[r])) q⟩
 self:=fun _ _ _ _ _ st h=>let ⟨⟨_,he⟩,_⟩:=st;wpAny_pyIter_enum he h
section
variable {X:Cx}
noncomputable def yU(ta:TA):TI:=fun σ H R=>ta σ H fun vs H1=>∃z:Str,vs=[.str z]∧z.cps.all (· <128)=true∧R (Ite z) H1
theorem qe{es:List Expr}{k:Nat}{tp:Pos}{a:Expr}{ta:TA}{p pos:Pos}(hg:Gl X "enumerate")(hm:X.mg "enumerate"=none)(ha:PA X [a] ta)(hs:starEach [a] X.env=[(false,eval a X.env)]:=by rfl):
  PI X (.Tuple es k tp) (.Call (.Name "enumerate" p) [a] [] pos) (yU ta):=by
 intro pins s σ H R I h
 refine Call_ (K5 I hg hm boot_enumerate (PyProof.Rows.callWith_type1 (thn (ha pos pins s σ H _ I h) fun us s1⟨vs,H1,I1,r1,z,e,hz,q⟩=>?_) hs rfl))
 subst e
 obtain⟨u,rfl,t,rfl⟩:=vals1 r1
 refine call_enumerate_str fun h1 he hst hsz hk=>?_
 rw[show strIterType z="str_ascii_iterator" by unfold strIterType;rw[hz];rfl]at hst
 refine wpAny_pyIter_enum (s:={s1 with heap:=h1}) he ?_
 refine⟨_,[s1.heap.objs.size+1,s1.heap.objs.size],_,_,H1,rfl,I1.kept (t':=s1.toks) hk,qU _ _ (Nat.succ_ne_self _) z t,⟨⟨_,he⟩,by simpa using hst⟩,fun b hb=>?_,q⟩
 have hb2:s1.heap.objs.size≤b:=by
  simp only[List.mem_cons,List.not_mem_nil,or_false]at hb
  rcases hb with rfl|rfl
  ·exact Nat.le_succ _
  ·exact Nat.le_refl _
 exact I1.xi hb2 (I1.hok.fresh hb2)
end
end L2
set_option Elab.async false
set_option linter.all false
set_option maxRecDepth 100000
namespace L2
open PySem PySem.Spec PyProof.Rows
open Builtin Builtin.Str
section
variable {prog:Program}{w:World}{A:Around}{E:Value→Shared→Prop}{s:Shared}
theorem xP{z:Str}{t:Tok}{Q:Bool→Shared→Prop}(h:Q false s):wpAny (model prog w) A (Builtin.List.listLengthHint (.str z t)) Q E s:=by
 unfold Builtin.List.listLengthHint
 refine wpAny_bind (wpAny_specialOf (typeIs_str _ _ _) F.slot_str_len.lookup ?_)
 generalize hid:("str.__len__":String)=id0
 wp_delta
 rw[show splitId id0=some ("str","__len__")from by subst hid;decide+kernel]
 subst hid
 refine wpAny_bind (wpAny_isInstance (T:="str") (b:=true) (typeIs_str _ _ _) (by rw[isSubtype_type];kernel_rfl) ?_)
 refine wpAny_ite_split (fun hab=>absurd hab (by decide)) (fun _=>wpAny_ite_split (fun _=>?_) (fun hab=>absurd (by decide+kernel) hab))
 exact wpAny_bind (wpAny_typeOf (T:="str") (typeIs_str _ _ _) (wpAny_pure h))
theorem xQ{R:Result→Shared→Prop}{z:Str}{t:Tok}(hh:A.handled=none)(ha:z.cps.all (· <128)=true)(hlen:z.cps.size≤sizeLine)(S:Addr)(hS:s.heap.get? S=some {cls:=.type "list",data:=.seq #[]})
  (hR:∀h' tk acc' c',(∀b o,b≠S→s.heap.get? b=some o→h'.get? b=some o)→h'.get? S=some {cls:=.type "list",dict:=none,data:=.seq acc' c',slots:= #[]}→ItemsOf (SignAt z) acc' z.cps.size→R (.ok (.ret .none)) {s with heap:=h',toks:=tk}):
  wpAny (model prog w) A.in1 (Builtin.«list.__init__» ⟨[.ref S,.str z t],[]⟩) (fun fin s'=>match fin with| .done f=>R (.ok f) s'| .again c'=>c'.quiet=true∧codeAny (model prog w) A c' R s') (fun e s'=>R (.error e) s') s:=by
 show wpAny _ _ (do let old←Builtin.List.listItems (.ref S);Builtin.List.listUpdate (.ref S) (fun _=> #[]);letGo old.toList.reverse;Builtin.List.listExtendWith (.ref S) (.str z t) .none) _ _ s
 refine wpAny_bind ?_
 unfold Builtin.List.listItems;refine wpAny_bind (wpAny_seqItems hS rfl (wpAny_pure ?_))
 show wpAny _ _ (updateSeq S (fun _=> #[])>>=fun _=>letGo (#[]:Array Value).toList.reverse>>=fun _=>Builtin.List.listExtendWith (.ref S) (.str z t) .none) _ _ s
 refine wpAny_bind (wpAny_updateSeq hS rfl (wpAny_bind (wpAny_letGo ?_)))
 have g2:=Heap.get?_update_self (Obj.mapSeq (fun _=>(#[]:Array Value))) hS rfl
 have oth:∀b o,b≠S→s.heap.get? b=some o→(s.heap.update S (Obj.mapSeq (fun _=>(#[]:Array Value)))).get? b=some o:=fun b o hb e=>(Heap.get?_update_other _ _ (Ne.symm hb)).trans e
 generalize s.heap.update S (Obj.mapSeq (fun _=>(#[]:Array Value)))=hp at g2 oth
 have hSlt:S<hp.objs.size:=Heap.lt_size g2
 have hSI:S≠hp.objs.size:=Nat.ne_of_lt hSlt
 unfold Builtin.List.listExtendWith
 refine wpAny_bind (wpAny_typeOf (T:="str") (typeIs_str _ _ _) ?_)
 have h1:Builtin.List.listSameRef (.ref S) (.str z t)=false:=rfl
 have h2:(Value.type "str"==Value.type "list")=false:=by decide
 have h3:(Value.type "str"==Value.type "tuple")=false:=by decide
 simp only[h1,h2,h3,Bool.or_false,Bool.false_eq_true,if_false]
 refine wpAny_bind (wpAny_pyIter_ascii ha (wpAny_bind (wpAny_holding (xP ?_))))
 refine wpAny_ite_split (fun hab=>absurd hab (by decide+kernel)) (fun _=>wpAny_pure ⟨plainId_quiet F.plain_extend_loop _,?_⟩)
 have W:=(Walks.strAscii (prog:=prog) (w:=w) (A:=A.in1) hh hp.objs.size z t).toS
 refine codeAny_extend_loopS W hlen S (fun hm=>hSI (List.mem_singleton.mp hm)) .none z.cps.size 0 _ #[] _ rfl (Nat.zero_le _) ⟨_,Heap.get?_push_size _ rfl,rfl,rfl⟩ (Heap.get?_push_of_some _ g2) (ItemsOf.nil _) fun s' acc' c' hm hS' hacc=>?_
 rw[Moved.eq_with hm]
 refine hR s'.heap s'.toks acc' c' (fun b o hb e=>hm.heap b o (fun hmem=>?_) (Heap.get?_push_of_some _ (oth b o hb e))) hS' hacc
 rcases List.mem_cons.mp hmem with e'|hmem
 ·exact hb e'
 ·exact absurd (Heap.lt_size (oth b o hb e)) (by rw[List.mem_singleton.mp hmem];exact Nat.lt_irrefl _)
end
noncomputable def Ve(z:Str):List V:=z.cps.toList.map fun c=>.str ⟨#[c]⟩
theorem qV{z:Str}{acc:Array Value}(h:ItemsOf (SignAt z) acc z.cps.size):Vals (Ve z) acc.toList:=by
 have key:∀(l:List Nat)(us:List Value),us.length=l.length→(∀(j:Nat)(v:Value),us[j]? =some v→∃c u,l[j]? =some c∧v=Value.str ⟨#[c]⟩ u)→Vals (l.map fun c=>V.str ⟨#[c]⟩) us:=by
  intro l
  induction l with
  |nil=>intro us hl _;rw[List.length_eq_zero_iff.mp hl];exact .nil
  |cons c r ih=>
   intro us hl hv
   cases us with
   |nil=>cases hl
   |cons v us=>
    obtain⟨c',u,e1,e2⟩:=hv 0 v rfl
    cases e1
    exact .cons ⟨u,e2⟩ (ih us (by simpa using hl) fun j v hj=>hv (j+1) v hj)
 refine key z.cps.toList acc.toList (by rw[Array.length_toList,Array.length_toList];exact h.1) fun j v hj=>?_
 obtain⟨c,u,e1,e2⟩:=h.2 j v (by rw[←hj,Array.getElem?_toList])
 exact⟨c,u,by rw[←e1,Array.getElem?_toList],e2⟩
section
variable {X:Cx}
theorem call_list_str(hc:X.calm=true):Kf X (.type "list") (fun xs H Q=>∃z:Str,xs=[.str z]∧z.cps.all (· <128)=true∧z.cps.size≤sizeLine∧∀l,H l=none→Q (.ref l) (upd H l (.lst (Ve z)))):=by
 intro pins s σ H xs us Q I r h
 obtain⟨z,rfl,ha,hlen,q⟩:=h
 obtain⟨u,rfl,t,rfl⟩:=vals1 r
 refine callType_codes (Q₁:=fun obj s₁=>obj=.ref s.heap.objs.size∧s₁={s with heap:=s.heap.push {cls:=.type "list",data:=.seq #[]}}) F.called_list (F.typeCall_list_1 _) F.entry_list_init (code_list_new _ ⟨rfl,rfl⟩) fun obj s₁ h₁=>?_
 obtain⟨rfl,rfl⟩:=h₁
 have g1:(s.heap.push {cls:=.type "list",data:=.seq #[]}).get? s.heap.objs.size=some {cls:=.type "list",data:=.seq #[]}:=Heap.get?_push_size _ rfl
 refine⟨⟨_,g1,rfl⟩,F.args_list_init_2 _ _,xQ (A:=X.A.in1) (I.ok.hd hc) ha hlen _ g1 fun h' tk acc c' hk hS hacc=>⟨rfl,?_⟩⟩
 have rv:=qV hacc
 refine⟨.ref s.heap.objs.size,_,I.laid (t':=tk) (fun b o e=>hk b o (Nat.ne_of_lt (Heap.lt_size e)) (Heap.get?_push_of_some _ e)) (Nat.le_refl _) (show JC X.prog X.w _ h' _ (.lst (Ve z))from⟨?_,acc.toList,c',rv,by rw[Array.toArray_toList];exact hS⟩),rfl,q _ (I.hok.fresh (Nat.le_refl _))⟩
 unfold Ve
 rw[List.length_map,Array.length_toList]
 exact hlen
end
inductive KEnts (w:World):List DictEntry→List (Key × V)→Prop where
 |nil:KEnts w [] []
 |cons {h:Int} {x y:Str} {t u:Tok} {es:List DictEntry} {kvs:List (Key × V)} (e:h=yl w (.inr x)) (r:KEnts w es kvs):KEnts w (⟨h,.str x t,.str y u⟩::es) ((Sum.inr x,.str y)::kvs)
theorem KEnts.pairs{P:Program}{w:World}{es:List DictEntry}{kvs:List (Key × V)}(h:KEnts w es kvs):∃vs,KV kvs vs∧Pairs (Jc P w) es vs∧vs.map (·.1)=kvs.map (·.1)∧∀e∈es,∃k,(Jc P w).is k e.key=true∧e.hash=yl w k:=by
 induction h with
 |nil=>exact⟨[],.nil,.nil,rfl,fun e he=>by cases he⟩
 |@cons hh x y t u es kvs e r ih=>
  obtain⟨vs,h1,h2,h3,h4⟩:=ih
  refine⟨(Sum.inr x,.str y u)::vs,.cons ⟨rfl,_,rfl⟩ h1,.cons (JM P w x t) rfl h2,by rw[List.map_cons,List.map_cons,h3],fun q hq=>?_⟩
  rcases List.mem_cons.mp hq with rfl|hq
  ·exact⟨_,JM P w x t,e⟩
  ·exact h4 q hq
theorem Wp{P:Program}{w:World}{K:PySem.W.Frag}{a:Addr}{es:Array DictEntry}{n:Nat}{kvs:List (Key × V)}(ne:(a==sysModules)=false)(l:K.lookup a=some ⟨.type "dict",none,.dict es n, #[]⟩)(h:KEnts w es.toList kvs)(nd:(kvs.map (·.1)).Nodup):KDict P w K a kvs:=by
 obtain⟨vs,h1,h2,h3,h4⟩:=h.pairs (P:=P)
 exact⟨ne,fun hp KX=>⟨vs,h1,_,_,_,KX a _ l,⟨rfl,rfl,rfl⟩,rfl,fun e he=>h4 e (by simpa using he),h2,by rw[h3];exact nd⟩⟩
section
variable {X:Cx}{o i:Expr}{td ty:TE}{a:Addr}{kvs:List (Key × V)}
noncomputable def Qcl(a:Addr)(kvs:List (Key × V))(ty td:TE):TE:=fun σ H Q=>ty σ H fun y H1=>td σ H1 fun x H2=>∃k,x=.ref a∧y=kV k∧Q (.bl (Kz kvs k).isSome) H2
theorem vd(D:KDict X.prog X.w X.K a kvs)(hi:PE X i ty)(ho:PE X o td):PC X .In i o (Qcl a kvs ty td):=by
 intro pins s σ H Q I h
 refine thn (hi pins s σ H _ I h) fun iv s1⟨y,H1,I1,ry,q1⟩=>thn (ho pins s1 σ H1 _ I1 q1) fun u s2⟨x,H2,I2,rx,k,ex,ey,q2⟩=>?_
 subst ex ey
 obtain rfl:u=Value.ref a:=rx
 obtain⟨vs,rel,dd⟩:=D.ok s2.heap I2.kIn
 refine wpAny_in_of (Yj ry) D.ne dd.mapOf ?_
 rw[←(rel.val k).We]
 exact⟨.bl _,H2,I2.tok _,rfl,q2⟩
end
end L2
set_option Elab.async false
set_option linter.all false
set_option maxRecDepth 100000
namespace L2
open PySem PySem.Spec PyProof.Rows
theorem ve{z:Str}{g:TG}{tb:TS}{D:Ends}{σ:St}{H:Hp}(Pv:Nat→St→Hp→Prop)(h0:Pv 0 σ H)
  (hs:∀i c σ H,z.cps[i]? =some c→Pv i σ H→g (.str ⟨#[c]⟩) σ H fun σ2 H2=>tb {D with nx:=Pv (i+1),ct:=Pv (i+1),bk:=D.nx} σ2 H2) (hd:∀σ H,Pv z.cps.size σ H→D.nx σ H):
  ∃W:Nat→Nat→St→Hp→Prop,(∃m,W 0 m σ H)∧∀i m σ H,W i m σ H→
   ((Its z).stop i H∧D.nx σ H)∨((Its z).go i H∧∃N:St→Hp→Prop,(∀σ' H',N σ' H'→∃m',m'<m∧W (i+1) m' σ' H')∧∀x H',(Its z).yld i H x H'→g x σ H' fun σ2 H2=>tb {D with nx:=N,ct:=N,bk:=D.nx} σ2 H2):=by
 refine⟨fun i m σ H=>m=z.cps.size-i∧i≤z.cps.size∧Pv i σ H,⟨z.cps.size,by simp,Nat.zero_le _,h0⟩,?_⟩
 rintro i m σ H ⟨rfl,hi,p⟩
 by_cases hlt:i<z.cps.size
 ·refine .inr ⟨hlt,Pv (i+1),fun σ' H' p'=>⟨z.cps.size-(i+1),by omega,rfl,hlt,p'⟩,fun x H' y=>?_⟩
  obtain⟨e,c,hc,e2⟩:=y
  subst e e2
  exact hs i c σ _ hc p
 ·have e:i=z.cps.size:=by omega
  subst e
  exact .inl ⟨Nat.le_refl _,hd σ H p⟩
theorem YB{z:Str}{g:TG}{tb:TS}{D:Ends}{σ:St}{H:Hp}(Pv:Nat→St→Hp→Prop)(h0:Pv 0 σ H)
  (hs:∀i c σ H p,z.cps[i]? =some c→Pv i σ H→H p=none→g (.ref p) σ (upd H p (.tup [.int (i:Nat),.str ⟨#[c]⟩])) fun σ2 H2=>tb {D with nx:=Pv (i+1),ct:=Pv (i+1),bk:=D.nx} σ2 H2) (hd:∀σ H,Pv z.cps.size σ H→D.nx σ H):
  ∃W:Nat→Nat→St→Hp→Prop,(∃m,W 0 m σ H)∧∀i m σ H,W i m σ H→
   ((Ite z).stop i H∧D.nx σ H)∨((Ite z).go i H∧∃N:St→Hp→Prop,(∀σ' H',N σ' H'→∃m',m'<m∧W (i+1) m' σ' H')∧∀x H',(Ite z).yld i H x H'→g x σ H' fun σ2 H2=>tb {D with nx:=N,ct:=N,bk:=D.nx} σ2 H2):=by
 refine⟨fun i m σ H=>m=z.cps.size-i∧i≤z.cps.size∧Pv i σ H,⟨z.cps.size,by simp,Nat.zero_le _,h0⟩,?_⟩
 rintro i m σ H ⟨rfl,hi,p⟩
 by_cases hlt:i<z.cps.size
 ·refine .inr ⟨hlt,Pv (i+1),fun σ' H' p'=>⟨z.cps.size-(i+1),by omega,rfl,hlt,p'⟩,fun x H' y=>?_⟩
  obtain⟨q,c,hq,hc,e,e2⟩:=y
  subst e e2
  exact hs i c σ _ q hc p hq
 ·have e:i=z.cps.size:=by omega
  subst e
  exact .inl ⟨Nat.le_refl _,hd σ H p⟩
theorem YC{z:Str}{n:Nat}{fi:List Nat}{fv:List V}{g:TG}{tt:TT}{te:TE}{tl:TE}{Q:VK}{σ:St}{H:Hp}(Pv:Nat→List V→Hp→Prop)(h:∀R:VK,R (.str z) H→tl σ H R) (ha:z.cps.all (· <128)=true) (hfv:fi.map (fun i=>σ[i]?)=fv.map (fun v=>some (some v))) (h0:Pv 0 [] H) (hl:∀i vs H,i≤z.cps.size→Pv i vs H→vs.length≤i)
  (hs:∀i c vs H,z.cps[i]? =some c→Pv i vs H→g (.str ⟨#[c]⟩) (List.replicate n none++fv.map some) H fun σ2 H2=>σ2.drop n=fv.map some∧tt σ2 H2 fun b H3=>if b=true then te σ2 H3 fun v H4=>Pv (i+1) (vs++[v]) H4 else Pv (i+1) vs H3)
  (hd:∀vs H,Pv z.cps.size vs H→∀p,H p=none→Q (.ref p) (upd H p (.lst vs))) (hz:z.cps.size<sizeLine):we n fi (QaO tl) g tt te σ H Q:=by
 refine h _ ⟨z,rfl,ha,fv,hfv,?_⟩
 refine⟨fun i m vs H=>m=z.cps.size-i∧i≤z.cps.size∧Pv i vs H,⟨z.cps.size,by simp,Nat.zero_le _,h0⟩,?_⟩
 rintro i m vs H ⟨rfl,hi,p⟩
 have hv:=hl i vs H hi p
 by_cases hlt:i<z.cps.size
 ·refine .inr ⟨hlt,by omega,Pv (i+1),fun vs' H' p'=>⟨z.cps.size-(i+1),by omega,rfl,hlt,p'⟩,fun x H' y=>?_⟩
  obtain⟨e,c,hc,e2⟩:=y
  subst e e2
  exact hs i c vs _ hc p
 ·have e:i=z.cps.size:=by omega
  subst e
  exact .inl ⟨Nat.le_refl _,hd vs H p⟩
theorem zg{X:Cx}{K0:PySem.W.Frag}{a:Expr}{ta:TE}(hK:X.K=K0)(ha:PE X a ta)(he:∀whole,isTrue a X.env whole=(do let v←whole;standAt a.pos;holding [v] (truthy v))):PT X a (fun σ H Q=>ta σ H fun x H'=>∃k,QaL K0 x H' k∧Q k H'):=by
 subst hK
 exact QY ha he
end L2
set_option Elab.async false
set_option linter.all false
set_option maxRecDepth 100000
namespace L2
open PySem PySem.Spec PyProof.Rows
open Builtin Builtin.Str
section
variable {prog:Program}{w:World}{A:Around}{E:Value→Shared→Prop}{s:Shared}{z TI TO i1 i2:Addr}{k n1 n2:Nat}{P1 P2:Nat→Value→Prop}{S1 S2:Nat→Heap→Prop}{a b:Value}
end
section
variable {prog:Program}{w:World}{A:Around}{E:Value→Shared→Prop}{s:Shared}{z TI TO i1 i2:Addr}{k n1 n2:Nat}{P1 P2:Nat→Value→Prop}{S1 S2:Nat→Heap→Prop}{a b:Value}
end
section
variable {X:Cx}
end
end L2
set_option Elab.async false
set_option linter.all false
set_option maxRecDepth 100000
namespace L2
open PySem PySem.Spec PyProof.Rows
end L2
set_option Elab.async false
set_option linter.all false
set_option maxRecDepth 100000
namespace L2
open PySem PySem.Spec PyProof.Rows
section
variable {X:Cx}{pins:List (Addr × Obj)}{σ:List (Option V)}{H:Hp}{s:Shared}
end
section
variable {X:Cx}{tg:Expr}
end
end L2
set_option Elab.async false
set_option linter.all false
set_option maxRecDepth 100000
namespace L2
open PySem PySem.Spec PyProof.Rows
end L2
set_option Elab.async false
set_option linter.all false
set_option maxRecDepth 100000
namespace L2
open PySem PySem.Spec PyProof.Rows
open Builtin Builtin.Str
section
variable {X:Cx}
end
theorem xR{s:Shared}{fd:FuncData}{args:Args}{binds:List (Str × Value)}{kd:Addr}{name:Str}{v:Value}{m:Str→Option Value}{k:Option Value→Sem (List (Str × Value))}(h1:bindArgs fd args=nsGet kd name>>=k)(hn:s.heap.Ns kd m)(hv:m name=some v)(h2:k (some v)=pure binds):BindsTo s fd args binds:=
 fun _ _ _ _ hq=>by
  rw[h1]
  refine wpAny_bind (wpAny_nsGet hn ?_)
  rw[hv,h2]
  exact wpAny_pure hq
structure DefD(P:Program)(w:World)(K:PySem.W.Frag)(mg:Str→Option Value)(base:Heap)(k:Nat)(x:Str)(ps:List Str)(dv:V)(sp:Sp):Prop where
 ex:∃f fd d,mg x=some (.ref f)∧PySem.W.keepIn K (.ref f)=true∧Binds K fd ps [d]∧RelV dv d∧FnOk P w K mg base (CXE P w) k f fd ps sp
section
variable {X:Cx}{k k':Nat}{x:Str}{ps ks:List Str}{dv:V}{sp:Sp}{E:XK}{p pos:Pos}{e:Expr}{es:List Expr}{t tk:TA}{kws:List Keyword}
theorem DefD.pe(D:DefD X.prog X.w X.K X.mg X.base k x ps dv sp)(hr:Room k' X.A)(hk:k≤k')(hg:Gl X x)(hx:Passes (CXE X.prog X.w) X E)(ha:PA X (e::es) t)(hdb:(x==("__debug__":Str))=false:=by decide)
  (he:starEach (e::es) X.env=(false,eval e X.env)::starEach es X.env:=by rfl) (hpl:(backTo pos (starEach es X.env)).any (·.1)=false:=by rfl):PE X (.Call (.Name x p) (e::es) [] pos) (WQ sp [dv] E t):=by
 obtain⟨f,fd,d,h1,h2,h3,h5,h4⟩:=D.ex
 exact jA h4 (hr.mono hk) hg h1 h2 h3 (.cons h5 .nil) hx ha hdb he hpl
end
theorem yV{K:PySem.W.Frag}{h:Heap}{N:Addr}{m:Str→Option Value}{x:Str}{v:Value}(X:K.In h)(G:h.Ns N m)(e:PySem.W.nsIn K N x=some (some v)):m x=some v:=by
 obtain⟨o,es,ep,ho,hd,_,hf⟩:=G;unfold PySem.W.nsIn at e
 split at e
 ·rename_i c d es2 n2 sl q;have z:=X _ _ q
  rw[ho]at z;cases z;cases hd
  split at e
  ·rename_i en he;cases e;rw[←hf]
   unfold nsFind findBy;rw[←Array.find?_toList,he];rfl
  ·split at e<;>cases e
 ·cases e
structure DefAtD(K:PySem.W.Frag)(x:Str)(st:Stmt)(nm:Str)(v:Value):Prop where
 ex:∃(f kd:Addr)(oc:Value)(od:Option Addr)(doc pm:Value)(an:Option Addr)(cdv ct:Value)(osl:Array (Option Value)),PySem.W.nsIn K mainGlobals x=some (some (.ref f))∧
  K.lookup f=some ⟨oc,od,.func (PySem.W.fnOf x x (Jt st) (QP st) (Qf st) .none (.ref kd) doc pm an cdv ct),osl⟩∧PySem.W.codeIn K cdv x=true∧PySem.W.keepIn K (.ref f)=true∧PySem.W.nsOkIn K kd=true∧PySem.W.nsIn K kd nm=some (some v)
theorem zh{K:PySem.W.Frag}{x:Str}{st:Stmt}{nm:Str}{v:Value}{f kd:Addr}{oc:Value}{od an:Option Addr}{osl:Array (Option Value)}{doc pm cdv ct:Value}(a:PySem.W.nsIn K mainGlobals x=some (some (.ref f)))
  (l:K.lookup f=some ⟨oc,od,.func (PySem.W.fnOf x x (Jt st) (QP st) (Qf st) .none (.ref kd) doc pm an cdv ct),osl⟩) (c:PySem.W.codeIn K cdv x=true) (k:PySem.W.keepIn K (.ref f)=true) (n:PySem.W.nsOkIn K kd=true) (d:PySem.W.nsIn K kd nm=some (some v)):DefAtD K x st nm v:=
 ⟨f,kd,oc,od,doc,pm,an,cdv,ct,osl,a,l,c,k,n,d⟩
section
variable {P:Program}{w:World}{K:PySem.W.Frag}{mg:Str→Option Value}{base h:Heap}{x:Str}{st:Stmt}{k:Nat}{ps:List Str}{sp:Sp}
end
end L2
set_option Elab.async false
set_option linter.all false
namespace L2
open PySem PySem.Spec PyProof.Rows
inductive BindK (m:Sem (List (Str × Value))) (n:Sem (Option Value)) (v:Value) (b:List (Str × Value)):Prop where
 |mk {σ τ:Type} (g1:Option Value→Sem σ) (g2:σ→Sem τ) (g3:τ→Sem (List (Str × Value))) (h1:m=Sem.bind (Sem.bind (Sem.bind n g1) g2) g3) (h2:Sem.bind (Sem.bind (g1 (some v)) g2) g3=pure b):BindK m n v b
theorem BindK.binds{s:Shared}{fd:FuncData}{args:Args}{binds:List (Str × Value)}{kd:Addr}{name:Str}{v:Value}{m:Str→Option Value}(B:BindK (bindArgs fd args) (nsGet kd name) v binds)(hn:s.heap.Ns kd m)(hv:m name=some v):BindsTo s fd args binds:=by
 obtain⟨g1,g2,g3,h1,h2⟩:=B
 refine xR (k:=fun o=>(g1 o>>=g2)>>=g3) (h1.trans ?_) hn hv h2
 show(nsGet kd name>>=g1>>=g2)>>=g3=nsGet kd name>>=fun o=>(g1 o>>=g2)>>=g3
 rw[bind_assoc,bind_assoc]
 congr 1
 funext o
 rw[bind_assoc]
section
variable {P:Program}{w:World}{K:PySem.W.Frag}{mg:Str→Option Value}{base h:Heap}{x:Str}{st:Stmt}{k:Nat}{ps:List Str}{sp:Sp}
end
theorem vf{K:PySem.W.Frag}{N:Addr}{c:Value}{d:Option Addr}{es:Array DictEntry}{n:Nat}{sl:Array (Option Value)}(l:K.lookup N=some ⟨c,d,.dict es n,sl⟩)(h:(es.toList.all fun e=>match e.key with| .str _ _=>true|_=>false)=true):PySem.W.nsOkIn K N=true:=by
 unfold PySem.W.nsOkIn
 rw[l]
 show Array.all es _=true
 rw[←Array.all_toList]
 exact h
end L2
set_option Elab.async false
set_option linter.all false
namespace L2
open PySem PySem.Spec PyProof.Rows
noncomputable def g21{α:Type}:List α→List α→List α
 |[a,b],[d]=>[a,b,d]
 |_,_=>[]
theorem vg{vs zs:List V}{us ws:List Value}(r:Vals vs us)(r2:Vals zs ws):Vals (g21 vs zs) (g21 us ws):=by
 match r,r2 with
 | .cons a (.cons b .nil),.cons d .nil=>exact .cons a (.cons b (.cons d .nil))
 | .nil,_=>exact .nil
 | .cons _ .nil,_=>exact .nil
 | .cons _ (.cons _ (.cons _ _)),_=>exact .nil
 | .cons _ (.cons _ .nil),.nil=>exact .nil
 | .cons _ (.cons _ .nil),.cons _ (.cons _ _)=>exact .nil
theorem vh{α:Type}{us ws:List α}(h:(g21 us ws).length=3):∃a b d,us=[a,b]∧ws=[d]:=by
 match us,ws,h with
 |[a,b],[d],_=>exact⟨a,b,d,rfl,rfl⟩
theorem Qcm{α:Type}{zs:List α}(h:zs.length=2):∃v v2,zs=[v,v2]:=match zs,h with|[v,v2],_=>⟨v,v2,rfl⟩
theorem yW{v v2:V}{ws:List Value}(rz:Vals [v,v2] ws):∃u u2,ws=[u,u2]∧RelV v u∧RelV v2 u2:=match rz with| .cons a (.cons b .nil)=>⟨_,_,rfl,a,b⟩
structure DefK21(P:Program)(w:World)(K:PySem.W.Frag)(mg:Str→Option Value)(base:Heap)(k:Nat)(x:Str)(ps ks:List Str)(sp:Sp):Prop where
 ex:∃f fd,mg x=some (.ref f)∧PySem.W.keepIn K (.ref f)=true∧KBinds K fd ps ks g21 g21∧FnOk P w K mg base (CXE P w) k f fd ps sp
structure DefK2D(P:Program)(w:World)(K:PySem.W.Frag)(mg:Str→Option Value)(base:Heap)(k:Nat)(x p1 p2 p3:Str)(dv:V)(sp:Sp):Prop where
 ex:∃f fd d,mg x=some (.ref f)∧PySem.W.keepIn K (.ref f)=true∧(∀(s:Shared)(u v:Value),K.In s.heap→BindsTo s fd ⟨[],[(p1,u),(p2,v)]⟩ [(p1,u),(p2,v),(p3,d)])∧RelV dv d∧FnOk P w K mg base (CXE P w) k f fd [p1,p2,p3] sp
section
variable {X:Cx}{k k':Nat}{x p1 p2 p3:Str}{ps ks:List Str}{dv:V}{sp:Sp}{E:XK}{p pos kpos kpos2:Pos}{e e2:Expr}{es:List Expr}{t tk:TA}{te te2:TE}{kws:List Keyword}
theorem DefK21.pe(D:DefK21 X.prog X.w X.K X.mg X.base k x ps ks sp)(hr:Room k' X.A)(hk:k≤k')(hg:Gl X x)(hx:Passes (CXE X.prog X.w) X E)(ha:PA X (e::es) t)(hkw:PK X kws tk)
  (hall:(backToKw pos (keywordEach kws X.env)).all (·.1.isSome)=true:=by rfl) (hks:(backToKw pos (keywordEach kws X.env)).filterMap (·.1)=ks:=by rfl)
  (hdb:(x==("__debug__":Str))=false:=by decide) (he:starEach (e::es) X.env=(false,eval e X.env)::starEach es X.env:=by rfl)
  (hpl:((backTo pos (starEach (e::es) X.env)).any (·.1)||(backToKw pos (keywordEach kws X.env)).any (·.1.isNone))=false:=by rfl):
  PE X (.Call (.Name x p) (e::es) kws pos) (jC sp g21 E t tk):=by
 obtain⟨f,fd,h1,h2,h3,h4⟩:=D.ex
 exact xn h4 (hr.mono hk) hg h1 h2 h3 hx ha hkw hall hks hdb he hpl
noncomputable def vi(sp:Sp)(dv:V)(E:XK)(te te2:TE):TE:=fun σ H Q=>te σ H fun v H1=>te2 σ H1 fun v2 H2=>sp [v,v2,dv] H2 Q E
theorem DefK2D.pe(D:DefK2D X.prog X.w X.K X.mg X.base k x p1 p2 p3 dv sp)(hr:Room k' X.A)(hk:k≤k')(hg:Gl X x)(hx:Passes (CXE X.prog X.w) X E)(he:PE X e te)(he2:PE X e2 te2)
  (hdb:(x==("__debug__":Str))=false:=by decide):PE X (.Call (.Name x p) [] [⟨some p1,e,kpos⟩,⟨some p2,e2,kpos2⟩] pos) (vi sp dv E te te2):=by
 obtain⟨f,fd,d,h1,h2,h3,h5,h4⟩:=D.ex
 intro pins s σ H Q I h
 refine wpAny_Call_Name_kw (Z2 I hg h1 ?_ hdb)
 refine PySem.W.callWith_KW0 (h₀:=X.base) I.ok.mod.kin h2 rfl ?_ rfl
 have hK:PK X [⟨some p1,e,kpos⟩,⟨some p2,e2,kpos2⟩] (JN te (JN te2 W7)):=Vq he (Vq he2 jB)
 refine thn (hK pos pins s σ H (fun zs H2=>sp (zs++[dv]) H2 Q E) I h) fun ws s2⟨zs,H2,I2,rz,q2⟩=>⟨I2.kIn,?_⟩
 have hlz:=h4.len _ _ _ _ q2
 obtain⟨v,v2,rfl⟩:=Qcm (zs:=zs) (by rw[List.length_append]at hlz;simpa using hlz)
 obtain⟨u,u2,rfl,ru,ru2⟩:=yW rz
 refine wpAny_call (codeAny_mono (h4.run X.A X.stack s2 H2 ⟨[],[(p1,u),(p2,u2)]⟩ [u,u2,d] [v,v2,dv] Q E (hr.mono hk) I2.QaN (h3 s2 u u2 I2.kIn) (.cons ru (.cons ru2 (.cons h5 .nil))) q2) fun r s' hq=>?_)
 cases r with
 |error e=>exact hx pins σ H2 s2 e s' I2 hq
 |ok fl=>
  cases fl with
  |ret u=>exact I2.after hq
  |next=>exact False.elim hq
  |brk=>exact False.elim hq
  |cont=>exact False.elim hq
end
section
variable {P:Program}{w:World}{K:PySem.W.Frag}{mg:Str→Option Value}{base h:Heap}{x:Str}{st:Stmt}{k:Nat}{sp:Sp}{p1 p2 p3:Str}
theorem DefAtD.Qcn{b:Bool}(D:DefAtD K x st p3 (.bool b))(X:K.In h)(G:h.Ns mainGlobals mg)(hok:∀f fd,Fun K x x st f fd→FnOk P w K mg base (CXE P w) k f fd [p1,p2,p3] sp)
  (hb:∀(kd:Addr)(doc pm:Value)(an:Option Addr)(cdv ct:Value)(u1 u2:Value),BindK (bindArgs (PySem.W.fnOf x x (Jt st) (QP st) (Qf st) .none (.ref kd) doc pm an cdv ct) ⟨[u1,u2],[]⟩) (nsGet kd p3) (.bool b) [(p1,u1),(p2,u2),(p3,.bool b)]):DefD P w K mg base k x [p1,p2,p3] (.bl b) sp:=by
 obtain⟨f,kd,oc,od,doc,pm,an,cdv,ct,osl,a,l,c,kp,n,d⟩:=D.ex
 refine⟨f,_,.bool b,PySem.W.mg_of X G a,kp,fun s us KX hl=>?_,rfl,hok f _ ⟨⟨oc,od,.ref kd,doc,pm,an,cdv,ct,osl,rfl,l,c⟩,kp⟩⟩
 have Nk:s.heap.Ns kd (s.heap.nsMap kd):=.of_isNs (PySem.W.isNs_of_in KX n)
 have h3:us.length=2:=by simpa using hl
 match us,h3 with
 |[u1,u2],_=>exact(hb kd doc pm an cdv ct u1 u2).binds Nk (yV KX Nk d)
theorem DefAtD.yX{b:Bool}(D:DefAtD K x st p3 (.bool b))(X:K.In h)(G:h.Ns mainGlobals mg)(hok:∀f fd,Fun K x x st f fd→FnOk P w K mg base (CXE P w) k f fd [p1,p2,p3] sp)
  (hb:∀(kd:Addr)(doc pm:Value)(an:Option Addr)(cdv ct:Value)(u1 u2:Value),BindK (bindArgs (PySem.W.fnOf x x (Jt st) (QP st) (Qf st) .none (.ref kd) doc pm an cdv ct) ⟨[],[(p1,u1),(p2,u2)]⟩) (nsGet kd p3) (.bool b) [(p1,u1),(p2,u2),(p3,.bool b)]):DefK2D P w K mg base k x p1 p2 p3 (.bl b) sp:=by
 obtain⟨f,kd,oc,od,doc,pm,an,cdv,ct,osl,a,l,c,kp,n,d⟩:=D.ex
 refine⟨f,_,.bool b,PySem.W.mg_of X G a,kp,fun s u v KX=>?_,rfl,hok f _ ⟨⟨oc,od,.ref kd,doc,pm,an,cdv,ct,osl,rfl,l,c⟩,kp⟩⟩
 have Nk:s.heap.Ns kd (s.heap.nsMap kd):=.of_isNs (PySem.W.isNs_of_in KX n)
 exact(hb kd doc pm an cdv ct u v).binds Nk (yV KX Nk d)
theorem DefAtD.yY{v0:Value}(D:DefAtD K x st p3 v0)(X:K.In h)(G:h.Ns mainGlobals mg)(hok:∀f fd,Fun K x x st f fd→FnOk P w K mg base (CXE P w) k f fd [p1,p2,p3] sp)
  (hb:∀(kV doc pm:Value)(an:Option Addr)(cdv ct:Value)(u1 u2 v:Value),bindArgs (PySem.W.fnOf x x (Jt st) (QP st) (Qf st) .none kV doc pm an cdv ct) ⟨[u1,u2],[(p3,v)]⟩=pure [(p1,u1),(p2,u2),(p3,v)]):DefK21 P w K mg base k x [p1,p2,p3] [p3] sp:=by
 obtain⟨f,kd,oc,od,doc,pm,an,cdv,ct,osl,a,l,c,kp,n,d⟩:=D.ex
 refine⟨f,_,PySem.W.mg_of X G a,kp,⟨fun s us ws _ hl=>?_,vg⟩,hok f _ ⟨⟨oc,od,.ref kd,doc,pm,an,cdv,ct,osl,rfl,l,c⟩,kp⟩⟩
 obtain⟨u1,u2,v,rfl,rfl⟩:=vh hl
 exact .of_eq (hb (.ref kd) doc pm an cdv ct u1 u2 v)
end
end L2
set_option Elab.async false
set_option linter.all false
namespace L2
open PySem PySem.Spec PyProof.Rows
section
variable {P:Program}{w:World}{K:PySem.W.Frag}{mg:Str→Option Value}{base h:Heap}{x:Str}{st:Stmt}{k:Nat}{sp:Sp}{p1 p2 p3 p4:Str}
theorem DefAt.d0(D:DefAt K x st)(X:K.In h)(G:h.Ns mainGlobals mg)(hok:∀f fd,Fun K x x st f fd→FnOk P w K mg base (CXE P w) k f fd [] sp)
  (hb:∀(kV doc pm:Value)(an:Option Addr)(cdv ct:Value),bindArgs (PySem.W.fnOf x x (Jt st) (QP st) (Qf st) .none kV doc pm an cdv ct) ⟨[],[]⟩=pure []):Def P w K mg base k x [] sp:=
 D.def X G hok fun kV doc pm an cdv ct us hl=>match us,hl with|[],_=>hb kV doc pm an cdv ct
theorem DefAt.d1(D:DefAt K x st)(X:K.In h)(G:h.Ns mainGlobals mg)(hok:∀f fd,Fun K x x st f fd→FnOk P w K mg base (CXE P w) k f fd [p1] sp)
  (hb:∀(kV doc pm:Value)(an:Option Addr)(cdv ct:Value)(u1:Value),bindArgs (PySem.W.fnOf x x (Jt st) (QP st) (Qf st) .none kV doc pm an cdv ct) ⟨[u1],[]⟩=pure [(p1,u1)]):Def P w K mg base k x [p1] sp:=
 D.def X G hok fun kV doc pm an cdv ct us hl=>match us,hl with|[u1],_=>hb kV doc pm an cdv ct u1
theorem DefAt.d2(D:DefAt K x st)(X:K.In h)(G:h.Ns mainGlobals mg)(hok:∀f fd,Fun K x x st f fd→FnOk P w K mg base (CXE P w) k f fd [p1,p2] sp)
  (hb:∀(kV doc pm:Value)(an:Option Addr)(cdv ct:Value)(u1 u2:Value),bindArgs (PySem.W.fnOf x x (Jt st) (QP st) (Qf st) .none kV doc pm an cdv ct) ⟨[u1,u2],[]⟩=pure [(p1,u1),(p2,u2)]):Def P w K mg base k x [p1,p2] sp:=
 D.def X G hok fun kV doc pm an cdv ct us hl=>match us,hl with|[u1,u2],_=>hb kV doc pm an cdv ct u1 u2
theorem DefAt.d3(D:DefAt K x st)(X:K.In h)(G:h.Ns mainGlobals mg)(hok:∀f fd,Fun K x x st f fd→FnOk P w K mg base (CXE P w) k f fd [p1,p2,p3] sp)
  (hb:∀(kV doc pm:Value)(an:Option Addr)(cdv ct:Value)(u1 u2 u3:Value),bindArgs (PySem.W.fnOf x x (Jt st) (QP st) (Qf st) .none kV doc pm an cdv ct) ⟨[u1,u2,u3],[]⟩=pure [(p1,u1),(p2,u2),(p3,u3)]):Def P w K mg base k x [p1,p2,p3] sp:=
 D.def X G hok fun kV doc pm an cdv ct us hl=>match us,hl with|[u1,u2,u3],_=>hb kV doc pm an cdv ct u1 u2 u3
theorem DefAt.d4(D:DefAt K x st)(X:K.In h)(G:h.Ns mainGlobals mg)(hok:∀f fd,Fun K x x st f fd→FnOk P w K mg base (CXE P w) k f fd [p1,p2,p3,p4] sp)
  (hb:∀(kV doc pm:Value)(an:Option Addr)(cdv ct:Value)(u1 u2 u3 u4:Value),bindArgs (PySem.W.fnOf x x (Jt st) (QP st) (Qf st) .none kV doc pm an cdv ct) ⟨[u1,u2,u3,u4],[]⟩=pure [(p1,u1),(p2,u2),(p3,u3),(p4,u4)]):Def P w K mg base k x [p1,p2,p3,p4] sp:=
 D.def X G hok fun kV doc pm an cdv ct us hl=>match us,hl with|[u1,u2,u3,u4],_=>hb kV doc pm an cdv ct u1 u2 u3 u4
end
end L2
set_option Elab.async false
set_option linter.all false
namespace K04
open PySem.NumText
noncomputable abbrev Rw:=Nat × Nat
noncomputable def QU(t:List Nat):Nat × List Nat:=match t with
 |40::r=>if 41∈r∧r.takeWhile (· !=41)≠[]∧AllDigits (r.takeWhile (· !=41))∧(r.takeWhile (· !=41)).head?≠some 48 then(digitsVal (r.takeWhile (· !=41)),r.drop ((r.takeWhile (· !=41)).length+1))else(1,t)
 |_=>(1,t)
noncomputable def QI(rows:List Rw)(c n:Nat):List Rw:=match rows.getLast? with
 |some (c',m)=>if c'=c then rows.dropLast++[(c,n+m)]else rows++[(c,n)]
 |none=>rows++[(c,n)]
noncomputable def KE:Nat→List Nat→List Rw→List Rw
 |0,_,rows=>rows
 |_,[],rows=>rows
 |k+1,c::t,rows=>KE k (QU t).2 (QI rows c (QU t).1)
noncomputable def rowsOf(l:List Nat):List Rw:=KE l.length l []
noncomputable def ins(c:Nat):Bool:=[44,66,48,47].contains c
noncomputable def zk:List (List Nat):=[[57],[83,57],[86,57],[83,86,57],[57,86,57],[83,57,86,57]]
structure Facts where
 kind:Nat
 signed:Bool
 before:Nat
 behind:Nat
deriving DecidableEq,Repr
noncomputable def Ki:List Rw→Bool→Bool→Nat→Nat→Option (Bool × Nat × Nat)
 |[],s,_,a,b=>some (s,a,b)
 |(c,n)::r,s,p,a,b=>if c=57 then(if p then Ki r s p a n else Ki r s p n b)else if n>1 then none else if c=83 then Ki r true p a b else Ki r s true a b
noncomputable def QQ(rows:List Rw):Option Facts:=if zk.contains (rows.map (·.1))then(match Ki rows false false 0 0 with
 |some (s,a,b)=>if a+b>18 then none else some ⟨2,s,a,b⟩
 |none=>none)else none
noncomputable def Js(rows:List Rw):Option Facts:=match rows with
 |[(c,n)]=>if(c≠88∧c≠65)∨n>60 then none else some ⟨if c=88 then 0 else 1,false,0,0⟩
 |_=>none
noncomputable def Jl(rows:List Rw):Bool:=match rows with
 |(c,n)::r=>decide (n>1)||(match r.dropWhile (fun x=>ins x.1)with|(c',_)::_=>c'==c|[]=>false)
 |[]=>false
noncomputable def JZ:List (List Nat)→List Rw→List Nat→List Nat × List Rw
 |[],rows,lead=>(lead,rows)
 |ch::more,rows,lead=>match rows with
  |(c,n)::r=>if ch.contains c&& !Jl rows then JZ more r (lead++[c])else JZ more rows lead
  |[]=>JZ more rows lead
noncomputable def Zr(rows:List Rw):List Nat × List Rw:=JZ [[43,45],[36]] rows []
noncomputable def QH(place:Nat):List Rw→Nat→Nat × List Rw
 |[],many=>(many,[])
 |(c,n)::r,many=>if c=place then QH place r (many+n)else if ins c then QH place r many else(many,(c,n)::r)
noncomputable def QO(rows:List Rw):List Nat × Nat × Nat × List Rw:=match rows with
 |(c,n)::r=>if[57,90,42,43,45,36].contains c then(let x:=QH c rows 0;let y:=QH 57 x.2 0;([c],x.1,y.1,y.2))else([],0,0,rows)
 |[]=>([],0,0,rows)
noncomputable def Q3(rows:List Rw)(place:List Nat):Option Nat × List Rw:=match rows with
 |(46,n)::r=>if n>1∨r=[]then(none,rows)else(match r with
  |(c,m)::r'=>if c≠57∧([c]≠place∨[43,45,36].contains c)then(none,rows)else(some m,r')
  |[]=>(none,rows))
 |_=>(some 0,rows)
noncomputable def Jz:List (List Nat):=[[43],[45],[67,82],[68,66]]
noncomputable def Xx(rows:List Rw):Option (List Nat):=if rows=[]then some []else if !Jz.contains (rows.map (·.1))||rows.any (fun x=>decide (x.2>1))then none else some (rows.map (·.1))
noncomputable def Q5(rows:List Rw):Option Facts:=
 let ld:=Zr rows
 let wp:=QO ld.2
 let bp:=Q3 wp.2.2.2 (if wp.2.2.1=0 then wp.1 else[57])
 let tl:=Xx bp.2
 match wp.1,bp.1,tl with
 |[place],some behind,some tail=>
  let fl:Bool:=[43,45,36].contains place
  if fl&&decide (wp.2.1<2)then none
  else
   let shown:=[ld.1.take 1,[place],tail].filter (Jz.contains ·)
   if shown.length>1 then none
   else
    let before:=wp.2.1+wp.2.2.1-(if fl then 1 else 0)
    if before+behind>18 then none else some ⟨3,shown.length==1,before,behind⟩
 |_,_,_=>none
noncomputable def JI(rows:List Rw):Option Facts:=match QQ rows with
 |some f=>some f
 |none=>match Js rows with
  |some f=>some f
  |none=>Q5 rows
noncomputable def QR(l:List Nat):Option Facts:=JI (rowsOf l)
end K04
set_option Elab.async false
set_option linter.all false
set_option maxRecDepth 100000
namespace K04
open PySem PySem.NumText K02
theorem yZ(t:List Nat):(QU t).2.length≤t.length:=by
 unfold QU
 split
 ·split
  ·show(List.drop _ _).length≤_
   rw[List.length_drop,List.length_cons]
   omega
  ·exact Nat.le_refl _
 ·exact Nat.le_refl _
theorem Qbl{t:List Nat}(h:t.head?≠some 40):QU t=(1,t):=by
 unfold QU
 split
 ·exact absurd rfl h
 ·rfl
theorem vj:∀(k k':Nat)(l:List Nat)(rows:List Rw),l.length≤k→l.length≤k'→KE k l rows=KE k' l rows:=by
 intro k
 induction k with
 |zero=>
  intro k' l rows h h'
  cases l with
  |nil=>cases k'<;>rfl
  |cons a r=>simp at h
 |succ k ih=>
  intro k' l rows h h'
  cases l with
  |nil=>cases k'<;>rfl
  |cons c t=>
   cases k' with
   |zero=>simp at h'
   |succ k'=>
    have:=yZ t
    rw[List.length_cons]at h h'
    exact ih k' _ _ (by omega) (by omega)
noncomputable def run(l:List Nat)(rows:List Rw):List Rw:=KE l.length l rows
theorem vk(rows:List Rw):run [] rows=rows:=rfl
theorem qf(c:Nat)(t:List Nat)(rows:List Rw):run (c::t) rows=run (QU t).2 (QI rows c (QU t).1):=by
 show KE t.length (QU t).2 (QI rows c (QU t).1)=_
 exact vj _ _ _ _ (yZ t) (Nat.le_refl _)
theorem run_plain{c:Nat}{t:List Nat}(rows:List Rw)(h:t.head?≠some 40):run (c::t) rows=run t (QI rows c 1):=by
 rw[qf,Qbl h]
noncomputable def rle(rows:List Rw)(l:List Nat):List Rw:=l.foldl (fun r c=>QI r c 1) rows
theorem Uu(rows:List Rw)(a b:List Nat):rle rows (a++b)=rle (rle rows a) b:=List.foldl_append
theorem vm{c:Nat}{t:List Nat}(hc:c≠40)(h:t.head?≠some 40):∀(m:Nat)(rows:List Rw),run (List.replicate m c++t) rows=run t (rle rows (List.replicate m c)):=by
 intro m
 induction m with
 |zero=>intro rows;rfl
 |succ m ih=>
  intro rows
  rw[List.replicate_succ,List.cons_append,run_plain,ih]
  ·rfl
  ·cases m with
   |zero=>exact h
   |succ m=>rw[List.replicate_succ,List.cons_append,List.head?_cons];exact fun z=>hc (Option.some.inj z)
theorem Jg(rows:List Rw):rows=[]∨∃r c m,rows=r++[(c,m)]:=by
 rcases List.eq_nil_or_concat rows with h|⟨r,x,h⟩
 ·exact .inl h
 ·exact .inr ⟨r,x.1,x.2,by rw[h,List.concat_eq_append]⟩
theorem Wq(c n:Nat):QI [] c n=[(c,n)]:=rfl
theorem JJ(rows:List Rw)(c n m:Nat):QI (rows++[(c,m)]) c n=rows++[(c,n+m)]:=by
 unfold QI
 rw[List.getLast?_concat]
 simp
theorem Jm{rows:List Rw}{c c' n m:Nat}(h:c'≠c):QI (rows++[(c',m)]) c n=(rows++[(c',m)])++[(c,n)]:=by
 unfold QI
 rw[List.getLast?_concat]
 simp[h]
theorem vn(rows:List Rw)(c a b:Nat):QI (QI rows c a) c b=QI rows c (b+a):=by
 rcases Jg rows with rfl|⟨r,c',m,rfl⟩
 ·rw[Wq,Wq]
  exact JJ [] c b a
 ·by_cases h:c'=c
  ·subst h
   rw[JJ,JJ,JJ,Nat.add_assoc]
  ·rw[Jm h,Jm h,JJ]
theorem zl(c:Nat):∀(m:Nat)(rows:List Rw),rle rows (List.replicate (m+1) c)=QI rows c (m+1):=by
 intro m
 induction m with
 |zero=>intro rows;rfl
 |succ m ih=>
  intro rows
  rw[List.replicate_succ]
  show rle (QI rows c 1) (List.replicate (m+1) c)=_
  rw[ih,vn]
theorem y6{p:Nat→Bool}{a:List Nat}{c:Nat}{t:List Nat}(h:∀x∈a,p x=true) (hc:p c=false):(a++c::t).takeWhile p=a:=by
 induction a with
 |nil=>simp[hc]
 |cons x r ih=>
  rw[List.cons_append,List.takeWhile_cons,h x List.mem_cons_self,if_pos rfl,ih fun y hy=>h y (List.mem_cons_of_mem _ hy)]
noncomputable def Num(d:List Nat)(n:Nat):Prop:=d≠[]∧AllDigits d∧d.head?≠some 48∧digitsVal d=n
theorem y9{d:List Nat}{n:Nat}(h:Num d n)(t:List Nat):QU (40::(d++41::t))=(n,t):=by
 have e:(d++41::t).takeWhile (· !=41)=d:=y6 (fun x hx=>by have:=h.2.1 x hx;simp;omega) (by simp)
 show(if 41∈(d++41::t)∧_∧_∧_ then _ else _)=_
 rw[e,if_pos ⟨by simp,h.1,h.2.1,h.2.2.1⟩,h.2.2.2]
 congr 1
 rw[←List.drop_drop,List.drop_left]
 rfl
theorem vo{c n:Nat}{d t:List Nat}(rows:List Rw)(h:Num d n):run (c::40::(d++41::t)) rows=run t (QI rows c n):=by
 rw[qf,y9 h]
inductive Sh:List Nat→List Nat→Prop
 |nil:Sh [] []
 |out {a b:List Nat} {c:Nat} (m:Nat):Sh a b→c≠40→Sh (a++List.replicate (m+1) c) (b++List.replicate (m+1) c)
 |brk {a b d:List Nat} {c:Nat} (m:Nat):Sh a b→c≠40→Num d (m+1)→Sh (a++List.replicate (m+1) c) (b++(c::40::(d++[41])))
theorem Sh.rows{a b:List Nat}(h:Sh a b):∀(t:List Nat)(rows:List Rw),t.head?≠some 40→run (b++t) rows=run t (rle rows a):=by
 induction h with
 |nil=>intro t rows _;rfl
 |@out a b c m _ hc ih=>
  intro t rows ht
  rw[List.append_assoc,ih _ _ (by rw[List.replicate_succ,List.cons_append,List.head?_cons];exact fun z=>hc (Option.some.inj z)),vm hc ht,Uu]
 |@brk a b d c m _ hc hd ih=>
  intro t rows ht
  have e:(c::40::(d++[41]))++t=c::40::(d++41::t):=by simp
  rw[List.append_assoc,ih _ _ (by rw[List.cons_append,List.head?_cons];exact fun z=>hc (Option.some.inj z)),e,vo _ hd,Uu,zl]
theorem YD{a b:List Nat}(h:Sh a b):rowsOf b=rle [] a:=by
 have:=h.rows [] [] (by simp)
 rw[List.append_nil,vk]at this
 exact this
theorem vp:∀(a:List Nat),40∉a→Sh a a:=by
 have key:∀(l a:List Nat),40∉l→Sh a a→Sh (a++l) (a++l):=by
  intro l
  induction l with
  |nil=>intro a _ h;rw[List.append_nil];exact h
  |cons c t ih=>
   intro a hl h
   have e:a++c::t=(a++List.replicate (0+1) c)++t:=by simp
   rw[e]
   exact ih _ (fun z=>hl (List.mem_cons_of_mem _ z)) (Sh.out 0 h fun z=>hl (by rw[z];exact List.mem_cons_self))
 intro a h
 exact key a [] h .nil
theorem Vf{a:List Nat}(h:40∉a):rowsOf a=rle [] a:=YD (vp a h)
end K04
set_option Elab.async false
set_option linter.all false
set_option maxRecDepth 100000
namespace K04
open PySem PySem.NumText K02
theorem Qaa(rows:List Rw)(c n:Nat):∃r m,QI rows c n=r++[(c,m)]:=by
 rcases Jg rows with rfl|⟨r,c',m,rfl⟩
 ·exact⟨[],n,rfl⟩
 ·by_cases h:c'=c
  ·subst h
   exact⟨r,_,JJ r c' n m⟩
  ·exact⟨_,_,Jm h⟩
theorem vq(rows r1:List Rw)(c n:Nat)(h:r1≠[]):QI (rows++r1) c n=rows++QI r1 c n:=by
 rcases Jg r1 with rfl|⟨r,c',m,rfl⟩
 ·exact absurd rfl h
 ·rw[←List.append_assoc]
  by_cases h:c'=c
  ·subst h
   rw[JJ,JJ,List.append_assoc]
  ·rw[Jm h,Jm h,List.append_assoc,List.append_assoc,List.append_assoc]
theorem xS(l:List Nat):∀(rows r1:List Rw),r1≠[]→rle (rows++r1) l=rows++rle r1 l:=by
 induction l with
 |nil=>intro rows r1 _;rfl
 |cons c t ih=>
  intro rows r1 h
  show rle (QI (rows++r1) c 1) t=rows++rle (QI r1 c 1) t
  rw[vq rows r1 c 1 h,ih]
  obtain⟨r,m,e⟩:=Qaa r1 c 1
  rw[e]
  simp
theorem vt{rows:List Rw}{l:List Nat}(h:∀r x n,rows=r++[(x,n)]→l.head?≠some x):rle rows l=rows++rle [] l:=by
 cases l with
 |nil=>show rows=rows++[];rw[List.append_nil]
 |cons c t=>
  have e:QI rows c 1=rows++[(c,1)]:=by
   rcases Jg rows with rfl|⟨r,c',m,rfl⟩
   ·rfl
   ·exact Jm fun z=>h r c' m rfl (by rw[z];rfl)
  show rle (QI rows c 1) t=rows++rle [(c,1)] t
  rw[e,xS t rows [(c,1)] (by simp)]
theorem xT(l:List Nat):∀(rows r:List Rw)(x n:Nat),l≠[]→rle rows l=r++[(x,n)]→l.getLast?=some x:=by
 induction l with
 |nil=>intro rows r x n h;exact absurd rfl h
 |cons c t ih=>
  intro rows r x n _ e
  cases t with
  |nil=>
   have e2:QI rows c 1=r++[(x,n)]:=e
   obtain⟨r',m,e3⟩:=Qaa rows c 1
   rw[e2]at e3
   have:=(List.append_inj' e3 rfl).2
   cases this
   rfl
  |cons d t=>exact ih _ r x n (by simp) e
theorem VE{a b:List Nat}(h:∀x,a.getLast?=some x→b.head?≠some x):rle [] (a++b)=rle [] a++rle [] b:=by
 rw[Uu]
 refine vt fun r x n e=>?_
 cases a with
 |nil=>cases r<;>cases e
 |cons c t=>exact h x (xT _ _ r x n (by simp) e)
theorem VF(c:Nat)(t:List Nat):∃n r,rle [] (c::t)=(c,n+1)::r:=by
 have key:∀(t:List Nat)(rows r:List Rw)(n:Nat),rows=(c,n+1)::r→∃n r,rle rows t=(c,n+1)::r:=by
  intro t
  induction t with
  |nil=>intro rows r n e;exact⟨n,r,e⟩
  |cons d t ih=>
   intro rows r n e
   rcases Jg rows with h|⟨r',c',m,h⟩
   ·rw[h]at e;cases e
   ·subst h
    cases r' with
    |nil=>
     cases e
     by_cases z:c=d
     ·subst z
      exact ih _ [] (1+n) (JJ [] c 1 (n+1))
     ·exact ih _ [(d,1)] n (Jm (rows:=[]) z)
    |cons y r'=>
     cases e
     by_cases z:c'=d
     ·subst z
      exact ih _ _ n (JJ ((c,n+1)::r') c' 1 m)
     ·exact ih _ _ n (Jm (rows:=(c,n+1)::r') z)
 exact key t [(c,1)] [] 0 rfl
noncomputable def cnt(s:Nat)(rows:List Rw):Nat:=(rows.map fun x=>if x.1=s then x.2 else 0).sum
theorem Uv(s:Nat)(a b:List Rw):cnt s (a++b)=cnt s a+cnt s b:=by
 unfold cnt
 rw[List.map_append,List.sum_append]
theorem vv(s:Nat)(rows:List Rw)(c n:Nat):cnt s (QI rows c n)=cnt s rows+if c=s then n else 0:=by
 rcases Jg rows with rfl|⟨r,c',m,rfl⟩
 ·simp[Wq,cnt]
 ·by_cases h:c'=c
  ·subst h
   rw[JJ,Uv,Uv]
   simp only[cnt,List.map_cons,List.map_nil,List.sum_cons,List.sum_nil]
   split<;>omega
  ·rw[Jm h,Uv]
   simp only[cnt,List.map_cons,List.map_nil,List.sum_cons,List.sum_nil]
   split<;>omega
theorem vw(s:Nat)(l:List Nat):∀rows,cnt s (rle rows l)=cnt s rows+l.count s:=by
 induction l with
 |nil=>intro rows;rfl
 |cons c t ih=>
  intro rows
  show cnt s (rle (QI rows c 1) t)=_
  rw[ih,vv,List.count_cons]
  by_cases h:c=s
  ·subst h;simp;omega
  ·have:(c==s)=false:=by simpa using h
   rw[if_neg h,this]
   simp
theorem vx{rows:List Rw}{c n:Nat}{x:Rw}(h:x∈QI rows c n):x.1=c∨x∈rows:=by
 rcases Jg rows with rfl|⟨r,c',m,rfl⟩
 ·exact .inl (by rw[Wq]at h;rw[List.mem_singleton.mp h])
 ·by_cases z:c'=c
  ·subst z
   rw[JJ]at h
   rcases List.mem_append.mp h with h|h
   ·exact .inr (List.mem_append_left _ h)
   ·exact .inl (by rw[List.mem_singleton.mp h])
  ·rw[Jm z]at h
   rcases List.mem_append.mp h with h|h
   ·exact .inr h
   ·exact .inl (by rw[List.mem_singleton.mp h])
theorem zm{x:Rw}(l:List Nat):∀rows,x∈rle rows l→x.1∈l∨x∈rows:=by
 induction l with
 |nil=>intro rows h;exact .inr h
 |cons c t ih=>
  intro rows h
  rcases ih _ h with h|h
  ·exact .inl (List.mem_cons_of_mem _ h)
  ·rcases vx h with h|h
   ·exact .inl (by rw[h];exact List.mem_cons_self)
   ·exact .inr h
theorem Vg{place:Nat}{R:List Rw}(hR:∀x,R.head?=some x→x.1≠place∧ins x.1=false):∀(W:List Rw)(m:Nat),(∀x∈W,x.1=place∨ins x.1=true)→QH place (W++R) m=(m+cnt place W,R):=by
 intro W
 induction W with
 |nil=>
  intro m _
  show QH place R m=_
  cases R with
  |nil=>rfl
  |cons x r=>
   obtain⟨c,n⟩:=x
   have:=hR (c,n) rfl
   show(if c=place then _ else if ins c=true then _ else _)=_
   rw[if_neg this.1,if_neg (by rw[this.2];decide)]
   rfl
 |cons x r ih=>
  intro m h
  obtain⟨c,n⟩:=x
  have e:cnt place ((c,n)::r)=(if c=place then n else 0)+cnt place r:=by simp[cnt]
  show(if c=place then QH place (r++R) (m+n)else if ins c=true then QH place (r++R) m else(m,(c,n)::(r++R)))=_
  rw[e]
  by_cases z:c=place
  ·rw[if_pos z,if_pos z,ih _ fun y hy=>h y (List.mem_cons_of_mem _ hy),Nat.add_assoc]
  ·rw[if_neg z,if_neg z,if_pos ((h _ List.mem_cons_self).resolve_left z),ih _ fun y hy=>h y (List.mem_cons_of_mem _ hy),Nat.zero_add]
structure PlT(s most:Nat)(l:List Nat):Prop where
 hd:l.head?=some s
 all:∀x∈l,x=s∨ins x=true
 cn:l.count s≤most
theorem PlT.rows{s most:Nat}{l:List Nat}(h:PlT s most l):∃n r,rle [] l=(s,n+1)::r∧(∀x∈rle [] l,x.1=s∨ins x.1=true)∧cnt s (rle [] l)=l.count s:=by
 cases l with
 |nil=>cases h.hd
 |cons c t=>
  have e:c=s:=Option.some.inj h.hd
  subst e
  obtain⟨n,r,e⟩:=VF c t
  refine⟨n,r,e,fun x hx=>?_,by rw[vw];exact Nat.zero_add _⟩
  rcases zm _ _ hx with z|z
  ·exact h.all _ z
  ·cases z
theorem PlT.last{s most:Nat}{l:List Nat}(h:PlT s most l){x:Nat}(e:l.getLast?=some x):x=s∨ins x=true:=h.all x (List.mem_of_getLast? e)
end K04
set_option Elab.async false
set_option linter.all false
set_option maxRecDepth 100000
namespace Lw
open PySem PySem.Spec PyProof.Rows L2 K02 K04
open Builtin Builtin.Str StrLaws
theorem JQ(l:List Nat)(c:Nat):(!(occurrences (tx l) (tx [c]) 0 (tx l).length 1).isEmpty)=l.contains c:=by
 rcases occ_head (tx l) (tx [c]) 1 (Nat.le_refl _)with⟨h1,h2⟩|⟨i,t,h1,h2,h3⟩
 ·have hn:c∉l:=fun hm=>by
   obtain⟨j,hj⟩:=List.mem_iff_getElem?.mp hm
   exact h2 j ((subAt_one (tx l) c j).mpr hj)
  rw[h1]
  simp[hn]
 ·have hi:l[i]? =some c:=(subAt_one (tx l) c i).mp h2
  have hm:c∈l:=List.mem_iff_getElem?.mpr ⟨i,hi⟩
  rw[h1]
  simp[hm]
theorem xU(l:List Nat)(c:Nat):Txt.startswith (tx l) (tx [c])=(l.head?==some c):=by
 unfold Txt.startswith
 have e:(tx [c])=(⟨#[c]⟩:Str):=rfl
 rw[e,sub_one]
 cases l with
 |nil=>rfl
 |cons a r=>
  rw[decide_eq_true (by show 0+1≤(tx (a::r)).length;rw[Qj,List.length_cons];omega)]
  rfl
theorem Kj(a b:List Nat):decide (V.str (tx a)=V.str (tx b))=decide (a=b):=by
 by_cases h:a=b
 ·rw[decide_eq_true h,decide_eq_true (by rw[h])]
 ·rw[decide_eq_false h,decide_eq_false fun q=>h (Yv (V.str.inj q))]
theorem Q0(a b:Nat):decide (V.str (tx [a])=V.str (tx [b]))=decide (a=b):=by
 rw[Kj]
 by_cases h:a=b
 ·rw[decide_eq_true h,decide_eq_true (by rw[h])]
 ·rw[decide_eq_false h,decide_eq_false fun q=>h (List.cons.inj q).1]
theorem xV(n a:Nat):fromIndex n (a:Int)=a:=by
 unfold fromIndex
 rw[if_neg (by omega)]
 omega
theorem Qbm{l:List Nat}{c i:Nat}(hi:l[i]? =some c)(hn:∀k,k<i→l[k]? ≠some c):l.takeWhile (· !=c)=l.take i:=by
 induction l generalizing i with
 |nil=>cases hi
 |cons a r ih=>
  cases i with
  |zero=>
   have:a=c:=by simpa using hi
   subst this
   simp
  |succ i=>
   have hb:(a !=c)=true:=by
    have:=hn 0 (Nat.succ_pos _)
    simpa using this
   rw[List.takeWhile_cons,hb]
   simp only[if_true,List.take_succ_cons]
   rw[ih (i:=i) (by simpa using hi) fun k hk=>by
    have:=hn (k+1) (by omega)
    simpa using this]
theorem vy{l:List Nat}{a c:Nat}{r:List Nat}(h:l.drop a=40::r)(hc:c≠40):
  (c∉r∧j9 (tx l) (tx [c]) (a:Int)= -1)∨(c∈r∧j9 (tx l) (tx [c]) (a:Int)=((a+1+(r.takeWhile (· !=c)).length:Nat):Int)):=by
 have hd:∀i,l[a+i]? =(40::r)[i]? :=fun i=>by rw[←h,List.getElem?_drop]
 unfold j9
 rw[xV]
 rcases occ_head_from (tx l) (tx [c]) a 1 (Nat.le_refl _)with⟨h1,h2⟩|⟨i,t,h1,h2,h3,h4⟩
 ·refine .inl ⟨fun hm=>?_,by rw[h1]⟩
  obtain⟨j,hj⟩:=List.mem_iff_getElem?.mp hm
  refine h2 (a+(j+1)) (by omega) ((subAt_one (tx l) c _).mpr ?_)
  show l[a+(j+1)]? =some c
  rw[hd]
  exact hj
 ·have hi:l[i]? =some c:=(subAt_one (tx l) c i).mp h3
  obtain⟨k,rfl⟩:∃k,i=a+k:=⟨i-a,by omega⟩
  rw[hd]at hi
  cases k with
  |zero=>exact absurd (by simpa using hi) (Ne.symm hc)
  |succ k=>
   have hk:r[k]? =some c:=by simpa using hi
   have e:=Qbm (l:=r) (c:=c) (i:=k) hk fun m hm z=>h4 (a+(m+1)) (by omega) (by omega) ((subAt_one (tx l) c _).mpr (by show l[a+(m+1)]? =some c;rw[hd];exact z))
   refine .inr ⟨List.mem_iff_getElem?.mpr ⟨k,hk⟩,?_⟩
   have hkl:=(List.getElem?_eq_some_iff.mp hk).1
   rw[h1,e,List.length_take,Nat.min_eq_left (by omega)]
   show((a+(k+1):Nat):Int)=_
   congr 1
   omega
theorem qW(l:List Nat){a b:Nat}(h:b<a)(hl:1≤l.length):sliceText (tx l) (some (a:Int)) (some (b:Int))=tx []:=by
 have e3:strSliceIndices (some (a:Int)) (some (b:Int)) 1 (tx l).length=[]:=by
  rw[Qj]
  unfold strSliceIndices
  have h1:¬ ((a:Int)<0):=by omega
  have h2:¬ ((b:Int)<0):=by omega
  have h3:max (0:Int) (min (a:Int) (l.length:Int))≥max (0:Int) (min (b:Int) (l.length:Int)):=by omega
  simp only[h1,h2,if_false,show((1:Int)>0)=True from by simp,if_true]
  unfold sliceRange
  simp
  omega
 unfold sliceText
 rw[e3]
 split
 ·rename_i h1
  have:l.length=0:=by
   have h2:(0==(tx l).length)=true:=by simpa using h1
   rw[Qj]at h2
   have:=beq_iff_eq.mp h2
   omega
  omega
 ·rfl
noncomputable def wf(x:Rw):HO:=.tup [.str (tx [x.1]),.int (x.2:Nat)]
inductive Rws (H:Hp):List Addr→List Rw→Prop where
 |nil:Rws H [] []
 |cons {r:Addr} {rs:List Addr} {x:Rw} {xs:List Rw}:H r=some (wf x)→Rws H rs xs→Rws H (r::rs) (x::xs)
section
variable {H H':Hp}{rs:List Addr}{rows:List Rw}
theorem Rws.len(h:Rws H rs rows):rs.length=rows.length:=by
 induction h with
 |nil=>rfl
 |cons _ _ ih=>rw[List.length_cons,List.length_cons,ih]
theorem Rws.keep(h:Rws H rs rows)(e:∀b xs,H b=some (.tup xs)→H' b=some (.tup xs)):Rws H' rs rows:=by
 induction h with
 |nil=>exact .nil
 |cons a _ ih=>exact .cons (e _ _ a) ih
theorem Rws.at(h:Rws H rs rows):∀{i:Nat}{x:Rw},rows[i]? =some x→∃r,rs[i]? =some r∧H r=some (wf x):=by
 induction h with
 |nil=>intro i x e;cases e
 |cons a _ ih=>
  intro i x e
  cases i with
  |zero=>exact⟨_,rfl,by have:_=x:=Option.some.inj e;rw[←this];exact a⟩
  |succ i=>exact ih (i:=i) (x:=x) e
theorem Rws.app(h:Rws H rs rows){r:Addr}{x:Rw}(e:H r=some (wf x)):Rws H (rs++[r]) (rows++[x]):=by
 induction h with
 |nil=>exact .cons e .nil
 |cons a _ ih=>exact .cons a ih
theorem Rws.dr(h:Rws H rs rows):∀k,Rws H (rs.drop k) (rows.drop k):=by
 induction h with
 |nil=>intro k;rw[List.drop_nil,List.drop_nil];exact .nil
 |cons a t ih=>
  intro k
  cases k with
  |zero=>exact .cons a t
  |succ k=>exact ih k
end
structure RowsAt(K:PySem.W.Frag)(H:Hp)(p:Addr)(rs:List Addr)(rows:List Rw):Prop where
 sq:SqL K H p (rs.map V.ref)
 rw:Rws H rs rows
 le:rows.length≤600
section
variable {K:PySem.W.Frag}{H H':Hp}{p:Addr}{rs:List Addr}{rows:List Rw}{σ:L2.St}{i j k:Nat}{Q:VK}
theorem SqL.same{K:PySem.W.Frag}{H H':Hp}{a:Addr}{xs:List V}(e:Qz H H')(h:SqL K H a xs):SqL K H' a xs:=by
 rcases h with(h|⟨o,h⟩)|h
 ·exact .inl (.inl (e _ _ h))
 ·exact .inl (.inr ⟨o,e _ _ h⟩)
 ·exact .inr h
theorem RowsAt.same(R:RowsAt K H p rs rows)(e:Qz H H'):RowsAt K H' p rs rows:=⟨SqL.same e R.sq,R.rw.keep fun b xs h=>e _ _ h,R.le⟩
theorem RowsAt.len(R:RowsAt K H p rs rows):(rs.map V.ref).length=rows.length:=by rw[List.length_map,R.rw.len]
theorem RowsAt.at(R:RowsAt K H p rs rows){x:Rw}(e:rows[k]? =some x):∃r,atI (rs.map V.ref) (k:Int)=some (.ref r)∧H r=some (wf x):=by
 obtain⟨r,h1,h2⟩:=R.rw.at e
 exact⟨r,Zd (by rw[List.getElem?_map,h1];rfl),h2⟩
theorem YE{te:TE}(h1:σ[i]? =some (some (.ref p)))(h2:∀Q:VK,Q (.int (k:Nat)) H→te σ H Q) (R:RowsAt K H p rs rows) {x:Rw} (e:rows[k]? =some x) (q:∀r,H r=some (wf x)→Q (.ref r) H):tOp (yy K) (Kx i) te σ H Q:=by
 obtain⟨r,a,b⟩:=R.at e
 exact⟨_,h1,h2 _ ⟨p,_,_,_,rfl,rfl,R.sq,a,q r b⟩⟩
theorem Z9{te:TE}(h1:σ[i]? =some (some (.ref p)))(h2:∀Q:VK,Q (.int (k:Nat)) H→te σ H Q) (R:RowsAt K H p rs rows) {x:Rw} (e:rows[k]? =some x) (q:Q (.str (tx [x.1])) H):tOp (Qa0 K) (tOp (yy K) (Kx i) te) (tC (.int 0)) σ H Q:=
 YE h1 h2 R e fun r b=>⟨r,_,_,_,rfl,rfl,SqT.of b,rfl,q⟩
theorem wg{te:TE}(h1:σ[i]? =some (some (.ref p)))(h2:∀Q:VK,Q (.int (k:Nat)) H→te σ H Q) (R:RowsAt K H p rs rows) {x:Rw} (e:rows[k]? =some x) (q:Q (.int (x.2:Nat)) H):tOp (Qa0 K) (tOp (yy K) (Kx i) te) (tC (.int 1)) σ H Q:=
 YE h1 h2 R e fun r b=>⟨r,_,_,_,rfl,rfl,SqT.of b,rfl,q⟩
theorem Zm(h1:σ[i]? =some (some (.ref p)))(R:RowsAt K H p rs rows)(q:Q (.int (rows.length:Nat)) H):tCB (fun xs H Q=>∃p ys,xs=[.ref p]∧(SqL K H p ys∨SqT K H p ys)∧Q (.int ys.length) H) (JN (Kx i) W7) σ H Q:=
 ⟨_,h1,p,_,rfl,.inl R.sq,by rw[R.len];exact q⟩
theorem JW(h:σ[i]? =some (some (.int (k:Nat)))):∀Q:VK,Q (.int (k:Nat)) H→Kx i σ H Q:=fun Q q=>⟨_,h,q⟩
end
theorem ZL(l:List Nat):Txt.join "" (l.map fun c=>tx [c])=tx l:=by
 show Builtin.Str.glued _ _=_
 rw[StrLaws.glued_eq_join]
 have e:("":Str)=⟨#[]⟩:=by decide+kernel
 rw[e]
 exact join_ones l
theorem xW:∀(l:List Nat)(n:Nat),(l.map fun c=>tx [c]).foldl (fun(m:Nat)(s:Str)=>m+s.length+("":Str).length) n=n+l.length:=by
 have e:("":Str).length=0:=by decide+kernel
 intro l
 induction l with
 |nil=>intro n;rfl
 |cons a r ih=>
  intro n
  show(r.map fun c=>tx [c]).foldl _ (n+(tx [a]).length+("":Str).length)=_
  rw[ih,e,Qj,List.length_cons,List.length_cons,List.length_nil]
  omega
theorem Kk{l:List Nat}(h:l.length≤1000):JoinOk "" (l.map fun c=>tx [c])=true:=by
 unfold JoinOk
 rw[←Array.foldl_toList,List.toList_toArray,xW]
 unfold tooLong
 have hz:1000≤sizeLine:=by decide
 rw[decide_eq_false (by omega)]
 rfl
end Lw
set_option Elab.async false
set_option linter.all false
set_option maxRecDepth 100000
namespace K04
open PySem PySem.NumText K02
theorem vz{x:Nat}(l:List Nat):∀rows:List Rw,(x∈l∨∃y∈rows,y.1=x)→∃y∈rle rows l,y.1=x:=by
 have keep:∀(rows:List Rw)(c:Nat),(x=c∨∃y∈rows,y.1=x)→∃y∈QI rows c 1,y.1=x:=by
  intro rows c h
  rcases Jg rows with rfl|⟨r,c',m,rfl⟩
  ·rcases h with h|⟨y,hy,_⟩
   ·exact⟨(c,1),List.mem_singleton.mpr rfl,h.symm⟩
   ·cases hy
  ·by_cases z:c'=c
   ·subst z
    rw[JJ]
    rcases h with h|⟨y,hy,e⟩
    ·exact⟨_,List.mem_append_right _ (List.mem_singleton.mpr rfl),h.symm⟩
    ·rcases List.mem_append.mp hy with hy|hy
     ·exact⟨y,List.mem_append_left _ hy,e⟩
     ·rw[List.mem_singleton.mp hy]at e
      exact⟨_,List.mem_append_right _ (List.mem_singleton.mpr rfl),e⟩
   ·rw[Jm z]
    rcases h with h|⟨y,hy,e⟩
    ·exact⟨_,List.mem_append_right _ (List.mem_singleton.mpr rfl),h.symm⟩
    ·exact⟨y,List.mem_append_left _ hy,e⟩
 induction l with
 |nil=>intro rows h;exact h.resolve_left (by simp)
 |cons c t ih=>
  intro rows h
  refine ih _ ?_
  rcases h with h|h
  ·rcases List.mem_cons.mp h with h|h
   ·exact .inr (keep rows c (.inl h))
   ·exact .inl h
  ·exact .inr (keep rows c (.inr h))
structure Ed(lead:List Nat)(first:Nat)(W N broken tail:List Nat):Prop where
 w:PlT first 5 W
 n:N=[]∨(first≠57∧PlT 57 3 N)
 f:first∈([57,90,42,43,45,36]:List Nat)
 fl:first∈([43,45,36]:List Nat)→2≤W.count first
 br:broken=[]∨∃k b,k<3∧broken=List.replicate (k+1) b∧(b=57∨(b=first∧(first=90∨first=42)∧N=[]))
 ld:lead∈([[],[43],[45],[36],[43,36],[45,36]]:List (List Nat))
 l1:first=43∨first=45→lead=[]∨lead=[36]
 l2:first=36→lead=[]∨lead=[43]∨lead=[45]
 tl:tail∈([[],[43],[45],[67,82],[68,66]]:List (List Nat))
 ts:tail≠[]→(first≠43∧first≠45)∧(lead=[]∨lead=[36])
 nn:¬ (first=57∧(∀x∈W,x=57)∧lead=[]∧broken=[]∧tail=[])
noncomputable def Qr(broken:List Nat):List Nat:=if broken=[]then[]else 46::broken
noncomputable def QS(lead W N broken tail:List Nat):List Nat:=lead++(W++(N++(Qr broken++tail)))
noncomputable def sgn(lead:List Nat)(first:Nat)(tail:List Nat):Bool:=(lead.head?==some 43||lead.head?==some 45)||(first==43||first==45)|| !tail.isEmpty
theorem xX:∀first∈([57,90,42,43,45,36]:List Nat),∀lead∈([[],[43],[45],[36],[43,36],[45,36]]:List (List Nat)),∀tail∈([[],[43],[45],[67,82],[68,66]]:List (List Nat)),
  (first=43∨first=45→lead=[]∨lead=[36])→(tail≠[]→(first≠43∧first≠45)∧(lead=[]∨lead=[36]))→
   ([lead.take 1,[first],tail].filter (Jz.contains ·)).length≤1∧(([lead.take 1,[first],tail].filter (Jz.contains ·)).length==1)=sgn lead first tail:=by decide
theorem zn:∀first∈([57,90,42,43,45,36]:List Nat),ins first=false∧first≠46∧first≠40∧first≠88∧first≠65:=by decide
section
variable {lead W N broken tail:List Nat}{first:Nat}
theorem xY{s:Nat}(hs:ins s=false)(R:List Rw):∀r:List Rw,(∀x∈r,x.1=s∨ins x.1=true)→1≤cnt s r→∃m r',(r++R).dropWhile (fun x=>ins x.1)=(s,m)::r':=by
 intro r
 induction r with
 |nil=>intro _ h;exact absurd h (by simp[cnt])
 |cons x r ih=>
  intro h1 h2
  obtain⟨c,n⟩:=x
  by_cases z:c=s
  ·subst z
   exact⟨n,r++R,by rw[List.cons_append,List.dropWhile_cons,if_neg (by show ¬ ins c=true;rw[hs];decide)]⟩
  ·have hi:ins c=true:=(h1 _ List.mem_cons_self).resolve_left z
   have hc:cnt s ((c,n)::r)=cnt s r:=by simp[cnt,z]
   rw[hc]at h2
   obtain⟨m,r',e⟩:=ih (fun y hy=>h1 y (List.mem_cons_of_mem _ hy)) h2
   exact⟨m,r',by rw[List.cons_append,List.dropWhile_cons,if_pos (show ins c=true from hi),e]⟩
theorem zo{s n:Nat}{r:List Rw}(hs:ins s=false)(R:List Rw)(h1:∀x∈(s,n+1)::r,x.1=s∨ins x.1=true) (h2:2≤cnt s ((s,n+1)::r)):Jl ((s,n+1)::(r++R))=true:=by
 show(decide (n+1>1)||_)=true
 cases n with
 |succ n=>rw[decide_eq_true (by omega)];rfl
 |zero=>
  have hc:cnt s ((s,0+1)::r)=1+cnt s r:=by simp[cnt]
  rw[hc]at h2
  obtain⟨m,r',e⟩:=xY hs R r (fun y hy=>h1 y (List.mem_cons_of_mem _ hy)) (by omega)
  rw[e]
  simp
theorem Vh{c s m:Nat}(hs:ins s=false)(r:List Rw)(h:s≠c):Jl ((c,1)::(s,m)::r)=false:=by
 show(decide (1>1)||_)=false
 rw[List.dropWhile_cons,if_neg (show ¬ ins s=true by rw[hs];decide)]
 simp[h]
theorem vA{b k:Nat}(h:b≠46):rle [] (46::List.replicate (k+1) b)=[(46,1),(b,k+1)]:=by
 show rle [(46,1)] (List.replicate (k+1) b)=_
 rw[zl]
 exact Jm (rows:=[]) (Ne.symm h)
theorem Xa:∀tail∈([[],[43],[45],[67,82],[68,66]]:List (List Nat)),Xx (rle [] tail)=some tail∧(∀x,(rle [] tail).head?=some x→x.1∈([43,45,67,68]:List Nat))∧(rle [] tail=[]→tail=[])∧(∀x,tail.head?=some x→x∈([43,45,67,68]:List Nat)):=by
 intro tail h
 simp only[List.mem_cons,List.not_mem_nil,or_false]at h
 rcases h with rfl|rfl|rfl|rfl|rfl
 ·exact⟨by decide,(by intro x hx;cases hx),by decide,(by intro x hx;cases hx)⟩
 all_goals exact⟨by decide,(by intro x hx;cases hx;decide),by decide,(by intro x hx;cases hx;decide)⟩
theorem zp:∀lead∈([[],[43],[45],[36],[43,36],[45,36]]:List (List Nat)),rle [] lead=lead.map fun c=>(c,1):=by decide
theorem Ed.behind(E:Ed lead first W N broken tail):∀x,(Qr broken++tail).head?=some x→x≠57∧ins x=false∧x≠first∧x∈([46,43,45,67,68]:List Nat):=by
 intro x hx
 have hf:=zn first E.f
 unfold Qr at hx
 by_cases hb:broken=[]
 ·rw[if_pos hb,List.nil_append]at hx
  have ht:=(Xa tail E.tl).2.2.2 x hx
  have hn:tail≠[]:=fun z=>by rw[z]at hx;cases hx
  have hs:=E.ts hn
  have h67:first≠67∧first≠68:=by
   have:∀f∈([57,90,42,43,45,36]:List Nat),f≠67∧f≠68:=by decide
   exact this first E.f
  simp only[List.mem_cons,List.not_mem_nil,or_false]at ht
  rcases ht with rfl|rfl|rfl|rfl
  ·exact⟨by decide,by decide,Ne.symm hs.1.1,by decide⟩
  ·exact⟨by decide,by decide,Ne.symm hs.1.2,by decide⟩
  ·exact⟨by decide,by decide,Ne.symm h67.1,by decide⟩
  ·exact⟨by decide,by decide,Ne.symm h67.2,by decide⟩
 ·rw[if_neg hb]at hx
  cases hx
  exact⟨by decide,by decide,Ne.symm hf.2.1,by decide⟩
theorem Ed.zq(E:Ed lead first W N broken tail):∀x,(N++(Qr broken++tail)).head?=some x→x≠first∧ins x=false:=by
 intro x hx
 rcases E.n with rfl|⟨h1,h2⟩
 ·rw[List.nil_append]at hx
  exact⟨(E.behind x hx).2.2.1,(E.behind x hx).2.1⟩
 ·rw[List.head?_append,h2.hd]at hx
  cases hx
  exact⟨Ne.symm h1,by decide⟩
theorem Ed.zr(E:Ed lead first W N broken tail)(R:List Nat):(W++R).head?=some first:=by rw[List.head?_append,E.w.hd];rfl
theorem Ed.rows(E:Ed lead first W N broken tail):rle [] (QS lead W N broken tail)=(lead.map fun c=>(c,1))++(rle [] W++(rle [] N++(rle [] (Qr broken)++rle [] tail))):=by
 have hf:=zn first E.f
 unfold QS
 rw[VE,zp lead E.ld,VE,VE,VE]
 ·intro x hx hx2
  unfold Qr at hx
  have ht:=(Xa tail E.tl).2.2.2 x hx2
  rcases E.br with rfl|⟨k,b,hk,rfl,hb⟩
  ·cases hx
  ·rw[if_neg (by simp)]at hx
   have hxb:x=b:=by
    rw[List.getLast?_cons,List.getLast?_replicate]at hx
    simp at hx
    exact hx.symm
   subst hxb
   have:x=57∨x=90∨x=42:=by
    rcases hb with h|⟨h,h2|h2,_⟩
    ·exact .inl h
    ·exact .inr (.inl (h.trans h2))
    ·exact .inr (.inr (h.trans h2))
   rcases this with rfl|rfl|rfl<;>exact absurd ht (by decide)
 ·intro x hx hx2
  have hb:=E.behind x hx2
  rcases E.n with rfl|⟨h1,h2⟩
  ·cases hx
  ·rcases h2.last hx with z|z
   ·exact hb.1 z
   ·rw[hb.2.1]at z;cases z
 ·intro x hx hx2
  have hb:=E.zq x hx2
  rcases E.w.last hx with z|z
  ·exact hb.1 z
  ·rw[hb.2]at z;cases z
 ·intro x hx hx2
  rw[E.zr]at hx2
  cases hx2
  have hl:=E.ld
  simp only[List.mem_cons,List.not_mem_nil,or_false]at hl
  have a1:lead=[43]∨lead=[45]∨lead=[36]∨lead=[43,36]∨lead=[45,36]∨lead=[]:=by rcases hl with h|h|h|h|h|h<;>simp[h]
  rcases a1 with rfl|rfl|rfl|rfl|rfl|rfl
  ·cases hx;exact absurd (E.l1 (.inl rfl)) (by decide)
  ·cases hx;exact absurd (E.l1 (.inr rfl)) (by decide)
  ·cases hx;exact absurd (E.l2 rfl) (by decide)
  ·cases hx;exact absurd (E.l2 rfl) (by decide)
  ·cases hx;exact absurd (E.l2 rfl) (by decide)
  ·cases hx
end
end K04
set_option Elab.async false
set_option linter.all false
set_option maxRecDepth 100000
namespace K04
open PySem PySem.NumText K02
section
variable {lead W N broken tail:List Nat}{first:Nat}
theorem Ed.Qab(E:Ed lead first W N broken tail)(R:List Rw):Zr ((lead.map fun c=>(c,1))++(rle [] W++R))=(lead,rle [] W++R):=by
 have hf:=zn first E.f
 obtain⟨n,r,e,hall,hcn⟩:=E.w.rows
 have hfl:first∈([43,45,36]:List Nat)→Jl ((first,n+1)::(r++R))=true:=fun h=>by
  have h2:=E.fl h
  rw[←hcn,e]at h2
  rw[e]at hall
  exact zo hf.1 R hall h2
 rw[e,List.cons_append]
 have g2:∀ld:List Nat,(first=36→Jl ((first,n+1)::(r++R))=true)→JZ [[36]] ((first,n+1)::(r++R)) ld=(ld,(first,n+1)::(r++R)):=fun ld h=>by
  show(if(([36]:List Nat).contains first&& !Jl ((first,n+1)::(r++R)))=true then _ else _)=_
  by_cases z:first=36
  ·rw[h z]
   simp
   rfl
  ·have:([36]:List Nat).contains first=false:=by simpa using z
   rw[this]
   rfl
 have g1:∀ld:List Nat,JZ [[43,45],[36]] ((first,n+1)::(r++R)) ld=(ld,(first,n+1)::(r++R)):=fun ld=>by
  show(if(([43,45]:List Nat).contains first&& !Jl ((first,n+1)::(r++R)))=true then _ else _)=_
  rw[if_neg]
  ·exact g2 ld fun z=>hfl (by rw[z];decide)
  ·by_cases z:first=43∨first=45
   ·rw[hfl (by rcases z with z|z<;>rw[z]<;>decide)]
    simp
   ·have:([43,45]:List Nat).contains first=false:=by simpa using z
    rw[this,Bool.false_and]
    decide
 have hl:=E.ld
 simp only[List.mem_cons,List.not_mem_nil,or_false]at hl
 have g36:first=36→Jl ((first,n+1)::(r++R))=true:=fun z=>hfl (by rw[z];decide)
 have step2:∀(ld:List Nat),first≠36→JZ [[36]] ((36,1)::(first,n+1)::(r++R)) ld=(ld++[36],(first,n+1)::(r++R)):=fun ld h=>by
  show(if(([36]:List Nat).contains 36&& !Jl ((36,1)::(first,n+1)::(r++R)))=true then _ else _)=_
  rw[Vh hf.1 _ h]
  rfl
 have step1:∀(c:Nat)(s m:Nat)(r':List Rw),(c=43∨c=45)→ins s=false→s≠c→JZ [[43,45],[36]] ((c,1)::(s,m)::r') []=JZ [[36]] ((s,m)::r') [c]:=fun c s m r' hc hs h=>by
  show(if(([43,45]:List Nat).contains c&& !Jl ((c,1)::(s,m)::r'))=true then _ else _)=_
  rw[Vh hs _ h]
  rcases hc with rfl|rfl<;>rfl
 rcases hl with rfl|rfl|rfl|rfl|rfl|rfl
 ·exact g1 []
 ·show JZ [[43,45],[36]] ((43,1)::(first,n+1)::(r++R)) []=_
  rw[step1 43 _ _ _ (.inl rfl) hf.1 (fun z=>absurd (E.l1 (.inl z)) (by decide))]
  exact g2 _ g36
 ·show JZ [[43,45],[36]] ((45,1)::(first,n+1)::(r++R)) []=_
  rw[step1 45 _ _ _ (.inr rfl) hf.1 (fun z=>absurd (E.l1 (.inr z)) (by decide))]
  exact g2 _ g36
 ·show JZ [[36]] ((36,1)::(first,n+1)::(r++R)) []=_
  exact step2 [] fun z=>absurd (E.l2 z) (by decide)
 ·show JZ [[43,45],[36]] ((43,1)::(36,1)::(first,n+1)::(r++R)) []=_
  rw[step1 43 _ _ _ (.inl rfl) (by decide) (by decide)]
  exact step2 [43] fun z=>absurd (E.l2 z) (by decide)
 ·show JZ [[43,45],[36]] ((45,1)::(36,1)::(first,n+1)::(r++R)) []=_
  rw[step1 45 _ _ _ (.inr rfl) (by decide) (by decide)]
  exact step2 [45] fun z=>absurd (E.l2 z) (by decide)
theorem xZ{l:List Nat}{x:Rw}(h:(rle [] l).head?=some x):l.head?=some x.1:=by
 cases l with
 |nil=>cases h
 |cons c t=>
  obtain⟨n,r,e⟩:=VF c t
  rw[e]at h
  cases h
  rfl
theorem YF{a b:List Nat}{x:Rw}(h:(rle [] a++rle [] b).head?=some x):(a++b).head?=some x.1:=by
 cases a with
 |nil=>exact xZ h
 |cons c t=>
  obtain⟨n,r,e⟩:=VF c t
  rw[e]at h
  cases h
  rfl
theorem Ed.whole(E:Ed lead first W N broken tail):QO (rle [] W++(rle [] N++(rle [] (Qr broken)++rle [] tail)))=([first],W.count first,N.count 57,rle [] (Qr broken)++rle [] tail):=by
 have hf:=zn first E.f
 obtain⟨n,r,e,hall,hcn⟩:=E.w.rows
 have h1:QH first (rle [] W++(rle [] N++(rle [] (Qr broken)++rle [] tail))) 0=(W.count first,rle [] N++(rle [] (Qr broken)++rle [] tail)):=by
  rw[Vg _ _ _ hall,hcn,Nat.zero_add]
  intro x hx
  refine E.zq x.1 ?_
  rcases E.n with rfl|⟨_,h2⟩
  ·rw[List.nil_append]
   exact YF (a:=Qr broken) (b:=tail) hx
  ·obtain⟨n',r',e',_⟩:=h2.rows
   rw[e']at hx
   cases hx
   rw[List.head?_append,h2.hd]
   rfl
 have h2:QH 57 (rle [] N++(rle [] (Qr broken)++rle [] tail)) 0=(N.count 57,rle [] (Qr broken)++rle [] tail):=by
  have hN:(∀x∈rle [] N,x.1=57∨ins x.1=true)∧cnt 57 (rle [] N)=N.count 57:=by
   rcases E.n with rfl|⟨_,h2⟩
   ·exact⟨(fun x hx=>nomatch hx),rfl⟩
   ·obtain⟨n',r',e',ha,hc⟩:=h2.rows
    exact⟨ha,hc⟩
  rw[Vg _ _ _ hN.1,hN.2,Nat.zero_add]
  intro x hx
  have:=E.behind x.1 (YF hx)
  exact⟨this.1,this.2.1⟩
 have hc:([57,90,42,43,45,36]:List Nat).contains first=true:=List.contains_iff_mem.mpr E.f
 rw[e,List.cons_append]
 rw[e,List.cons_append]at h1
 show(if([57,90,42,43,45,36]:List Nat).contains first=true then _ else _)=_
 rw[if_pos hc]
 show([first],(QH first _ 0).1,(QH 57 (QH first _ 0).2 0).1,(QH 57 (QH first _ 0).2 0).2)=_
 rw[h1]
 show([first],W.count first,(QH 57 _ 0).1,(QH 57 _ 0).2)=_
 rw[h2]
theorem Ed.zt(E:Ed lead first W N broken tail):Q3 (rle [] (Qr broken)++rle [] tail) (if N.count 57=0 then[first]else[57])=(some broken.length,rle [] tail):=by
 rcases E.br with rfl|⟨k,b,hk,rfl,hb⟩
 ·show Q3 (rle [] tail) _=_
  have ht:=(Xa tail E.tl).2.1
  cases e:rle [] tail with
  |nil=>rfl
  |cons x r=>
   obtain⟨c,n⟩:=x
   have:=ht (c,n) (by rw[e];rfl)
   unfold Q3
   split
   ·rename_i heq
    cases heq
    exact absurd (show(46:Nat)∈([43,45,67,68]:List Nat)from this) (by decide)
   ·rfl
 ·have h46:b≠46:=by
   rcases hb with h|⟨h,h2|h2,_⟩
   ·rw[h];decide
   ·rw[h,h2];decide
   ·rw[h,h2];decide
  unfold Qr
  rw[if_neg (by simp),vA h46]
  have e:∀pl:List Nat,Q3 ([(46,1),(b,k+1)]++rle [] tail) pl=if(1>1∨(b,k+1)::rle [] tail=[])then(none,[(46,1),(b,k+1)]++rle [] tail)else(if b≠57∧([b]≠pl∨([43,45,36]:List Nat).contains b=true)then(none,[(46,1),(b,k+1)]++rle [] tail)else(some (k+1),rle [] tail)):=fun pl=>rfl
  rw[e]
  rw[if_neg (by simp),if_neg,List.length_replicate]
  rintro⟨z1,z2⟩
  rcases hb with h|⟨h,h2,h3⟩
  ·exact z1 h
  ·subst h3
   rw[if_pos List.count_nil,h]at z2
   rcases z2 with z2|z2
   ·exact z2 rfl
   ·rcases h2 with h2|h2<;>rw[h2]at z2<;>exact absurd z2 (by decide)
noncomputable def flo(first:Nat):Bool:=([43,45,36]:List Nat).contains first
theorem Ed.Qac(E:Ed lead first W N broken tail):Q5 (rle [] (QS lead W N broken tail))=some ⟨3,sgn lead first tail,W.count first+N.count 57-(if flo first=true then 1 else 0),broken.length⟩:=by
 have h1:=E.Qab (rle [] N++(rle [] (Qr broken)++rle [] tail))
 rw[←E.rows]at h1
 have h4:=(Xa tail E.tl).1
 have hs:=xX first E.f lead E.ld tail E.tl E.l1 E.ts
 have hm:¬ (flo first&&decide (W.count first<2))=true:=by
  intro z
  rw[Bool.and_eq_true]at z
  have:=E.fl (List.contains_iff_mem.mp z.1)
  have:=of_decide_eq_true z.2
  omega
 have h18:¬ (W.count first+N.count 57-(if flo first=true then 1 else 0)+broken.length>18):=by
  have a:=E.w.cn
  have b:N.count 57≤3:=by
   rcases E.n with rfl|⟨_,h⟩
   ·simp
   ·exact h.cn
  have c:broken.length≤3:=by
   rcases E.br with rfl|⟨k,b,hk,rfl,_⟩
   ·simp
   ·rw[List.length_replicate];omega
  omega
 unfold Q5
 rw[h1]
 dsimp only
 rw[E.whole]
 dsimp only
 rw[E.zt]
 dsimp only
 rw[h4]
 show(if(flo first&&decide (W.count first<2))=true then none else if([lead.take 1,[first],tail].filter (Jz.contains ·)).length>1 then none else if W.count first+N.count 57-(if flo first=true then 1 else 0)+broken.length>18 then none else some (⟨3,(([lead.take 1,[first],tail].filter (Jz.contains ·)).length==1),W.count first+N.count 57-(if flo first=true then 1 else 0),broken.length⟩:Facts))=_
 rw[if_neg hm,if_neg (by omega),if_neg h18,hs.2]
noncomputable def wj:List Nat:=[43,45,36,57,90,42,44,66,48,47,46,67,82,68]
theorem qg{x:Nat}(h:ins x=true):x∈wj:=by
 have:x∈([44,66,48,47]:List Nat):=List.contains_iff_mem.mp h
 revert this
 simp only[List.mem_cons,List.not_mem_nil,or_false,wj]
 omega
theorem Ed.sym(E:Ed lead first W N broken tail):∀x∈QS lead W N broken tail,x∈wj:=by
 intro x hx
 have hfa:first∈wj:=by have h:∀f∈([57,90,42,43,45,36]:List Nat),f∈wj:=(by decide);exact h first E.f
 unfold QS at hx
 rcases List.mem_append.mp hx with hx|hx
 ·have h:∀l∈([[],[43],[45],[36],[43,36],[45,36]]:List (List Nat)),∀x∈l,x∈wj:=by decide
  exact h lead E.ld x hx
 rcases List.mem_append.mp hx with hx|hx
 ·rcases E.w.all x hx with h|h
  ·rw[h];exact hfa
  ·exact qg h
 rcases List.mem_append.mp hx with hx|hx
 ·rcases E.n with rfl|⟨_,h2⟩
  ·cases hx
  ·rcases h2.all x hx with h|h
   ·rw[h];decide
   ·exact qg h
 rcases List.mem_append.mp hx with hx|hx
 ·unfold Qr at hx
  rcases E.br with rfl|⟨k,b,hk,rfl,hb⟩
  ·cases hx
  ·rw[if_neg (by simp)]at hx
   rcases List.mem_cons.mp hx with rfl|hx
   ·decide
   ·rw[List.eq_of_mem_replicate hx]
    rcases hb with h|⟨h,_⟩
    ·rw[h];decide
    ·rw[h];exact hfa
 ·have h:∀l∈([[],[43],[45],[67,82],[68,66]]:List (List Nat)),∀x∈l,x∈wj:=by decide
  exact h tail E.tl x hx
theorem x0:∀f∈zk,∀x∈f,x=57∨x=83∨x=86:=by decide
theorem Ed.ka(E:Ed lead first W N broken tail):QQ (rle [] (QS lead W N broken tail))=none:=by
 have key:∃x∈QS lead W N broken tail,x≠57:=by
  unfold QS
  by_cases z:∃x∈lead++(W++(N++(Qr broken++tail))),x≠57
  ·exact z
  ·exfalso
   have all:∀x∈lead++(W++(N++(Qr broken++tail))),x=57:=fun x hx=>Decidable.byContradiction fun q=>z ⟨x,hx,q⟩
   have hl:lead=[]:=by
    cases e:lead with
    |nil=>rfl
    |cons a r=>
     have h:∀l∈([[],[43],[45],[36],[43,36],[45,36]]:List (List Nat)),∀x∈l,x≠57:=by decide
     have:=all a (List.mem_append_left _ (by rw[e];exact List.mem_cons_self))
     exact absurd this (h lead E.ld a (by rw[e];exact List.mem_cons_self))
   have hW:∀x∈W,x=57:=fun x hx=>all x (List.mem_append_right _ (List.mem_append_left _ hx))
   have hf:first=57:=hW first (List.mem_of_mem_head? E.w.hd)
   have hD:∀x∈Qr broken++tail,x=57:=fun x hx=>all x (List.mem_append_right _ (List.mem_append_right _ (List.mem_append_right _ hx)))
   have hb:broken=[]:=by
    cases e:broken with
    |nil=>rfl
    |cons a r=>
     have:=hD 46 (List.mem_append_left _ (by unfold Qr;rw[if_neg (by rw[e];simp)];exact List.mem_cons_self))
     cases this
   have ht:tail=[]:=by
    cases e:tail with
    |nil=>rfl
    |cons a r=>
     have h:∀l∈([[],[43],[45],[67,82],[68,66]]:List (List Nat)),∀x∈l,x≠57:=by decide
     have:=hD a (List.mem_append_right _ (by rw[e];exact List.mem_cons_self))
     exact absurd this (h tail E.tl a (by rw[e];exact List.mem_cons_self))
   exact E.nn ⟨hf,hW,hl,hb,ht⟩
 obtain⟨x,hx,hne⟩:=key
 have ha:=E.sym x hx
 obtain⟨y,hy,e⟩:=vz _ [] (.inl hx)
 unfold QQ
 rw[if_neg]
 intro z
 have:=x0 _ (List.contains_iff_mem.mp z) x (by rw[←e];exact List.mem_map_of_mem hy)
 rcases this with h|h|h
 ·exact hne h
 ·rw[h]at ha;exact absurd ha (by decide)
 ·rw[h]at ha;exact absurd ha (by decide)
theorem Ed.vB(E:Ed lead first W N broken tail):Js (rle [] (QS lead W N broken tail))=none:=by
 unfold Js
 split
 ·rename_i c n heq
  have hm:c∈QS lead W N broken tail:=by
   have:=zm (x:=(c,n)) (QS lead W N broken tail) [] (by rw[heq];exact List.mem_singleton.mpr rfl)
   exact this.resolve_right (by simp)
  have ha:=E.sym c hm
  rw[if_pos]
  refine .inl ⟨fun z=>?_,fun z=>?_⟩
  ·rw[z]at ha;exact absurd ha (by decide)
  ·rw[z]at ha;exact absurd ha (by decide)
 ·rfl
theorem Ed.Qbn(E:Ed lead first W N broken tail):40∉QS lead W N broken tail:=fun z=>absurd (E.sym 40 z) (by decide)
theorem Ed.pic(E:Ed lead first W N broken tail):QR (QS lead W N broken tail)=some ⟨3,sgn lead first tail,W.count first+N.count 57-(if flo first=true then 1 else 0),broken.length⟩:=by
 unfold QR
 rw[Vf E.Qbn]
 unfold JI
 rw[E.ka,E.vB,E.Qac]
end
noncomputable def Xb(s:Bool)(a b:Nat):List Nat:=(if s then[83]else[])++List.replicate a 57++(if b=0 then[]else 86::List.replicate b 57)
theorem vC:∀(s:Bool)(a b:Nat),a<6→b<4→a+b≠0→QR (Xb s a b)=some ⟨2,s,a,b⟩∧40∉Xb s a b:=by
 intro s a b ha hb h
 have key:∀s:Bool,∀a<6,∀b<4,a+b≠0→QR (Xb s a b)=some ⟨2,s,a,b⟩∧40∉Xb s a b:=by decide
 exact key s a ha b hb h
end K04
set_option Elab.async false
set_option linter.all false
set_option maxRecDepth 100000
namespace K02
open PySem PySem.NumText Builtin Builtin.Str StrLaws
theorem Qad(lo:Option Int)(k n:Nat)(hk:1≤k):strSliceIndices lo (some (-(k:Int))) 1 n=strSliceIndices lo (some ((n-k:Nat):Int)) 1 n:=by
 unfold strSliceIndices
 have h1:(-(k:Int)<0):=by omega
 have h2:¬ (((n-k:Nat):Int)<0):=by omega
 have h3:max (0:Int) (min (-(k:Int)+n) n)=max (0:Int) (min ((n-k:Nat):Int) n):=by omega
 simp only[h1,h2,if_true,if_false,h3,show((1:Int)>0)=True from by simp]
theorem Qae(hi:Option Int)(k n:Nat)(hk:1≤k):strSliceIndices (some (-(k:Int))) hi 1 n=strSliceIndices (some ((n-k:Nat):Int)) hi 1 n:=by
 unfold strSliceIndices
 have h1:(-(k:Int)<0):=by omega
 have h2:¬ (((n-k:Nat):Int)<0):=by omega
 have h3:max (0:Int) (min (-(k:Int)+n) n)=max (0:Int) (min ((n-k:Nat):Int) n):=by omega
 simp only[h1,h2,if_true,if_false,h3,show((1:Int)>0)=True from by simp]
theorem YG(l:List Nat){k:Nat}(hk:1≤k):sliceText (tx l) none (some (-(k:Int)))=tx (l.take (l.length-k)):=by
 have e:sliceText (tx l) none (some (-(k:Int)))=sliceText (tx l) none (some ((l.length-k:Nat):Int)):=by
  unfold sliceText
  rw[Qad none k _ hk,Qj]
 rw[e,Kh l (by omega)]
theorem KF(l:List Nat){k:Nat}(hk:1≤k):sliceText (tx l) (some (-(k:Int))) none=tx (l.drop (l.length-k)):=by
 have e:sliceText (tx l) (some (-(k:Int))) none=sliceText (tx l) (some ((l.length-k:Nat):Int)) none:=by
  unfold sliceText
  rw[Qae none k _ hk,Qj]
 rw[e,Xo]
theorem Vi(l:List Nat):sliceText (tx l) none (some (-1))=tx l.dropLast:=by
 have:=YG l (k:=1) (Nat.le_refl _)
 rw[List.dropLast_eq_take]
 exact this
theorem Xp{l:List Nat}(h:l≠[]):∃d,l=l.dropLast++[d]∧l.getLast?=some d:=⟨l.getLast h,(List.dropLast_concat_getLast h).symm,List.getLast?_eq_some_getLast h⟩
noncomputable def pad(n k:Nat):List Nat:=List.replicate (k-(dec n).length) 48++dec n
theorem Wr(n k:Nat):AllDigits (pad n k):=j4 (j5 _) (Wn n)
theorem Uw(n k:Nat):digitsVal (pad n k)=n:=by unfold pad;rw[ZA,Ur,VB,Nat.zero_mul,Nat.zero_add]
theorem wl(n k:Nat):pad n k≠[]:=fun z=>by
 have h:=congrArg List.length z
 unfold pad at h
 have h2:=j0 n
 rw[List.length_append,List.length_nil]at h
 omega
theorem dec_lt{n k:Nat}(h:n<10^k)(hk:1≤k):(dec n).length≤k:=by
 rcases Nat.lt_or_ge k (dec n).length with q|q
 ·exfalso
  by_cases h0:n=0
  ·subst h0
   have:(dec 0).length=1:=by decide
   omega
  ·have h1:(Nat.toDigits 10 n).length≤k:=(Nat.length_toDigits_le_iff (by decide) hk).mpr h
   unfold dec at q
   rw[List.length_map]at q
   omega
 ·exact q
theorem Kl{n k:Nat}(h:n<10^k)(hk:1≤k):(pad n k).length=k:=by
 have:=dec_lt h hk
 unfold pad
 rw[List.length_append,List.length_replicate]
 omega
theorem YH(n:Nat){k:Nat}(hk:1≤k):Txt.zfill (tx (dec n)) (k:Int)=tx (pad n k):=by
 obtain⟨o,rfl⟩:∃o,k=o+1:=⟨k-1,by omega⟩
 have:=j7 n o
 push_cast
 rw[this]
 rfl
theorem wm:∀d:Nat,48≤d→d≤57→("pqrstuvwxy":Str).cps.toList[d-48]? =some (d+64):=by
 intro d h1 h2
 have key:∀k:Nat,k<10→("pqrstuvwxy":Str).cps.toList[k]? =some (k+112):=by decide+kernel
 have:=key (d-48) (by omega)
 rw[this]
 congr 1
 omega
theorem Qaf:("0123456789":Str)=tx [48,49,50,51,52,53,54,55,56,57]:=by decide+kernel
theorem vD{d:Nat}(h:AllDigits [d]):digitsVal [d]=d-48:=by simp[digitsVal]
theorem zu(cs:Str)(l:List Nat):decide (Txt.stripChars (tx l) cs=(Str.empty:Str))=decide (∀c∈l,cs.cps.contains c=true):=by
 unfold Txt.stripChars Txt.stripBy stripSame stripped stripLo stripHi
 simp only[if_true,Qj]
 generalize hp:(cs.cps.contains:Nat→Bool)=p
 by_cases h:∀c∈l,p c=true
 ·rw[decide_eq_true h,decide_eq_true]
  have e1:(tx l).cps.toList.takeWhile p=l:=takeWhile_all fun c hc=>h c hc
  rw[e1]
  have e2:(tx l).cps.toList.drop l.length=[]:=List.drop_eq_nil_of_le (Nat.le_refl _)
  rw[e2]
  show(if(l.length==0&&l.length==l.length)=true then tx l else strSub (tx l) l.length l.length)=Str.empty
  by_cases hz:(l.length==0&&l.length==l.length)=true
  ·rw[if_pos hz]
   have:l.length=0:=by
    simp only[Bool.and_eq_true,beq_iff_eq]at hz
    exact hz.1
   rw[List.length_eq_zero_iff.mp this]
   rfl
  ·rw[if_neg hz,VA (strSub _ _ _),strSub_toList,Nat.sub_self,List.take_zero]
   rfl
 ·rw[decide_eq_false h,decide_eq_false]
  have hlt:((tx l).cps.toList.takeWhile p).length<l.length:=by
   have hle:((tx l).cps.toList.takeWhile p).length≤l.length:=List.IsPrefix.length_le (List.takeWhile_prefix p)
   rcases Nat.lt_or_ge ((tx l).cps.toList.takeWhile p).length l.length with z|z
   ·exact z
   ·refine absurd (fun c hc=>?_) h
    have e:(tx l).cps.toList.takeWhile p=l:=List.IsPrefix.eq_of_length_le (List.takeWhile_prefix p) z
    rw[←e]at hc
    exact Yw hc
  generalize hlo:((tx l).cps.toList.takeWhile p).length=lo at hlt
  have hdrop:∃a r,l.drop lo=a::r∧p a=false:=by
   have hd:l.dropWhile p=l.drop lo:=by
    have:=List.takeWhile_append_dropWhile (p:=p) (l:=l)
    have e3:l.drop lo=((l.takeWhile p)++l.dropWhile p).drop lo:=by rw[this]
    rw[e3,List.drop_append_of_le_length (by rw[←hlo];exact Nat.le_refl _),List.drop_eq_nil_of_le (by rw[←hlo];exact Nat.le_refl _),List.nil_append]
   cases hx:l.drop lo with
   |nil=>
    have:=congrArg List.length hx
    rw[List.length_drop,List.length_nil]at this
    omega
   |cons a r=>
    refine⟨a,r,rfl,?_⟩
    rw[hx]at hd
    have:=List.head?_dropWhile_not (p:=p) (l:=l)
    rw[hd]at this
    simpa using this
  obtain⟨a,r,hx,hpa⟩:=hdrop
  have hx':(tx l).cps.toList.drop lo=a::r:=hx
  rw[hx']
  have hrl:r.length+1=l.length-lo:=by
   have:=congrArg List.length hx
   rw[List.length_drop,List.length_cons]at this
   omega
  have hk:((a::r).reverse.takeWhile p).length≤r.length:=by
   rw[List.reverse_cons]
   have hle:((r.reverse++[a]).takeWhile p).length≤r.length:=by
    by_cases hall:∀c∈r.reverse,p c=true
    ·rw[List.takeWhile_append_of_pos hall,List.takeWhile_cons,hpa]
     simp
    ·have:((r.reverse++[a]).takeWhile p).length<(r.reverse++[a]).length:=by
      have hle:((r.reverse++[a]).takeWhile p).length≤(r.reverse++[a]).length:=List.IsPrefix.length_le (List.takeWhile_prefix p)
      rcases Nat.lt_or_ge ((r.reverse++[a]).takeWhile p).length (r.reverse++[a]).length with z|z
      ·exact z
      ·have e:(r.reverse++[a]).takeWhile p=r.reverse++[a]:=List.IsPrefix.eq_of_length_le (List.takeWhile_prefix p) z
       have:p a=true:=Yw (l:=r.reverse++[a]) (by rw[e];simp)
       rw[hpa]at this
       cases this
     rw[List.length_append,List.length_reverse,List.length_singleton]at this
     omega
   exact hle
  split
  ·intro z
   have:=congrArg (fun z:Str=>z.cps.toList.length) z
   have e0:l.length=0:=this
   omega
  ·intro z
   have:=congrArg (fun z:Str=>z.cps.toList.length) z
   have e0:(strSub (tx l) lo (l.length-((a::r).reverse.takeWhile p).length)).cps.toList.length=0:=this
   rw[strSub_toList,List.length_take,Vz,hx,List.length_cons]at e0
   omega
theorem Km{l:List Nat}(hd:AllDigits l):decide (L2.V.str (Txt.stripChars (tx l) "0")=L2.V.str "")=decide (digitsVal l=0):=by
 have e:("":Str)=Str.empty:=by decide+kernel
 have h:=zu "0" l
 have e0:∀c,("0":Str).cps.contains c=true↔c=48:=fun c=>by
  have e1:("0":Str).cps= #[48]:=by decide+kernel
  rw[e1]
  simp
 have hv:(∀c∈l,("0":Str).cps.contains c=true)↔digitsVal l=0:=by
  constructor
  ·intro h
   have:l=List.replicate l.length 48:=List.eq_replicate_iff.mpr ⟨rfl,fun b hb=>(e0 b).mp (h b hb)⟩
   rw[this,Ur]
  ·intro h c hc
   rw[e0]
   obtain⟨a,b,rfl⟩:=List.append_of_mem hc
   have hb:=hd c hc
   rw[ZA]at h
   have h2:digitsVal (c::b)=0:=by omega
   have h3:digitsVal (c::b)=digitsVal [c]*10^b.length+digitsVal b:=ZA [c] b
   have h4:digitsVal [c]=c-48:=by simp[digitsVal]
   rw[h4]at h3
   have h5:0<10^b.length:=Nat.pow_pos (by decide)
   have h6:(c-48)*10^b.length=0:=by omega
   rcases Nat.mul_eq_zero.mp h6 with z|z
   ·omega
   ·omega
 by_cases hz:digitsVal l=0
 ·rw[decide_eq_true hz]
  rw[decide_eq_true (hv.mpr hz)]at h
  rw[decide_eq_true]
  rw[of_decide_eq_true h,e]
 ·rw[decide_eq_false hz]
  rw[decide_eq_false fun z=>hz (hv.mp z)]at h
  rw[decide_eq_false]
  intro q
  exact of_decide_eq_false h (by rw[L2.V.str.inj q,e])
theorem vE:∀(n:Nat)(a b:List Nat),a.length=n→b.length=n→AllDigits a→AllDigits b→digitsVal a=digitsVal b→a=b:=by
 intro n
 induction n with
 |zero=>
  intro a b ha hb _ _ _
  rw[List.length_eq_zero_iff.mp ha,List.length_eq_zero_iff.mp hb]
 |succ n ih=>
  intro a b ha hb da db hv
  obtain⟨x,hx,_⟩:=Xp (l:=a) (fun z=>by rw[z]at ha;cases ha)
  obtain⟨y,hy,_⟩:=Xp (l:=b) (fun z=>by rw[z]at hb;cases hb)
  have hx1:digitsVal [x]=x-48:=by simp[digitsVal]
  have hy1:digitsVal [y]=y-48:=by simp[digitsVal]
  have dx:=da x (by rw[hx];exact List.mem_append_right _ (List.mem_singleton.mpr rfl))
  have dy:=db y (by rw[hy];exact List.mem_append_right _ (List.mem_singleton.mpr rfl))
  have la:a.dropLast.length=n:=by rw[List.length_dropLast];omega
  have lb:b.dropLast.length=n:=by rw[List.length_dropLast];omega
  have pa:AllDigits a.dropLast:=fun c hc=>da c (List.dropLast_subset _ hc)
  have pb:AllDigits b.dropLast:=fun c hc=>db c (List.dropLast_subset _ hc)
  rw[hx,hy,ZA,ZA,hx1,hy1]at hv
  simp only[List.length_singleton,Nat.pow_one]at hv
  have h1:digitsVal a.dropLast=digitsVal b.dropLast:=by omega
  have h2:x=y:=by omega
  rw[hx,hy,ih _ _ la lb pa pb h1,h2]
theorem qh(n:Nat){k:Nat}(hk:1≤k):(List.replicate k 48++dec n).drop ((List.replicate k 48++dec n).length-k)=pad (n % 10^k) k:=by
 generalize hL:List.replicate k 48++dec n=L
 have dL:AllDigits L:=by rw[←hL];exact j4 (j5 _) (Wn n)
 have lL:k≤L.length:=by rw[←hL,List.length_append,List.length_replicate];omega
 have vL:digitsVal L=n:=by rw[←hL,ZA,Ur,VB,Nat.zero_mul,Nat.zero_add]
 have dd:AllDigits (L.drop (L.length-k)):=fun c hc=>dL c (List.mem_of_mem_drop hc)
 have ld:(L.drop (L.length-k)).length=k:=by rw[List.length_drop];omega
 have hm:n % 10^k<10^k:=Nat.mod_lt _ (Nat.pow_pos (by decide))
 refine vE k _ _ ld (Kl hm hk) dd (Wr _ _) ?_
 rw[Uw]
 have hv:=ZA (L.take (L.length-k)) (L.drop (L.length-k))
 rw[List.take_append_drop,vL,ld]at hv
 have hlt:=j6 dd
 rw[ld]at hlt
 rw[hv,Nat.mul_comm,Nat.mul_add_mod,Nat.mod_eq_of_lt hlt]
theorem kc(l:List Nat){d i:Nat}(h:l[i]? =some d)(hn:∀j,j<i→l[j]? ≠some d):∃r,Builtin.Str.occurrences (tx l) (tx [d]) 0 (tx l).length 1=i::r:=by
 rcases occ_head (tx l) (tx [d]) 1 (Nat.le_refl _)with⟨h1,h2⟩|⟨j,t,h1,h2,h3⟩
 ·exact absurd ((subAt_one (tx l) d i).mpr h) (h2 i)
 ·refine⟨t,?_⟩
  rw[h1]
  have hj:l[j]? =some d:=(subAt_one (tx l) d j).mp h2
  have e:j=i:=by
   rcases Nat.lt_trichotomy j i with z|z|z
   ·exact absurd hj (hn j z)
   ·exact z
   ·exact absurd ((subAt_one (tx l) d i).mpr h) (h3 i z)
  rw[e]
end K02
set_option Elab.async false
set_option linter.all false
set_option maxRecDepth 100000
namespace K04
open K02 PySem.NumText
noncomputable def un(rows:List Rw):List Nat:=rows.flatMap fun x=>List.replicate x.2 x.1
theorem YI(a b:List Rw):un (a++b)=un a++un b:=List.flatMap_append
theorem qi(c n:Nat):un [(c,n)]=List.replicate n c:=by simp[un]
theorem Qag(rows:List Rw)(c n:Nat):un (QI rows c n)=un rows++List.replicate n c:=by
 rcases Jg rows with rfl|⟨r,c',m,rfl⟩
 ·rw[Wq,qi];rfl
 ·by_cases h:c'=c
  ·subst h
   rw[JJ,YI,YI,qi,qi,List.append_assoc,List.replicate_append_replicate,Nat.add_comm]
  ·rw[Jm h,YI (r++[(c',m)]),qi]
theorem Qah(l:List Nat):∀rows,un (rle rows l)=un rows++l:=by
 induction l with
 |nil=>intro rows;show un rows=_;rw[List.append_nil]
 |cons c t ih=>
  intro rows
  show un (rle (QI rows c 1) t)=_
  rw[ih,Qag,List.append_assoc]
  rfl
theorem Ux(l:List Nat):un (rle [] l)=l:=by rw[Qah];rfl
noncomputable def Uy(c:Nat):Bool:= !([83,86]:List Nat).contains c
noncomputable def szR(rows:List Rw):Nat:=((rows.filter fun x=>Uy x.1).map (·.2)).sum
theorem Uz(a b:List Rw):szR (a++b)=szR a+szR b:=by simp[szR]
theorem VG(c n:Nat):szR [(c,n)]=if Uy c=true then n else 0:=by
 unfold szR
 rw[List.filter_cons]
 split<;>simp
theorem vF(rows:List Rw)(c n:Nat):szR (QI rows c n)=szR rows+if Uy c=true then n else 0:=by
 rcases Jg rows with rfl|⟨r,c',m,rfl⟩
 ·rw[Wq,VG];simp[szR]
 ·by_cases h:c'=c
  ·subst h
   rw[JJ,Uz,Uz,VG,VG]
   split<;>omega
  ·rw[Jm h,Uz (r++[(c',m)]),VG]
theorem vG(l:List Nat):∀rows,szR (rle rows l)=szR rows+(l.filter Uy).length:=by
 induction l with
 |nil=>intro rows;rfl
 |cons c t ih=>
  intro rows
  show szR (rle (QI rows c 1) t)=_
  rw[ih,vF,List.filter_cons]
  split<;>simp<;>omega
theorem ke(l:List Nat):szR (rle [] l)=(l.filter Uy).length:=by rw[vG];simp[szR]
theorem Qai:∀m:Nat,m<101→1≤m→(dec m).length+3≤4*m∧(dec m).head?≠some 48:=by decide+kernel
theorem Qbo{m:Nat}(h:m<101)(h1:1≤m):Num (dec m) m:=⟨fun z=>by have:=j0 m;rw[z]at this;exact absurd this (by decide),Wn m,(Qai m h h1).2,VB m⟩
noncomputable def Pos(n:Nat)(rows:List Rw):Prop:=∀x∈rows,1≤x.2∧x.2≤n∧x.1≠40
theorem vH{n:Nat}{rows:List Rw}{c:Nat}(hp:Pos n rows)(hc:c≠40):Pos (n+1) (QI rows c 1):=by
 rcases Jg rows with rfl|⟨r,c',m,rfl⟩
 ·rw[Wq]
  intro x hx
  rw[List.mem_singleton.mp hx]
  exact⟨Nat.le_refl _,by simp,hc⟩
 ·by_cases h:c'=c
  ·subst h
   rw[JJ]
   intro x hx
   rcases List.mem_append.mp hx with hx|hx
   ·obtain⟨h1,h2,h3⟩:=hp x (List.mem_append_left _ hx)
    exact⟨h1,by omega,h3⟩
   ·rw[List.mem_singleton.mp hx]
    obtain⟨h1,h2,h3⟩:=hp (c',m) (by simp)
    exact⟨by simp,by simp at h2 ⊢;omega,hc⟩
  ·rw[Jm h]
   intro x hx
   rcases List.mem_append.mp hx with hx|hx
   ·obtain⟨h1,h2,h3⟩:=hp x hx
    exact⟨h1,by omega,h3⟩
   ·rw[List.mem_singleton.mp hx]
    exact⟨Nat.le_refl _,by simp,hc⟩
theorem vI(l:List Nat):∀(n:Nat)(rows:List Rw),Pos n rows→40∉l→Pos (n+l.length) (rle rows l):=by
 induction l with
 |nil=>intro n rows h _;exact h
 |cons c t ih=>
  intro n rows h h40
  have:=ih (n+1) (QI rows c 1) (vH h fun z=>h40 (by rw[z];exact List.mem_cons_self)) fun z=>h40 (List.mem_cons_of_mem _ z)
  have e:n+(c::t).length=n+1+t.length:=by simp;omega
  rw[e]
  exact this
theorem kg{l:List Nat}(h:40∉l):Pos l.length (rle [] l):=by
 have:=vI l 0 [] (fun x hx=>absurd hx (by simp)) h
 rw[Nat.zero_add]at this
 exact this
end K04
set_option Elab.async false
set_option linter.all false
set_option maxRecDepth 100000
namespace K09
open K02 K04 PySem.NumText
noncomputable def bes(c:Nat):Option Nat:=if c=44 then some 44 else if c=66 then some 32 else if c=48 then some 48 else if c=47 then some 47 else if c=46 then some 46 else none
noncomputable def mkS(b:Bool)(c:Nat):Nat:=if c=36 then 36 else if c=43 then(if b then 45 else 43)else if c=45 then(if b then 45 else 32)else if b then c else 32
noncomputable def spr:List Nat→List Nat→List Nat
 |[],_=>[]
 |c::r,fs=>match bes c with
  |some d=>d::spr r fs
  |none=>fs.headD 48::spr r fs.tail
noncomputable def hid:List Nat→List Nat→Nat
 |[],_=>0
 |c::r,s=>if c=57∨(ins c=false∧s.headD 0≠48)then 0 else hid r s.tail+1
noncomputable def place(c:Nat):Bool:=(bes c).isNone
noncomputable def many(l:List Nat):Nat:=(l.filter place).length
noncomputable def YJ(body:List Nat)(u:Nat)(b:Bool):List Nat:=
 if flo (body.headD 0)=true then List.replicate (hid body (spr body (pad u (many body)))-1) 32++[mkS b (body.headD 0)]++(spr body (pad u (many body))).drop (hid body (spr body (pad u (many body))))
 else List.replicate (hid body (spr body (pad u (many body)))) (if body.headD 0=42 then 42 else 32)++(spr body (pad u (many body))).drop (hid body (spr body (pad u (many body))))
noncomputable def X4(l:List Nat):List Nat:=if 42∈l then l.map (fun c=>if c=46 then 46 else 42)else List.replicate l.length 32
noncomputable def edT(lead body tail:List Nat)(f:Int):List Nat:=
 if f=0∧57∉body∧flo (body.headD 0)=false then X4 (lead++body++tail)
 else lead.map (mkS (decide (f<0)))++YJ body f.natAbs (decide (f<0))++tail.map (mkS (decide (f<0)))
noncomputable def wn(c:Nat):Nat:=if c=66 then 32 else c
noncomputable def lr(fl:Bool):Bool→List Nat→List Nat→List Nat
 |_,[],_=>[]
 |a,c::r,fs=>if ins c=true then wn c::lr fl false r fs else if(fl&&a)=true then 32::lr fl false r fs else fs.headD 48::lr fl false r fs.tail
noncomputable def ls(fl:Bool):Bool→List Nat→List Nat→Option Nat
 |_,[],_=>none
 |a,c::r,fs=>if ins c=true then(ls fl false r fs).map (· +1)else if(fl&&a)=true then(ls fl false r fs).map (· +1)else if c=57∨fs.headD 48≠48 then some 0 else(ls fl false r fs.tail).map (· +1)
noncomputable def yi(c:Nat):Prop:=c∈([57,90,42,43,45,36]:List Nat)
theorem ZZ{c:Nat}(h:yi c):bes c=none∧ins c=false∧c≠46:=by
 have:∀c∈([57,90,42,43,45,36]:List Nat),bes c=none∧ins c=false∧c≠46:=by decide
 exact this c h
theorem Kn{c:Nat}(h:ins c=true):bes c=some (wn c)∧c≠57:=by
 have:∀c∈([44,66,48,47]:List Nat),bes c=some (wn c)∧c≠57:=by decide
 exact this c (List.contains_iff_mem.mp h)
noncomputable def Wh(l:List Nat):Prop:=∀c∈l,yi c∨ins c=true
theorem wo(fl:Bool):∀(l:List Nat)(a:Bool)(fs:List Nat),(lr fl a l fs).length=l.length:=by
 intro l
 induction l with
 |nil=>intro a fs;rfl
 |cons c r ih=>
  intro a fs
  unfold lr
  split
  ·rw[List.length_cons,List.length_cons,ih]
  ·split<;>rw[List.length_cons,List.length_cons,ih]
theorem X5(a b:List Nat):many (a++b)=many a+many b:=by simp[many]
theorem JA(c:Nat)(r:List Nat):many (c::r)=(if bes c=none then 1 else 0)+many r:=by
 unfold many place
 rw[List.filter_cons]
 cases bes c<;>simp<;>omega
theorem X6{c:Nat}{r fs:List Nat}(h:bes c=none):spr (c::r) fs=fs.headD 48::spr r fs.tail:=by rw[spr,h]
theorem KZ{c d:Nat}{r fs:List Nat}(h:bes c=some d):spr (c::r) fs=d::spr r fs:=by rw[spr,h]
theorem Ws{fl a:Bool}{c:Nat}{r fs:List Nat}(h:ins c=true):lr fl a (c::r) fs=wn c::lr fl false r fs:=by rw[lr,if_pos h]
theorem UA{fl a:Bool}{c:Nat}{r fs:List Nat}(h:ins c=false)(ha:(fl&&a)=false):lr fl a (c::r) fs=fs.headD 48::lr fl false r fs.tail:=by rw[lr,if_neg (by rw[h];decide),if_neg (by rw[ha];decide)]
theorem Qaj{fl a:Bool}{c:Nat}{r fs:List Nat}(h:ins c=false)(ha:(fl&&a)=true):lr fl a (c::r) fs=32::lr fl false r fs:=by rw[lr,if_neg (by rw[h];decide),if_pos ha]
theorem Vj{fl a:Bool}{c:Nat}{r fs:List Nat}(h:ins c=true):ls fl a (c::r) fs=(ls fl false r fs).map (· +1):=by rw[ls,if_pos h]
theorem UB{fl a:Bool}{c:Nat}{r fs:List Nat}(h:ins c=false)(ha:(fl&&a)=false):ls fl a (c::r) fs=if c=57∨fs.headD 48≠48 then some 0 else(ls fl false r fs.tail).map (· +1):=by rw[ls,if_neg (by rw[h];decide),if_neg (by rw[ha];decide)]
theorem vJ{fl a:Bool}{c:Nat}{r fs:List Nat}(h:ins c=false)(ha:(fl&&a)=true):ls fl a (c::r) fs=(ls fl false r fs).map (· +1):=by rw[ls,if_neg (by rw[h];decide),if_pos ha]
theorem wq(fl:Bool)(R:List Nat):∀(l fs:List Nat),Wh l→spr (l++R) fs=lr fl false l fs++spr R (fs.drop (many l)):=by
 intro l
 induction l with
 |nil=>intro fs _;rfl
 |cons c r ih=>
  intro fs h
  have hr:Wh r:=fun x hx=>h x (List.mem_cons_of_mem _ hx)
  rcases h c List.mem_cons_self with hp|hi
  ·obtain⟨h1,h2,h3⟩:=ZZ hp
   show spr (c::(r++R)) fs=_
   rw[JA,if_pos h1,X6 h1,UA h2 (by simp),ih _ hr,List.cons_append, ←List.drop_drop,List.drop_one]
  ·obtain⟨h1,_⟩:=Kn hi
   show spr (c::(r++R)) fs=_
   rw[JA,if_neg (by rw[h1];simp),Nat.zero_add]
   rw[KZ h1,Ws hi,ih _ hr]
   rfl
noncomputable def Dot(R:List Nat):Prop:=R=[]∨∃t,R=46::t
theorem wt(fl:Bool)(R:List Nat)(hR:Dot R):∀(l fs T:List Nat),Wh l→(R=[]∨∃t,T=46::t)→hid (l++R) (lr fl false l fs++T)=(ls fl false l fs).getD l.length:=by
 intro l
 induction l with
 |nil=>
  intro fs T _ hT
  rcases hR with rfl|⟨t,rfl⟩
  ·rfl
  ·rcases hT with hT|⟨t',rfl⟩
   ·cases hT
   ·show hid (46::t) (46::t')=0
    unfold hid
    rw[if_pos (.inr ⟨by decide,by simp⟩)]
 |cons c r ih=>
  intro fs T h hT
  have hr:Wh r:=fun x hx=>h x (List.mem_cons_of_mem _ hx)
  have gm:∀(o:Option Nat),(o.map (· +1)).getD (r.length+1)=o.getD r.length+1:=fun o=>by cases o<;>rfl
  rcases h c List.mem_cons_self with hp|hi
  ·obtain⟨h1,h2,h3⟩:=ZZ hp
   show hid (c::(r++R)) _=_
   rw[UA h2 (by simp),UB h2 (by simp),List.cons_append,hid]
   by_cases hs:c=57∨fs.headD 48≠48
   ·rw[if_pos hs,if_pos (by rcases hs with q|q;exact .inl q;exact .inr ⟨h2,q⟩)]
    rfl
   ·rw[if_neg hs,if_neg (by rintro(q|⟨_,q⟩);exact hs (.inl q);exact hs (.inr q)),List.length_cons,gm]
    show hid (r++R) (lr fl false r fs.tail++T)+1=_
    rw[ih _ _ hr hT]
  ·obtain⟨h1,h9⟩:=Kn hi
   show hid (c::(r++R)) _=_
   rw[Ws hi,Vj hi,List.cons_append,List.length_cons,gm,hid]
   rw[if_neg (by rintro(q|⟨q,_⟩);exact h9 q;rw[hi]at q;cases q)]
   show hid (r++R) (lr fl false r fs++T)+1=_
   rw[ih _ _ hr hT]
theorem Qak:∀(l gs:List Nat),(∀c∈l,bes c=none)→l.length≤gs.length→spr l gs=gs.take l.length:=by
 intro l
 induction l with
 |nil=>intro gs _ _;simp[spr]
 |cons c r ih=>
  intro gs h hl
  cases gs with
  |nil=>simp at hl
  |cons g gs=>
   rw[X6 (h c List.mem_cons_self)]
   show g::spr r gs=_
   rw[ih gs (fun x hx=>h x (List.mem_cons_of_mem _ hx)) (by simpa using hl)]
   rfl
theorem kh{u k:Nat}(h:u<10^k)(hk:1≤k):pad u (k+1)=48::pad u k:=by
 have:=dec_lt h hk
 unfold pad
 rw[show k+1-(dec u).length=(k-(dec u).length)+1 by omega,List.replicate_succ,List.cons_append]
end K09
set_option Elab.async false
set_option linter.all false
set_option maxRecDepth 100000
namespace K09
open K02 K04 PySem.NumText
theorem qj(a b:Bool)(l fs:List Nat):lr false a l fs=lr false b l fs:=by
 cases l with
 |nil=>rfl
 |cons c r=>
  cases h:ins c with
  |true=>rw[Ws h,Ws h]
  |false=>rw[UA h (by simp),UA h (by simp)]
theorem kj(a b:Bool)(l fs:List Nat):ls false a l fs=ls false b l fs:=by
 cases l with
 |nil=>rfl
 |cons c r=>
  cases h:ins c with
  |true=>rw[Vj h,Vj h]
  |false=>rw[UB h (by simp),UB h (by simp)]
theorem zw(fs:List Nat)(n:Nat):(fs.take (n+1)).tail=fs.tail.take n:=by cases fs<;>simp
theorem zx(fs:List Nat)(n d:Nat):(fs.take (n+1)).headD d=fs.headD d:=by cases fs<;>simp
theorem UC(fl:Bool):∀(l fs:List Nat)(n:Nat),Wh l→many l≤n→lr fl false l (fs.take n)=lr fl false l fs∧ls fl false l (fs.take n)=ls fl false l fs:=by
 intro l
 induction l with
 |nil=>intro fs n _ _;exact⟨rfl,rfl⟩
 |cons c r ih=>
  intro fs n h hn
  have hr:Wh r:=fun x hx=>h x (List.mem_cons_of_mem _ hx)
  rcases h c List.mem_cons_self with hp|hi
  ·obtain⟨h1,h2,h3⟩:=ZZ hp
   rw[JA,if_pos h1]at hn
   obtain⟨m,rfl⟩:∃m,n=m+1:=⟨n-1,by omega⟩
   obtain⟨i1,i2⟩:=ih fs.tail m hr (by omega)
   rw[UA h2 (by simp),UA h2 (by simp),UB h2 (by simp),UB h2 (by simp),zw,zx,i1,i2]
   exact⟨rfl,rfl⟩
  ·obtain⟨h1,_⟩:=Kn hi
   rw[JA,if_neg (by rw[h1];simp),Nat.zero_add]at hn
   obtain⟨i1,i2⟩:=ih fs n hr hn
   rw[Ws hi,Ws hi,Vj hi,Vj hi,i1,i2]
   exact⟨rfl,rfl⟩
theorem vK(fl:Bool):∀(l:List Nat)(a:Bool)(fs:List Nat),(ls fl a l fs).getD l.length≤l.length:=by
 have gm:∀(o:Option Nat)(n:Nat),(o.map (· +1)).getD (n+1)=o.getD n+1:=fun o n=>by cases o<;>rfl
 intro l
 induction l with
 |nil=>intro a fs;exact Nat.le_refl _
 |cons c r ih=>
  intro a fs
  rw[List.length_cons]
  unfold ls
  split
  ·rw[gm];exact Nat.succ_le_succ (ih _ _)
  ·split
   ·rw[gm];exact Nat.succ_le_succ (ih _ _)
   ·split
    ·exact Nat.zero_le _
    ·rw[gm];exact Nat.succ_le_succ (ih _ _)
theorem QbT:yi 57:=by unfold yi;decide
theorem qk{s m:Nat}{l:List Nat}(hs:yi s)(h:PlT s m l):many l=l.count s:=by
 have key:∀l:List Nat,(∀x∈l,x=s∨ins x=true)→many l=l.count s:=by
  intro l
  induction l with
  |nil=>intro _;rfl
  |cons a r ih=>
   intro ha
   have hr:=ih fun x hx=>ha x (List.mem_cons_of_mem _ hx)
   rw[JA,List.count_cons,hr]
   rcases ha a List.mem_cons_self with rfl|hi
   ·rw[if_pos (ZZ hs).1];simp;omega
   ·have hne:a≠s:=fun z=>by rw[z,(ZZ hs).2.1]at hi;cases hi
    rw[if_neg (by rw[(Kn hi).1];simp)]
    have:(a==s)=false:=by simpa using hne
    rw[this]
    simp
 exact key l h.all
section
variable {lead:List Nat}{first:Nat}{W N broken tail:List Nat}
theorem _root_.K04.Ed.wh(E:Ed lead first W N broken tail):Wh (W++N):=fun c hc=>by
 rcases List.mem_append.mp hc with h|h
 ·rcases E.w.all c h with rfl|h
  ·exact .inl E.f
  ·exact .inr h
 ·rcases E.n with hn|⟨_,hn⟩
  ·rw[hn]at h;cases h
  ·rcases hn.all c h with rfl|h
   ·exact .inl QbT
   ·exact .inr h
theorem _root_.K04.Ed.many(E:Ed lead first W N broken tail):many (W++N)=W.count first+N.count 57:=by
 rw[X5,qk E.f E.w]
 rcases E.n with hn|⟨_,hn⟩
 ·rw[hn];rfl
 ·rw[qk QbT hn]
theorem _root_.K04.Ed.brk(E:Ed lead first W N broken tail):∀c∈broken,bes c=none∧c≠46:=fun c hc=>by
 rcases E.br with h|⟨k,b,_,h,hb⟩
 ·rw[h]at hc;cases hc
 ·rw[h]at hc
  rw[List.eq_of_mem_replicate hc]
  rcases hb with rfl|⟨rfl,_⟩
  ·decide
  ·exact⟨(ZZ E.f).1,(ZZ E.f).2.2⟩
theorem kl{l:List Nat}(h:∀c∈l,bes c=none):many l=l.length:=by
 unfold K09.many place
 rw[List.filter_eq_self.mpr fun c hc=>by rw[h c hc];rfl]
theorem _root_.K04.Ed.Qal(E:Ed lead first W N broken tail):many (Qr broken)=broken.length:=by
 unfold Qr
 split
 ·rename_i h;rw[h];rfl
 ·rw[JA,if_neg (by decide),Nat.zero_add,kl fun c hc=>(E.brk c hc).1]
theorem _root_.K04.Ed.QbU(E:Ed lead first W N broken tail){gs:List Nat}(h:gs.length=broken.length):spr (Qr broken) gs=if broken=[]then[]else 46::gs:=by
 unfold Qr
 split
 ·rfl
 ·rw[KZ (show bes 46=some 46 by decide),Qak broken gs (fun c hc=>(E.brk c hc).1) (by omega),List.take_of_length_le (by omega)]
noncomputable def km(first:Nat)(whole fs:List Nat):List Nat:=lr (flo first) true whole fs
noncomputable def X7(first:Nat)(whole fs:List Nat):Nat:=(ls (flo first) true whole fs).getD whole.length
noncomputable def QaP(first:Nat)(whole fs:List Nat):List Nat:=if first≠57 then List.replicate (X7 first whole fs) (if first=42 then 42 else 32)++(km first whole fs).drop (X7 first whole fs)else km first whole fs
noncomputable def ji(first:Nat)(whole fs:List Nat)(b:Bool):List Nat:=if flo first=true then(QaP first whole fs).set (X7 first whole fs-1) (mkS b first)else QaP first whole fs
noncomputable def bef(first:Nat)(W N:List Nat):Nat:=W.count first+N.count 57-(if flo first=true then 1 else 0)
theorem Qam(n x:Nat)(l:List Nat):(List.replicate (n+1) 32++l).set n x=List.replicate n 32++[x]++l:=by
 rw[List.replicate_succ',List.append_assoc,List.set_append]
 simp
theorem _root_.K04.Ed.body(E:Ed lead first W N broken tail){Y:Nat}(b:Bool)(h1:1≤bef first W N)(hY:Y<10^(bef first W N+broken.length)):
  YJ (W++N++Qr broken) Y b=ji first (W++N) ((pad Y (bef first W N+broken.length)).take (bef first W N)) b++(if broken=[]then[]else 46::(pad Y (bef first W N+broken.length)).drop (bef first W N)):=by
 have hw:=E.wh
 have hmw:=E.many
 have hmd:=E.Qal
 obtain⟨r,hr⟩:∃r,W++N=first::r:=by
  have:=E.zr N
  cases hh:W++N with
  |nil=>rw[hh]at this;cases this
  |cons a r=>rw[hh]at this;exact⟨r,by rw[Option.some.inj this]⟩
 have hpl:=ZZ E.f
 have hfm:E.f=E.f:=rfl
 have hlen:(pad Y (bef first W N+broken.length)).length=bef first W N+broken.length:=Kl hY (by omega)
 have hdl:((pad Y (bef first W N+broken.length)).drop (bef first W N)).length=broken.length:=by rw[List.length_drop,hlen];omega
 have hhd:(W++N++Qr broken).headD 0=first:=by rw[hr];rfl
 have hdot:Dot (Qr broken):=by unfold Qr;split;exact .inl rfl;exact .inr ⟨_,rfl⟩
 have hT:Qr broken=[]∨∃t,(if broken=[]then([]:List Nat)else 46::(pad Y (bef first W N+broken.length)).drop (bef first W N))=46::t:=by
  by_cases hb:broken=[]
  ·exact .inl (by unfold Qr;rw[if_pos hb])
  ·exact .inr ⟨_,by rw[if_neg hb]⟩
 unfold YJ
 rw[hhd,X5,hmw,hmd]
 cases hfl:flo first with
 |false=>
  have hbe:bef first W N=W.count first+N.count 57:=by unfold bef;rw[hfl];rfl
  rw[←hbe]
  have hs:spr (W++N++Qr broken) (pad Y (bef first W N+broken.length))=km first (W++N) ((pad Y (bef first W N+broken.length)).take (bef first W N))++(if broken=[]then[]else 46::(pad Y (bef first W N+broken.length)).drop (bef first W N)):=by
   unfold km
   rw[wq false _ _ _ hw,hmw, ←hbe,E.QbU hdl,hfl,qj true false,(UC false _ _ _ hw (by omega)).1]
  have hh:hid (W++N++Qr broken) (spr (W++N++Qr broken) (pad Y (bef first W N+broken.length)))=X7 first (W++N) ((pad Y (bef first W N+broken.length)).take (bef first W N)):=by
   rw[hs]
   unfold km X7
   rw[hfl,qj true false,kj true false,wt false _ hdot _ _ _ hw hT]
  rw[hh,hs,if_neg (by decide)]
  unfold ji QaP
  rw[if_neg (show ¬ (flo first=true) by rw[hfl];decide)]
  have hle:X7 first (W++N) ((pad Y (bef first W N+broken.length)).take (bef first W N))≤(km first (W++N) ((pad Y (bef first W N+broken.length)).take (bef first W N))).length:=by
   unfold X7 km
   rw[wo]
   exact vK _ _ _ _
  rw[List.drop_append_of_le_length hle]
  by_cases h57:first=57
  ·have h0:X7 first (W++N) ((pad Y (bef first W N+broken.length)).take (bef first W N))=0:=by
    unfold X7
    rw[hr,hfl,UB hpl.2.1 (by simp),if_pos (.inl h57)]
    rfl
   rw[h0,if_neg (show ¬ (first≠57)from fun z=>z h57)]
   simp
  ·rw[if_pos h57,List.append_assoc]
 |true=>
  have h57:first≠57:=fun z=>by rw[z]at hfl;cases hfl
  have h42:first≠42:=fun z=>by rw[z]at hfl;cases hfl
  have hbe:bef first W N+1=W.count first+N.count 57:=by
   have hp:1≤W.count first:=List.count_pos_iff.mpr (List.mem_of_mem_head? E.w.hd)
   unfold bef
   rw[hfl,if_pos rfl]
   omega
  rw[←hbe,show bef first W N+1+broken.length=(bef first W N+broken.length)+1 by omega,kh hY (by omega)]
  have hwr:Wh r:=fun x hx=>hw x (by rw[hr];exact List.mem_cons_of_mem _ hx)
  have hmr:K09.many r=bef first W N:=by
   have:=hmw
   rw[hr,JA,if_pos hpl.1]at this
   omega
  generalize hfig:pad Y (bef first W N+broken.length)=figs at*
  have hs:spr (W++N++Qr broken) (48::figs)=48::(lr true false r figs++(if broken=[]then[]else 46::figs.drop (bef first W N))):=by
   rw[hr,List.cons_append,X6 hpl.1]
   show 48::spr (r++Qr broken) figs=_
   rw[wq true _ _ _ hwr,hmr,E.QbU hdl]
  have hst:X7 first (W++N) (figs.take (bef first W N))=(ls true false r figs).getD r.length+1:=by
   unfold X7
   rw[hr,hfl,vJ hpl.2.1 rfl,(UC true _ _ _ hwr (by omega)).2,List.length_cons]
   cases ls true false r figs<;>rfl
  have hh:hid (W++N++Qr broken) (spr (W++N++Qr broken) (48::figs))=(ls true false r figs).getD r.length+1:=by
   rw[hs,hr,List.cons_append,hid,if_neg (by rintro(q|⟨_,q⟩);exact h57 q;exact q rfl)]
   show hid (r++Qr broken) (lr true false r figs++_)+1=_
   rw[wt true _ hdot _ _ _ hwr hT]
  have hro:km first (W++N) (figs.take (bef first W N))=32::lr true false r figs:=by
   unfold km
   rw[hr,hfl,Qaj hpl.2.1 rfl,(UC true _ _ _ hwr (by omega)).1]
  rw[hh,hs,if_pos rfl]
  unfold ji QaP
  rw[if_pos hfl,if_pos h57,if_neg h42,hst,hro,Nat.add_sub_cancel]
  rw[show List.drop ((ls true false r figs).getD r.length+1) (32::lr true false r figs)=(lr true false r figs).drop ((ls true false r figs).getD r.length)from rfl,Qam]
  show _++List.drop ((ls true false r figs).getD r.length) (lr true false r figs++_)=_
  rw[List.drop_append_of_le_length (by rw[wo];exact vK _ _ _ _),List.append_assoc,List.append_assoc,List.append_assoc]
end
end K09
set_option Elab.async false
set_option linter.all false
set_option maxRecDepth 100000
namespace K09
open K02 K04 PySem.NumText
section
variable {lead:List Nat}{first:Nat}{W N broken tail:List Nat}
theorem kn:∀{l:List Nat},(∀c∈l,c≠46)→l.map (fun c=>if c=46 then 46 else 42)=List.replicate l.length 42:=by
 intro l
 induction l with
 |nil=>intro _;rfl
 |cons a r ih=>
  intro h
  rw[List.map_cons,ih fun c hc=>h c (List.mem_cons_of_mem _ hc),if_neg (h a List.mem_cons_self),List.length_cons,List.replicate_succ]
theorem vM:∀l∈([[],[43],[45],[36],[43,36],[45,36]]:List (List Nat)),∀c∈l,c≠46∧c≠42:=by decide
theorem vN:∀l∈([[],[43],[45],[67,82],[68,66]]:List (List Nat)),∀c∈l,c≠46∧c≠42:=by decide
theorem wu{c:Nat}(h:ins c=true):c≠46∧c≠42:=by
 have:∀c∈([44,66,48,47]:List Nat),c≠46∧c≠42:=by decide
 exact this c (List.contains_iff_mem.mp h)
noncomputable def Y7(lead:List Nat)(first:Nat)(W N broken tail:List Nat):List Nat:=
 if first=90 then List.replicate (QS lead W N broken tail).length 32
 else List.replicate (lead++(W++N)).length 42++(if broken=[]then List.replicate ((QS lead W N broken tail).length-(lead++(W++N)).length) 42 else 46::List.replicate ((QS lead W N broken tail).length-(lead++(W++N)).length-1) 42)
theorem _root_.K04.Ed.hidden(E:Ed lead first W N broken tail)(h57:57∉W++N++broken)(hfl:flo first=false):X4 (lead++(W++N++Qr broken)++tail)=Y7 lead first W N broken tail:=by
 have hf57:first≠57:=fun z=>h57 (by
  rw[←z]
  exact List.mem_append_left _ (List.mem_append_left _ (List.mem_of_mem_head? E.w.hd)))
 have hf:first=90∨first=42:=by
  have:∀c∈([57,90,42,43,45,36]:List Nat),flo c=false→c≠57→c=90∨c=42:=by decide
  exact this first E.f hfl hf57
 have hN:N=[]:=by
  rcases E.n with h|⟨_,h⟩
  ·exact h
  ·exact absurd (List.mem_append_left _ (List.mem_append_right _ (List.mem_of_mem_head? h.hd))) h57
 have hbr:∀c∈broken,c=first:=fun c hc=>by
  rcases E.br with h|⟨k,b,_,h,hb⟩
  ·rw[h]at hc;cases hc
  ·rw[h]at hc
   have hcb:=List.eq_of_mem_replicate hc
   rcases hb with rfl|⟨rfl,_⟩
   ·exact absurd (List.mem_append_right _ (by rw[h];exact List.mem_replicate.mpr ⟨by simp,rfl⟩)) h57
   ·exact hcb
 have hl:=vM lead E.ld
 have ht:=vN tail E.tl
 have hW:∀c∈W,c=first∨ins c=true:=E.w.all
 have hline:QS lead W N broken tail=lead++(W++N++Qr broken)++tail:=by unfold QS;simp[List.append_assoc]
 subst hN
 unfold X4 Y7
 rw[hline]
 rcases hf with rfl|rfl
 ·rw[if_pos rfl,if_neg]
  intro z
  rcases List.mem_append.mp z with z|z
  ·rcases List.mem_append.mp z with z|z
   ·exact(hl _ z).2 rfl
   ·rcases List.mem_append.mp z with z|z
    ·rw[List.append_nil]at z
     rcases hW _ z with q|q
     ·cases q
     ·exact(wu q).2 rfl
    ·unfold Qr at z
     split at z
     ·cases z
     ·rcases List.mem_cons.mp z with q|q
      ·cases q
      ·have:=hbr _ q;cases this
  ·exact(ht _ z).2 rfl
 ·have hin:42∈lead++(W++[]++Qr broken)++tail:=List.mem_append_left _ (List.mem_append_right _ (List.mem_append_left _ (List.mem_append_left _ (List.mem_of_mem_head? E.w.hd))))
  rw[if_pos hin,if_neg (by decide)]
  have h1:∀c∈lead++(W++[]),c≠46:=fun c hc=>by
   rcases List.mem_append.mp hc with q|q
   ·exact(hl _ q).1
   ·rw[List.append_nil]at q
    rcases hW _ q with q|q
    ·rw[q];decide
    ·exact(wu q).1
  have h2:∀c∈broken++tail,c≠46:=fun c hc=>by
   rcases List.mem_append.mp hc with q|q
   ·rw[hbr _ q];decide
   ·exact(ht _ q).1
  by_cases hb:broken=[]
  ·subst hb
   have e:lead++(W++[]++Qr [])++tail=(lead++(W++[]))++([]++tail):=by unfold Qr;simp
   rw[if_pos rfl,e,List.map_append,kn h1,kn h2]
   congr 2
   simp
   try omega
  ·have e:lead++(W++[]++Qr broken)++tail=(lead++(W++[]))++46::(broken++tail):=by unfold Qr;rw[if_neg hb];simp
   rw[if_neg hb,e,List.map_append,List.map_cons,kn h1,kn h2,if_pos rfl]
   congr 3
   simp
   try omega
theorem _root_.K04.Ed.law(E:Ed lead first W N broken tail){f:Int}(h1:1≤bef first W N)(hf:f.natAbs<10^(bef first W N+broken.length)):
  edT lead (W++N++Qr broken) tail f=if 57∉W++N++broken∧flo first=false∧f=0 then Y7 lead first W N broken tail
   else lead.map (mkS (decide (f<0)))++(ji first (W++N) ((pad f.natAbs (bef first W N+broken.length)).take (bef first W N)) (decide (f<0))++(if broken=[]then[]else 46::(pad f.natAbs (bef first W N+broken.length)).drop (bef first W N)))++tail.map (mkS (decide (f<0))):=by
 have hd:(57∉W++N++Qr broken)↔57∉W++N++broken:=by
  unfold Qr
  split
  ·rename_i h;rw[h]
  ·simp
 have hh:(W++N++Qr broken).headD 0=first:=by
  have:=E.zr (N++Qr broken)
  rw[List.append_assoc]
  cases hx:W++(N++Qr broken)with
  |nil=>rw[hx]at this;cases this
  |cons a r=>rw[hx]at this;exact Option.some.inj this
 unfold edT
 rw[hh]
 by_cases hc:57∉W++N++broken∧flo first=false∧f=0
 ·rw[if_pos hc,if_pos ⟨hc.2.2,hd.mpr hc.1,hc.2.1⟩,E.hidden hc.1 hc.2.1]
 ·rw[if_neg hc,if_neg (fun z=>hc ⟨hd.mp z.2.1,z.2.2,z.1⟩),E.body _ h1 hf]
end
end K09
set_option Elab.async false
set_option linter.all false
set_option maxRecDepth 100000
namespace Lw
open PySem PySem.Spec PyProof.Rows L2 K02 K04
noncomputable def top(i:Nat):Stmt:=PySem.Challenge.pw_boxmoves_k19_stored.main.body.getD i (.Pass ⟨0,0,0,0⟩)
noncomputable abbrev VH:Stmt:=top 19
theorem X8:FnScope ["many","power","turn"] ["many"] (Qf VH):=⟨rfl,rfl,rfl,by decide+kernel,rfl,by decide+kernel,by decide+kernel⟩
noncomputable abbrev Xc:Stmt:=top 20
theorem VI:FnScope ["text"] ["text"] (Qf Xc):=⟨rfl,rfl,rfl,by decide+kernel,rfl,by decide+kernel,by decide+kernel⟩
noncomputable abbrev XE:Stmt:=top 21
theorem J8:FnScope ["text","number","start","part"] ["text"] (Qf XE):=⟨rfl,rfl,rfl,by decide+kernel,rfl,by decide+kernel,by decide+kernel⟩
noncomputable abbrev Xd:Stmt:=top 22
theorem JX:FnScope ["number","above","parts","part"] ["number"] (Qf Xd):=⟨rfl,rfl,rfl,by decide+kernel,rfl,by decide+kernel,by decide+kernel⟩
noncomputable abbrev vO:Stmt:=top 24
theorem zy:FnScope ["amount","places","units","own"] ["amount","places"] (Qf vO):=⟨rfl,rfl,rfl,by decide+kernel,rfl,by decide+kernel,by decide+kernel⟩
noncomputable abbrev Wt:Stmt:=top 25
theorem Zn:FnScope ["amount","places","units","own","by","twice","nearest"] ["amount","places"] (Qf Wt):=⟨rfl,rfl,rfl,by decide+kernel,rfl,by decide+kernel,by decide+kernel⟩
noncomputable abbrev VJ:Stmt:=top 26
theorem Wu:FnScope ["amount","before","behind","units","kept"] ["amount","before","behind"] (Qf VJ):=⟨rfl,rfl,rfl,by decide+kernel,rfl,by decide+kernel,by decide+kernel⟩
noncomputable abbrev ZB:Stmt:=top 27
theorem Xe:FnScope ["number","by","quotient"] ["number","by"] (Qf ZB):=⟨rfl,rfl,rfl,by decide+kernel,rfl,by decide+kernel,by decide+kernel⟩
noncomputable abbrev X9:Stmt:=top 38
theorem Ko:FnScope ["picture","rows","facts"] ["picture"] (Qf X9):=⟨rfl,rfl,rfl,by decide+kernel,rfl,by decide+kernel,by decide+kernel⟩
noncomputable abbrev Ka:Stmt:=top 39
theorem Kp:FnScope ["picture","rows","facts"] ["picture"] (Qf Ka):=⟨rfl,rfl,rfl,by decide+kernel,rfl,by decide+kernel,by decide+kernel⟩
noncomputable abbrev Zv:Stmt:=top 40
theorem ZR:FnScope ["picture","rows","facts"] ["picture"] (Qf Zv):=⟨rfl,rfl,rfl,by decide+kernel,rfl,by decide+kernel,by decide+kernel⟩
noncomputable abbrev JY:Stmt:=top 41
theorem Ze:FnScope ["kind","picture","rows","facts"] ["kind","picture"] (Qf JY):=⟨rfl,rfl,rfl,by decide+kernel,rfl,by decide+kernel,by decide+kernel⟩
noncomputable abbrev ZS:Stmt:=top 42
theorem WV:FnScope ["rows"] ["rows"] (Qf ZS):=⟨rfl,rfl,rfl,by decide+kernel,rfl,by decide+kernel,by decide+kernel⟩
noncomputable abbrev Wv:Stmt:=top 43
theorem J0:FnScope ["thing","rows","at","symbol","many"] ["thing"] (Qf Wv):=⟨rfl,rfl,rfl,by decide+kernel,rfl,by decide+kernel,by decide+kernel⟩
noncomputable abbrev Kq:Stmt:=top 44
theorem XF:FnScope ["text","at","end","number"] ["text","at"] (Qf Kq):=⟨rfl,rfl,rfl,by decide+kernel,rfl,by decide+kernel,by decide+kernel⟩
noncomputable abbrev Kr:Stmt:=top 45
theorem ZT:FnScope ["rows","facts"] ["rows"] (Qf Kr):=⟨rfl,rfl,rfl,by decide+kernel,rfl,by decide+kernel,by decide+kernel⟩
noncomputable abbrev ZC:Stmt:=top 46
theorem QV:FnScope ["rows","symbol","many","signed","behind_point","figures"] ["rows"] (Qf ZC):=⟨rfl,rfl,rfl,by decide+kernel,rfl,by decide+kernel,by decide+kernel⟩
noncomputable abbrev ZU:Stmt:=top 47
theorem ZD:FnScope ["rows","symbol","many"] ["rows"] (Qf ZU):=⟨rfl,rfl,rfl,by decide+kernel,rfl,by decide+kernel,by decide+kernel⟩
noncomputable abbrev ZE:Stmt:=top 48
theorem QE:FnScope ["rows","lead","start","place","many","nines","behind","end","tail","floats","shown","before"] ["rows"] (Qf ZE):=⟨rfl,rfl,rfl,by decide+kernel,rfl,by decide+kernel,by decide+kernel⟩
noncomputable abbrev ZF:Stmt:=top 49
theorem QW:FnScope ["rows","lead","start","place","many","nines","behind","end"] ["rows"] (Qf ZF):=⟨rfl,rfl,rfl,by decide+kernel,rfl,by decide+kernel,by decide+kernel⟩
noncomputable abbrev Ww:Stmt:=top 50
theorem Zo:FnScope ["rows","lead","at","choice"] ["rows"] (Qf Ww):=⟨rfl,rfl,rfl,by decide+kernel,rfl,by decide+kernel,by decide+kernel⟩
noncomputable abbrev XG:Stmt:=top 51
theorem Za:FnScope ["rows","at","symbol","many","behind"] ["rows","at"] (Qf XG):=⟨rfl,rfl,rfl,by decide+kernel,rfl,by decide+kernel,by decide+kernel⟩
noncomputable abbrev Wx:Stmt:=top 52
theorem J1:FnScope ["rows","at","place","many","nines","behind"] ["rows","at"] (Qf Wx):=⟨rfl,rfl,rfl,by decide+kernel,rfl,by decide+kernel,by decide+kernel⟩
noncomputable abbrev Xf:Stmt:=top 53
theorem JE:FnScope ["rows","at","place","many","nines"] ["rows","at"] (Qf Xf):=⟨rfl,rfl,rfl,by decide+kernel,rfl,by decide+kernel,by decide+kernel⟩
noncomputable abbrev XH:Stmt:=top 54
theorem Zw:FnScope ["rows","at","place","many"] ["rows","at","place"] (Qf XH):=⟨rfl,rfl,rfl,by decide+kernel,rfl,by decide+kernel,by decide+kernel⟩
noncomputable abbrev ZV:Stmt:=top 55
theorem ZG:FnScope ["rows","at","place","symbol","many"] ["rows","at","place"] (Qf ZV):=⟨rfl,rfl,rfl,by decide+kernel,rfl,by decide+kernel,by decide+kernel⟩
noncomputable abbrev Wy:Stmt:=top 56
theorem Vk:FnScope ["rows","at","tail"] ["rows","at"] (Qf Wy):=⟨rfl,rfl,rfl,by decide+kernel,rfl,by decide+kernel,by decide+kernel⟩
noncomputable abbrev K1:Stmt:=top 61
theorem JK:FnScope ["picture","amount","rows","signed","before","behind","lead","body","tail","units","is_below"] ["picture","amount"] (Qf K1):=⟨rfl,rfl,rfl,by decide+kernel,rfl,by decide+kernel,by decide+kernel⟩
noncomputable abbrev ZH:Stmt:=top 62
theorem Wz:FnScope ["body"] ["body"] (Qf ZH):=⟨rfl,rfl,rfl,by decide+kernel,rfl,by decide+kernel,by decide+kernel⟩
noncomputable abbrev ZW:Stmt:=top 63
theorem WW:FnScope ["symbols"] ["symbols"] (Qf ZW):=⟨rfl,rfl,rfl,by decide+kernel,rfl,by decide+kernel,by decide+kernel⟩
noncomputable abbrev XI:Stmt:=top 64
theorem YK:FnScope ["symbols","is_below"] ["symbols","is_below"] (Qf XI):=⟨rfl,rfl,rfl,by decide+kernel,rfl,by decide+kernel,by decide+kernel⟩
noncomputable abbrev XJ:Stmt:=top 65
theorem Zx:FnScope ["body","units","is_below","signs","hidden","place"] ["body","units","is_below"] (Qf XJ):=⟨rfl,rfl,rfl,by decide+kernel,rfl,by decide+kernel,by decide+kernel⟩
noncomputable abbrev VL:Stmt:=top 66
theorem Zs:FnScope ["body","units","symbol","many","figures","signs","used"] ["body","units"] (Qf VL):=⟨rfl,rfl,rfl,by decide+kernel,rfl,by decide+kernel,by decide+kernel⟩
noncomputable abbrev XL:Stmt:=top 67
theorem Xg:FnScope ["body","signs","at","symbol"] ["body","signs"] (Qf XL):=⟨rfl,rfl,rfl,by decide+kernel,rfl,by decide+kernel,by decide+kernel⟩
noncomputable abbrev Zy:Stmt:=top 70
theorem Jn:FnScope ["picture","amount","rows","signed","before","behind","units","figures"] ["picture","amount"] (Qf Zy):=⟨rfl,rfl,rfl,by decide+kernel,rfl,by decide+kernel,by decide+kernel⟩
noncomputable abbrev K2:Stmt:=top 71
theorem ZM:FnScope ["picture","amount","nearest","rows","signed","before","behind","result"] ["picture","amount","nearest"] (Qf K2):=⟨rfl,rfl,rfl,by decide+kernel,rfl,by decide+kernel,by decide+kernel⟩
noncomputable abbrev VM:Stmt:=top 72
theorem ql:FnScope ["picture","kind"] ["picture"] (Qf VM):=⟨rfl,rfl,rfl,by decide+kernel,rfl,by decide+kernel,by decide+kernel⟩
noncomputable abbrev ko:Stmt:=top 73
theorem Qan:FnScope ["picture","amount"] ["picture","amount"] (Qf ko):=⟨rfl,rfl,rfl,by decide+kernel,rfl,by decide+kernel,by decide+kernel⟩
noncomputable abbrev XM:Stmt:=top 75
theorem Zb:FnScope ["_law_script","_law_town","_law_many","_law_at","_law_rest","_law_number"] ["_law_script","_law_town","_law_many"] (Qf XM):=⟨rfl,rfl,rfl,by decide+kernel,rfl,by decide+kernel,by decide+kernel⟩
noncomputable abbrev Xh:Stmt:=top 76
theorem VN:FnScope [] [] (Qf Xh):=⟨rfl,rfl,rfl,by decide+kernel,rfl,by decide+kernel,by decide+kernel⟩
noncomputable abbrev Xi:Stmt:=top 77
theorem Jo:FnScope ["_law_kept","_law_kinds","_law_found"] ["_law_kept"] (Qf Xi):=⟨rfl,rfl,rfl,by decide+kernel,rfl,by decide+kernel,by decide+kernel⟩
noncomputable abbrev Jh:Stmt:=top 78
theorem JF:FnScope ["_law_deed","_law_kept","_law_found","e"] ["_law_deed"] (Qf Jh):=⟨rfl,rfl,rfl,by decide+kernel,rfl,by decide+kernel,by decide+kernel⟩
noncomputable abbrev Zf:Stmt:=top 79
theorem JG:FnScope ["_law_script","_law_town","_law_figures","_law_far","_law_units","_law_places_here","_law_k"] ["_law_script","_law_town","_law_figures","_law_far"] (Qf Zf):=⟨rfl,rfl,rfl,by decide+kernel,rfl,by decide+kernel,by decide+kernel⟩
noncomputable abbrev ZX:Stmt:=top 80
theorem J4:FnScope ["_law_script","_law_town","_law_symbol","_law_most","_law_found","_law_k"] ["_law_script","_law_town","_law_symbol","_law_most"] (Qf ZX):=⟨rfl,rfl,rfl,by decide+kernel,rfl,by decide+kernel,by decide+kernel⟩
noncomputable abbrev Zg:Stmt:=top 81
theorem QA:FnScope ["_law_script","_law_town","_law_first","_law_whole","_law_broken","_law_signs","_law_lead","_law_tail"] ["_law_script","_law_town"] (Qf Zg):=⟨rfl,rfl,rfl,by decide+kernel,rfl,by decide+kernel,by decide+kernel⟩
noncomputable abbrev XN:Stmt:=top 82
theorem JR:FnScope ["_law_parts","_law_lead","_law_first","_law_whole","_law_broken","_law_tail"] ["_law_parts"] (Qf XN):=⟨rfl,rfl,rfl,by decide+kernel,rfl,by decide+kernel,by decide+kernel⟩
noncomputable abbrev QZ:Stmt:=top 83
theorem Qx:FnScope ["_law_parts","_law_amount_here","_law_lead","_law_first","_law_whole","_law_broken","_law_tail","_law_symbol","_law_places_here","_law_floats","_law_before","_law_behind","_law_units","_law_figures","_law_less","_law_mark","_law_size","_law_ahead","_law_stars","_law_row","_law_left","_law_stop","_law_at","_law_end"] ["_law_parts","_law_amount_here"] (Qf QZ):=⟨rfl,rfl,rfl,by decide+kernel,rfl,by decide+kernel,by decide+kernel⟩
noncomputable abbrev Zt:Stmt:=top 84
theorem Q8:FnScope ["_law_script","_law_town","_law_shows","_law_before","_law_behind","_law_line_here"] ["_law_script","_law_town"] (Qf Zt):=⟨rfl,rfl,rfl,by decide+kernel,rfl,by decide+kernel,by decide+kernel⟩
noncomputable abbrev ZI:Stmt:=top 85
theorem Zu:FnScope ["_law_shows","_law_before","_law_behind","_law_amount_here","_law_units","_law_figures"] ["_law_shows","_law_before","_law_behind","_law_amount_here"] (Qf ZI):=⟨rfl,rfl,rfl,by decide+kernel,rfl,by decide+kernel,by decide+kernel⟩
noncomputable abbrev KH:Stmt:=top 86
theorem Zz:FnScope ["_law_script","_law_town","_law_k","_law_line_here","_law_shows","_law_before","_law_behind","_law_one","_law_near","_law_fit","_law_due","_law_parts","_law_size"] ["_law_script"] (Qf KH):=⟨rfl,rfl,rfl,by decide+kernel,rfl,by decide+kernel,by decide+kernel⟩
section
variable {P:Program}{w:World}{K:PySem.W.Frag}{mg:Str→Option Value}{base:Heap}{f:Addr}{fd:FuncData}{tk:Nat→Tok}{c kr:Nat→Addr}
noncomputable def YL:Sp:=fun vs H Q _=>∃m:Int,vs=[.int m]∧ -(2^62)≤m∧m<2^62∧Q (.int (K01.ten m)) H
theorem zA(F:Fun K "ten_to" "ten_to" VH f fd)(O:Own mg):FnOk P w K mg base (CXE P w) 1 f fd ["many"] YL:=by
 refine okN F X8 (fun vs H Q E h=>?_) (fun cdv A outer s H vs Q E hr h=>?_)
 ·obtain⟨m,rfl,_⟩:=h
  rfl
 ·obtain⟨m,rfl,h1,h2,k⟩:=h
  refine⟨_,(Qb (Qm (i:=1) X8.nd rfl (Or.inl rfl) Qh)
   (Qb (Xr PassesOwn.never rfl (XT rfl O.range (Qa (pv 0) Qc)) (Qk (i:=2) X8.nd rfl (Or.inl rfl)) (Qg (Qm (i:=1) X8.nd rfl (Or.inl rfl) (Qn UZ (pv 1) Qh))))
   (Qg (Qs (pv 1))))),?_⟩
  refine⟨_,rfl,m,rfl,h1,h2,XU (n:=m.toNat) (fun i σ H2=>∃v,σ=[some (.int m),some (.int (10^i)),v]∧H2=H) ⟨none,rfl,rfl⟩ ?_ ?_⟩
  ·rintro i σ H2 hi ⟨v,rfl,rfl⟩
   refine⟨_,rfl,_,_,rfl,rfl,.inr ⟨by decide,by decide⟩,?_⟩
   exact⟨_,by rw[Int.pow_succ];rfl,rfl⟩
  ·rintro σ H2 ⟨v,rfl,rfl⟩
   exact⟨_,rfl,k⟩
theorem Xj{m:Int}(h:m≤40):(K01.ten m).natAbs<2^200:=by
 have h1:=K01.qa (a:=m) (b:=40) h (by decide)
 have h2:=K01.Jk m
 have h3:K01.ten 40<2^200:=by decide
 omega
theorem big{a:Int}(h:a.natAbs<2^200):a.natAbs<2^2000:=Nat.lt_of_lt_of_le h (by decide)
structure Txt(K:PySem.W.Frag)(mg:Str→Option Value)(tk:Nat→Tok)(c kr:Nat→Addr):Prop where
 m_BoxError:mg "BoxError"=some (.ref (c 0))
 m_NoPicture:mg "NoPicture"=some (.ref (c 1))
 m_NoRoom:mg "NoRoom"=some (.ref (c 2))
 m_NoQuotient:mg "NoQuotient"=some (.ref (c 3))
 m_NoText:mg "NoText"=some (.ref (c 4))
 m_NoFigures:mg "NoFigures"=some (.ref (c 5))
 m_NoLetters:mg "NoLetters"=some (.ref (c 6))
 m_NoMove:mg "NoMove"=some (.ref (c 7))
 m_NoPath:mg "NoPath"=some (.ref (c 8))
 m_NoAmount:mg "NoAmount"=some (.ref (c 9))
 m_NoGroup:mg "NoGroup"=some (.ref (c 10))
 m_BadSize:mg "BadSize"=some (.ref (c 11))
 m_NoBack:mg "NoBack"=some (.ref (c 12))
 m_BadRow:mg "BadRow"=some (.ref (c 13))
 m_Closed:mg "Closed"=some (.ref (c 14))
 m_FIGURES:mg "FIGURES"=some (.str "0123456789" (tk 0))
 m_PART:mg "PART"=some (.int 18 (tk 1))
 m_INSERTED:mg "INSERTED"=some (.str ",B0/" (tk 2))
 m_SIGNS:mg "SIGNS"=some (.str "+-" (tk 3))
 m_FLOATING:mg "FLOATING"=some (.str "+-$" (tk 4))
 m_PLACES:mg "PLACES"=some (.str "9Z*+-$" (tk 5))
 m_MOST_FIGURES:mg "MOST_FIGURES"=some (.int 18 (tk 6))
 m_MOST_SIGNS:mg "MOST_SIGNS"=some (.int 60 (tk 7))
 m_LAST_BELOW:mg "LAST_BELOW"=some (.str "pqrstuvwxy" (tk 8))
 m_BESIDE:mg "BESIDE"=some (.ref (kr 3))
 m_NOT_BELOW:mg "NOT_BELOW"=some (.ref (kr 4))
 m_BELOW:mg "BELOW"=some (.ref (kr 5))
 m_NUMBER_FORMS:mg "NUMBER_FORMS"=some (.ref (kr 0))
 m_SHOWN:mg "SHOWN"=some (.ref (kr 1))
 m_PLAIN_KINDS:mg "PLAIN_KINDS"=some (.ref (kr 2))
 q_FORMS:∀H,SqT K H (kr 0) [.str "9",.str "S9",.str "V9",.str "SV9",.str "9V9",.str "S9V9"]
 q_SHOWN:∀H,SqT K H (kr 1) [.str "+",.str "-",.str "CR",.str "DB"]
 e_NoPicture:Err K (c 1)
 e_NoRoom:Err K (c 2)
 t_str:PySem.W.kitOne K (.type "str") (.type "str")=some true
 t_int:PySem.W.kitOne K (.type "int") (.type "str")=some false
 t_non:PySem.W.kitOne K (.type "NoneType") (.type "str")=some false
 t_tup:PySem.W.kitOne K (.type "tuple") (.type "str")=some false
noncomputable def YM:List (Key × V):=[(Sum.inr "X",.str "text"),(Sum.inr "A",.str "letters")]
noncomputable def UD:Sp:=fun vs H Q _=>∃z:Str,vs=[.str z]∧z.length≤1000∧Q (.bl (decide (z.cps.toList≠[]∧NumText.AllDigits z.cps.toList))) H
theorem WA(z:Str):decide (V.str z=V.str "")=decide (z.cps.toList=[]):=by
 have e:("":Str)=tx []:=by decide+kernel
 rw[e]
 by_cases h:z.cps.toList=[]
 ·rw[decide_eq_true h,decide_eq_true]
  rw[VA z,h]
 ·rw[decide_eq_false h,decide_eq_false]
  intro q
  exact h (by rw[V.str.inj q])
theorem zB(z:Str):decide (V.str (Txt.stripChars z "0123456789")=V.str "")=decide (NumText.AllDigits z.cps.toList):=by
 rw[WA, ←j8 z.cps.toList]
 have e:tx z.cps.toList=z:=(VA z).symm
 rw[e]
 by_cases h:(Txt.stripChars z "0123456789").cps.toList=[]
 ·rw[decide_eq_true h,decide_eq_true]
  rw[VA (Txt.stripChars _ _),h]
  rfl
 ·rw[decide_eq_false h,decide_eq_false]
  intro q
  exact h (by rw[q];rfl)
theorem VO(F:Fun K "is_figures" "is_figures" Xc f fd)(T:Txt K mg tk c kr):FnOk P w K mg base (CXE P w) 1 f fd ["text"] UD:=by
 refine okN F VI (fun vs H Q E h=>?_) (fun cdv A outer s H vs Q E hr h=>?_)
 ·obtain⟨z,rfl,_⟩:=h
  rfl
 ·obtain⟨z,rfl,hl,k⟩:=h
  refine⟨_,(Qg (Qs (UY (Jy Zc (pv 0) Qd (Qp _)) (UX (Jy Jw (JS PySem.F.plainAttrs_str PySem.F.slot_str_strip PySem.F.type_str_strip X2 (pv 0) (Qa (QC (v:=V.str "0123456789") rfl T.m_FIGURES ⟨_,rfl⟩) Qc)) Qd (Qp _)))))),?_⟩
  refine⟨_,rfl,rfl,_,rfl,?_⟩
  refine ifB (fun h=>?_) (fun h=>?_)
  ·refine⟨_,rfl,rfl,z,"0123456789",rfl,rfl,Nat.le_trans hl (by decide),rfl,?_⟩
   rw[WA]at h
   refine Eq.mp (congrArg (fun b=>Q (.bl b) H) ?_) k
   rw[zB]
   have hne:z.cps.toList≠[]:=fun q=>by rw[decide_eq_true q]at h;cases h
   by_cases hd:NumText.AllDigits z.cps.toList
   ·rw[decide_eq_true hd,decide_eq_true ⟨hne,hd⟩]
   ·rw[decide_eq_false hd,decide_eq_false fun q=>hd q.2]
  ·rw[WA]at h
   have hne:z.cps.toList=[]:=by
    by_cases q:z.cps.toList=[]
    ·exact q
    ·rw[decide_eq_false q]at h;cases h
   refine Eq.mp (congrArg (fun b=>Q (.bl b) H) ?_) k
   exact decide_eq_false fun q=>q.1 hne
noncomputable def vP:Sp:=fun vs H Q _=>∃z:Str,vs=[.str z]∧NumText.AllDigits z.cps.toList∧1≤z.length∧z.length≤500∧Q (.int (NumText.digitsVal z.cps.toList:Nat)) H
theorem YN(F:Fun K "number_of" "number_of" XE f fd)(O:Own mg)(T:Txt K mg tk c kr)(D_ten_to:Def P w K mg base 1 "ten_to" ["many"] YL):FnOk P w K mg base (CXE P w) 2 f fd ["text"] vP:=by
 refine okN F J8 (fun vs H Q E h=>?_) (fun cdv A outer s H vs Q E hr h=>?_)
 ·obtain⟨z,rfl,_⟩:=h
  rfl
 ·obtain⟨z,rfl,hd,h1,h2,k⟩:=h
  have hll:=len_list z
  refine⟨_,(Qb (Qm (i:=1) J8.nd rfl (Or.inl rfl) Qh)
   (Qb (Xr PassesOwn.never rfl (jZ rfl O.range (Qa Qh (Qa (Qq Jb rfl O.len PySem.boot_len (Qa (pv 0) Qc)) (Qa (QC (v:=V.int 18) rfl T.m_PART ⟨_,rfl⟩) Qc)))) (Qk (i:=2) J8.nd rfl (Or.inl rfl)) (Qb (Qm (i:=3) J8.nd rfl (Or.inl rfl) (Q6 ZK (pv 0) (Q7 (pv 2)) (Q7 (Qn QT (pv 2) (QC (v:=V.int 18) rfl T.m_PART ⟨_,rfl⟩)))))
   (Qg (Qm (i:=1) J8.nd rfl (Or.inl rfl) (Qn QT (Qn Z8 (pv 1) (D_ten_to.pe hr (by decide) rfl Qw (Qa (Qq Jb rfl O.len PySem.boot_len (Qa (pv 3) Qc)) Qc))) (Ja Jj rfl O.int PyProof.Rows.boot_int (Qa (pv 3) Qc)))))))
   (Qg (Qs (pv 1))))),?_⟩
  have hn:Builtin.Range.rangeSize 0 (z.length:Int) 18=(((z.length-1)/18+1:Nat):Int):=by
   unfold Builtin.Range.rangeSize
   rw[if_pos (by decide),if_pos (by omega)]
   omega
  refine⟨_,rfl,z,rfl,Nat.le_trans h2 (by decide),0,(z.length:Int),18,_,rfl,⟨by decide,by decide,by omega,by omega,by decide,by decide⟩,hn,qS (fun i σ H2=>∃x2 x3,σ=[some (.str z),some (.int (NumText.digitsVal (z.cps.toList.take (18*i)):Nat)),x2,x3]∧H2=H) ⟨none,none,rfl,rfl⟩ ?_ ?_⟩
  ·rintro i σ H2 hi ⟨x2,x3,rfl,rfl⟩
   have hi18:18*i<z.length:=by omega
   have hs:StrLaws.sliceText z (some (0+(i:Int)*18)) (some (0+(i:Int)*18+18))=tx ((z.cps.toList.drop (18*i)).take 18):=by
    have e1:(0+(i:Int)*18)=((18*i:Nat):Int):=by omega
    have e2:(0+(i:Int)*18+18)=((18*i+18:Nat):Int):=by omega
    rw[e2,e1]
    have:=X3 z.cps.toList (a:=18*i) (b:=18*i+18) (by omega) (by omega)
    rw[←VA z,show 18*i+18-18*i=18 by omega]at this
    exact this
   refine⟨_,rfl,_,rfl,_,rfl,_,rfl,_,_,rfl,rfl,_,rfl,z,rfl,Nat.le_trans h2 (by decide),?_⟩
   rw[hs]
   have hpd:NumText.AllDigits ((z.cps.toList.drop (18*i)).take 18):=fun c hc=>hd c (List.mem_of_mem_drop (List.mem_of_mem_take hc))
   have hpl:((z.cps.toList.drop (18*i)).take 18).length≤18:=by rw[List.length_take];omega
   have hp1:1≤((z.cps.toList.drop (18*i)).take 18).length:=by rw[List.length_take,List.length_drop];omega
   have htk:z.cps.toList.take (18*(i+1))=z.cps.toList.take (18*i)++(z.cps.toList.drop (18*i)).take 18:=by rw[show 18*(i+1)=18*i+18 by omega,List.take_add]
   generalize (z.cps.toList.drop (18*i)).take 18=pl at hpd hpl hp1 htk
   have htl:=Qj pl
   have hv0:=j6 (l:=z.cps.toList.take (18*i)) fun c hc=>hd c (List.mem_of_mem_take hc)
   have hv1:NumText.digitsVal (z.cps.toList.take (18*i))<10^500:=Nat.lt_of_lt_of_le hv0 (Nat.pow_le_pow_right (by decide) (by rw[List.length_take];omega))
   refine⟨_,rfl,_,rfl,tx pl,rfl,by rw[htl];exact Nat.le_trans hpl (by decide),_,rfl,by omega,by omega,_,_,rfl,rfl,⟨Nat.lt_trans hv1 (by decide),big (Xj (by omega))⟩,?_⟩
   refine⟨_,rfl,tx pl,_,rfl,PySem.intText_digits hpd (fun q=>by rw[Vz]at q;rw[q]at hp1;exact absurd hp1 (by decide)) (by rw[htl];omega),by rw[htl];omega,_,_,rfl,rfl,?_⟩
   have et:K01.ten (((tx pl).length:Nat):Int)=((10^pl.length:Nat):Int):=by
    unfold K01.ten
    rw[Int.toNat_natCast,htl]
    push_cast
    rfl
   have key:((NumText.digitsVal (z.cps.toList.take (18*i)):Nat):Int)*K01.ten (((tx pl).length:Nat):Int)+((NumText.digitsVal (tx pl).cps.toList:Nat):Int)=((NumText.digitsVal (z.cps.toList.take (18*(i+1))):Nat):Int):=by
    rw[htk,ZA,et,Vz]
    push_cast
    rfl
   refine⟨some (.int (0+(i:Int)*18)),some (.str (tx pl)),?_,rfl⟩
   rw[←key]
   rfl
  ·rintro σ H2 ⟨x2,x3,rfl,rfl⟩
   refine⟨_,rfl,?_⟩
   rw[List.take_of_length_le (by omega)]
   exact k
end
end Lw
set_option Elab.async false
set_option linter.all false
set_option maxRecDepth 100000
namespace Lw
open PySem PySem.Spec PyProof.Rows L2 K02 K04
section
variable {P:Program}{w:World}{K:PySem.W.Frag}{mg:Str→Option Value}{base:Heap}{f:Addr}{fd:FuncData}{tk:Nat→Tok}{c kr:Nat→Addr}
noncomputable def UE:Sp:=fun vs H Q _=>∃(l:List Nat)(a:Nat),vs=[.str (tx l),.int (a:Nat)]∧l.length≤500∧a≤l.length∧∀b,a≤b→b≤l.length→(QU (l.drop a)).2=l.drop b→∀q,H q=none→Q (.ref q) (upd H q (.tup [.int ((QU (l.drop a)).1:Nat),.int (b:Nat)]))
theorem kq{t:List Nat}(h:t.take 1≠[40]):QU t=(1,t):=by
 unfold QU
 split
 ·exact absurd rfl h
 ·rfl
theorem zC{r:List Nat}(h:¬ (41∈r∧r.takeWhile (· !=41)≠[]∧NumText.AllDigits (r.takeWhile (· !=41))∧(r.takeWhile (· !=41)).head?≠some 48)):QU (40::r)=(1,40::r):=if_neg h
theorem qX{r:List Nat}(h:41∈r∧r.takeWhile (· !=41)≠[]∧NumText.AllDigits (r.takeWhile (· !=41))∧(r.takeWhile (· !=41)).head?≠some 48):QU (40::r)=(NumText.digitsVal (r.takeWhile (· !=41)),r.drop ((r.takeWhile (· !=41)).length+1)):=if_pos h
theorem YO(a:Nat):(a:Int)+1=((a+1:Nat):Int):=by omega
theorem UF(F:Fun K "times_at" "times_at" Kq f fd)(O:Own mg)(T:Txt K mg tk c kr)(D_is_figures:Def P w K mg base 1 "is_figures" ["text"] UD)(D_number_of:Def P w K mg base 2 "number_of" ["text"] vP):
  FnOk P w K mg base (CXE P w) 3 f fd ["text","at"] UE:=by
 refine okN F XF (fun vs H Q E h=>?_) (fun cdv A outer s H vs Q E hr h=>?_)
 ·obtain⟨l,a,rfl,_⟩:=h
  rfl
 ·obtain⟨l,a,rfl,hl,ha,k⟩:=h
  have hz:1000≤sizeLine:=by decide
  have htl:=Qj l
  have e40:("(":Str)=tx [40]:=by decide+kernel
  have e41:(")":Str)=tx [41]:=by decide+kernel
  have e48:("0":Str)=tx [48]:=by decide+kernel
  refine⟨_,(Qb (QL (Ql Zc (Q6 ZK (pv 0) (Q7 (pv 1)) (Q7 (Qn QT (pv 1) Qh))) Qd (Qp _)) (Qg (Qs (QK (Qa Qh (Qa (pv 1) Qc))))) Qy)
   (Qb (Qm (i:=2) XF.nd rfl (Or.inl rfl) (JS PySem.F.plainAttrs_str PySem.F.slot_str_find PySem.F.type_str_find xN (pv 0) (Qa Qd (Qa (pv 1) Qc))))
   (Qb (Qm (i:=3) XF.nd rfl (Or.inl rfl) (Q6 ZK (pv 0) (Q7 (Qn QT (pv 1) Qh)) (Q7 (Qq (jx rfl) rfl O.max PyProof.Rows.boot_max (Qa (pv 2) (Qa (pv 1) Qc))))))
   (Qb (QL (PW.pt (Z0 (W4 (W3 (D_is_figures.pe hr (by decide) rfl Qw (Qa (pv 3) Qc)))) (J6 (W3 (JS PySem.F.plainAttrs_str PySem.F.slot_str_startswith PySem.F.type_str_startswith Vx (pv 3) (Qa Qd Qc)))))) (Qg (Qs (QK (Qa Qh (Qa (pv 1) Qc))))) Qy)
   (Qg (Qs (QK (Qa (D_number_of.pe hr (by decide) rfl Qw (Qa (pv 3) Qc)) (Qa (Qn QT (pv 2) Qh) Qc))))))))),?_⟩
  refine⟨_,rfl,_,rfl,_,rfl,_,rfl,_,_,rfl,rfl,_,rfl,tx l,rfl,by omega,?_⟩
  rw[YO,X3 l (a:=a) (b:=a+1) ha (by omega),show a+1-a=1 by omega]
  refine⟨rfl,_,rfl,?_⟩
  have stop:QU (l.drop a)=(1,l.drop a)→∀q,H q=none→Q (.ref q) (upd H q (.tup [.int 1,.int (a:Nat)])):=fun e q hq=>by
   have:=k a (Nat.le_refl _) ha (by rw[e]) q hq
   rw[e]at this
   exact this
  rw[e40,Kj]
  refine ifB (fun h1=>?_) (fun h1=>?_)
  ·refine⟨_,rfl,by show 2≤sizeLine;omega,stop (kq fun e=>?_)⟩
   rw[e]at h1
   cases h1
  have h2:(l.drop a).take 1=[40]:=by
   by_cases e:(l.drop a).take 1=[40]
   ·exact e
   ·rw[decide_eq_false e]at h1;cases h1
  obtain⟨r,hr0⟩:∃r,l.drop a=40::r:=by
   cases e:l.drop a with
   |nil=>rw[e]at h2;cases h2
   |cons b r=>
    rw[e]at h2
    have:b=40:=(List.cons.inj h2).1
    exact⟨r,by rw[this]⟩
  have hrl:l.length=a+(r.length+1):=by
   have:=congrArg List.length hr0
   rw[List.length_drop,List.length_cons]at this
   omega
  have stopB:¬ (41∈r∧r.takeWhile (· !=41)≠[]∧NumText.AllDigits (r.takeWhile (· !=41))∧(r.takeWhile (· !=41)).head?≠some 48)→∀q,H q=none→Q (.ref q) (upd H q (.tup [.int 1,.int (a:Nat)])):=fun z=>stop (by rw[hr0];exact zC z)
  refine⟨_,rfl,rfl,_,rfl,tx l,")",(a:Int),rfl,rfl,?_⟩
  rw[e41]
  have hfind:=vy (c:=41) hr0 (by decide)
  generalize j9 (tx l) (tx [41]) (a:Int)=e at hfind
  refine⟨_,rfl,_,rfl,_,_,rfl,rfl,_,rfl,_,rfl,_,rfl,_,_,rfl,_,rfl,tx l,rfl,by omega,?_⟩
  rw[YO]
  rcases hfind with⟨hno,rfl⟩|⟨hin,rfl⟩
  ·have es:StrLaws.sliceText (tx l) (some ((a+1:Nat):Int)) (some (if(a:Int)> -1 then(a:Int)else-1))=tx []:=by
    rw[if_pos (by omega)]
    exact qW l (by omega) (by omega)
   rw[es]
   refine⟨_,rfl,tx [],rfl,by rw[Qj];decide,_,rfl,?_⟩
   refine ifB (fun _=>?_) (fun q=>?_)
   ·exact⟨_,rfl,by show 2≤sizeLine;omega,stopB fun q=>hno q.1⟩
   ·have:decide ((tx []).cps.toList≠[]∧NumText.AllDigits (tx []).cps.toList)=false:=decide_eq_false fun z=>z.1 rfl
    rw[this]at q
    cases q
  ·generalize hn:r.takeWhile (· !=41)=n
   have hnl:n.length≤r.length:=by rw[←hn];exact(List.takeWhile_sublist _).length_le
   have hnr:n.length<r.length:=by
    rcases Nat.lt_or_ge n.length r.length with h|h
    ·exact h
    ·have e:n=r:=by rw[←hn]at h ⊢;exact(List.takeWhile_sublist _).eq_of_length_le h
     rw[←e, ←hn]at hin
     have:=Yw hin
     simp at this
   have htk:r.take n.length=n:=by
    have:=List.takeWhile_append_dropWhile (p:=(· !=41)) (l:=r)
    rw[hn]at this
    rw[←this,List.take_left]
   have es:StrLaws.sliceText (tx l) (some ((a+1:Nat):Int)) (some (if(a:Int)>((a+1+n.length:Nat):Int)then(a:Int)else((a+1+n.length:Nat):Int)))=tx n:=by
    rw[if_neg (by omega),X3 l (by omega) (by omega),show a+1+n.length-(a+1)=n.length by omega]
    have:l.drop (a+1)=r:=by rw[←List.drop_drop,hr0];rfl
    rw[this,htk]
   rw[es]
   have hnt:=Qj n
   refine⟨_,rfl,tx n,rfl,by omega,_,rfl,?_⟩
   refine ifB (fun q=>?_) (fun q=>?_)
   ·refine⟨_,rfl,by show 2≤sizeLine;omega,stopB fun z=>?_⟩
    rw[hn]at z
    have:decide ((tx n).cps.toList≠[]∧NumText.AllDigits (tx n).cps.toList)=true:=decide_eq_true ⟨z.2.1,z.2.2.1⟩
    rw[this]at q
    cases q
   have hfg:n≠[]∧NumText.AllDigits n:=by
    by_cases z:n≠[]∧NumText.AllDigits n
    ·exact z
    ·have:decide ((tx n).cps.toList≠[]∧NumText.AllDigits (tx n).cps.toList)=false:=decide_eq_false z
     rw[this]at q
     cases q
   refine⟨_,rfl,rfl,tx n,"0",rfl,rfl,trivial,_,rfl,?_⟩
   rw[e48,xU]
   refine ifB (fun q2=>?_) (fun q2=>?_)
   ·refine⟨_,rfl,by show 2≤sizeLine;omega,stopB fun z=>?_⟩
    rw[hn]at z
    exact z.2.2.2 (by simpa using q2)
   have hgood:41∈r∧r.takeWhile (· !=41)≠[]∧NumText.AllDigits (r.takeWhile (· !=41))∧(r.takeWhile (· !=41)).head?≠some 48:=by
    rw[hn]
    exact⟨hin,hfg.1,hfg.2,by simpa using q2⟩
   have hn1:1≤n.length:=by cases n with|nil=>exact absurd rfl hfg.1|cons=>simp
   refine⟨_,rfl,tx n,rfl,hfg.2,by omega,by omega,_,rfl,_,_,rfl,rfl,by show 2≤sizeLine;omega,fun p hp=>?_⟩
   have et:=qX hgood
   rw[hn]at et
   have:=k (a+1+n.length+1) (by omega) (by omega) (by
    rw[hr0,et]
    show r.drop (n.length+1)=_
    have e1:l.drop (a+1)=r:=by rw[←List.drop_drop,hr0];rfl
    rw[←e1,List.drop_drop]
    congr 1) p hp
   rw[hr0,et]at this
   exact this
noncomputable def Qco(v:V)(H:Hp):Prop:=v=.non∨(∃i,v=.int i)∨∃a xs,v=.ref a∧H a=some (.tup xs)
noncomputable def qm(K:PySem.W.Frag):Sp:=fun vs H Q _=>∃(v:V)(rows:List Rw),vs=[v]∧((∃l,v=.str (tx l)∧l.length≤500∧rows=rowsOf l)∨(Qco v H∧rows=[]))∧∀p rs H',Qz H H'→RowsAt K H' p rs rows→Q (.ref p) H'
theorem ku(t:List Nat):(QU t).2.length≤t.length:=by
 unfold QU
 split
 ·split
  ·show(List.drop _ _).length≤_
   rw[List.length_drop,List.length_cons]
   omega
  ·exact Nat.le_refl _
 ·exact Nat.le_refl _
theorem Jv{c:TT}{t u:TS}{D:Ends}{σ:L2.St}{H:Hp}(Good:L2.St→Hp→Prop)(rest:∀σ' H',Good σ' H'→u D σ' H') (h:(∀σ' H',Good σ' H'→u D σ' H')→c σ H fun b H1=>if b=true then t {D with nx:=u D} σ H1 else u D σ H1):K6 (QbL c t WO) u D σ H:=h rest
theorem Rws.last{H:Hp}{rs:List Addr}{rows:List Rw}(h:Rws H rs rows):(rs=[]∧rows=[])∨∃rs' r rows' x,rs=rs'++[r]∧rows=rows'++[x]∧Rws H rs' rows'∧H r=some (wf x):=by
 induction h with
 |nil=>exact .inl ⟨rfl,rfl⟩
 |@cons r rs x xs a t ih=>
  rcases ih with⟨rfl,rfl⟩|⟨rs',r',rows',x',rfl,rfl,h1,h2⟩
  ·exact .inr ⟨[],r,[],x,rfl,rfl,.nil,a⟩
  ·exact .inr ⟨r::rs',r',x::rows',x',rfl,rfl,.cons a h1,h2⟩
theorem add_nil(c n:Nat):QI [] c n=[]++[(c,n)]:=rfl
theorem add_same(rows:List Rw)(c n m:Nat):QI (rows++[(c,m)]) c n=rows++[(c,n+m)]:=by
 unfold QI
 rw[List.getLast?_concat]
 simp
theorem zD{rows:List Rw}{c c' n m:Nat}(h:c'≠c):QI (rows++[(c',m)]) c n=(rows++[(c',m)])++[(c,n)]:=by
 unfold QI
 rw[List.getLast?_concat]
 simp[h]
theorem qY(F:Fun K "rows_of" "rows_of" Wv f fd)(O:Own mg)(T:Txt K mg tk c kr)(D_times_at:Def P w K mg base 3 "times_at" ["text","at"] UE):
  FnOk P w K mg base (CXE P w) 4 f fd ["thing"] (qm K):=by
 refine okN F J0 (fun vs H Q E h=>?_) (fun cdv A outer s H vs Q E hr h=>?_)
 ·obtain⟨v,rows,rfl,_⟩:=h
  rfl
 ·obtain⟨v,rows,rfl,hv,k⟩:=h
  have hz:1000≤sizeLine:=by decide
  refine⟨_,(Qb (QL (W4 (W3 (Qq Jd rfl O.isi PyProof.Rows.boot_isinstance (Qa (pv 0) (Qa (jn (v:=V.ty "str") rfl O.str PyProof.Rows.boot_str rfl) Qc))))) (Qg (Qs (JH Qc))) Qy)
   (Qb (Qm (i:=1) J0.nd rfl (Or.inl rfl) (JH Qc))
   (Qb (Qm (i:=2) J0.nd rfl (Or.inl rfl) Qh)
   (Qb (KM PassesOwn.never (Ql Xz (pv 2) (Qq Jb rfl O.len PySem.boot_len (Qa (pv 0) Qc)) (Qp _)) (Qb (Qm (i:=3) J0.nd rfl (Or.inl rfl) (QJ XW (pv 0) (pv 2) (fun _ _=>rfl)))
   (Qb (Jf (D_times_at.pe hr (by decide) rfl Qw (Qa (pv 0) (Qa (Qn QT (pv 2) Qh) Qc))) (Q1 rfl (Qi (Qk (i:=4) J0.nd rfl (Or.inl rfl)) (Qi (Qk (i:=2) J0.nd rfl (Or.inl rfl)) QG))))
   (Qb (QL (PW.pt (Jp (QY (pv 1) (fun _=>rfl)) (Je (Ql Jw (QJ Jq (QJ QN (pv 1) (WP Xt Qh) (fun _ _=>rfl)) Qh (fun _ _=>rfl)) (pv 3) (Qp _))))) (Qg (K7 (i:=4) J0.nd rfl (Or.inl rfl) (QJ Jq (yA PySem.F.plainAttrs_list PySem.F.slot_list_pop PySem.F.type_list_pop yB (pv 1)) Qh (fun _ _=>rfl)) W5)) Qy)
   (Qg (Z3 (JS PySem.F.plainAttrs_list PySem.F.slot_list_append PySem.F.type_list_append J7 (pv 1) (Qa (QK (Qa (pv 3) (Qa (pv 4) Qc))) Qc))))))))
   (Qg (Qs (pv 1))))))),?_⟩
  rcases hv with⟨l,rfl,hl,rfl⟩|⟨hv,rfl⟩
  ·have htl:=Qj l
   refine⟨_,rfl,.str (tx l),V.ty "str",true,rfl,rfl,.inl ⟨_,.str _,T.t_str⟩,true,rfl,?_⟩
   refine QX ⟨by show 0≤sizeLine;omega,fun p hp=>?_⟩
   have S1:=Qz.new (o:=.lst []) hp
   refine⟨fun m σ H2=>∃(a:Nat)(rs:List Addr)(rows:List Rw)(x3 x4:Option V)(kf:Nat),m=l.length-a∧a≤l.length∧σ=[some (.str (tx l)),some (.ref p),some (.int (a:Nat)),x3,x4]∧H2 p=some (.lst (rs.map V.ref))∧Rws H2 rs rows∧Qz H H2∧rows.length≤a∧(l.drop a).length≤kf∧rowsOf l=KE kf (l.drop a) rows,⟨l.length,0,[],[],none,none,l.length,rfl,Nat.zero_le _,rfl,Qe,.nil,S1,Nat.le_refl _,by simp,rfl⟩,?_⟩
   rintro m σ H2 ⟨a,rs,rows,x3,x4,kf,rfl,hal,rfl,hp2,R2,S2,hra,hkf,hro⟩
   refine⟨_,rfl,_,rfl,tx l,rfl,by omega,_,_,rfl,rfl,_,rfl,?_⟩
   refine ifB (fun h1=>?_) (fun h1=>?_)
   ·have ha:a<l.length:=by have:=of_decide_eq_true h1;omega
    obtain⟨ch,hch⟩:∃ch,l[a]? =some ch:=⟨_,List.getElem?_eq_getElem ha⟩
    have hdr:l.drop a=ch::l.drop (a+1):=by rw[List.drop_eq_getElem_cons ha];congr 1;rw[List.getElem?_eq_getElem ha]at hch;exact Option.some.inj hch
    refine⟨_,fun _ _ h=>h,_,rfl,_,rfl,tx l,(a:Int),ch,rfl,rfl,by omega,Zd hch,?_⟩
    refine⟨_,rfl,_,rfl,_,_,rfl,rfl,l,a+1,rfl,hl,by omega,fun b hb1 hb2 hb3 q hq=>⟨q,_,rfl,SqT.of Qe,rfl,_,_,rfl,_,_,rfl,rfl,?_⟩⟩
    have S3:=Qz.new (o:=.tup [.int ((QU (l.drop (a+1))).1:Nat),.int (b:Nat)]) hq
    generalize hH3:upd H2 q (.tup [.int ((QU (l.drop (a+1))).1:Nat),.int (b:Nat)])=H3 at S3
    have hp3:=S3 _ _ hp2
    have R3:=R2.keep fun b xs h=>S3 _ _ h
    have S13:=S2.trans S3
    clear hH3 hq S3 hp2 R2 S2
    cases kf with
    |zero=>rw[hdr]at hkf;exact absurd hkf (by simp)
    |succ kf=>
    rw[hdr]at hro hkf
    have hro2:rowsOf l=KE kf (QU (l.drop (a+1))).2 (QI rows ch (QU (l.drop (a+1))).1):=hro
    have hkf2:(QU (l.drop (a+1))).2.length≤kf:=by
     have:=ku (l.drop (a+1))
     rw[List.length_cons]at hkf
     omega
    rw[hb3]at hro2 hkf2
    generalize (QU (l.drop (a+1))).1=n at hro2
    dsimp only
    refine Jv (fun σ' H'=>∃(rs1:List Addr)(rows1:List Rw)(nn:Nat),σ'=[some (.str (tx l)),some (.ref p),some (.int (b:Nat)),some (.str (tx [ch])),some (.int (nn:Nat))]∧H' p=some (.lst (rs1.map V.ref))∧Rws H' rs1 rows1∧Qz H H'∧QI rows ch n=rows1++[(ch,nn)]∧rows1.length≤rows.length) ?_ (fun rest=>?_)
    ·rintro σ' H4 ⟨rs1,rows1,nn,rfl,hp4,R4,S4,had,hle⟩
     refine⟨_,rfl,.inl ⟨rfl,_,.inl (.inl hp4)⟩,_,rfl,_,rfl,by show 2≤sizeLine;omega,fun q2 hq2=>?_⟩
     have S5:=Qz.new (o:=.tup [.str (tx [ch]),.int (nn:Nat)]) hq2
     have g5:upd H4 q2 (.tup [.str (tx [ch]),.int (nn:Nat)]) q2=some (wf (ch,nn)):=Qe
     generalize upd H4 q2 (.tup [.str (tx [ch]),.int (nn:Nat)])=H5 at S5 g5
     have hp5:=S5 _ _ hp4
     have nq:q2≠p:=fun z=>by rw[z,hp4]at hq2;cases hq2
     have R5:=R4.keep fun b xs h=>S5 _ _ h
     have S15:=S4.trans S5
     refine⟨p,_,_,rfl,rfl,hp5,by rw[List.length_map,R4.len];omega,l.length-b,by omega,b,rs1++[q2],QI rows ch n,_,_,kf,rfl,hb2,rfl,?_,?_,?_,?_,hkf2,hro2⟩
     ·rw[Qe,List.map_append]
      rfl
     ·rw[had]
      refine Rws.app (R5.keep fun b xs h=>?_) ?_
      ·rw[Qt fun z=>by rw[z,hp5]at h;cases h];exact h
      ·rw[Qt nq];exact g5
     ·intro b o h
      rw[Qt (Qv h hp)]
      exact S15 _ _ h
     ·rw[had,List.length_append]
      simp
      omega
    ·rcases R3.last with⟨rfl,rfl⟩|⟨rs',r',rows',⟨c',m'⟩,rfl,rfl,R4,g4⟩
     ·refine⟨_,rfl,false,.inl ⟨_,SqL.of hp3,rfl⟩,?_⟩
      exact QX (QX (rest _ _ ⟨[],[],n,rfl,hp3,.nil,S13,add_nil ch n,Nat.le_refl _⟩))
     ·have hp4:H3 p=some (.lst (rs'.map V.ref++[V.ref r'])):=by rw[hp3,List.map_append];rfl
      have sq4:SqL K H3 p (rs'.map V.ref++[V.ref r']):=SqL.of hp4
      refine⟨_,rfl,true,.inl ⟨_,sq4,by cases rs'<;>rfl⟩,?_⟩
      refine Q4 ⟨_,rfl,_,rfl,p,_,_,_,rfl,rfl,sq4,KP _ _,r',_,_,_,rfl,rfl,SqT.of g4,rfl,_,rfl,rfl,_,rfl,?_⟩
      rw[show(⟨#[ch]⟩:Str)=tx [ch]from rfl,Q0]
      refine ifB (fun h2=>?_) (fun h2=>?_)
      ·have hc:c'=ch:=of_decide_eq_true h2
       subst hc
       refine⟨_,rfl,_,rfl,.inl ⟨rfl,_,sq4⟩,p,_,V.ref r',rfl,rfl,hp4,by rw[List.length_append];simp,r',[.str (tx [c']),.int (m':Nat)],1,.int (m':Nat),rfl,rfl,?_,rfl,_,_,rfl,rfl,?_⟩
       ·exact SqT.of (by rw[Qt fun z=>by rw[z,hp4]at g4;cases g4];exact g4)
       ·refine rest _ _ ⟨rs',rows',n+m',rfl,by rw[Qe,List.dropLast_concat],R4.keep fun b xs h=>?_,fun b o h=>?_,add_same rows' c' n m',by simp⟩
        ·rw[Qt fun z=>by rw[z,hp4]at h;cases h];exact h
        ·rw[Qt (Qv h hp)];exact S13 _ _ h
      ·have hc:c'≠ch:=of_decide_eq_false h2
       exact rest _ _ ⟨_,_,n,rfl,hp3,R3,S13,zD hc,Nat.le_refl _⟩
   ·have ha:a=l.length:=by have:=of_decide_eq_false h1;omega
    subst ha
    rw[List.drop_length]at hro
    have hr2:rowsOf l=rows:=by
     rw[hro]
     cases kf<;>rfl
    refine⟨_,rfl,k p rs H2 S2 ⟨SqL.of hp2,by rw[hr2];exact R2,by rw[hr2];omega⟩⟩
  ·have isi:∃x c b,[v,V.ty "str"]=[x,c]∧wT c=true∧((∃t,TyOf K H x t∧PySem.W.kitOne K t (wU c)=some b)∨∃a C,x=.ref a∧H a=some (jQ a (.ref C))∧ErrK K C∧PySem.W.kitOne K (.ref C) (wU c)=some b)∧b=false:=by
    rcases hv with rfl|⟨i,rfl⟩|⟨a,xs,rfl,e⟩
    ·exact⟨_,_,false,rfl,rfl,.inl ⟨_,.non,T.t_non⟩,rfl⟩
    ·exact⟨_,_,false,rfl,rfl,.inl ⟨_,.int _,T.t_int⟩,rfl⟩
    ·exact⟨_,_,false,rfl,rfl,.inl ⟨_,.tup e,T.t_tup⟩,rfl⟩
   obtain⟨x,cc,b,e1,e2,e3,rfl⟩:=isi
   refine⟨_,rfl,x,cc,false,e1,e2,e3,false,rfl,?_⟩
   refine Q4 ⟨by show 0≤sizeLine;omega,fun p hp=>?_⟩
   exact k p [] _ (Qz.new hp) ⟨SqL.of Qe,.nil,by simp⟩
end
end Lw
set_option Elab.async false
set_option linter.all false
set_option maxRecDepth 100000
namespace Lw
open PySem PySem.Spec PyProof.Rows L2 K02 K04
section
variable {P:Program}{w:World}{K:PySem.W.Frag}{mg:Str→Option Value}{base:Heap}{f:Addr}{fd:FuncData}{tk:Nat→Tok}{c kr:Nat→Addr}
theorem drop_cons{α:Type}{l:List α}{a:Nat}{x:α}(h:l[a]? =some x):l.drop a=x::l.drop (a+1):=by
 have ha:=(List.getElem?_eq_some_iff.mp h).1
 rw[List.drop_eq_getElem_cons ha]
 congr 1
 rw[List.getElem?_eq_getElem ha]at h
 exact Option.some.inj h
theorem WB{α:Type}{l:List α}{a:Nat}(h:a<l.length):∃x,l[a]? =some x:=⟨_,List.getElem?_eq_getElem h⟩
theorem Qao:(",B0/":Str)=tx [44,66,48,47]:=by decide+kernel
theorem vQ:("+-$":Str)=tx [43,45,36]:=by decide+kernel
theorem Qap:("+-":Str)=tx [43,45]:=by decide+kernel
theorem Qbp:("9Z*+-$":Str)=tx [57,90,42,43,45,36]:=by decide+kernel
theorem vR:("$":Str)=tx [36]:=by decide+kernel
theorem VP:("9":Str)=tx [57]:=by decide+kernel
theorem vS:(".":Str)=tx [46]:=by decide+kernel
theorem KI:("":Str)=tx []:=by decide+kernel
noncomputable def VQ(K:PySem.W.Frag):Sp:=fun vs H Q _=>∃(p:Addr)(rs:List Addr)(rows:List Rw)(a:Nat),vs=[.ref p,.int (a:Nat)]∧RowsAt K H p rs rows∧a<rows.length∧Q (.bl (Jl (rows.drop a))) H
theorem YQ(F:Fun K "floats_at" "floats_at" XG f fd)(O:Own mg)(T:Txt K mg tk c kr):FnOk P w K mg base (CXE P w) 1 f fd ["rows","at"] (VQ K):=by
 refine okN F Za (fun vs H Q E h=>?_) (fun cdv A outer s H vs Q E hr h=>?_)
 ·obtain⟨p,rs,rows,a,rfl,_⟩:=h
  rfl
 ·obtain⟨p,rs,rows,a,rfl,R,ha,k⟩:=h
  refine⟨_,(Qb (Jf (QJ QN (pv 0) (pv 1) (fun _ _=>rfl)) (Q1 rfl (Qi (Qk (i:=2) Za.nd rfl (Or.inl rfl)) (Qi (Qk (i:=3) Za.nd rfl (Or.inl rfl)) QG))))
   (Qb (QL (Ql Wa (pv 3) Qh (Qp _)) (Qg (Qs XR)) Qy)
   (Qb (Qm (i:=4) Za.nd rfl (Or.inl rfl) (Qn QT (pv 1) Qh))
   (Qb (KM PassesOwn.never (PW.pt (Jp (Ql Xz (pv 4) (Qq QF rfl O.len PySem.boot_len (Qa (pv 0) Qc)) (Qp _)) (Je (Ql Jx (QJ Jq (QJ QN (pv 0) (pv 4) (fun _ _=>rfl)) Qh (fun _ _=>rfl)) (QC (v:=V.str ",B0/") rfl T.m_INSERTED ⟨_,rfl⟩) (by with_unfolding_all rfl))))) (Qg (K7 (i:=4) Za.nd rfl (Or.inl rfl) Qh W5)))
   (Qg (Qs (UY (Jy Xz (pv 4) (Qq QF rfl O.len PySem.boot_len (Qa (pv 0) Qc)) (Qp _)) (UX (Jy Jw (QJ Jq (QJ QN (pv 0) (pv 4) (fun _ _=>rfl)) Qh (fun _ _=>rfl)) (pv 2) (Qp _)))))))))),?_⟩
  obtain⟨⟨y,n⟩,hx⟩:=WB ha
  rw[drop_cons hx]at k
  refine YE rfl (JW rfl) R hx fun r hr1=>⟨r,_,rfl,SqT.of hr1,rfl,_,_,rfl,_,_,rfl,rfl,?_⟩
  refine⟨_,rfl,_,_,rfl,rfl,_,rfl,?_⟩
  refine ifB (fun h1=>?_) (fun h1=>?_)
  ·have hn:n>1:=by have:=of_decide_eq_true h1;omega
   have e:Jl ((y,n)::rows.drop (a+1))=true:=by unfold Jl;simp[hn]
   rw[e]at k
   exact k
  have hn:¬ n>1:=by have:=of_decide_eq_false h1;omega
  have e:Jl ((y,n)::rows.drop (a+1))=(match(rows.drop (a+1)).dropWhile (fun x=>ins x.1)with|(c',_)::_=>c'==y|[]=>false):=by
   show(decide (n>1)||_)=_
   rw[decide_eq_false hn,Bool.false_or]
   all_goals rfl
  rw[e]at k
  clear e
  refine⟨_,rfl,_,_,rfl,rfl,?_⟩
  refine⟨fun m σ H2=>∃b:Nat,m=rows.length-b∧b≤rows.length∧σ=[some (.ref p),some (.int (a:Nat)),some (.str (tx [y])),some (.int (n:Nat)),some (.int (b:Nat))]∧H2=H∧(rows.drop (a+1)).dropWhile (fun x=>ins x.1)=(rows.drop b).dropWhile (fun x=>ins x.1),⟨_,a+1,rfl,by omega,rfl,rfl,rfl⟩,?_⟩
  rintro m σ H2 ⟨b,rfl,hb,rfl,rfl,hd⟩
  refine⟨_,rfl,Zm rfl R ⟨_,_,rfl,rfl,_,rfl,?_⟩⟩
  rcases Nat.lt_or_ge b rows.length with hlt|hge
  ·rw[decide_eq_true (by omega)]
   obtain⟨⟨y2,n2⟩,hx2⟩:=WB hlt
   refine Q4 (Z9 rfl (JW rfl) R hx2 ⟨_,_,rfl,rfl,_,rfl,?_⟩)
   rw[Qao,JQ]
   have hc:([44,66,48,47]:List Nat).contains y2=ins y2:=rfl
   rw[hc]
   rw[drop_cons hx2]at hd
   refine ifB (fun h2=>?_) (fun h2=>?_)
   ·refine⟨_,fun _ _ h=>h,?_⟩
    refine⟨_,rfl,_,_,rfl,rfl,_,?_,b+1,rfl,by omega,rfl,rfl,?_⟩
    ·omega
    ·rw[hd,List.dropWhile_cons,if_pos h2]
   ·rw[List.dropWhile_cons,if_neg (by rw[h2];decide)]at hd
    rw[hd]at k
    refine⟨_,rfl,Zm rfl R ⟨_,_,rfl,rfl,_,rfl,?_⟩⟩
    rw[decide_eq_true (by omega)]
    refine Q4 (Z9 rfl (JW rfl) R hx2 ⟨_,rfl,rfl,?_⟩)
    rw[Q0]
    have e3:decide (y2=y)=(y2==y):=by by_cases z:y2=y<;>simp[z]
    rw[e3]
    exact k
  ·rw[decide_eq_false (by omega)]
   refine QX (QX ?_)
   rw[List.drop_eq_nil_of_le hge]at hd
   rw[hd]at k
   refine⟨_,rfl,Zm rfl R ⟨_,_,rfl,rfl,_,rfl,?_⟩⟩
   rw[decide_eq_false (by omega)]
   exact QX k
noncomputable def VR(K:PySem.W.Frag):Sp:=fun vs H Q _=>∃(p:Addr)(rs:List Addr)(rows:List Rw)(a pc:Nat),vs=[.ref p,.int (a:Nat),.str (tx [pc])]∧RowsAt K H p rs rows∧a≤rows.length∧
 ∀b many:Nat,b≤rows.length→QH pc (rows.drop a) 0=(many,rows.drop b)→∀q,H q=none→Q (.ref q) (upd H q (.tup [.int (many:Nat),.int (b:Nat)]))
theorem YR(F:Fun K "places_of" "places_of" XH f fd)(O:Own mg)(T:Txt K mg tk c kr):FnOk P w K mg base (CXE P w) 1 f fd ["rows","at","place"] (VR K):=by
 refine okN F Zw (fun vs H Q E h=>?_) (fun cdv A outer s H vs Q E hr h=>?_)
 ·obtain⟨p,rs,rows,a,pc,rfl,_⟩:=h
  rfl
 ·obtain⟨p,rs,rows,a,pc,rfl,R,ha,k⟩:=h
  have hz:1000≤sizeLine:=by decide
  refine⟨_,(Qb (Qm (i:=3) Zw.nd rfl (Or.inl rfl) Qh)
   (Qb (KM PassesOwn.never (PW.pt (Jp (Ql Xz (pv 1) (Qq QF rfl O.len PySem.boot_len (Qa (pv 0) Qc)) (Qp _)) (Je (PW.pt (Z0 (Ql Jw (QJ Jq (QJ QN (pv 0) (pv 1) (fun _ _=>rfl)) Qh (fun _ _=>rfl)) (pv 2) (Qp _)) (J6 (Ql Jx (QJ Jq (QJ QN (pv 0) (pv 1) (fun _ _=>rfl)) Qh (fun _ _=>rfl)) (QC (v:=V.str ",B0/") rfl T.m_INSERTED ⟨_,rfl⟩) (by with_unfolding_all rfl)))))))) (Qb (QL (Ql Jw (QJ Jq (QJ QN (pv 0) (pv 1) (fun _ _=>rfl)) Qh (fun _ _=>rfl)) (pv 2) (Qp _)) (Qg (K7 (i:=3) Zw.nd rfl (Or.inl rfl) (QJ Jq (QJ QN (pv 0) (pv 1) (fun _ _=>rfl)) Qh (fun _ _=>rfl)) W5)) Qy)
   (Qg (K7 (i:=1) Zw.nd rfl (Or.inl rfl) Qh W5))))
   (Qg (Qs (QK (Qa (pv 3) (Qa (pv 1) Qc))))))),?_⟩
  refine⟨fun m σ H2=>∃b many:Nat,m=rows.length-b∧b≤rows.length∧σ=[some (.ref p),some (.int (b:Nat)),some (.str (tx [pc])),some (.int (many:Nat))]∧H2=H∧QH pc (rows.drop a) 0=QH pc (rows.drop b) many,⟨_,a,0,rfl,ha,rfl,rfl,rfl⟩,?_⟩
  rintro m σ H2 ⟨b,many,rfl,hb,rfl,rfl,hd⟩
  refine⟨_,rfl,Zm rfl R ⟨_,_,rfl,rfl,_,rfl,?_⟩⟩
  rcases Nat.lt_or_ge b rows.length with hlt|hge
  ·rw[decide_eq_true (by omega)]
   obtain⟨⟨y,n⟩,hx⟩:=WB hlt
   rw[drop_cons hx]at hd
   refine Q4 (Z9 rfl (JW rfl) R hx ⟨_,rfl,rfl,_,rfl,?_⟩)
   rw[Q0]
   by_cases h1:y=pc
   ·rw[decide_eq_true h1]
    refine Q4 (Q4 ⟨_,fun _ _ h=>h,Z9 rfl (JW rfl) R hx ⟨_,rfl,rfl,_,rfl,?_⟩⟩)
    rw[Q0,decide_eq_true h1]
    refine Q4 ⟨_,rfl,wg rfl (JW rfl) R hx ⟨_,_,rfl,rfl,?_⟩⟩
    refine⟨_,rfl,_,_,rfl,rfl,rows.length-(b+1),by omega,b+1,many+n,rfl,by omega,rfl,rfl,?_⟩
    rw[hd]
    show(if y=pc then QH pc (rows.drop (b+1)) (many+n)else _)=_
    rw[if_pos h1]
   ·rw[decide_eq_false h1]
    refine QX (Z9 rfl (JW rfl) R hx ⟨_,_,rfl,rfl,_,rfl,?_⟩)
    rw[Qao,JQ]
    have hc:([44,66,48,47]:List Nat).contains y=ins y:=rfl
    rw[hc]
    refine ifB (fun h2=>?_) (fun h2=>?_)
    ·refine⟨_,fun _ _ h=>h,Z9 rfl (JW rfl) R hx ⟨_,rfl,rfl,_,rfl,?_⟩⟩
     rw[Q0,decide_eq_false h1]
     refine QX ⟨_,rfl,_,_,rfl,rfl,rows.length-(b+1),by omega,b+1,many,rfl,by omega,rfl,rfl,?_⟩
     rw[hd]
     show(if y=pc then _ else if ins y then QH pc (rows.drop (b+1)) many else _)=_
     rw[if_neg h1,if_pos h2]
    ·have hd2:QH pc (rows.drop a) 0=(many,rows.drop b):=by
      rw[hd,drop_cons hx]
      show(if y=pc then _ else if ins y then _ else(many,(y,n)::rows.drop (b+1)))=_
      rw[if_neg h1,if_neg (by rw[h2];decide)]
     exact⟨_,rfl,_,rfl,by show 2≤sizeLine;omega,k b many (by omega) hd2⟩
  ·rw[decide_eq_false (by omega)]
   refine QX (QX ?_)
   have hb2:rows.drop b=[]:=List.drop_eq_nil_of_le hge
   have hd2:QH pc (rows.drop a) 0=(many,rows.drop b):=by rw[hd,hb2];rfl
   exact⟨_,rfl,_,rfl,by show 2≤sizeLine;omega,k b many (by omega) hd2⟩
noncomputable def UG(K:PySem.W.Frag):Sp:=fun vs H Q _=>∃(p:Addr)(rs:List Addr)(rows:List Rw)(a:Nat),vs=[.ref p,.int (a:Nat)]∧RowsAt K H p rs rows∧a≤rows.length∧
 ∀(pl:List Nat)(many JB b:Nat),b≤rows.length→QO (rows.drop a)=(pl,many,JB,rows.drop b)→∀q H',Qz H H'→H' q=some (.tup [.str (tx pl),.int (many:Nat),.int (JB:Nat),.int (b:Nat)])→Q (.ref q) H'
theorem VS(F:Fun K "whole_part" "whole_part" Xf f fd)(O:Own mg)(T:Txt K mg tk c kr)(D_places_of:Def P w K mg base 1 "places_of" ["rows","at","place"] (VR K)):FnOk P w K mg base (CXE P w) 2 f fd ["rows","at"] (UG K):=by
 refine okN F JE (fun vs H Q E h=>?_) (fun cdv A outer s H vs Q E hr h=>?_)
 ·obtain⟨p,rs,rows,a,rfl,_⟩:=h
  rfl
 ·obtain⟨p,rs,rows,a,rfl,R,ha,k⟩:=h
  have hz:1000≤sizeLine:=by decide
  refine⟨_,(Qb (QL (PW.pt (Z0 (Ql jw (pv 1) (Qq QF rfl O.len PySem.boot_len (Qa (pv 0) Qc)) (Qp _)) (J6 (Ql Q9 (QJ Jq (QJ QN (pv 0) (pv 1) (fun _ _=>rfl)) Qh (fun _ _=>rfl)) (QC (v:=V.str "9Z*+-$") rfl T.m_PLACES ⟨_,rfl⟩) (by with_unfolding_all rfl))))) (Qg (Qs (QK (Qa Qd (Qa Qh (Qa Qh (Qa (pv 1) Qc))))))) Qy)
   (Qb (Qm (i:=2) JE.nd rfl (Or.inl rfl) (QJ Jq (QJ QN (pv 0) (pv 1) (fun _ _=>rfl)) Qh (fun _ _=>rfl)))
   (Qb (Jf (D_places_of.pe hr (by decide) rfl Qw (Qa (pv 0) (Qa (pv 1) (Qa (pv 2) Qc)))) (Q1 rfl (Qi (Qk (i:=3) JE.nd rfl (Or.inl rfl)) (Qi (Qk (i:=1) JE.nd rfl (Or.inl rfl)) QG))))
   (Qb (Jf (D_places_of.pe hr (by decide) rfl Qw (Qa (pv 0) (Qa (pv 1) (Qa Qd Qc)))) (Q1 rfl (Qi (Qk (i:=4) JE.nd rfl (Or.inl rfl)) (Qi (Qk (i:=1) JE.nd rfl (Or.inl rfl)) QG))))
   (Qg (Qs (QK (Qa (pv 2) (Qa (pv 3) (Qa (pv 4) (Qa (pv 1) Qc))))))))))),?_⟩
  refine⟨_,rfl,Zm rfl R ⟨_,_,rfl,rfl,_,rfl,?_⟩⟩
  have none:QO (rows.drop a)=([],0,0,rows.drop a)→∀q,H q=none→Q (.ref q) (upd H q (.tup [.str "",.int 0,.int 0,.int (a:Nat)])):=fun e q hq=>
   k [] 0 0 a ha e q _ (Qz.new hq) (by rw[Qe,KI];rfl)
  rcases Nat.lt_or_ge a rows.length with hlt|hge
  ·rw[decide_eq_false (by omega)]
   obtain⟨⟨y,n⟩,hx⟩:=WB hlt
   refine QX (Z9 rfl (JW rfl) R hx ⟨_,_,rfl,rfl,_,rfl,?_⟩)
   rw[Qbp,JQ]
   refine ifB (fun h1=>?_) (fun h1=>?_)
   ·refine⟨_,rfl,by show 4≤sizeLine;omega,none ?_⟩
    rw[drop_cons hx]
    show(if([57,90,42,43,45,36]:List Nat).contains y then _ else _)=_
    rw[if_neg (by rw[Bool.not_eq_true']at h1;rw[h1];decide)]
   ·have h2:([57,90,42,43,45,36]:List Nat).contains y=true:=by
     cases e:([57,90,42,43,45,36]:List Nat).contains y with
     |true=>rfl
     |false=>rw[e]at h1;cases h1
    refine Z9 rfl (JW rfl) R hx ?_
    refine⟨_,rfl,_,rfl,_,rfl,p,rs,rows,a,y,rfl,R,ha,fun b many hb hp1 q hq=>⟨q,_,rfl,SqT.of Qe,rfl,_,_,rfl,_,_,rfl,rfl,?_⟩⟩
    have S1:=Qz.new (o:=.tup [.int (many:Nat),.int (b:Nat)]) hq
    generalize upd H q (.tup [.int (many:Nat),.int (b:Nat)])=H1 at S1
    refine⟨_,rfl,_,rfl,p,rs,rows,b,57,by rw[VP];rfl,R.same S1,hb,fun b2 JB hb2 hp2 q2 hq2=>⟨q2,_,rfl,SqT.of Qe,rfl,_,_,rfl,_,_,rfl,rfl,?_⟩⟩
    have S2:=Qz.new (o:=.tup [.int (JB:Nat),.int (b2:Nat)]) hq2
    generalize upd H1 q2 (.tup [.int (JB:Nat),.int (b2:Nat)])=H2 at S2
    refine⟨_,rfl,_,rfl,_,rfl,_,rfl,by show 4≤sizeLine;omega,fun q3 hq3=>?_⟩
    refine k [y] many JB b2 hb2 ?_ q3 _ ((S1.trans S2).trans (Qz.new hq3)) Qe
    rw[drop_cons hx]at hp1 ⊢
    show(if([57,90,42,43,45,36]:List Nat).contains y then _ else _)=_
    rw[if_pos h2,hp1]
    show([y],many,(QH 57 (rows.drop b) 0).1,(QH 57 (rows.drop b) 0).2)=_
    rw[hp2]
  ·rw[decide_eq_true (by omega)]
   refine Q4 (Q4 ⟨_,rfl,by show 4≤sizeLine;omega,none ?_⟩)
   rw[List.drop_eq_nil_of_le hge]
   rfl
noncomputable def oV:Option Nat→V
 |none=>.non
 |some n=>.int (n:Nat)
noncomputable def VT(K:PySem.W.Frag):Sp:=fun vs H Q _=>∃(p:Addr)(rs:List Addr)(rows:List Rw)(a:Nat)(pl:List Nat),vs=[.ref p,.int (a:Nat),.str (tx pl)]∧RowsAt K H p rs rows∧a≤rows.length∧
 ∀(o:Option Nat)(b:Nat),b≤rows.length→Q3 (rows.drop a) pl=(o,rows.drop b)→∀q,H q=none→Q (.ref q) (upd H q (.tup [oV o,.int (b:Nat)]))
theorem qZ{y n:Nat}{r:List Rw}{pl:List Nat}(h:y≠46):Q3 ((y,n)::r) pl=(some 0,(y,n)::r):=by
 unfold Q3
 split
 ·rename_i e
  exact absurd (Prod.mk.inj (List.cons.inj e).1).1 h
 ·rfl
theorem WX(F:Fun K "broken_part" "broken_part" ZV f fd)(O:Own mg)(T:Txt K mg tk c kr):FnOk P w K mg base (CXE P w) 1 f fd ["rows","at","place"] (VT K):=by
 refine okN F ZG (fun vs H Q E h=>?_) (fun cdv A outer s H vs Q E hr h=>?_)
 ·obtain⟨p,rs,rows,a,pl,rfl,_⟩:=h
  rfl
 ·obtain⟨p,rs,rows,a,pl,rfl,R,ha,k⟩:=h
  have hz:1000≤sizeLine:=by decide
  have h2s:2≤sizeLine:=by omega
  refine⟨_,(Qb (QL (PW.pt (Z0 (Ql jw (pv 1) (Qq QF rfl O.len PySem.boot_len (Qa (pv 0) Qc)) (Qp _)) (J6 (Ql Zc (QJ Jq (QJ QN (pv 0) (pv 1) (fun _ _=>rfl)) Qh (fun _ _=>rfl)) Qd (Qp _))))) (Qg (Qs (QK (Qa Qh (Qa (pv 1) Qc))))) Qy)
   (Qb (QL (PW.pt (Z0 (Ql Wa (QJ Jq (QJ QN (pv 0) (pv 1) (fun _ _=>rfl)) Qh (fun _ _=>rfl)) Qh (Qp _)) (J6 (Ql Jw (Qn QT (pv 1) Qh) (Qq QF rfl O.len PySem.boot_len (Qa (pv 0) Qc)) (Qp _))))) (Qg (Qs (QK (Qa J5 (Qa (pv 1) Qc))))) Qy)
   (Qb (Jf (QJ QN (pv 0) (Qn QT (pv 1) Qh) (fun _ _=>rfl)) (Q1 rfl (Qi (Qk (i:=3) ZG.nd rfl (Or.inl rfl)) (Qi (Qk (i:=4) ZG.nd rfl (Or.inl rfl)) QG))))
   (Qb (QL (PW.pt (Jp (Ql Zc (pv 3) Qd (Qp _)) (Je (PW.pt (Z0 (Ql Zc (pv 3) (pv 2) (Qp _)) (J6 (Ql Jx (pv 3) (QC (v:=V.str "+-$") rfl T.m_FLOATING ⟨_,rfl⟩) (by with_unfolding_all rfl)))))))) (Qg (Qs (QK (Qa J5 (Qa (pv 1) Qc))))) Qy)
   (Qg (Qs (QK (Qa (pv 4) (Qa (Qn QT (pv 1) Qh) Qc))))))))),?_⟩
  refine⟨_,rfl,Zm rfl R ⟨_,_,rfl,rfl,_,rfl,?_⟩⟩
  rcases Nat.lt_or_ge a rows.length with hlt|hge
  ·rw[decide_eq_false (by omega)]
   obtain⟨⟨y,n⟩,hx⟩:=WB hlt
   refine QX (Z9 rfl (JW rfl) R hx ⟨rfl,_,rfl,?_⟩)
   rw[vS,Q0]
   by_cases h1:y=46
   ·rw[decide_eq_true h1]
    subst h1
    refine QX (wg rfl (JW rfl) R hx ⟨_,_,rfl,rfl,_,rfl,?_⟩)
    by_cases h2:n>1
    ·rw[decide_eq_true (by omega)]
     refine Q4 (Q4 ⟨_,rfl,h2s,k none a ha ?_⟩)
     rw[drop_cons hx]
     show(if n>1∨_ then _ else _)=_
     rw[if_pos (.inl h2)]
    ·rw[decide_eq_false (by omega)]
     refine QX ⟨_,rfl,_,_,rfl,rfl,Zm rfl R ⟨rfl,_,rfl,?_⟩⟩
     rw[Zp]
     by_cases h3:a+1=rows.length
     ·rw[decide_eq_true (by omega)]
      refine Q4 ⟨_,rfl,h2s,k none a ha ?_⟩
      rw[drop_cons hx]
      show(if n>1∨_ then _ else _)=_
      rw[if_pos (.inr (List.drop_eq_nil_of_le (by omega)))]
     ·rw[decide_eq_false (by omega)]
      obtain⟨⟨y2,n2⟩,hx2⟩:=WB (show a+1<rows.length by omega)
      refine QX (YE (k:=a+1) rfl (fun Q q=>⟨_,rfl,_,_,rfl,rfl,q⟩) R hx2 fun r hr1=>⟨r,_,rfl,SqT.of hr1,rfl,_,_,rfl,_,_,rfl,rfl,?_⟩)
      have eb:Q3 (rows.drop a) pl=if y2≠57∧([y2]≠pl∨[43,45,36].contains y2=true)then(none,rows.drop a)else(some n2,rows.drop (a+2)):=by
       rw[drop_cons hx]
       show(if n>1∨rows.drop (a+1)=[]then _ else _)=_
       rw[if_neg (by rw[drop_cons hx2];simp;omega),drop_cons hx2]
      refine⟨_,rfl,rfl,_,rfl,?_⟩
      rw[VP,Q0]
      by_cases h4:y2=57
      ·rw[decide_eq_true h4]
       refine QX (QX ⟨_,rfl,_,rfl,_,_,rfl,rfl,h2s,k (some n2) (a+2) (by omega) ?_⟩)
       rw[eb,if_neg fun z=>z.1 h4]
      ·rw[decide_eq_false h4]
       refine Q4 ⟨_,rfl,_,rfl,rfl,_,rfl,?_⟩
       rw[Kj]
       by_cases h5:[y2]=pl
       ·rw[decide_eq_true h5]
        refine QX ⟨_,rfl,_,_,rfl,rfl,_,rfl,?_⟩
        rw[vQ,JQ]
        refine ifB (fun h6=>?_) (fun h6=>?_)
        ·refine⟨_,rfl,h2s,k none a ha ?_⟩
         rw[eb,if_pos ⟨h4,.inr h6⟩]
        ·refine⟨_,rfl,_,rfl,_,_,rfl,rfl,h2s,k (some n2) (a+2) (by omega) ?_⟩
         rw[eb,if_neg fun z=>z.2.elim (fun q=>q h5) (fun q=>by rw[h6]at q;cases q)]
       ·rw[decide_eq_false h5]
        refine Q4 (Q4 ⟨_,rfl,h2s,k none a ha ?_⟩)
        rw[eb,if_pos ⟨h4,.inl h5⟩]
   ·rw[decide_eq_false h1]
    refine Q4 ⟨_,rfl,h2s,k (some 0) a ha ?_⟩
    rw[drop_cons hx]
    exact qZ h1
  ·rw[decide_eq_true (by omega)]
   refine Q4 (Q4 ⟨_,rfl,h2s,k (some 0) a ha ?_⟩)
   rw[List.drop_eq_nil_of_le hge]
   rfl
noncomputable def qo(K:PySem.W.Frag):Sp:=fun vs H Q _=>∃(p:Addr)(rs:List Addr)(rows:List Rw),vs=[.ref p]∧RowsAt K H p rs rows∧
 ∀(ld:List Nat)(b:Nat),b≤rows.length→ld.length≤2→Zr rows=(ld,rows.drop b)→∀q H',Qz H H'→H' q=some (.tup [.str (tx ld),.int (b:Nat)])→Q (.ref q) H'
theorem q0(F:Fun K "lead_of" "lead_of" Ww f fd)(O:Own mg)(T:Txt K mg tk c kr)(D_floats_at:Def P w K mg base 1 "floats_at" ["rows","at"] (VQ K)):FnOk P w K mg base (CXE P w) 2 f fd ["rows"] (qo K):=by
 refine okN F Zo (fun vs H Q E h=>?_) (fun cdv A outer s H vs Q E hr h=>?_)
 ·obtain⟨p,rs,rows,rfl,_⟩:=h
  rfl
 ·obtain⟨p,rs,rows,rfl,R,k⟩:=h
  have hz:1000≤sizeLine:=by decide
  have h2s:2≤sizeLine:=by omega
  refine⟨_,(Qb (Qm (i:=1) Zo.nd rfl (Or.inl rfl) Qd)
   (Qb (Qm (i:=2) Zo.nd rfl (Or.inl rfl) Qh)
   (Qb (Xr PassesOwn.never rfl (kY (QK (Qa (QC (v:=V.str "+-") rfl T.m_SIGNS ⟨_,rfl⟩) (Qa Qd Qc)))) (Qk (i:=3) Zo.nd rfl (Or.inl rfl)) (Qg (QL (PW.pt (Jp (Ql Xz (pv 2) (Qq QF rfl O.len PySem.boot_len (Qa (pv 0) Qc)) (Qp _)) (Jp (Ql Jx (QJ Jq (QJ QN (pv 0) (pv 2) (fun _ _=>rfl)) Qh (fun _ _=>rfl)) (pv 3) (by with_unfolding_all rfl)) (Je (W4 (W3 (D_floats_at.pe hr (by decide) rfl Qw (Qa (pv 0) (Qa (pv 2) Qc))))))))) (Qb (K7 (i:=1) Zo.nd rfl (Or.inl rfl) (QJ Jq (QJ QN (pv 0) (pv 2) (fun _ _=>rfl)) Qh (fun _ _=>rfl)) w8)
   (Qg (K7 (i:=2) Zo.nd rfl (Or.inl rfl) Qh W5))) Qy)))
   (Qg (Qs (QK (Qa (pv 1) (Qa (pv 2) Qc)))))))),?_⟩
  refine⟨h2s,fun t ht=>⟨t,rfl,⟨_,SqT.of Qe⟩,?_⟩⟩
  have S1:=Qz.new (o:=.tup [.str "+-",.str "$"]) ht
  have g1:upd H t (.tup [.str "+-",.str "$"]) t=some (.tup [.str (tx [43,45]),.str (tx [36])]):=by rw[Qe,Qap,vR]
  generalize upd H t (.tup [.str "+-",.str "$"])=H1 at S1 g1
  have R1:=R.same S1
  refine wJ (xs:=[.str (tx [43,45]),.str (tx [36])]) (fun i σ H2=>∃(ld:List Nat)(b:Nat)(x:Option V),σ=[some (.ref p),some (.str (tx ld)),some (.int (b:Nat)),x]∧H2=H1∧b≤rows.length∧ld.length≤i∧Zr rows=JZ (([[43,45],[36]]:List (List Nat)).drop i) (rows.drop b) ld) ⟨[],0,none,by rw[←KI];rfl,rfl,Nat.zero_le _,Nat.le_refl _,rfl⟩ (fun i σ H2 hi hP=>?_) ?_ ?_
  ·obtain⟨_,_,_,_,rfl,_⟩:=hP
   exact SqT.of g1
  ·rintro i x σ H2 hi ⟨ld,b,x3,rfl,rfl,hb,hll,hlo⟩
   have hi2:i<2:=(List.getElem?_eq_some_iff.mp hi).1
   obtain⟨ch,hch,hxc⟩:∃ch,([[43,45],[36]]:List (List Nat))[i]? =some ch∧x=.str (tx ch):=by
    match i,hi,hi2 with
    |0,hi,_=>exact⟨_,rfl,(Option.some.inj hi).symm⟩
    |1,hi,_=>exact⟨_,rfl,(Option.some.inj hi).symm⟩
   subst hxc
   rw[drop_cons hch]at hlo
   refine⟨_,rfl,Zm rfl R1 ⟨_,_,rfl,rfl,_,rfl,?_⟩⟩
   rcases Nat.lt_or_ge b rows.length with hlt|hge
   ·rw[decide_eq_true (by omega)]
    obtain⟨⟨y,n⟩,hx⟩:=WB hlt
    have el:JZ (ch::([[43,45],[36]]:List (List Nat)).drop (i+1)) (rows.drop b) ld=if(ch.contains y&& !Jl (rows.drop b))=true then JZ (([[43,45],[36]]:List (List Nat)).drop (i+1)) (rows.drop (b+1)) (ld++[y])else JZ (([[43,45],[36]]:List (List Nat)).drop (i+1)) (rows.drop b) ld:=by
     rw[drop_cons hx]
     rfl
    rw[el]at hlo
    refine Q4 (Z9 rfl (JW rfl) R1 hx ⟨_,rfl,_,_,rfl,rfl,_,rfl,?_⟩)
    rw[JQ]
    refine ifB (fun h1=>?_) (fun h1=>?_)
    ·refine⟨_,rfl,_,rfl,p,rs,rows,b,rfl,R1,hlt,_,rfl,?_⟩
     rw[h1,Bool.true_and]at hlo
     refine ifB (fun h2=>?_) (fun h2=>?_)
     ·refine⟨_,rfl,Z9 rfl (JW rfl) R1 hx ⟨_,_,rfl,rfl,by rw[Qj,Qj];simp;omega,?_⟩⟩
      rw[QM]
      refine⟨_,rfl,_,_,rfl,rfl,ld++[y],b+1,_,rfl,rfl,by omega,by rw[List.length_append];simp;omega,?_⟩
      rw[hlo,if_pos h2]
     ·refine⟨ld,b,_,rfl,rfl,hb,by omega,?_⟩
      rw[hlo,if_neg (by rw[h2];decide)]
    ·rw[h1,Bool.false_and]at hlo
     exact QX ⟨ld,b,_,rfl,rfl,hb,by omega,by rw[hlo];rfl⟩
   ·rw[decide_eq_false (by omega)]
    refine QX (QX ⟨ld,b,_,rfl,rfl,hb,by omega,?_⟩)
    rw[hlo,List.drop_eq_nil_of_le hge]
    rfl
  ·rintro σ H2 ⟨ld,b,x3,rfl,rfl,hb,hll,hlo⟩
   refine⟨_,rfl,_,rfl,h2s,fun q hq=>?_⟩
   exact k ld b hb hll hlo q _ (S1.trans (Qz.new hq)) Qe
theorem YS{K:PySem.W.Frag}{a:Addr}{xs:List V}{NB:List Str}{g:TG}{tt:TT}{te:TE}{Q:VK}{H:Hp}(Pv:Nat→List V→Hp→Prop)(h0:Pv 0 [] H)(hl:∀i vs H,i≤xs.length→Pv i vs H→SqL K H a xs∧vs.length≤i)
  (hs:∀i x vs H,xs[i]? =some x→Pv i vs H→g x (List.replicate NB.length none) H fun σ2 H2=>tt σ2 H2 fun b H3=>if b=true then te σ2 H3 fun v H4=>Pv (i+1) (vs++[v]) H4 else Pv (i+1) vs H3)
  (hd:∀vs H,Pv xs.length vs H→∀p,H p=none→Q (.ref p) (upd H p (.lst vs))) (hz:xs.length<sizeLine):
  ∃W:Nat→Nat→List V→Hp→Prop,(∃m,W 0 m [] H)∧∀i m vs H,W i m vs H→
   ((Itl K a).stop i H∧∀p,H p=none→Q (.ref p) (upd H p (.lst vs)))∨((Itl K a).go i H∧vs.length<sizeLine∧∃N:List V→Hp→Prop,(∀vs' H',N vs' H'→∃m',m'<m∧W (i+1) m' vs' H')∧
    ∀x H',(Itl K a).yld i H x H'→g x (List.replicate NB.length none) H' fun σ2 H2=>tt σ2 H2 fun b H3=>if b=true then te σ2 H3 fun v H4=>N (vs++[v]) H4 else N vs H3):=by
 refine⟨fun i m vs H=>m=xs.length-i∧i≤xs.length∧Pv i vs H,⟨xs.length,by simp,Nat.zero_le _,h0⟩,?_⟩
 rintro i m vs H ⟨rfl,hi,p⟩
 obtain⟨q,hv⟩:=hl i vs H hi p
 by_cases hlt:i<xs.length
 ·refine .inr ⟨⟨xs,xs[i],q,by simp[hlt]⟩,by omega,Pv (i+1),fun vs' H' p'=>⟨xs.length-(i+1),by omega,rfl,hlt,p'⟩,fun x H' y=>?_⟩
  obtain⟨e,y⟩:=y
  subst e
  exact hs i x vs _ (y xs q) p
 ·have e:i=xs.length:=by omega
  subst e
  exact .inl ⟨⟨xs,q,Nat.le_refl _⟩,hd vs H p⟩
end
end Lw
set_option Elab.async false
set_option linter.all false
set_option maxRecDepth 100000
namespace Lw
open PySem PySem.Spec PyProof.Rows L2 K02 K04
section
variable {P:Program}{w:World}{K:PySem.W.Frag}{mg:Str→Option Value}{base:Heap}{f:Addr}{fd:FuncData}{tk:Nat→Tok}{c kr:Nat→Addr}
theorem Rws.at'{H:Hp}{rs:List Addr}{rows:List Rw}(h:Rws H rs rows):∀{i:Nat}{r:Addr},rs[i]? =some r→∃x,rows[i]? =some x∧H r=some (wf x):=by
 induction h with
 |nil=>intro i r e;cases e
 |cons a _ ih=>
  intro i r e
  cases i with
  |zero=>exact⟨_,rfl,by have:_=r:=Option.some.inj e;rw[←this];exact a⟩
  |succ i=>exact ih (i:=i) (r:=r) e
theorem WC{X:Cx}{K0:PySem.W.Frag}{es:List Expr}{k:Nat}{t:TGs}{n:Nat}{pos:Pos}(hK:X.K=K0)(hc:X.calm=true)(h:PGs X es t)
  (hn:(assignEach es X.env).length=n:=by rfl) (hst:(assignEach es X.env).findIdx? (·.1)=none:=by rfl):PG X (.Tuple es k pos) (yq K0 n t):=by
 subst hK
 exact Q1 hc h hn hst
theorem zE{p:Addr}{rs:List Addr}{rows:List Rw}{te:TE}{NB:List Str}{n:Nat}{H:Hp}{Q:VK}(val:Rw→V)(hNB:NB.length=3)(hn:n=2)(R:RowsAt K H p rs rows)
  (hte:∀(x:Rw)(Q:VK),Q (val x) H→te [none,some (.str (tx [x.1])),some (.int (x.2:Nat))] H Q) (hd:∀q,H q=none→Q (.ref q) (upd H q (.lst (rows.map val)))):
  ∃W:Nat→Nat→List V→Hp→Prop,(∃m,W 0 m [] H)∧∀i m vs H,W i m vs H→
   ((Itl K p).stop i H∧∀p,H p=none→Q (.ref p) (upd H p (.lst vs)))∨((Itl K p).go i H∧vs.length<sizeLine∧∃N:List V→Hp→Prop,(∀vs' H',N vs' H'→∃m',m'<m∧W (i+1) m' vs' H')∧
    ∀x H',(Itl K p).yld i H x H'→yq K n (Ua (JD 1) (Ua (JD 2) QaJ)) x (List.replicate NB.length none) H' fun σ2 H2=>wZ σ2 H2 fun b H3=>if b=true then te σ2 H3 fun v H4=>N (vs++[v]) H4 else N vs H3):=by
 have hz:1000≤sizeLine:=by decide
 have hl:=R.le
 have hlen:=R.len
 refine YS (xs:=rs.map V.ref) (fun i vs H2=>H2=H∧vs=(rows.take i).map val) ⟨rfl,rfl⟩ ?_ ?_ ?_ (by omega)
 ·rintro i vs H2 hi ⟨rfl,rfl⟩
  exact⟨R.sq,by rw[List.length_map,List.length_take];omega⟩
 ·rintro i x vs H2 hx ⟨rfl,rfl⟩
  rw[List.getElem?_map]at hx
  obtain⟨r,hr,rfl⟩:=Option.map_eq_some_iff.mp hx
  obtain⟨y,hy,g⟩:=R.rw.at' hr
  subst hn
  rw[hNB]
  refine⟨r,_,rfl,SqT.of g,rfl,_,_,rfl,_,_,rfl,rfl,?_⟩
  dsimp only[wZ]
  rw[if_pos rfl]
  refine hte y _ ⟨rfl,?_⟩
  have hi:=(List.getElem?_eq_some_iff.mp hy).1
  rw[List.take_add_one,hy,List.map_append]
  rfl
 ·rintro vs H2 ⟨rfl,rfl⟩ q hq
  rw[List.take_of_length_le (by omega)]
  exact hd q hq
theorem kw{α:Type}(rs:List Addr)(a:Nat):jh (rs.map V.ref) (some (a:Int)) none=(rs.drop a).map V.ref:=by
 unfold jh
 rw[HT.Vr,HT.U0]
 rcases Nat.le_total a (rs.map V.ref).length with h|h
 ·rw[Nat.min_eq_left h,List.take_of_length_le (by rw[List.length_drop];exact Nat.le_refl _),List.map_drop]
 ·rw[Nat.min_eq_right h,List.drop_eq_nil_of_le (Nat.le_refl _),List.take_nil,List.drop_eq_nil_of_le (by rw[List.length_map]at h;exact h)]
  rfl
theorem Ks{rows:List Rw}{tl te:TE}{NB:List Str}{n:Nat}{σ:L2.St}{H:Hp}{Q:VK}(val:Rw→V)(hNB:NB.length=3)(hn:n=2)
  (h:∀R:VK,(∀p rs H1,Qz H H1→RowsAt K H1 p rs rows→R (.ref p) H1)→tl σ H R)
  (hte:∀(x:Rw)(H:Hp)(Q:VK),Q (val x) H→te [none,some (.str (tx [x.1])),some (.int (x.2:Nat))] H Q) (hd:∀q H1,Qz H H1→H1 q=none→Q (.ref q) (upd H1 q (.lst (rows.map val)))):
  Uk NB (wI K tl) (yq K n (Ua (JD 1) (Ua (JD 2) QaJ))) wZ te σ H Q:=
 h _ fun p rs H1 S1 R1=>⟨p,rfl,⟨_,R1.sq⟩,zE val hNB hn R1 (fun x Q q=>hte x H1 Q q) fun q hq=>hd q H1 S1 hq⟩
theorem Vl{p:Addr}{rs:List Addr}{rows:List Rw}{σ:L2.St}{H:Hp}{i j a:Nat}(RA:RowsAt K H p rs rows)(h1:σ[i]? =some (some (.ref p)))(h2:σ[j]? =some (some (.int (a:Nat)))):
  ∀R:VK,(∀p2 rs2 H1,Qz H H1→RowsAt K H1 p2 rs2 (rows.drop a)→R (.ref p2) H1)→tSl (Qa2 K) (Kx i) (wM (Kx j)) Ud σ H R:=fun R r=>
 ⟨_,h1,_,h2,_,rfl,p,_,rfl,RA.sq,fun p2 hp2=>by
  rw[kw (α:=Unit)]
  have S2:=Qz.new (o:=.lst ((rs.drop a).map V.ref)) hp2
  exact r p2 (rs.drop a) _ S2 ⟨SqL.of Qe,(RA.rw.dr a).keep fun b xs h=>S2 _ _ h,by rw[List.length_drop];have:=RA.le;omega⟩⟩
theorem kx{p:Addr}{rs:List Addr}{rows:List Rw}{σ:L2.St}{H:Hp}{i:Nat}(RA:RowsAt K H p rs rows)(h1:σ[i]? =some (some (.ref p))):
  ∀R:VK,(∀p2 rs2 H1,Qz H H1→RowsAt K H1 p2 rs2 rows→R (.ref p2) H1)→Kx i σ H R:=fun R r=>⟨_,h1,r p rs H (Qz.refl H) RA⟩
theorem Qaq(a b:List Nat):eqV (.str (tx a)) (.str (tx b))=decide (a=b):=by
 show(tx a==tx b)=_
 by_cases h:a=b
 ·subst h;simp
 ·rw[decide_eq_false h]
  exact beq_eq_false_iff_ne.mpr fun z=>h (Yv z)
theorem in_list(ls:List (List Nat))(s:List Nat):inV (.str (tx s)) (ls.map fun l=>V.str (tx l))=ls.contains s:=by
 unfold inV
 induction ls with
 |nil=>rfl
 |cons a r ih=>
  rw[List.map_cons,List.any_cons,ih,Qaq,List.contains_cons]
  congr 1
  by_cases h:a=s
  ·subst h;simp
  ·rw[decide_eq_false h]
   exact(beq_eq_false_iff_ne.mpr fun z=>h z.symm).symm
theorem zF:([.str "9",.str "S9",.str "V9",.str "SV9",.str "9V9",.str "S9V9"]:List V)=zk.map fun l=>V.str (tx l):=by decide+kernel
theorem VU:([.str "+",.str "-",.str "CR",.str "DB"]:List V)=Jz.map fun l=>V.str (tx l):=by decide+kernel
theorem Kb(ls:List (List Nat)):(ls.map fun l=>V.str (tx l)).all Z5=true:=by
 induction ls with
 |nil=>rfl
 |cons a r ih=>rw[List.map_cons,List.all_cons,ih];rfl
noncomputable def tV:Option (List Nat)→V
 |none=>.non
 |some l=>.str (tx l)
noncomputable def qp(K:PySem.W.Frag):Sp:=fun vs H Q _=>∃(p:Addr)(rs:List Addr)(rows:List Rw)(a:Nat),vs=[.ref p,.int (a:Nat)]∧RowsAt K H p rs rows∧a≤rows.length∧∀H',Qz H H'→Q (tV (Xx (rows.drop a))) H'
theorem zG(rows:List Rw):(rows.map fun x=>V.str (tx [x.1]))=((rows.map (·.1)).map fun c=>tx [c]).map V.str:=by rw[List.map_map,List.map_map];rfl
theorem vT(rows:List Rw):(rows.map fun x=>V.int (x.2:Nat))=(rows.map fun x=>((x.2:Nat):Int)).map V.int:=by rw[List.map_map];rfl
set_option maxHeartbeats 2000000 in
theorem ja(F:Fun K "tail_of" "tail_of" Wy f fd)(O:Own mg)(T:Txt K mg tk c kr):FnOk P w K mg base (CXE P w) 1 f fd ["rows","at"] (qp K):=by
 refine okN F Vk (fun vs H Q E h=>?_) (fun cdv A outer s H vs Q E hr h=>?_)
 ·obtain⟨p,rs,rows,a,rfl,_⟩:=h
  rfl
 ·obtain⟨p,rs,rows,a,rfl,R,ha,k⟩:=h
  have hz:1000≤sizeLine:=by decide
  have hle:=R.le
  refine⟨_,(Qb (QL (Ql Jw (pv 1) (Qq QF rfl O.len PySem.boot_len (Qa (pv 0) Qc)) (Qp _)) (Qg (Qs Qd)) Qy)
   (Qb (Qm (i:=2) Vk.nd rfl (Or.inl rfl) (JS PySem.F.plainAttrs_str PySem.F.slot_str_join PySem.F.type_str_join XD Qd (Qa (ZQ (NB:=[".0","symbol","many"]) rfl ⟨rfl,by decide+kernel,by decide+kernel,by decide+kernel⟩ (Ke (Q6 Vt (pv 0) (Q7 (pv 1)) JU)) (fun _ _ _=>(WC (K0:=K) (n:=2) rfl rfl (Qi (Qk (i:=1) (show([".0","symbol","many"]:List Str).Nodup by decide+kernel) rfl (Or.inl rfl) (Or.inr rfl)) (Qi (Qk (i:=2) (show([".0","symbol","many"]:List Str).Nodup by decide+kernel) rfl (Or.inl rfl) (Or.inr rfl)) QG)))) (fun _ _ _=>XC) (fun _ _ _=>(pv 1))) Qc)))
   (Qb (QL (PW.pt (Z0 (Ql Z6 (pv 2) (QC (v:=V.ref (kr 1)) rfl T.m_SHOWN rfl) (by with_unfolding_all rfl)) (J6 (Ql Wa (Qq (za rfl) rfl O.max PyProof.Rows.boot_max (Qa (ZQ (NB:=[".0","symbol","many"]) rfl ⟨rfl,by decide+kernel,by decide+kernel,by decide+kernel⟩ (Ke (Q6 Vt (pv 0) (Q7 (pv 1)) JU)) (fun _ _ _=>(WC (K0:=K) (n:=2) rfl rfl (Qi (Qk (i:=1) (show([".0","symbol","many"]:List Str).Nodup by decide+kernel) rfl (Or.inl rfl) (Or.inr rfl)) (Qi (Qk (i:=2) (show([".0","symbol","many"]:List Str).Nodup by decide+kernel) rfl (Or.inl rfl) (Or.inr rfl)) QG)))) (fun _ _ _=>XC) (fun _ _ _=>(pv 2))) Qc)) Qh (Qp _))))) (Qg (Qs J5)) Qy)
   (Qg (Qs (pv 2)))))),?_⟩
  refine⟨_,rfl,Zm rfl R ⟨rfl,_,rfl,?_⟩⟩
  rw[Zp]
  by_cases h1:a=rows.length
  ·rw[decide_eq_true (by omega)]
   have e:Xx (rows.drop a)=some []:=by rw[h1,List.drop_length];rfl
   rw[e]at k
   have:=k H (Qz.refl H)
   refine Q4 ?_
   show Q (.str "") H
   rw[KI]
   exact this
  ·rw[decide_eq_false (by omega)]
   have hne:rows.drop a≠[]:=fun z=>by
    have:=congrArg List.length z
    rw[List.length_drop,List.length_nil]at this
    omega
   have et:Xx (rows.drop a)=if(!Jz.contains ((rows.drop a).map (·.1))||(rows.drop a).any (fun x=>decide (x.2>1)))=true then none else some ((rows.drop a).map (·.1)):=by
    unfold Xx
    rw[if_neg hne]
   rw[et]at k
   have hdl:(rows.drop a).length≤600:=by rw[List.length_drop];omega
   refine QX ⟨rfl,Ks (fun x=>.str (tx [x.1])) rfl rfl (Vl R rfl rfl) (fun x H Q q=>⟨_,rfl,q⟩) fun q H2 S2 hq=>?_⟩
   have RR:=R.same S2
   have hsl:∀{H3:Hp},RowsAt K H3 p rs rows→∀{σ:L2.St}{i j:Nat},σ[i]? =some (some (.ref p))→σ[j]? =some (some (.int (a:Nat)))→∀R:VK,(∀p2 rs2 H1,Qz H3 H1→RowsAt K H1 p2 rs2 (rows.drop a)→R (.ref p2) H1)→tSl (Qa2 K) (Kx i) (wM (Kx j)) Ud σ H3 R:=fun{_} R3{_ _ _} h1 h2=>Vl R3 h1 h2
   generalize hD:rows.drop a=D at k hne hdl hsl
   rw[zG]
   have S3:=S2.trans (Qz.new (o:=.lst (((D.map (·.1)).map fun c=>tx [c]).map V.str)) hq)
   have R3:=RR.same (Qz.new (o:=.lst (((D.map (·.1)).map fun c=>tx [c]).map V.str)) hq)
   refine⟨"",q,_,rfl,rfl,SqL.of Qe,Kk (by rw[List.length_map];omega),?_⟩
   rw[ZL]
   generalize upd H2 q (.lst (((D.map (·.1)).map fun c=>tx [c]).map V.str))=H3 at S3 R3
   refine⟨_,rfl,kr 1,_,rfl,.inr (T.q_SHOWN _),rfl,by rw[VU];exact Kb _,_,rfl,?_⟩
   rw[VU,if_pos rfl,in_list]
   refine ifB (fun h2=>?_) (fun h2=>?_)
   ·rw[h2,Bool.true_or]at k
    exact k _ S3
   ·rw[h2,Bool.false_or]at k
    dsimp only[xl,tOp,tCB,JN]
    refine Ks (fun x=>.int (x.2:Nat)) rfl rfl (hsl R3 rfl rfl) (fun x H Q q=>⟨_,rfl,q⟩) fun q5 H4 S4 hq5=>?_
    rw[vT]
    have S5:=(S3.trans S4).trans (Qz.new (o:=.lst ((D.map fun x=>((x.2:Nat):Int)).map V.int)) hq5)
    refine⟨q5,_,rfl,SqL.of Qe,by simpa using hne,fun m hm hmx=>?_⟩
    generalize upd H4 q5 (.lst ((D.map fun x=>((x.2:Nat):Int)).map V.int))=H5 at S5
    refine⟨_,_,rfl,rfl,_,rfl,?_⟩
    have hany:decide ((1:Int)<m)=D.any (fun x=>decide (x.2>1)):=by
     obtain⟨y,hy,rfl⟩:=List.mem_map.mp hm
     by_cases h3:y.2>1
     ·rw[decide_eq_true (by omega),List.any_eq_true.mpr ⟨y,hy,decide_eq_true h3⟩]
     ·rw[decide_eq_false (by omega)]
      refine(List.any_eq_false.mpr fun z hz2=>?_).symm
      have:=hmx _ (List.mem_map.mpr ⟨z,hz2,rfl⟩)
      rw[decide_eq_true_eq]
      omega
    rw[hany]
    refine ifB (fun h3=>?_) (fun h3=>?_)
    ·rw[h3]at k
     exact k _ S5
    ·rw[h3]at k
     exact⟨_,rfl,k _ S5⟩
end
end Lw
set_option Elab.async false
set_option linter.all false
set_option maxRecDepth 100000
namespace Lw
open PySem PySem.Spec PyProof.Rows L2 K02 K04
section
variable {P:Program}{w:World}{K:PySem.W.Frag}{mg:Str→Option Value}{base:Heap}{f:Addr}{fd:FuncData}{tk:Nat→Tok}{c kr:Nat→Addr}
noncomputable def kindS:Nat→Str
 |0=>"text"
 |1=>"letters"
 |2=>"number"
 |_=>"edited"
noncomputable def fO(x:Facts):HO:=.tup [.str (kindS x.kind),.bl x.signed,.int (x.before:Nat),.int (x.behind:Nat)]
noncomputable def FV(o:Option Facts)(v:V)(H:Hp):Prop:=match o with
 |none=>v=.non
 |some x=>∃q,v=.ref q∧H q=some (fO x)
noncomputable def J2(K:PySem.W.Frag)(fn:List Rw→Option Facts):Sp:=fun vs H Q _=>∃(p:Addr)(rs:List Addr)(rows:List Rw),vs=[.ref p]∧RowsAt K H p rs rows∧∀v H',Qz H H'→FV (fn rows) v H'→Q v H'
theorem ky{rows:List Rw}{i:Nat}{y n:Nat}{s p:Bool}{a b:Nat}(h:rows[i]? =some (y,n)):Ki (rows.drop i) s p a b=if y=57 then(if p then Ki (rows.drop (i+1)) s p a n else Ki (rows.drop (i+1)) s p n b)else if n>1 then none else if y=83 then Ki (rows.drop (i+1)) true p a b else Ki (rows.drop (i+1)) s true a b:=by
 rw[drop_cons h]
 rfl
set_option maxHeartbeats 2000000 in
theorem WD(F:Fun K "number_facts" "number_facts" ZC f fd)(O:Own mg)(T:Txt K mg tk c kr):FnOk P w K mg base (CXE P w) 1 f fd ["rows"] (J2 K QQ):=by
 refine okN F QV (fun vs H Q E h=>?_) (fun cdv A outer s H vs Q E hr h=>?_)
 ·obtain⟨p,rs,rows,rfl,_⟩:=h
  rfl
 ·obtain⟨p,rs,rows,rfl,R,k⟩:=h
  have hz:1000≤sizeLine:=by decide
  have hle:=R.le
  refine⟨_,(Qb (QL (Ql Z6 (JS PySem.F.plainAttrs_str PySem.F.slot_str_join PySem.F.type_str_join XD Qd (Qa (ZQ (NB:=[".0","symbol","many"]) rfl ⟨rfl,by decide+kernel,by decide+kernel,by decide+kernel⟩ (Ke (pv 0)) (fun _ _ _=>(WC (K0:=K) (n:=2) rfl rfl (Qi (Qk (i:=1) (show([".0","symbol","many"]:List Str).Nodup by decide+kernel) rfl (Or.inl rfl) (Or.inr rfl)) (Qi (Qk (i:=2) (show([".0","symbol","many"]:List Str).Nodup by decide+kernel) rfl (Or.inl rfl) (Or.inr rfl)) QG)))) (fun _ _ _=>XC) (fun _ _ _=>(pv 1))) Qc)) (QC (v:=V.ref (kr 0)) rfl T.m_NUMBER_FORMS rfl) (by with_unfolding_all rfl)) (Qg (Qs J5)) Qy)
   (Qb (Qm (i:=3) QV.nd rfl (Or.inl rfl) XR)
   (Qb (Qm (i:=4) QV.nd rfl (Or.inl rfl) XR)
   (Qb (Qm (i:=5) QV.nd rfl (Or.inl rfl) (JH (Qa Qh (Qa Qh Qc))))
   (Qb (Xr PassesOwn.never rfl (Ke (pv 0)) (Q1 rfl (Qi (Qk (i:=1) QV.nd rfl (Or.inl rfl)) (Qi (Qk (i:=2) QV.nd rfl (Or.inl rfl)) QG))) (Qg (QL (Ql Jw (pv 1) Qd (Qp _)) (Qg (Jf (pv 2) (kX (pv 5) (QD (QY (pv 4) (fun _=>rfl)) Qh Qh) set_list))) (Qg (QL (Ql Wa (pv 2) Qh (Qp _)) (Qg (Qs J5)) (Qg (QL (Ql Jw (pv 1) Qd (Qp _)) (Qg (Qm (i:=3) QV.nd rfl (Or.inl rfl) XR)) (Qg (Qm (i:=4) QV.nd rfl (Or.inl rfl) XR)))))))))
   (Qb (QL (Ql Wa (Qq (qb rfl) rfl O.sum L2.boot_sum (Qa (pv 5) Qc)) (QC (v:=V.int 18) rfl T.m_MOST_FIGURES ⟨_,rfl⟩) (Qp _)) (Qg (Qs J5)) Qy)
   (Qg (Qs (QK (Qa Qd (Qa (pv 3) (Qa (QJ QN (pv 5) Qh (fun _ _=>rfl)) (Qa (QJ QN (pv 5) Qh (fun _ _=>rfl)) Qc))))))))))))),?_⟩
  have e83:("S":Str)=tx [83]:=by decide+kernel
  refine⟨rfl,Ks (fun x=>.str (tx [x.1])) rfl rfl (kx R rfl) (fun x H Q q=>⟨_,rfl,q⟩) fun q H2 S2 hq=>?_⟩
  rw[zG]
  have S3:=S2.trans (Qz.new (o:=.lst (((rows.map (·.1)).map fun c=>tx [c]).map V.str)) hq)
  refine⟨"",q,_,rfl,rfl,SqL.of Qe,Kk (by rw[List.length_map];omega),?_⟩
  rw[ZL]
  generalize upd H2 q (.lst (((rows.map (·.1)).map fun c=>tx [c]).map V.str))=H3 at S3
  have R3:=R.same S3
  refine⟨kr 0,_,rfl,.inr (T.q_FORMS _),rfl,by rw[zF];exact Kb _,_,rfl,?_⟩
  rw[zF,if_pos rfl,in_list]
  refine ifB (fun h2=>?_) (fun h2=>?_)
  ·have hn:QQ rows=none:=by
    unfold QQ
    rw[if_neg (by rw[Bool.not_eq_true']at h2;rw[h2];decide)]
   exact k .non H3 S3 (by rw[hn];rfl)
  have hf:zk.contains (rows.map (·.1))=true:=by
   cases e:zk.contains (rows.map (·.1))with
   |true=>rfl
   |false=>rw[e]at h2;cases h2
  have en:QQ rows=(match Ki rows false false 0 0 with
    |some (s,a,b)=>if a+b>18 then none else some ⟨2,s,a,b⟩
    |none=>none):=by
   unfold QQ
   rw[if_pos hf]
   all_goals rfl
  refine⟨by show 2≤sizeLine;omega,fun fl hfl=>?_⟩
  have S4:=Qz.new (o:=.lst [.int 0,.int 0]) hfl
  refine⟨_,rfl,p,rfl,⟨_,(R3.same S4).sq⟩,?_⟩
  refine xk (xs:=rs.map V.ref) (fun i σ H5=>∃(x1 x2:Option V)(sg pt:Bool)(a b:Nat),σ=[some (.ref p),x1,x2,some (.bl sg),some (.bl pt),some (.ref fl)]∧H5 fl=some (.lst [.int (a:Nat),.int (b:Nat)])∧Qz H3 H5∧Ki rows false false 0 0=Ki (rows.drop i) sg pt a b) ⟨none,none,false,false,0,0,rfl,Qe,S4,rfl⟩ ?_ ?_ ?_
  ·rintro i σ H5 hi ⟨x1,x2,sg,pt,a,b,rfl,g5,S5,hg⟩
   exact(R3.same S5).sq
  ·rintro i x σ H5 hx ⟨x1,x2,sg,pt,a,b,rfl,g5,S5,hg⟩
   rw[List.getElem?_map]at hx
   obtain⟨r,hr1,rfl⟩:=Option.map_eq_some_iff.mp hx
   obtain⟨⟨y,n⟩,hy,g⟩:=(R3.same S5).rw.at' hr1
   rw[ky hy]at hg
   refine⟨r,_,rfl,SqT.of g,rfl,_,_,rfl,_,_,rfl,rfl,?_⟩
   refine⟨_,rfl,rfl,_,rfl,?_⟩
   rw[VP,Q0]
   have keep:∀(o:HO),Qz H3 (upd H5 fl o):=fun o b u h=>by rw[Qt (Qv h hfl)];exact S5 _ _ h
   by_cases h1:y=57
   ·rw[decide_eq_true h1]
    rw[if_pos h1]at hg
    refine Q4 ⟨_,rfl,_,rfl,_,rfl,pt,rfl,?_⟩
    refine ifB (fun h3=>?_) (fun h3=>?_)
    ·rw[if_pos h3]at hg
     refine⟨fl,_,1,1,rfl,rfl,g5,rfl,some (.str (tx [y])),some (.int (n:Nat)),sg,pt,a,n,rfl,?_,keep _,hg⟩
     rw[Qe]
     rfl
    ·rw[if_neg (by rw[h3];decide)]at hg
     refine⟨fl,_,0,0,rfl,rfl,g5,rfl,some (.str (tx [y])),some (.int (n:Nat)),sg,pt,n,b,rfl,?_,keep _,hg⟩
     rw[Qe]
     rfl
   ·rw[decide_eq_false h1]
    rw[if_neg h1]at hg
    refine QX ⟨_,rfl,_,_,rfl,rfl,_,rfl,?_⟩
    by_cases h3:n>1
    ·rw[decide_eq_true (by omega)]
     rw[if_pos h3]at hg
     refine Q4 (k .non H5 (S3.trans S5) ?_)
     rw[en,hg]
     rfl
    ·rw[decide_eq_false (by omega)]
     rw[if_neg h3]at hg
     refine QX ⟨_,rfl,rfl,_,rfl,?_⟩
     rw[e83,Q0]
     by_cases h4:y=83
     ·rw[decide_eq_true h4]
      rw[if_pos h4]at hg
      exact Q4 ⟨some (.str (tx [y])),some (.int (n:Nat)),true,pt,a,b,rfl,g5,S5,hg⟩
     ·rw[decide_eq_false h4]
      rw[if_neg h4]at hg
      exact QX ⟨some (.str (tx [y])),some (.int (n:Nat)),sg,true,a,b,rfl,g5,S5,hg⟩
  ·rintro σ H5 ⟨x1,x2,sg,pt,a,b,rfl,g5,S5,hg⟩
   rw[R.len,List.drop_length]at hg
   rw[hg]at en
   refine⟨_,rfl,fl,[(a:Int),(b:Int)],rfl,SqL.of g5,_,_,rfl,rfl,_,rfl,?_⟩
   have es:([(a:Int),(b:Int)]:List Int).sum=((a+b:Nat):Int):=by simp
   rw[es]
   by_cases h1:a+b>18
   ·rw[decide_eq_true (by omega)]
    refine Q4 (k .non H5 (S3.trans S5) ?_)
    rw[en]
    show FV (if a+b>18 then none else _) _ _
    rw[if_pos h1]
    rfl
   ·rw[decide_eq_false (by omega)]
    refine QX ⟨_,rfl,_,rfl,fl,_,_,_,rfl,rfl,SqL.of g5,rfl,_,rfl,fl,_,_,_,rfl,rfl,SqL.of g5,rfl,by show 4≤sizeLine;omega,fun q6 hq6=>?_⟩
    refine k _ _ ((S3.trans S5).trans (Qz.new hq6)) ?_
    rw[en]
    show FV (if a+b>18 then none else _) _ _
    rw[if_neg h1]
    exact⟨q6,rfl,Qe⟩
theorem YT(y:Nat):Kz YM (Sum.inr (tx [y]):Key)=if y=88 then some (.str "text")else if y=65 then some (.str "letters")else none:=by
 have eX:("X":Str)=tx [88]:=by decide+kernel
 have eA:("A":Str)=tx [65]:=by decide+kernel
 unfold Kz YM
 rw[eX,eA]
 by_cases h1:y=88
 ·subst h1
  rw[if_pos rfl]
  simp
 ·rw[if_neg h1]
  have n1:¬ ((Sum.inr (tx [88]):Key)=Sum.inr (tx [y])):=fun z=>h1 (List.cons.inj (Yv (Sum.inr.inj z))).1.symm
  by_cases h2:y=65
  ·subst h2
   rw[if_pos rfl]
   simp
  ·rw[if_neg h2]
   have n2:¬ ((Sum.inr (tx [65]):Key)=Sum.inr (tx [y])):=fun z=>h2 (List.cons.inj (Yv (Sum.inr.inj z))).1.symm
   simp[n1,n2]
set_option maxHeartbeats 2000000 in
theorem WY(F:Fun K "plain_facts" "plain_facts" ZU f fd)(O:Own mg)(T:Txt K mg tk c kr)(KD:KDict P w K (kr 2) YM):FnOk P w K mg base (CXE P w) 1 f fd ["rows"] (J2 K Js):=by
 refine okN F ZD (fun vs H Q E h=>?_) (fun cdv A outer s H vs Q E hr h=>?_)
 ·obtain⟨p,rs,rows,rfl,_⟩:=h
  rfl
 ·obtain⟨p,rs,rows,rfl,R,k⟩:=h
  have hz:1000≤sizeLine:=by decide
  refine⟨_,(Qb (QL (Ql Zc (Qq QF rfl O.len PySem.boot_len (Qa (pv 0) Qc)) Qh (Qp _)) (Qg (Qs J5)) Qy)
   (Qb (Jf (QJ QN (pv 0) Qh (fun _ _=>rfl)) (Q1 rfl (Qi (Qk (i:=1) ZD.nd rfl (Or.inl rfl)) (Qi (Qk (i:=2) ZD.nd rfl (Or.inl rfl)) QG))))
   (Qb (QL (PW.pt (Z0 (ZJ (Vc KD (pv 1) (QC (v:=V.ref (kr 2)) rfl T.m_PLAIN_KINDS rfl)) (by with_unfolding_all rfl)) (J6 (Ql Wa (pv 2) (QC (v:=V.int 60) rfl T.m_MOST_SIGNS ⟨_,rfl⟩) (Qp _))))) (Qg (Qs J5)) Qy)
   (Qg (Qs (QK (Qa (KY KD (QC (v:=V.ref (kr 2)) rfl T.m_PLAIN_KINDS rfl) (pv 1) (fun _ _=>rfl)) (Qa XR (Qa Qh (Qa Qh Qc)))))))))),?_⟩
  refine⟨_,rfl,p,_,rfl,.inl R.sq,?_⟩
  rw[R.len]
  refine⟨rfl,_,rfl,?_⟩
  rw[wX]
  match rows,R,k with
  |[],R,k=>exact Q4 (k .non H (Qz.refl H) rfl)
  |_::_::_,R,k=>
   rw[decide_eq_true (by simp;omega)]
   exact Q4 (k .non H (Qz.refl H) rfl)
  |[(y,n)],R,k=>
   refine QX (YE (k:=0) rfl (fun Q q=>q) R rfl fun r hr1=>⟨r,_,rfl,SqT.of hr1,rfl,_,_,rfl,_,_,rfl,rfl,?_⟩)
   refine⟨_,rfl,Sum.inr (tx [y]),rfl,rfl,_,rfl,?_⟩
   have ep:Js [(y,n)]=if(y≠88∧y≠65)∨n>60 then none else some ⟨if y=88 then 0 else 1,false,0,0⟩:=rfl
   rw[YT]
   by_cases h1:y=88∨y=65
   ·have h2:(if y=88 then some (V.str "text")else if y=65 then some (.str "letters")else none)=some (.str (kindS (if y=88 then 0 else 1))):=by
     rcases h1 with rfl|rfl
     ·rfl
     ·rfl
    rw[h2]
    refine QX ⟨_,rfl,_,_,rfl,rfl,_,rfl,?_⟩
    by_cases h3:n>60
    ·rw[decide_eq_true (by omega)]
     refine Q4 (k .non H (Qz.refl H) ?_)
     rw[ep,if_pos (.inr h3)]
     rfl
    ·rw[decide_eq_false (by omega)]
     refine QX ⟨_,rfl,Sum.inr (tx [y]),.str (kindS (if y=88 then 0 else 1)),rfl,rfl,by rw[YT,h2],by show 4≤sizeLine;omega,fun q hq=>?_⟩
     refine k _ _ (Qz.new hq) ?_
     rw[ep,if_neg (by omega)]
     exact⟨q,rfl,Qe⟩
   ·rw[if_neg (by omega),if_neg (by omega)]
    refine Q4 (Q4 (k .non H (Qz.refl H) ?_))
    rw[ep,if_pos (.inl (by omega))]
    rfl
end
end Lw
set_option Elab.async false
set_option linter.all false
set_option maxRecDepth 100000
namespace Lw
open PySem PySem.Spec PyProof.Rows L2 K02 K04
theorem kz{K:PySem.W.Frag}{a:Addr}{xs:List V}{NB:List Str}{g:TG}{tt:TT}{te:TE}{Q:VK}{H:Hp}(Pv:Nat→List V→Hp→Prop)(h0:Pv 0 [] H)(hl:∀i vs H,i≤xs.length→Pv i vs H→SqT K H a xs∧vs.length≤i)
  (hs:∀i x vs H,xs[i]? =some x→Pv i vs H→g x (List.replicate NB.length none) H fun σ2 H2=>tt σ2 H2 fun b H3=>if b=true then te σ2 H3 fun v H4=>Pv (i+1) (vs++[v]) H4 else Pv (i+1) vs H3)
  (hd:∀vs H,Pv xs.length vs H→∀p,H p=none→Q (.ref p) (upd H p (.lst vs))) (hz:xs.length<sizeLine):
  ∃W:Nat→Nat→List V→Hp→Prop,(∃m,W 0 m [] H)∧∀i m vs H,W i m vs H→
   ((Itt K a).stop i H∧∀p,H p=none→Q (.ref p) (upd H p (.lst vs)))∨((Itt K a).go i H∧vs.length<sizeLine∧∃N:List V→Hp→Prop,(∀vs' H',N vs' H'→∃m',m'<m∧W (i+1) m' vs' H')∧
    ∀x H',(Itt K a).yld i H x H'→g x (List.replicate NB.length none) H' fun σ2 H2=>tt σ2 H2 fun b H3=>if b=true then te σ2 H3 fun v H4=>N (vs++[v]) H4 else N vs H3):=by
 refine⟨fun i m vs H=>m=xs.length-i∧i≤xs.length∧Pv i vs H,⟨xs.length,by simp,Nat.zero_le _,h0⟩,?_⟩
 rintro i m vs H ⟨rfl,hi,p⟩
 obtain⟨q,hv⟩:=hl i vs H hi p
 by_cases hlt:i<xs.length
 ·refine .inr ⟨⟨xs,xs[i],q,by simp[hlt]⟩,by omega,Pv (i+1),fun vs' H' p'=>⟨xs.length-(i+1),by omega,rfl,hlt,p'⟩,fun x H' y=>?_⟩
  obtain⟨e,y⟩:=y
  subst e
  exact hs i x vs _ (y xs q) p
 ·have e:i=xs.length:=by omega
  subst e
  exact .inl ⟨⟨xs,q,Nat.le_refl _⟩,hd vs H p⟩
section
variable {P:Program}{w:World}{K:PySem.W.Frag}{mg:Str→Option Value}{base:Heap}{f:Addr}{fd:FuncData}{tk:Nat→Tok}{c kr:Nat→Addr}
noncomputable def Xk(ld pl:List Nat)(many JB:Nat)(o:Option Nat)(tl:Option (List Nat)):Option Facts:=
 match pl,o,tl with
 |[place],some behind,some tail=>
  let fl:Bool:=[43,45,36].contains place
  if fl&&decide (many<2)then none
  else
   let shown:=[ld.take 1,[place],tail].filter (Jz.contains ·)
   if shown.length>1 then none
   else
    let before:=many+JB-(if fl then 1 else 0)
    if before+behind>18 then none else some ⟨3,shown.length==1,before,behind⟩
 |_,_,_=>none
theorem zH{rows:List Rw}{ld pl:List Nat}{b many JB b2 b3:Nat}{o:Option Nat}(h1:Zr rows=(ld,rows.drop b))(h2:QO (rows.drop b)=(pl,many,JB,rows.drop b2))(h3:Q3 (rows.drop b2) (if JB=0 then pl else[57])=(o,rows.drop b3)):
  Q5 rows=Xk ld pl many JB o (Xx (rows.drop b3)):=by
 unfold Q5
 simp only[h1,h2,h3]
 rfl
theorem zI(r:List Rw):(QO r).1=[]∨∃y,(QO r).1=[y]:=by
 unfold QO
 split
 ·split
  ·exact .inr ⟨_,rfl⟩
  ·exact .inl rfl
 ·exact .inl rfl
theorem jb{a:Addr}{ls:List (List Nat)}{H:Hp}{Q:VK}(T:Txt K mg tk c kr)(hq:H a=some (.tup (ls.map fun l=>V.str (tx l)))) (hl:ls.length≤3)
  (hd:∀q,H q=none→Q (.ref q) (upd H q (.lst ((ls.filter (Jz.contains ·)).map fun l=>V.str (tx l))))):
  ∃W:Nat→Nat→List V→Hp→Prop,(∃m,W 0 m [] H)∧∀i m vs H,W i m vs H→
   ((Itt K a).stop i H∧∀p,H p=none→Q (.ref p) (upd H p (.lst vs)))∨((Itt K a).go i H∧vs.length<sizeLine∧∃N:List V→Hp→Prop,(∀vs' H',N vs' H'→∃m',m'<m∧W (i+1) m' vs' H')∧
    ∀x H',(Itt K a).yld i H x H'→JD 1 x (List.replicate 2 none) H' fun σ2 H2=>xl (tOp (rIn K false) (Kx 1) (tC (.ref (kr 1)))) σ2 H2 fun b H3=>if b=true then Kx 1 σ2 H3 fun v H4=>N (vs++[v]) H4 else N vs H3):=by
 have hz:1000≤sizeLine:=by decide
 refine kz (NB:=["a","b"]) (xs:=ls.map fun l=>V.str (tx l)) (fun i vs H2=>H2=H∧vs=((ls.take i).filter (Jz.contains ·)).map fun l=>V.str (tx l)) ⟨rfl,rfl⟩ ?_ ?_ ?_ (by rw[List.length_map];omega)
 ·rintro i vs H2 hi ⟨rfl,rfl⟩
  refine⟨SqT.of hq,?_⟩
  rw[List.length_map]
  exact Nat.le_trans (List.length_filter_le _ _) (by rw[List.length_take];omega)
 ·rintro i x vs H2 hx ⟨rfl,rfl⟩
  rw[List.getElem?_map]at hx
  obtain⟨l,hl1,rfl⟩:=Option.map_eq_some_iff.mp hx
  refine⟨_,rfl,kr 1,_,rfl,.inr (T.q_SHOWN _),rfl,by rw[VU];exact Kb _,_,rfl,?_⟩
  rw[VU,if_neg (by decide),in_list]
  have ef:((ls.take (i+1)).filter (Jz.contains ·))=((ls.take i).filter (Jz.contains ·))++(if Jz.contains l then[l]else[]):=by
   rw[List.take_add_one,hl1,List.filter_append]
   by_cases hm:l∈Jz<;>simp[hm]
  refine ifB (fun h=>?_) (fun h=>?_)
  ·refine⟨_,rfl,rfl,?_⟩
   rw[ef,h,List.map_append]
   rfl
  ·refine⟨rfl,?_⟩
   rw[ef,h]
   simp
 ·rintro vs H2 ⟨rfl,rfl⟩ q hq2
  rw[List.length_map,List.take_length]
  exact hd q hq2
theorem UH{ls:List (List Nat)}{tl:TE}{NB:List Str}{σ:L2.St}{H:Hp}{Q:VK}(T:Txt K mg tk c kr)(hNB:NB.length=2)(hl:ls.length≤3)
  (h:∀R:VK,(∀p H1,Qz H H1→H1 p=some (.tup (ls.map fun l=>V.str (tx l)))→R (.ref p) H1)→tl σ H R)
  (hd:∀q H1,Qz H H1→H1 q=none→Q (.ref q) (upd H1 q (.lst ((ls.filter (Jz.contains ·)).map fun l=>V.str (tx l))))):
  Uk NB (QbN K tl) (JD 1) (xl (tOp (rIn K false) (Kx 1) (tC (.ref (kr 1))))) (Kx 1) σ H Q:=by
 refine h _ fun p H1 S1 g1=>⟨p,rfl,⟨_,SqT.of g1⟩,?_⟩
 rw[hNB]
 exact jb T g1 hl fun q hq=>hd q H1 S1 hq
theorem YU(l:List Nat):StrLaws.sliceText (tx l) none (some 1)=tx (l.take 1):=by
 cases l with
 |nil=>decide+kernel
 |cons a r=>exact Kh (a::r) (k:=1) (by simp)
noncomputable def qr(K:PySem.W.Frag):Sp:=fun vs H Q _=>∃(p:Addr)(rs:List Addr)(rows:List Rw)(a:Nat),vs=[.ref p,.int (a:Nat)]∧RowsAt K H p rs rows∧a≤rows.length∧
 ∀(pl:List Nat)(many JB b2 b3:Nat)(o:Option Nat),b3≤rows.length→QO (rows.drop a)=(pl,many,JB,rows.drop b2)→Q3 (rows.drop b2) (if JB=0 then pl else[57])=(o,rows.drop b3)→∀q H',Qz H H'→H' q=some (.tup [.str (tx pl),.int (many:Nat),.int (JB:Nat),oV o,.int (b3:Nat)])→Q (.ref q) H'
theorem jc(F:Fun K "body_of" "body_of" Wx f fd)(D_whole_part:Def P w K mg base 2 "whole_part" ["rows","at"] (UG K))(D_broken_part:Def P w K mg base 1 "broken_part" ["rows","at","place"] (VT K)):
  FnOk P w K mg base (CXE P w) 3 f fd ["rows","at"] (qr K):=by
 refine okN F J1 (fun vs H Q E h=>?_) (fun cdv A outer s H vs Q E hr h=>?_)
 ·obtain⟨p,rs,rows,a,rfl,_⟩:=h
  rfl
 ·obtain⟨p,rs,rows,b,rfl,R,hb,k⟩:=h
  have hz:1000≤sizeLine:=by decide
  refine⟨_,(Qb (Jf (D_whole_part.pe hr (by decide) rfl Qw (Qa (pv 0) (Qa (pv 1) Qc))) (Q1 rfl (Qi (Qk (i:=2) J1.nd rfl (Or.inl rfl)) (Qi (Qk (i:=3) J1.nd rfl (Or.inl rfl)) (Qi (Qk (i:=4) J1.nd rfl (Or.inl rfl)) (Qi (Qk (i:=1) J1.nd rfl (Or.inl rfl)) QG))))))
   (Qb (Jf (D_broken_part.pe hr (by decide) rfl Qw (Qa (pv 0) (Qa (pv 1) (Qa (QD (Ql Jw (pv 4) Qh (Qp _)) (pv 2) Qd) Qc)))) (Q1 rfl (Qi (Qk (i:=5) J1.nd rfl (Or.inl rfl)) (Qi (Qk (i:=1) J1.nd rfl (Or.inl rfl)) QG))))
   (Qg (Qs (QK (Qa (pv 2) (Qa (pv 3) (Qa (pv 4) (Qa (pv 5) (Qa (pv 1) Qc)))))))))),?_⟩
  refine⟨_,rfl,_,rfl,p,rs,rows,b,rfl,R,hb,fun pl many JB b2 hb2 h2 q2 H2 S2 g2=>⟨q2,_,rfl,SqT.of g2,rfl,_,_,rfl,_,_,rfl,_,_,rfl,_,_,rfl,rfl,?_⟩⟩
  refine⟨_,rfl,_,rfl,_,rfl,rfl,_,rfl,?_⟩
  refine Ju (fun x H'=>x=.str (tx (if JB=0 then pl else[57]))∧H'=H2) (fun z rest=>?_) (fun z rest=>?_) ?_
  ·rw[Zp]at z
   have hn:JB=0:=by have:=of_decide_eq_true z;omega
   rw[if_pos hn]at rest
   exact⟨_,rfl,rest _ _ ⟨rfl,rfl⟩⟩
  ·rw[Zp]at z
   have hn:JB≠0:=by have:=of_decide_eq_false z;omega
   rw[if_neg hn]at rest
   exact rest _ _ ⟨by rw[VP],rfl⟩
  rintro x H' ⟨rfl,rfl⟩
  refine⟨p,rs,rows,b2,_,rfl,R.same S2,hb2,fun o b3 hb3 h3 q3 hq3=>⟨q3,_,rfl,SqT.of Qe,rfl,_,_,rfl,_,_,rfl,rfl,?_⟩⟩
  have S3:=S2.trans (Qz.new (o:=.tup [oV o,.int (b3:Nat)]) hq3)
  generalize upd H' q3 (.tup [oV o,.int (b3:Nat)])=H3 at S3
  refine⟨_,rfl,_,rfl,_,rfl,_,rfl,_,rfl,by show 5≤sizeLine;omega,fun q4 hq4=>?_⟩
  exact k pl many JB b2 b3 o hb3 h2 h3 q4 _ (S3.trans (Qz.new hq4)) Qe
set_option maxHeartbeats 4000000 in
theorem WE(F:Fun K "edited_facts" "edited_facts" ZE f fd)(O:Own mg)(T:Txt K mg tk c kr)(D_lead_of:Def P w K mg base 2 "lead_of" ["rows"] (qo K))(D_body_of:Def P w K mg base 3 "body_of" ["rows","at"] (qr K))(D_tail_of:Def P w K mg base 1 "tail_of" ["rows","at"] (qp K)):
  FnOk P w K mg base (CXE P w) 4 f fd ["rows"] (J2 K Q5):=by
 refine okN F QE (fun vs H Q E h=>?_) (fun cdv A outer s H vs Q E hr h=>?_)
 ·obtain⟨p,rs,rows,rfl,_⟩:=h
  rfl
 ·obtain⟨p,rs,rows,rfl,R,k⟩:=h
  have hz:1000≤sizeLine:=by decide
  refine⟨_,(Qb (Jf (D_lead_of.pe hr (by decide) rfl Qw (Qa (pv 0) Qc)) (Q1 rfl (Qi (Qk (i:=1) QE.nd rfl (Or.inl rfl)) (Qi (Qk (i:=2) QE.nd rfl (Or.inl rfl)) QG))))
   (Qb (Jf (D_body_of.pe hr (by decide) rfl Qw (Qa (pv 0) (Qa (pv 2) Qc))) (Q1 rfl (Qi (Qk (i:=3) QE.nd rfl (Or.inl rfl)) (Qi (Qk (i:=4) QE.nd rfl (Or.inl rfl)) (Qi (Qk (i:=5) QE.nd rfl (Or.inl rfl)) (Qi (Qk (i:=6) QE.nd rfl (Or.inl rfl)) (Qi (Qk (i:=7) QE.nd rfl (Or.inl rfl)) QG)))))))
   (Qb (Qm (i:=8) QE.nd rfl (Or.inl rfl) (D_tail_of.pe hr (by decide) rfl Qw (Qa (pv 0) (Qa (pv 7) Qc))))
   (Qb (QL (PW.pt (Z0 (Ql Jw (pv 3) Qd (Qp _)) (Z0 (ZJ (XS (pv 6))) (J6 (ZJ (XS (pv 8))))))) (Qg (Qs J5)) Qy)
   (Qb (Qm (i:=9) QE.nd rfl (Or.inl rfl) (Jy Jx (pv 3) (QC (v:=V.str "+-$") rfl T.m_FLOATING ⟨_,rfl⟩) (by with_unfolding_all rfl)))
   (Qb (QL (PW.pt (Jp (QY (pv 9) (fun _=>rfl)) (Je (Ql Xz (pv 4) Qh (Qp _))))) (Qg (Qs J5)) Qy)
   (Qb (qc (NB:=[".0","part"]) (iy:=10) rfl ⟨rfl,by decide+kernel,by decide+kernel,by decide+kernel⟩ (kY (QK (Qa (Q6 ZK (pv 1) JU (Q7 Qh)) (Qa (pv 3) (Qa (pv 8) Qc))))) (fun _ _ _=>(Qk (i:=1) (show([".0","part"]:List Str).Nodup by decide+kernel) rfl (Or.inl rfl))) (fun _ _ _=>(Vw (Ql (qT (K0:=K) rfl) (pv 1) (QC (v:=V.ref (kr 1)) rfl T.m_SHOWN rfl) (by with_unfolding_all rfl)))) (fun _ _ _=>(pv 1)) QE.nd rfl (Or.inl rfl) rfl)
   (Qb (QL (Ql Wa (Qq QF rfl O.len PySem.boot_len (Qa (pv 10) Qc)) Qh (Qp _)) (Qg (Qs J5)) Qy)
   (Qb (Qm (i:=11) QE.nd rfl (Or.inl rfl) (Qn Zh (Qn QT (pv 4) (pv 5)) (QD (QY (pv 9) (fun _=>rfl)) Qh Qh)))
   (Qb (QL (Ql Wa (Qn QT (pv 11) (pv 6)) (QC (v:=V.int 18) rfl T.m_MOST_FIGURES ⟨_,rfl⟩) (Qp _)) (Qg (Qs J5)) Qy)
   (Qg (Qs (QK (Qa Qd (Qa (Jy Jw (Qq QF rfl O.len PySem.boot_len (Qa (pv 10) Qc)) Qh (Qp _)) (Qa (pv 11) (Qa (pv 6) Qc))))))))))))))))),?_⟩
  refine⟨_,rfl,p,rs,rows,rfl,R,fun ld b hb hll h1 q1 H1 S1 g1=>⟨q1,_,rfl,SqT.of g1,rfl,_,_,rfl,_,_,rfl,rfl,?_⟩⟩
  refine⟨_,rfl,_,rfl,p,rs,rows,b,rfl,R.same S1,hb,fun pl many JB b2 b3 o hb3 h2 h3 q2 H3 S2 g2=>⟨q2,_,rfl,SqT.of g2,rfl,_,_,rfl,_,_,rfl,_,_,rfl,_,_,rfl,_,_,rfl,rfl,?_⟩⟩
  have S3:=S1.trans S2
  clear g1 g2 S1 S2
  have ee:=zH h1 h2 h3
  have hone:=zI (rows.drop b)
  rw[h2]at hone
  refine⟨_,rfl,_,rfl,p,rs,rows,b3,rfl,R.same S3,hb3,fun H4 S4=>?_⟩
  have S14:=S3.trans S4
  generalize Xx (rows.drop b3)=tl at ee
  rw[ee]at k
  clear ee h1 h2 h3 S3 S4
  refine⟨_,rfl,rfl,_,rfl,?_⟩
  rw[KI,Kj]
  rcases hone with hp|⟨place,hp⟩
  ·have hp2:pl=[]:=hp
   subst hp2
   rw[decide_eq_true rfl]
   exact Q4 (Q4 (k .non H4 S14 rfl))
  have hp2:pl=[place]:=hp
  subst hp2
  rw[decide_eq_false (by simp)]
  refine QX ⟨_,rfl,_,rfl,?_⟩
  cases o with
  |none=>exact Q4 (Q4 (k .non H4 S14 rfl))
  |some behind=>
  refine QX ⟨_,rfl,_,rfl,?_⟩
  cases tl with
  |none=>exact Q4 (k .non H4 S14 rfl)
  |some tail=>
  refine QX ⟨_,rfl,_,_,rfl,rfl,?_⟩
  rw[vQ,JQ]
  generalize hfl:([43,45,36]:List Nat).contains place=fl
  have ek:Xk ld [place] many JB (some behind) (some tail)=if(fl&&decide (many<2))=true then none else if([ld.take 1,[place],tail].filter (Jz.contains ·)).length>1 then none else if many+JB-(if fl=true then 1 else 0)+behind>18 then none else some ⟨3,([ld.take 1,[place],tail].filter (Jz.contains ·)).length==1,many+JB-(if fl=true then 1 else 0),behind⟩:=by
   rw[←hfl]
   rfl
  rw[ek]at k
  clear ek
  dsimp only
  refine Jv (fun σ' H'=>σ'=[some (.ref p),some (.str (tx ld)),some (.int (b:Nat)),some (.str (tx [place])),some (.int (many:Nat)),some (.int (JB:Nat)),some (.int (behind:Nat)),some (.int (b3:Nat)),some (.str (tx tail)),some (.bl fl),none,none]∧H'=H4∧¬ (fl&&decide (many<2))=true) ?_ (fun rest=>?_)
  ·rintro σ' H' ⟨rfl,rfl,hfm⟩
   rw[if_neg hfm]at k
   have hmm:fl=true→2≤many:=fun z=>by
    rcases Nat.lt_or_ge many 2 with q|q
    ·exact absurd (by rw[z,decide_eq_true q];rfl) hfm
    ·exact q
   dsimp only[K6,KL]
   refine UH (ls:=[ld.take 1,[place],tail]) T rfl (by simp) (fun R r=>⟨_,rfl,_,rfl,tx ld,rfl,by rw[Qj];omega,_,rfl,_,rfl,by show 3≤sizeLine;omega,fun p5 hp5=>r p5 _ (Qz.new hp5) (by rw[Qe,YU];rfl)⟩) fun q5 H5 S5 hq5=>?_
   have S6:=(S14.trans S5).trans (Qz.new (o:=.lst (([ld.take 1,[place],tail].filter (Jz.contains ·)).map fun l=>V.str (tx l))) hq5)
   have g6:upd H5 q5 (.lst (([ld.take 1,[place],tail].filter (Jz.contains ·)).map fun l=>V.str (tx l))) q5=some (.lst (([ld.take 1,[place],tail].filter (Jz.contains ·)).map fun l=>V.str (tx l))):=Qe
   generalize upd H5 q5 (.lst (([ld.take 1,[place],tail].filter (Jz.contains ·)).map fun l=>V.str (tx l)))=H6 at S6 g6
   generalize [ld.take 1,[place],tail].filter (Jz.contains ·)=sh at g6 k
   refine⟨_,rfl,q5,_,rfl,.inl (SqL.of g6),_,_,rfl,rfl,_,rfl,?_⟩
   rw[List.length_map]
   by_cases h7:sh.length>1
   ·rw[decide_eq_true (by omega)]
    rw[if_pos h7]at k
    exact Q4 (k .non H6 S6 rfl)
   ·rw[decide_eq_false (by omega)]
    rw[if_neg h7]at k
    refine QX ⟨_,rfl,_,rfl,_,_,rfl,rfl,_,rfl,fl,rfl,?_⟩
    have hbf:((many:Nat):Int)+(JB:Nat)-(if fl=true then 1 else 0)=((many+JB-(if fl=true then 1 else 0):Nat):Int):=by
     cases fl with
     |true=>have:=hmm rfl;simp;omega
     |false=>simp
    refine Ju (fun x H'=>x=.int (if fl=true then 1 else 0)∧H'=H6) (fun z rest=>rest _ _ ⟨by rw[if_pos z],rfl⟩) (fun z rest=>rest _ _ ⟨by rw[if_neg (by rw[z];decide)],rfl⟩) ?_
    rintro x H7 ⟨rfl,rfl⟩
    refine⟨_,_,rfl,rfl,?_⟩
    dsimp only[JD]
    rw[hbf]
    generalize many+JB-(if fl=true then 1 else 0)=before at k
    refine⟨_,rfl,_,rfl,_,_,rfl,rfl,_,_,rfl,rfl,_,rfl,?_⟩
    by_cases h8:before+behind>18
    ·rw[decide_eq_true (by omega)]
     rw[if_pos h8]at k
     exact Q4 (k .non H7 S6 rfl)
    ·rw[decide_eq_false (by omega)]
     rw[if_neg h8]at k
     refine QX ⟨_,rfl,q5,_,rfl,.inl (SqL.of g6),rfl,_,rfl,_,rfl,by show 4≤sizeLine;omega,fun q9 hq9=>?_⟩
     refine k _ _ (S6.trans (Qz.new hq9)) ⟨q9,rfl,?_⟩
     rw[Qe,List.length_map,Zp]
     have e9:decide ((sh.length:Int)=1)=(sh.length==1):=by
      by_cases z:sh.length=1
      ·rw[z];rfl
      ·rw[decide_eq_false (by omega)];exact(beq_eq_false_iff_ne.mpr z).symm
     rw[e9]
     rfl
  ·refine⟨_,rfl,fl,rfl,?_⟩
   cases fl with
   |false=>
    exact QX (QX (rest _ _ ⟨rfl,rfl,by simp⟩))
   |true=>
    refine Q4 ⟨_,rfl,_,_,rfl,rfl,_,rfl,?_⟩
    by_cases h6:many<2
    ·rw[decide_eq_true (by omega)]
     refine Q4 (k .non H4 S14 ?_)
     rw[decide_eq_true h6]
     rfl
    ·rw[decide_eq_false (by omega)]
     exact QX (rest _ _ ⟨rfl,rfl,by rw[decide_eq_false h6];decide⟩)
end
end Lw
set_option Elab.async false
set_option linter.all false
set_option maxRecDepth 100000
namespace Lw
open PySem PySem.Spec PyProof.Rows L2 K02 K04
section
variable {P:Program}{w:World}{K:PySem.W.Frag}{mg:Str→Option Value}{base:Heap}{f:Addr}{fd:FuncData}{tk:Nat→Tok}{c kr:Nat→Addr}
theorem FV.isN{o:Option Facts}{v:V}{H:Hp}(h:FV o v H):decide (v=.non)= !o.isSome:=by
 cases o with
 |none=>rw[show v=.non from h];rfl
 |some x=>obtain⟨q,h1,h2⟩:=h;rw[h1];rfl
set_option maxHeartbeats 1000000 in
theorem UI(F:Fun K "facts_of" "facts_of" Kr f fd)(D_number_facts:Def P w K mg base 1 "number_facts" ["rows"] (J2 K QQ))(D_plain_facts:Def P w K mg base 1 "plain_facts" ["rows"] (J2 K Js))(D_edited_facts:Def P w K mg base 4 "edited_facts" ["rows"] (J2 K Q5)):
  FnOk P w K mg base (CXE P w) 5 f fd ["rows"] (J2 K JI):=by
 refine okN F ZT (fun vs H Q E h=>?_) (fun cdv A outer s H vs Q E hr h=>?_)
 ·obtain⟨p,rs,rows,rfl,_⟩:=h
  rfl
 ·obtain⟨p,rs,rows,rfl,R,k⟩:=h
  refine⟨_,(Qb (Qm (i:=1) ZT.nd rfl (Or.inl rfl) (D_number_facts.pe hr (by decide) rfl Qw (Qa (pv 0) Qc)))
   (Qb (QL (ZJ (XS (pv 1))) (Qg (Qm (i:=1) ZT.nd rfl (Or.inl rfl) (D_plain_facts.pe hr (by decide) rfl Qw (Qa (pv 0) Qc)))) Qy)
   (Qb (QL (ZJ (XS (pv 1))) (Qg (Qm (i:=1) ZT.nd rfl (Or.inl rfl) (D_edited_facts.pe hr (by decide) rfl Qw (Qa (pv 0) Qc)))) Qy)
   (Qg (Qs (pv 1)))))),?_⟩
  refine⟨_,rfl,p,rs,rows,rfl,R,fun v1 H1 S1 f1=>?_⟩
  refine⟨_,rfl,_,rfl,?_⟩
  rw[f1.isN]
  cases e1:QQ rows with
  |some x=>
   rw[e1]at f1
   have ef:JI rows=some x:=by unfold JI;rw[e1]
   refine QX ⟨_,rfl,_,rfl,?_⟩
   rw[f1.isN]
   refine QX ⟨_,rfl,k v1 H1 S1 ?_⟩
   rw[ef]
   exact f1
  |none=>
   refine Q4 ⟨_,rfl,p,rs,rows,rfl,R.same S1,fun v2 H2 S2 f2=>?_⟩
   refine⟨_,rfl,_,rfl,?_⟩
   rw[f2.isN]
   cases e2:Js rows with
   |some x=>
    rw[e2]at f2
    have ef:JI rows=some x:=by unfold JI;rw[e1,e2]
    refine QX ⟨_,rfl,k v2 H2 (S1.trans S2) ?_⟩
    rw[ef]
    exact f2
   |none=>
    have ef:JI rows=Q5 rows:=by unfold JI;rw[e1,e2]
    refine Q4 ⟨_,rfl,p,rs,rows,rfl,(R.same S1).same S2,fun v3 H3 S3 f3=>⟨_,rfl,k v3 H3 ((S1.trans S2).trans S3) ?_⟩⟩
    rw[ef]
    exact f3
noncomputable def VW(K:PySem.W.Frag)(c:Nat→Addr):Sp:=fun vs H Q E=>∃l:List Nat,vs=[.str (tx l)]∧l.length≤500∧(QR l=none→∀H',Qz H H'→E (.ref (c 1)) none H')∧
 (∀x,QR l=some x→∀q p rs r H',Qz H H'→H' q=some (.tup [.ref p,.ref r])→H' r=some (fO x)→RowsAt K H' p rs (rowsOf l)→Q (.ref q) H')
theorem VX(F:Fun K "understood" "understood" Zv f fd)(T:Txt K mg tk c kr)(D_rows_of:Def P w K mg base 4 "rows_of" ["thing"] (qm K))(D_facts_of:Def P w K mg base 5 "facts_of" ["rows"] (J2 K JI)):
  FnOk P w K mg base (CXE P w) 6 f fd ["picture"] (VW K c):=by
 refine okE F ZR (fun vs H Q E h=>?_) (fun cdv A outer s H vs Q E hr h=>?_)
 ·obtain⟨l,rfl,_⟩:=h
  rfl
 ·obtain⟨l,rfl,hl,k1,k2⟩:=h
  have hz:1000≤sizeLine:=by decide
  have fr:=ZO (P:=P) (w:=w) (K:=K) (mg:=mg) (base:=base) (N:=["picture","rows","facts"]) (qual:="understood") (scope:=Qf Zv) (f:=f) (cd:=cdv) (A:=A) (outer:=outer) (s:=s) (H:=H) (E:=E)
  have ht:=Wg fr
  have hx:=Jr fr
  refine⟨_,(Qb (Qm (i:=1) ZR.nd rfl (Or.inl rfl) (D_rows_of.pe hr (by decide) rfl hx (Qa (pv 0) Qc)))
   (Qb (Qm (i:=2) ZR.nd rfl (Or.inl rfl) (D_facts_of.pe hr (by decide) rfl hx (Qa (pv 1) Qc)))
   (Qb (QL (ZJ (XS (pv 2))) (Qg (U6 ht rfl rfl T.m_NoPicture T.e_NoPicture (Qa Qd Qc))) Qy)
   (Qg (Qs (QK (Qa (pv 1) (Qa (pv 2) Qc)))))))),?_⟩
  refine⟨_,rfl,_,rowsOf l,rfl,.inl ⟨l,rfl,hl,rfl⟩,fun p rs H1 S1 R1=>⟨_,rfl,p,rs,rowsOf l,rfl,R1,fun v2 H2 S2 f2=>?_⟩⟩
  refine⟨_,rfl,_,rfl,?_⟩
  rw[f2.isN]
  cases e:JI (rowsOf l)with
  |none=>exact Q4 ⟨by show 1≤sizeLine;omega,k1 e _ (S1.trans S2)⟩
  |some x=>
   rw[e]at f2
   obtain⟨r,rfl,g⟩:=f2
   refine QX ⟨_,rfl,_,rfl,by show 2≤sizeLine;omega,fun q hq=>?_⟩
   have S3:=Qz.new (o:=.tup [.ref p,.ref r]) hq
   exact k2 x e q p rs r _ ((S1.trans S2).trans S3) Qe (S3 _ _ g) ((R1.same S2).same S3)
end
end Lw
set_option Elab.async false
set_option linter.all false
set_option maxRecDepth 100000
namespace K15
open K02 K04 PySem.NumText
noncomputable def fit(u o:Int)(a b:Nat):Int:=if K01.Uo u o b<0 then-(K01.Zi (K01.Uo u o b) % K01.ten ((a:Int)+b))else K01.Zi (K01.Uo u o b) % K01.ten ((a:Int)+b)
noncomputable def UJ(l:List Nat):List Nat:=l.dropLast++[l.getLast?.getD 48+64]
noncomputable def cont(s:Bool)(a b:Nat)(u o:Int):List Nat:=if s=true∧fit u o a b<0 then UJ (pad (fit u o a b).natAbs (a+b))else pad (fit u o a b).natAbs (a+b)
theorem zJ(u o:Int)(a b:Nat):(fit u o a b).natAbs<10^(a+b):=by
 have h1:=Int.emod_nonneg (K01.Zi (K01.Uo u o b)) (Int.ne_of_gt (K01.Jk ((a:Int)+b)))
 have h2:=Int.emod_lt_of_pos (K01.Zi (K01.Uo u o b)) (K01.Jk ((a:Int)+b))
 have h3:K01.ten ((a:Int)+b)=((10^(a+b):Nat):Int):=by
  unfold K01.ten
  have:((a:Int)+b).toNat=a+b:=by omega
  rw[this]
  push_cast
  rfl
 rw[h3]at h1 h2
 unfold fit
 rw[h3]
 split<;>omega
end K15
namespace Lw
open PySem PySem.Spec PyProof.Rows L2 K02 K04 K15
open Builtin Builtin.Str StrLaws
theorem kA:∀ls:List (List Nat),Txt.join "" (ls.map tx)=tx ls.flatten:=by
 intro ls
 show Builtin.Str.glued _ _=_
 rw[StrLaws.glued_eq_join]
 have e:("":Str)=tx []:=by decide+kernel
 rw[e]
 induction ls with
 |nil=>rfl
 |cons a r ih=>
  cases r with
  |nil=>simp[PySem.Str.join]
  |cons b r=>
   show tx a++tx []++PySem.Str.join (tx []) ((b::r).map tx)=_
   rw[ih,QM,QM,List.flatten_cons (l:=a),List.append_nil]
theorem zK:∀(ls:List (List Nat))(n:Nat),(ls.map tx).foldl (fun(m:Nat)(s:Str)=>m+s.length+("":Str).length) n=n+ls.flatten.length:=by
 have e:("":Str).length=0:=by decide+kernel
 intro ls
 induction ls with
 |nil=>intro n;rfl
 |cons a r ih=>
  intro n
  show(r.map tx).foldl _ (n+(tx a).length+("":Str).length)=_
  rw[ih,e,Qj,List.flatten_cons,List.length_append]
  omega
theorem kB{ls:List (List Nat)}(h:ls.flatten.length≤1000):JoinOk "" (ls.map tx)=true:=by
 unfold JoinOk
 rw[←Array.foldl_toList,List.toList_toArray,zK]
 unfold tooLong
 have hz:1000≤sizeLine:=by decide
 rw[decide_eq_false (by omega)]
 rfl
theorem Zj(ch k:Nat):L2.KU (tx [ch]) k=tx (List.replicate k ch):=by
 rw[VA (L2.KU (tx [ch]) k)]
 congr 1
 unfold L2.KU
 have:∀(l:List (Array Nat))(acc:Array Nat),(l.foldl (· ++ ·) acc).toList=acc.toList++(l.map (·.toList)).flatten:=by
  intro l
  induction l with
  |nil=>intro acc;simp
  |cons a r ih=>intro acc;rw[List.foldl_cons,ih];simp
 rw[this]
 simp only[List.map_replicate]
 induction k with
 |zero=>rfl
 |succ k ih=>simp[List.replicate_succ]at ih ⊢
section
variable {P:Program}{w:World}{K:PySem.W.Frag}{mg:Str→Option Value}{base:Heap}{f:Addr}{fd:FuncData}{tk:Nat→Tok}{c kr:Nat→Addr}
noncomputable def zL:Sp:=fun vs H Q _=>∃a b:Int,vs=[.int a,.int b]∧b≠0∧b.natAbs<2^2000∧Q (.int (K01.xK a b)) H
theorem YV{b:Int}{n:Nat}(h:b.natAbs<n):(if b<0 then-b else b).natAbs<n:=by split<;>omega
theorem vU{b:Int}(h:b≠0):0<(if b<0 then-b else b):=by split<;>omega
theorem WF(F:Fun K "quotient_cut" "quotient_cut" ZB f fd)(O:Own mg):FnOk P w K mg base (CXE P w) 1 f fd ["number","by"] zL:=by
 refine okN F Xe (fun vs H Q E h=>?_) (fun cdv A outer s H vs Q E hr h=>?_)
 ·obtain⟨a,b,rfl,_⟩:=h
  rfl
 ·obtain⟨a,b,rfl,h1,h2,k⟩:=h
  refine⟨_,(Qb (Qm (i:=2) Xe.nd rfl (Or.inl rfl) (Qn KS (Qq J3 rfl O.abs PyProof.Rows.boot_abs (Qa (pv 0) Qc)) (Qq J3 rfl O.abs PyProof.Rows.boot_abs (Qa (pv 1) Qc))))
   (Qg (Qs (QD (Ql Zc (Jy Xz (pv 0) Qh (Qp _)) (Jy Xz (pv 1) Qh (Qp _)) (Qp _)) (WP Xt (pv 2)) (pv 2))))),?_⟩
  refine⟨_,rfl,a,rfl,_,rfl,b,rfl,_,_,rfl,rfl,⟨vU h1,YV h2⟩,?_⟩
  refine⟨_,rfl,_,_,rfl,rfl,_,rfl,_,_,rfl,rfl,rfl,_,rfl,?_⟩
  refine ifB (fun z=>?_) (fun z=>?_)
  ·refine⟨_,rfl,_,rfl,?_⟩
   have e:K01.xK a b= -(K01.Zi a/K01.Zi b):=by unfold K01.xK;rw[if_pos (by rw[←yP];exact z)]
   rw[e]at k
   exact k
  ·refine⟨_,rfl,?_⟩
   have e:K01.xK a b=K01.Zi a/K01.Zi b:=by unfold K01.xK;rw[if_neg (by rw[←yP];exact fun q=>Bool.noConfusion (z.symm.trans q))]
   rw[e]at k
   exact k
structure Amt(K:PySem.W.Frag)(H:Hp)(a:Addr)(u o:Int):Prop where
 sq:SqT K H a [.int u,.int o]
 bd:u.natAbs<2^200
 lo:0≤o
 hi:o≤18
theorem Amt.same{H H':Hp}{a:Addr}{u o:Int}(A:Amt K H a u o)(e:Qz H H'):Amt K H' a u o:=⟨A.sq.same e,A.bd,A.lo,A.hi⟩
noncomputable def zM(K:PySem.W.Frag):Sp:=fun vs H Q _=>∃(a:Addr)(u o p:Int),vs=[.ref a,.int p]∧Amt K H a u o∧0≤p∧p≤18∧∀q,H q=none→Q (.ref q) (upd H q (.tup [.int (K01.Uo u o p),.int p]))
theorem Qar(F:Fun K "cut" "cut" vO f fd)(O:Own mg)(D_ten_to:Def P w K mg base 1 "ten_to" ["many"] YL)(D_quotient_cut:Def P w K mg base 1 "quotient_cut" ["number","by"] zL):FnOk P w K mg base (CXE P w) 2 f fd ["amount","places"] (zM K):=by
 refine okN F zy (fun vs H Q E h=>?_) (fun cdv A outer s H vs Q E hr h=>?_)
 ·obtain⟨a,u,o,p,rfl,_⟩:=h
  rfl
 ·obtain⟨a,u,o,p,rfl,M,h1,h2,k⟩:=h
  have b1:=M.lo
  have b2:=M.hi
  refine⟨_,(Qb (Jf (pv 0) (Q1 rfl (Qi (Qk (i:=2) zy.nd rfl (Or.inl rfl)) (Qi (Qk (i:=3) zy.nd rfl (Or.inl rfl)) QG))))
   (Qg (Qs (QK (Qa (D_quotient_cut.pe hr (by decide) rfl Qw (Qa (Qn Z8 (pv 2) (D_ten_to.pe hr (by decide) rfl Qw (Qa (Qn Zh (pv 1) (pv 3)) Qc))) (Qa (D_ten_to.pe hr (by decide) rfl Qw (Qa (Qn Zh (pv 3) (pv 1)) Qc)) Qc))) (Qa (pv 1) Qc)))))),?_⟩
  refine⟨_,rfl,a,_,rfl,M.sq,rfl,_,_,rfl,_,_,rfl,rfl,?_⟩
  refine⟨_,rfl,_,rfl,_,rfl,_,_,rfl,rfl,_,rfl,by omega,by omega,_,_,rfl,rfl,⟨big M.bd,big (Xj (by omega))⟩,?_⟩
  refine⟨_,rfl,_,rfl,_,_,rfl,rfl,_,rfl,by omega,by omega,?_⟩
  refine⟨_,_,rfl,Int.ne_of_gt (K01.Jk _),big (Xj (by omega)),?_⟩
  exact⟨_,rfl,by show 2≤sizeLine;decide,k⟩
noncomputable def kC(K:PySem.W.Frag):Sp:=fun vs H Q _=>∃(p:Addr)(u o:Int)(a b:Nat),vs=[.ref p,.int (a:Nat),.int (b:Nat)]∧Amt K H p u o∧a+b≤18∧∀H',Qz H H'→Q (.int (fit u o a b)) H'
theorem zN(F:Fun K "fitted" "fitted" VJ f fd)(O:Own mg)(D_ten_to:Def P w K mg base 1 "ten_to" ["many"] YL)(D_cut:Def P w K mg base 2 "cut" ["amount","places"] (zM K)):FnOk P w K mg base (CXE P w) 3 f fd ["amount","before","behind"] (kC K):=by
 refine okN F Wu (fun vs H Q E h=>?_) (fun cdv A outer s H vs Q E hr h=>?_)
 ·obtain⟨p,u,o,a,b,rfl,_⟩:=h
  rfl
 ·obtain⟨p,u,o,a,b,rfl,M,hab,k⟩:=h
  refine⟨_,(Qb (Qm (i:=3) Wu.nd rfl (Or.inl rfl) (QJ Jq (D_cut.pe hr (by decide) rfl Qw (Qa (pv 0) (Qa (pv 2) Qc))) Qh (fun _ _=>rfl)))
   (Qb (Qm (i:=4) Wu.nd rfl (Or.inl rfl) (Qn K9 (Qq J3 rfl O.abs PyProof.Rows.boot_abs (Qa (pv 3) Qc)) (D_ten_to.pe hr (by decide) rfl Qw (Qa (Qn QT (pv 1) (pv 2)) Qc))))
   (Qg (Qs (QD (Ql Xz (pv 3) Qh (Qp _)) (WP Xt (pv 4)) (pv 4)))))),?_⟩
  refine⟨_,rfl,_,rfl,p,u,o,(b:Int),rfl,M,by omega,by omega,fun q hq=>⟨q,_,_,_,rfl,rfl,SqT.of Qe,rfl,?_⟩⟩
  have S1:=Qz.new (o:=.tup [.int (K01.Uo u o b),.int (b:Int)]) hq
  refine⟨_,rfl,_,rfl,_,rfl,_,rfl,_,_,rfl,rfl,(a:Int)+b,rfl,by omega,by omega,_,_,rfl,rfl,K01.Jk _,?_⟩
  refine⟨_,rfl,_,_,rfl,rfl,_,rfl,?_⟩
  have k:=k _ S1
  refine ifB (fun z=>?_) (fun z=>?_)
  ·refine⟨_,rfl,_,rfl,?_⟩
   have e:fit u o a b= -(K01.Zi (K01.Uo u o b) % K01.ten ((a:Int)+b)):=by unfold fit;rw[if_pos (of_decide_eq_true z)]
   rw[e]at k
   exact k
  ·refine⟨_,rfl,?_⟩
   have e:fit u o a b=K01.Zi (K01.Uo u o b) % K01.ten ((a:Int)+b):=by unfold fit;rw[if_neg (of_decide_eq_false z)]
   rw[e]at k
   exact k
noncomputable def qt:Sp:=fun vs H Q _=>∃n:Nat,vs=[.int n]∧n<10^18∧∀H',Qz H H'→Q (.str (tx (dec n))) H'
theorem VY(F:Fun K "figures_of" "figures_of" Xd f fd)(O:Own mg)(T:Txt K mg tk c kr)(D_ten_to:Def P w K mg base 1 "ten_to" ["many"] YL):FnOk P w K mg base (CXE P w) 2 f fd ["number"] qt:=by
 refine okN F JX (fun vs H Q E h=>?_) (fun cdv A outer s H vs Q E hr h=>?_)
 ·obtain⟨n,rfl,_⟩:=h
  rfl
 ·obtain⟨n,rfl,hn,k⟩:=h
  refine⟨_,(Qb (Qm (i:=1) JX.nd rfl (Or.inl rfl) (D_ten_to.pe hr (by decide) rfl Qw (Qa (QC (v:=V.int 18) rfl T.m_PART ⟨_,rfl⟩) Qc)))
   (Qb (Qm (i:=2) JX.nd rfl (Or.inl rfl) (JH Qc))
   (Qb (KM PassesOwn.never (Ql jw (pv 0) (pv 1) (Qp _)) (Qb (Jf (Qq Uc rfl O.divmod PyProof.Rows.boot_divmod (Qa (pv 0) (Qa (pv 1) Qc))) (Q1 rfl (Qi (Qk (i:=0) JX.nd rfl (Or.inl rfl)) (Qi (Qk (i:=3) JX.nd rfl (Or.inl rfl)) QG))))
   (Qg (Z3 (JS PySem.F.plainAttrs_list PySem.F.slot_list_append PySem.F.type_list_append J7 (pv 2) (Qa (JS PySem.F.plainAttrs_str PySem.F.slot_str_zfill PySem.F.type_str_zfill Vy (Ja JP rfl O.str PyProof.Rows.boot_str (Qa (pv 3) Qc)) (Qa (QC (v:=V.int 18) rfl T.m_PART ⟨_,rfl⟩) Qc)) Qc))))))
   (Qb (Z3 (JS PySem.F.plainAttrs_list PySem.F.slot_list_append PySem.F.type_list_append J7 (pv 2) (Qa (Ja JP rfl O.str PyProof.Rows.boot_str (Qa (pv 0) Qc)) Qc)))
   (Qg (Qs (qR rfl rfl O.reversed Qd (pv 2)))))))),?_⟩
  refine⟨18,rfl,by decide,by decide,by show 0≤sizeLine;decide,fun p hp=>?_⟩
  have S1:=Qz.new (o:=.lst []) hp
  refine⟨fun m σ H2=>σ=[some (.int (n:Int)),some (.int (K01.ten 18)),some (.ref p),none]∧H2=upd H p (.lst []),⟨0,rfl,rfl⟩,?_⟩
  rintro m σ H2 ⟨rfl,rfl⟩
  refine⟨_,rfl,_,rfl,_,_,rfl,rfl,_,rfl,?_⟩
  have h18:K01.ten 18=10^18:=by decide
  refine ifB (fun q=>absurd (of_decide_eq_true q) (by rw[h18];omega)) (fun _=>?_)
  have hlog:(n:Int).natAbs.log2<1920:=by
   rw[Int.natAbs_natCast]
   by_cases h0:n=0
   ·rw[h0];decide
   ·exact(Nat.log2_lt h0).mpr (Nat.lt_trans hn (by decide))
  refine⟨_,rfl,.inl ⟨rfl,_,.inl (.inl Qe)⟩,_,rfl,(n:Int),rfl,hlog,p,[],_,rfl,rfl,Qe,by show 0<sizeLine;decide,?_⟩
  rw[K02.Z4]
  have S2:Qz H (upd (upd H p (.lst [])) p (.lst ([]++[.str (tx (dec n))]))):=fun b o e=>by
   have hb:=Qv e hp
   rw[Qt hb,Qt hb]
   exact e
  have hdl:=VC (n:=n) (Nat.lt_trans hn (by decide))
  refine⟨"",rfl,_,rfl,p,[tx (dec n)],rfl,Qe,?_,?_⟩
  ·have hjl:=Qj (dec n)
   show(!Builtin.Str.tooLong (0+(tx (dec n)).length+("":Str).length))=true
   rw[hjl]
   have he:("":Str).length=0:=by decide+kernel
   rw[he]
   unfold Builtin.Str.tooLong
   have hz:1000≤sizeLine:=by decide
   rw[decide_eq_false (by omega)]
   rfl
  ·have ej:Txt.join "" [tx (dec n)].reverse=tx (dec n):=by
    show Builtin.Str.glued _ _=_
    rw[StrLaws.glued_eq_join]
    rfl
   rw[ej]
   exact k _ S2
theorem WG{i:Int}(h0:0≤i)(h1:i≤1000):PadOk i=true:=by
 obtain⟨n,rfl⟩:=Int.eq_ofNat_of_zero_le h0
 have:n≤1000:=by omega
 have key:∀m:Nat,m≤1000→PadOk ((m:Nat):Int)=true:=by
  intro m hm
  unfold PadOk fitsSsize
  have e1:Builtin.Str.tooLong ((m:Nat):Int).toNat=false:=by
   unfold Builtin.Str.tooLong
   have hz:1000≤sizeLine:=by decide
   rw[Int.toNat_natCast]
   exact decide_eq_false (by omega)
  rw[e1]
  simp
  omega
 exact key n this
noncomputable def WH(K:PySem.W.Frag)(c:Nat→Addr):Sp:=fun vs H Q E=>∃(l:List Nat)(k:Nat),vs=[.str (kindS k),.str (tx l)]∧l.length≤500∧k≤3∧((∀x,QR l=some x→x.kind≤3∧x.kind≠k)→∀H',Qz H H'→E (.ref (c 2)) none H')∧
 (∀x,QR l=some x→x.kind=k→∀q p rs r H',Qz H H'→H' q=some (.tup [.ref p,.ref r])→H' r=some (.tup [.bl x.signed,.int (x.before:Nat),.int (x.behind:Nat)])→RowsAt K H' p rs (rowsOf l)→Q (.ref q) H')
theorem Kc:∀a≤3,∀b≤3,decide (V.str (kindS a)=V.str (kindS b))=decide (a=b):=by decide+kernel
theorem kD{ld pl:List Nat}{many JB:Nat}{o:Option Nat}{tl:Option (List Nat)}{x:Facts}(h:Xk ld pl many JB o tl=some x):x.kind≤3:=by
 unfold Xk at h
 split at h
 ·dsimp only at h
  repeat' (split at h)
  all_goals first
   |(cases h;done)
   |(have:=Option.some.inj h;rw[←this];exact Nat.le_refl _)
 ·cases h
theorem vV{rows:List Rw}{x:Facts}(h:Q5 rows=some x):x.kind≤3:=by
 have e:Q5 rows=Xk (Zr rows).1 (QO (Zr rows).2).1 (QO (Zr rows).2).2.1 (QO (Zr rows).2).2.2.1 (Q3 (QO (Zr rows).2).2.2.2 (if(QO (Zr rows).2).2.2.1=0 then(QO (Zr rows).2).1 else[57])).1
  (Xx (Q3 (QO (Zr rows).2).2.2.2 (if(QO (Zr rows).2).2.2.1=0 then(QO (Zr rows).2).1 else[57])).2):=rfl
 rw[e]at h
 exact kD h
theorem kE{l:List Nat}{x:Facts}(h:QR l=some x):x.kind≤3:=by
 unfold QR JI at h
 cases e1:QQ (rowsOf l)with
 |some y=>
  rw[e1]at h
  have e:y=x:=Option.some.inj h
  subst e
  unfold QQ at e1
  split at e1
  ·split at e1
   ·split at e1
    ·cases e1
    ·cases e1;exact(show(2:Nat)≤3 by decide)
   ·cases e1
  ·cases e1
 |none=>
  rw[e1]at h
  cases e2:Js (rowsOf l)with
  |some y=>
   rw[e2]at h
   have e:y=x:=Option.some.inj h
   subst e
   unfold Js at e2
   split at e2
   ·split at e2
    ·cases e2
    ·cases e2;show(if _ then 0 else 1)≤3;split<;>decide
   ·cases e2
  |none=>
   rw[e2]at h
   exact vV h
theorem KJ(F:Fun K "understood_as" "understood_as" JY f fd)(T:Txt K mg tk c kr)(D_rows_of:Def P w K mg base 4 "rows_of" ["thing"] (qm K))(D_facts_of:Def P w K mg base 5 "facts_of" ["rows"] (J2 K JI)):
  FnOk P w K mg base (CXE P w) 6 f fd ["kind","picture"] (WH K c):=by
 refine okE F Ze (fun vs H Q E h=>?_) (fun cdv A outer s H vs Q E hr h=>?_)
 ·obtain⟨l,k,rfl,_⟩:=h
  rfl
 ·obtain⟨l,kd,rfl,hl,hk3,k1,k2⟩:=h
  have hz:1000≤sizeLine:=by decide
  have fr:=ZO (P:=P) (w:=w) (K:=K) (mg:=mg) (base:=base) (N:=["kind","picture","rows","facts"]) (qual:="understood_as") (scope:=Qf JY) (f:=f) (cd:=cdv) (A:=A) (outer:=outer) (s:=s) (H:=H) (E:=E)
  have ht:=Wg fr
  have hx:=Jr fr
  refine⟨_,(Qb (Qm (i:=2) Ze.nd rfl (Or.inl rfl) (D_rows_of.pe hr (by decide) rfl hx (Qa (pv 1) Qc)))
   (Qb (Qm (i:=3) Ze.nd rfl (Or.inl rfl) (D_facts_of.pe hr (by decide) rfl hx (Qa (pv 2) Qc)))
   (Qb (QL (PW.pt (Z0 (ZJ (XS (pv 3))) (J6 (Ql Zc (QJ Jq (pv 3) Qh (fun _ _=>rfl)) (pv 0) (Qp _))))) (Qg (U6 ht rfl rfl T.m_NoRoom T.e_NoRoom (Qa Qd Qc))) Qy)
   (Qg (Qs (QK (Qa (pv 2) (Qa (Q6 yx (pv 3) (Q7 Qh) JU) Qc)))))))),?_⟩
  refine⟨_,rfl,_,rowsOf l,rfl,.inl ⟨l,rfl,hl,rfl⟩,fun p rs H1 S1 R1=>⟨_,rfl,p,rs,rowsOf l,rfl,R1,fun v2 H2 S2 f2=>?_⟩⟩
  refine⟨_,rfl,_,rfl,?_⟩
  rw[f2.isN]
  have hpic:QR l=JI (rowsOf l):=rfl
  cases e:JI (rowsOf l)with
  |none=>exact Q4 (Q4 ⟨by show 1≤sizeLine;omega,k1 (fun x h=>by rw[hpic,e]at h;cases h) _ (S1.trans S2)⟩)
  |some x=>
   rw[e]at f2 hpic
   have hx3:=kE hpic
   obtain⟨r,rfl,g⟩:=f2
   refine QX ⟨_,rfl,r,_,_,_,rfl,rfl,SqT.of g,rfl,_,rfl,rfl,_,rfl,?_⟩
   rw[Kc _ hx3 _ hk3]
   by_cases hkk:x.kind=kd
   ·rw[decide_eq_true hkk]
    refine QX ⟨_,rfl,_,rfl,_,rfl,r,_,rfl,SqT.of g,(fun z=>absurd (show HT.sIx 4 0 (some 1)=0 from z.1) (by decide)),fun q5 hq5=>?_⟩
    have S5:=Qz.new (o:=.tup [.bl x.signed,.int (x.before:Nat),.int (x.behind:Nat)]) hq5
    have g5:upd H2 q5 (.tup [.bl x.signed,.int (x.before:Nat),.int (x.behind:Nat)]) q5=some (.tup [.bl x.signed,.int (x.before:Nat),.int (x.behind:Nat)]):=Qe
    refine⟨by show 2≤sizeLine;omega,fun q6 hq6=>?_⟩
    have S6:=Qz.new (o:=.tup [.ref p,.ref q5]) hq6
    exact k2 x hpic hkk q6 p rs q5 _ (((S1.trans S2).trans S5).trans S6) Qe (S6 _ _ g5) (((R1.same S2).same S5).same S6)
   ·rw[decide_eq_false hkk]
    exact Q4 ⟨by show 1≤sizeLine;omega,k1 (fun y h=>by rw[hpic]at h;cases h;exact⟨hx3,hkk⟩) _ (S1.trans S2)⟩
theorem Vm{p:Addr}{rs:List Addr}{rows:List Rw}{te:TE}{tt:TT}{NB:List Str}{n i:Nat}{σ:L2.St}{H:Hp}{Q:VK}(val:Rw→V)(ok:Rw→Bool)(hNB:NB.length=3)(hn:n=2)(hσ:σ[i]? =some (some (.ref p)))(R:RowsAt K H p rs rows)
  (htt:∀x∈rows,∀(H1:Hp)(R:Bool→Hp→Prop),R (ok x) H1→tt [none,some (.str (tx [x.1])),some (.int (x.2:Nat))] H1 R)
  (hte:∀x∈rows,∀(H1:Hp)(Q:VK),(∀H2,Qz H1 H2→Q (val x) H2)→te [none,some (.str (tx [x.1])),some (.int (x.2:Nat))] H1 Q)
  (hd:∀q H1,Qz H H1→H1 q=none→Q (.ref q) (upd H1 q (.lst ((rows.filter ok).map val)))):
  Uk NB (wI K (Kx i)) (yq K n (Ua (JD 1) (Ua (JD 2) QaJ))) tt te σ H Q:=by
 have hz:1000≤sizeLine:=by decide
 have hl:=R.le
 have hlen:=R.len
 refine⟨_,hσ,p,rfl,⟨_,R.sq⟩,?_⟩
 refine YS (xs:=rs.map V.ref) (fun i vs H2=>Qz H H2∧vs=((rows.take i).filter ok).map val) ⟨Qz.refl H,rfl⟩ ?_ ?_ ?_ (by omega)
 ·rintro i vs H2 hi ⟨S,rfl⟩
  exact⟨(R.same S).sq,by rw[List.length_map];exact Nat.le_trans (List.length_filter_le _ _) (by rw[List.length_take];omega)⟩
 ·rintro i x vs H2 hx ⟨S,rfl⟩
  rw[List.getElem?_map]at hx
  obtain⟨r,hr,rfl⟩:=Option.map_eq_some_iff.mp hx
  obtain⟨y,hy,g⟩:=(R.same S).rw.at' hr
  subst hn
  rw[hNB]
  have hm:=List.mem_of_getElem? hy
  have htk:(rows.take (i+1)).filter ok=(rows.take i).filter ok++if ok y=true then[y]else[]:=by
   rw[List.take_add_one,hy,List.filter_append]
   congr 1
   show List.filter ok [y]=_
   rw[List.filter_cons]
   rfl
  refine⟨r,_,rfl,SqT.of g,rfl,_,_,rfl,_,_,rfl,rfl,?_⟩
  refine htt y hm _ _ ?_
  rw[htk]
  cases ok y with
  |true=>exact Q4 (hte y hm _ _ fun H3 S3=>⟨S.trans S3,by simp⟩)
  |false=>exact QX ⟨S,by simp⟩
 ·rintro vs H2 ⟨S,rfl⟩ q hq
  rw[List.take_of_length_le (by omega)]
  exact hd q H2 S hq
noncomputable def vW(K:PySem.W.Frag):Sp:=fun vs H Q _=>∃(p:Addr)(rs:List Addr)(rows:List Rw),vs=[.ref p]∧RowsAt K H p rs rows∧Pos 100 rows∧(un rows).length≤1000∧∀H',Qz H H'→Q (.str (tx (un rows))) H'
theorem kF(rows:List Rw):rows.filter (fun _=>true)=rows:=by simp
theorem WZ(F:Fun K "written_out" "written_out" ZS f fd)(O:Own mg):FnOk P w K mg base (CXE P w) 1 f fd ["rows"] (vW K):=by
 refine okN F WV (fun vs H Q E h=>?_) (fun cdv A outer s H vs Q E hr h=>?_)
 ·obtain⟨p,rs,rows,rfl,_⟩:=h
  rfl
 ·obtain⟨p,rs,rows,rfl,R,hp,hl,k⟩:=h
  have hz:1000≤sizeLine:=by decide
  refine⟨_,(Qg (Qs (JS PySem.F.plainAttrs_str PySem.F.slot_str_join PySem.F.type_str_join XD Qd (Qa (ZQ (NB:=[".0","symbol","many"]) rfl ⟨rfl,by decide+kernel,by decide+kernel,by decide+kernel⟩ (Ke (pv 0)) (fun _ _ _=>(WC (K0:=K) (n:=2) rfl rfl (Qi (Qk (i:=1) (show([".0","symbol","many"]:List Str).Nodup by decide+kernel) rfl (Or.inl rfl) (Or.inr rfl)) (Qi (Qk (i:=2) (show([".0","symbol","many"]:List Str).Nodup by decide+kernel) rfl (Or.inl rfl) (Or.inr rfl)) QG)))) (fun _ _ _=>XC) (fun _ _ _=>(Qn QB (pv 1) (pv 2)))) Qc)))),?_⟩
  refine⟨rfl,?_⟩
  refine Vm (p:=p) (rs:=rs) (rows:=rows) (fun x=>.str (tx (List.replicate x.2 x.1))) (fun _=>true) rfl rfl rfl R (fun x hx H1 R h=>h) (fun x hx H1 Q h=>?_) (fun q H1 S hq=>?_)
  ·obtain⟨h1,h2,h3⟩:=hp x hx
   refine⟨_,rfl,_,rfl,tx [x.1],(x.2:Int),rfl,rfl,by omega,by rw[Qj,Int.toNat_natCast,List.length_singleton];omega,by omega,?_⟩
   rw[Int.toNat_natCast,Zj]
   exact h _ (Qz.refl _)
  ·rw[kF]
   have em:(rows.map fun x=>V.str (tx (List.replicate x.2 x.1)))=((rows.map fun x=>List.replicate x.2 x.1).map tx).map V.str:=by rw[List.map_map,List.map_map];rfl
   have ef:(rows.map fun x=>List.replicate x.2 x.1).flatten=un rows:=by rw[un,List.flatMap_def]
   rw[em]
   refine⟨"",q,_,rfl,rfl,SqL.of Qe,kB (by rw[ef];exact hl),?_⟩
   rw[kA,ef]
   exact k _ (S.trans (Qz.new hq))
structure PicAt(a l:List Nat)(x:Facts):Prop where
 pc:QR l=some x
 sh:Sh a l
 no:40∉a
 la:a.length≤100
 ll:l.length≤500
noncomputable def zO:Sp:=fun vs H Q _=>∃(a l:List Nat)(x:Facts),vs=[.str (tx l)]∧PicAt a l x∧∀H',Qz H H'→Q (.int ((a.filter Uy).length:Nat)) H'
theorem jd(F:Fun K "size_of" "size_of" Ka f fd)(O:Own mg)(D_understood:Def P w K mg base 6 "understood" ["picture"] (VW K c)):FnOk P w K mg base (CXE P w) 7 f fd ["picture"] zO:=by
 refine okE F Kp (fun vs H Q E h=>?_) (fun cdv A outer s H vs Q E hr h=>?_)
 ·obtain⟨a,l,x,rfl,_⟩:=h
  rfl
 ·obtain⟨a,l,x,rfl,hp,k⟩:=h
  have fr:=ZO (P:=P) (w:=w) (K:=K) (mg:=mg) (base:=base) (N:=["picture","rows","facts"]) (qual:="size_of") (scope:=Qf Ka) (f:=f) (cd:=cdv) (A:=A) (outer:=outer) (s:=s) (H:=H) (E:=E)
  have hx:=Jr fr
  have hla:=hp.la
  have e83:("S":Str)=tx [83]:=by decide+kernel
  have e86:("V":Str)=tx [86]:=by decide+kernel
  refine⟨_,(Qb (Jf (D_understood.pe hr (by decide) rfl hx (Qa (pv 0) Qc)) (Q1 rfl (Qi (Qk (i:=1) Kp.nd rfl (Or.inl rfl)) (Qi (Qk (i:=2) Kp.nd rfl (Or.inl rfl)) QG))))
   (Qg (Qs (Qq (qb rfl) rfl O.sum L2.boot_sum (Qa (ZQ (NB:=[".0","symbol","many"]) rfl ⟨rfl,by decide+kernel,by decide+kernel,by decide+kernel⟩ (Ke (pv 1)) (fun _ _ _=>(WC (K0:=K) (n:=2) rfl rfl (Qi (Qk (i:=1) (show([".0","symbol","many"]:List Str).Nodup by decide+kernel) rfl (Or.inl rfl) (Or.inr rfl)) (Qi (Qk (i:=2) (show([".0","symbol","many"]:List Str).Nodup by decide+kernel) rfl (Or.inl rfl) (Or.inr rfl)) QG)))) (fun _ _ _=>(Vw (PW.pt (Jp (Ql Zc (pv 1) Qd (Qp _)) (Je (Ql Zc (pv 1) Qd (Qp _))))))) (fun _ _ _=>(pv 2))) Qc))))),?_⟩
  refine⟨_,rfl,l,rfl,hp.ll,(fun z=>by rw[hp.pc]at z;cases z),fun x2 e q p rs r H1 S1 g1 g2 R1=>?_⟩
  refine⟨q,_,rfl,SqT.of g1,rfl,_,_,rfl,_,_,rfl,rfl,?_⟩
  dsimp only[QaI,tCB,JN,W7]
  refine Vm (p:=p) (rs:=rs) (rows:=rowsOf l) (fun x=>.int (x.2:Nat)) (fun x=>Uy x.1) rfl rfl rfl R1 (fun x hx H1 R h=>?_) (fun x hx H1 Q h=>⟨_,rfl,h _ (Qz.refl _)⟩) (fun q H2 S hq=>?_)
  ·have hd:Uy x.1=(!decide (x.1=83)&& !decide (x.1=86)):=by
    unfold Uy
    by_cases z1:x.1=83<;>by_cases z2:x.1=86<;>simp[z1,z2]
   rw[hd]at h
   refine⟨_,rfl,rfl,_,rfl,?_⟩
   rw[e83,Q0]
   cases h1:decide (x.1=83)with
   |true=>rw[h1]at h;exact QX h
   |false=>
    rw[h1]at h
    refine Q4 ⟨_,rfl,rfl,_,rfl,?_⟩
    rw[e86,Q0]
    exact h
  ·have em:(((rowsOf l).filter fun x=>Uy x.1).map fun x=>V.int (x.2:Nat))=(((rowsOf l).filter fun x=>Uy x.1).map fun x=>((x.2:Nat):Int)).map V.int:=by rw[List.map_map];rfl
   have es:∀rows:List Rw,(rows.map fun x=>((x.2:Nat):Int)).sum=(((rows.map (·.2)).sum:Nat):Int):=by
    intro rows
    induction rows with
    |nil=>rfl
    |cons y r ih=>rw[List.map_cons,List.sum_cons,ih,List.map_cons,List.sum_cons];push_cast;rfl
   rw[em]
   refine⟨q,_,rfl,SqL.of Qe,?_⟩
   rw[es]
   have:=ke a
   rw[←YD hp.sh]at this
   unfold szR at this
   rw[this]
   exact k _ (S1.trans (S.trans (Qz.new hq)))
end
end Lw
set_option Elab.async false
set_option linter.all false
set_option maxRecDepth 100000
namespace Lw
open PySem PySem.Spec PyProof.Rows L2 K02 K04 K15 K09
open Builtin Builtin.Str StrLaws
noncomputable def dv(ps:List (Nat × Nat)):List (Key × V):=ps.map fun x=>(Sum.inr (tx [x.1]),V.str (tx [x.2]))
theorem vX(c:Nat):∀ps:List (Nat × Nat),Kz (dv ps) (Sum.inr (tx [c]):Key)=(ps.lookup c).map fun d=>V.str (tx [d]):=by
 intro ps
 induction ps with
 |nil=>rfl
 |cons x r ih=>
  obtain⟨a,b⟩:=x
  unfold Kz dv at ih ⊢
  rw[List.map_cons,List.find?_cons,List.lookup_cons]
  by_cases h:a=c
  ·subst h
   simp
  ·have n1:decide ((Sum.inr (tx [a]):Key)=Sum.inr (tx [c]))=false:=decide_eq_false fun z=>h (List.cons.inj (Yv (Sum.inr.inj z))).1
   have n2:(c==a)=false:=beq_eq_false_iff_ne.mpr fun z=>h z.symm
   rw[n1,n2]
   exact ih
noncomputable def QbV:List (Nat × Nat):=[(44,44),(66,32),(48,48),(47,47),(46,46)]
noncomputable def nbP:List (Nat × Nat):=[(36,36),(43,43),(45,32),(67,32),(82,32),(68,32),(66,32)]
noncomputable def bwP:List (Nat × Nat):=[(36,36),(43,45),(45,45),(67,67),(82,82),(68,68),(66,66)]
noncomputable def Qas:List (Key × V):=[(Sum.inr ",",.str ","),(Sum.inr "B",.str " "),(Sum.inr "0",.str "0"),(Sum.inr "/",.str "/"),(Sum.inr ".",.str ".")]
noncomputable def nbV:List (Key × V):=[(Sum.inr "$",.str "$"),(Sum.inr "+",.str "+"),(Sum.inr "-",.str " "),(Sum.inr "C",.str " "),(Sum.inr "R",.str " "),(Sum.inr "D",.str " "),(Sum.inr "B",.str " ")]
noncomputable def bwV:List (Key × V):=[(Sum.inr "$",.str "$"),(Sum.inr "+",.str "-"),(Sum.inr "-",.str "-"),(Sum.inr "C",.str "C"),(Sum.inr "R",.str "R"),(Sum.inr "D",.str "D"),(Sum.inr "B",.str "B")]
theorem Qat:Qas=dv QbV:=by decide+kernel
theorem Qbq:nbV=dv nbP:=by decide+kernel
theorem Qbr:bwV=dv bwP:=by decide+kernel
theorem zP(c:Nat):Kz Qas (Sum.inr (tx [c]):Key)=(bes c).map fun d=>V.str (tx [d]):=by
 rw[Qat,vX]
 congr 1
 unfold QbV bes
 by_cases h1:c=44
 ·subst h1;rfl
 ·by_cases h2:c=66
  ·subst h2;rfl
  ·by_cases h3:c=48
   ·subst h3;rfl
   ·by_cases h4:c=47
    ·subst h4;rfl
    ·by_cases h5:c=46
     ·subst h5;rfl
     ·have e:∀a:Nat,c≠a→(c==a)=false:=fun a h=>beq_eq_false_iff_ne.mpr h
      simp[List.lookup_cons,h1,h2,h3,h4,h5,e 44 h1,e 66 h2,e 48 h3,e 47 h4,e 46 h5]
noncomputable def sgL:List Nat:=[36,43,45,67,82,68,66]
theorem Qbs{c:Nat}(h:c∈sgL):Kz nbV (Sum.inr (tx [c]):Key)=some (.str (tx [mkS false c])):=by
 rw[Qbq,vX]
 have:∀c∈sgL,nbP.lookup c=some (mkS false c):=by decide
 rw[this c h]
 rfl
theorem Qbt{c:Nat}(h:c∈sgL):Kz bwV (Sum.inr (tx [c]):Key)=some (.str (tx [mkS true c])):=by
 rw[Qbr,vX]
 have:∀c∈sgL,bwP.lookup c=some (mkS true c):=by decide
 rw[this c h]
 rfl
theorem ZY{l:List Nat}(h:∀x∈l,x<128):(tx l).cps.all (· <128)=true:=by
 rw[Array.all_eq_true']
 intro x hx
 have:x∈l:=by simpa using hx
 simpa using h x this
theorem wv{c:Nat}(h:c∈sgL):c<128:=by
 have:∀c∈sgL,c<128:=by decide
 exact this c h
theorem qu:("*":Str)=tx [42]:=by decide+kernel
theorem XO:(" ":Str)=tx [32]:=by decide+kernel
theorem Qbu:(".":Str)=tx [46]:=by decide+kernel
theorem Vn:("0":Str)=tx [48]:=by decide+kernel
theorem YW:("9":Str)=tx [57]:=by decide+kernel
theorem UK:("+-$":Str)=tx [43,45,36]:=by decide+kernel
theorem ww:(",B0/":Str)=tx [44,66,48,47]:=by decide+kernel
section
variable {P:Program}{w:World}{K:PySem.W.Frag}{mg:Str→Option Value}{base:Heap}{f:Addr}{fd:FuncData}{tk:Nat→Tok}{c kr:Nat→Addr}
theorem len_signs{l:List Nat}{NB:List Str}{tl:TE}{tt:TT}{σ:L2.St}{H:Hp}{Q:VK}(ok:Nat→Bool)(hNB:NB.length=2)(ha:∀x∈l,x<128) (hl:l.length≤900) (h:∀R:VK,R (.str (tx l)) H→tl σ H R)
  (htt:∀(y:Nat)(H1:Hp)(R:Bool→Hp→Prop),R (ok y) H1→tt [none,some (.str (tx [y]))] H1 R) (k:∀H',Qz H H'→Q (.int ((l.filter ok).length:Nat)) H'):
  tCB (fun xs H Q=>∃p ys,xs=[.ref p]∧(SqL K H p ys∨SqT K H p ys)∧Q (.int (ys.length:Nat)) H) (JN (Uk NB (QaO tl) (JD 1) tt (Kx 1)) W7) σ H Q:=by
 have hz:1000≤sizeLine:=by decide
 have htl:=Qj l
 dsimp only[tCB,JN,W7]
 refine VD (z:=tx l) (fun m vs H2=>vs=((l.take m).filter ok).map (fun c=>V.str (tx [c]))∧H2=H) h (ZY ha) ⟨rfl,rfl⟩ (fun m vs H hm⟨e,_⟩=>?_) ?_ ?_ (by show(tx l).length<sizeLine;omega)
 ·rw[e,List.length_map]
  exact Nat.le_trans (List.length_filter_le _ _) (by rw[List.length_take];omega)
 ·rintro m cc vs H1 hx ⟨rfl,rfl⟩
  have hx':l[m]? =some cc:=by simpa using hx
  have htk:l.take (m+1)=l.take m++[cc]:=by rw[List.take_add_one,hx'];rfl
  rw[show(⟨#[cc]⟩:Str)=tx [cc]from rfl,hNB]
  refine htt cc _ _ ?_
  rw[htk,List.filter_append]
  cases hn:ok cc with
  |true=>
   refine Q4 ⟨_,rfl,?_,rfl⟩
   rw[List.filter_cons,if_pos hn]
   simp
  |false=>
   refine QX ⟨?_,rfl⟩
   rw[List.filter_cons,if_neg (by rw[hn];decide)]
   simp
 ·rintro vs H1 ⟨rfl,rfl⟩ pv hpv
  rw[List.take_of_length_le (show l.length≤(tx l).cps.size by simp)]
  refine⟨pv,_,rfl,.inl (SqL.of Qe),?_⟩
  rw[List.length_map]
  exact k _ (Qz.new hpv)
noncomputable def qv:Sp:=fun vs H Q _=>∃(l:List Nat)(b:Bool),vs=[.str (tx l),.bl b]∧l.length≤100∧(∀x∈l,x∈sgL)∧∀H',Qz H H'→Q (.str (tx (l.map (mkS b)))) H'
theorem YX(F:Fun K "sign_text" "sign_text" XI f fd)(T:Txt K mg tk c kr)(KN:KDict P w K (kr 4) nbV)(KW:KDict P w K (kr 5) bwV):FnOk P w K mg base (CXE P w) 1 f fd ["symbols","is_below"] qv:=by
 refine okN F YK (fun vs H Q E h=>?_) (fun cdv A outer s H vs Q E hr h=>?_)
 ·obtain⟨l,b,rfl,_⟩:=h
  rfl
 ·obtain⟨l,b,rfl,hl,hs,k⟩:=h
  have hz:1000≤sizeLine:=by decide
  have htl:=Qj l
  refine⟨_,(Qg (Qs (JS PySem.F.plainAttrs_str PySem.F.slot_str_join PySem.F.type_str_join XD Qd (Qa (YA (NB:=[".0","symbol"]) (FR:=["is_below"]) (fi:=[1]) rfl ⟨rfl,by decide+kernel,by decide+kernel,by decide+kernel,by decide+kernel,by decide+kernel⟩ rfl rfl (Vd (pv 0)) (fun _ _ _=>(Qk (i:=1) (show([".0","symbol","is_below"]:List Str).Nodup by decide+kernel) rfl (Or.inl rfl))) (fun _ _ _=>XC) (fun _ _ _=>(QD (zg (K0:=K) rfl (pv 2) (fun _=>rfl)) (KY KW (QC (v:=V.ref (kr 5)) rfl T.m_BELOW rfl) (pv 1) (fun _ _=>rfl)) (KY KN (QC (v:=V.ref (kr 4)) rfl T.m_NOT_BELOW rfl) (pv 1) (fun _ _=>rfl))))) Qc)))),?_⟩
  refine⟨rfl,?_⟩
  refine YC (z:=tx l) (fv:=[.bl b]) (fun m vs H2=>vs=((l.take m).map (mkS b)).map (fun c=>V.str (tx [c]))∧H2=H) (fun R h=>⟨_,rfl,h⟩) (ZY fun x hx=>wv (hs x hx)) rfl ⟨rfl,rfl⟩ (fun m vs H hm⟨e,_⟩=>?_) ?_ ?_ (by show(tx l).length<sizeLine;omega)
  ·rw[e,List.length_map,List.length_map,List.length_take]
   omega
  ·rintro m cc vs H1 hx ⟨rfl,rfl⟩
   have hx':l[m]? =some cc:=by simpa using hx
   have hm:=hs cc (List.mem_of_getElem? hx')
   have htk:l.take (m+1)=l.take m++[cc]:=by rw[List.take_add_one,hx'];rfl
   rw[show(⟨#[cc]⟩:Str)=tx [cc]from rfl]
   refine⟨rfl,?_⟩
   dsimp only[wZ]
   refine Q4 ⟨_,rfl,b,rfl,?_⟩
   have fin:∀bb:Bool,bb=b→((l.take m).map (mkS b)).map (fun c=>V.str (tx [c]))++[.str (tx [mkS bb cc])]=((l.take (m+1)).map (mkS b)).map (fun c=>V.str (tx [c])):=fun bb e=>by rw[htk,e];simp
   cases b with
   |true=>exact Q4 ⟨_,rfl,Sum.inr (tx [cc]),_,rfl,rfl,Qbt hm,fin true rfl,rfl⟩
   |false=>exact QX ⟨_,rfl,Sum.inr (tx [cc]),_,rfl,rfl,Qbs hm,fin false rfl,rfl⟩
  ·rintro vs H1 ⟨rfl,rfl⟩ q hq
   rw[List.take_of_length_le (show l.length≤(tx l).cps.size by simp)]
   refine⟨"",q,(l.map (mkS b)).map fun c=>tx [c],rfl,rfl,SqL.of (by rw[Qe,List.map_map (f:=fun c=>tx [c])];rfl),Kk (by rw[List.length_map];omega),?_⟩
   rw[ZL]
   exact k _ (Qz.new hq)
noncomputable def UL:Sp:=fun vs H Q _=>∃(d:Nat)(r:List Nat),vs=[.str (tx (d::r))]∧r.length≤200∧Q (.bl (!(d::r).contains 57&& !flo d)) H
theorem WI(F:Fun K "hides_nought" "hides_nought" ZH f fd)(T:Txt K mg tk c kr):FnOk P w K mg base (CXE P w) 1 f fd ["body"] UL:=by
 refine okN F Wz (fun vs H Q E h=>?_) (fun cdv A outer s H vs Q E hr h=>?_)
 ·obtain⟨d,r,rfl,_⟩:=h
  rfl
 ·obtain⟨d,r,rfl,hl,k⟩:=h
  have hz:1000≤sizeLine:=by decide
  refine⟨_,(Qg (Qs (UY (Jy Q9 Qd (pv 0) (by with_unfolding_all rfl)) (UX (Jy Q9 (QJ XW (pv 0) Qh (fun _ _=>rfl)) (QC (v:=V.str "+-$") rfl T.m_FLOATING ⟨_,rfl⟩) (by with_unfolding_all rfl)))))),?_⟩
  refine⟨_,rfl,_,_,rfl,rfl,_,rfl,?_⟩
  rw[YW,JQ]
  cases h1:(d::r).contains 57 with
  |true=>rw[h1]at k;exact QX k
  |false=>
   rw[h1]at k
   have h0:(d::r)[0]? =some d:=rfl
   refine Q4 ⟨_,rfl,tx (d::r),(0:Int),d,rfl,rfl,by rw[Qj,List.length_cons];omega,Zd h0,_,_,rfl,rfl,?_⟩
   rw[show(⟨#[d]⟩:Str)=tx [d]from rfl,UK,JQ]
   exact k
noncomputable def VZ:Sp:=fun vs H Q _=>∃l:List Nat,vs=[.str (tx l)]∧l.length≤200∧(∀x∈l,x<128)∧∀H',Qz H H'→Q (.str (tx (X4 l))) H'
theorem W1(F:Fun K "nought_text" "nought_text" ZW f fd)(O:Own mg):FnOk P w K mg base (CXE P w) 1 f fd ["symbols"] VZ:=by
 refine okN F WW (fun vs H Q E h=>?_) (fun cdv A outer s H vs Q E hr h=>?_)
 ·obtain⟨l,rfl,_⟩:=h
  rfl
 ·obtain⟨l,rfl,hl,ha,k⟩:=h
  have hz:1000≤sizeLine:=by decide
  have htl:=Qj l
  refine⟨_,(Qb (QL (Ql Q9 Qd (pv 0) (by with_unfolding_all rfl)) (Qg (Qs (Qn QB Qd (Qq Jb rfl O.len PySem.boot_len (Qa (pv 0) Qc))))) Qy)
   (Qg (Qs (JS PySem.F.plainAttrs_str PySem.F.slot_str_join PySem.F.type_str_join XD Qd (Qa (ZQ (NB:=[".0","symbol"]) rfl ⟨rfl,by decide+kernel,by decide+kernel,by decide+kernel⟩ (Vd (pv 0)) (fun _ _ _=>(Qk (i:=1) (show([".0","symbol"]:List Str).Nodup by decide+kernel) rfl (Or.inl rfl))) (fun _ _ _=>XC) (fun _ _ _=>(QD (Ql Jw (pv 1) Qd (Qp _)) Qd Qd))) Qc))))),?_⟩
  refine⟨_,rfl,_,_,rfl,rfl,_,rfl,?_⟩
  rw[qu,JQ]
  cases hst:l.contains 42 with
  |false=>
   have hn:X4 l=List.replicate l.length 32:=by unfold X4;rw[if_neg (fun z=>by rw[List.contains_iff_mem.mpr z]at hst;cases hst)]
   rw[hn]at k
   refine Q4 ⟨_,rfl,tx l,rfl,by omega,?_⟩
   rw[XO]
   refine⟨tx [32],((tx l).length:Int),rfl,rfl,by omega,by rw[Qj,Int.toNat_natCast,List.length_singleton];omega,by omega,?_⟩
   rw[Int.toNat_natCast,Zj,htl]
   exact k _ (Qz.refl _)
  |true=>
   have hn:X4 l=l.map (fun c=>if c=46 then 46 else 42):=by unfold X4;rw[if_pos (List.contains_iff_mem.mp hst)]
   rw[hn]at k
   refine QX ⟨rfl,?_⟩
   refine VD (z:=tx l) (fun m vs H2=>vs=((l.take m).map (fun c=>if c=46 then 46 else 42)).map (fun c=>V.str (tx [c]))∧H2=H) (fun R h=>⟨_,rfl,h⟩) (ZY ha) ⟨rfl,rfl⟩ (fun m vs H hm⟨e,_⟩=>?_) ?_ ?_ (by show(tx l).length<sizeLine;omega)
   ·rw[e,List.length_map,List.length_map,List.length_take]
    omega
   ·rintro m cc vs H1 hx ⟨rfl,rfl⟩
    have hx':l[m]? =some cc:=by simpa using hx
    have htk:l.take (m+1)=l.take m++[cc]:=by rw[List.take_add_one,hx'];rfl
    rw[show(⟨#[cc]⟩:Str)=tx [cc]from rfl,Qbu]
    dsimp only[JD,wZ]
    refine Q4 ⟨_,rfl,rfl,_,rfl,?_⟩
    rw[Q0]
    by_cases h46:cc=46
    ·rw[decide_eq_true h46]
     exact Q4 ⟨by rw[htk];simp[h46],rfl⟩
    ·rw[decide_eq_false h46]
     exact QX ⟨by rw[htk];simp[h46],rfl⟩
   ·rintro vs H1 ⟨rfl,rfl⟩ q hq
    rw[List.take_of_length_le (show l.length≤(tx l).cps.size by simp)]
    refine⟨"",q,(l.map (fun c=>if c=46 then 46 else 42)).map fun c=>tx [c],rfl,rfl,SqL.of (by rw[Qe,List.map_map (f:=fun c=>tx [c])];rfl),Kk (by rw[List.length_map];omega),?_⟩
    rw[ZL]
    exact k _ (Qz.new hq)
end
end Lw
set_option Elab.async false
set_option linter.all false
set_option maxRecDepth 100000
namespace K09
open K02 K04 PySem.NumText
theorem zQ:∀(l fs:List Nat),(spr l fs).length=l.length:=by
 intro l
 induction l with
 |nil=>intro fs;rfl
 |cons c r ih=>
  intro fs
  cases h:bes c with
  |none=>rw[X6 h,List.length_cons,List.length_cons,ih]
  |some d=>rw[KZ h,List.length_cons,List.length_cons,ih]
theorem zR{l:List Nat}{i c:Nat}(h:l[i]? =some c):many (l.take (i+1))=many (l.take i)+(if bes c=none then 1 else 0):=by
 rw[List.take_add_one,h,X5]
 show _+many [c]=_
 rw[JA]
 rfl
theorem vY(l:List Nat)(i:Nat):many (l.take i)+many (l.drop i)=many l:=by rw[←X5,List.take_append_drop]
theorem qw{fs:List Nat}{k x:Nat}(h:fs[k]? =some x)(d:Nat):(fs.drop k).headD d=x∧(fs.drop k).tail=fs.drop (k+1):=by
 have hk:=(List.getElem?_eq_some_iff.mp h).1
 rw[List.drop_eq_getElem_cons hk]
 have:fs[k]=x:=(List.getElem?_eq_some_iff.mp h).2
 exact⟨this,rfl⟩
theorem wx:∀(l s:List Nat),hid l s≤l.length:=by
 intro l
 induction l with
 |nil=>intro s;exact Nat.le_refl _
 |cons c r ih=>
  intro s
  rw[hid,List.length_cons]
  split
  ·exact Nat.zero_le _
  ·exact Nat.succ_le_succ (ih _)
theorem vZ(u k:Nat):∀x∈pad u k,x<128:=fun x hx=>by
 have h:=Wr u k x hx
 omega
end K09
namespace Lw
open PySem PySem.Spec PyProof.Rows L2 K02 K04 K15 K09
open Builtin Builtin.Str StrLaws
section
variable {P:Program}{w:World}{K:PySem.W.Frag}{mg:Str→Option Value}{base:Heap}{f:Addr}{fd:FuncData}{tk:Nat→Tok}{c kr:Nat→Addr}
noncomputable def V0:Sp:=fun vs H Q _=>∃(body:List Nat)(u:Nat),vs=[.str (tx body),.int (u:Nat)]∧body.length≤200∧(∀x∈body,x<128)∧u<10^18∧1≤many body∧u<10^many body∧∀H',Qz H H'→Q (.str (tx (spr body (pad u (many body))))) H'
set_option maxHeartbeats 1000000 in
theorem zS(F:Fun K "spread" "spread" VL f fd)(O:Own mg)(T:Txt K mg tk c kr)(KB:KDict P w K (kr 3) Qas)(D_figures_of:Def P w K mg base 2 "figures_of" ["number"] qt):FnOk P w K mg base (CXE P w) 3 f fd ["body","units"] V0:=by
 refine okN F Zs (fun vs H Q E h=>?_) (fun cdv A outer s H vs Q E hr h=>?_)
 ·obtain⟨body,u,rfl,_⟩:=h
  rfl
 ·obtain⟨body,u,rfl,hl,ha,hu,hm1,hum,k⟩:=h
  have hz:1000≤sizeLine:=by decide
  have htl:=Qj body
  have hml:many body≤body.length:=by unfold many;exact List.length_filter_le _ _
  refine⟨_,(Qb (Qm (i:=3) Zs.nd rfl (Or.inl rfl) (Qq QF rfl O.len PySem.boot_len (Qa (ZQ (NB:=[".0","symbol"]) rfl ⟨rfl,by decide+kernel,by decide+kernel,by decide+kernel⟩ (Vd (pv 0)) (fun _ _ _=>(Qk (i:=1) (show([".0","symbol"]:List Str).Nodup by decide+kernel) rfl (Or.inl rfl))) (fun _ _ _=>(Vw (ZJ (Vc KB (pv 1) (QC (v:=V.ref (kr 3)) rfl T.m_BESIDE rfl)) (by with_unfolding_all rfl)))) (fun _ _ _=>(pv 1))) Qc)))
   (Qb (Qm (i:=4) Zs.nd rfl (Or.inl rfl) (JS PySem.F.plainAttrs_str PySem.F.slot_str_zfill PySem.F.type_str_zfill Vy (D_figures_of.pe hr (by decide) rfl Qw (Qa (pv 1) Qc)) (Qa (pv 3) Qc)))
   (Qb (Qm (i:=5) Zs.nd rfl (Or.inl rfl) (JH Qc))
   (Qb (Qm (i:=6) Zs.nd rfl (Or.inl rfl) Qh)
   (Qb (Xr PassesOwn.never rfl (Vd (pv 0)) (Qk (i:=2) Zs.nd rfl (Or.inl rfl)) (Qg (QL (ZJ (vd KB (pv 2) (QC (v:=V.ref (kr 3)) rfl T.m_BESIDE rfl)) (by with_unfolding_all rfl)) (Qg (Z3 (JS PySem.F.plainAttrs_list PySem.F.slot_list_append PySem.F.type_list_append J7 (pv 5) (Qa (KY KB (QC (v:=V.ref (kr 3)) rfl T.m_BESIDE rfl) (pv 2) (fun _ _=>rfl)) Qc)))) (Qb (Z3 (JS PySem.F.plainAttrs_list PySem.F.slot_list_append PySem.F.type_list_append J7 (pv 5) (Qa (QJ XW (pv 4) (pv 6) (fun _ _=>rfl)) Qc)))
   (Qg (K7 (i:=6) Zs.nd rfl (Or.inl rfl) Qh W5))))))
   (Qg (Qs (JS PySem.F.plainAttrs_str PySem.F.slot_str_join PySem.F.type_str_join XD Qd (Qa (pv 5) Qc))))))))),?_⟩
  dsimp only[JD,KL,K6,WO]
  refine len_signs (l:=body) place rfl ha (by omega) (fun R h=>⟨_,rfl,h⟩) (fun y H1 R h=>?_) fun H1 S1=>?_
  ·refine⟨_,rfl,Sum.inr (tx [y]),rfl,rfl,_,rfl,?_⟩
   rw[zP]
   unfold place at h
   cases e:bes y<;>rw[e]at h<;>exact h
  have hmany:(body.filter place).length=many body:=rfl
  rw[hmany]
  refine⟨_,rfl,u,rfl,hu,fun H2 S2=>⟨rfl,_,rfl,tx (dec u),(many body:Nat),rfl,rfl,WG (by omega) (by omega),?_⟩⟩
  rw[YH u hm1]
  have hfl:=Kl hum hm1
  generalize hfg:pad u (many body)=figs at*
  have hfl2:=Qj figs
  refine⟨by show 0≤sizeLine;omega,fun p hp=>?_⟩
  have S03:Qz H (upd H2 p (.lst [])):=(S1.trans S2).trans (Qz.new hp)
  have S02:=S1.trans S2
  refine⟨_,rfl,tx body,rfl,ZY ha,ve (z:=tx body) (fun i σ H3=>∃x2 done,σ=[some (.str (tx body)),some (.int (u:Nat)),x2,some (.int (many body:Nat)),some (.str (tx figs)),some (.ref p),some (.int (many (body.take i):Nat))]∧H3=upd H2 p (.lst (done.map fun c=>.str (tx [c])))∧done.length=i∧done++spr (body.drop i) (figs.drop (many (body.take i)))=spr body figs)
   ⟨none,[],rfl,rfl,rfl,rfl⟩ ?_ ?_⟩
  ·rintro i cc σ H3 hx ⟨x2,done,rfl,rfl,hdl,hinv⟩
   have hx':body[i]? =some cc:=by simpa using hx
   have hi:=(List.getElem?_eq_some_iff.mp hx').1
   have hdr:body.drop i=cc::body.drop (i+1):=by
    rw[List.drop_eq_getElem_cons hi]
    congr 1
    exact(List.getElem?_eq_some_iff.mp hx').2
   have hmt:=zR hx'
   rw[show(⟨#[cc]⟩:Str)=tx [cc]from rfl]
   refine⟨_,rfl,Sum.inr (tx [cc]),rfl,rfl,_,rfl,?_⟩
   rw[zP]
   have app:∀d:Nat,upd (upd H2 p (.lst (done.map fun c=>V.str (tx [c])))) p (.lst ((done.map fun c=>V.str (tx [c]))++[.str (tx [d])]))=upd H2 p (.lst ((done++[d]).map fun c=>V.str (tx [c]))):=fun d=>by
    funext b
    by_cases hb:b=p
    ·subst hb;rw[Qe,Qe];simp
    ·rw[Qt hb,Qt hb,Qt hb]
   cases hbe:bes cc with
   |some d=>
    rw[hdr,KZ hbe]at hinv
    refine Q4 ⟨_,rfl,.inl ⟨rfl,_,.inl (.inl Qe)⟩,_,rfl,Sum.inr (tx [cc]),_,rfl,rfl,by rw[zP,hbe];rfl,p,_,_,rfl,rfl,Qe,by rw[List.length_map];omega,?_⟩
    rw[app d]
    refine⟨some (.str (tx [cc])),done++[d],?_,rfl,by rw[List.length_append,hdl];rfl,?_⟩
    ·rw[hmt,if_neg (by rw[hbe];simp)]
     rfl
    ·rw[hmt,if_neg (by rw[hbe];simp),List.append_assoc]
     exact hinv
   |none=>
    have hlt:many (body.take i)<figs.length:=by
     have:=vY body (i+1)
     rw[hmt,if_pos hbe]at this
     omega
    obtain⟨g,hg⟩:∃g,figs[many (body.take i)]? =some g:=⟨_,List.getElem?_eq_getElem hlt⟩
    obtain⟨e1,e2⟩:=qw hg 48
    rw[hdr,X6 hbe,e1,e2]at hinv
    refine QX ⟨_,rfl,.inl ⟨rfl,_,.inl (.inl Qe)⟩,_,rfl,_,rfl,tx figs,_,g,rfl,rfl,by omega,Zd hg,p,_,_,rfl,rfl,Qe,by rw[List.length_map];omega,?_⟩
    rw[show(⟨#[g]⟩:Str)=tx [g]from rfl,app g]
    refine⟨_,rfl,_,_,rfl,rfl,some (.str (tx [cc])),done++[g],?_,rfl,by rw[List.length_append,hdl];rfl,?_⟩
    ·rw[hmt,if_pos hbe]
     rfl
    ·rw[hmt,if_pos hbe,List.append_assoc]
     exact hinv
  ·rintro σ H3 ⟨x2,done,rfl,rfl,hdl,hinv⟩
   have hsz:(tx body).cps.size=body.length:=by simp
   rw[hsz]at hinv hdl
   rw[List.drop_of_length_le (Nat.le_refl _)]at hinv
   have hd2:done=spr body figs:=by rw[←hinv];simp[spr]
   refine⟨rfl,_,rfl,"",p,done.map fun c=>tx [c],rfl,rfl,SqL.of (by rw[Qe,List.map_map];rfl),Kk (by omega),?_⟩
   rw[ZL,hd2]
   exact k _ (fun b o e=>by rw[Qt (Qv (S02 _ _ e) hp)];exact S02 _ _ e)
noncomputable def V1:Sp:=fun vs H Q _=>∃body sg:List Nat,vs=[.str (tx body),.str (tx sg)]∧body.length≤200∧(∀x∈body,x<128)∧sg.length=body.length∧∀H',Qz H H'→Q (.int (hid body sg:Nat)) H'
theorem YY(F:Fun K "hidden_in" "hidden_in" XL f fd)(O:Own mg)(OE:mg "enumerate"=none)(T:Txt K mg tk c kr):FnOk P w K mg base (CXE P w) 1 f fd ["body","signs"] V1:=by
 refine okN F Xg (fun vs H Q E h=>?_) (fun cdv A outer s H vs Q E hr h=>?_)
 ·obtain⟨body,sg,rfl,_⟩:=h
  rfl
 ·obtain⟨body,sg,rfl,hl,ha,hsg,k⟩:=h
  have hz:1000≤sizeLine:=by decide
  have htl:=Qj body
  have hts:=Qj sg
  refine⟨_,(Qb (Xr PassesOwn.never rfl (qe rfl OE (Qa (pv 0) Qc)) (Q1 rfl (Qi (Qk (i:=2) Xg.nd rfl (Or.inl rfl)) (Qi (Qk (i:=3) Xg.nd rfl (Or.inl rfl)) QG))) (Qg (QL (PW.pt (Z0 (Ql Jw (pv 3) Qd (Qp _)) (J6 (PW.pt (Jp (Ql Q9 (pv 3) (QC (v:=V.str ",B0/") rfl T.m_INSERTED ⟨_,rfl⟩) (by with_unfolding_all rfl)) (Je (Ql Zc (QJ XW (pv 1) (pv 2) (fun _ _=>rfl)) Qd (Qp _)))))))) (Qg (Qs (pv 2))) Qy)))
   (Qg (Qs (Qq Jb rfl O.len PySem.boot_len (Qa (pv 0) Qc))))),?_⟩
  refine⟨_,rfl,tx body,rfl,ZY ha,YB (z:=tx body) (fun i σ H2=>∃x2 x3,σ=[some (.str (tx body)),some (.str (tx sg)),x2,x3]∧Qz H H2∧hid body sg=i+hid (body.drop i) (sg.drop i)) ⟨none,none,rfl,Qz.refl H,by simp⟩ ?_ ?_⟩
  ·rintro i cc σ H2 p hx ⟨x2,x3,rfl,S2,hinv⟩ hp
   have hx':body[i]? =some cc:=by simpa using hx
   have hi:=(List.getElem?_eq_some_iff.mp hx').1
   have hdr:body.drop i=cc::body.drop (i+1):=by
    rw[List.drop_eq_getElem_cons hi]
    congr 1
    exact(List.getElem?_eq_some_iff.mp hx').2
   obtain⟨g,hg⟩:∃g,sg[i]? =some g:=⟨_,List.getElem?_eq_getElem (by omega)⟩
   obtain⟨e1,e2⟩:=qw hg 0
   have S3:=S2.trans (Qz.new (o:=.tup [.int (i:Nat),.str ⟨#[cc]⟩]) hp)
   rw[hdr,hid,e1,e2]at hinv
   refine⟨p,_,rfl,SqT.of Qe,rfl,_,_,rfl,_,_,rfl,rfl,?_⟩
   generalize upd H2 p (.tup [.int (i:Nat),.str ⟨#[cc]⟩])=H3 at S3
   rw[show(⟨#[cc]⟩:Str)=tx [cc]from rfl]
   refine⟨_,rfl,rfl,_,rfl,?_⟩
   rw[YW,Q0]
   by_cases h9:cc=57
   ·rw[decide_eq_true h9]
    rw[if_pos (.inl h9)]at hinv
    refine Q4 (Q4 ⟨_,rfl,?_⟩)
    have:=k H3 S3
    rw[hinv]at this
    exact this
   ·rw[decide_eq_false h9]
    refine QX ⟨_,rfl,_,_,rfl,rfl,_,rfl,?_⟩
    rw[ww,JQ]
    cases hin:([44,66,48,47]:List Nat).contains cc with
    |true=>
     rw[if_neg (by rintro(q|⟨q,_⟩);exact h9 q;rw[show ins cc=true from hin]at q;cases q)]at hinv
     exact QX (QX ⟨_,_,rfl,S3,by omega⟩)
    |false=>
     refine Q4 ⟨_,rfl,_,rfl,tx sg,_,g,rfl,rfl,by omega,Zd hg,rfl,_,rfl,?_⟩
     rw[show(⟨#[g]⟩:Str)=tx [g]from rfl,Vn,Q0]
     by_cases h48:g=48
     ·rw[decide_eq_true h48]
      rw[if_neg (by rintro(q|⟨_,q⟩);exact h9 q;exact q h48)]at hinv
      exact QX ⟨_,_,rfl,S3,by omega⟩
     ·rw[decide_eq_false h48]
      rw[if_pos (.inr ⟨hin,h48⟩)]at hinv
      refine Q4 ⟨_,rfl,?_⟩
      have:=k H3 S3
      rw[hinv]at this
      exact this
  ·rintro σ H2 ⟨x2,x3,rfl,S2,hinv⟩
   have hsz:(tx body).cps.size=body.length:=by simp
   rw[hsz,List.drop_of_length_le (Nat.le_refl _)]at hinv
   refine⟨_,rfl,tx body,rfl,by omega,?_⟩
   have:=k H2 S2
   rw[hinv]at this
   rw[htl]
   exact this
noncomputable def UM:Sp:=fun vs H Q _=>∃(d:Nat)(r:List Nat)(u:Nat)(b:Bool),vs=[.str (tx (d::r)),.int (u:Nat),.bl b]∧r.length≤190∧(∀x∈d::r,x<128)∧u<10^18∧1≤many (d::r)∧u<10^many (d::r)∧∀H',Qz H H'→Q (.str (tx (YJ (d::r) u b))) H'
theorem YZ(F:Fun K "body_text" "body_text" XJ f fd)(T:Txt K mg tk c kr)(D_spread:Def P w K mg base 3 "spread" ["body","units"] V0)(D_hidden_in:Def P w K mg base 1 "hidden_in" ["body","signs"] V1)(D_sign_text:Def P w K mg base 1 "sign_text" ["symbols","is_below"] qv):
  FnOk P w K mg base (CXE P w) 4 f fd ["body","units","is_below"] UM:=by
 refine okN F Zx (fun vs H Q E h=>?_) (fun cdv A outer s H vs Q E hr h=>?_)
 ·obtain⟨d,r,u,b,rfl,_⟩:=h
  rfl
 ·obtain⟨d,r,u,b,rfl,hl,ha,hu,hm1,hum,k⟩:=h
  have hz:1000≤sizeLine:=by decide
  have h0:(d::r)[0]? =some d:=rfl
  have hbl:=Qj (d::r)
  rw[List.length_cons]at hbl
  refine⟨_,(Qb (Qm (i:=3) Zx.nd rfl (Or.inl rfl) (D_spread.pe hr (by decide) rfl Qw (Qa (pv 0) (Qa (pv 1) Qc))))
   (Qb (Qm (i:=4) Zx.nd rfl (Or.inl rfl) (D_hidden_in.pe hr (by decide) rfl Qw (Qa (pv 0) (Qa (pv 3) Qc))))
   (Qb (Qm (i:=5) Zx.nd rfl (Or.inl rfl) (QJ XW (pv 0) Qh (fun _ _=>rfl)))
   (Qb (QL (Ql Jx (pv 5) (QC (v:=V.str "+-$") rfl T.m_FLOATING ⟨_,rfl⟩) (by with_unfolding_all rfl)) (Qg (Qs (Qn Qo (Qn Qo (Qn QB Qd (Qn Zh (pv 4) Qh)) (D_sign_text.pe hr (by decide) rfl Qw (Qa (pv 5) (Qa (pv 2) Qc)))) (Q6 ZK (pv 3) (Q7 (pv 4)) JU)))) Qy)
   (Qg (Qs (Qn Qo (Qn QB (QD (Ql Jw (pv 5) Qd (Qp _)) Qd Qd) (pv 4)) (Q6 ZK (pv 3) (Q7 (pv 4)) JU)))))))),?_⟩
  refine⟨_,rfl,_,rfl,d::r,u,rfl,by rw[List.length_cons];omega,ha,hu,hm1,hum,fun H1 S1=>?_⟩
  have hsl:=zQ (d::r) (pad u (many (d::r)))
  have hhl:=wx (d::r) (spr (d::r) (pad u (many (d::r))))
  unfold YJ at k
  generalize spr (d::r) (pad u (many (d::r)))=sg at hsl hhl k
  have htg:=Qj sg
  refine⟨_,rfl,_,rfl,d::r,sg,rfl,by rw[List.length_cons];omega,ha,hsl,fun H2 S2=>?_⟩
  generalize hid (d::r) sg=hi at hhl k
  rw[List.length_cons]at hsl hhl
  refine⟨_,rfl,tx (d::r),(0:Int),d,rfl,rfl,by omega,Zd h0,?_⟩
  rw[show(⟨#[d]⟩:Str)=tx [d]from rfl]
  refine⟨_,rfl,_,_,rfl,rfl,_,rfl,?_⟩
  rw[UK,JQ]
  rw[show(d::r).headD 0=d from rfl]at k
  have hdt:=Qj (sg.drop hi)
  rw[List.length_drop]at hdt
  cases hfl:([43,45,36]:List Nat).contains d with
  |true=>
   rw[if_pos (show flo d=true from hfl)]at k
   have hsgm:d∈sgL:=by
    have:∀d∈([43,45,36]:List Nat),d∈sgL:=by decide
    exact this d (List.contains_iff_mem.mp hfl)
   rw[XO]
   refine Q4 ⟨_,rfl,_,_,rfl,rfl,tx [32],(hi:Int)-1,rfl,rfl,by omega,by rw[Qj,List.length_singleton];omega,by omega,?_⟩
   rw[Zj]
   refine⟨_,rfl,_,rfl,[d],b,rfl,by simp,fun x hx=>by rw[List.mem_singleton.mp hx];exact hsgm,fun H3 S3=>?_⟩
   refine⟨_,_,rfl,rfl,by rw[Qj,Qj,List.length_replicate,List.length_map,List.length_singleton];omega,?_⟩
   rw[QM]
   refine⟨_,rfl,_,rfl,_,rfl,tx sg,rfl,by omega,?_⟩
   rw[Xo]
   refine⟨_,_,rfl,rfl,by rw[Qj,hdt,List.length_append,List.length_replicate,List.length_map,List.length_singleton];omega,?_⟩
   rw[QM,show((hi:Int)-1).toNat=hi-1 by omega]
   exact k _ ((S1.trans S2).trans S3)
  |false=>
   rw[if_neg (by rw[show flo d=false from hfl];decide)]at k
   refine QX ?_
   refine⟨_,rfl,rfl,_,rfl,?_⟩
   rw[qu,Q0]
   refine Ju (fun v H'=>v=.str (tx [if d=42 then 42 else 32])∧H'=H2) (fun z rest=>rest _ _ ⟨by rw[if_pos (of_decide_eq_true z)],rfl⟩) (fun z rest=>rest _ _ ⟨by rw[XO,if_neg (of_decide_eq_false z)],rfl⟩) ?_
   rintro v H' ⟨rfl,rfl⟩
   refine⟨_,rfl,tx [if d=42 then 42 else 32],(hi:Int),rfl,rfl,by omega,by rw[Qj,Int.toNat_natCast,List.length_singleton];omega,by omega,?_⟩
   rw[Int.toNat_natCast,Zj]
   refine⟨_,rfl,_,rfl,_,rfl,tx sg,rfl,by omega,?_⟩
   rw[Xo]
   refine⟨_,_,rfl,rfl,by rw[Qj,hdt,List.length_replicate];omega,?_⟩
   rw[QM]
   exact k _ (S1.trans S2)
end
end Lw
set_option Elab.async false
set_option linter.all false
set_option maxRecDepth 100000
namespace Lw
open PySem PySem.Spec PyProof.Rows L2 K02 K04 K15 K09
open Builtin Builtin.Str StrLaws
theorem Rws.tk{H:Hp}{rs:List Addr}{rows:List Rw}(h:Rws H rs rows):∀k,Rws H (rs.take k) (rows.take k):=by
 induction h with
 |nil=>intro k;rw[List.take_nil,List.take_nil];exact .nil
 |cons a _ ih=>
  intro k
  cases k with
  |zero=>exact .nil
  |succ k=>exact .cons a (ih k)
theorem v4(rs:List Addr){a b:Nat}(h:a≤b)(hb:b≤rs.length):jh (rs.map V.ref) (some (a:Int)) (some (b:Int))=((rs.drop a).take (b-a)).map V.ref:=by
 unfold jh
 rw[HT.Vr,HT.Vr,List.length_map,Nat.min_eq_left (Nat.le_trans h hb),Nat.min_eq_left hb,List.map_take,List.map_drop]
theorem zT:∀l∈([[],[43],[45],[36],[43,36],[45,36]]:List (List Nat)),(∀x∈l,x∈sgL)∧l.length≤2:=by decide
theorem zU:∀l∈([[],[43],[45],[67,82],[68,66]]:List (List Nat)),(∀x∈l,x∈sgL)∧l.length≤2:=by decide
theorem V2:∀x∈wj,x<128:=by decide
theorem V3{lead W N broken tail:List Nat}(h:lead.length+(W.length+N.length)+broken.length+tail.length≤60):(QS lead W N broken tail).length≤61:=by
 have hdl:(Qr broken).length≤broken.length+1:=by unfold Qr;split<;>simp
 unfold QS
 rw[List.length_append,List.length_append,List.length_append,List.length_append]
 omega
theorem Y0(lead W N broken tail:List Nat):QS lead W N broken tail=lead++(W++N++Qr broken)++tail:=by unfold QS;simp[List.append_assoc]
section
variable {P:Program}{w:World}{K:PySem.W.Frag}{mg:Str→Option Value}{base:Heap}{f:Addr}{fd:FuncData}{tk:Nat→Tok}{c kr:Nat→Addr}
noncomputable def UN(K:PySem.W.Frag):Sp:=fun vs H Q _=>∃(p:Addr)(rs:List Addr)(lead:List Nat)(first:Nat)(W N broken tail:List Nat),vs=[.ref p]∧RowsAt K H p rs (rle [] (QS lead W N broken tail))∧Ed lead first W N broken tail∧lead.length+(W.length+N.length)+broken.length+tail.length≤60∧
 ∀q H',Qz H H'→H' q=some (.tup [.str (tx lead),.str (tx (W++N++Qr broken)),.str (tx tail)])→Q (.ref q) H'
theorem WJ(F:Fun K "edited_parts" "edited_parts" ZF f fd)(D_lead_of:Def P w K mg base 2 "lead_of" ["rows"] (qo K))(D_body_of:Def P w K mg base 3 "body_of" ["rows","at"] (qr K))(D_written_out:Def P w K mg base 1 "written_out" ["rows"] (vW K))(D_tail_of:Def P w K mg base 1 "tail_of" ["rows","at"] (qp K)):
  FnOk P w K mg base (CXE P w) 4 f fd ["rows"] (UN K):=by
 refine okN F QW (fun vs H Q E h=>?_) (fun cdv A outer s H vs Q E hr h=>?_)
 ·obtain⟨p,rs,lead,first,W,N,broken,tail,rfl,_⟩:=h
  rfl
 ·obtain⟨p,rs,lead,first,W,N,broken,tail,rfl,R,Ee,hl,k⟩:=h
  have hz:1000≤sizeLine:=by decide
  have hll:=V3 hl
  have hpos:=kg Ee.Qbn
  have hrw:=Ee.rows
  have hlead:=Ee.Qab (rle [] N++(rle [] (Qr broken)++rle [] tail))
  rw[←hrw]at hlead
  generalize hrows:rle [] (QS lead W N broken tail)=rows at*
  have hrl:rs.length=rows.length:=R.rw.len
  have hle:=R.le
  refine⟨_,(Qb (Jf (D_lead_of.pe hr (by decide) rfl Qw (Qa (pv 0) Qc)) (Q1 rfl (Qi (Qk (i:=1) QW.nd rfl (Or.inl rfl)) (Qi (Qk (i:=2) QW.nd rfl (Or.inl rfl)) QG))))
   (Qb (Jf (D_body_of.pe hr (by decide) rfl Qw (Qa (pv 0) (Qa (pv 2) Qc))) (Q1 rfl (Qi (Qk (i:=3) QW.nd rfl (Or.inl rfl)) (Qi (Qk (i:=4) QW.nd rfl (Or.inl rfl)) (Qi (Qk (i:=5) QW.nd rfl (Or.inl rfl)) (Qi (Qk (i:=6) QW.nd rfl (Or.inl rfl)) (Qi (Qk (i:=7) QW.nd rfl (Or.inl rfl)) QG)))))))
   (Qg (Qs (QK (Qa (pv 1) (Qa (D_written_out.pe hr (by decide) rfl Qw (Qa (Q6 Vt (pv 0) (Q7 (pv 2)) (Q7 (pv 7))) Qc)) (Qa (D_tail_of.pe hr (by decide) rfl Qw (Qa (pv 0) (Qa (pv 7) Qc))) Qc)))))))),?_⟩
  refine⟨_,rfl,p,rs,rows,rfl,R,fun ld b hb hll1 h1 q1 H1 S1 g1=>⟨q1,_,rfl,SqT.of g1,rfl,_,_,rfl,_,_,rfl,rfl,?_⟩⟩
  rw[hlead]at h1
  obtain⟨rfl,h1b⟩:lead=ld∧_:=by injection h1 with a1 a2;exact⟨a1,a2⟩
  refine⟨_,rfl,_,rfl,p,rs,rows,b,rfl,R.same S1,hb,fun pl many JB b2 b3 o hb3 h2 h3 q2 H2 S2 g2=>⟨q2,_,rfl,SqT.of g2,rfl,_,_,rfl,_,_,rfl,_,_,rfl,_,_,rfl,_,_,rfl,rfl,?_⟩⟩
  rw[←h1b,Ee.whole]at h2
  obtain⟨rfl,rfl,rfl,h2b⟩:[first]=pl∧W.count first=many∧N.count 57=JB∧_:=by injection h2 with a1 a2;injection a2 with a2 a3;injection a3 with a3 a4;exact⟨a1,a2,a3,a4⟩
  rw[←h2b,Ee.zt]at h3
  have h3b:rle [] tail=rows.drop b3:=by injection h3
  have hL1:=congrArg List.length h1b
  have hL3:=congrArg List.length h3b
  simp only[List.length_append,List.length_drop]at hL1 hL3
  have hbb:b≤b3:=by omega
  have hmid:(rows.drop b).take (b3-b)=rle [] W++(rle [] N++rle [] (Qr broken)):=by
   rw[←h1b]
   have e:rle [] W++(rle [] N++(rle [] (Qr broken)++rle [] tail))=(rle [] W++(rle [] N++rle [] (Qr broken)))++rle [] tail:=by simp[List.append_assoc]
   rw[e,List.take_append_of_le_length (by simp only[List.length_append];omega),List.take_of_length_le (by simp only[List.length_append];omega)]
  have S12:=S1.trans S2
  refine⟨_,rfl,_,rfl,_,rfl,_,rfl,_,rfl,_,rfl,p,_,rfl,(R.same S12).sq,fun p2 hp2=>?_⟩
  rw[v4 rs hbb (by omega)]
  have S3:=Qz.new (o:=.lst (((rs.drop b).take (b3-b)).map V.ref)) hp2
  have R2:RowsAt K (upd H2 p2 (.lst (((rs.drop b).take (b3-b)).map V.ref))) p2 ((rs.drop b).take (b3-b)) (rle [] W++(rle [] N++rle [] (Qr broken))):=by
   rw[←hmid]
   exact⟨SqL.of Qe,(((R.same S12).rw.dr b).tk (b3-b)).keep fun x xs h=>S3 _ _ h,by rw[List.length_take,List.length_drop];omega⟩
  have hun:un (rle [] W++(rle [] N++rle [] (Qr broken)))=W++N++Qr broken:=by rw[YI,YI,Ux,Ux,Ux,List.append_assoc]
  have hdl:(Qr broken).length≤broken.length+1:=by unfold Qr;split<;>simp
  refine⟨p2,_,_,rfl,R2,fun x hx=>?_,by rw[hun,List.length_append,List.length_append];omega,fun H4 S4=>?_⟩
  ·have hx2:x∈rows:=List.mem_of_mem_drop (i:=b) (List.mem_of_mem_take (i:=b3-b) (by rw[hmid];exact hx))
   obtain⟨y1,y2,y3⟩:=hpos x hx2
   exact⟨y1,by omega,y3⟩
  rw[hun]
  have S14:=(S12.trans S3).trans S4
  refine⟨_,rfl,_,rfl,p,rs,rows,b3,rfl,R.same S14,hb3,fun H5 S5=>?_⟩
  have htl:Xx (rows.drop b3)=some tail:=by rw[←h3b];exact(Xa tail Ee.tl).1
  rw[htl]
  refine⟨by show 3≤sizeLine;omega,fun q hq=>?_⟩
  exact k q _ ((S14.trans S5).trans (Qz.new hq)) Qe
noncomputable def V4(K:PySem.W.Frag)(c:Nat→Addr):Sp:=fun vs H Q E=>∃(l:List Nat)(p:Addr)(u:Int)(o:Nat),vs=[.str (tx l),.ref p]∧l.length≤500∧Amt K H p u o∧
 (((∀x,QR l=some x→x.kind≤3∧x.kind≠3)∧∀H',Qz H H'→E (.ref (c 2)) none H')∨
  ∃(lead:List Nat)(first:Nat)(W N broken tail:List Nat),Ed lead first W N broken tail∧lead.length+(W.length+N.length)+broken.length+tail.length≤60∧l=QS lead W N broken tail∧∀H',Qz H H'→Q (.str (tx (edT lead (W++N++Qr broken) tail (fit u o (bef first W N) broken.length)))) H')
theorem _root_.K04.Ed.small{lead:List Nat}{first:Nat}{W N broken tail:List Nat}(E:Ed lead first W N broken tail):1≤bef first W N∧bef first W N+broken.length≤11∧W.count first+N.count 57=bef first W N+(if flo first=true then 1 else 0):=by
 have h1:=E.w.cn
 have h2:N.count 57≤3:=by
  rcases E.n with h|⟨_,h⟩
  ·rw[h];decide
  ·exact h.cn
 have h3:broken.length≤3:=by
  rcases E.br with h|⟨k,b,hk,h,_⟩
  ·rw[h];decide
  ·rw[h,List.length_replicate];omega
 have hp:1≤W.count first:=List.count_pos_iff.mpr (List.mem_of_mem_head? E.w.hd)
 unfold bef
 split
 ·rename_i hf
  have h4:=E.fl (List.contains_iff_mem.mp hf)
  exact⟨by omega,by omega,by omega⟩
 ·exact⟨by omega,by omega,by omega⟩
theorem V5(u:Int):(if u<0 then-u else u)=((u.natAbs:Nat):Int):=by split<;>omega
set_option maxHeartbeats 1000000 in
theorem zV(F:Fun K "edited" "edited" K1 f fd)(O:Own mg)(D_understood_as:Def P w K mg base 6 "understood_as" ["kind","picture"] (WH K c))(D_edited_parts:Def P w K mg base 4 "edited_parts" ["rows"] (UN K))(D_fitted:Def P w K mg base 3 "fitted" ["amount","before","behind"] (kC K))(D_hides_nought:Def P w K mg base 1 "hides_nought" ["body"] UL)(D_nought_text:Def P w K mg base 1 "nought_text" ["symbols"] VZ)(D_sign_text:Def P w K mg base 1 "sign_text" ["symbols","is_below"] qv)(D_body_text:Def P w K mg base 4 "body_text" ["body","units","is_below"] UM):
  FnOk P w K mg base (CXE P w) 7 f fd ["picture","amount"] (V4 K c):=by
 refine okE F JK (fun vs H Q E h=>?_) (fun cdv A outer s H vs Q E hr h=>?_)
 ·obtain⟨l,p,u,o,rfl,_⟩:=h
  rfl
 ·obtain⟨l,pa,u,o,rfl,hl,M,hw⟩:=h
  have hz:1000≤sizeLine:=by decide
  have fr:=ZO (P:=P) (w:=w) (K:=K) (mg:=mg) (base:=base) (N:=["picture","amount","rows","signed","before","behind","lead","body","tail","units","is_below"]) (qual:="edited") (scope:=Qf K1) (f:=f) (cd:=cdv) (A:=A) (outer:=outer) (s:=s) (H:=H) (E:=E)
  have ht:=Wg fr
  have hx:=Jr fr
  refine⟨_,(Qb (Jf (D_understood_as.pe hr (by decide) rfl hx (Qa Qd (Qa (pv 0) Qc))) (Q1 rfl (Qi (Qk (i:=2) JK.nd rfl (Or.inl rfl)) (Qi (Q1 rfl (Qi (Qk (i:=3) JK.nd rfl (Or.inl rfl)) (Qi (Qk (i:=4) JK.nd rfl (Or.inl rfl)) (Qi (Qk (i:=5) JK.nd rfl (Or.inl rfl)) QG)))) QG))))
   (Qb (Jf (D_edited_parts.pe hr (by decide) rfl hx (Qa (pv 2) Qc)) (Q1 rfl (Qi (Qk (i:=6) JK.nd rfl (Or.inl rfl)) (Qi (Qk (i:=7) JK.nd rfl (Or.inl rfl)) (Qi (Qk (i:=8) JK.nd rfl (Or.inl rfl)) QG)))))
   (Qb (Qm (i:=9) JK.nd rfl (Or.inl rfl) (D_fitted.pe hr (by decide) rfl hx (Qa (pv 1) (Qa (pv 4) (Qa (pv 5) Qc)))))
   (Qb (QL (PW.pt (Jp (Ql Jw (pv 9) Qh (Qp _)) (Je (W3 (D_hides_nought.pe hr (by decide) rfl hx (Qa (pv 7) Qc)))))) (Qg (Qs (D_nought_text.pe hr (by decide) rfl hx (Qa (Qn Qo (Qn Qo (pv 6) (pv 7)) (pv 8)) Qc)))) Qy)
   (Qb (Qm (i:=10) JK.nd rfl (Or.inl rfl) (Jy Xz (pv 9) Qh (Qp _)))
   (Qg (Qs (Qn Qo (Qn Qo (D_sign_text.pe hr (by decide) rfl hx (Qa (pv 6) (Qa (pv 10) Qc))) (D_body_text.pe hr (by decide) rfl hx (Qa (pv 7) (Qa (Qq J3 rfl O.abs PyProof.Rows.boot_abs (Qa (pv 9) Qc)) (Qa (pv 10) Qc))))) (D_sign_text.pe hr (by decide) rfl hx (Qa (pv 8) (Qa (pv 10) Qc))))))))))),?_⟩
  refine⟨_,rfl,l,3,rfl,hl,by decide,fun h=>?_,fun x hxp hxk q p rs r H1 S1 g1 g2 R1=>?_⟩
  ·rcases hw with⟨_,k1⟩|⟨lead,first,W,N,broken,tail,Ee,_,rfl,_⟩
   ·exact k1
   ·exact absurd rfl (h _ Ee.pic).2
  rcases hw with⟨hno,_⟩|⟨lead,first,W,N,broken,tail,Ee,hsz,rfl,k⟩
  ·exact absurd hxk (hno x hxp).2
  obtain rfl:=Option.some.inj (Ee.pic.symm.trans hxp)
  obtain⟨hb1,hb11,hcnt⟩:=Ee.small
  refine⟨q,_,rfl,SqT.of g1,rfl,_,_,rfl,_,_,rfl,r,_,rfl,SqT.of g2,rfl,_,_,rfl,_,_,rfl,_,_,rfl,rfl,rfl,?_⟩
  rw[Vf Ee.Qbn]at R1
  refine⟨_,rfl,p,rs,lead,first,W,N,broken,tail,rfl,R1,Ee,hsz,fun q2 H2 S2 g3=>⟨q2,_,rfl,SqT.of g3,rfl,_,_,rfl,_,_,rfl,_,_,rfl,rfl,?_⟩⟩
  have S12:=S1.trans S2
  refine⟨_,rfl,_,rfl,_,rfl,pa,u,o,bef first W N,broken.length,rfl,M.same S12,by omega,fun H3 S3=>?_⟩
  have S13:=S12.trans S3
  have hlt:=zJ u o (bef first W N) broken.length
  generalize fit u o (bef first W N) broken.length=ft at*
  obtain⟨rr,hrr⟩:∃rr,W++N++Qr broken=first::rr:=by
   have:=Ee.zr (N++Qr broken)
   cases hh:W++(N++Qr broken)with
   |nil=>rw[hh]at this;cases this
   |cons a r=>rw[hh]at this;exact⟨r,by rw[List.append_assoc,hh,Option.some.inj this]⟩
  have hmany:many (W++N++Qr broken)=bef first W N+(if flo first=true then 1 else 0)+broken.length:=by rw[X5,Ee.many,Ee.Qal,hcnt]
  have hdl:(Qr broken).length≤broken.length+1:=by unfold Qr;split<;>simp
  have hbl:(W++N++Qr broken).length≤61:=by rw[List.length_append,List.length_append];omega
  have hsym:∀x∈lead++(W++N++Qr broken)++tail,x<128:=fun x hx=>V2 x (Ee.sym x (by rw[Y0];exact hx))
  obtain⟨hls,hll⟩:=zT lead Ee.ld
  obtain⟨hts,htl⟩:=zU tail Ee.tl
  have hedT:edT lead (W++N++Qr broken) tail ft=if ft=0∧57∉(W++N++Qr broken)∧flo first=false then X4 (lead++(W++N++Qr broken)++tail)else lead.map (mkS (decide (ft<0)))++YJ (W++N++Qr broken) ft.natAbs (decide (ft<0))++tail.map (mkS (decide (ft<0))):=by
   unfold edT
   rw[show(W++N++Qr broken).headD 0=first by rw[hrr];rfl]
  rw[hedT]at k
  clear hedT g1 g2 g3 R1 M
  generalize hbody:W++N++Qr broken=body at*
  have hmlt:ft.natAbs<10^many body:=by
   rw[hmany]
   exact Nat.lt_of_lt_of_le hlt (Nat.pow_le_pow_right (by decide) (by omega))
  have h18:ft.natAbs<10^18:=Nat.lt_of_lt_of_le hlt (Nat.pow_le_pow_right (by decide) (by omega))
  have hm1:1≤many body:=by omega
  subst hrr
  dsimp only[JD,KL,K6]
  refine Jv (fun σ' H4=>(∃y0 y1 y2 y3 y4 y5,σ'=[y0,y1,y2,y3,y4,y5,some (.str (tx lead)),some (.str (tx (first::rr))),some (.str (tx tail)),some (.int ft),none])∧Qz H H4∧¬ (ft=0∧57∉(first::rr)∧flo first=false)) ?_ (fun rest=>?_)
  ·rintro σ' H4 ⟨⟨y0,y1,y2,y3,y4,y5,rfl⟩,S4,hn⟩
   rw[if_neg hn]at k
   refine⟨_,rfl,_,_,rfl,rfl,?_⟩
   refine⟨_,rfl,_,rfl,lead,decide (ft<0),rfl,by omega,hls,fun H5 S5=>?_⟩
   refine⟨_,rfl,_,rfl,ft,rfl,_,rfl,first,rr,ft.natAbs,decide (ft<0),by rw[V5];rfl,by rw[List.length_cons]at hbl;omega,fun x hx=>hsym x (List.mem_append_left _ (List.mem_append_right _ hx)),h18,hm1,hmlt,fun H6 S6=>?_⟩
   have hbt:(YJ (first::rr) ft.natAbs (decide (ft<0))).length≤300:=by
    have e1:=zQ (first::rr) (pad ft.natAbs (many (first::rr)))
    have e2:=wx (first::rr) (spr (first::rr) (pad ft.natAbs (many (first::rr))))
    unfold YJ
    split
    ·simp only[List.length_append,List.length_replicate,List.length_drop,List.length_singleton];omega
    ·simp only[List.length_append,List.length_replicate,List.length_drop];omega
   refine⟨_,_,rfl,rfl,by rw[Qj,Qj,List.length_map];omega,?_⟩
   rw[QM]
   refine⟨_,rfl,_,rfl,tail,decide (ft<0),rfl,by omega,hts,fun H7 S7=>?_⟩
   refine⟨_,_,rfl,rfl,by rw[Qj,Qj,List.length_append,List.length_map,List.length_map];omega,?_⟩
   rw[QM]
   exact k _ (((S4.trans S5).trans S6).trans S7)
  ·refine⟨_,rfl,rfl,_,rfl,?_⟩
   rw[Zp]
   by_cases h0:ft=0
   ·rw[decide_eq_true h0]
    refine Q4 ⟨_,rfl,first,rr,rfl,by rw[List.length_cons]at hbl;omega,_,rfl,?_⟩
    by_cases hc:57∉(first::rr)∧flo first=false
    ·have e:(!(first::rr).contains 57&& !flo first)=true:=by
      rw[hc.2,Bool.and_eq_true]
      refine⟨?_,rfl⟩
      cases q:(first::rr).contains 57 with
      |true=>exact absurd (List.contains_iff_mem.mp q) hc.1
      |false=>rfl
     rw[e]
     rw[if_pos ⟨h0,hc⟩]at k
     refine Q4 ⟨_,rfl,_,rfl,_,_,rfl,rfl,by rw[Qj,Qj];omega,?_⟩
     rw[QM]
     refine⟨_,rfl,_,_,rfl,rfl,by rw[Qj,Qj,List.length_append];omega,?_⟩
     rw[QM]
     exact⟨_,rfl,by rw[List.length_append,List.length_append];omega,hsym,fun H4 S4=>k _ (S13.trans S4)⟩
    ·have e:(!(first::rr).contains 57&& !flo first)=false:=by
      cases q:(first::rr).contains 57 with
      |true=>rfl
      |false=>
       cases q2:flo first with
       |true=>rfl
       |false=>exact absurd ⟨fun z=>(by rw[List.contains_iff_mem.mpr z]at q;cases q),q2⟩ hc
     rw[e]
     exact QX (rest _ _ ⟨⟨_,_,_,_,_,_,rfl⟩,S13,fun z=>hc z.2⟩)
   ·rw[decide_eq_false h0]
    exact QX (QX (rest _ _ ⟨⟨_,_,_,_,_,_,rfl⟩,S13,fun z=>h0 z.1⟩))
end
end Lw
set_option Elab.async false
set_option linter.all false
set_option maxRecDepth 100000
namespace K18
open K02 K04 K15 K09
noncomputable def Dst(l:List Nat)(u:Int)(o:Nat)(r:List Nat):Prop:=
 (∃x,QR l=some x∧(x.kind=2∧1≤x.before+x.behind∧x.before+x.behind≤18)∧r=cont x.signed x.before x.behind u o)∨
 ∃(lead:List Nat)(first:Nat)(W N broken tail:List Nat),Ed lead first W N broken tail∧lead.length+(W.length+N.length)+broken.length+tail.length≤60∧l=QS lead W N broken tail∧r=edT lead (W++N++Qr broken) tail (fit u o (bef first W N) broken.length)
end K18
namespace Lw
open PySem PySem.Spec PyProof.Rows L2 K02 K04 K15 K09 K18
open Builtin Builtin.Str StrLaws
section
variable {P:Program}{w:World}{K:PySem.W.Frag}{mg:Str→Option Value}{base:Heap}{f:Addr}{fd:FuncData}{tk:Nat→Tok}{c kr:Nat→Addr}
noncomputable def WK(x:Facts):Prop:=x.kind=2∧1≤x.before+x.behind∧x.before+x.behind≤18
noncomputable def v5(l:List Nat):Prop:=∀x,QR l=some x→x.kind≠2
noncomputable def qx(K:PySem.W.Frag)(c:Nat→Addr):Sp:=fun vs H Q E=>∃(l:List Nat)(p:Addr)(u o:Int),vs=[.str (tx l),.ref p]∧l.length≤500∧Amt K H p u o∧
 ((v5 l∧∀H',Qz H H'→E (.ref (c 2)) none H')∨∃x,QR l=some x∧WK x∧∀H',Qz H H'→Q (.str (tx (cont x.signed x.before x.behind u o))) H')
theorem Qau{n k:Nat}(h:n<10^k)(hk:k≤18):n<10^18:=Nat.lt_of_lt_of_le h (Nat.pow_le_pow_right (by decide) hk)
theorem Kt(i:Int):(if i<0 then-i else i)=((i.natAbs:Nat):Int):=by split<;>omega
set_option maxHeartbeats 1000000 in
theorem V6(F:Fun K "content_of" "content_of" Zy f fd)(O:Own mg)(T:Txt K mg tk c kr)(D_understood_as:Def P w K mg base 6 "understood_as" ["kind","picture"] (WH K c))(D_fitted:Def P w K mg base 3 "fitted" ["amount","before","behind"] (kC K))(D_figures_of:Def P w K mg base 2 "figures_of" ["number"] qt):
  FnOk P w K mg base (CXE P w) 7 f fd ["picture","amount"] (qx K c):=by
 refine okE F Jn (fun vs H Q E h=>?_) (fun cdv A outer s H vs Q E hr h=>?_)
 ·obtain⟨l,p,u,o,rfl,_⟩:=h
  rfl
 ·obtain⟨l,p,u,o,rfl,hl,M,hc⟩:=h
  have hz:1000≤sizeLine:=by decide
  have fr:=ZO (P:=P) (w:=w) (K:=K) (mg:=mg) (base:=base) (N:=["picture","amount","rows","signed","before","behind","units","figures"]) (qual:="content_of") (scope:=Qf Zy) (f:=f) (cd:=cdv) (A:=A) (outer:=outer) (s:=s) (H:=H) (E:=E)
  have hx:=Jr fr
  refine⟨_,(Qb (Jf (D_understood_as.pe hr (by decide) rfl hx (Qa Qd (Qa (pv 0) Qc))) (Q1 rfl (Qi (Qk (i:=2) Jn.nd rfl (Or.inl rfl)) (Qi (Q1 rfl (Qi (Qk (i:=3) Jn.nd rfl (Or.inl rfl)) (Qi (Qk (i:=4) Jn.nd rfl (Or.inl rfl)) (Qi (Qk (i:=5) Jn.nd rfl (Or.inl rfl)) QG)))) QG))))
   (Qb (Qm (i:=6) Jn.nd rfl (Or.inl rfl) (D_fitted.pe hr (by decide) rfl hx (Qa (pv 1) (Qa (pv 4) (Qa (pv 5) Qc)))))
   (Qb (Qm (i:=7) Jn.nd rfl (Or.inl rfl) (JS PySem.F.plainAttrs_str PySem.F.slot_str_zfill PySem.F.type_str_zfill Vy (D_figures_of.pe hr (by decide) rfl hx (Qa (Qq J3 rfl O.abs PyProof.Rows.boot_abs (Qa (pv 6) Qc)) Qc)) (Qa (Qn QT (pv 4) (pv 5)) Qc)))
   (Qb (QL (PW.pt (Jp (QY (pv 3) (fun _=>rfl)) (Je (Ql Xz (pv 6) Qh (Qp _))))) (Qg (Qs (Qn Qo (Q6 ZK (pv 7) JU (Q7 (WP Xt Qh))) (QJ XW (QC (v:=V.str "pqrstuvwxy") rfl T.m_LAST_BELOW ⟨_,rfl⟩) (Ja Jj rfl O.int PyProof.Rows.boot_int (Qa (QJ XW (pv 7) (WP Xt Qh) (fun _ _=>rfl)) Qc)) (fun _ _=>rfl))))) Qy)
   (Qg (Qs (pv 7))))))),?_⟩
  rcases hc with⟨hno,k⟩|⟨x,hpic,⟨hk2,h1,h18⟩,k⟩
  ·exact⟨_,rfl,l,2,rfl,hl,by decide,fun _=>k,fun x hp hk=>absurd hk (hno x hp)⟩
  refine⟨_,rfl,l,2,rfl,hl,by decide,(fun z=>absurd hk2 (z x hpic).2),fun x' hp _ q p1 rs r H1 S1 g1 g2 R1=>?_⟩
  obtain rfl:x=x':=Option.some.inj (hpic.symm.trans hp)
  refine⟨q,_,rfl,SqT.of g1,rfl,_,_,rfl,_,_,rfl,r,_,rfl,SqT.of g2,rfl,_,_,rfl,_,_,rfl,_,_,rfl,rfl,rfl,?_⟩
  refine⟨_,rfl,_,rfl,_,rfl,p,u,o,x.before,x.behind,rfl,M.same S1,h18,fun H2 S2=>?_⟩
  have hflt:=zJ u o x.before x.behind
  generalize hfit:fit u o x.before x.behind=v at hflt
  have k:∀H',Qz H H'→Q (.str (tx (if x.signed=true∧v<0 then UJ (pad v.natAbs (x.before+x.behind))else pad v.natAbs (x.before+x.behind)))) H':=fun H' S=>by
   have:=k H' S
   unfold cont at this
   rw[hfit]at this
   exact this
  have hk1000:x.before+x.behind≤1000:=by omega
  have ecast:((x.before:Nat):Int)+((x.behind:Nat):Int)=((x.before+x.behind:Nat):Int):=by omega
  generalize x.before+x.behind=n at h1 h18 hflt k hk1000 ecast
  have hplen:=Kl hflt h1
  have hpdig:=Wr v.natAbs n
  have hpne:=wl v.natAbs n
  have ezf:=YH v.natAbs h1
  refine⟨_,rfl,v,rfl,v.natAbs,by rw[Kt];rfl,Qau hflt h18,fun H3 S3=>⟨rfl,_,rfl,_,rfl,_,_,rfl,rfl,tx (dec v.natAbs),((x.before:Nat):Int)+((x.behind:Nat):Int),rfl,rfl,WG (by omega) (by omega),?_⟩⟩
  rw[ecast,ezf]
  generalize pad v.natAbs n=pl at k hplen hpdig hpne
  have S13:=(S1.trans S2).trans S3
  have htl:=Qj pl
  refine⟨_,rfl,x.signed,rfl,?_⟩
  cases hsg:x.signed with
  |false=>
   rw[hsg]at k
   exact QX (QX ⟨_,rfl,k _ S13⟩)
  |true=>
   rw[hsg]at k
   refine Q4 ⟨_,rfl,_,_,rfl,rfl,_,rfl,?_⟩
   by_cases hv:v<0
   ·rw[decide_eq_true hv]
    have k:=k H3 S13
    rw[if_pos ⟨rfl,hv⟩]at k
    obtain⟨d,hd1,hd2⟩:=Xp hpne
    have hdd:NumText.AllDigits [d]:=fun z hz=>hpdig z (by rw[hd1];exact List.mem_append_right _ hz)
    have hdb:=hdd d (List.mem_singleton.mpr rfl)
    refine Q4 ⟨_,rfl,_,rfl,_,rfl,tx pl,rfl,by omega,?_⟩
    rw[Vi]
    have hat:atI pl (-1)=some d:=by
     rw[hd1]
     exact KP _ _
    refine⟨_,rfl,_,rfl,tx pl, -1,d,rfl,rfl,by omega,hat,tx [d],_,rfl,PySem.intText_digits hdd (by simp) (by rw[Qj];simp),by rw[Qj];simp,?_⟩
    refine⟨"pqrstuvwxy",_,d+64,rfl,rfl,by decide+kernel,?_,_,_,rfl,rfl,?_,?_⟩
    ·show atI ("pqrstuvwxy":Str).cps.toList ((NumText.digitsVal [d]:Nat):Int)=_
     rw[vD hdd]
     exact Zd (wm d (by omega) (by omega))
    ·show(tx pl.dropLast).length+(tx [d+64]).length≤sizeLine
     rw[Qj,Qj,List.length_dropLast]
     simp
     omega
    ·show Q (.str (tx pl.dropLast++tx [d+64])) H3
     rw[QM]
     have e:UJ pl=pl.dropLast++[d+64]:=by unfold UJ;rw[hd2];rfl
     rw[e]at k
     exact k
   ·rw[decide_eq_false hv]
    have k:=k H3 S13
    rw[if_neg (fun z=>hv z.2)]at k
    exact QX ⟨_,rfl,k⟩
noncomputable def qy(c:Nat→Addr):Sp:=fun vs H Q E=>∃l:List Nat,vs=[.str (tx l)]∧l.length≤500∧(QR l=none→∀H',Qz H H'→E (.ref (c 1)) none H')∧(∀x,QR l=some x→∀H',Qz H H'→Q (.str (kindS x.kind)) H')
theorem je(F:Fun K "kind_of" "kind_of" X9 f fd)(D_understood:Def P w K mg base 6 "understood" ["picture"] (VW K c)):FnOk P w K mg base (CXE P w) 7 f fd ["picture"] (qy c):=by
 refine okE F Ko (fun vs H Q E h=>?_) (fun cdv A outer s H vs Q E hr h=>?_)
 ·obtain⟨l,rfl,_⟩:=h
  rfl
 ·obtain⟨l,rfl,hl,k1,k2⟩:=h
  have fr:=ZO (P:=P) (w:=w) (K:=K) (mg:=mg) (base:=base) (N:=["picture","rows","facts"]) (qual:="kind_of") (scope:=Qf X9) (f:=f) (cd:=cdv) (A:=A) (outer:=outer) (s:=s) (H:=H) (E:=E)
  have hx:=Jr fr
  refine⟨_,(Qb (Jf (D_understood.pe hr (by decide) rfl hx (Qa (pv 0) Qc)) (Q1 rfl (Qi (Qk (i:=1) Ko.nd rfl (Or.inl rfl)) (Qi (Qk (i:=2) Ko.nd rfl (Or.inl rfl)) QG))))
   (Qg (Qs (QJ Jq (pv 2) Qh (fun _ _=>rfl))))),?_⟩
  refine⟨_,rfl,l,rfl,hl,k1,fun x e q p rs r H1 S1 g1 g2 R1=>?_⟩
  exact⟨q,_,rfl,SqT.of g1,rfl,_,_,rfl,_,_,rfl,rfl,_,rfl,r,_,_,_,rfl,rfl,SqT.of g2,rfl,k2 x e H1 S1⟩
noncomputable def kG(K:PySem.W.Frag):Sp:=fun vs H Q _=>∃(l:List Nat)(p:Addr)(u:Int)(o:Nat)(r:List Nat),vs=[.str (tx l),.ref p]∧l.length≤500∧Amt K H p u o∧Dst l u o r∧∀H',Qz H H'→Q (.str (tx r)) H'
theorem Qav(F:Fun K "put" "put" ko f fd)(D_kind_of:Def P w K mg base 7 "kind_of" ["picture"] (qy c))(D_content_of:Def P w K mg base 7 "content_of" ["picture","amount"] (qx K c))(D_edited:Def P w K mg base 7 "edited" ["picture","amount"] (V4 K c)):FnOk P w K mg base (CXE P w) 8 f fd ["picture","amount"] (kG K):=by
 refine okE F Qan (fun vs H Q E h=>?_) (fun cdv A outer s H vs Q E hr h=>?_)
 ·obtain⟨l,p,u,o,r,rfl,_⟩:=h
  rfl
 ·obtain⟨l,p,u,o,r,rfl,hl,M,D,k⟩:=h
  have fr:=ZO (P:=P) (w:=w) (K:=K) (mg:=mg) (base:=base) (N:=["picture","amount"]) (qual:="put") (scope:=Qf ko) (f:=f) (cd:=cdv) (A:=A) (outer:=outer) (s:=s) (H:=H) (E:=E)
  have hx:=Jr fr
  refine⟨_,(Qb (QL (Ql Jw (D_kind_of.pe hr (by decide) rfl hx (Qa (pv 0) Qc)) Qd (Qp _)) (Qg (Qs (D_content_of.pe hr (by decide) rfl hx (Qa (pv 0) (Qa (pv 1) Qc))))) Qy)
   (Qg (Qs (D_edited.pe hr (by decide) rfl hx (Qa (pv 0) (Qa (pv 1) Qc)))))),?_⟩
  rcases D with⟨x,hp,hn,rfl⟩|⟨lead,first,W,N,broken,tail,Ee,hs,rfl,rfl⟩
  ·refine⟨_,rfl,l,rfl,hl,(fun z=>by rw[hp]at z;cases z),fun y hy H1 S1=>?_⟩
   obtain rfl:=Option.some.inj (hp.symm.trans hy)
   refine⟨rfl,_,rfl,?_⟩
   rw[hn.1,show V.str "number"=V.str (kindS 2)from rfl,decide_eq_true rfl]
   exact Q4 ⟨_,rfl,_,rfl,l,p,u,o,rfl,hl,M.same S1,.inr ⟨x,hp,hn,fun H2 S2=>k _ (S1.trans S2)⟩⟩
  ·refine⟨_,rfl,_,rfl,hl,(fun z=>by rw[Ee.pic]at z;cases z),fun y hy H1 S1=>?_⟩
   obtain rfl:=Option.some.inj (Ee.pic.symm.trans hy)
   refine⟨rfl,_,rfl,?_⟩
   rw[show V.str "number"=V.str (kindS 2)from rfl,Kc 3 (by decide) 2 (by decide),decide_eq_false (by decide)]
   exact QX ⟨_,rfl,_,rfl,_,p,u,o,rfl,hl,M.same S1,.inr ⟨lead,first,W,N,broken,tail,Ee,hs,rfl,fun H2 S2=>k _ (S1.trans S2)⟩⟩
noncomputable def Kd(K:PySem.W.Frag):Sp:=fun vs H Q _=>∃(a:Addr)(u o p:Int),vs=[.ref a,.int p]∧Amt K H a u o∧0≤p∧p≤18∧∀q,H q=none→Q (.ref q) (upd H q (.tup [.int (K01.rnd u o p),.int p]))
theorem jf(F:Fun K "rounded" "rounded" Wt f fd)(O:Own mg)(D_ten_to:Def P w K mg base 1 "ten_to" ["many"] YL):FnOk P w K mg base (CXE P w) 2 f fd ["amount","places"] (Kd K):=by
 refine okN F Zn (fun vs H Q E h=>?_) (fun cdv A outer s H vs Q E hr h=>?_)
 ·obtain⟨a,u,o,p,rfl,_⟩:=h
  rfl
 ·obtain⟨a,u,o,p,rfl,M,h1,h2,k⟩:=h
  have b1:=M.lo
  have b2:=M.hi
  have b3:=M.bd
  refine⟨_,(Qb (Jf (pv 0) (Q1 rfl (Qi (Qk (i:=2) Zn.nd rfl (Or.inl rfl)) (Qi (Qk (i:=3) Zn.nd rfl (Or.inl rfl)) QG))))
   (Qb (Qm (i:=4) Zn.nd rfl (Or.inl rfl) (D_ten_to.pe hr (by decide) rfl Qw (Qa (Qn Zh (pv 3) (pv 1)) Qc)))
   (Qb (Qm (i:=5) Zn.nd rfl (Or.inl rfl) (Qn Z8 (Qn Z8 Qh (Qq J3 rfl O.abs PyProof.Rows.boot_abs (Qa (pv 2) Qc))) (D_ten_to.pe hr (by decide) rfl Qw (Qa (Qn Zh (pv 1) (pv 3)) Qc))))
   (Qb (Qm (i:=6) Zn.nd rfl (Or.inl rfl) (Qn KS (Qn QT (pv 5) (pv 4)) (Qn Z8 Qh (pv 4))))
   (Qg (Qs (QK (Qa (QD (Ql Xz (pv 2) Qh (Qp _)) (WP Xt (pv 6)) (pv 6)) (Qa (pv 1) Qc))))))))),?_⟩
  refine⟨_,rfl,a,_,rfl,M.sq,rfl,_,_,rfl,_,_,rfl,rfl,?_⟩
  refine⟨_,rfl,_,rfl,_,_,rfl,rfl,_,rfl,by omega,by omega,?_⟩
  have q1:(2*(if u<0 then-u else u)).natAbs<2^202:=by split<;>omega
  refine⟨_,rfl,u,rfl,_,_,rfl,rfl,⟨big (by decide),big (YV b3)⟩,?_⟩
  refine⟨_,rfl,_,rfl,_,_,rfl,rfl,_,rfl,by omega,by omega,_,_,rfl,rfl,⟨Nat.lt_trans q1 (by decide),big (Xj (by omega))⟩,?_⟩
  have q2:=K01.Jk (o-p)
  have q3:=Xj (m:=o-p) (by omega)
  refine⟨_,rfl,_,rfl,_,_,rfl,rfl,_,rfl,_,_,rfl,rfl,⟨big (by decide),big q3⟩,_,_,rfl,rfl,⟨by omega,?_⟩,?_⟩
  ·refine Nat.lt_of_lt_of_le (m:=2^202) ?_ (by decide)
   omega
  refine⟨_,rfl,_,_,rfl,rfl,_,rfl,?_⟩
  refine ifB (fun z=>?_) (fun z=>?_)
  ·have e:K01.rnd u o p= -((2*K01.Zi u*K01.ten (p-o)+K01.ten (o-p))/(2*K01.ten (o-p))):=by unfold K01.rnd;rw[if_pos (of_decide_eq_true z)]
   rw[e]at k
   exact⟨_,rfl,_,rfl,_,rfl,by show 2≤sizeLine;decide,k⟩
  ·have e:K01.rnd u o p=(2*K01.Zi u*K01.ten (p-o)+K01.ten (o-p))/(2*K01.ten (o-p)):=by unfold K01.rnd;rw[if_neg (of_decide_eq_false z)]
   rw[e]at k
   exact⟨_,rfl,_,rfl,by show 2≤sizeLine;decide,k⟩
noncomputable def res(nb:Bool)(u o p:Int):Int:=if nb=true then K01.rnd u o p else K01.Uo u o p
noncomputable def JL(K:PySem.W.Frag)(c:Nat→Addr):Sp:=fun vs H Q E=>∃(l:List Nat)(p:Addr)(u o:Int)(nb:Bool),vs=[.str (tx l),.ref p,.bl nb]∧l.length≤500∧Amt K H p u o∧
 ((v5 l∧∀H',Qz H H'→E (.ref (c 2)) none H')∨∃x,QR l=some x∧WK x∧∀H',Qz H H'→(10^(x.before+x.behind)≤(res nb u o x.behind).natAbs→Q .non H')∧((res nb u o x.behind).natAbs<10^(x.before+x.behind)→Q (.str (tx (cont x.signed x.before x.behind (res nb u o x.behind) x.behind))) H'))
set_option maxHeartbeats 1000000 in
theorem WL(F:Fun K "stored" "stored" K2 f fd)(O:Own mg)(D_ten_to:Def P w K mg base 1 "ten_to" ["many"] YL)(D_understood_as:Def P w K mg base 6 "understood_as" ["kind","picture"] (WH K c))(D_cut:Def P w K mg base 2 "cut" ["amount","places"] (zM K))(D_rounded:Def P w K mg base 2 "rounded" ["amount","places"] (Kd K))(D_content_of:Def P w K mg base 7 "content_of" ["picture","amount"] (qx K c)):
  FnOk P w K mg base (CXE P w) 8 f fd ["picture","amount","nearest"] (JL K c):=by
 refine okE F ZM (fun vs H Q E h=>?_) (fun cdv A outer s H vs Q E hr h=>?_)
 ·obtain⟨l,p,u,o,nb,rfl,_⟩:=h
  rfl
 ·obtain⟨l,p,u,o,nb,rfl,hl,M,hc⟩:=h
  have fr:=ZO (P:=P) (w:=w) (K:=K) (mg:=mg) (base:=base) (N:=["picture","amount","nearest","rows","signed","before","behind","result"]) (qual:="stored") (scope:=Qf K2) (f:=f) (cd:=cdv) (A:=A) (outer:=outer) (s:=s) (H:=H) (E:=E)
  have hx:=Jr fr
  refine⟨_,(Qb (Jf (D_understood_as.pe hr (by decide) rfl hx (Qa Qd (Qa (pv 0) Qc))) (Q1 rfl (Qi (Qk (i:=3) ZM.nd rfl (Or.inl rfl)) (Qi (Q1 rfl (Qi (Qk (i:=4) ZM.nd rfl (Or.inl rfl)) (Qi (Qk (i:=5) ZM.nd rfl (Or.inl rfl)) (Qi (Qk (i:=6) ZM.nd rfl (Or.inl rfl)) QG)))) QG))))
   (Qb (Qm (i:=7) ZM.nd rfl (Or.inl rfl) (QD (QY (pv 2) (fun _=>rfl)) (D_rounded.pe hr (by decide) rfl hx (Qa (pv 1) (Qa (pv 6) Qc))) (D_cut.pe hr (by decide) rfl hx (Qa (pv 1) (Qa (pv 6) Qc)))))
   (Qb (QL (Ql jw (Qq J3 rfl O.abs PyProof.Rows.boot_abs (Qa (QJ Jq (pv 7) Qh (fun _ _=>rfl)) Qc)) (D_ten_to.pe hr (by decide) rfl hx (Qa (Qn QT (pv 5) (pv 6)) Qc)) (Qp _)) (Qg (Qs J5)) Qy)
   (Qg (Qs (D_content_of.pe hr (by decide) rfl hx (Qa (pv 0) (Qa (pv 7) Qc)))))))),?_⟩
  rcases hc with⟨hno,k⟩|⟨x,hpic,hroom,k⟩
  ·exact⟨_,rfl,l,2,rfl,hl,by decide,fun _=>k,fun x hp hk=>absurd hk (hno x hp)⟩
  obtain⟨hk2,h1,h18⟩:=id hroom
  refine⟨_,rfl,l,2,rfl,hl,by decide,(fun z=>absurd hk2 (z x hpic).2),fun x' hp _ q p1 rs r H1 S1 g1 g2 R1=>?_⟩
  obtain rfl:x=x':=Option.some.inj (hpic.symm.trans hp)
  refine⟨q,_,rfl,SqT.of g1,rfl,_,_,rfl,_,_,rfl,r,_,rfl,SqT.of g2,rfl,_,_,rfl,_,_,rfl,_,_,rfl,rfl,rfl,?_⟩
  refine⟨_,rfl,nb,rfl,?_⟩
  refine Ju (fun v H'=>∃q,v=.ref q∧Qz H1 H'∧H' q=some (.tup [.int (res nb u o x.behind),.int (x.behind:Nat)])) (fun z rest=>?_) (fun z rest=>?_) ?_
  ·refine⟨_,rfl,_,rfl,p,u,o,(x.behind:Int),rfl,M.same S1,by omega,by omega,fun q hq=>rest _ _ ⟨q,rfl,Qz.new hq,?_⟩⟩
   unfold res
   rw[if_pos z]
   exact Qe
  ·refine⟨_,rfl,_,rfl,p,u,o,(x.behind:Int),rfl,M.same S1,by omega,by omega,fun q hq=>rest _ _ ⟨q,rfl,Qz.new hq,?_⟩⟩
   unfold res
   rw[if_neg (by rw[z];decide)]
   exact Qe
  rintro v H2 ⟨q2,rfl,S2,g3⟩
  obtain⟨kN,kS⟩:=k H2 (S1.trans S2)
  have k:=k
  generalize res nb u o x.behind=R at g3 kN kS k
  have eten:K01.ten (((x.before:Nat):Int)+((x.behind:Nat):Int))=((10^(x.before+x.behind):Nat):Int):=by
   unfold K01.ten
   rw[show(((x.before:Nat):Int)+((x.behind:Nat):Int)).toNat=x.before+x.behind by omega]
   push_cast
   rfl
  refine⟨_,rfl,q2,_,_,_,rfl,rfl,SqT.of g3,rfl,R,rfl,_,rfl,_,rfl,_,_,rfl,rfl,_,rfl,by omega,by omega,_,_,rfl,rfl,_,rfl,?_⟩
  rw[eten,Kt]
  refine ifB (fun z=>?_) (fun z=>?_)
  ·exact kN (by have:=of_decide_eq_true z;omega)
  ·have hlt:R.natAbs<10^(x.before+x.behind):=by have:=of_decide_eq_false z;omega
   refine⟨_,rfl,_,rfl,l,q2,R,(x.behind:Nat),rfl,hl,⟨SqT.of g3,Nat.lt_trans (Qau hlt h18) (by decide),by omega,by omega⟩,.inr ⟨x,hpic,hroom,fun H3 S3=>?_⟩⟩
   exact(k H3 ((S1.trans S2).trans S3)).2 hlt
noncomputable def UO:Sp:=fun vs H Q _=>∃l:List Nat,vs=[.str (tx l)]∧l.length≤500∧
 ((∃r,Dst l 0 (0:Nat) r∧∀H',Qz H H'→Q (.str (tx r)) H')∨∃(a:List Nat)(x:Facts),PicAt a l x∧x.kind<2∧∀H',Qz H H'→Q (.str (tx (List.replicate (a.filter Uy).length 32))) H')
theorem Dst.kind{l r:List Nat}{u:Int}{o:Nat}(h:Dst l u o r):∃x,QR l=some x∧(x.kind=2∨x.kind=3):=by
 rcases h with⟨x,hp,hn,_⟩|⟨lead,first,W,N,broken,tail,Ee,hs,rfl,_⟩
 ·exact⟨x,hp,.inl hn.1⟩
 ·exact⟨_,Ee.pic,.inr rfl⟩
theorem Qbv:(" ":Str)=tx [32]:=by decide+kernel
set_option maxHeartbeats 1000000 in
theorem kH(F:Fun K "blank" "blank" VM f fd)(D_kind_of:Def P w K mg base 7 "kind_of" ["picture"] (qy c))(D_put:Def P w K mg base 8 "put" ["picture","amount"] (kG K))(D_size_of:Def P w K mg base 7 "size_of" ["picture"] zO):FnOk P w K mg base (CXE P w) 9 f fd ["picture"] UO:=by
 refine okE F ql (fun vs H Q E h=>?_) (fun cdv A outer s H vs Q E hr h=>?_)
 ·obtain⟨l,rfl,_⟩:=h
  rfl
 ·obtain⟨l,rfl,hl,hc⟩:=h
  have hz:1000≤sizeLine:=by decide
  have fr:=ZO (P:=P) (w:=w) (K:=K) (mg:=mg) (base:=base) (N:=["picture","kind"]) (qual:="blank") (scope:=Qf VM) (f:=f) (cd:=cdv) (A:=A) (outer:=outer) (s:=s) (H:=H) (E:=E)
  have hx:=Jr fr
  refine⟨_,(Qb (Qm (i:=1) ql.nd rfl (Or.inl rfl) (D_kind_of.pe hr (by decide) rfl hx (Qa (pv 0) Qc)))
   (Qb (QL (PW.pt (Z0 (Ql Jw (pv 1) Qd (Qp _)) (J6 (Ql Jw (pv 1) Qd (Qp _))))) (Qg (Qs (D_put.pe hr (by decide) rfl hx (Qa (pv 0) (Qa (QK (Qa Qh (Qa Qh Qc))) Qc))))) Qy)
   (Qg (Qs (Qn QB Qd (D_size_of.pe hr (by decide) rfl hx (Qa (pv 0) Qc))))))),?_⟩
  obtain⟨x,hpic⟩:∃x,QR l=some x:=by
   rcases hc with⟨r,D,_⟩|⟨a,x,M,_⟩
   ·obtain⟨x,h,_⟩:=Dst.kind D
    exact⟨x,h⟩
   ·exact⟨x,M.pc⟩
  refine⟨_,rfl,l,rfl,hl,(fun z=>by rw[hpic]at z;cases z),fun y hy H1 S1=>?_⟩
  obtain rfl:=Option.some.inj (hpic.symm.trans hy)
  rcases hc with⟨r,D,k⟩|⟨a,x2,M,hk,k⟩
  ·obtain⟨x3,h3,hk3⟩:=Dst.kind D
   obtain rfl:=Option.some.inj (hpic.symm.trans h3)
   have fin:∀R:V→Hp→Prop,(∀H',Qz H H'→R (.str (tx r)) H')→WQ (kG K) [] E (JN (Kx 0) (JN (QaM (JN (tC (.int 0)) (JN (tC (.int 0)) W7))) W7)) [some (.str (tx l)),some (.str (kindS x.kind))] H1 R:=fun R kR=>
    ⟨_,rfl,by show 2≤sizeLine;omega,fun q hq=>⟨l,q,0,0,r,rfl,hl,⟨SqT.of Qe,by decide,by decide,by decide⟩,D,fun H' S=>kR _ ((S1.trans (Qz.new hq)).trans S)⟩⟩
   refine⟨_,rfl,rfl,_,rfl,?_⟩
   rcases hk3 with e|e
   ·rw[e,show V.str "number"=V.str (kindS 2)from rfl,decide_eq_true rfl]
    rw[e]at fin
    exact Q4 (Q4 (fin _ k))
   ·rw[e,show V.str "number"=V.str (kindS 2)from rfl,Kc 3 (by decide) 2 (by decide),decide_eq_false (by decide)]
    rw[e]at fin
    refine QX ⟨_,rfl,rfl,_,rfl,?_⟩
    rw[show V.str "edited"=V.str (kindS 3)from rfl,decide_eq_true rfl]
    exact Q4 (fin _ k)
  ·obtain rfl:=Option.some.inj (hpic.symm.trans M.pc)
   have hk3:x.kind≤3:=by omega
   refine⟨_,rfl,rfl,_,rfl,?_⟩
   rw[show V.str "number"=V.str (kindS 2)from rfl,Kc x.kind hk3 2 (by decide),decide_eq_false (by omega)]
   refine QX ⟨_,rfl,rfl,_,rfl,?_⟩
   rw[show V.str "edited"=V.str (kindS 3)from rfl,Kc x.kind hk3 3 (by decide),decide_eq_false (by omega)]
   have hfl:(a.filter Uy).length≤100:=Nat.le_trans (List.length_filter_le _ _) M.la
   refine QX ⟨_,rfl,a,l,x,rfl,M,fun H2 S2=>⟨" ",(((a.filter Uy).length:Nat):Int),rfl,rfl,by omega,by rw[Qbv,Qj,Int.toNat_natCast,List.length_singleton];omega,by omega,?_⟩⟩
   rw[Int.toNat_natCast,Qbv,Zj]
   exact k H2 (S1.trans S2)
end
end Lw
set_option Elab.async false
set_option linter.all false
set_option maxRecDepth 100000
namespace Lw
open PySem PySem.Spec PyProof.Rows L2 K02
section
variable {P:Program}{w:World}{K:PySem.W.Frag}{mg:Str→Option Value}{base:Heap}{f:Addr}{fd:FuncData}{tk:Nat→Tok}{c kr:Nat→Addr}
theorem V7{H:Hp}{a:Addr}{ns:List Int}(h:SqL K H a (ns.map V.int)):QaL K (.ref a) H (!ns.isEmpty):=.inl ⟨_,h,by cases ns<;>rfl⟩
theorem Y1(F:Fun K "_law_draw" "_law_draw" XM f fd)(O:Own mg):FnOk P w K mg base (CXE P w) 1 f fd ["_law_script","_law_town","_law_many"] (X1 K):=by
 refine okN F Zb (fun vs H Q E h=>?_) (fun cdv A outer s H vs Q E hr h=>?_)
 ·obtain⟨a,t,r,ns,c,many,rs,rfl,_⟩:=h
  rfl
 ·obtain⟨a,t,r,ns,c,many,rs,rfl,hS,T,nat,nar,hl,hc,hm0,hm1,k⟩:=h
  have hu:=jP hr
  have T1:TownAt (upd H t (.dK [(Sum.inr "count",.int (c+1)),(Sum.inr "rests",.ref r)])) t r (c+1) rs:=⟨Qe,by rw[Qt T.ne.symm];exact T.rt,T.vs,by have:=T.c0;omega,by have:=T.ln;omega,T.ne⟩
  have hS1:=hS.upd (o:=.dK [(Sum.inr "count",.int (c+1)),(Sum.inr "rests",.ref r)]) nat
  have A1:Apart t r H (upd H t (.dK [(Sum.inr "count",.int (c+1)),(Sum.inr "rests",.ref r)])):=fun b o e n1 n2=>by rw[Qt n1];exact e
  refine⟨_,(Qb (jK hu (pv 1) Qd (Qn QT (Z7 hu (pv 1) Qd (fun _ _=>rfl)) Qh) rfl)
   (Qb (Qm (i:=3) Zb.nd rfl (Or.inl rfl) (QD (QY (pv 0) (fun _=>rfl)) (Qn K9 (Z7 hu (pv 1) Qd (fun _ _=>rfl)) (Qq QF rfl O.len PySem.boot_len (Qa (pv 0) Qc))) Qh))
   (Qb (Qm (i:=4) Zb.nd rfl (Or.inl rfl) (xu hu (Z7 hu (pv 1) Qd (fun _ _=>rfl)) (pv 3) (QD (QY (pv 0) (fun _=>rfl)) (QJ QN (pv 0) (pv 3) (fun _ _=>rfl)) Qh) ⟨rfl,rfl,rfl,rfl⟩))
   (Qb (QL (Ql jw (pv 4) (Qn kZ Qh Qh) (Qp _)) (Qb (jK hu (Z7 hu (pv 1) Qd (fun _ _=>rfl)) (pv 3) (Qn Ub (pv 4) (pv 2)) rfl)
   (Qg (Qs (Qn K9 (pv 4) (pv 2))))) Qy)
   (Qb (Qm (i:=5) Zb.nd rfl (Or.inl rfl) (Qn K9 (Qn QT (pv 4) (Qn UZ Qh (Z7 hu (pv 1) Qd (fun _ _=>rfl)))) Qh))
   (Qb (Qm (i:=5) Zb.nd rfl (Or.inl rfl) (Qn K9 (Qn kZ (pv 5) Qh) Qh))
   (Qg (Qs (Qn K9 (Qn Ub (Qn K9 (Qn QT (Qn UZ (Qn Ub (pv 5) Qh) Qh) (pv 5)) Qh) Qh) (pv 2)))))))))),?_⟩
  refine⟨_,rfl,t,_,rfl,Xm T.tw,_,_,rfl,rfl,_,rfl,t,_,rfl,qP _ T.tw,?_⟩
  refine⟨_,rfl,_,V7 hS1,?_⟩
  refine ifB (fun hz=>?_) (fun hz=>?_)
  ·have hp:0<ns.length:=by cases ns with|nil=>cases hz|cons a r=>exact Nat.succ_pos _
   have hp':(0:Int)<((ns.map V.int).length:Int):=by rw[List.length_map];omega
   refine⟨_,rfl,t,_,rfl,Xm T1.tw,_,rfl,a,_,rfl,.inl hS1,_,_,rfl,rfl,hp',?_⟩
   have m1:=Int.emod_nonneg (c+1) (Int.ne_of_gt hp')
   have m2:=Int.emod_lt_of_pos (c+1) hp'
   obtain⟨j,hj⟩:=Int.eq_ofNat_of_zero_le m1
   have hjl:j<ns.length:=by rw[hj,List.length_map]at m2;omega
   refine⟨_,rfl,t,_,rfl,Xn T1.tw,r,rfl,.inl ⟨rs,.inl T1.rt⟩,_,rfl,_,rfl,_,V7 hS1,?_⟩
   rw[hz]
   refine Q4 ⟨_,rfl,_,rfl,a,_,_,V.int ns[j],rfl,rfl,hS1,?_,_,qJ.k (k:=Sum.inl ((c+1) % ((ns.map V.int).length:Int))) T1.rt,?_⟩
   ·show atI (ns.map V.int) ((c+1) % ((ns.map V.int).length:Int))=_
    rw[hj]
    refine Zd ?_
    rw[List.getElem?_map,List.getElem?_eq_getElem hjl]
    rfl
   obtain⟨z,hz⟩:=Yq T1.vs ((c+1) % ((ns.map V.int).length:Int)) (ns[j])
   rw[hz]
   refine⟨_,rfl,_,_,rfl,rfl,⟨by decide,by decide,by decide⟩,_,_,rfl,rfl,_,rfl,?_⟩
   refine ifB (fun g=>?_) (fun g=>?_)
   ·have P2:=Yr T1.vs ((c+1) % ((ns.map V.int).length:Int)) (z/many)
    refine⟨_,rfl,_,rfl,_,_,rfl,rfl,⟨hm0,by omega⟩,_,rfl,t,_,rfl,Xn T1.tw,_,rfl,r,_,rfl,wb.k (k:=Sum.inl ((c+1) % ((ns.map V.int).length:Int))) T1.rt (Nat.lt_of_lt_of_le (m:=100001) (by have:=T.ln;omega) (by decide)),?_⟩
    refine⟨_,rfl,_,rfl,_,_,rfl,rfl,hm0,?_⟩
    refine k _ (putK rs (Sum.inl ((c+1) % ((ns.map V.int).length:Int))) (.int (z/many))) _ (Int.emod_nonneg _ (Int.ne_of_gt hm0)) (Int.emod_lt_of_pos _ hm0) ⟨?_,Qe,P2.1,T1.c0,?_,T.ne⟩ (A1.trans fun b o e n1 n2=>by rw[Qt n2];exact e)
    ·rw[Qt T.ne];exact T1.tw
    ·have:=P2.2
     have:=T.ln
     omega
   ·refine⟨_,rfl,_,rfl,t,_,rfl,Xm T1.tw,_,_,rfl,rfl,.inl ⟨by decide,by decide⟩,_,_,rfl,rfl,_,_,rfl,rfl,(show(0:Int)<4294967291 by decide),?_⟩
    have n1:=Int.emod_nonneg (z+104729*(c+1)) (show(4294967291:Int)≠0 by decide)
    have n2:=Int.emod_lt_of_pos (z+104729*(c+1)) (show(0:Int)<4294967291 by decide)
    refine⟨_,rfl,_,_,rfl,rfl,⟨by decide,by decide,by show Int.natAbs _<2^64;omega⟩,_,_,rfl,rfl,(show(0:Int)<4294967279 by decide),?_⟩
    refine⟨_,rfl,_,_,rfl,rfl,⟨by decide,by decide⟩,_,_,rfl,rfl,.inr ⟨by decide,by decide⟩,_,rfl,_,_,rfl,rfl,_,_,rfl,rfl,(show(0:Int)<4294967231 by decide),_,_,rfl,rfl,⟨by decide,by decide⟩,_,rfl,_,_,rfl,rfl,hm0,?_⟩
    exact k _ rs _ (Int.emod_nonneg _ (Int.ne_of_gt hm0)) (Int.emod_lt_of_pos _ hm0) T1 A1
  ·refine⟨_,rfl,t,_,rfl,Xn T1.tw,r,rfl,.inl ⟨rs,.inl T1.rt⟩,_,rfl,_,rfl,_,V7 hS1,?_⟩
   rw[hz]
   refine QX ⟨_,qJ.k (k:=Sum.inl (0:Int)) T1.rt,?_⟩
   obtain⟨z,hz⟩:=Yq T1.vs ((0:Int)) (0)
   rw[hz]
   refine⟨_,rfl,_,_,rfl,rfl,⟨by decide,by decide,by decide⟩,_,_,rfl,rfl,_,rfl,?_⟩
   refine ifB (fun g=>?_) (fun g=>?_)
   ·have P2:=Yr T1.vs ((0:Int)) (z/many)
    refine⟨_,rfl,_,rfl,_,_,rfl,rfl,⟨hm0,by omega⟩,_,rfl,t,_,rfl,Xn T1.tw,_,rfl,r,_,rfl,wb.k (k:=Sum.inl ((0:Int))) T1.rt (Nat.lt_of_lt_of_le (m:=100001) (by have:=T.ln;omega) (by decide)),?_⟩
    refine⟨_,rfl,_,rfl,_,_,rfl,rfl,hm0,?_⟩
    refine k _ (putK rs (Sum.inl ((0:Int))) (.int (z/many))) _ (Int.emod_nonneg _ (Int.ne_of_gt hm0)) (Int.emod_lt_of_pos _ hm0) ⟨?_,Qe,P2.1,T1.c0,?_,T.ne⟩ (A1.trans fun b o e n1 n2=>by rw[Qt n2];exact e)
    ·rw[Qt T.ne];exact T1.tw
    ·have:=P2.2
     have:=T.ln
     omega
   ·refine⟨_,rfl,_,rfl,t,_,rfl,Xm T1.tw,_,_,rfl,rfl,.inl ⟨by decide,by decide⟩,_,_,rfl,rfl,_,_,rfl,rfl,(show(0:Int)<4294967291 by decide),?_⟩
    have n1:=Int.emod_nonneg (z+104729*(c+1)) (show(4294967291:Int)≠0 by decide)
    have n2:=Int.emod_lt_of_pos (z+104729*(c+1)) (show(0:Int)<4294967291 by decide)
    refine⟨_,rfl,_,_,rfl,rfl,⟨by decide,by decide,by show Int.natAbs _<2^64;omega⟩,_,_,rfl,rfl,(show(0:Int)<4294967279 by decide),?_⟩
    refine⟨_,rfl,_,_,rfl,rfl,⟨by decide,by decide⟩,_,_,rfl,rfl,.inr ⟨by decide,by decide⟩,_,rfl,_,_,rfl,rfl,_,_,rfl,rfl,(show(0:Int)<4294967231 by decide),_,_,rfl,rfl,⟨by decide,by decide⟩,_,rfl,_,_,rfl,rfl,hm0,?_⟩
    exact k _ rs _ (Int.emod_nonneg _ (Int.ne_of_gt hm0)) (Int.emod_lt_of_pos _ hm0) T1 A1
theorem V8(F:Fun K "_law_begun" "_law_begun" Xh f fd):FnOk P w K mg base (CXE P w) 1 f fd [] Uj:=by
 refine Qci F VN (fun vs H Q E h=>?_) (fun cdv A outer s H vs Q E hr h=>?_)
 ·obtain⟨rfl,_⟩:=h
  rfl
 ·obtain⟨rfl,k⟩:=h
  refine⟨_,qO,?_⟩
  intro p hp d hd
  have npd:d≠p:=fun z=>by rw[z,Qe]at hd;cases hd
  have hd0:H d=none:=by rw[Qt npd]at hd;exact hd
  refine⟨by rw[Qt npd.symm,Qe],[(Sum.inr "count",.int 0),(Sum.inr "rests",.ref d)],rfl,Nat.le_of_ble_eq_true rfl,?_⟩
  have e:KA [] [((Sum.inr "count":Key),V.int 0),((Sum.inr "rests":Key),V.ref d)]=[((Sum.inr "count":Key),V.int 0),((Sum.inr "rests":Key),V.ref d)]:=by
   have h:¬ ((Sum.inr "count":Key)=(Sum.inr "rests":Key)):=jU
   unfold KA putK
   simp[h]
  rw[e]
  refine k p d _ hp hd0 ⟨Qe,by rw[Qt npd,Qe],(fun kv hm=>nomatch hm),by decide,by decide,npd.symm⟩ fun b o z=>?_
  rw[Qt (Qv z hp),Qt (Qv z hd0),Qt (Qv z hp)]
  exact z
theorem Y2{H H':Hp}{t r q:Addr}{c:Int}{rs:List (Key × V)}(A:Apart t r H H')(T:TownAt H' t r c rs)(h:H' q=none):H q=none:=by
 cases e:H q with
 |none=>rfl
 |some o=>
  by_cases z1:q=t
  ·rw[z1,T.tw]at h;cases h
  ·by_cases z2:q=r
   ·rw[z2,T.rt]at h;cases h
   ·rw[A q o e z1 z2]at h;cases h
end
structure Kind(K:PySem.W.Frag)(c:Nat→Addr)(i:Nat):Prop where
 lo:1≤i
 hi:i≤14
 er:ErrK K (c i)
 ki:∀j,j<14→PySem.W.kitOne K (.ref (c i)) (.ref (c (j+1)))=some (decide (j+1=i))
 va:PySem.W.kitOne K (.ref (c i)) (.type "ValueError")=some true
 bo:PySem.W.exmOne K (.ref (c i)) (.ref (c 0))=some true
noncomputable def yj(i:Nat):Str:=(["no picture","no room","no quotient","no text","no figures","no letters","no move","no path","no amount","no group","bad size","no back","bad row","closed"]:List Str).getD (i-1) ""
noncomputable def kinds(i:Nat):List V:=[.bl (decide (0+1=i)),.bl (decide (1+1=i)),.bl (decide (2+1=i)),.bl (decide (3+1=i)),.bl (decide (4+1=i)),.bl (decide (5+1=i)),.bl (decide (6+1=i)),.bl (decide (7+1=i)),.bl (decide (8+1=i)),.bl (decide (9+1=i)),.bl (decide (10+1=i)),.bl (decide (11+1=i)),.bl (decide (12+1=i)),.bl (decide (13+1=i))]
theorem UP:∀i,i<15→1≤i→(kinds i).countP (fun z=>eqV z (.bl true))=1:=by decide
theorem kI:∀i,i<15→1≤i→(kinds i)[i-1]? =some (.bl true):=by decide
theorem kJ:∀i,i<15→1≤i→∀j,j<i-1→(kinds i)[j]? =some (.bl false):=by decide
theorem Vo(i:Nat):(kinds i).all Z5=true:=rfl
noncomputable def nms:List V:=[.str "no picture",.str "no room",.str "no quotient",.str "no text",.str "no figures",.str "no letters",.str "no move",.str "no path",.str "no amount",.str "no group",.str "bad size",.str "no back",.str "bad row",.str "closed"]
theorem Qaw:∀i,i<15→1≤i→nms[i-1]? =some (.str (yj i)):=by decide
noncomputable def WM(K:PySem.W.Frag)(c:Nat→Addr):Sp:=fun vs H Q _=>∃(a:Addr)(i:Nat),vs=[.ref a]∧H a=some (jQ a (.ref (c i)))∧Kind K c i∧∀H',Qz H H'→Q (.str (yj i)) H'
section
variable {P:Program}{w:World}{K:PySem.W.Frag}{mg:Str→Option Value}{base:Heap}{f:Addr}{fd:FuncData}{tk:Nat→Tok}{c kr:Nat→Addr}
set_option maxHeartbeats 8000000 in
theorem V9(F:Fun K "_law_class" "_law_class" Xi f fd)(O:Own mg)(T:Txt K mg tk c kr):FnOk P w K mg base (CXE P w) 1 f fd ["_law_kept"] (WM K c):=by
 refine okN F Jo (fun vs H Q E h=>?_) (fun cdv A outer s H vs Q E hr h=>?_)
 ·obtain⟨a,i,rfl,_⟩:=h
  rfl
 ·obtain⟨a,i,rfl,hH,G,k⟩:=h
  have isi:∀(H1:Hp)(j:Nat),Qz H H1→j<14→(∃t,TyOf K H1 (.ref a) t∧PySem.W.kitOne K t (wU (.ref (c (j+1))))=some (decide (j+1=i)))∨∃b C,V.ref a=.ref b∧H1 b=some (jQ b (.ref C))∧ErrK K C∧PySem.W.kitOne K (.ref C) (wU (.ref (c (j+1))))=some (decide (j+1=i)):=
   fun H1 j e hj=>.inr ⟨a,c i,rfl,e _ _ hH,G.er,G.ki j hj⟩
  refine⟨_,(Qb (Qm (i:=1) Jo.nd rfl (Or.inl rfl) (JH (Qa (Qq Jd rfl O.isi PyProof.Rows.boot_isinstance (Qa (pv 0) (Qa (QC (v:=V.ref (c 1)) rfl T.m_NoPicture rfl) Qc))) (Qa (Qq Jd rfl O.isi PyProof.Rows.boot_isinstance (Qa (pv 0) (Qa (QC (v:=V.ref (c 2)) rfl T.m_NoRoom rfl) Qc))) (Qa (Qq Jd rfl O.isi PyProof.Rows.boot_isinstance (Qa (pv 0) (Qa (QC (v:=V.ref (c 3)) rfl T.m_NoQuotient rfl) Qc))) Qc)))))
   (Qb (Qm (i:=1) Jo.nd rfl (Or.inl rfl) (Qn Wd (pv 1) (JH (Qa (Qq Jd rfl O.isi PyProof.Rows.boot_isinstance (Qa (pv 0) (Qa (QC (v:=V.ref (c 4)) rfl T.m_NoText rfl) Qc))) (Qa (Qq Jd rfl O.isi PyProof.Rows.boot_isinstance (Qa (pv 0) (Qa (QC (v:=V.ref (c 5)) rfl T.m_NoFigures rfl) Qc))) (Qa (Qq Jd rfl O.isi PyProof.Rows.boot_isinstance (Qa (pv 0) (Qa (QC (v:=V.ref (c 6)) rfl T.m_NoLetters rfl) Qc))) Qc))))))
   (Qb (Qm (i:=1) Jo.nd rfl (Or.inl rfl) (Qn Wd (pv 1) (JH (Qa (Qq Jd rfl O.isi PyProof.Rows.boot_isinstance (Qa (pv 0) (Qa (QC (v:=V.ref (c 7)) rfl T.m_NoMove rfl) Qc))) (Qa (Qq Jd rfl O.isi PyProof.Rows.boot_isinstance (Qa (pv 0) (Qa (QC (v:=V.ref (c 8)) rfl T.m_NoPath rfl) Qc))) (Qa (Qq Jd rfl O.isi PyProof.Rows.boot_isinstance (Qa (pv 0) (Qa (QC (v:=V.ref (c 9)) rfl T.m_NoAmount rfl) Qc))) Qc))))))
   (Qb (Qm (i:=1) Jo.nd rfl (Or.inl rfl) (Qn Wd (pv 1) (JH (Qa (Qq Jd rfl O.isi PyProof.Rows.boot_isinstance (Qa (pv 0) (Qa (QC (v:=V.ref (c 10)) rfl T.m_NoGroup rfl) Qc))) (Qa (Qq Jd rfl O.isi PyProof.Rows.boot_isinstance (Qa (pv 0) (Qa (QC (v:=V.ref (c 11)) rfl T.m_BadSize rfl) Qc))) (Qa (Qq Jd rfl O.isi PyProof.Rows.boot_isinstance (Qa (pv 0) (Qa (QC (v:=V.ref (c 12)) rfl T.m_NoBack rfl) Qc))) Qc))))))
   (Qb (Qm (i:=1) Jo.nd rfl (Or.inl rfl) (Qn Wd (pv 1) (JH (Qa (Qq Jd rfl O.isi PyProof.Rows.boot_isinstance (Qa (pv 0) (Qa (QC (v:=V.ref (c 13)) rfl T.m_BadRow rfl) Qc))) (Qa (Qq Jd rfl O.isi PyProof.Rows.boot_isinstance (Qa (pv 0) (Qa (QC (v:=V.ref (c 14)) rfl T.m_Closed rfl) Qc))) Qc)))))
   (Qb (QL (PW.pt (Z0 (Ql Zc (JS PySem.F.plainAttrs_list PySem.F.slot_list_count PySem.F.type_list_count xA (pv 1) (Qa XR Qc)) Qh (Qp _)) (J6 (W4 (W3 (Qq Jd rfl O.isi PyProof.Rows.boot_isinstance (Qa (pv 0) (Qa (jn (v:=V.ty "ValueError") rfl O.val PyProof.Rows.Boot.«ValueError» rfl) Qc)))))))) (Qg (Qs Qd)) Qy)
   (Qb (Qm (i:=2) Jo.nd rfl (Or.inl rfl) (JH (Qa Qd (Qa Qd (Qa Qd (Qa Qd (Qa Qd (Qa Qd (Qa Qd (Qa Qd Qc))))))))))
   (Qg (Qs (QJ QN (Qn Wd (pv 2) (JH (Qa Qd (Qa Qd (Qa Qd (Qa Qd (Qa Qd (Qa Qd Qc)))))))) (JS PySem.F.plainAttrs_list PySem.F.slot_list_index PySem.F.type_list_index xB (pv 1) (Qa XR Qc)) (fun _ _=>rfl))))))))))),?_⟩
  have e0:=Qz.refl H
  refine⟨_,rfl,_,_,_,rfl,rfl,isi _ 0 e0 (by decide),_,rfl,_,_,_,rfl,rfl,isi _ 1 e0 (by decide),_,rfl,_,_,_,rfl,rfl,isi _ 2 e0 (by decide),by show 3≤sizeLine;decide,fun p1 h1=>?_⟩
  generalize hG:upd H p1 _=H1
  have e1:Qz H H1:=by rw[←hG];exact Qz.new h1
  have g1:H1 p1=some (.lst [.bl (decide (0+1=i)),.bl (decide (1+1=i)),.bl (decide (2+1=i))]):=by rw[←hG];exact Qe
  clear hG h1
  refine⟨_,rfl,_,rfl,_,_,_,rfl,rfl,isi _ 3 e1 (by decide),_,rfl,_,_,_,rfl,rfl,isi _ 4 e1 (by decide),_,rfl,_,_,_,rfl,rfl,isi _ 5 e1 (by decide),by show 3≤sizeLine;decide,fun q2 h2=>⟨p1,q2,_,_,rfl,rfl,by rw[Qt (Qv g1 h2)];exact g1,Qe,by show 6≤sizeLine;decide,fun p2 h3=>?_⟩⟩
  generalize hG:upd (upd H1 q2 _) p2 _=H2
  have e2:Qz H H2:=by rw[←hG];exact(e1.trans (Qz.new h2)).trans (Qz.new h3)
  have g2:H2 p2=some (.lst [.bl (decide (0+1=i)),.bl (decide (1+1=i)),.bl (decide (2+1=i)),.bl (decide (3+1=i)),.bl (decide (4+1=i)),.bl (decide (5+1=i))]):=by rw[←hG];exact Qe
  clear hG h2 h3
  refine⟨_,rfl,_,rfl,_,_,_,rfl,rfl,isi _ 6 e2 (by decide),_,rfl,_,_,_,rfl,rfl,isi _ 7 e2 (by decide),_,rfl,_,_,_,rfl,rfl,isi _ 8 e2 (by decide),by show 3≤sizeLine;decide,fun q3 h2=>⟨p2,q3,_,_,rfl,rfl,by rw[Qt (Qv g2 h2)];exact g2,Qe,by show 9≤sizeLine;decide,fun p3 h3=>?_⟩⟩
  generalize hG:upd (upd H2 q3 _) p3 _=H3
  have e3:Qz H H3:=by rw[←hG];exact(e2.trans (Qz.new h2)).trans (Qz.new h3)
  have g3:H3 p3=some (.lst [.bl (decide (0+1=i)),.bl (decide (1+1=i)),.bl (decide (2+1=i)),.bl (decide (3+1=i)),.bl (decide (4+1=i)),.bl (decide (5+1=i)),.bl (decide (6+1=i)),.bl (decide (7+1=i)),.bl (decide (8+1=i))]):=by rw[←hG];exact Qe
  clear hG h2 h3
  refine⟨_,rfl,_,rfl,_,_,_,rfl,rfl,isi _ 9 e3 (by decide),_,rfl,_,_,_,rfl,rfl,isi _ 10 e3 (by decide),_,rfl,_,_,_,rfl,rfl,isi _ 11 e3 (by decide),by show 3≤sizeLine;decide,fun q4 h2=>⟨p3,q4,_,_,rfl,rfl,by rw[Qt (Qv g3 h2)];exact g3,Qe,by show 12≤sizeLine;decide,fun p4 h3=>?_⟩⟩
  generalize hG:upd (upd H3 q4 _) p4 _=H4
  have e4:Qz H H4:=by rw[←hG];exact(e3.trans (Qz.new h2)).trans (Qz.new h3)
  have g4:H4 p4=some (.lst [.bl (decide (0+1=i)),.bl (decide (1+1=i)),.bl (decide (2+1=i)),.bl (decide (3+1=i)),.bl (decide (4+1=i)),.bl (decide (5+1=i)),.bl (decide (6+1=i)),.bl (decide (7+1=i)),.bl (decide (8+1=i)),.bl (decide (9+1=i)),.bl (decide (10+1=i)),.bl (decide (11+1=i))]):=by rw[←hG];exact Qe
  clear hG h2 h3
  refine⟨_,rfl,_,rfl,_,_,_,rfl,rfl,isi _ 12 e4 (by decide),_,rfl,_,_,_,rfl,rfl,isi _ 13 e4 (by decide),by show 2≤sizeLine;decide,fun q5 h2=>⟨p4,q5,_,_,rfl,rfl,by rw[Qt (Qv g4 h2)];exact g4,Qe,by show 14≤sizeLine;decide,fun p5 h3=>?_⟩⟩
  generalize hG:upd (upd H4 q5 _) p5 _=H5
  have e5:Qz H H5:=by rw[←hG];exact(e4.trans (Qz.new h2)).trans (Qz.new h3)
  have g5:H5 p5=some (.lst [.bl (decide (0+1=i)),.bl (decide (1+1=i)),.bl (decide (2+1=i)),.bl (decide (3+1=i)),.bl (decide (4+1=i)),.bl (decide (5+1=i)),.bl (decide (6+1=i)),.bl (decide (7+1=i)),.bl (decide (8+1=i)),.bl (decide (9+1=i)),.bl (decide (10+1=i)),.bl (decide (11+1=i)),.bl (decide (12+1=i)),.bl (decide (13+1=i))]):=by rw[←hG];exact Qe
  clear hG h2 h3
  have hi:i<15:=by have:=G.hi;omega
  have g6:H5 p5=some (.lst (kinds i)):=g5
  clear g5
  have ty5:∀H':Hp,H' p5=some (.lst (kinds i))→tyV K "list" (V.ref p5) H':=fun H' g=>.inl ⟨rfl,_,.inl (.inl g)⟩
  refine⟨_,rfl,ty5 _ g6,p5,kinds i,_,rfl,rfl,g6,rfl,Vo i,?_⟩
  rw[UP i hi G.lo]
  refine⟨rfl,_,rfl,?_⟩
  refine ifB (fun z=>absurd z (by decide)) (fun _=>?_)
  refine⟨_,rfl,_,_,_,rfl,rfl,.inr ⟨a,c i,rfl,e5 _ _ hH,G.er,G.va⟩,_,rfl,?_⟩
  refine ifB (fun z=>absurd z (by decide)) (fun _=>?_)
  refine⟨by show 8≤sizeLine;decide,fun p6 h6=>?_⟩
  generalize hG:upd H5 p6 _=H6
  have e6:Qz H H6:=by rw[←hG];exact e5.trans (Qz.new h6)
  have k6:H6 p5=some (.lst (kinds i)):=by rw[←hG,Qt (Qv g6 h6)];exact g6
  have g7:H6 p6=some (.lst [.str "no picture",.str "no room",.str "no quotient",.str "no text",.str "no figures",.str "no letters",.str "no move",.str "no path"]):=by rw[←hG];exact Qe
  clear hG h6 g6
  refine⟨_,rfl,by show 6≤sizeLine;decide,fun q6 h7=>⟨p6,q6,_,_,rfl,rfl,by rw[Qt (Qv g7 h7)];exact g7,Qe,by show 14≤sizeLine;decide,fun p7 h8=>?_⟩⟩
  generalize hG:upd (upd H6 q6 _) p7 _=H7
  have e7:Qz H H7:=by rw[←hG];exact(e6.trans (Qz.new h7)).trans (Qz.new h8)
  have k7:H7 p5=some (.lst (kinds i)):=by
   have z:Qz H6 H7:=by rw[←hG];exact(Qz.new h7).trans (Qz.new h8)
   exact z _ _ k6
  have g8:H7 p7=some (.lst nms):=by rw[←hG];exact Qe
  clear hG h7 h8
  refine⟨_,rfl,ty5 _ k7,p5,kinds i,_,i-1,rfl,rfl,k7,rfl,Vo i,⟨_,kI i hi G.lo,rfl⟩,fun j z hj hz=>?_,p7,nms,_,.str (yj i),rfl,rfl,.inl (.inl g8),Zd (Qaw i hi G.lo),k _ e7⟩
  rw[kJ i hi G.lo j hj]at hz
  cases hz
  rfl
end
noncomputable def tHd(K:PySem.W.Frag)(c:Nat→Addr)(te:XK→TE):L2.St→Hp→VK→Prop:=fun σ H1 Q=>∀H0,Qz H1 H0→
 te (fun cls _ H2=>∃i,cls=.ref (c i)∧Kind K c i∧∀a p H3,H2 a=none→Qz (upd H2 a (jQ a cls)) H3→H3 p=none→Q (.ref p) (upd H3 p (.tup [.str (yj i)]))) σ H0
  (fun v H2=>∀p,H2 p=none→Q (.ref p) (upd H2 p (.tup [.str "told",v])))
theorem zW{P:Program}{w:World}{X:Cx}:Passes (CXE P w) X E00:=fun _ _ _ _ _ _ _⟨_,_,_,_,_,_,_,_,_,_,_,_,_,_,h⟩=>False.elim h
theorem jg{P:Program}{w:World}{K:PySem.W.Frag}{mg:Str→Option Value}{base:Heap}{k:Nat}{fa:Addr}{q:Str}{params:Arguments}{body:Expr}{scope:Scope}{tk:Nat→Tok}{c kr:Nat→Addr}{te:XK→TE}{A:Around}{outer:List Env}{cdv:Value}{N:List Str}{σ:L2.St}{f c':Addr}{cl:List (Str × Addr)}{pm ctv:Value}{s1:Shared}{H1:Hp}{Q:VK}
  (T:Txt K mg tk c kr) (D__law_class:Def P w K mg base 1 "_law_class" ["_law_kept"] (WM K c))
  (LA:LamAt (WR (CXE P w) P w K mg base ["_law_deed","_law_kept","_law_found","e"] "_law_heard" (Qf Jh) fa cdv A outer s1 H1 E00) N σ q params body scope f c' cl pm ctv)
  (hlo:∀x c,cl.lookup x=some c→c<s1.heap.objs.size) (hr1:Room (k+1) (A.deeper (envOfC "_law_heard" (Qf Jh) s1.heap.objs.size fa cdv)))
  (hlam:∀(f c':Addr)(cl:List (Str × Addr))(A:Around)(outer:List Env)(s:Shared)(H:Hp)(E:XK),Room k (A.deeper (PySem.W.envX q scope s.heap.objs.size f (.ref c') cl))→PE (qL P w K mg base N q scope f c' cl A outer s H E) body (te E))
  (hmono:∀(σ:L2.St)(H:Hp)(Q Q':VK)(E E':XK),(∀cls x H,E cls x H→E' cls x H)→(∀v H,Q v H→Q' v H)→te E σ H Q→te E' σ H Q')
  (hcd:H1 c'=some (XZ c' q)) (h:tHd K c te σ H1 Q):
  ∃t,PSs (WR (CXE P w) P w K mg base ["_law_deed","_law_kept","_law_found","e"] "_law_heard" (Qf Jh) fa cdv A outer s1 H1 E00) (QP Jh) t∧t {nx:=fun _ H'=>Q .non H',rt:=Q} (start ["_law_deed","_law_kept","_law_found","e"] [.ref f]) H1:=by
 refine⟨_,(Qb (Jf (QK (Qa J5 (Qa J5 Qc))) (Q1 rfl (Qi (Qk (i:=1) JF.nd rfl (Or.inl rfl)) (Qi (Qk (i:=2) JF.nd rfl (Or.inl rfl)) QG))))
   (Qb (yL (i:=3) (tb:=fun E=>_) rfl rfl rfl rfl rfl T.m_BoxError JF.nd rfl rfl (fun E pn xe hx=>Qg (Qm (i:=2) JF.nd rfl (Or.inl rfl) (wS (i:=0) (te:=te E) LA.alt rfl rfl rfl (Or.inl rfl) hr1 hx hlo (fun s H hr2=>hlam f c' cl _ _ s H E hr2)))) (fun v=>Qg (Qm (i:=1) JF.nd rfl (Or.inl rfl) (pv 3))))
   (Qg (Qs (QD (ZJ (XS (pv 1))) (QK (Qa Qd (Qa (pv 2) Qc))) (QK (Qa (D__law_class.pe hr1 (Nat.succ_le_succ (Nat.zero_le k)) rfl zW (Qa (pv 1) Qc)) Qc))))))),?_⟩
 refine⟨by show 2≤sizeLine;decide,fun p0 h0=>⟨p0,_,rfl,SqT.of Qe,rfl,_,_,rfl,_,_,rfl,rfl,?_⟩⟩
 have S0:=Qz.new (o:=.tup [.non,.non]) h0
 refine⟨rfl,S0 _ _ hcd,hmono σ _ _ _ _ _ (fun cls x H2 hE=>?_) (fun v H2 hQ=>?_) (h _ S0)⟩
 ·obtain⟨i,rfl,G,hE⟩:=hE
  refine⟨G.bo,fun a ha=>⟨_,rfl,?_⟩⟩
  refine⟨_,rfl,_,rfl,?_⟩
  refine ifB (fun z=>nomatch (of_decide_eq_true z)) (fun _=>?_)
  exact⟨_,rfl,a,i,rfl,Qe,G,fun H3 e3=>⟨by show 1≤sizeLine;decide,fun p hp=>hE a p H3 ha e3 hp⟩⟩
 ·refine⟨_,rfl,_,rfl,?_⟩
  refine ifB (fun _=>?_) (fun z=>absurd z (by decide))
  exact⟨_,rfl,by show 2≤sizeLine;decide,fun p hp=>hQ p hp⟩
section
variable {X:Cx}{k:Nat}{fa:Addr}{fd:FuncData}{ca Pa:Addr}{q:Str}{params:Arguments}{body:Expr}{scope:Scope}{p lpos cpos:Pos}{tk:Nat→Tok}{c kr:Nat→Addr}{te:XK→TE}
theorem kK{K0:PySem.W.Frag}(hK:X.K=K0)(F:Fun X.K "_law_heard" "_law_heard" Jh fa fd)(hm:X.mg "_law_heard"=some (.ref fa))(hb:Binds X.K fd ["_law_deed"] [])(T:Txt X.K X.mg tk c kr)(D__law_class:Def X.prog X.w X.K X.mg X.base 1 "_law_class" ["_law_kept"] (WM X.K c))
  (hr:Room (k+2) X.A) (hg:Gl X "_law_heard")
  (L:Lamb X.mg X.base ca Pa) (hcode:X.env.code=.ref ca) (hq:q=X.env.qual++"<lambda>") (hdef:defaultsOf params X.env=([],[])) (hfn:∀y,X.fn y=true)
  (sk:scope.kind=.function) (sco:scope.isCoroutine=false) (sgen:scope.isGenerator=false) (snone:∀y∈scope.names,y.2≠ .local∧y.2≠ .cell) (sfree:jV scope X.env.scope=true)
  (hbind:∀cl pm c' ctv,bindArgs (PySem.W.kla_fn "<lambda>" q params body scope cl pm (.ref c') ctv) ⟨[],[]⟩=pure [])
  (hlam:∀(f c':Addr)(cl:List (Str × Addr))(A:Around)(outer:List Env)(s:Shared)(H:Hp)(E:XK),Room k (A.deeper (PySem.W.envX q scope s.heap.objs.size f (.ref c') cl))→PE (qL X.prog X.w X.K X.mg X.base X.N q scope f c' cl A outer s H E) body (te E))
  (hmono:∀(σ:L2.St)(H:Hp)(Q Q':VK)(E E':XK),(∀cls x H,E cls x H→E' cls x H)→(∀v H,Q v H→Q' v H)→te E σ H Q→te E' σ H Q'):
  PE X (.Call (.Name "_law_heard" p) [.Lambda params body scope lpos] [] cpos) (Qbh Pa q (fun σ f c' H1 Q=>H1 c'=some (XZ c' q)∧tHd K0 c te σ H1 Q)):=by
 subst hK
 refine qQ F JF hm hg hb hr zW L hcode hq hdef hfn sk sco sgen snone (Ys sfree) hbind (fun cdv σ f c' cl pm ctv s1 H1 Q LA hlo hr1 h=>?_)
 exact jg T D__law_class LA hlo hr1 hlam hmono h.1 h.2
end
end Lw
set_option Elab.async false
set_option linter.all false
set_option maxRecDepth 100000
namespace Lw
open PySem PySem.Spec PyProof.Rows L2 K02 K04
noncomputable abbrev tv(l:List Nat):V:=.str (tx l)
theorem UQ{ls:List (List Nat)}{d:Nat}{x:V}(h:(ls.map tv)[d]? =some x):∃l,l∈ls∧x=.str (tx l):=by
 rw[List.getElem?_map]at h
 cases e:ls[d]? with
 |none=>rw[e]at h;cases h
 |some l=>rw[e]at h;exact⟨l,List.mem_of_getElem? e,(Option.some.inj h).symm⟩
section
variable {P:Program}{w:World}{K:PySem.W.Frag}{mg:Str→Option Value}{base:Heap}{f:Addr}{fd:FuncData}{tk:Nat→Tok}{c kr:Nat→Addr}
noncomputable def Qbw:List (List Nat):=[[],[],[44],[66],[48],[47],[66,44]]
theorem Qax:([.str "",.str "",.str ",",.str "B",.str "0",.str "/",.str "B,"]:List V)=Qbw.map tv:=by decide+kernel
noncomputable def Qbx:List (List Nat):=[[],[],[],[44],[47]]
theorem Qay:([.str "",.str "",.str "",.str ",",.str "/"]:List V)=Qbx.map tv:=by decide+kernel
theorem v6:∀l∈Qbw,(∀x∈l,ins x=true)∧l.length≤2:=by decide
theorem v7:∀l∈Qbx,(∀x∈l,ins x=true)∧l.length≤2:=by decide
theorem zX{s:Nat}{e:List Nat}(hs:ins s=false)(he:∀x∈e,ins x=true):e.count s=0:=List.count_eq_zero.mpr fun z=>by have:=he s z;rw[hs]at this;cases this
theorem _root_.K04.PlT.app{s m:Nat}{l e:List Nat}(hs:ins s=false)(h:PlT s m l)(he:∀x∈e,ins x=true):PlT s m (l++e):=by
 refine⟨by rw[List.head?_append,h.hd];rfl,fun x hx=>?_,by rw[List.count_append,zX hs he];exact h.cn⟩
 rcases List.mem_append.mp hx with hx|hx
 ·exact h.all x hx
 ·exact .inr (he x hx)
theorem _root_.K04.PlT.snoc{s m:Nat}{l:List Nat}(h:PlT s m l):PlT s (m+1) (l++[s]):=by
 refine⟨by rw[List.head?_append,h.hd];rfl,fun x hx=>?_,by rw[List.count_append];have:=h.cn;simp;omega⟩
 rcases List.mem_append.mp hx with hx|hx
 ·exact h.all x hx
 ·exact .inl (List.mem_singleton.mp hx)
theorem _root_.K04.PlT.cons{s m:Nat}{l:List Nat}(h:PlT s m l):PlT s (m+1) (s::l):=by
 refine⟨rfl,fun x hx=>?_,by rw[List.count_cons_self];have:=h.cn;omega⟩
 rcases List.mem_cons.mp hx with hx|hx
 ·exact .inl hx
 ·exact h.all x hx
theorem _root_.K04.PlT.mono{s m m':Nat}{l:List Nat}(h:PlT s m l)(hm:m≤m'):PlT s m' l:=⟨h.hd,h.all,Nat.le_trans h.cn hm⟩
noncomputable def v8(K:PySem.W.Frag):Sp:=fun vs H Q _=>∃(a t r:Addr)(ns:List Int)(c:Int)(s m:Nat),vs=[.ref a,.ref t,.str (tx [s]),.int (m:Nat)]∧Bag K H a t r ns c∧c<90000∧ins s=false∧0<m∧m≤5∧
 ∀(l:List Nat)(c':Int)(H':Hp),PlT s m l→l.length≤20→Bag K H' a t r ns c'→c'≤c+10→Apart t r H H'→Q (.str (tx l)) H'
theorem W2(F:Fun K "_law_places" "_law_places" ZX f fd)(O:Own mg)(D__law_draw:Def P w K mg base 1 "_law_draw" ["_law_script","_law_town","_law_many"] (X1 K)):
  FnOk P w K mg base (CXE P w) 2 f fd ["_law_script","_law_town","_law_symbol","_law_most"] (v8 K):=by
 refine okN F J4 (fun vs H Q E h=>?_) (fun cdv A outer s H vs Q E hr h=>?_)
 ·obtain⟨a,t,r,ns,c,s,m,rfl,_⟩:=h
  rfl
 ·obtain⟨a,t,r,ns,c,sy,m,rfl,B,hc,hs,hm0,hm5,k⟩:=h
  have hz:1000≤sizeLine:=by decide
  refine⟨_,(Qb (Qm (i:=4) J4.nd rfl (Or.inl rfl) (pv 2))
   (Qb (Xr PassesOwn.never rfl (XT rfl O.range (Qa (D__law_draw.pe hr (by decide) rfl Qw (Qa (pv 0) (Qa (pv 1) (Qa (pv 3) Qc)))) Qc)) (Qk (i:=5) J4.nd rfl (Or.inl rfl)) (Qg (Qm (i:=4) J4.nd rfl (Or.inl rfl) (Qn Qo (Qn Qo (pv 4) (QJ QN (JH (Qa Qd (Qa Qd (Qa Qd (Qa Qd (Qa Qd (Qa Qd (Qa Qd Qc)))))))) (D__law_draw.pe hr (by decide) rfl Qw (Qa (pv 0) (Qa (pv 1) (Qa Qh Qc)))) (fun _ _=>rfl))) (pv 2)))))
   (Qg (Qs (Qn Qo (pv 4) (QJ QN (JH (Qa Qd (Qa Qd (Qa Qd (Qa Qd (Qa Qd Qc)))))) (D__law_draw.pe hr (by decide) rfl Qw (Qa (pv 0) (Qa (pv 1) (Qa Qh Qc)))) (fun _ _=>rfl))))))),?_⟩
  refine⟨_,rfl,?_⟩
  refine B.draw (n:=(m:Int)) rfl rfl (fun R h=>⟨_,rfl,h⟩) (by omega) (by omega) (by omega) fun d H1 hd B1 A1=>?_
  refine⟨(d:Int),rfl,by omega,by omega,XU (n:=(d:Int).toNat) (fun i σ H3=>∃l x c3,σ=[some (.ref a),some (.ref t),some (.str (tx [sy])),some (.int (m:Nat)),some (.str (tx l)),x]∧PlT sy (i+1) l∧l.length≤1+3*i∧Bag K H3 a t r ns c3∧c3=c+1+i∧Apart t r H H3)
   ⟨[sy],none,_,rfl,⟨rfl,fun x hx=>.inl (List.mem_singleton.mp hx),by simp⟩,by simp,B1,by omega,A1⟩ ?_ ?_⟩
  ·rintro i σ H3 hi ⟨l,x,c3,rfl,hl,hll,B3,rfl,A3⟩
   refine⟨_,rfl,?_⟩
   refine B3.pick (xs:=Qbw.map tv) rfl rfl (fun R h=>by rw[←Qax]at h;exact h) (by decide) (by decide) (by decide) (by omega) fun d2 x2 H4 hx2 B4 A4=>?_
   obtain⟨e,he,rfl⟩:=UQ hx2
   obtain⟨he1,he2⟩:=v6 e he
   refine⟨_,_,rfl,rfl,by rw[Qj,Qj];omega,?_⟩
   rw[QM]
   refine⟨_,rfl,_,_,rfl,rfl,by rw[Qj,Qj,List.length_append,List.length_singleton];omega,?_⟩
   rw[QM]
   refine⟨l++e++[sy],_,_,rfl,(hl.app hs he1).snoc,by rw[List.length_append,List.length_append,List.length_singleton];omega,B4,by omega,A3.trans A4⟩
  ·rintro σ H3 ⟨l,x,c3,rfl,hl,hll,B3,rfl,A3⟩
   refine⟨_,rfl,?_⟩
   refine B3.pick (xs:=Qbx.map tv) rfl rfl (fun R h=>by rw[←Qay]at h;exact h) (by decide) (by decide) (by decide) (by omega) fun d2 x2 H4 hx2 B4 A4=>?_
   obtain⟨e,he,rfl⟩:=UQ hx2
   obtain⟨he1,he2⟩:=v7 e he
   refine⟨_,_,rfl,rfl,by rw[Qj,Qj];omega,?_⟩
   rw[QM]
   exact k _ _ _ ((hl.app hs he1).mono (by omega)) (by rw[List.length_append];omega) B4 (by omega) (A3.trans A4)
noncomputable def Y3(K:PySem.W.Frag):Sp:=fun vs H Q _=>∃(p:Addr)(lead fi W N broken tail:List Nat),vs=[.ref p]∧SqT K H p [tv lead,tv fi,tv (W++N),tv broken,tv tail]∧lead.length+(W.length+N.length)+broken.length+tail.length≤200∧Q (.str (tx (QS lead W N broken tail))) H
theorem Y4(F:Fun K "_law_line" "_law_line" XN f fd):FnOk P w K mg base (CXE P w) 1 f fd ["_law_parts"] (Y3 K):=by
 refine okN F JR (fun vs H Q E h=>?_) (fun cdv A outer s H vs Q E hr h=>?_)
 ·obtain⟨p,_,_,_,_,_,_,rfl,_⟩:=h
  rfl
 ·obtain⟨p,lead,fi,W,N,broken,tail,rfl,sq,hl,k⟩:=h
  have hz:1000≤sizeLine:=by decide
  refine⟨_,(Qb (Jf (pv 0) (Q1 rfl (Qi (Qk (i:=1) JR.nd rfl (Or.inl rfl)) (Qi (Qk (i:=2) JR.nd rfl (Or.inl rfl)) (Qi (Qk (i:=3) JR.nd rfl (Or.inl rfl)) (Qi (Qk (i:=4) JR.nd rfl (Or.inl rfl)) (Qi (Qk (i:=5) JR.nd rfl (Or.inl rfl)) QG)))))))
   (Qg (Qs (Qn Qo (Qn Qo (Qn Qo (pv 1) (pv 3)) (QD (Ql Zc (pv 4) Qd (Qp _)) (Qn Qo Qd (pv 4)) Qd)) (pv 5))))),?_⟩
  refine⟨_,rfl,p,_,rfl,sq,rfl,_,_,rfl,_,_,rfl,_,_,rfl,_,_,rfl,_,_,rfl,rfl,?_⟩
  refine⟨_,rfl,_,rfl,_,_,rfl,rfl,by rw[Qj,Qj,List.length_append];omega,?_⟩
  rw[QM]
  refine⟨_,rfl,rfl,_,rfl,?_⟩
  rw[KI,Kj]
  refine Ju (fun x H'=>x=.str (tx (Qr broken))∧H'=H) (fun z rest=>?_) (fun z rest=>?_) ?_
  ·have hb:broken≠[]:=fun q=>by rw[decide_eq_true q]at z;cases z
   refine⟨_,rfl,_,_,rfl,rfl,?_,?_⟩
   ·rw[vS,Qj,Qj,List.length_singleton];omega
   ·rw[vS,QM]
    exact rest _ _ ⟨by unfold Qr;rw[if_neg hb];rfl,rfl⟩
  ·have hb:broken=[]:=by
    by_cases q:broken=[]
    ·exact q
    ·rw[decide_eq_false q]at z;cases z
   exact rest _ _ ⟨by unfold Qr;rw[if_pos hb],rfl⟩
  rintro x H' ⟨rfl,rfl⟩
  have hdl:(Qr broken).length≤broken.length+1:=by unfold Qr;split<;>simp
  refine⟨_,_,rfl,rfl,by rw[Qj,Qj,List.length_append,List.length_append];omega,?_⟩
  rw[QM]
  refine⟨_,rfl,_,_,rfl,rfl,by rw[Qj,Qj,List.length_append,List.length_append,List.length_append];omega,?_⟩
  rw[QM]
  have e:lead++(W++N)++Qr broken++tail=QS lead W N broken tail:=by unfold QS;simp[List.append_assoc]
  rw[e]
  exact k
end
end Lw
set_option Elab.async false
set_option linter.all false
set_option maxRecDepth 100000
namespace Lw
open PySem PySem.Spec PyProof.Rows L2 K02 K04
noncomputable def qz:List (List Nat):=[[57],[90],[42],[43],[45],[36],[90],[57]]
theorem kL:([.str "9",.str "Z",.str "*",.str "+",.str "-",.str "$",.str "Z",.str "9"]:List V)=qz.map tv:=by decide+kernel
theorem zY:∀l∈qz,∃y,l=[y]∧y∈([57,90,42,43,45,36]:List Nat):=by
 intro l h
 simp only[qz,List.mem_cons,List.not_mem_nil,or_false]at h
 rcases h with rfl|rfl|rfl|rfl|rfl|rfl|rfl|rfl<;>exact⟨_,rfl,by decide⟩
noncomputable def br4:List (List Nat):=[[],[57],[57,57],[57,57,57]]
theorem Qby:([.str "",.str "9",.str "99",.str "999"]:List V)=br4.map tv:=by decide+kernel
theorem Qaz:∀l∈br4,l=[]∨∃k b,k<3∧l=List.replicate (k+1) b∧b=57:=by
 intro l h
 simp only[br4,List.mem_cons,List.not_mem_nil,or_false]at h
 rcases h with rfl|rfl|rfl|rfl
 ·exact .inl rfl
 ·exact .inr ⟨0,57,by decide,rfl,rfl⟩
 ·exact .inr ⟨1,57,by decide,rfl,rfl⟩
 ·exact .inr ⟨2,57,by decide,rfl,rfl⟩
noncomputable def Qbz:List (List Nat):=[[],[36]]
theorem QaA:([.str "",.str "$"]:List V)=Qbz.map tv:=by decide+kernel
noncomputable def sg3:List (List Nat):=[[],[43],[45]]
theorem QbA:([.str "",.str "+",.str "-"]:List V)=sg3.map tv:=by decide+kernel
noncomputable def sg1:List (List Nat):=[[]]
theorem QbB:([.str ""]:List V)=sg1.map tv:=by decide+kernel
noncomputable def tl6:List (List Nat):=[[],[],[43],[45],[67,82],[68,66]]
theorem QbC:([.str "",.str "",.str "+",.str "-",.str "CR",.str "DB"]:List V)=tl6.map tv:=by decide+kernel
noncomputable def pm2:List (List Nat):=[[43],[45]]
theorem QbD:([.str "+",.str "-"]:List V)=pm2.map tv:=by decide+kernel
theorem QbE:("Z*":Str)=tx [90,42]:=by decide+kernel
theorem QbF:("-":Str)=tx [45]:=by decide+kernel
theorem QaB(s:Nat)(l:List Nat):PySem.Txt.count (tx l) (tx [s])=(l.count s:Int):=by
 have h:∀l:List Nat,PyProof.Rows.cnt s l=(l.count s:Int):=by
  intro l
  induction l with
  |nil=>rfl
  |cons a r ih=>
   rw[PyProof.Rows.cnt_cons,ih,List.count_cons]
   by_cases z:a=s
   ·subst z;simp;omega
   ·rw[if_neg z]
    have:(a==s)=false:=by simpa using z
    rw[this]
    simp
 rw[show(tx [s])=(⟨#[s]⟩:Str)from rfl,PyProof.Rows.count_cnt,h]
theorem UR:∀k:Nat,k<6→decide (V.str (Txt.stripChars (tx (List.replicate k 57)) "9")=V.str "")=true:=by decide+kernel
section
variable {P:Program}{w:World}{K:PySem.W.Frag}{mg:Str→Option Value}{base:Heap}{f:Addr}{fd:FuncData}{tk:Nat→Tok}{c kr:Nat→Addr}
noncomputable def QbG(K:PySem.W.Frag):Sp:=fun vs H Q _=>∃(a t r:Addr)(ns:List Int)(c:Int),vs=[.ref a,.ref t]∧Bag K H a t r ns c∧c<80000∧
 ∀(lead:List Nat)(first:Nat)(W N broken tail:List Nat)(q:Addr)(c':Int)(H':Hp),Ed lead first W N broken tail→lead.length+(W.length+N.length)+broken.length+tail.length≤60→H q=none→
  H' q=some (.tup [tv lead,tv [first],tv (W++N),tv broken,tv tail])→Bag K H' a t r ns c'→c'≤c+40→Apart t r H H'→Q (.ref q) H'
set_option maxHeartbeats 4000000 in
theorem Ku(F:Fun K "_law_an_edited" "_law_an_edited" Zg f fd)(O:Own mg)(D__law_draw:Def P w K mg base 1 "_law_draw" ["_law_script","_law_town","_law_many"] (X1 K))(D__law_places:Def P w K mg base 2 "_law_places" ["_law_script","_law_town","_law_symbol","_law_most"] (v8 K)):
  FnOk P w K mg base (CXE P w) 3 f fd ["_law_script","_law_town"] (QbG K):=by
 refine okN F QA (fun vs H Q E h=>?_) (fun cdv A outer s H vs Q E hr h=>?_)
 ·obtain⟨a,t,r,ns,c,rfl,_⟩:=h
  rfl
 ·obtain⟨a,t,r,ns,c,rfl,B,hc,k⟩:=h
  have hz:1000≤sizeLine:=by decide
  refine⟨_,(Qb (Qm (i:=2) QA.nd rfl (Or.inl rfl) (QJ QN (JH (Qa Qd (Qa Qd (Qa Qd (Qa Qd (Qa Qd (Qa Qd (Qa Qd (Qa Qd Qc))))))))) (D__law_draw.pe hr (by decide) rfl Qw (Qa (pv 0) (Qa (pv 1) (Qa Qh Qc)))) (fun _ _=>rfl)))
   (Qb (Qm (i:=3) QA.nd rfl (Or.inl rfl) (D__law_places.pe hr (by decide) rfl Qw (Qa (pv 0) (Qa (pv 1) (Qa (pv 2) (Qa Qh Qc))))))
   (Qb (QL (PW.pt (Jp (Ql Jx (pv 2) Qd (by with_unfolding_all rfl)) (Je (Ql Xz (JS PySem.F.plainAttrs_str PySem.F.slot_str_count PySem.F.type_str_count zc (pv 3) (Qa (pv 2) Qc)) Qh (Qp _))))) (Qg (Qm (i:=3) QA.nd rfl (Or.inl rfl) (Qn Qo (pv 2) (pv 3)))) Qy)
   (Qb (QL (PW.pt (Jp (Ql Zc (pv 2) Qd (Qp _)) (Je (Ql Jw (D__law_draw.pe hr (by decide) rfl Qw (Qa (pv 0) (Qa (pv 1) (Qa Qh Qc)))) Qh (Qp _))))) (Qg (Qm (i:=3) QA.nd rfl (Or.inl rfl) (Qn Qo (pv 3) (D__law_places.pe hr (by decide) rfl Qw (Qa (pv 0) (Qa (pv 1) (Qa Qd (Qa Qh Qc)))))))) Qy)
   (Qb (Qm (i:=4) QA.nd rfl (Or.inl rfl) (QJ QN (JH (Qa Qd (Qa Qd (Qa Qd (Qa Qd Qc))))) (D__law_draw.pe hr (by decide) rfl Qw (Qa (pv 0) (Qa (pv 1) (Qa Qh Qc)))) (fun _ _=>rfl)))
   (Qb (QL (PW.pt (Jp (Ql Jw (D__law_draw.pe hr (by decide) rfl Qw (Qa (pv 0) (Qa (pv 1) (Qa Qh Qc)))) Qh (Qp _)) (Jp (Ql Jx (pv 2) Qd (by with_unfolding_all rfl)) (Je (Ql Q9 Qd (pv 3) (by with_unfolding_all rfl)))))) (Qg (Qm (i:=4) QA.nd rfl (Or.inl rfl) (Qn QB (pv 2) (Qn QT Qh (D__law_draw.pe hr (by decide) rfl Qw (Qa (pv 0) (Qa (pv 1) (Qa Qh Qc)))))))) Qy)
   (Qb (Qm (i:=5) QA.nd rfl (Or.inl rfl) (QD (Ql Q9 (pv 2) Qd (by with_unfolding_all rfl)) (JH (Qa Qd (Qa Qd (Qa Qd Qc)))) (JH (Qa Qd Qc))))
   (Qb (Qm (i:=6) QA.nd rfl (Or.inl rfl) (Qn Qo (QJ QN (pv 5) (D__law_draw.pe hr (by decide) rfl Qw (Qa (pv 0) (Qa (pv 1) (Qa (Qq QF rfl O.len PySem.boot_len (Qa (pv 5) Qc)) Qc)))) (fun _ _=>rfl)) (QD (Ql Zc (pv 2) Qd (Qp _)) (QJ QN (JH (Qa Qd (Qa Qd Qc))) (D__law_draw.pe hr (by decide) rfl Qw (Qa (pv 0) (Qa (pv 1) (Qa Qh Qc)))) (fun _ _=>rfl)) Qd)))
   (Qb (Qm (i:=7) QA.nd rfl (Or.inl rfl) Qd)
   (Qb (QL (PW.pt (Jp (Ql Q9 (pv 2) Qd (by with_unfolding_all rfl)) (Je (Ql Z6 (Q6 ZK (pv 6) JU (Q7 Qh)) (QK (Qa Qd (Qa Qd Qc))) (by with_unfolding_all rfl))))) (Qg (Qm (i:=7) QA.nd rfl (Or.inl rfl) (QJ QN (JH (Qa Qd (Qa Qd (Qa Qd (Qa Qd (Qa Qd (Qa Qd Qc))))))) (D__law_draw.pe hr (by decide) rfl Qw (Qa (pv 0) (Qa (pv 1) (Qa Qh Qc)))) (fun _ _=>rfl)))) Qy)
   (Qb (QL (PW.pt (Jp (Ql Jw (pv 2) Qd (Qp _)) (Jp (Ql Jw (JS PySem.F.plainAttrs_str PySem.F.slot_str_strip PySem.F.type_str_strip X2 (pv 3) (Qa Qd Qc)) Qd (Qp _)) (Je (Ql Jw (Qn Qo (Qn Qo (pv 6) (pv 4)) (pv 7)) Qd (Qp _)))))) (Qg (Qm (i:=7) QA.nd rfl (Or.inl rfl) Qd)) Qy)
   (Qg (Qs (QK (Qa (pv 6) (Qa (pv 2) (Qa (pv 3) (Qa (pv 4) (Qa (pv 7) Qc))))))))))))))))))),?_⟩
  refine B.pick (xs:=qz.map tv) rfl rfl (fun R h=>by rw[←kL]at h;exact h) (by decide) (by decide) (by decide) (by omega) fun d1 x1 H1 hx1 B1 A1=>?_
  obtain⟨l1,hl1,rfl⟩:=UQ hx1
  obtain⟨first,rfl,hfm⟩:=zY l1 hl1
  clear hx1 hl1
  obtain⟨hfi,hf46,hf40,hf88,hf65⟩:=zn first hfm
  refine⟨_,rfl,_,rfl,_,rfl,a,t,r,ns,c+1,first,4,rfl,B1,by omega,hfi,by decide,by decide,fun W0 c2 H2 hW0 hW0l B2 hc2 A2=>?_⟩
  have A02:=A1.trans A2
  dsimp only[JD,KL,K6]
  refine Jv (fun σ' H'=>∃W,σ'=[some (.ref a),some (.ref t),some (tv [first]),some (tv W),none,none,none,none]∧H'=H2∧PlT first 5 W∧W.length≤21∧(first∈([43,45,36]:List Nat)→2≤W.count first)) ?_ (fun rest=>?_)
  rotate_left
  ·refine⟨_,rfl,_,_,rfl,rfl,_,rfl,?_⟩
   rw[vQ,JQ]
   by_cases hfl:([43,45,36]:List Nat).contains first=true
   ·rw[hfl]
    refine Q4 ⟨_,rfl,rfl,_,rfl,tx W0,tx [first],rfl,rfl,trivial,?_⟩
    refine⟨_,_,congrArg V.int (QaB first W0),rfl,_,rfl,?_⟩
    by_cases h2:W0.count first<2
    ·rw[decide_eq_true (by omega)]
     refine Q4 ⟨_,rfl,_,rfl,_,_,rfl,rfl,by rw[Qj,Qj];simp;omega,?_⟩
     rw[QM]
     have h1:1≤W0.count first:=List.count_pos_iff.mpr (List.mem_of_mem_head? hW0.hd)
     refine rest _ _ ⟨first::W0,rfl,rfl,hW0.cons,by simp;omega,fun _=>by rw[List.count_cons_self];omega⟩
    ·rw[decide_eq_false (by omega)]
     exact QX (rest _ _ ⟨W0,rfl,rfl,hW0.mono (by decide),by omega,fun _=>by omega⟩)
   ·have hfl2:([43,45,36]:List Nat).contains first=false:=by simpa using hfl
    rw[hfl2]
    exact QX (QX (rest _ _ ⟨W0,rfl,rfl,hW0.mono (by decide),by omega,fun z=>absurd (List.contains_iff_mem.mpr z) hfl⟩))
  rintro σ' H' ⟨W,rfl,rfl,hW,hWl,hWf⟩
  clear hW0 hW0l
  refine Jv (fun σ' H3=>∃N c3,σ'=[some (.ref a),some (.ref t),some (tv [first]),some (tv (W++N)),none,none,none,none]∧Bag K H3 a t r ns c3∧c3≤c+25∧Apart t r H H3∧(N=[]∨(first≠57∧PlT 57 3 N))∧N.length≤20) ?_ (fun rest=>?_)
  rotate_left
  ·refine⟨_,rfl,rfl,_,rfl,?_⟩
   rw[VP,Q0]
   by_cases h9:first=57
   ·rw[decide_eq_true h9]
    exact QX (QX (rest _ _ ⟨[],c2,by rw[List.append_nil],B2,by omega,A02,.inl rfl,by simp⟩))
   ·rw[decide_eq_false h9]
    refine Q4 ?_
    refine B2.draw (n:=2) rfl rfl (fun R h=>h) (by decide) (by decide) (by omega) fun d3 H3 hd3 B3 A3=>?_
    refine⟨rfl,_,rfl,?_⟩
    refine ifB (fun z=>?_) (fun z=>?_)
    ·refine⟨_,rfl,_,rfl,_,rfl,a,t,r,ns,c2+1,57,3,rfl,B3,by omega,by decide,by decide,by decide,fun N c4 H4 hN hNl B4 hc4 A4=>?_⟩
     refine⟨_,_,rfl,rfl,by rw[Qj,Qj];omega,?_⟩
     rw[QM]
     exact rest _ _ ⟨N,c4,rfl,B4,by omega,(A02.trans A3).trans A4,.inr ⟨h9,hN⟩,hNl⟩
    ·exact rest _ _ ⟨[],c2+1,by rw[List.append_nil],B3,by omega,A02.trans A3,.inl rfl,by simp⟩
  rintro σ' H3 ⟨N,c3,rfl,B3,hc3,A3,hN,hNl⟩
  clear B1 B2 A1 A2 A02
  refine B3.pick (xs:=br4.map tv) rfl rfl (fun R h=>by rw[←Qby]at h;exact h) (by decide) (by decide) (by decide) (by omega) fun d4 x4 H4 hx4 B4 A4=>?_
  obtain⟨b0,hb0,rfl⟩:=UQ hx4
  have hb0':=Qaz b0 hb0
  have hA4:=A3.trans A4
  clear hx4 hb0
  dsimp only[JD,KL,K6]
  refine Jv (fun σ' H5=>∃broken c5,σ'=[some (.ref a),some (.ref t),some (tv [first]),some (tv (W++N)),some (tv broken),none,none,none]∧Bag K H5 a t r ns c5∧c5≤c+28∧Apart t r H H5∧(broken=[]∨∃k b,k<3∧broken=List.replicate (k+1) b∧(b=57∨(b=first∧(first=90∨first=42)∧N=[])))) ?_ (fun rest=>?_)
  rotate_left
  ·have Kw:∀c5 H5,Bag K H5 a t r ns c5→c5≤c+28→Apart t r H H5→_:=fun c5 H5 B5 hc5 A5=>rest _ H5 ⟨b0,c5,rfl,B5,hc5,A5,hb0'.imp id fun⟨k,b,h1,h2,h3⟩=>⟨k,b,h1,h2,.inl h3⟩⟩
   refine B4.draw (n:=3) rfl rfl (fun R h=>h) (by decide) (by decide) (by omega) fun d5 H5 hd5 B5 A5=>?_
   refine⟨rfl,_,rfl,?_⟩
   refine ifB (fun z=>?_) (fun z=>?_)
   ·refine⟨_,rfl,_,_,rfl,rfl,_,rfl,?_⟩
    rw[QbE,JQ]
    by_cases hzs:([90,42]:List Nat).contains first=true
    ·rw[hzs]
     refine Q4 ⟨_,rfl,_,_,rfl,rfl,_,rfl,?_⟩
     rw[VP,JQ]
     by_cases h57:(W++N).contains 57=true
     ·rw[h57]
      exact QX (Kw _ _ B5 (by omega) (hA4.trans A5))
     ·have h57':(W++N).contains 57=false:=by simpa using h57
      rw[h57']
      refine Q4 ⟨_,rfl,?_⟩
      refine B5.draw (n:=3) rfl rfl (fun R h=>h) (by decide) (by decide) (by omega) fun d6 H6 hd6 B6 A6=>?_
      have hm:(1:Int)+(d6:Nat)=((d6+1:Nat):Int):=by omega
      refine⟨_,_,rfl,rfl,?_⟩
      dsimp only
      rw[hm]
      refine⟨tx [first],((d6+1:Nat):Int),rfl,rfl,by omega,by rw[Qj,Int.toNat_natCast,List.length_singleton];omega,by omega,?_⟩
      rw[Int.toNat_natCast,Zj]
      refine rest _ _ ⟨_,_,rfl,B6,by omega,(hA4.trans A5).trans A6,.inr ⟨d6,first,by omega,rfl,.inr ⟨rfl,?_,?_⟩⟩⟩
      ·simpa using hzs
      ·rcases hN with h|⟨_,h⟩
       ·exact h
       ·exact absurd (List.contains_iff_mem.mpr (List.mem_append_right W (List.mem_of_mem_head? h.hd))) h57
    ·have hzs':([90,42]:List Nat).contains first=false:=by simpa using hzs
     rw[hzs']
     exact QX (QX (Kw _ _ B5 (by omega) (hA4.trans A5)))
   ·exact QX (Kw _ _ B5 (by omega) (hA4.trans A5))
  rintro σ' H5 ⟨broken,c5,rfl,B5,hc5,A5,hbr⟩
  clear B3 B4 A3 A4 hA4 hb0'
  have hbl:broken.length≤3:=by
   rcases hbr with rfl|⟨kk,b,hk,rfl,_⟩
   ·simp
   ·rw[List.length_replicate];omega
  refine⟨_,rfl,_,_,rfl,rfl,_,rfl,?_⟩
  rw[Qap,JQ]
  refine Ju (fun v H'=>∃p sg,v=.ref p∧H' p=some (.lst (sg.map tv))∧Qz H5 H'∧(sg=sg1∨(sg=sg3∧first≠43∧first≠45))) (fun z rest=>?_) (fun z rest=>?_) ?_
  ·refine⟨by show 3≤sizeLine;omega,fun p hp=>rest _ _ ⟨p,sg3,rfl,by rw[Qe];exact congrArg (fun x=>some (HO.lst x)) QbA,Qz.new hp,.inr ⟨rfl,?_⟩⟩⟩
   have:([43,45]:List Nat).contains first=false:=by simpa using z
   constructor
   ·intro q;rw[q]at this;cases this
   ·intro q;rw[q]at this;cases this
  ·exact⟨by show 1≤sizeLine;omega,fun p hp=>rest _ _ ⟨p,sg1,rfl,by rw[Qe];exact congrArg (fun x=>some (HO.lst x)) QbB,Qz.new hp,.inl rfl⟩⟩
  rintro v H6 ⟨ps,sg,rfl,gs,S6,hsg⟩
  have B6:=B5.same S6
  have A6:=A5.trans (Apart.of S6)
  have hsl:sg.length=1∨sg.length=3:=by
   rcases hsg with rfl|⟨rfl,_⟩
   ·exact .inl rfl
   ·exact .inr rfl
  refine⟨_,rfl,?_⟩
  refine B6.draw (n:=(sg.length:Int)) rfl rfl (fun R h=>⟨_,rfl,ps,_,rfl,.inl (SqL.of gs),by rw[List.length_map];exact h⟩) (by omega) (by omega) (by omega) fun d7 H7 hd7 B7 A7=>?_
  obtain⟨x7,hx7⟩:∃x,(sg.map tv)[d7]? =some x:=⟨_,List.getElem?_eq_getElem (by rw[List.length_map];omega)⟩
  have gs7:=B6.keep A7 gs fun _ z=>nomatch z
  have A67:=A6.trans A7
  refine⟨ps,_,_,x7,rfl,rfl,SqL.of gs7,Zd hx7,?_⟩
  obtain⟨sl,hsl2,rfl⟩:=UQ hx7
  have hsl3:sl=[]∨((sl=[43]∨sl=[45])∧first≠43∧first≠45):=by
   rcases hsg with rfl|⟨rfl,h⟩
   ·exact .inl (List.mem_singleton.mp hsl2)
   ·simp only[sg3,List.mem_cons,List.not_mem_nil,or_false]at hsl2
    rcases hsl2 with h1|h1|h1
    ·exact .inl h1
    ·exact .inr ⟨.inl h1,h⟩
    ·exact .inr ⟨.inr h1,h⟩
  have hsll:sl.length≤1:=by rcases hsl3 with rfl|⟨rfl|rfl,_⟩<;>simp
  refine⟨_,rfl,rfl,_,rfl,?_⟩
  rw[vR,Q0]
  refine Ju (fun v H'=>∃dl c8,v=.str (tx dl)∧Bag K H' a t r ns c8∧c8≤c+31∧Apart t r H H'∧(dl=[]∨(dl=[36]∧first≠36))) (fun z rest=>?_) (fun z rest=>?_) ?_
  ·have hf36:first≠36:=fun q=>by rw[decide_eq_true q]at z;cases z
   refine B7.pick (xs:=Qbz.map tv) rfl rfl (fun R h=>by rw[←QaA,vR]at h;exact h) (by decide) (by decide) (by decide) (by omega) fun d8 x8 H8 hx8 B8 A8=>?_
   obtain⟨dl,hdl,rfl⟩:=UQ hx8
   refine rest _ _ ⟨dl,_,rfl,B8,by omega,A67.trans A8,?_⟩
   simp only[Qbz,List.mem_cons,List.not_mem_nil,or_false]at hdl
   exact hdl.imp id fun h=>⟨h,hf36⟩
  ·exact rest _ _ ⟨[],_,by rw[KI],B7,by omega,A67,.inl rfl⟩
  rintro v H8 ⟨dl,c8,rfl,B8,hc8,A8,hdl⟩
  have hdll:dl.length≤1:=by rcases hdl with rfl|⟨rfl,_⟩<;>simp
  refine⟨_,_,rfl,rfl,by rw[Qj,Qj];omega,?_⟩
  rw[QM]
  clear hx7 hsl2 gs7 gs S6 B5 B6 B7 A5 A6 A7 A67 hd7
  generalize hlead:sl++dl=lead
  have hld:lead∈([[],[43],[45],[36],[43,36],[45,36]]:List (List Nat)):=by
   rw[←hlead]
   rcases hsl3 with rfl|⟨rfl|rfl,_⟩<;>rcases hdl with rfl|⟨rfl,_⟩<;>decide
  have hl1:first=43∨first=45→lead=[]∨lead=[36]:=fun q=>by
   rw[←hlead]
   rcases hsl3 with rfl|⟨_,h1,h2⟩
   ·exact hdl.imp id fun h=>h.1
   ·exact absurd q fun z=>z.elim h1 h2
  have hl2:first=36→lead=[]∨lead=[43]∨lead=[45]:=fun q=>by
   rw[←hlead]
   rcases hdl with rfl|⟨_,h⟩
   ·rw[List.append_nil]
    exact hsl3.imp id fun h=>h.1
   ·exact absurd q h
  have hll:lead.length≤2:=by rw[←hlead,List.length_append];omega
  dsimp only[JD,KL,K6]
  refine Jv (fun σ' H9=>∃tail c9,σ'=[some (.ref a),some (.ref t),some (tv [first]),some (tv (W++N)),some (tv broken),some (.ref ps),some (tv lead),some (tv tail)]∧Bag K H9 a t r ns c9∧c9≤c+32∧Apart t r H H9∧tail∈([[],[43],[45],[67,82],[68,66]]:List (List Nat))∧(tail≠[]→(first≠43∧first≠45)∧(lead=[]∨lead=[36]))) ?_ (fun rest=>?_)
  rotate_left
  ·have none9:∀H9,Bag K H9 a t r ns c8→Apart t r H H9→_:=fun H9 B9 A9=>rest [some (.ref a),some (.ref t),some (tv [first]),some (tv (W++N)),some (tv broken),some (.ref ps),some (tv lead),some (tv [])] H9 ⟨[],c8,rfl,B9,by omega,A9,by decide,fun z=>absurd rfl z⟩
   refine⟨_,rfl,_,_,rfl,rfl,_,rfl,?_⟩
   rw[JQ]
   by_cases hpm:([43,45]:List Nat).contains first=true
   ·rw[hpm,KI]
    exact QX (QX (none9 _ B8 A8))
   ·have hpm':([43,45]:List Nat).contains first=false:=by simpa using hpm
    have hf2:first≠43∧first≠45:=by
     constructor
     ·intro q;rw[q]at hpm';cases hpm'
     ·intro q;rw[q]at hpm';cases hpm'
    rw[hpm']
    refine Q4 ⟨_,rfl,_,rfl,tx lead,rfl,by rw[Qj];omega,?_⟩
    rw[YU]
    refine⟨by show 2≤sizeLine;omega,fun pt hpt=>?_⟩
    have S9:=Qz.new (o:=.tup [.str "+",.str "-"]) hpt
    have g9:upd H8 pt (.tup [.str "+",.str "-"]) pt=some (.tup (pm2.map tv)):=by rw[Qe];exact congrArg (fun x=>some (HO.tup x)) QbD
    generalize upd H8 pt (.tup [.str "+",.str "-"])=H9 at S9 g9
    refine⟨pt,_,rfl,.inr (SqT.of g9),rfl,Kb pm2,_,rfl,?_⟩
    rw[if_pos rfl,in_list]
    by_cases hin:pm2.contains (lead.take 1)=true
    ·rw[hin,KI]
     exact QX (none9 _ (B8.same S9) (A8.trans (Apart.of S9)))
    ·have hin':pm2.contains (lead.take 1)=false:=by simpa using hin
     rw[hin']
     refine Q4 ?_
     refine(B8.same S9).pick (xs:=tl6.map tv) rfl rfl (fun R h=>by rw[←QbC]at h;exact h) (by decide) (by decide) (by decide) (by omega) fun d9 x9 H10 hx9 B10 A10=>?_
     obtain⟨tail,htl,rfl⟩:=UQ hx9
     have hlok:lead=[]∨lead=[36]:=by
      have h:∀l∈([[],[43],[45],[36],[43,36],[45,36]]:List (List Nat)),pm2.contains (l.take 1)=false→l=[]∨l=[36]:=by decide
      exact h lead hld hin'
     refine rest _ _ ⟨tail,_,rfl,B10,by omega,(A8.trans (Apart.of S9)).trans A10,?_,fun _=>⟨hf2,hlok⟩⟩
     have h:∀l∈tl6,l∈([[],[43],[45],[67,82],[68,66]]:List (List Nat)):=by decide
     exact h tail htl
  rintro σ' H9 ⟨tail,c9,rfl,B9,hc9,A9,htl,hts⟩
  have htll:tail.length≤2:=by
   have h:∀l∈([[],[43],[45],[67,82],[68,66]]:List (List Nat)),l.length≤2:=by decide
   exact h tail htl
  refine Jv (fun σ' H10=>∃tail,σ'=[some (.ref a),some (.ref t),some (tv [first]),some (tv (W++N)),some (tv broken),some (.ref ps),some (tv lead),some (tv tail)]∧H10=H9∧tail∈([[],[43],[45],[67,82],[68,66]]:List (List Nat))∧(tail≠[]→(first≠43∧first≠45)∧(lead=[]∨lead=[36]))∧¬ (first=57∧(∀x∈W,x=57)∧lead=[]∧broken=[]∧tail=[])∧tail.length≤2) ?_ (fun rest=>?_)
  ·rintro σ' H10 ⟨tail,rfl,rfl,htl,hts,hnn,htll⟩
   refine⟨_,rfl,_,rfl,_,rfl,_,rfl,_,rfl,by show 5≤sizeLine;omega,fun q hq=>?_⟩
   exact k lead first W N broken tail q c9 _ ⟨hW,hN,hfm,hWf,hbr,hld,hl1,hl2,htl,hts,hnn⟩ (by omega) (B.free B9 A9 hq) Qe (B9.same (Qz.new hq)) (by omega) (A9.trans (Apart.of (Qz.new hq)))
  ·have Kw:¬ (first=57∧(∀x∈W,x=57)∧lead=[]∧broken=[]∧tail=[])→_:=fun hnn=>rest _ H9 ⟨tail,rfl,rfl,htl,hts,hnn,htll⟩
   refine⟨_,rfl,rfl,_,rfl,?_⟩
   rw[VP,Q0]
   by_cases h9:first=57
   ·rw[decide_eq_true h9]
    have hN0:N=[]:=hN.resolve_right fun h=>h.1 h9
    refine Q4 ⟨_,rfl,rfl,tx (W++N),tx [57],rfl,rfl,by show(tx (W++N)).length≤sizeLine;rw[Qj,List.length_append];omega,rfl,_,rfl,?_⟩
    refine ifB (fun z=>?_) (fun z=>?_)
    ·refine⟨_,rfl,_,rfl,_,_,rfl,rfl,by rw[Qj,Qj];omega,?_⟩
     rw[QM]
     refine⟨_,rfl,_,_,rfl,rfl,by rw[Qj,Qj,List.length_append];omega,?_⟩
     rw[QM]
     refine⟨rfl,_,rfl,?_⟩
     rw[KI,Kj]
     by_cases h0:lead++broken++tail=[]
     ·rw[decide_eq_true h0]
      refine Q4 (rest _ H9 ⟨[45],by rw[QbF];rfl,rfl,by decide,fun _=>⟨⟨by rw[h9];decide,by rw[h9];decide⟩,.inl ?_⟩,fun z=>absurd z.2.2.2.2 (by decide),by decide⟩)
      have:=List.append_eq_nil_iff.mp h0
      exact(List.append_eq_nil_iff.mp this.1).1
     ·rw[decide_eq_false h0]
      exact QX (Kw fun z=>h0 (by rw[z.2.2.1,z.2.2.2.1,z.2.2.2.2];rfl))
    ·refine QX (Kw fun q=>?_)
     have hrep:W=List.replicate W.length 57:=List.eq_replicate_iff.mpr ⟨rfl,q.2.1⟩
     have hlen:W.length<6:=by
      have h5:=hW.cn
      rw[h9]at h5
      have:W.count 57=W.length:=List.count_eq_length.mpr fun b hb=>(q.2.1 b hb).symm
      omega
     have:=UR W.length hlen
     rw[←hrep]at this
     rw[hN0,List.append_nil, ←VP]at z
     rw[this]at z
     cases z
   ·rw[decide_eq_false h9]
    exact QX (QX (Kw fun z=>h9 z.1))
end
end Lw
set_option Elab.async false
set_option linter.all false
set_option maxRecDepth 100000
namespace K15
open K02 K04 PySem.NumText
theorem zZ{u o p:Nat}(ho:o≤18)(hp:p≤18):u*10^(18-o)/10^(18-p)=u*10^p/10^o:=by
 have h1:u*10^(18-o)/10^(18-p)=(u*10^(18-o)*10^o)/(10^(18-p)*10^o):=(Nat.mul_div_mul_right _ _ (Nat.pow_pos (by decide))).symm
 have h2:u*10^p/10^o=(u*10^p*10^(18-p))/(10^o*10^(18-p)):=(Nat.mul_div_mul_right _ _ (Nat.pow_pos (by decide))).symm
 have e1:u*10^(18-o)*10^o=u*10^18:=by rw[Nat.mul_assoc, ←Nat.pow_add,show 18-o+o=18 by omega]
 have e2:u*10^p*10^(18-p)=u*10^18:=by rw[Nat.mul_assoc, ←Nat.pow_add,show p+(18-p)=18 by omega]
 rw[h1,h2,e1,e2,Nat.mul_comm (10^(18-p)) (10^o)]
theorem US{k:Nat}:K01.ten (k:Int)=((10^k:Nat):Int):=by
 unfold K01.ten
 rw[Int.toNat_natCast]
 push_cast
 rfl
theorem QaC(u:Int){o p:Nat}(ho:o≤18)(hp:p≤18):K01.Uo u o p=if u<0 then-((u.natAbs*10^p/10^o:Nat):Int)else((u.natAbs*10^p/10^o:Nat):Int):=by
 rw[K01.yS (by omega) (by omega) (by omega) (by omega),K01.Yu (K01.Jk _) (K01.Jk _)]
 have e1:K01.ten (18-(o:Int))=((10^(18-o):Nat):Int):=by
  rw[show(18-(o:Int))=((18-o:Nat):Int) by omega]
  exact US
 have e2:K01.ten (18-(p:Int))=((10^(18-p):Nat):Int):=by
  rw[show(18-(p:Int))=((18-p:Nat):Int) by omega]
  exact US
 have e3:K01.Zi u=((u.natAbs:Nat):Int):=by unfold K01.Zi;split<;>omega
 have e4:K01.Zi u*K01.ten (18-(o:Int))/K01.ten (18-(p:Int))=((u.natAbs*10^p/10^o:Nat):Int):=by
  rw[e1,e2,e3, ←zZ ho hp]
  push_cast
  rfl
 rw[e4]
theorem wy(u:Int){o a b:Nat}(ho:o≤18)(hb:b≤18):(fit u o a b).natAbs=(u.natAbs*10^b/10^o) % 10^(a+b)∧(fit u o a b<0↔u<0∧(u.natAbs*10^b/10^o) % 10^(a+b)≠0):=by
 have hc:=QaC u ho hb
 generalize u.natAbs*10^b/10^o=X at hc
 have e:K01.ten ((a:Int)+b)=((10^(a+b):Nat):Int):=by
  rw[show(a:Int)+b=((a+b:Nat):Int) by omega]
  exact US
 have ha:K01.Zi (K01.Uo u o b)=(X:Int):=by
  rw[hc]
  unfold K01.Zi
  split<;>split<;>omega
 have hm:(X:Int) % ((10^(a+b):Nat):Int)=((X % 10^(a+b):Nat):Int):=by push_cast;rfl
 unfold fit
 rw[ha,e,hm]
 have hlt:X % 10^(a+b)≠0→X≠0:=fun h z=>h (by rw[z];exact Nat.zero_mod _)
 generalize X % 10^(a+b)=Y at hlt
 rw[hc]
 by_cases hu:u<0
 ·rw[if_pos hu]
  by_cases hX:X=0
  ·have hY:Y=0:=Decidable.byContradiction fun z=>hlt z hX
   subst hX hY
   exact⟨by simp,by simp⟩
  ·rw[if_pos (by omega)]
   exact⟨by omega,by omega⟩
 ·rw[if_neg hu,if_neg (by omega)]
  exact⟨by omega,by omega⟩
end K15
namespace Lw
open PySem PySem.Spec PyProof.Rows L2 K02 K04 K15 K09
open Builtin Builtin.Str StrLaws
theorem K3:∀k:Nat,k<19→PySem.intText? (("1":Str)++KU "0" k)=some (10^k)∧(("1":Str)++KU "0" k).length≤640∧("1":Str).length+(KU "0" k).length≤sizeLine∧("0":Str).length*k≤sizeLine:=by decide+kernel
theorem e_V:("V":Str)=tx [86]:=by decide+kernel
theorem e_S:("S":Str)=tx [83]:=by decide+kernel
theorem e_0:("0":Str)=tx [48]:=by decide+kernel
theorem v9:∀(s:Bool)(a b:Nat),a<6→b<4→(Xb s a b).length≤61:=by
 intro s a b ha hb
 unfold Xb
 have h1:(if s=true then[83]else([]:List Nat)).length≤1:=by split<;>simp
 have h2:(if b=0 then([]:List Nat)else 86::List.replicate b 57).length≤b+1:=by split<;>simp
 rw[List.length_append,List.length_append,List.length_replicate]
 omega
section
variable {P:Program}{w:World}{K:PySem.W.Frag}{mg:Str→Option Value}{base:Heap}{f:Addr}{fd:FuncData}{tk:Nat→Tok}{c kr:Nat→Addr}
noncomputable def Ya(K:PySem.W.Frag):Sp:=fun vs H Q _=>∃(a t r:Addr)(ns:List Int)(c figs far:Int)(rs:List (Key × V)),vs=[.ref a,.ref t,.int figs,.int far]∧SqL K H a (ns.map V.int)∧TownAt H t r c rs∧a≠t∧a≠r∧ns.length≤63∧c<90000∧0≤figs∧figs≤9∧0≤far∧far≤9∧
 ∀(u o c':Int)(rs':List (Key × V))(H':Hp)(q:Addr),u.natAbs<10^9→0≤o→o≤far→H q=none→H' q=some (.tup [.int u,.int o])→TownAt H' t r c' rs'→c'≤c+20→Apart t r H H'→Q (.ref q) H'
theorem Kv(F:Fun K "_law_an_amount" "_law_an_amount" Zf f fd)(O:Own mg)(D__law_draw:Def P w K mg base 1 "_law_draw" ["_law_script","_law_town","_law_many"] (X1 K)):
  FnOk P w K mg base (CXE P w) 2 f fd ["_law_script","_law_town","_law_figures","_law_far"] (Ya K):=by
 refine okN F JG (fun vs H Q E h=>?_) (fun cdv A outer s H vs Q E hr h=>?_)
 ·obtain⟨a,t,r,ns,c,figs,far,rs,rfl,_⟩:=h
  rfl
 ·obtain⟨a,t,r,ns,c,figs,far,rs,rfl,hS,T,nat,nar,hl,hc,hf0,hf1,hg0,hg1,k⟩:=h
  refine⟨_,(Qb (jp (i:=4) (j:=5) rfl JG.nd rfl rfl (by decide) rfl rfl (Qa Qh (Qa (D__law_draw.pe hr (by decide) rfl Qw (Qa (pv 0) (Qa (pv 1) (Qa (Qn QT (pv 3) Qh) Qc)))) Qc)) rfl)
   (Qb (Xr PassesOwn.never rfl (XT rfl O.range (Qa (D__law_draw.pe hr (by decide) rfl Qw (Qa (pv 0) (Qa (pv 1) (Qa (Qn QT (pv 2) Qh) Qc)))) Qc)) (Qk (i:=6) JG.nd rfl (Or.inl rfl)) (Qg (Qm (i:=4) JG.nd rfl (Or.inl rfl) (Qn QT (Qn UZ (pv 4) Qh) (D__law_draw.pe hr (by decide) rfl Qw (Qa (pv 0) (Qa (pv 1) (Qa Qh Qc))))))))
   (Qg (Qs (QK (Qa (QD (Ql Jw (D__law_draw.pe hr (by decide) rfl Qw (Qa (pv 0) (Qa (pv 1) (Qa Qh Qc)))) Qh (Qp _)) (pv 4) (Qn Zh Qh (pv 4))) (Qa (pv 5) Qc))))))),?_⟩
  refine⟨_,rfl,_,rfl,_,rfl,_,_,rfl,rfl,a,t,r,ns,c,_,rs,rfl,hS,T,nat,nar,hl,by omega,by omega,by omega,fun o rs1 H1 o0 o1 T1 A1=>⟨_,_,rfl,?_⟩⟩
  refine⟨_,rfl,_,rfl,_,rfl,_,_,rfl,rfl,a,t,r,ns,_,_,rs1,rfl,A1.seq hS nat nar,T1,nat,nar,hl,by omega,by omega,by omega,fun n rs2 H2 n0 n1 T2 A2=>?_⟩
  refine⟨n,rfl,by omega,by omega,XU (n:=n.toNat) (fun i σ H3=>∃z x c3 rs3,σ=[some (.ref a),some (.ref t),some (.int figs),some (.int far),some (.int z),some (.int o),x]∧0≤z∧z<10^i∧TownAt H3 t r c3 rs3∧c3≤c+2+i∧Apart t r H H3)
   ⟨0,none,_,rs2,rfl,by decide,by decide,T2,by omega,A1.trans A2⟩ ?_ ?_⟩
  ·rintro i σ H3 hi ⟨z,x,c3,rs3,rfl,z0,z1,T3,hc3,A3⟩
   refine⟨_,rfl,_,_,rfl,rfl,.inr ⟨by decide,by decide⟩,_,rfl,_,rfl,a,t,r,ns,c3,_,rs3,rfl,A3.seq hS nat nar,T3,nat,nar,hl,by omega,by decide,by decide,fun d rs4 H4 d0 d1 T4 A4=>?_⟩
   refine⟨_,_,rfl,rfl,_,_,_,rs4,rfl,by omega,?_,T4,by omega,A3.trans A4⟩
   rw[Int.pow_succ]
   omega
  ·rintro σ H3 ⟨z,x,c3,rs3,rfl,z0,z1,T3,hc3,A3⟩
   have zb:z<10^9:=Int.lt_of_lt_of_le z1 (by
    have:n.toNat≤9:=by omega
    have h:=Nat.pow_le_pow_right (n:=10) (by decide) this
    exact_mod_cast h)
   refine⟨_,rfl,_,rfl,a,t,r,ns,c3,_,rs3,rfl,A3.seq hS nat nar,T3,nat,nar,hl,by omega,by decide,by decide,fun d rs4 H4 d0 d1 T4 A4=>?_⟩
   refine⟨rfl,_,rfl,?_⟩
   refine ifB (fun g=>?_) (fun g=>?_)
   ·refine⟨_,rfl,_,rfl,by show 2≤sizeLine;decide,fun q hq=>?_⟩
    exact k z o _ rs4 _ q (by omega) o0 (by omega) (Y2 (A3.trans A4) T4 hq) Qe (T4.same (Qz.new hq)) (by omega) ((A3.trans A4).trans (.of (Qz.new hq)))
   ·refine⟨_,rfl,_,_,rfl,rfl,_,rfl,by show 2≤sizeLine;decide,fun q hq=>?_⟩
    exact k (0-z) o _ rs4 _ q (by omega) o0 (by omega) (Y2 (A3.trans A4) T4 hq) Qe (T4.same (Qz.new hq)) (by omega) ((A3.trans A4).trans (.of (Qz.new hq)))
noncomputable def z3(K:PySem.W.Frag):Sp:=fun vs H Q _=>∃(a t r:Addr)(ns:List Int)(c:Int),vs=[.ref a,.ref t]∧Bag K H a t r ns c∧c<80000∧
 ∀(s:Bool)(a2 b:Nat)(q:Addr)(c':Int)(H':Hp),a2<6→b<4→a2+b≠0→H q=none→H' q=some (.tup [tv (Xb s a2 b),.bl s,.int (a2:Nat),.int (b:Nat)])→Bag K H' a t r ns c'→c'≤c+5→Apart t r H H'→Q (.ref q) H'
set_option maxHeartbeats 1000000 in
theorem KK(F:Fun K "_law_a_number" "_law_a_number" Zt f fd)(D__law_draw:Def P w K mg base 1 "_law_draw" ["_law_script","_law_town","_law_many"] (X1 K)):FnOk P w K mg base (CXE P w) 2 f fd ["_law_script","_law_town"] (z3 K):=by
 refine okN F Q8 (fun vs H Q E h=>?_) (fun cdv A outer s H vs Q E hr h=>?_)
 ·obtain⟨a,t,r,ns,c,rfl,_⟩:=h
  rfl
 ·obtain⟨a,t,r,ns,c,rfl,B,hc,k⟩:=h
  have hz:1000≤sizeLine:=by decide
  refine⟨_,(Qb (Qm (i:=2) Q8.nd rfl (Or.inl rfl) (Jy Jw (D__law_draw.pe hr (by decide) rfl Qw (Qa (pv 0) (Qa (pv 1) (Qa Qh Qc)))) Qh (Qp _)))
   (Qb (Qm (i:=3) Q8.nd rfl (Or.inl rfl) (D__law_draw.pe hr (by decide) rfl Qw (Qa (pv 0) (Qa (pv 1) (Qa Qh Qc)))))
   (Qb (Qm (i:=4) Q8.nd rfl (Or.inl rfl) (D__law_draw.pe hr (by decide) rfl Qw (Qa (pv 0) (Qa (pv 1) (Qa Qh Qc)))))
   (Qb (Qm (i:=4) Q8.nd rfl (Or.inl rfl) (QD (Ql Jw (Qn QT (pv 3) (pv 4)) Qh (Qp _)) Qh (pv 4)))
   (Qb (Qm (i:=5) Q8.nd rfl (Or.inl rfl) (Qn Qo (Qn Qo (QD (QY (pv 2) (fun _=>rfl)) Qd Qd) (Qn QB Qd (pv 3))) (QD (Ql Wa (pv 4) Qh (Qp _)) (Qn Qo Qd (Qn QB Qd (pv 4))) Qd)))
   (Qg (Qs (QK (Qa (pv 5) (Qa (pv 2) (Qa (pv 3) (Qa (pv 4) Qc)))))))))))),?_⟩
  refine B.draw (n:=2) rfl rfl (fun R h=>h) (by decide) (by decide) (by omega) fun d1 H1 hd1 B1 A1=>?_
  refine⟨rfl,?_⟩
  rw[Zp]
  generalize decide ((d1:Int)=0)=sg
  dsimp only[JD,KL,K6]
  refine B1.draw (n:=6) rfl rfl (fun R h=>h) (by decide) (by decide) (by omega) fun a2 H2 hd2 B2 A2=>?_
  refine B2.draw (n:=4) rfl rfl (fun R h=>h) (by decide) (by decide) (by omega) fun b2 H3 hd3 B3 A3=>?_
  have A03:=(A1.trans A2).trans A3
  refine⟨_,rfl,_,rfl,_,_,rfl,rfl,rfl,_,rfl,?_⟩
  rw[Zp]
  refine Ju (fun v H'=>∃b:Nat,v=.int (b:Nat)∧H'=H3∧b<4∧a2+b≠0) (fun z rest=>?_) (fun z rest=>?_) ?_
  ·have:=of_decide_eq_true z
   exact rest _ _ ⟨1,rfl,rfl,by decide,by omega⟩
  ·have:=of_decide_eq_false z
   exact⟨_,rfl,rest _ _ ⟨b2,rfl,rfl,by omega,by omega⟩⟩
  rintro v H' ⟨b,rfl,rfl,hb4,hab⟩
  rw[VP]
  refine⟨_,rfl,sg,rfl,?_⟩
  refine Ju (fun v H4=>v=.str (tx (if sg=true then[83]else[]))∧H4=H') (fun z rest=>rest _ _ ⟨by rw[e_S,if_pos z],rfl⟩) (fun z rest=>rest _ _ ⟨by rw[KI,if_neg (by rw[z];decide)],rfl⟩) ?_
  rintro v H4 ⟨rfl,rfl⟩
  have hsll:(if sg=true then[83]else([]:List Nat)).length≤1:=by split<;>simp
  refine⟨_,rfl,tx [57],(a2:Int),rfl,rfl,by omega,by rw[Qj,Int.toNat_natCast,List.length_singleton];omega,by omega,?_⟩
  rw[Int.toNat_natCast,Zj]
  refine⟨_,_,rfl,rfl,by rw[Qj,Qj,List.length_replicate];omega,?_⟩
  rw[QM]
  refine⟨_,rfl,_,_,rfl,rfl,_,rfl,?_⟩
  refine Ju (fun v H5=>v=.str (tx (if b=0 then([]:List Nat)else 86::List.replicate b 57))∧H5=H4) (fun z rest=>?_) (fun z rest=>?_) ?_
  ·have hb:b≠0:=by have:=of_decide_eq_true z;omega
   refine⟨_,rfl,tx [57],(b:Int),rfl,rfl,by omega,by rw[Qj,Int.toNat_natCast,List.length_singleton];omega,by omega,?_⟩
   rw[Int.toNat_natCast,Zj,e_V]
   refine⟨_,_,rfl,rfl,by rw[Qj,Qj,List.length_replicate];simp;omega,?_⟩
   rw[QM]
   exact rest _ _ ⟨by rw[if_neg hb];rfl,rfl⟩
  ·have hb:b=0:=by have:=of_decide_eq_false z;omega
   exact rest _ _ ⟨by rw[if_pos hb,KI],rfl⟩
  rintro v H5 ⟨rfl,rfl⟩
  have h2:(if b=0 then([]:List Nat)else 86::List.replicate b 57).length≤b+1:=by split<;>simp
  refine⟨_,_,rfl,rfl,by rw[Qj,Qj,List.length_append,List.length_replicate];omega,?_⟩
  rw[QM]
  refine⟨_,rfl,_,rfl,_,rfl,_,rfl,by show 4≤sizeLine;omega,fun q hq=>?_⟩
  exact k sg a2 b q _ _ (by omega) hb4 hab (B.free B3 A03 hq) Qe (B3.same (Qz.new hq)) (by omega) (A03.trans (Apart.of (Qz.new hq)))
noncomputable def UT(K:PySem.W.Frag):Sp:=fun vs H Q _=>∃(s:Bool)(a b:Nat)(p:Addr)(u:Int)(o:Nat),vs=[.bl s,.int (a:Nat),.int (b:Nat),.ref p]∧SqT K H p [.int u,.int (o:Nat)]∧u.natAbs<10^10∧o≤18∧b≤8∧1≤a+b∧a+b≤18∧Q (.str (tx (cont s a b u o))) H
set_option maxHeartbeats 2000000 in
theorem WN(F:Fun K "_law_content" "_law_content" ZI f fd)(O:Own mg):FnOk P w K mg base (CXE P w) 1 f fd ["_law_shows","_law_before","_law_behind","_law_amount_here"] (UT K):=by
 refine okN F Zu (fun vs H Q E h=>?_) (fun cdv A outer s H vs Q E hr h=>?_)
 ·obtain⟨s,a,b,p,u,o,rfl,_⟩:=h
  rfl
 ·obtain⟨sg,a,b,p,u,o,rfl,sq,hu,ho,hb8,hab1,hab2,k⟩:=h
  have hz:1000≤sizeLine:=by decide
  obtain⟨f1,f2,f3,f4⟩:=K3 b (by omega)
  obtain⟨g1,g2,g3,g4⟩:=K3 o (by omega)
  refine⟨_,(Qb (Qm (i:=4) Zu.nd rfl (Or.inl rfl) (Qn KS (Qn Z8 (Qq J3 rfl O.abs PyProof.Rows.boot_abs (Qa (QJ Jq (pv 3) Qh (fun _ _=>rfl)) Qc)) (Ja Jj rfl O.int PyProof.Rows.boot_int (Qa (Qn Qo Qd (Qn QB Qd (pv 2))) Qc))) (Ja Jj rfl O.int PyProof.Rows.boot_int (Qa (Qn Qo Qd (Qn QB Qd (QJ Jq (pv 3) Qh (fun _ _=>rfl)))) Qc))))
   (Qb (Qm (i:=5) Zu.nd rfl (Or.inl rfl) (Q6 ZK (Qn Qo (Qn QB Qd (Qn QT (pv 1) (pv 2))) (Ja JP rfl O.str PyProof.Rows.boot_str (Qa (pv 4) Qc))) (Q7 (Qn Zh (Qn Zh Qh (pv 1)) (pv 2))) JU))
   (Qb (QL (PW.pt (Jp (QY (pv 0) (fun _=>rfl)) (Jp (Ql Xz (QJ Jq (pv 3) Qh (fun _ _=>rfl)) Qh (Qp _)) (Je (Ql Zc (JS PySem.F.plainAttrs_str PySem.F.slot_str_strip PySem.F.type_str_strip X2 (pv 5) (Qa Qd Qc)) Qd (Qp _)))))) (Qg (Qs (Qn Qo (Q6 ZK (pv 5) JU (Q7 (WP Xt Qh))) (QJ XW Qd (JS PySem.F.plainAttrs_str PySem.F.slot_str_index PySem.F.type_str_index zd Qd (Qa (QJ XW (pv 5) (WP Xt Qh) (fun _ _=>rfl)) Qc)) (fun _ _=>rfl))))) Qy)
   (Qg (Qs (pv 5)))))),?_⟩
  have hum:u.natAbs*10^b<2^100:=by
   have h1:10^b≤10^8:=Nat.pow_le_pow_right (by decide) hb8
   calc u.natAbs*10^b≤10^10*10^8:=Nat.mul_le_mul (Nat.le_of_lt hu) h1
    _<2^100:=by decide
  have hpo:10^o<2^200:=Nat.lt_of_le_of_lt (Nat.pow_le_pow_right (by decide) ho) (by decide)
  have hpb:10^b<2^200:=Nat.lt_of_le_of_lt (Nat.pow_le_pow_right (by decide) (show b≤18 by omega)) (by decide)
  have c1:(((10:Int)^b))=((10^b:Nat):Int):=by push_cast;rfl
  have c2:(((10:Int)^o))=((10^o:Nat):Int):=by push_cast;rfl
  have hX:((if u<0 then-u else u)*(10:Int)^b)/(10:Int)^o=((u.natAbs*10^b/10^o:Nat):Int):=by
   rw[Kt,c1,c2]
   push_cast
   rfl
  refine⟨_,rfl,p,_,_,_,rfl,rfl,sq,rfl,u,rfl,_,rfl,"0",(b:Int),rfl,rfl,by omega,by rw[Int.toNat_natCast];exact f4,by omega,?_⟩
  rw[Int.toNat_natCast]
  refine⟨_,_,rfl,rfl,f3,_,_,rfl,f1,f2,_,_,rfl,rfl,⟨?_,?_⟩,?_⟩
  ·rw[Kt,Int.natAbs_natCast];exact Nat.lt_trans (Nat.lt_trans hu (by decide)) (show 2^200<2^2000 by decide)
  ·rw[c1,Int.natAbs_natCast];exact Nat.lt_trans hpb (by decide)
  refine⟨_,rfl,p,_,_,_,rfl,rfl,sq,rfl,"0",(o:Int),rfl,rfl,by omega,by rw[Int.toNat_natCast];exact g4,by omega,?_⟩
  rw[Int.toNat_natCast]
  refine⟨_,_,rfl,rfl,g3,_,_,rfl,g1,g2,_,_,rfl,rfl,⟨?_,?_⟩,?_⟩
  ·rw[c2];exact_mod_cast Nat.pow_pos (by decide)
  ·rw[c2,Int.natAbs_natCast];exact Nat.lt_trans hpo (by decide)
  dsimp only[JD,KL,K6]
  rw[hX]
  obtain⟨q1,q2⟩:=wy u (o:=o) (a:=a) (b:=b) ho (by omega)
  have hXlt:u.natAbs*10^b/10^o<2^100:=Nat.lt_of_le_of_lt (Nat.div_le_self _ _) hum
  generalize u.natAbs*10^b/10^o=X at q1 q2 hXlt
  have hcont:cont sg a b u o=if sg=true∧fit u o a b<0 then UJ (pad (X % 10^(a+b)) (a+b))else pad (X % 10^(a+b)) (a+b):=by
   unfold cont
   rw[q1]
  rw[hcont]at k
  have hdl:=VC hXlt
  have htd:=Qj (dec X)
  have ecast:((a:Nat):Int)+((b:Nat):Int)=((a+b:Nat):Int):=by omega
  have eneg:(0:Int)-(a:Nat)-(b:Nat)= -((a+b:Nat):Int):=by omega
  refine⟨_,rfl,_,rfl,_,_,rfl,rfl,"0",((a:Nat):Int)+((b:Nat):Int),rfl,rfl,by omega,?_,by omega,?_⟩
  ·rw[ecast,Int.toNat_natCast,e_0,Qj]
   simp
   omega
  rw[ecast,Int.toNat_natCast,e_0,Zj]
  refine⟨_,rfl,_,rfl,?_,?_⟩
  ·rw[Int.natAbs_natCast]
   by_cases h0:X=0
   ·rw[h0];decide
   ·exact(Nat.log2_lt h0).mpr (Nat.lt_trans hXlt (by decide))
  rw[K02.Z4]
  refine⟨_,_,rfl,rfl,by rw[Qj,htd,List.length_replicate];omega,?_⟩
  rw[QM]
  refine⟨_,rfl,_,_,rfl,rfl,_,rfl,_,_,rfl,rfl,_,rfl,_,rfl,by rw[Qj,List.length_append,List.length_replicate];omega,?_⟩
  rw[eneg,KF _ hab1,qh X hab1]
  have hm:X % 10^(a+b)<10^(a+b):=Nat.mod_lt _ (Nat.pow_pos (by decide))
  have hplen:=Kl hm hab1
  have hpdig:=Wr (X % 10^(a+b)) (a+b)
  have hpne:=wl (X % 10^(a+b)) (a+b)
  have hpval:=Uw (X % 10^(a+b)) (a+b)
  generalize X % 10^(a+b)=Y at k q1 q2 hm hplen hpdig hpne hpval
  generalize pad Y (a+b)=pl at k hplen hpdig hpne hpval
  have htl:=Qj pl
  have Kw:¬ (sg=true∧fit u o a b<0)→Q (.str (tx pl)) H:=fun z=>by rw[if_neg z]at k;exact k
  refine⟨_,rfl,sg,rfl,?_⟩
  cases sg with
  |false=>exact QX (QX ⟨_,rfl,Kw (fun z=>absurd z.1 (by decide))⟩)
  |true=>
   refine Q4 ⟨_,rfl,p,_,_,_,rfl,rfl,sq,rfl,_,_,rfl,rfl,_,rfl,?_⟩
   by_cases hun:u<0
   ·rw[decide_eq_true hun]
    refine Q4 ⟨_,rfl,rfl,tx pl,tx [48],rfl,rfl,by show(tx pl).length≤sizeLine;omega,rfl,_,rfl,?_⟩
    rw[←e_0,Km hpdig,hpval]
    by_cases hY:Y=0
    ·rw[decide_eq_true hY]
     exact QX ⟨_,rfl,Kw (fun z=>(q2.mp z.2).2 hY)⟩
    ·rw[decide_eq_false hY]
     rw[if_pos ⟨rfl,q2.mpr ⟨hun,hY⟩⟩]at k
     obtain⟨d,hd1,hd2⟩:=Xp hpne
     have hdd:NumText.AllDigits [d]:=fun z hz=>hpdig z (by rw[hd1];exact List.mem_append_right _ hz)
     have hdb:=hdd d (List.mem_singleton.mpr rfl)
     refine Q4 ⟨_,rfl,_,rfl,_,rfl,tx pl,rfl,by omega,?_⟩
     rw[Vi]
     have hat:atI pl (-1)=some d:=by
      rw[hd1]
      exact KP _ _
     have hfi:([48,49,50,51,52,53,54,55,56,57]:List Nat)[d-48]? =some d:=by
      have key:∀k:Nat,k<10→([48,49,50,51,52,53,54,55,56,57]:List Nat)[k]? =some (k+48):=by decide
      have:=key (d-48) (by omega)
      rw[this]
      congr 1
      omega
     have hfn:∀j,j<d-48→([48,49,50,51,52,53,54,55,56,57]:List Nat)[j]? ≠some d:=by
      intro j hj
      have key:∀k:Nat,k<10→([48,49,50,51,52,53,54,55,56,57]:List Nat)[k]? =some (k+48):=by decide
      rw[key j (by omega)]
      intro z
      have:=Option.some.inj z
      omega
     obtain⟨rr,hocc⟩:=kc _ hfi hfn
     refine⟨rfl,_,rfl,_,rfl,tx pl, -1,d,rfl,rfl,by omega,hat,"0123456789",tx [d],d-48,rr,rfl,rfl,by rw[Qaf];exact hocc,?_⟩
     refine⟨"pqrstuvwxy",((d-48:Nat):Int),d+64,rfl,rfl,by decide+kernel,Zd (wm d (by omega) (by omega)),_,_,rfl,rfl,?_,?_⟩
     ·show(tx pl.dropLast).length+(tx [d+64]).length≤sizeLine
      rw[Qj,Qj,List.length_dropLast]
      simp
      omega
     ·show Q (.str (tx pl.dropLast++tx [d+64])) H
      rw[QM]
      have e:UJ pl=pl.dropLast++[d+64]:=by unfold UJ;rw[hd2];rfl
      rw[e]at k
      exact k
   ·rw[decide_eq_false hun]
    exact QX (QX ⟨_,rfl,Kw (fun z=>hun (q2.mp z.2).1)⟩)
end
end Lw
set_option Elab.async false
set_option linter.all false
set_option maxRecDepth 100000
namespace Lw
open PySem PySem.Spec PyProof.Rows L2 K02 K04 K15 K09
open Builtin Builtin.Str StrLaws
theorem z4{ta tb:TE}{σ:L2.St}{H:Hp}{Q:VK}(Good:V→Hp→Prop)(rest:∀v H',Good v H'→Q v H') (h:(∀v H',Good v H'→Q v H')→wH ta tb σ H Q):wH ta tb σ H Q:=h rest
theorem qA{c:TT}{ta tb:TE}{σ:L2.St}{H:Hp}{Q:VK}(Good:V→Hp→Prop)(rest:∀v H',Good v H'→Q v H') (h:(∀v H',Good v H'→Q v H')→tIf c ta tb σ H Q):tIf c ta tb σ H Q:=h rest
noncomputable def mkD(b:Bool):List (Key × V):=[(Sum.inr "+",.str (tx [mkS b 43])),(Sum.inr "-",.str (tx [mkS b 45])),(Sum.inr "$",.str "$"),(Sum.inr "",.str "")]
theorem z5:∀b,KA [] (mkD b)=mkD b:=by decide+kernel
theorem z6:∀b,∀c∈([43,45,36]:List Nat),Kz (mkD b) (Sum.inr (tx [c]):Key)=some (.str (tx [mkS b c])):=by decide+kernel
theorem ya:∀b,Kz (mkD b) (Sum.inr (tx []):Key)=some (.str (tx [])):=by decide+kernel
noncomputable abbrev sg(l:List Nat):List V:=l.map fun c=>.str (tx [c])
noncomputable abbrev NE:List Str:=["_law_parts","_law_amount_here","_law_lead","_law_first","_law_whole","_law_broken","_law_tail","_law_symbol","_law_places_here","_law_floats","_law_before","_law_behind","_law_units","_law_figures","_law_less","_law_mark","_law_size","_law_ahead","_law_stars","_law_row","_law_left","_law_stop","_law_at","_law_end"]
theorem Y5{H H':Hp}{q:Addr}(S:Qz H H')(h:H' q=none):H q=none:=by
 cases e:H q with
 |none=>rfl
 |some o=>rw[S _ _ e]at h;cases h
noncomputable def sv:Option Nat→V
 |none=>.non
 |some s=>.int (s:Nat)
noncomputable def yk:List (List Nat):=[[67,82],[68,66]]
theorem QaD:([.str "CR",.str "DB"]:List V)=yk.map tv:=by decide+kernel
theorem QbH:("  ":Str)=tx [32,32]:=by decide+kernel
noncomputable def kM(first:Nat)(row:List Nat)(stop:Nat):List Nat:=if first≠57 then List.replicate stop (if first=42 then 42 else 32)++row.drop stop else row
noncomputable def wz(first:Nat)(row:List Nat)(stop:Nat)(b:Bool):List Nat:=if flo first=true then(kM first row stop).set (stop-1) (mkS b first)else kM first row stop
theorem kO:∀(b:Bool),∀t∈([[],[43],[45],[67,82],[68,66]]:List (List Nat)),(yk.contains t=true→(if b=true then t else[32,32])=t.map (mkS b))∧(yk.contains t=false→t=[]∨∃c,t=[c]∧c∈([43,45,36]:List Nat)):=by
 intro b t ht
 simp only[List.mem_cons,List.not_mem_nil,or_false]at ht
 rcases ht with rfl|rfl|rfl|rfl|rfl
 ·exact⟨(fun z=>by cases z),fun _=>.inl rfl⟩
 ·exact⟨(fun z=>by cases z),fun _=>.inr ⟨_,rfl,by decide⟩⟩
 ·exact⟨(fun z=>by cases z),fun _=>.inr ⟨_,rfl,by decide⟩⟩
 ·exact⟨(fun _=>by cases b<;>rfl),fun z=>by cases z⟩
 ·exact⟨(fun _=>by cases b<;>rfl),fun z=>by cases z⟩
section
variable {P:Program}{w:World}{K:PySem.W.Frag}{mg:Str→Option Value}{base:Heap}{f:Addr}{fd:FuncData}{tk:Nat→Tok}{c kr:Nat→Addr}
set_option maxHeartbeats 4000000 in
theorem yb(O:Own mg){cdv:Value}{A:Around}{outer:List Env}{s:Shared}{H:Hp}{E:XK}(hr:Room 1 (A.deeper (envOfC "_law_edit" (Qf QZ) s.heap.objs.size f cdv))):
  ∃u2,PSs (WR (CXE P w) P w K mg base NE "_law_edit" (Qf QZ) f cdv A outer s H E).nox ((QP QZ).drop 11) u2∧
   ∀(D:Ends)(H4:Hp)(y0 y1 y4 y7 y8 y12 y16 y17 y18 y20 y22 y23:Option V)(lead:List Nat)(first:Nat)(broken tail figs row:List Nat)(a b:Nat)(ls0:Bool)(d p:Addr)(st:Option Nat),
    H4 d=some (.dK (mkD ls0))→H4 p=some (.lst (sg row))→row.length≤100→st.getD row.length≤row.length→(flo first=true→1≤st.getD row.length)→lead∈([[],[43],[45],[36],[43,36],[45,36]]:List (List Nat))→tail∈([[],[43],[45],[67,82],[68,66]]:List (List Nat))→figs.length=a+b→b=broken.length→a+b≤100→
    (∀H',Qz H4 H'→D.rt (.str (tx (lead.map (mkS ls0)++(wz first row (st.getD row.length) ls0++(if broken=[]then[]else 46::figs.drop a))++tail.map (mkS ls0)))) H')→
    u2 D [y0,y1,some (tv lead),some (tv [first]),y4,some (tv broken),some (tv tail),y7,y8,some (.bl (flo first)),some (.int (a:Nat)),some (.int (b:Nat)),y12,some (tv figs),some (.bl ls0),some (.ref d),y16,y17,y18,some (.ref p),y20,some (sv st),y22,y23] H4:=by
 have hz:1000≤sizeLine:=by decide
 have hu:=jP hr
 refine⟨_,(Qb (Qm (i:=21) Qx.nd rfl (Or.inl rfl) (QD (ZJ (XS (pv 21))) (Qq QF rfl O.len PySem.boot_len (Qa (pv 19) Qc)) (pv 21)))
   (Qb (QL (Ql Zc (pv 3) Qd (Qp _)) (Qg (Qm (i:=19) Qx.nd rfl (Or.inl rfl) (Qn Wd (Qn yD (JH (Qa (QD (Ql Jw (pv 3) Qd (Qp _)) Qd Qd) Qc)) (pv 21)) (Q6 Vt (pv 19) (Q7 (pv 21)) JU)))) Qy)
   (Qb (QL (QY (pv 9) (fun _=>rfl)) (Qg (Jf (Z7 hu (pv 15) (pv 3) (fun _ _=>rfl)) (kX (pv 19) (Qn Zh (pv 21) Qh) set_list))) Qy)
   (Qb (Qm (i:=23) Qx.nd rfl (Or.inl rfl) (QD (Ql Yh (pv 6) (QK (Qa Qd (Qa Qd Qc))) (by with_unfolding_all rfl)) (QD (QY (pv 14) (fun _=>rfl)) (pv 6) Qd) (Z7 hu (pv 15) (pv 6) (fun _ _=>rfl))))
   (Qg (Qs (Qn Qo (Qn Qo (JS PySem.F.plainAttrs_str PySem.F.slot_str_join PySem.F.type_str_join XD Qd (Qa (Qn Wd (YA (NB:=[".0","_law_sign"]) (FR:=["_law_mark"]) (fi:=[15]) rfl ⟨rfl,by decide+kernel,by decide+kernel,by decide+kernel,by decide+kernel,by decide+kernel⟩ rfl rfl (Vd (pv 2)) (fun _ _ _=>(Qk (i:=1) (show([".0","_law_sign","_law_mark"]:List Str).Nodup by decide+kernel) rfl (Or.inl rfl))) (fun _ _ _=>XC) (fun _ _ _=>(Z7 hu (pv 2) (pv 1) (fun _ _=>rfl)))) (pv 19)) Qc)) (QD (Ql Wa (pv 11) Qh (Qp _)) (Qn Qo Qd (Q6 ZK (pv 13) (Q7 (pv 10)) JU)) Qd)) (pv 23)))))))),?_⟩
 intro D H4 y0 y1 y4 y7 y8 y12 y16 y17 y18 y20 y22 y23 lead first broken tail figs row a b ls0 d p st gd gp hrl hst hfst hld htl hfl hb hab k
 obtain⟨hls,hll⟩:=zT lead hld
 obtain⟨hts,htll⟩:=zU tail htl
 dsimp only[JD,KL,K6]
 refine qA (fun v H'=>v=.int ((st.getD row.length:Nat):Int)∧H'=H4) ?_ (fun rest=>?_)
 rotate_left
 ·refine⟨_,rfl,_,rfl,?_⟩
  cases st with
  |none=>exact Q4 ⟨_,rfl,p,_,rfl,.inl (SqL.of gp),rest _ _ ⟨by rw[List.length_map];rfl,rfl⟩⟩
  |some s0=>exact QX ⟨_,rfl,rest _ _ ⟨rfl,rfl⟩⟩
 rintro v H' ⟨rfl,rfl⟩
 generalize st.getD row.length=stop at*
 try dsimp only[JD,KL,K6]
 refine Jv (fun σ' H5=>∃pn,σ'=[y0,y1,some (tv lead),some (tv [first]),y4,some (tv broken),some (tv tail),y7,y8,some (.bl (flo first)),some (.int (a:Nat)),some (.int (b:Nat)),y12,some (tv figs),some (.bl ls0),some (.ref d),y16,y17,y18,some (.ref pn),y20,some (.int (stop:Nat)),y22,y23]∧Qz H' H5∧H5 pn=some (.lst (sg (kM first row stop)))∧(flo first=true→H' pn=none)) ?_ (fun rest=>?_)
 rotate_left
 ·refine⟨_,rfl,rfl,_,rfl,?_⟩
  rw[YW,Q0]
  by_cases h57:first=57
  ·rw[decide_eq_true h57]
   exact QX (rest _ _ ⟨p,rfl,Qz.refl _,by unfold kM;rw[if_neg (fun z=>z h57)];exact gp,fun z=>by rw[h57]at z;cases z⟩)
  ·rw[decide_eq_false h57]
   refine Q4 ⟨_,rfl,rfl,_,rfl,?_⟩
   rw[qu,Q0]
   refine Ju (fun v H5=>v=.str (tx [if first=42 then 42 else 32])∧H5=H') (fun z rest=>rest _ _ ⟨by rw[if_pos (of_decide_eq_true z)],rfl⟩) (fun z rest=>rest _ _ ⟨by rw[XO,if_neg (of_decide_eq_false z)],rfl⟩) ?_
   rintro v H5 ⟨rfl,rfl⟩
   refine⟨by show 1≤sizeLine;omega,fun p1 hp1=>⟨_,rfl,p1,(stop:Int),_,rfl,rfl,Qe,by omega,by omega,by show 1*(stop:Int).toNat≤sizeLine;rw[Int.toNat_natCast];omega,fun p2 hp2=>?_⟩⟩
   have S1:=Qz.new (o:=.lst [.str (tx [if first=42 then 42 else 32])]) hp1
   have S2:=Qz.new (o:=.lst (List.replicate (stop:Int).toNat [V.str (tx [if first=42 then 42 else 32])]).flatten) hp2
   have g2:upd (upd H5 p1 (.lst [.str (tx [if first=42 then 42 else 32])])) p2 (.lst (List.replicate (stop:Int).toNat [V.str (tx [if first=42 then 42 else 32])]).flatten) p2=some (.lst (sg (List.replicate stop (if first=42 then 42 else 32)))):=by
    rw[Qe,Int.toNat_natCast]
    congr 2
    have:∀n:Nat,(List.replicate n [V.str (tx [if first=42 then 42 else 32])]).flatten=sg (List.replicate n (if first=42 then 42 else 32)):=by
     intro n
     induction n with
     |zero=>rfl
     |succ n ih=>rw[List.replicate_succ,List.flatten_cons,ih,List.replicate_succ];rfl
    exact this stop
   have S12:=S1.trans S2
   generalize upd (upd H5 p1 (.lst [.str (tx [if first=42 then 42 else 32])])) p2 (.lst (List.replicate (stop:Int).toNat [V.str (tx [if first=42 then 42 else 32])]).flatten)=H6 at S12 g2
   refine⟨_,rfl,_,rfl,_,rfl,p,_,rfl,SqL.of (S12 _ _ gp),fun p3 hp3=>?_⟩
   have ecut:jh (sg row) (some (stop:Int)) none=sg (row.drop stop):=by
    unfold jh
    rw[HT.Vr,HT.U0,List.length_map,Nat.min_eq_left hst,List.take_of_length_le (by rw[List.length_drop,List.length_map];exact Nat.le_refl _)]
    exact List.map_drop.symm
   rw[ecut]
   have S3:=Qz.new (o:=.lst (sg (row.drop stop))) hp3
   refine⟨p2,p3,_,_,rfl,rfl,S3 _ _ g2,Qe,by rw[List.length_map,List.length_map,List.length_replicate,List.length_drop];omega,fun pn hpn=>?_⟩
   refine rest _ _ ⟨pn,rfl,(S12.trans S3).trans (Qz.new hpn),?_,fun _=>?_⟩
   ·rw[Qe]
    unfold kM
    rw[if_pos h57]
    simp[sg]
   ·exact Y5 (S12.trans S3) hpn
 rintro σ' H5 ⟨pn,rfl,S5,g5,hfr⟩
 have hbl:(kM first row stop).length≤100:=by
  unfold kM
  split
  ·rw[List.length_append,List.length_replicate,List.length_drop];omega
  ·exact hrl
 refine Jv (fun σ' H6=>σ'=[y0,y1,some (tv lead),some (tv [first]),y4,some (tv broken),some (tv tail),y7,y8,some (.bl (flo first)),some (.int (a:Nat)),some (.int (b:Nat)),y12,some (tv figs),some (.bl ls0),some (.ref d),y16,y17,y18,some (.ref pn),y20,some (.int (stop:Nat)),y22,y23]∧Qz H' H6∧H6 pn=some (.lst (sg (wz first row stop ls0)))) ?_ (fun rest=>?_)
 rotate_left
 ·refine⟨_,rfl,flo first,rfl,?_⟩
  refine ifB (fun zf=>?_) (fun zf=>rest _ _ ⟨rfl,S5,by unfold wz;rw[if_neg (by rw[zf];decide)];exact g5⟩)
  have hfm:first∈([43,45,36]:List Nat):=List.contains_iff_mem.mp zf
  have hpn:=hfr zf
  have h1:=hfst zf
  have hlen:stop≤(kM first row stop).length:=by
   have:¬ (first=57):=fun z=>by rw[z]at zf;cases zf
   unfold kM
   rw[if_pos this,List.length_append,List.length_replicate]
   omega
  refine⟨_,rfl,_,rfl,d,_,rfl,.inl ⟨_,Sum.inr (tx [first]),.inl (S5 _ _ gd),rfl,(z6 ls0 first hfm).symm⟩,_,rfl,_,rfl,_,_,rfl,rfl,pn,_,(stop:Int)-1,stop-1,rfl,rfl,g5,?_,?_⟩
  ·unfold ixN
   rw[if_pos (by omega),if_pos (by rw[List.length_map];omega)]
   congr 1
   omega
  ·refine rest _ _ ⟨rfl,fun x o e=>?_,?_⟩
   ·rw[Qt (Qv e hpn)]
    exact S5 _ _ e
   ·rw[Qe]
    unfold wz
    rw[if_pos zf]
    congr 2
    exact List.map_set.symm
 rintro σ' H6 ⟨rfl,S6,g6⟩
 have hcl:(wz first row stop ls0).length≤100:=by unfold wz;split;rw[List.length_set];exact hbl;exact hbl
 generalize wz first row stop ls0=ji at*
 dsimp only[JD,KL,K6]
 refine qA (fun v H7=>v=.str (tx (tail.map (mkS ls0)))∧Qz H6 H7) ?_ (fun rest=>?_)
 rotate_left
 ·refine⟨_,rfl,by show 2≤sizeLine;omega,fun pt hpt=>?_⟩
  have S9:=Qz.new (o:=.tup [.str "CR",.str "DB"]) hpt
  have g9:upd H6 pt (.tup [.str "CR",.str "DB"]) pt=some (.tup (yk.map tv)):=by rw[Qe];exact congrArg (fun x=>some (HO.tup x)) QaD
  generalize upd H6 pt (.tup [.str "CR",.str "DB"])=H7 at S9 g9
  refine⟨pt,_,rfl,.inr (SqT.of g9),rfl,Kb yk,_,rfl,?_⟩
  rw[if_neg (show ¬ (false=true) by decide),in_list]
  obtain⟨t1,t2⟩:=kO ls0 tail htl
  cases hin:yk.contains tail with
  |true=>
   have e:=t1 hin
   refine Q4 ⟨_,rfl,ls0,rfl,?_⟩
   cases ls0 with
   |true=>exact Q4 ⟨_,rfl,rest _ _ ⟨by rw[←e];rfl,S9⟩⟩
   |false=>exact QX (rest _ _ ⟨by rw[QbH, ←e];rfl,S9⟩)
  |false=>
   refine QX ⟨_,rfl,_,rfl,d,?_⟩
   rcases t2 hin with rfl|⟨c,rfl,hc⟩
   ·exact⟨_,rfl,.inl ⟨_,Sum.inr (tx []),.inl (S9 _ _ (S6 _ _ gd)),rfl,(ya ls0).symm⟩,rest _ _ ⟨rfl,S9⟩⟩
   ·exact⟨_,rfl,.inl ⟨_,Sum.inr (tx [c]),.inl (S9 _ _ (S6 _ _ gd)),rfl,(z6 ls0 c hc).symm⟩,rest _ _ ⟨rfl,S9⟩⟩
 rintro v H7 ⟨rfl,S7⟩
 have S67:=S6.trans S7
 have hlt:=Qj lead
 refine⟨rfl,?_⟩
 have hlm:∀x∈lead,x∈([43,45,36]:List Nat):=by
  have:∀l∈([[],[43],[45],[36],[43,36],[45,36]]:List (List Nat)),∀x∈l,x∈([43,45,36]:List Nat):=by decide
  exact this lead hld
 dsimp only[JN,W7,tOp]
 refine YC (z:=tx lead) (fv:=[.ref d]) (fun m vs H8=>vs=sg ((lead.take m).map (mkS ls0))∧H8=H7) (fun R h=>⟨_,rfl,h⟩) (ZY fun x hx=>wv (hls x hx)) rfl ⟨rfl,rfl⟩ (fun m vs H hm⟨e,_⟩=>?_) ?_ ?_ (by show(tx lead).length<sizeLine;omega)
 ·rw[e,List.length_map,List.length_map,List.length_take]
  omega
 ·rintro m cc vs H8 hx ⟨rfl,rfl⟩
  have hx':lead[m]? =some cc:=by simpa using hx
  have htk:lead.take (m+1)=lead.take m++[cc]:=by rw[List.take_add_one,hx'];rfl
  rw[show(⟨#[cc]⟩:Str)=tx [cc]from rfl]
  refine⟨rfl,?_⟩
  dsimp only[wZ]
  exact Q4 ⟨_,rfl,_,rfl,d,_,rfl,.inl ⟨_,Sum.inr (tx [cc]),.inl (S67 _ _ gd),rfl,(z6 ls0 cc (hlm cc (List.mem_of_getElem? hx'))).symm⟩,by rw[htk];simp[sg],rfl⟩
 rintro vs H8 ⟨rfl,rfl⟩ p1 hp1
 rw[List.take_of_length_le (show lead.length≤(tx lead).cps.size by simp)]
 have S8:=Qz.new (o:=.lst (sg (lead.map (mkS ls0)))) hp1
 refine⟨_,rfl,p1,pn,_,_,rfl,rfl,Qe,S8 _ _ (S7 _ _ g6),by rw[List.length_map,List.length_map,List.length_map];omega,fun p2 hp2=>?_⟩
 have S9:=(S67.trans S8).trans (Qz.new (o:=.lst (sg (lead.map (mkS ls0))++sg ji)) hp2)
 have hll2:(lead.map (mkS ls0)++ji).length≤200:=by rw[List.length_append,List.length_map];omega
 refine⟨"",p2,(lead.map (mkS ls0)++ji).map fun c=>tx [c],rfl,rfl,SqL.of (by rw[Qe,List.map_map,List.map_append];rfl),Kk (by omega),?_⟩
 rw[ZL]
 generalize upd (upd H8 p1 (.lst (sg (lead.map (mkS ls0))))) p2 (.lst (sg (lead.map (mkS ls0))++sg ji))=H9 at S9
 refine⟨_,rfl,_,_,rfl,rfl,_,rfl,?_⟩
 have hft:=Qj figs
 have hdt:=Qj (figs.drop a)
 rw[List.length_drop]at hdt
 refine Ju (fun v H'=>v=.str (tx (if broken=[]then[]else 46::figs.drop a))∧H'=H9) (fun z rest=>?_) (fun z rest=>?_) ?_
 ·have hb0:broken≠[]:=fun e=>by rw[e]at hb;have:=of_decide_eq_true z;simp at hb;omega
  refine⟨_,rfl,_,rfl,_,rfl,tx figs,rfl,by omega,?_⟩
  rw[Xo,Qbu]
  refine⟨_,_,rfl,rfl,by rw[Qj,hdt,List.length_singleton];omega,?_⟩
  rw[QM]
  exact rest _ _ ⟨by rw[if_neg hb0];rfl,rfl⟩
 ·have hb0:broken=[]:=by
   have:=of_decide_eq_false z
   exact List.length_eq_zero_iff.mp (by omega)
  exact rest _ _ ⟨by rw[if_pos hb0,KI],rfl⟩
 rintro v H10 ⟨rfl,rfl⟩
 have hml:(if broken=[]then([]:List Nat)else 46::figs.drop a).length≤200:=by split;simp;rw[List.length_cons,List.length_drop];omega
 refine⟨_,_,rfl,rfl,by rw[Qj,Qj];omega,?_⟩
 rw[QM]
 refine⟨_,rfl,_,_,rfl,rfl,by rw[Qj,Qj,List.length_append,List.length_map];omega,?_⟩
 rw[QM,List.append_assoc (lead.map (mkS ls0))]
 exact k _ S9
end
end Lw
set_option Elab.async false
set_option linter.all false
set_option maxRecDepth 100000
namespace Lw
open PySem PySem.Spec PyProof.Rows L2 K02 K04 K15 K09
open Builtin Builtin.Str StrLaws
theorem kP(l:List Nat):Ve (tx l)=sg l:=by unfold Ve;simp
theorem fork{b1 b2:Bool}{T U C:Prop}(hC:(if b2=true then T else U)→C)(h1:b1=true→b2=true→T)(h2:(b1&&b2)=false→U):if b1=true then C else(if false=true then T else U):=by
 cases b1 with
 |false=>exact QX (QX (h2 rfl))
 |true=>
  refine Q4 (hC ?_)
  cases b2 with
  |false=>exact QX (h2 rfl)
  |true=>exact Q4 (h1 rfl rfl)
noncomputable def stJ(st x:Option Nat):Option Nat:=match st with
 |some s=>some s
 |none=>x
theorem kQ{l fs:List Nat}{c:Nat}(h:ins c=false):1≤(ls true true (c::l) fs).getD (c::l).length:=by
 rw[vJ h rfl]
 cases ls true false l fs<;>simp
section
variable {P:Program}{w:World}{K:PySem.W.Frag}{mg:Str→Option Value}{base:Heap}{f:Addr}{fd:FuncData}{tk:Nat→Tok}{c kr:Nat→Addr}
set_option maxHeartbeats 4000000 in
theorem yc(O:Own mg)(OL:mg "list"=none)(OE:mg "enumerate"=none){cdv:Value}{A:Around}{outer:List Env}{s:Shared}{H:Hp}{E:XK}(hr:Room 1 (A.deeper (envOfC "_law_edit" (Qf QZ) s.heap.objs.size f cdv))):
  ∃u2,PSs (WR (CXE P w) P w K mg base NE "_law_edit" (Qf QZ) f cdv A outer s H E).nox ((QP QZ).drop 9) u2∧
   ∀(D:Ends)(H3:Hp)(y0 y1 y7 y8 y12 y16 y17 y18 y19 y20 y21 y22 y23:Option V)(lead:List Nat)(first:Nat)(W N broken tail figs:List Nat)(a b:Nat)(ls0:Bool)(d:Addr),
    H3 d=some (.dK (mkD ls0))→Ed lead first W N broken tail→(W++N).length≤60→(∀x∈W++N,x<128)→a=bef first W N→b=broken.length→a+b≤11→1≤a→figs.length=a+b→(∀x∈figs,x<128)→
    (∀H',Qz H3 H'→D.rt (.str (tx (lead.map (mkS ls0)++(K09.ji first (W++N) (figs.take a) ls0++(if broken=[]then[]else 46::figs.drop a))++tail.map (mkS ls0)))) H')→
    u2 D [y0,y1,some (tv lead),some (tv [first]),some (tv (W++N)),some (tv broken),some (tv tail),y7,y8,some (.bl (flo first)),some (.int (a:Nat)),some (.int (b:Nat)),y12,some (tv figs),some (.bl ls0),some (.ref d),y16,y17,y18,y19,y20,y21,y22,y23] H3:=by
 have hz:1000≤sizeLine:=by decide
 have hu:=jP hr
 obtain⟨u3,hu2,h2⟩:=yb (P:=P) (w:=w) (K:=K) (base:=base) (f:=f) (outer:=outer) (H:=H) (E:=E) O hr
 refine⟨_,(Qb (wW (i:=19) (j:=20) (k:=21) rfl Qx.nd rfl rfl rfl (by decide) (by decide) (by decide) rfl rfl rfl (Qa (JH Qc) (Qa (Ja (call_list_str rfl) rfl OL PyProof.Rows.boot_list (Qa (Q6 ZK (pv 13) JU (Q7 (pv 10))) Qc)) (Qa J5 Qc))) rfl)
   (Qb (Xr PassesOwn.never rfl (qe rfl OE (Qa (pv 4) Qc)) (Q1 rfl (Qi (Qk (i:=22) Qx.nd rfl (Or.inl rfl)) (Qi (Qk (i:=7) Qx.nd rfl (Or.inl rfl)) QG))) (Qg (QL (Ql Jx (pv 7) Qd (by with_unfolding_all rfl)) (Qg (Z3 (JS PySem.F.plainAttrs_list PySem.F.slot_list_append PySem.F.type_list_append J7 (pv 19) (Qa (QD (Ql Jw (pv 7) Qd (Qp _)) Qd (pv 7)) Qc)))) (Qg (QL (PW.pt (Jp (QY (pv 9) (fun _=>rfl)) (Je (Ql Jw (pv 22) Qh (Qp _))))) (Qg (Z3 (JS PySem.F.plainAttrs_list PySem.F.slot_list_append PySem.F.type_list_append J7 (pv 19) (Qa Qd Qc)))) (Qb (Z3 (JS PySem.F.plainAttrs_list PySem.F.slot_list_append PySem.F.type_list_append J7 (pv 19) (Qa (JS PySem.F.plainAttrs_list PySem.F.slot_list_pop PySem.F.type_list_pop xr (pv 20) (Qa Qh Qc)) Qc)))
   (Qg (QL (PW.pt (Jp (ZJ (XS (pv 21))) (Je (PW.pt (Z0 (Ql Jw (pv 7) Qd (Qp _)) (J6 (Ql Zc (QJ QN (pv 19) (WP Xt Qh) (fun _ _=>rfl)) Qd (Qp _)))))))) (Qg (Qm (i:=21) Qx.nd rfl (Or.inl rfl) (pv 22))) Qy))))))))
   hu2)),?_⟩
 intro D H3 y0 y1 y7 y8 y12 y16 y17 y18 y19 y20 y21 y22 y23 lead first W N broken tail figs a b ls0 d gd Ee hwl hsym ha hb hab ha1 hfl hfa k
 obtain⟨hb1,hb11,hcnt⟩:=Ee.small
 have hwh:=Ee.wh
 have hmw:=Ee.many
 obtain⟨r0,hr0⟩:∃r0,W++N=first::r0:=by
  have:=Ee.zr N
  cases hh:W++N with
  |nil=>rw[hh]at this;cases this
  |cons x r=>rw[hh]at this;exact⟨r,by rw[Option.some.inj this]⟩
 have hpf:=ZZ Ee.f
 have hwt:=Qj (W++N)
 have hft:=Qj figs
 have htk:=Qj (figs.take a)
 have htl2:(figs.take a).length=a:=by rw[List.length_take];omega
 refine⟨by show 0≤sizeLine;omega,fun p hp=>?_⟩
 refine⟨_,rfl,_,rfl,_,rfl,tx figs,rfl,by omega,?_⟩
 rw[Kh figs (by omega)]
 refine⟨tx (figs.take a),rfl,ZY fun x hx=>hfa x (List.mem_of_mem_take hx),by show(tx (figs.take a)).length≤sizeLine;omega,fun r hr2=>⟨_,_,_,rfl,?_⟩⟩
 rw[kP]
 have S1:=Qz.new (o:=.lst []) hp
 have S2:=Qz.new (o:=.lst (sg (figs.take a))) hr2
 have npr:p≠r:=fun z=>by rw[←z,Qe]at hr2;cases hr2
 have gp:upd (upd H3 p (.lst [])) r (.lst (sg (figs.take a))) p=some (.lst (sg [])):=by rw[Qt npr,Qe];rfl
 have gr:upd (upd H3 p (.lst [])) r (.lst (sg (figs.take a))) r=some (.lst (sg (figs.take a))):=Qe
 have S3:=S1.trans S2
 have hr3:H3 r=none:=Y5 S1 hr2
 generalize upd (upd H3 p (.lst [])) r (.lst (sg (figs.take a)))=H4 at S3 gp gr
 have npd:p≠d:=fun z=>by rw[←z,hp]at gd;cases gd
 have nrd:r≠d:=fun z=>by rw[←z,hr3]at gd;cases gd
 generalize hfs:figs.take a=fs at*
 refine⟨_,rfl,tx (W++N),rfl,ZY hsym,YB (z:=tx (W++N)) (fun i σ H5=>∃x7 x22 st done left,σ=[y0,y1,some (tv lead),some (tv [first]),some (tv (W++N)),some (tv broken),some (tv tail),x7,y8,some (.bl (flo first)),some (.int (a:Nat)),some (.int (b:Nat)),y12,some (tv figs),some (.bl ls0),some (.ref d),y16,y17,y18,some (.ref p),some (.ref r),some (sv st),x22,y23]∧
   Qz H3 H5∧H5 p=some (.lst (sg done))∧H5 r=some (.lst (sg left))∧done.length=i∧done++lr (flo first) (decide (i=0)) ((W++N).drop i) left=lr (flo first) true (W++N) fs∧stJ st ((ls (flo first) (decide (i=0)) ((W++N).drop i) left).map (· +i))=ls (flo first) true (W++N) fs∧left.length+(if(flo first&&decide (i=0))=true then 1 else 0)=K09.many ((W++N).drop i))
  ⟨y7,y22,none,[],fs,rfl,S3,gp,gr,rfl,rfl,?_,?_⟩ ?_ ?_⟩
 ·show(ls (flo first) true (W++N) fs).map (· +0)=_
  cases ls (flo first) true (W++N) fs<;>rfl
 ·show fs.length+_=K09.many (W++N)
  rw[hmw,hcnt,htl2,ha]
  cases flo first<;>rfl
 ·rintro i cc σ H5 p2 hx ⟨x7,x22,st,done,left,rfl,S5,g5,gr5,hdl,hrow,hst,hlf⟩ hp2
  have hx':(W++N)[i]? =some cc:=by simpa using hx
  have hi:=(List.getElem?_eq_some_iff.mp hx').1
  have hdr:(W++N).drop i=cc::(W++N).drop (i+1):=by
   rw[List.drop_eq_getElem_cons hi]
   congr 1
   exact(List.getElem?_eq_some_iff.mp hx').2
  rw[hdr]at hrow hst hlf
  have hi1:decide (i+1=0)=false:=by simp
  have np2:p2≠p:=fun z=>by rw[z,g5]at hp2;cases hp2
  have nr2:p2≠r:=fun z=>by rw[z,gr5]at hp2;cases hp2
  have S6:=S5.trans (Qz.new (o:=.tup [.int (i:Nat),.str ⟨#[cc]⟩]) hp2)
  refine⟨p2,_,rfl,SqT.of Qe,rfl,_,_,rfl,_,_,rfl,rfl,?_⟩
  have g6:upd H5 p2 (.tup [.int (i:Nat),.str ⟨#[cc]⟩]) p=some (.lst (sg done)):=by rw[Qt np2.symm];exact g5
  have gr6:upd H5 p2 (.tup [.int (i:Nat),.str ⟨#[cc]⟩]) r=some (.lst (sg left)):=by rw[Qt nr2.symm];exact gr5
  generalize upd H5 p2 (.tup [.int (i:Nat),.str ⟨#[cc]⟩])=H6 at S6 g6 gr6
  rw[show(⟨#[cc]⟩:Str)=tx [cc]from rfl]
  have put:∀(H7:Hp)(v:Nat),Qz H3 H7→Qz H3 (upd H7 p (.lst (sg (done++[v])))):=fun H7 v S x o e=>by
   rw[Qt (Qv e hp)]
   exact S _ _ e
  have putr:∀(H7:Hp)(v:Nat)(lf:List Nat),H7 r=some (.lst (sg lf))→upd H7 p (.lst (sg (done++[v]))) r=some (.lst (sg lf)):=fun H7 v lf e=>by rw[Qt npr.symm];exact e
  have sgap:∀v:Nat,sg done++[.str (tx [v])]=sg (done++[v]):=fun v=>by simp[sg]
  refine⟨_,rfl,_,_,rfl,rfl,_,rfl,?_⟩
  rw[ww,JQ]
  refine ifB (fun zi=>?_) (fun zi=>?_)
  ·have zi':ins cc=true:=zi
   rw[Ws zi']at hrow
   rw[Vj zi']at hst
   rw[JA,if_neg (show ¬ (bes cc=none) by rw[(Kn zi').1];simp),Nat.zero_add]at hlf
   refine⟨_,rfl,.inl ⟨rfl,_,.inl (.inl g6)⟩,_,rfl,rfl,_,rfl,?_⟩
   rw[show("B":Str)=tx [66] by decide+kernel,Q0]
   refine Ju (fun v H'=>v=.str (tx [wn cc])∧H'=H6) (fun z rest=>rest _ _ ⟨by unfold wn;rw[XO,if_pos (of_decide_eq_true z)],rfl⟩) (fun z rest=>⟨_,rfl,rest _ _ ⟨by unfold wn;rw[if_neg (of_decide_eq_false z)],rfl⟩⟩) ?_
   rintro v H' ⟨rfl,rfl⟩
   refine⟨p,_,_,rfl,rfl,g6,by rw[List.length_map];omega,?_⟩
   rw[sgap]
   have h0:¬ ((flo first&&decide (i=0))=true):=fun z=>by
    rw[Bool.and_eq_true]at z
    have hi0:i=0:=of_decide_eq_true z.2
    rw[hi0,List.drop_zero,hr0]at hdr
    have e0:first=cc:=by injection hdr
    rw[←e0,hpf.2.1]at zi'
    cases zi'
   refine⟨_,_,st,done++[wn cc],left,rfl,put _ _ S6,Qe,putr _ _ _ gr6,by rw[List.length_append,hdl];rfl,?_,?_,?_⟩
   ·rw[hi1,List.append_assoc];exact hrow
   ·rw[hi1, ←hst,Option.map_map]
    congr 2
    funext x
    show x+(i+1)=x+1+i
    omega
   ·rw[hi1,Bool.and_false]
    rw[if_neg h0]at hlf
    exact hlf
  ·have zi':ins cc=false:=zi
   have hpl:yi cc:=by
    rcases hwh cc (List.mem_of_getElem? hx')with h|h
    ·exact h
    ·rw[zi']at h;cases h
   have hpb:=ZZ hpl
   rw[JA,if_pos hpb.1]at hlf
   refine⟨_,rfl,flo first,rfl,fork (fun h=>⟨_,rfl,rfl,_,rfl,h⟩) (fun zf z0=>?_) (fun h0=>?_)⟩
   ·rw[Zp]at z0
    have hi0:i=0:=by have:=of_decide_eq_true z0;omega
    subst hi0
    have h0:(flo first&&decide ((0:Nat)=0))=true:=by rw[zf];rfl
    rw[Qaj zi' h0]at hrow
    rw[vJ zi' h0]at hst
    rw[if_pos h0]at hlf
    rw[XO]
    refine⟨_,rfl,.inl ⟨rfl,_,.inl (.inl g6)⟩,p,_,_,rfl,rfl,g6,by rw[List.length_map];omega,?_⟩
    rw[sgap]
    refine⟨_,_,st,done++[32],left,rfl,put _ _ S6,Qe,putr _ _ _ gr6,by rw[List.length_append,hdl];rfl,?_,?_,?_⟩
    ·rw[hi1,List.append_assoc];exact hrow
    ·rw[hi1, ←hst,Option.map_map]
     congr 2
    ·rw[hi1,Bool.and_false]
     show left.length+0=_
     omega
   ·have h0:(flo first&&decide (i=0))=false:=by
     have e:decide (V.int (i:Nat)=V.int 0)=decide (i=0):=by
      rw[Zp]
      by_cases q:i=0
      ·rw[decide_eq_true q,decide_eq_true (by omega)]
      ·rw[decide_eq_false q,decide_eq_false (by omega)]
     rw[←e]
     exact h0
    rw[UA zi' h0]at hrow
    rw[UB zi' h0]at hst
    rw[h0]at hlf
    obtain⟨g,lf,rfl⟩:∃g lf,left=g::lf:=by
     cases left with
     |nil=>simp at hlf;omega
     |cons g lf=>exact⟨g,lf,rfl⟩
    have hix:seqIndex? 0 (sg (g::lf)).length=some 0:=by
     unfold seqIndex?
     simp
    refine⟨_,rfl,.inl ⟨rfl,_,.inl (.inl g6)⟩,_,rfl,.inl ⟨rfl,_,.inl (.inl gr6)⟩,r,_,0,0,.str (tx [g]),rfl,rfl,gr6,by decide,by decide,hix,rfl,p,_,_,rfl,rfl,by rw[Qt npr];exact g6,by rw[List.length_map];omega,?_⟩
    rw[sgap]
    have er:(sg (g::lf)).eraseIdx 0=sg lf:=rfl
    rw[er]
    have S7:Qz H3 (upd H6 r (.lst (sg lf))):=fun x o e=>by
     rw[Qt (Qv e hr3)]
     exact S6 _ _ e
    have S8:=put _ g S7
    have g8:upd (upd H6 r (.lst (sg lf))) p (.lst (sg (done++[g]))) p=some (.lst (sg (done++[g]))):=Qe
    have gr8:=putr (upd H6 r (.lst (sg lf))) g lf Qe
    generalize upd (upd H6 r (.lst (sg lf))) p (.lst (sg (done++[g])))=H8 at S8 g8 gr8
    have hrow2:done++[g]++lr (flo first) false ((W++N).drop (i+1)) lf=lr (flo first) true (W++N) fs:=by rw[List.append_assoc];exact hrow
    have hlf2:lf.length+0=K09.many ((W++N).drop (i+1)):=by
     have:(g::lf).length+0=1+K09.many ((W++N).drop (i+1)):=hlf
     rw[List.length_cons]at this
     omega
    have hd2:(done++[g]).length=i+1:=by rw[List.length_append,hdl];rfl
    have hst:stJ st ((if cc=57∨g≠48 then some 0 else(ls (flo first) false ((W++N).drop (i+1)) lf).map (· +1)).map (· +i))=ls (flo first) true (W++N) fs:=hst
    have mm:((ls (flo first) false ((W++N).drop (i+1)) lf).map (· +1)).map (· +i)=(ls (flo first) false ((W++N).drop (i+1)) lf).map (· +(i+1)):=by
     rw[Option.map_map]
     congr 1
     funext x
     show x+1+i=x+(i+1)
     omega
    refine⟨_,rfl,_,rfl,?_⟩
    cases st with
    |some s0=>
     refine QX (QX ⟨_,_,some s0,done++[g],lf,rfl,S8,g8,gr8,hd2,by rw[hi1];exact hrow2,by rw[←hst];rfl,by rw[hi1,Bool.and_false];exact hlf2⟩)
    |none=>
     have yes:(cc=57∨g≠48)→ls (flo first) true (W++N) fs=some i:=fun h=>by
      rw[←hst,if_pos h]
      show some (0+i)=_
      rw[Nat.zero_add]
     have no:¬ (cc=57∨g≠48)→stJ none ((ls (flo first) false ((W++N).drop (i+1)) lf).map (· +(i+1)))=ls (flo first) true (W++N) fs:=fun h=>by
      rw[←hst,if_neg h,mm]
     refine Q4 ⟨_,rfl,rfl,_,rfl,?_⟩
     rw[YW,Q0]
     by_cases h9:cc=57
     ·rw[decide_eq_true h9]
      refine Q4 (Q4 ⟨_,rfl,_,_,some i,done++[g],lf,rfl,S8,g8,gr8,hd2,by rw[hi1];exact hrow2,by rw[yes (.inl h9)];rfl,by rw[hi1,Bool.and_false];exact hlf2⟩)
     ·rw[decide_eq_false h9]
      refine QX ⟨_,rfl,_,rfl,p,_,_,.str (tx [g]),rfl,rfl,SqL.of g8,by rw[←sgap];exact KP _ _,rfl,_,rfl,?_⟩
      rw[Vn,Q0]
      by_cases h48:g=48
      ·rw[decide_eq_true h48]
       exact QX ⟨_,_,none,done++[g],lf,rfl,S8,g8,gr8,hd2,by rw[hi1];exact hrow2,by rw[hi1];exact no (fun z=>z.elim h9 (fun q=>q h48)),by rw[hi1,Bool.and_false];exact hlf2⟩
      ·rw[decide_eq_false h48]
       exact Q4 ⟨_,rfl,_,_,some i,done++[g],lf,rfl,S8,g8,gr8,hd2,by rw[hi1];exact hrow2,by rw[yes (.inr h48)];rfl,by rw[hi1,Bool.and_false];exact hlf2⟩
 ·rintro σ H5 ⟨x7,x22,st,done,left,rfl,S5,g5,gr5,hdl,hrow,hst,hlf⟩
  have hsz:(tx (W++N)).cps.size=(W++N).length:=by simp
  rw[hsz]at hdl hrow hst
  rw[List.drop_of_length_le (Nat.le_refl _)]at hrow hst
  have hd1:done=lr (flo first) true (W++N) fs:=by rw[←hrow];simp[lr]
  have hs1:st=ls (flo first) true (W++N) fs:=by rw[←hst];cases st<;>rfl
  have hstop:st.getD done.length=X7 first (W++N) fs:=by unfold X7;rw[hs1,hdl]
  have hgd:H5 d=some (.dK (mkD ls0)):=S5 _ _ gd
  refine h2 D H5 y0 y1 (some (tv (W++N))) x7 y8 y12 y16 y17 y18 (some (.ref r)) x22 y23 lead first broken tail figs done a b ls0 d p st hgd g5 (by omega) ?_ (fun zf=>?_) Ee.ld Ee.tl hfl hb (by omega) fun H' S'=>?_
  ·rw[hdl,hs1]
   exact vK _ _ _ _
  ·rw[hdl,hs1,hr0,zf]
   exact kQ hpf.2.1
  ·rw[hstop]
   have e:wz first done (X7 first (W++N) fs) ls0=K09.ji first (W++N) fs ls0:=by rw[hd1];rfl
   rw[e]
   exact k _ (S5.trans S')
end
end Lw
set_option Elab.async false
set_option linter.all false
set_option maxRecDepth 100000
namespace Lw
open PySem PySem.Spec PyProof.Rows L2 K02 K04 K15 K09
open Builtin Builtin.Str StrLaws
theorem e_Z:("Z":Str)=tx [90]:=by decide+kernel
section
variable {P:Program}{w:World}{K:PySem.W.Frag}{mg:Str→Option Value}{base:Heap}{f:Addr}{fd:FuncData}{tk:Nat→Tok}{c kr:Nat→Addr}
set_option maxHeartbeats 4000000 in
theorem yd(O:Own mg)(OL:mg "list"=none)(OE:mg "enumerate"=none)(D__law_line:Def P w K mg base 1 "_law_line" ["_law_parts"] (Y3 K)){cdv:Value}{A:Around}{outer:List Env}{s:Shared}{H:Hp}{E:XK}(hr:Room 1 (A.deeper (envOfC "_law_edit" (Qf QZ) s.heap.objs.size f cdv))):
  ∃u2,PSs (WR (CXE P w) P w K mg base NE "_law_edit" (Qf QZ) f cdv A outer s H E).nox ((QP QZ).drop 8) u2∧
   ∀(D:Ends)(H3:Hp)(q d:Addr)(y1 y8 y12:Option V)(lead:List Nat)(first:Nat)(W N broken tail figs:List Nat)(a b:Nat)(ls0:Bool)(Y:Nat),
    SqT K H3 q [tv lead,tv [first],tv (W++N),tv broken,tv tail]→H3 d=some (.dK (mkD ls0))→Ed lead first W N broken tail→lead.length+(W.length+N.length)+broken.length+tail.length≤60→(∀x∈W++N,x<128)→a=bef first W N→b=broken.length→a+b≤11→1≤a→figs.length=a+b→(∀x∈figs,x<128)→NumText.AllDigits figs→NumText.digitsVal figs=Y→
    (∀H',Qz H3 H'→D.rt (.str (tx (if 57∉W++N++broken∧flo first=false∧Y=0 then K09.Y7 lead first W N broken tail else lead.map (mkS ls0)++(K09.ji first (W++N) (figs.take a) ls0++(if broken=[]then[]else 46::figs.drop a))++tail.map (mkS ls0)))) H')→
    u2 D [some (.ref q),y1,some (tv lead),some (tv [first]),some (tv (W++N)),some (tv broken),some (tv tail),none,y8,some (.bl (flo first)),some (.int (a:Nat)),some (.int (b:Nat)),y12,some (tv figs),some (.bl ls0),some (.ref d),none,none,none,none,none,none,none,none] H3:=by
 have hz:1000≤sizeLine:=by decide
 have hu:=jP hr
 obtain⟨u3,hu2,h2⟩:=yc (P:=P) (w:=w) (K:=K) (base:=base) (f:=f) (outer:=outer) (H:=H) (E:=E) O OL OE hr
 refine⟨_,(Qb (QL (PW.pt (Jp (Ql Q9 Qd (Qn Qo (pv 4) (pv 5)) (by with_unfolding_all rfl)) (Jp (W4 (QY (pv 9) (fun _=>rfl))) (Je (Ql Jw (JS PySem.F.plainAttrs_str PySem.F.slot_str_strip PySem.F.type_str_strip X2 (pv 13) (Qa Qd Qc)) Qd (Qp _)))))) (Qb (Qm (i:=16) Qx.nd rfl (Or.inl rfl) (Qq Jb rfl O.len PySem.boot_len (Qa (D__law_line.pe hr (by decide) rfl Qw (Qa (pv 0) Qc)) Qc)))
   (Qb (Qm (i:=17) Qx.nd rfl (Or.inl rfl) (Qq Jb rfl O.len PySem.boot_len (Qa (Qn Qo (pv 2) (pv 4)) Qc)))
   (Qb (Qm (i:=18) Qx.nd rfl (Or.inl rfl) (Qn Qo (Qn QB Qd (pv 17)) (QD (Ql Wa (pv 11) Qh (Qp _)) (Qn Qo Qd (Qn QB Qd (Qn Zh (Qn Zh (pv 16) (pv 17)) Qh))) (Qn QB Qd (Qn Zh (pv 16) (pv 17))))))
   (Qg (Qs (QD (Ql Jw (pv 3) Qd (Qp _)) (Qn QB Qd (pv 16)) (pv 18))))))) Qy)
   hu2),?_⟩
 intro D H3 q d y1 y8 y12 lead first W N broken tail figs a b ls0 Y sq gd Ee hl hsym hA hB hab ha1 hplen hpasc hpdig hpval k
 have hwl:(W++N).length≤60:=by rw[List.length_append];omega
 have hwt:=Qj (W++N)
 have hbt:=Qj broken
 have hft:=Qj figs
 have hline:∀x∈QS lead W N broken tail,x<128:=fun x hx=>V2 x (Ee.sym x hx)
 have hll:=V3 (lead:=lead) (W:=W) (N:=N) (broken:=broken) (tail:=tail) (by omega)
 have hlt:=Qj (QS lead W N broken tail)
 have hldt:=Qj lead
 have hah:(lead++(W++N)).length≤(QS lead W N broken tail).length:=by unfold QS;simp only[List.length_append];omega
 have hahl:(tx (lead++(W++N))).length=(lead++(W++N)).length:=Qj _
 try dsimp only[JD,KL,K6]
 refine Jv (fun σ' H4=>σ'=[some (.ref q),y1,some (tv lead),some (tv [first]),some (tv (W++N)),some (tv broken),some (tv tail),none,y8,some (.bl (flo first)),some (.int (a:Nat)),some (.int (b:Nat)),y12,some (tv figs),some (.bl ls0),some (.ref d),none,none,none,none,none,none,none,none]∧H4=H3∧¬ (57∉W++N++broken∧flo first=false∧Y=0)) ?_ (fun rest=>?_)
 rotate_left
 ·refine⟨_,rfl,_,rfl,_,_,rfl,rfl,by rw[hwt,hbt];omega,_,_,rfl,rfl,_,rfl,?_⟩
  rw[QM,YW,JQ]
  refine ifB (fun z9=>?_) (fun z9=>QX (rest _ _ ⟨rfl,rfl,fun z=>z.1 (List.contains_iff_mem.mp (by cases q:(W++N++broken).contains 57;rw[q]at z9;cases z9;rfl))⟩))
  refine⟨_,rfl,flo first,rfl,?_⟩
  refine ifB (fun zf=>?_) (fun zf=>QX (rest _ _ ⟨rfl,rfl,fun z=>by rw[z.2.1]at zf;cases zf⟩))
  refine⟨_,rfl,rfl,tx figs,tx [48],rfl,rfl,by show(tx figs).length≤sizeLine;omega,rfl,_,rfl,?_⟩
  rw[←Vn,Km hpdig,hpval]
  refine ifB (fun z0=>?_) (fun z0=>rest _ _ ⟨rfl,rfl,fun z=>absurd z.2.2 (of_decide_eq_false z0)⟩)
  have h9:57∉W++N++broken:=fun z=>by rw[List.contains_iff_mem.mpr z]at z9;cases z9
  have hfl:flo first=false:=by simpa using zf
  have hf0:Y=0:=of_decide_eq_true z0
  rw[if_pos ⟨h9,hfl,hf0⟩]at k
  unfold K09.Y7 at k
  refine⟨_,rfl,q,lead,[first],W,N,broken,tail,rfl,sq,by omega,_,rfl,by omega,?_⟩
  refine⟨_,rfl,_,rfl,_,_,rfl,rfl,by rw[hldt,hwt];omega,?_⟩
  rw[QM]
  refine⟨_,rfl,by rw[hahl];omega,?_⟩
  rw[hlt,hahl,qu]
  generalize hsz:(QS lead W N broken tail).length=sz at*
  generalize hahd:(lead++(W++N)).length=ah at*
  refine⟨_,rfl,tx [42],(ah:Int),rfl,rfl,by omega,by rw[Qj,Int.toNat_natCast,List.length_singleton];omega,by omega,?_⟩
  rw[Int.toNat_natCast,Zj]
  refine⟨_,rfl,_,_,rfl,rfl,_,rfl,?_⟩
  refine Ju (fun v H5=>v=.str (tx (if broken=[]then List.replicate (sz-ah) 42 else 46::List.replicate (sz-ah-1) 42))∧H5=H3) (fun z rest=>?_) (fun z rest=>?_) ?_
  ·have hb0:broken≠[]:=fun e=>by rw[e]at hB;have:=of_decide_eq_true z;simp at hB;omega
   have h1:ah+1≤sz:=by
    rw[←hsz, ←hahd]
    unfold QS Qr
    rw[if_neg hb0]
    simp only[List.length_append,List.length_cons]
    omega
   refine⟨_,rfl,_,rfl,_,_,rfl,rfl,_,_,rfl,rfl,tx [42],(sz:Int)-(ah:Int)-1,rfl,rfl,by omega,by rw[Qj,List.length_singleton];omega,by omega,?_⟩
   rw[Zj,Qbu]
   refine⟨_,_,rfl,rfl,by rw[Qj,Qj,List.length_replicate,List.length_singleton];omega,?_⟩
   rw[QM,show((sz:Int)-(ah:Int)-1).toNat=sz-ah-1 by omega]
   exact rest _ _ ⟨by rw[if_neg hb0];rfl,rfl⟩
  ·have hb0:broken=[]:=by
    have:=of_decide_eq_false z
    have h0:b=0:=by omega
    rw[h0]at hB
    exact List.length_eq_zero_iff.mp hB.symm
   refine⟨_,rfl,_,rfl,_,_,rfl,rfl,tx [42],(sz:Int)-(ah:Int),rfl,rfl,by omega,by rw[Qj,List.length_singleton];omega,by omega,?_⟩
   rw[Zj,show((sz:Int)-(ah:Int)).toNat=sz-ah by omega]
   exact rest _ _ ⟨by rw[if_pos hb0],rfl⟩
  rintro v H5 ⟨rfl,rfl⟩
  have hbr:(if broken=[]then List.replicate (sz-ah) 42 else 46::List.replicate (sz-ah-1) 42).length≤200:=by split<;>simp<;>omega
  refine⟨_,_,rfl,rfl,by rw[Qj,Qj,List.length_replicate];omega,?_⟩
  rw[QM]
  refine⟨_,rfl,rfl,_,rfl,?_⟩
  rw[e_Z,Q0]
  by_cases hfz:first=90
  ·rw[decide_eq_true hfz]
   rw[if_pos hfz]at k
   rw[XO]
   refine Q4 ⟨_,rfl,tx [32],(sz:Int),rfl,rfl,by omega,by rw[Qj,Int.toNat_natCast,List.length_singleton];omega,by omega,?_⟩
   rw[Int.toNat_natCast,Zj]
   exact k _ (Qz.refl _)
  ·rw[decide_eq_false hfz]
   rw[if_neg hfz]at k
   exact QX ⟨_,rfl,k _ (Qz.refl _)⟩
 rintro σ' H4 ⟨rfl,rfl,hn⟩
 rw[if_neg hn]at k
 exact h2 _ _ _ _ _ _ _ _ _ _ _ _ _ _ _ lead first W N broken tail figs a b ls0 d gd Ee hwl hsym hA hB hab ha1 hplen hpasc k
end
end Lw
set_option Elab.async false
set_option linter.all false
set_option maxRecDepth 100000
namespace Lw
open PySem PySem.Spec PyProof.Rows L2 K02 K04 K15 K09
open Builtin Builtin.Str StrLaws
noncomputable def okp(c:Nat):Bool:=([57,90,42,43,45,36]:List Nat).contains c
theorem kT:∀{l:List Nat},Wh l→(l.filter okp).length=many l:=by
 intro l
 induction l with
 |nil=>intro _;rfl
 |cons c r ih=>
  intro h
  have hr:=ih fun x hx=>h x (List.mem_cons_of_mem _ hx)
  rw[JA,List.filter_cons]
  rcases h c List.mem_cons_self with hp|hi
  ·rw[if_pos (show okp c=true from List.contains_iff_mem.mpr hp),if_pos (ZZ hp).1,List.length_cons,hr]
   omega
  ·have:okp c=false:=by
    cases q:okp c with
    |false=>rfl
    |true=>have:=(ZZ (List.contains_iff_mem.mp q)).2.1;rw[hi]at this;cases this
   rw[if_neg (by rw[this];decide),if_neg (by rw[(Kn hi).1];simp),hr,Nat.zero_add]
theorem QbI:("9Z*+-$":Str)=tx [57,90,42,43,45,36]:=by decide+kernel
section
variable {P:Program}{w:World}{K:PySem.W.Frag}{mg:Str→Option Value}{base:Heap}{f:Addr}{fd:FuncData}{tk:Nat→Tok}{c kr:Nat→Addr}
noncomputable def UU(K:PySem.W.Frag):Sp:=fun vs H Q _=>∃(q pa:Addr)(lead:List Nat)(first:Nat)(W N broken tail:List Nat)(u:Int)(o:Nat),vs=[.ref q,.ref pa]∧SqT K H q [tv lead,tv [first],tv (W++N),tv broken,tv tail]∧SqT K H pa [.int u,.int (o:Nat)]∧Ed lead first W N broken tail∧lead.length+(W.length+N.length)+broken.length+tail.length≤60∧u.natAbs<10^13∧o≤18∧
 ∀H',Qz H H'→Q (.str (tx (edT lead (W++N++Qr broken) tail (fit u o (bef first W N) broken.length)))) H'
set_option maxHeartbeats 8000000 in
theorem Y6(F:Fun K "_law_edit" "_law_edit" QZ f fd)(O:Own mg)(OL:mg "list"=none)(OE:mg "enumerate"=none)(D__law_line:Def P w K mg base 1 "_law_line" ["_law_parts"] (Y3 K)):
  FnOk P w K mg base (CXE P w) 2 f fd ["_law_parts","_law_amount_here"] (UU K):=by
 refine okN F Qx (fun vs H Q E h=>?_) (fun cdv A outer s H vs Q E hr h=>?_)
 ·obtain⟨q,pa,lead,first,W,N,broken,tail,u,o,rfl,_⟩:=h
  rfl
 ·obtain⟨q,pa,lead,first,W,N,broken,tail,u,o,rfl,sq,sa,Ee,hl,hu13,ho,k⟩:=h
  have hz:1000≤sizeLine:=by decide
  have hu:=jP hr
  obtain⟨hb1,hb11,hcnt⟩:=Ee.small
  have hwh:=Ee.wh
  have hsym:∀y∈W++N,y<128:=fun y hy=>V2 y (Ee.sym y (by rw[Y0];exact List.mem_append_left _ (List.mem_append_right _ (List.mem_append_left _ hy))))
  have hwl:(W++N).length≤60:=by rw[List.length_append];omega
  have hwt:=Qj (W++N)
  obtain⟨u2,hu2,h2⟩:=yd (P:=P) (w:=w) (K:=K) (base:=base) (f:=f) (outer:=outer) (H:=H) (E:=E) O OL OE D__law_line hr
  refine⟨_,(Qb (Jf (pv 0) (Q1 rfl (Qi (Qk (i:=2) Qx.nd rfl (Or.inl rfl)) (Qi (Qk (i:=3) Qx.nd rfl (Or.inl rfl)) (Qi (Qk (i:=4) Qx.nd rfl (Or.inl rfl)) (Qi (Qk (i:=5) Qx.nd rfl (Or.inl rfl)) (Qi (Qk (i:=6) Qx.nd rfl (Or.inl rfl)) QG)))))))
   (Qb (qc (NB:=[".0","_law_symbol"]) (iy:=8) rfl ⟨rfl,by decide+kernel,by decide+kernel,by decide+kernel⟩ (Vd (pv 4)) (fun _ _ _=>(Qk (i:=1) (show([".0","_law_symbol"]:List Str).Nodup by decide+kernel) rfl (Or.inl rfl))) (fun _ _ _=>(Vw (Ql Jx (pv 1) Qd (by with_unfolding_all rfl)))) (fun _ _ _=>(pv 1)) Qx.nd rfl (Or.inl rfl) rfl)
   (Qb (Qm (i:=9) Qx.nd rfl (Or.inl rfl) (Jy Jx (pv 3) Qd (by with_unfolding_all rfl)))
   (Qb (jp (i:=10) (j:=11) rfl Qx.nd rfl rfl (by decide) rfl rfl (Qa (Qn Zh (Qq QF rfl O.len PySem.boot_len (Qa (pv 8) Qc)) (QD (QY (pv 9) (fun _=>rfl)) Qh Qh)) (Qa (Qq Jb rfl O.len PySem.boot_len (Qa (pv 5) Qc)) Qc)) rfl)
   (Qb (Qm (i:=12) Qx.nd rfl (Or.inl rfl) (Qn KS (Qn Z8 (Qq J3 rfl O.abs PyProof.Rows.boot_abs (Qa (QJ Jq (pv 1) Qh (fun _ _=>rfl)) Qc)) (Ja Jj rfl O.int PyProof.Rows.boot_int (Qa (Qn Qo Qd (Qn QB Qd (pv 11))) Qc))) (Ja Jj rfl O.int PyProof.Rows.boot_int (Qa (Qn Qo Qd (Qn QB Qd (QJ Jq (pv 1) Qh (fun _ _=>rfl)))) Qc))))
   (Qb (Qm (i:=13) Qx.nd rfl (Or.inl rfl) (Q6 ZK (Qn Qo (Qn QB Qd (Qn QT (pv 10) (pv 11))) (Ja JP rfl O.str PyProof.Rows.boot_str (Qa (pv 12) Qc))) (Q7 (Qn Zh (Qn Zh Qh (pv 10)) (pv 11))) JU))
   (Qb (Qm (i:=14) Qx.nd rfl (Or.inl rfl) (UY (Jy Xz (QJ Jq (pv 1) Qh (fun _ _=>rfl)) Qh (Qp _)) (UX (Jy Zc (JS PySem.F.plainAttrs_str PySem.F.slot_str_strip PySem.F.type_str_strip X2 (pv 13) (Qa Qd Qc)) Qd (Qp _)))))
   (Qb (Qm (i:=15) Qx.nd rfl (Or.inr rfl) (jM (Xl Qd (QD (QY (pv 14) (fun _=>rfl)) Qd Qd) (Xl Qd (QD (QY (pv 14) (fun _=>rfl)) Qd Qd) (Xl Qd Qd (Xl Qd Qd jL)))) rfl rfl (List.cons_ne_nil _ _) (Nat.le_of_ble_eq_true rfl)))
   hu2)))))))),?_⟩
  refine⟨_,rfl,q,_,rfl,sq,rfl,_,_,rfl,_,_,rfl,_,_,rfl,_,_,rfl,_,_,rfl,rfl,?_⟩
  dsimp only[JD,KL,K6]
  refine VD (z:=tx (W++N)) (fun m vs H2=>vs=sg (((W++N).take m).filter okp)∧H2=H) (fun R h=>⟨_,rfl,h⟩) (ZY hsym) ⟨rfl,rfl⟩ (fun m vs H hm⟨e,_⟩=>?_) ?_ ?_ (by show(tx (W++N)).length<sizeLine;omega)
  ·rw[e,List.length_map]
   exact Nat.le_trans (List.length_filter_le _ _) (by rw[List.length_take];omega)
  ·rintro m cc vs H1 hx ⟨rfl,rfl⟩
   have hx':(W++N)[m]? =some cc:=by simpa using hx
   have htk:(W++N).take (m+1)=(W++N).take m++[cc]:=by rw[List.take_add_one,hx'];rfl
   rw[show(⟨#[cc]⟩:Str)=tx [cc]from rfl]
   refine⟨_,rfl,_,_,rfl,rfl,_,rfl,?_⟩
   rw[QbI,JQ,htk,List.filter_append]
   cases hn:([57,90,42,43,45,36]:List Nat).contains cc with
   |true=>
    refine Q4 ⟨_,rfl,?_,rfl⟩
    rw[List.filter_cons,if_pos (show okp cc=true from hn)]
    simp[sg]
   |false=>
    refine QX ⟨?_,rfl⟩
    rw[List.filter_cons,if_neg (by rw[show okp cc=false from hn];decide)]
    simp[sg]
  rintro vs H1' ⟨rfl,rfl⟩ p8 hp8
  rw[List.take_of_length_le (show(W++N).length≤(tx (W++N)).cps.size by simp)]
  have S1:=Qz.new (o:=.lst (sg ((W++N).filter okp))) hp8
  have g8:upd H1' p8 (.lst (sg ((W++N).filter okp))) p8=some (.lst (sg ((W++N).filter okp))):=Qe
  generalize upd H1' p8 (.lst (sg ((W++N).filter okp)))=H1 at S1 g8
  replace sq:=sq.same S1
  replace sa:=sa.same S1
  refine⟨_,rfl,_,_,rfl,rfl,?_⟩
  rw[UK,JQ]
  rw[show([43,45,36]:List Nat).contains first=flo first from rfl]
  refine⟨_,rfl,p8,_,rfl,.inl (SqL.of g8),_,rfl,flo first,rfl,?_⟩
  refine Ju (fun v H'=>v=.int (if flo first=true then 1 else 0)∧H'=H1) (fun z rest=>rest _ _ ⟨by rw[if_pos z],rfl⟩) (fun z rest=>rest _ _ ⟨by rw[if_neg (by rw[z];decide)],rfl⟩) ?_
  rintro v H' ⟨rfl,rfl⟩
  have hbt:=Qj broken
  refine⟨_,_,rfl,rfl,_,rfl,tx broken,rfl,by omega,_,_,rfl,?_⟩
  have hbe:((sg ((W++N).filter okp)).length:Int)-(if flo first=true then 1 else 0)=((bef first W N:Nat):Int):=by
   rw[List.length_map,kT hwh,Ee.many,hcnt]
   split<;>omega
  dsimp only
  rw[hbe,hbt]
  generalize hA:bef first W N=a at*
  generalize hB:broken.length=b at*
  obtain⟨f1,f2,f3,f4⟩:=K3 b (by omega)
  obtain⟨g1,g2,g3,g4⟩:=K3 o (by omega)
  have hum:u.natAbs*10^b<2^100:=by
   have h1:10^b≤10^11:=Nat.pow_le_pow_right (by decide) (by omega)
   calc u.natAbs*10^b≤10^13*10^11:=Nat.mul_le_mul (Nat.le_of_lt hu13) h1
    _<2^100:=by decide
  have hpo:10^o<2^200:=Nat.lt_of_le_of_lt (Nat.pow_le_pow_right (by decide) ho) (by decide)
  have hpb:10^b<2^200:=Nat.lt_of_le_of_lt (Nat.pow_le_pow_right (by decide) (show b≤18 by omega)) (by decide)
  have c1:(((10:Int)^b))=((10^b:Nat):Int):=by push_cast;rfl
  have c2:(((10:Int)^o))=((10^o:Nat):Int):=by push_cast;rfl
  have hX:((if u<0 then-u else u)*(10:Int)^b)/(10:Int)^o=((u.natAbs*10^b/10^o:Nat):Int):=by
   rw[V5,c1,c2]
   push_cast
   rfl
  refine⟨_,rfl,pa,_,_,_,rfl,rfl,sa,rfl,u,rfl,_,rfl,"0",(b:Int),rfl,rfl,by omega,by rw[Int.toNat_natCast];exact f4,by omega,?_⟩
  rw[Int.toNat_natCast]
  refine⟨_,_,rfl,rfl,f3,_,_,rfl,f1,f2,_,_,rfl,rfl,⟨?_,?_⟩,?_⟩
  ·rw[V5,Int.natAbs_natCast];exact Nat.lt_trans (Nat.lt_trans hu13 (by decide)) (show 2^200<2^2000 by decide)
  ·rw[c1,Int.natAbs_natCast];exact Nat.lt_trans hpb (by decide)
  refine⟨_,rfl,pa,_,_,_,rfl,rfl,sa,rfl,"0",(o:Int),rfl,rfl,by omega,by rw[Int.toNat_natCast];exact g4,by omega,?_⟩
  rw[Int.toNat_natCast]
  refine⟨_,_,rfl,rfl,g3,_,_,rfl,g1,g2,_,_,rfl,rfl,⟨?_,?_⟩,?_⟩
  ·rw[c2];exact_mod_cast Nat.pow_pos (by decide)
  ·rw[c2,Int.natAbs_natCast];exact Nat.lt_trans hpo (by decide)
  dsimp only
  rw[hX]
  obtain⟨q1,q2⟩:=wy u (o:=o) (a:=a) (b:=b) ho (by omega)
  have hXlt:u.natAbs*10^b/10^o<2^100:=Nat.lt_of_le_of_lt (Nat.div_le_self _ _) hum
  have hlaw:=Ee.law (f:=fit u o a b) (by omega) (by rw[hA,hB];exact zJ u o a b)
  rw[hA,hB]at hlaw
  rw[hlaw]at k
  clear hlaw
  generalize fit u o a b=ft at*
  generalize u.natAbs*10^b/10^o=X at q1 q2 hXlt
  have hdl:=VC hXlt
  have htd:=Qj (dec X)
  have ecast:((a:Nat):Int)+((b:Nat):Int)=((a+b:Nat):Int):=by omega
  have eneg:(0:Int)-(a:Nat)-(b:Nat)= -((a+b:Nat):Int):=by omega
  have hab1:1≤a+b:=by omega
  refine⟨_,rfl,_,rfl,_,_,rfl,rfl,"0",((a:Nat):Int)+((b:Nat):Int),rfl,rfl,by omega,?_,by omega,?_⟩
  ·rw[ecast,Int.toNat_natCast,Vn,Qj]
   simp
   omega
  rw[ecast,Int.toNat_natCast,Vn,Zj]
  refine⟨_,rfl,_,rfl,?_,?_⟩
  ·rw[Int.natAbs_natCast]
   by_cases h0:X=0
   ·rw[h0];decide
   ·exact(Nat.log2_lt h0).mpr (Nat.lt_trans hXlt (by decide))
  rw[K02.Z4]
  refine⟨_,_,rfl,rfl,by rw[Qj,htd,List.length_replicate];omega,?_⟩
  rw[QM]
  refine⟨_,rfl,_,_,rfl,rfl,_,rfl,_,_,rfl,rfl,_,rfl,_,rfl,by rw[Qj,List.length_append,List.length_replicate];omega,?_⟩
  rw[eneg,KF _ hab1,qh X hab1, ←q1]
  have hm:ft.natAbs<10^(a+b):=by rw[q1];exact Nat.mod_lt _ (Nat.pow_pos (by decide))
  have hplen:=Kl hm hab1
  have hpdig:=Wr ft.natAbs (a+b)
  have hpval:=Uw ft.natAbs (a+b)
  have hpasc:=vZ ft.natAbs (a+b)
  rw[←q1]at q2
  generalize pad ft.natAbs (a+b)=figs at*
  have hft:=Qj figs
  dsimp only[JD,KL,K6]
  refine z4 (fun v H2=>v=.bl (decide (ft<0))∧H2=H') ?_ (fun rest=>?_)
  rotate_left
  ·refine⟨_,rfl,pa,_,_,_,rfl,rfl,sa,rfl,_,_,rfl,rfl,_,rfl,?_⟩
   by_cases hun:u<0
   ·rw[decide_eq_true hun]
    refine Q4 ⟨_,rfl,rfl,tx figs,tx [48],rfl,rfl,by show(tx figs).length≤sizeLine;omega,rfl,?_⟩
    rw[←Vn,Km hpdig,hpval]
    refine rest _ _ ⟨?_,rfl⟩
    congr 1
    by_cases hY:ft.natAbs=0
    ·rw[decide_eq_true hY,decide_eq_false (fun z=>(q2.mp z).2 hY)];rfl
    ·rw[decide_eq_false hY,decide_eq_true (q2.mpr ⟨hun,hY⟩)];rfl
   ·rw[decide_eq_false hun]
    exact QX (rest _ _ ⟨by rw[decide_eq_false (fun z=>hun (q2.mp z).1)],rfl⟩)
  rintro v H2 ⟨rfl,rfl⟩
  generalize hls:decide (ft<0)=ls0 at*
  intro d hd
  dsimp only[U5]
  refine⟨_,rfl,ls0,rfl,?_⟩
  refine Ju (fun v H3=>v=.str (tx [mkS ls0 43])∧H3=upd H2 d (.dK [])) (fun z rest=>rest _ _ ⟨by rw[z];rfl,rfl⟩) (fun z rest=>rest _ _ ⟨by rw[z];rfl,rfl⟩) ?_
  rintro v H3 ⟨rfl,rfl⟩
  refine⟨_,rfl,ls0,rfl,?_⟩
  refine Ju (fun v H3=>v=.str (tx [mkS ls0 45])∧H3=upd H2 d (.dK [])) (fun z rest=>rest _ _ ⟨by rw[z];rfl,rfl⟩) (fun z rest=>rest _ _ ⟨by rw[z];rfl,rfl⟩) ?_
  rintro v H3 ⟨rfl,rfl⟩
  refine⟨Qe,mkD ls0,rfl,Nat.le_of_ble_eq_true rfl,?_⟩
  rw[z5]
  have S3:Qz H2 (upd (upd H2 d (.dK [])) d (.dK (mkD ls0))):=fun b o e=>by
   have hb:=Qv e hd
   rw[Qt hb,Qt hb]
   exact e
  have gd:upd (upd H2 d (.dK [])) d (.dK (mkD ls0)) d=some (.dK (mkD ls0)):=Qe
  generalize upd (upd H2 d (.dK [])) d (.dK (mkD ls0))=H3 at S3 gd
  replace sq:=sq.same S3
  have S13:=S1.trans S3
  exact h2 _ _ q d _ _ _ lead first W N broken tail figs a b ls0 ft.natAbs sq gd Ee (by rw[hB];exact hl) hsym hA.symm hB.symm (by omega) (by omega) hplen hpasc hpdig hpval fun H' S'=>by
   have e:(57∉W++N++broken∧flo first=false∧ft.natAbs=0)↔(57∉W++N++broken∧flo first=false∧ft=0):=by rw[Int.natAbs_eq_zero]
   have:=k _ (S13.trans S')
   simp only[e]
   exact this
end
end Lw
set_option Elab.async false
set_option linter.all false
set_option maxRecDepth 100000
namespace K19
open K02 K04 K15 K09 PySem.NumText
theorem z7{X n:Nat}(h:1≤n):(dec X).length≤n↔X<10^n:=by
 refine⟨fun z=>?_,fun z=>dec_lt z h⟩
 have h1:=j6 (Wn X)
 rw[VB]at h1
 exact Nat.lt_of_lt_of_le h1 (Nat.pow_le_pow_right (by decide) z)
theorem z8:∀(s:Bool)(a:Nat),a<6→∀b:Nat,b<4→cont s a b 0 (0:Nat)=List.replicate (a+b) 48∨a+b=0:=by decide+kernel
theorem JB:∀n:Nat,n<9→PySem.intText? (("0":PySem.Str)++L2.KU "9" n)=some (10^n-1)∧(("0":PySem.Str)++L2.KU "9" n).length≤640∧("0":PySem.Str).length+(L2.KU "9" n).length≤PySem.sizeLine∧("9":PySem.Str).length*n≤PySem.sizeLine:=by decide+kernel
theorem qa{m:Int}{k:Nat}(h:m≤k):K01.ten m≤((10^k:Nat):Int):=by
 unfold K01.ten
 have:m.toNat≤k:=by omega
 have h2:=Nat.pow_le_pow_right (n:=10) (by decide) this
 exact_mod_cast h2
end K19
namespace Lw
open PySem PySem.Spec PyProof.Rows L2 K02 K04 K15 K09 K18 K19
open Builtin Builtin.Str StrLaws
theorem xa{x y:Int}(hy:0<y){a b:Nat}(hx:x.natAbs≤a)(hb:y≤(b:Int)):(x*y).natAbs≤a*b:=by
 rw[Int.natAbs_mul]
 exact Nat.mul_le_mul hx (by omega)
theorem wA{x y:Int}(h0:0≤x)(hy:0<y):0≤x/y∧x/y≤x:=⟨Int.ediv_nonneg h0 (by omega),Int.ediv_le_self _ h0⟩
theorem QaE(nb:Bool){u o p:Int}(hu:u.natAbs<10^10)(ho0:0≤o)(ho:o≤9)(hp0:0≤p)(hp:p≤9):(res nb u o p).natAbs<2^100:=by
 have t1:=K01.Jk (p-o)
 have t2:=K01.Jk (o-p)
 have b1:K01.ten (p-o)≤((10^9:Nat):Int):=qa (by omega)
 have b2:K01.ten (o-p)≤((10^9:Nat):Int):=qa (by omega)
 have big:2*10^10*10^9+10^9<2^100:=by decide
 have ha:K01.Zi u=((u.natAbs:Nat):Int):=by unfold K01.Zi;split<;>omega
 unfold res
 split
 ·unfold K01.rnd
  have hm:=xa (x:=2*K01.Zi u) (a:=2*10^10) t1 (by rw[ha];omega) b1
  have hm0:0≤2*K01.Zi u*K01.ten (p-o):=Int.mul_nonneg (by rw[ha];omega) (by omega)
  obtain⟨q1,q2⟩:=wA (x:=2*K01.Zi u*K01.ten (p-o)+K01.ten (o-p)) (y:=2*K01.ten (o-p)) (by omega) (by omega)
  have:(2*K01.Zi u*K01.ten (p-o)+K01.ten (o-p))≤((2*10^10*10^9+10^9:Nat):Int):=by omega
  split<;>omega
 ·unfold K01.Uo K01.xK
  have hm:=xa (x:=u) (a:=10^10) t1 (by omega) b1
  have e1:K01.Zi (u*K01.ten (p-o))=(((u*K01.ten (p-o)).natAbs:Nat):Int):=by unfold K01.Zi;split<;>omega
  have e2:K01.Zi (K01.ten (o-p))=K01.ten (o-p):=by unfold K01.Zi;rw[if_neg (by omega)]
  obtain⟨q1,q2⟩:=wA (x:=K01.Zi (u*K01.ten (p-o))) (y:=K01.Zi (K01.ten (o-p))) (by omega) (by omega)
  split<;>omega
theorem QbJ:∀n:Nat,n<10→n≠0→QR ([65,40]++dec n++[41])=some ⟨1,false,0,0⟩:=by decide+kernel
theorem Qcp{n:Nat}(h:n<10)(h0:n≠0):PicAt (List.replicate n 65) ([65,40]++dec n++[41]) ⟨1,false,0,0⟩∧((List.replicate n 65).filter Uy).length=n:=by
 have no:40∉List.replicate n 65:=fun z=>absurd (List.eq_of_mem_replicate z) (by decide)
 obtain⟨m,rfl⟩:∃m,n=m+1:=⟨n-1,by omega⟩
 have hs:Sh ([]++List.replicate (m+1) 65) ([]++(65::40::(dec (m+1)++[41]))):=.brk m .nil (by decide) (Qbo (by omega) (by omega))
 have hl:=dec_lt (n:=m+1) (k:=1) (by omega) (by decide)
 refine⟨⟨QbJ _ h h0,hs,no,by rw[List.length_replicate];omega,?_⟩,?_⟩
 ·simp only[List.length_append,List.length_cons,List.length_nil];omega
 ·rw[List.filter_eq_self.mpr fun x hx=>by rw[List.eq_of_mem_replicate hx];rfl,List.length_replicate]
theorem QaF{l:List Nat}(h:(QR l).map (·.kind)≠some 2):v5 l:=fun x hx z=>h (by rw[hx];show some x.kind=_;rw[z])
theorem e_X:("X":Str)=tx [88]:=by decide+kernel
theorem Qcq:("99":Str)=tx [57,57]:=by decide+kernel
theorem Qcr:("9":Str)=tx [57]:=by decide+kernel
theorem e_A:("A(":Str)=tx [65,40]:=by decide+kernel
theorem QbK:(")":Str)=tx [41]:=by decide+kernel
theorem QbW:QR [57,57]=some ⟨2,false,2,0⟩:=by decide+kernel
theorem p_9:QR [57]=some ⟨2,false,1,0⟩:=by decide+kernel
theorem Qcs:decide (V.str (tx (cont false 2 0 (res false 995 1 0) 0))=V.str (tx [57,57]))=true:=by decide+kernel
theorem c_5:decide (V.str (tx (cont false 1 0 (res false (-5) 0 0) 0))=V.str "5")=true:=by decide+kernel
noncomputable def due(s:Bool)(a b:Nat)(R:Int):V:=if R.natAbs<10^(a+b)then .str (tx (cont s a b R (b:Nat)))else .non
theorem wB{K:PySem.W.Frag}{c:Nat→Addr}{l:List Nat}{p:Addr}{u o:Int}{nb sg:Bool}{a b:Nat}{H:Hp}{Q:VK}{E:XK}(hl:l.length≤500)(hp:QR l=some ⟨2,sg,a,b⟩)(room:WK ⟨2,sg,a,b⟩)(M:Amt K H p u o)(k:∀H',Qz H H'→Q (due sg a b (res nb u o b)) H'):
  JL K c [.str (tx l),.ref p,.bl nb] H Q E:=by
 refine⟨l,p,u,o,nb,rfl,hl,M,.inr ⟨_,hp,room,fun H' S=>⟨fun z=>?_,fun z=>?_⟩⟩⟩
 ·have:=k H' S
  unfold due at this
  rw[if_neg (Nat.not_lt.mpr z)]at this
  exact this
 ·have:=k H' S
  unfold due at this
  rw[if_pos z]at this
  exact this
theorem ye{K:PySem.W.Frag}{c:Nat→Addr}{σ:L2.St}{i j m:Nat}{l:List Nat}{p:Addr}{u o:Int}{nb sg:Bool}{a b:Nat}{H:Hp}{Q:VK}{E:XK}(h1:σ[i]? =some (some (.str (tx l))))(h2:σ[j]? =some (some (.ref p)))(h3:σ[m]? =some (some (.bl nb)))(hl:l.length≤500)(hp:QR l=some ⟨2,sg,a,b⟩)(room:WK ⟨2,sg,a,b⟩)(M:Amt K H p u o)(k:∀H',Qz H H'→Q (due sg a b (res nb u o b)) H'):
  jC (JL K c) g21 E (JN (Kx i) (JN (Kx j) W7)) (JN (Kx m) W7) σ H Q:=by
 have z:JL K c (g21 [.str (tx l),.ref p] [.bl nb]) H Q E:=wB hl hp room M k
 exact⟨_,h1,_,h2,_,h3,z⟩
theorem wC(v:V):¬ (!decide (v=v))=true:=by simp
theorem wD(s:Bool)(a b:Nat)(R:Int):QaY (due s a b R) (due s a b R)=true:=by unfold due;split<;>rfl
noncomputable def qq:Str:=(envOfC "law" (Qf KH) 0 0 .none).qual++"<lambda>"
noncomputable def yf(Pa:Addr):Sp:=fun vs H Q _=>∃(a:Addr)(ns:List Int),vs=[.ref a]∧ns.length≤63∧xD Pa H∧(∃o,H a=some (.frz o (.lst (ns.map V.int))))∧∀H',Q (.bl true) H'
theorem yg{H:Hp}{P:Addr}{q:Str}(h:H P=some (.tbl #[])):WS H P q:=⟨#[],h,trivial,fun pos cv z=>by cases z⟩
theorem neS(a:Str):¬ (!decide (V.str a=V.str a))=true:=by simp
theorem kU{K:PySem.W.Frag}{c:Nat→Addr}{te:XK→TE}{σ:L2.St}{H:Hp}{Q:VK}{a t r Pa:Addr}{ns:List Int}{cc:Int}{q:Str}(i:Nat)(St:LawSt H a t r Pa q ns cc)(G:Kind K c i)
  (hte:∀(E:XK)(H0:Hp)(Q':VK),(∀H',Qz H0 H'→E (.ref (c i)) none H')→te E σ H0 Q')
  (k:∀pw H',LawSt H' a t r Pa q ns cc→H' pw=some (.tup [.str (yj i)])→(∀b o,H b=some o→(∀ps,o≠ .tbl ps)→H' b=some o)→H pw=none→Q (.ref pw) H'):
  Qbh Pa q (fun σ f c' H1 Q=>H1 c'=some (XZ c' q)∧tHd K c te σ H1 Q) σ H Q:=by
 refine⟨St.tab,fun fl c' H1 un code T1 keep=>⟨code,fun H2 S2=>hte _ _ _ fun H3 S3=>⟨i,rfl,G,fun ex pw H4 hex S4 hpw=>?_⟩⟩⟩
 have Sx:=S2.trans (S3.trans ((Qz.new hex).trans S4))
 have Sp:=Qz.new (o:=.tup [.str (yj i)]) hpw
 refine k pw _ (((St.lam keep T1).same Sx).same Sp) Qe (fun b o e n=>Sp _ _ (Sx _ _ (St.xH keep e n))) ?_
 cases e:H pw with
 |none=>rfl
 |some o=>
  by_cases z:pw=Pa
  ·obtain⟨ps,h1,_⟩:=T1
   have:=Sx _ _ h1
   rw[←z,hpw]at this
   cases this
  ·have:=Sx _ _ (keep _ _ e z)
   rw[hpw]at this
   cases this
section
variable {P:Program}{w:World}{K:PySem.W.Frag}{mg:Str→Option Value}{base:Heap}{f fh:Addr}{fd fdh:FuncData}{tk:Nat→Tok}{c kr:Nat→Addr}{ca Pa:Addr}
set_option maxHeartbeats 8000000 in
theorem QaG(F:FunC K "law" "law" KH f fd (.ref ca))(O:Own mg)(T:Txt K mg tk c kr)(L:Lamb mg base ca Pa)(Fh:Fun K "_law_heard" "_law_heard" Jh fh fdh)(hmh:mg "_law_heard"=some (.ref fh))(hbh:Binds K fdh ["_law_deed"] [])(G2:Kind K c 2)
  (D__law_class:Def P w K mg base 1 "_law_class" ["_law_kept"] (WM K c)) (D__law_begun:Def P w K mg base 1 "_law_begun" [] Uj) (D__law_draw:Def P w K mg base 1 "_law_draw" ["_law_script","_law_town","_law_many"] (X1 K))
  (D__law_an_amount:Def P w K mg base 2 "_law_an_amount" ["_law_script","_law_town","_law_figures","_law_far"] (Ya K)) (D__law_a_number:Def P w K mg base 2 "_law_a_number" ["_law_script","_law_town"] (z3 K)) (D__law_content:Def P w K mg base 1 "_law_content" ["_law_shows","_law_before","_law_behind","_law_amount_here"] (UT K)) (D__law_an_edited:Def P w K mg base 3 "_law_an_edited" ["_law_script","_law_town"] (QbG K)) (D__law_line:Def P w K mg base 1 "_law_line" ["_law_parts"] (Y3 K)) (D__law_edit:Def P w K mg base 2 "_law_edit" ["_law_parts","_law_amount_here"] (UU K))
  (D_cut:Def P w K mg base 2 "cut" ["amount","places"] (zM K)) (D_rounded:Def P w K mg base 2 "rounded" ["amount","places"] (Kd K)) (D_blank:Def P w K mg base 9 "blank" ["picture"] UO)
  (D_stored:DefD P w K mg base 8 "stored" ["picture","amount","nearest"] (.bl false) (JL K c)) (DK_stored:DefK21 P w K mg base 8 "stored" ["picture","amount","nearest"] ["nearest"] (JL K c)) (DK2_stored:DefK2D P w K mg base 8 "stored" "picture" "amount" "nearest" (.bl false) (JL K c)):
  FnOk P w K mg base (CXE P w) 12 f fd ["_law_script"] (yf Pa):=by
 refine Qcj F Zz (fun vs H Q E h=>?_) (fun A outer s H vs Q E hr h=>?_)
 ·obtain⟨a,ns,rfl,_⟩:=h
  rfl
 ·obtain⟨a,ns,rfl,hln,hO,hsc,k⟩:=h
  have mono1:∀(σ:L2.St)(H:Hp)(Q Q':VK)(E E':XK),(∀cls x H,E cls x H→E' cls x H)→(∀v H,Q v H→Q' v H)→WQ (JL K c) [.bl false] E (JN (tC (.str "X")) (JN (QaM (JN (tC (.int 1)) (JN (tC (.int 0)) W7))) W7)) σ H Q→WQ (JL K c) [.bl false] E' (JN (tC (.str "X")) (JN (QaM (JN (tC (.int 1)) (JN (tC (.int 0)) W7))) W7)) σ H Q':=by
   rintro σ H Q Q' E E' hE hQ ⟨hl,k1⟩
   refine⟨hl,fun p hp=>?_⟩
   obtain⟨l,pp,u,o,nb,e,hll,M,hw⟩:=k1 p hp
   refine⟨l,pp,u,o,nb,e,hll,M,hw.imp (fun⟨x,y⟩=>⟨x,fun H' S=>hE _ _ _ (y H' S)⟩) ?_⟩
   rintro⟨x,h1,h2,kk⟩
   exact⟨x,h1,h2,fun H' S=>⟨fun z=>hQ _ _ ((kk H' S).1 z),fun z=>hQ _ _ ((kk H' S).2 z)⟩⟩
  refine⟨_,(Qb (Qm (i:=1) Zz.nd rfl (Or.inl rfl) (D__law_begun.pe0 hr (by decide) rfl Qw))
   (Qb (Xr PassesOwn.never rfl (XT rfl O.range (Qa Qh Qc)) (Qk (i:=2) Zz.nd rfl (Or.inl rfl)) (Qb (Jf (D__law_a_number.pe hr (by decide) rfl Qw (Qa (pv 0) (Qa (pv 1) Qc))) (Q1 rfl (Qi (Qk (i:=3) Zz.nd rfl (Or.inl rfl)) (Qi (Qk (i:=4) Zz.nd rfl (Or.inl rfl)) (Qi (Qk (i:=5) Zz.nd rfl (Or.inl rfl)) (Qi (Qk (i:=6) Zz.nd rfl (Or.inl rfl)) QG))))))
   (Qb (Qm (i:=7) Zz.nd rfl (Or.inl rfl) (D__law_an_amount.pe hr (by decide) rfl Qw (Qa (pv 0) (Qa (pv 1) (Qa (Qn QT (Qn QT (pv 5) (pv 6)) Qh) (Qa (Qn QT (pv 6) Qh) Qc))))))
   (Qb (Qm (i:=8) Zz.nd rfl (Or.inl rfl) (Jy Jw (D__law_draw.pe hr (by decide) rfl Qw (Qa (pv 0) (Qa (pv 1) (Qa Qh Qc)))) Qh (Qp _)))
   (Qb (QL (Ql Jw (D__law_draw.pe hr (by decide) rfl Qw (Qa (pv 0) (Qa (pv 1) (Qa Qh Qc)))) Qh (Qp _)) (Qg (Qm (i:=7) Zz.nd rfl (Or.inl rfl) (QK (Qa (Qn QT (Qn Z8 (Ja Jj rfl O.int PyProof.Rows.boot_int (Qa (Qn Qo Qd (Qn QB Qd (Qn QT (pv 5) (pv 6)))) Qc)) Qh) Qh) (Qa (Qn QT (pv 6) Qh) Qc))))) Qy)
   (Qb (Qm (i:=9) Zz.nd rfl (Or.inl rfl) (QD (QY (pv 8) (fun _=>rfl)) (D_rounded.pe hr (by decide) rfl Qw (Qa (pv 7) (Qa (pv 6) Qc))) (D_cut.pe hr (by decide) rfl Qw (Qa (pv 7) (Qa (pv 6) Qc)))))
   (Qb (Qm (i:=10) Zz.nd rfl (Or.inl rfl) J5)
   (Qb (QL (Ql QaZ (Qq Jb rfl O.len PySem.boot_len (Qa (Ja JP rfl O.str PyProof.Rows.boot_str (Qa (Qq J3 rfl O.abs PyProof.Rows.boot_abs (Qa (QJ Jq (pv 9) Qh (fun _ _=>rfl)) Qc)) Qc)) Qc)) (Qn QT (pv 5) (pv 6)) (Qp _)) (Qg (Qm (i:=10) Zz.nd rfl (Or.inl rfl) (D__law_content.pe hr (by decide) rfl Qw (Qa (pv 4) (Qa (pv 5) (Qa (pv 6) (Qa (pv 9) Qc))))))) Qy)
   (Qb (QL (PW.pt (Z0 (Ql Zc (DK_stored.pe hr (by decide) rfl Qw (Qa (pv 3) (Qa (pv 7) Qc)) (Vq (pv 8) jB)) (pv 10) (Qp _)) (J6 (PW.pt (Jp (W4 (QY (pv 8) (fun _=>rfl))) (Je (Ql Zc (DK2_stored.pe hr (by decide) rfl Qw (pv 3) (pv 7)) (pv 10) (Qp _)))))))) (Qg (Qs XR)) Qy)
   (Qg (QL (Ql Zc (D_blank.pe hr (by decide) rfl Qw (Qa (pv 3) Qc)) (Qn QB Qd (Qn QT (pv 5) (pv 6))) (Qp _)) (Qg (Qs XR)) Qy)))))))))))
   (Qb (jp (i:=11) (j:=12) rfl Zz.nd rfl rfl (by decide) rfl rfl (Qa (D__law_an_edited.pe hr (by decide) rfl Qw (Qa (pv 0) (Qa (pv 1) Qc))) (Qa (Qn QT Qh (D__law_draw.pe hr (by decide) rfl Qw (Qa (pv 0) (Qa (pv 1) (Qa Qh Qc))))) Qc)) rfl)
   (Qb (QL (PW.pt (Z0 (Ql Zc (D_blank.pe hr (by decide) rfl Qw (Qa (D__law_line.pe hr (by decide) rfl Qw (Qa (pv 11) Qc)) Qc)) (D__law_edit.pe hr (by decide) rfl Qw (Qa (pv 11) (Qa (QK (Qa Qh (Qa Qh Qc))) Qc))) (Qp _)) (J6 (Ql Zc (D_blank.pe hr (by decide) rfl Qw (Qa (Qn Qo (Qn Qo Qd (Ja JP rfl O.str PyProof.Rows.boot_str (Qa (pv 12) Qc))) Qd) Qc)) (Qn QB Qd (pv 12)) (Qp _))))) (Qg (Qs XR)) Qy)
   (Qb (QL (Ql (yM (n:=1) (Qbg hr)) (kK (K0:=K) (q:=qq) rfl Fh hmh hbh T D__law_class hr rfl L rfl rfl rfl (fun _=>rfl) rfl rfl rfl (by decide+kernel) rfl (fun _ _ _ _=>rfl) (fun _ _ _ _ _ _ _ _ hr2=>(D_stored.pe hr2 (by decide) rfl (Jr xy) (Qa Qd (Qa (QK (Qa Qh (Qa Qh Qc))) Qc)))) mono1) (QK (Qa Qd Qc)) (Qp _)) (Qg (Qs XR)) Qy)
   (Qb (QL (PW.pt (Z0 (Ql Zc (D_stored.pe hr (by decide) rfl Qw (Qa Qd (Qa (QK (Qa Qh (Qa Qh Qc))) Qc))) Qd (Qp _)) (J6 (ZJ (wG (DK_stored.pe hr (by decide) rfl Qw (Qa Qd (Qa (QK (Qa Qh (Qa Qh Qc))) Qc)) (Vq XR jB))))))) (Qg (Qs XR)) Qy)
   (Qg (Qs (Jy Jw (D_stored.pe hr (by decide) rfl Qw (Qa Qd (Qa (QK (Qa (WP Xt Qh) (Qa Qh Qc))) Qc))) Qd (Qp _)))))))))),?_⟩
  have hz:1000≤sizeLine:=by decide
  refine⟨rfl,fun t r H1 ht hr1 T1 S1=>?_⟩
  have St1:LawSt H1 a t r Pa qq ns 0:=⟨let ⟨o,h⟩:=hsc;⟨o,S1 _ _ h⟩,⟨[],T1⟩,(yg hO.1).same S1,hln⟩
  refine⟨4,rfl,by decide,by decide,XU (n:=4) (fun i σ H3=>∃x2 x3 x4 x5 x6 x7 x8 x9 x10 c3,σ=[some (.ref a),some (.ref t),x2,x3,x4,x5,x6,x7,x8,x9,x10,none,none]∧LawSt H3 a t r Pa qq ns c3∧c3≤100*i)
   ⟨none,none,none,none,none,none,none,none,none,0,rfl,St1,by decide⟩ ?_ ?_⟩
  ·rintro i σ H2 hi ⟨x2,x3,x4,x5,x6,x7,x8,x9,x10,c2,rfl,St2,hc2⟩
   refine⟨_,rfl,_,rfl,a,t,r,ns,c2,rfl,St2.bag,by omega,fun sg a2 b q c3 H3 ha6 hb4 hab hq gq B3 hc3 A3=>⟨q,_,rfl,SqT.of gq,rfl,_,_,rfl,_,_,rfl,_,_,rfl,_,_,rfl,rfl,?_⟩⟩
   obtain⟨rs3,T3⟩:=B3.tw
   have St3:=St2.drawn A3 T3
   have hpic:=(vC sg a2 b ha6 hb4 hab).1
   have hll:=v9 sg a2 b ha6 hb4
   generalize Xb sg a2 b=l at hpic hll
   have room:WK ⟨2,sg,a2,b⟩:=⟨rfl,by show 1≤a2+b;omega,by show a2+b≤18;omega⟩
   have ecast:((a2:Nat):Int)+((b:Nat):Int)=((a2+b:Nat):Int):=by omega
   refine⟨_,rfl,_,rfl,_,rfl,_,rfl,_,_,rfl,rfl,_,_,rfl,rfl,_,rfl,_,_,rfl,rfl,a,t,r,ns,c3,_,_,rs3,rfl,St3.sq,T3,St3.nat,St3.nar,hln,by omega,by omega,by omega,by omega,by omega,fun u oi c4 rs4 H4 q1 bu o0 o5 hq1 g1 T4 hc4 A4=>?_⟩
   obtain⟨o,rfl⟩:=Int.eq_ofNat_of_zero_le o0
   have St4:=St3.drawn A4 T4
   dsimp only[JD,KL,K6,WO]
   refine St4.bag.draw (K:=K) (n:=2) rfl rfl (fun R h=>h) (by decide) (by decide) (by omega) fun d5 H5 hd5 B5 A5=>?_
   obtain⟨rs5,T5⟩:=B5.tw
   have St5:=St4.drawn A5 T5
   have g5:=St4.tup A5 g1
   refine⟨rfl,?_⟩
   rw[Zp]
   generalize decide ((d5:Int)=0)=nb
   try dsimp only[JD,KL,K6,WO]
   refine Jv (fun σ' H'=>∃(q6:Addr)(u6:Int)(o6:Nat)(c6:Int),σ'=[some (.ref a),some (.ref t),some (.int (0+i)),some (tv l),some (.bl sg),some (.int (a2:Nat)),some (.int (b:Nat)),some (.ref q6),some (.bl nb),x9,x10,none,none]∧LawSt H' a t r Pa qq ns c6∧c6≤c2+60∧H' q6=some (.tup [.int u6,.int (o6:Nat)])∧u6.natAbs<10^10∧o6≤9) ?_ (fun rest=>?_)
   rotate_left
   ·refine St5.bag.draw (K:=K) (n:=4) rfl rfl (fun R h=>h) (by decide) (by decide) (by omega) fun d6 H6 hd6 B6 A6=>?_
    obtain⟨rs6,T6⟩:=B6.tw
    have St6:=St5.drawn A6 T6
    have g6:=St5.tup A6 g5
    refine⟨rfl,_,rfl,?_⟩
    refine ifB (fun z=>?_) (fun z=>?_)
    ·obtain⟨n1,n2,n3,n4⟩:=JB (a2+b) (by omega)
     have hp8:(10:Nat)^(a2+b)≤10^8:=Nat.pow_le_pow_right (by decide) (by omega)
     have hp1:0<(10:Nat)^(a2+b):=Nat.pow_pos (by decide)
     have hpc:(10:Int)^(a2+b)=((10^(a2+b):Nat):Int):=by push_cast;rfl
     have hpb:(10:Nat)^8<2^2000:=by decide
     refine⟨_,rfl,_,rfl,_,_,rfl,rfl,"9",((a2:Nat):Int)+((b:Nat):Int),rfl,rfl,by omega,by rw[ecast,Int.toNat_natCast];exact n4,by omega,?_⟩
     rw[ecast,Int.toNat_natCast]
     refine⟨_,_,rfl,rfl,n3,_,_,rfl,n1,n2,_,_,rfl,rfl,⟨?_,by decide⟩,_,_,rfl,rfl,_,rfl,_,_,rfl,rfl,by show 2≤sizeLine;omega,fun p7 hp7=>?_⟩
     ·refine Nat.lt_of_le_of_lt ?_ hpb
      rw[hpc]
      omega
     ·exact rest _ _ ⟨p7,_,b+1,_,rfl,St6.same (Qz.new hp7),by omega,Qe,by rw[hpc];omega,by omega⟩
    ·exact rest _ _ ⟨q1,u,o,_,rfl,St6,by omega,g6,Nat.lt_trans bu (by decide),by omega⟩
   rintro σ' H7 ⟨q6,u6,o6,c6,rfl,St7,hc7,g7,hu6,ho6⟩
   clear St3 St4 St5 g1 g5 T3 T4 T5 A3 A4 A5 gq
   have M7:Amt K H7 q6 u6 o6:=⟨SqT.of g7,Nat.lt_trans hu6 (by decide),by omega,by omega⟩
   try dsimp only[JD,KL,K6,WO]
   refine⟨_,rfl,nb,rfl,?_⟩
   refine Ju (fun v H'=>∃q,v=.ref q∧Qz H7 H'∧H' q=some (.tup [.int (res nb u6 o6 b),.int (b:Nat)])) (fun z rest=>?_) (fun z rest=>?_) ?_
   ·exact⟨_,rfl,_,rfl,q6,u6,o6,(b:Int),rfl,M7,by omega,by omega,fun q hq=>rest _ _ ⟨q,rfl,Qz.new hq,by unfold res;rw[if_pos z];exact Qe⟩⟩
   ·exact⟨_,rfl,_,rfl,q6,u6,o6,(b:Int),rfl,M7,by omega,by omega,fun q hq=>rest _ _ ⟨q,rfl,Qz.new hq,by unfold res;rw[if_neg (by rw[z];decide)];exact Qe⟩⟩
   rintro v H8 ⟨q8,rfl,S8,g8⟩
   have St8:=St7.same S8
   have M8:=M7.same S8
   have hR:=QaE nb (u:=u6) (o:=o6) (p:=b) hu6 (by omega) (by omega) (by omega) (by omega)
   generalize hRR:res nb u6 o6 b=R at g8 hR
   try dsimp only[JD,KL,K6,WO]
   refine Jv (fun σ' H'=>σ'=[some (.ref a),some (.ref t),some (.int (0+i)),some (tv l),some (.bl sg),some (.int (a2:Nat)),some (.int (b:Nat)),some (.ref q6),some (.bl nb),some (.ref q8),some (due sg a2 b R),none,none]∧H'=H8) ?_ (fun rest=>?_)
   rotate_left
   ·refine⟨_,rfl,q8,_,_,_,rfl,rfl,SqT.of g8,rfl,R,rfl,_,rfl,?_,?_⟩
    ·rw[Kt,Int.natAbs_natCast]
     by_cases h0:R.natAbs=0
     ·rw[h0];decide
     ·exact(Nat.log2_lt h0).mpr (Nat.lt_trans hR (by decide))
    have hdl:=VC hR
    have htd:=Qj (dec R.natAbs)
    rw[Kt,K02.Z4]
    refine⟨tx (dec R.natAbs),rfl,by omega,_,rfl,_,rfl,_,_,rfl,rfl,_,_,rfl,rfl,_,rfl,?_⟩
    rw[htd,ecast]
    refine ifB (fun z=>?_) (fun z=>?_)
    ·have hlt:R.natAbs<10^(a2+b):=(z7 (n:=a2+b) (by omega)).mp (by have:=of_decide_eq_true z;omega)
     have hl10:R.natAbs<10^10:=Nat.lt_of_lt_of_le hlt (Nat.pow_le_pow_right (by decide) (by omega))
     refine⟨_,rfl,_,rfl,_,rfl,_,rfl,sg,a2,b,q8,R,b,rfl,SqT.of g8,hl10,by omega,by omega,by omega,by omega,?_⟩
     refine rest _ _ ⟨?_,rfl⟩
     unfold due
     rw[if_pos hlt]
     rfl
    ·have hge:¬ R.natAbs<10^(a2+b):=fun y=>by
      have h1:=(z7 (n:=a2+b) (by omega)).mpr y
      have h2:=of_decide_eq_false z
      omega
     refine rest _ _ ⟨?_,rfl⟩
     unfold due
     rw[if_neg hge]
     rfl
   rintro σ' H' ⟨rfl,rfl⟩
   refine Jv (fun σ' H9=>σ'=[some (.ref a),some (.ref t),some (.int (0+i)),some (tv l),some (.bl sg),some (.int (a2:Nat)),some (.int (b:Nat)),some (.ref q6),some (.bl nb),some (.ref q8),some (due sg a2 b R),none,none]∧Qz H' H9) ?_ (fun rest=>?_)
   rotate_left
   ·refine ye (i:=3) (j:=7) (m:=8) rfl rfl rfl (by omega) hpic room M8 fun H9 S9=>?_
    rw[hRR]
    refine⟨_,rfl,wD _ _ _ _,_,rfl,?_⟩
    refine ifB (fun z=>absurd z (wC _)) (fun _=>?_)
    refine⟨_,rfl,nb,rfl,?_⟩
    refine ifB (fun z=>?_) (fun z=>QX (rest _ _ ⟨rfl,S9⟩))
    obtain rfl:nb=false:=by simpa using z
    refine⟨_,rfl,_,rfl,wB (by omega) hpic room (M8.same S9) fun H10 S10=>?_⟩
    rw[hRR]
    refine⟨_,rfl,wD _ _ _ _,_,rfl,?_⟩
    exact ifB (fun z=>absurd z (wC _)) (fun _=>rest _ _ ⟨rfl,S9.trans S10⟩)
   rintro σ' H9 ⟨rfl,S9⟩
   refine⟨_,rfl,l,rfl,by omega,.inl ⟨_,.inl ⟨_,hpic,room,rfl⟩,fun H10 S10=>?_⟩⟩
   refine⟨_,rfl,_,rfl,_,_,rfl,rfl,"0",((a2:Nat):Int)+((b:Nat):Int),rfl,rfl,by omega,by rw[ecast,Int.toNat_natCast,e_0,Qj,List.length_singleton];omega,by omega,?_⟩
   rw[ecast,Int.toNat_natCast,e_0,Zj]
   dsimp only
   rw[(z8 sg a2 ha6 b hb4).resolve_right hab]
   refine⟨rfl,_,rfl,?_⟩
   refine ifB (fun z=>absurd z (neS _)) (fun _=>?_)
   exact⟨_,_,_,_,_,_,_,_,_,_,rfl,(St8.same S9).same S10,by omega⟩
  ·rintro σ H2 ⟨x2,x3,x4,x5,x6,x7,x8,x9,x10,c2,rfl,St2,hc2⟩
   dsimp only[JD,KL,K6,WO]
   refine⟨_,rfl,_,rfl,a,t,r,ns,c2,rfl,St2.bag,by omega,fun lead first W N broken tail q c3 H3 Ee hl hq gq B3 hc3 A3=>?_⟩
   obtain⟨rs3,T3⟩:=B3.tw
   have St3:=St2.drawn A3 T3
   have hll:=V3 hl
   refine St3.bag.draw (K:=K) (n:=9) rfl rfl (fun R h=>h) (by decide) (by decide) (by omega) fun d4 H4 hd4 B4 A4=>?_
   obtain⟨rs4,T4⟩:=B4.tw
   have St4:=St3.drawn A4 T4
   have g4:=St3.tup A4 gq
   refine⟨_,_,rfl,rfl,_,_,rfl,?_⟩
   try dsimp only[JD,KL,K6,WO]
   refine⟨_,rfl,q,lead,[first],W,N,broken,tail,rfl,SqT.of g4,by omega,QS lead W N broken tail,rfl,by omega,.inl ⟨_,.inr ⟨lead,first,W,N,broken,tail,Ee,hl,rfl,rfl⟩,fun H5 S5=>?_⟩⟩
   refine⟨_,rfl,by show 2≤sizeLine;omega,fun p6 hp6=>⟨q,p6,lead,first,W,N,broken,tail,0,0,rfl,SqT.of ((S5.trans (Qz.new hp6)) _ _ g4),SqT.of Qe,Ee,hl,by decide,by decide,fun H7 S7=>⟨rfl,_,rfl,?_⟩⟩⟩
   refine ifB (fun z=>absurd z (neS _)) (fun _=>?_)
   have St7:=St4.same ((S5.trans (Qz.new hp6)).trans S7)
   have es:(1:Int)+(d4:Int)=((d4+1:Nat):Int):=by omega
   obtain⟨PA,na⟩:=Qcp (n:=d4+1) (by omega) (by omega)
   have hd1:=dec_lt (n:=d4+1) (k:=1) (by omega) (by decide)
   have htd:=Qj (dec (d4+1))
   refine⟨_,rfl,_,rfl,?_,?_⟩
   ·rw[es,Int.natAbs_natCast]
    exact Nat.lt_of_le_of_lt (Nat.log2_le_self _) (by omega)
   rw[es,K02.Z4,e_A,QbK]
   refine⟨_,_,rfl,rfl,by rw[Qj,htd];simp;omega,?_⟩
   rw[QM]
   refine⟨_,_,rfl,rfl,by rw[Qj,Qj,List.length_append];simp;omega,?_⟩
   rw[QM]
   refine⟨_,rfl,PA.ll,.inr ⟨_,_,PA,by decide,fun H8 S8=>?_⟩⟩
   rw[na]
   refine⟨_,rfl,tx [32],((d4+1:Nat):Int),by rw[Qbv],by first|rfl|rw[es],by omega,by rw[Qj,Int.toNat_natCast,List.length_singleton];omega,by omega,?_⟩
   rw[Int.toNat_natCast,Zj]
   refine⟨rfl,_,rfl,?_⟩
   refine ifB (fun z=>absurd z (neS _)) (fun _=>?_)
   have St8:=St7.same S8
   try dsimp only[JD,KL,K6,WO]
   refine kU 2 St8 G2 (fun E H0 Q' h=>⟨by show 2≤sizeLine;omega,fun p hp=>⟨[88],p,1,0,false,by rw[e_X];rfl,by decide,⟨SqT.of Qe,by decide,by decide,by decide⟩,.inl ⟨QaF (by decide+kernel),fun H' S=>h H' ((Qz.new hp).trans S)⟩⟩⟩) fun pw H9 St9 gw keep un=>?_
   refine⟨by show 1≤sizeLine;omega,fun pz hpz=>?_⟩
   have Sz:=Qz.new (o:=.tup [.str "no room"]) hpz
   refine xG (SqT.of (Sz _ _ gw)) (SqT.of Qe) (.cons .str .nil) ⟨_,rfl,?_⟩
   refine ifB (fun z=>absurd z (by decide)) (fun _=>?_)
   rw[Qcq]
   refine⟨by show 2≤sizeLine;omega,fun p1 hp1=>⟨[57,57],p1,995,1,false,rfl,by decide,⟨SqT.of Qe,by decide,by decide,by decide⟩,.inr ⟨_,QbW,⟨rfl,by decide,by decide⟩,fun H10 S10=>⟨fun z=>absurd z (by decide+kernel),fun _=>⟨rfl,_,rfl,?_⟩⟩⟩⟩⟩
   refine ifB (fun z=>absurd (z.symm.trans (congrArg not Qcs)) (by decide)) (fun _=>?_)
   refine⟨by show 2≤sizeLine;omega,fun p2 hp2=>⟨[57,57],p2,995,1,true,rfl,by decide,⟨SqT.of Qe,by decide,by decide,by decide⟩,.inr ⟨_,QbW,⟨rfl,by decide,by decide⟩,fun H11 S11=>⟨fun _=>⟨_,rfl,?_⟩,fun z=>absurd z (by decide+kernel)⟩⟩⟩⟩
   refine ifB (fun z=>absurd z (by decide)) (fun _=>?_)
   rw[Qcr]
   refine⟨_,rfl,by show 2≤sizeLine;omega,fun p3 hp3=>⟨[57],p3, -5,0,false,rfl,by decide,⟨SqT.of Qe,by decide,by decide,by decide⟩,.inr ⟨_,p_9,⟨rfl,by decide,by decide⟩,fun H12 S12=>⟨fun z=>absurd z (by decide+kernel),fun _=>⟨rfl,?_⟩⟩⟩⟩⟩
   show Q (.bl (decide (V.str (tx (cont false 1 0 (res false (-5) 0 0) 0))=V.str "5"))) _
   rw[c_5]
   exact k _
end
end Lw
set_option Elab.async false
set_option linter.all false
set_option maxRecDepth 100000
namespace L2
open PySem PySem.Spec PyProof.Rows
theorem wE{K:PySem.W.Frag}{a:Addr}{xs:List V}{its:Array Value}{n:Nat}{od:Option Addr}{osl:Array (Option Value)}(l:K.lookup a=some ⟨.type "tuple",od,.seq its n,osl⟩)(z:its.size≤sizeLine)(v:Vals xs its.toList)(H:Hp):SqT K H a xs:=.inr ⟨_,its,n,l,rfl,rfl,z,v⟩
theorem xb{P:Program}{w:World}{K:PySem.W.Frag}{a:Addr}{h1 h2:Int}{x1 x2 y1 y2:Str}{t1 t2 u1 u2:Tok}{n:Nat}(ne:(a==sysModules)=false)(l:K.lookup a=some ⟨.type "dict",none,.dict #[⟨h1,.str x1 t1,.str y1 u1⟩,⟨h2,.str x2 t2,.str y2 u2⟩] n, #[]⟩)
  (e1:h1=yl w (.inr x1)) (e2:h2=yl w (.inr x2)) (hx:x1≠x2):KDict P w K a [(Sum.inr x1,.str y1),(Sum.inr x2,.str y2)]:=by
 refine⟨ne,fun h KX=>⟨[(Sum.inr x1,.str y1 u1),(Sum.inr x2,.str y2 u2)],.cons ⟨rfl,_,rfl⟩ (.cons ⟨rfl,_,rfl⟩ .nil),_,_,_,KX a _ l,⟨rfl,rfl,rfl⟩,rfl,fun e he=>?_,.cons (JM P w x1 t1) rfl (.cons (JM P w x2 t2) rfl .nil),?_⟩⟩
 ·have he:e=⟨h1,.str x1 t1,.str y1 u1⟩∨e=⟨h2,.str x2 t2,.str y2 u2⟩:=by simpa using he
  rcases he with rfl|rfl
  ·exact⟨_,JM P w x1 t1,e1⟩
  ·exact⟨_,JM P w x2 t2,e2⟩
 ·have hk:¬ (Sum.inr x1:Key)=Sum.inr x2:=fun q=>hx (Sum.inr.inj q)
  simp[hk]
end L2
namespace Lw
open PySem PySem.Spec PyProof.Rows L2 K02 K04
set_option maxHeartbeats 8000000 in
theorem all_mk{l:PySem.W.OpenLaw}{w:World}{K:PySem.W.Frag}{h:Heap}{mg:Str→Option Value}{fa fl ca R0 R1 R2 R3 R4 R5 C0 C1 C2 C3 C4 C5 C6 C7 C8 C9 C10 C11 C12 C13 C14:Addr}{t0 t1 t2 t3 t4 t5 t6 t7 t8:Tok}{oc kV doc pm ct:Value}{od an:Option Addr}{osl:Array (Option Value)}(X:K.In h)(G:h.Ns mainGlobals mg)(hfa:mg "law"=some (.ref fa))
  (d_ten_to:DefAt K "ten_to" VH)
  (d_is_figures:DefAt K "is_figures" Xc)
  (d_number_of:DefAt K "number_of" XE)
  (d_times_at:DefAt K "times_at" Kq)
  (d_rows_of:DefAt K "rows_of" Wv)
  (d_floats_at:DefAt K "floats_at" XG)
  (d_places_of:DefAt K "places_of" XH)
  (d_whole_part:DefAt K "whole_part" Xf)
  (d_broken_part:DefAt K "broken_part" ZV)
  (d_lead_of:DefAt K "lead_of" Ww)
  (d_tail_of:DefAt K "tail_of" Wy)
  (d_number_facts:DefAt K "number_facts" ZC)
  (d_plain_facts:DefAt K "plain_facts" ZU)
  (d_body_of:DefAt K "body_of" Wx)
  (d_edited_facts:DefAt K "edited_facts" ZE)
  (d_facts_of:DefAt K "facts_of" Kr)
  (d_understood:DefAt K "understood" Zv)
  (d_kind_of:DefAt K "kind_of" X9)
  (d_quotient_cut:DefAt K "quotient_cut" ZB)
  (d_cut:DefAt K "cut" vO)
  (d_rounded:DefAt K "rounded" Wt)
  (d_fitted:DefAt K "fitted" VJ)
  (d_figures_of:DefAt K "figures_of" Xd)
  (d_written_out:DefAt K "written_out" ZS)
  (d_size_of:DefAt K "size_of" Ka)
  (d_understood_as:DefAt K "understood_as" JY)
  (d_sign_text:DefAt K "sign_text" XI)
  (d_hides_nought:DefAt K "hides_nought" ZH)
  (d_nought_text:DefAt K "nought_text" ZW)
  (d_spread:DefAt K "spread" VL)
  (d_hidden_in:DefAt K "hidden_in" XL)
  (d_body_text:DefAt K "body_text" XJ)
  (d_edited_parts:DefAt K "edited_parts" ZF)
  (d_edited:DefAt K "edited" K1)
  (d_content_of:DefAt K "content_of" Zy)
  (d_put:DefAt K "put" ko)
  (d_blank:DefAt K "blank" VM)
  (d__law_draw:DefAt K "_law_draw" XM)
  (d__law_begun:DefAt K "_law_begun" Xh)
  (d__law_class:DefAt K "_law_class" Xi)
  (d__law_places:DefAt K "_law_places" ZX)
  (d__law_line:DefAt K "_law_line" XN)
  (d__law_an_edited:DefAt K "_law_an_edited" Zg)
  (d__law_an_amount:DefAt K "_law_an_amount" Zf)
  (d__law_a_number:DefAt K "_law_a_number" Zt)
  (d__law_content:DefAt K "_law_content" ZI)
  (d__law_edit:DefAt K "_law_edit" QZ)
  (d_heard:DefAt K "_law_heard" Jh)
  (k_0:PySem.W.nsIn K mainGlobals "BoxError"=some (some (.ref C0)))
  (k_1:PySem.W.nsIn K mainGlobals "NoPicture"=some (some (.ref C1)))
  (k_2:PySem.W.nsIn K mainGlobals "NoRoom"=some (some (.ref C2)))
  (k_3:PySem.W.nsIn K mainGlobals "NoQuotient"=some (some (.ref C3)))
  (k_4:PySem.W.nsIn K mainGlobals "NoText"=some (some (.ref C4)))
  (k_5:PySem.W.nsIn K mainGlobals "NoFigures"=some (some (.ref C5)))
  (k_6:PySem.W.nsIn K mainGlobals "NoLetters"=some (some (.ref C6)))
  (k_7:PySem.W.nsIn K mainGlobals "NoMove"=some (some (.ref C7)))
  (k_8:PySem.W.nsIn K mainGlobals "NoPath"=some (some (.ref C8)))
  (k_9:PySem.W.nsIn K mainGlobals "NoAmount"=some (some (.ref C9)))
  (k_10:PySem.W.nsIn K mainGlobals "NoGroup"=some (some (.ref C10)))
  (k_11:PySem.W.nsIn K mainGlobals "BadSize"=some (some (.ref C11)))
  (k_12:PySem.W.nsIn K mainGlobals "NoBack"=some (some (.ref C12)))
  (k_13:PySem.W.nsIn K mainGlobals "BadRow"=some (some (.ref C13)))
  (k_14:PySem.W.nsIn K mainGlobals "Closed"=some (some (.ref C14)))
  (m_FIGURES:PySem.W.nsIn K mainGlobals "FIGURES"=some (some (.str "0123456789" t0)))
  (m_INSERTED:PySem.W.nsIn K mainGlobals "INSERTED"=some (some (.str ",B0/" t2)))
  (m_SIGNS:PySem.W.nsIn K mainGlobals "SIGNS"=some (some (.str "+-" t3)))
  (m_FLOATING:PySem.W.nsIn K mainGlobals "FLOATING"=some (some (.str "+-$" t4)))
  (m_PLACES:PySem.W.nsIn K mainGlobals "PLACES"=some (some (.str "9Z*+-$" t5)))
  (m_LAST_BELOW:PySem.W.nsIn K mainGlobals "LAST_BELOW"=some (some (.str "pqrstuvwxy" t8)))
  (m_PART:PySem.W.nsIn K mainGlobals "PART"=some (some (.int 18 t1)))
  (m_MOST_FIGURES:PySem.W.nsIn K mainGlobals "MOST_FIGURES"=some (some (.int 18 t6)))
  (m_MOST_SIGNS:PySem.W.nsIn K mainGlobals "MOST_SIGNS"=some (some (.int 60 t7)))
  (m_NUMBER_FORMS:PySem.W.nsIn K mainGlobals "NUMBER_FORMS"=some (some (.ref R0)))
  (m_SHOWN:PySem.W.nsIn K mainGlobals "SHOWN"=some (some (.ref R1)))
  (m_PLAIN_KINDS:PySem.W.nsIn K mainGlobals "PLAIN_KINDS"=some (some (.ref R2)))
  (q_NUMBER_FORMS:∀H,SqT K H R0 [.str "9",.str "S9",.str "V9",.str "SV9",.str "9V9",.str "S9V9"])
  (q_SHOWN:∀H,SqT K H R1 [.str "+",.str "-",.str "CR",.str "DB"])
  (kd:KDict l.prog w K R2 YM)
  (m_BESIDE:PySem.W.nsIn K mainGlobals "BESIDE"=some (some (.ref R3)))
  (kd_BESIDE:KDict l.prog w K R3 Qas)
  (m_NOT_BELOW:PySem.W.nsIn K mainGlobals "NOT_BELOW"=some (some (.ref R4)))
  (kd_NOT_BELOW:KDict l.prog w K R4 nbV)
  (m_BELOW:PySem.W.nsIn K mainGlobals "BELOW"=some (some (.ref R5)))
  (kd_BELOW:KDict l.prog w K R5 bwV)
  (dD_stored:DefAtD K "stored" K2 "nearest" (.bool false))
  (z2_list:PySem.W.nsIn K mainGlobals "list"=some none)
  (z2_enumerate:PySem.W.nsIn K mainGlobals "enumerate"=some none)
  (t_str:PySem.W.kitOne K (.type "str") (.type "str")=some true)
  (t_int:PySem.W.kitOne K (.type "int") (.type "str")=some false)
  (t_NoneType:PySem.W.kitOne K (.type "NoneType") (.type "str")=some false)
  (t_tuple:PySem.W.kitOne K (.type "tuple") (.type "str")=some false)
  (z_len:PySem.W.nsIn K mainGlobals "len"=some none)
  (z_range:PySem.W.nsIn K mainGlobals "range"=some none)
  (z_abs:PySem.W.nsIn K mainGlobals "abs"=some none)
  (z_max:PySem.W.nsIn K mainGlobals "max"=some none)
  (z_int:PySem.W.nsIn K mainGlobals "int"=some none)
  (z_isi:PySem.W.nsIn K mainGlobals "isinstance"=some none)
  (z_bool:PySem.W.nsIn K mainGlobals "bool"=some none)
  (z_val:PySem.W.nsIn K mainGlobals "ValueError"=some none)
  (z_reversed:PySem.W.nsIn K mainGlobals "reversed"=some none)
  (z_divmod:PySem.W.nsIn K mainGlobals "divmod"=some none)
  (z_str:PySem.W.nsIn K mainGlobals "str"=some none)
  (z_sum:PySem.W.nsIn K mainGlobals "sum"=some none)
  (x1_ex:PySem.W.excIn K C1 [.type "ValueError",.type "Exception",.type "BaseException",.type "object"] "ValueError.__new__"=true)
  (x2_ex:PySem.W.excIn K C2 [.type "ValueError",.type "Exception",.type "BaseException",.type "object"] "ValueError.__new__"=true)
  (x2_ga:PySem.W.findIn K (.ref C2) "__getattribute__"=some (some (.builtin "BaseException.__getattribute__")))
  (x2_gn:PySem.W.findIn K (.ref C2) "__getattr__"=some none)
  (x2_cl:PySem.W.findIn K (.ref C2) "__class__"=some (some (.builtin "object.__class__")))
  (x2_k0:PySem.W.kitOne K (.ref C2) (.ref C1)=some false)
  (x2_k1:PySem.W.kitOne K (.ref C2) (.ref C2)=some true)
  (x2_k2:PySem.W.kitOne K (.ref C2) (.ref C3)=some false)
  (x2_k3:PySem.W.kitOne K (.ref C2) (.ref C4)=some false)
  (x2_k4:PySem.W.kitOne K (.ref C2) (.ref C5)=some false)
  (x2_k5:PySem.W.kitOne K (.ref C2) (.ref C6)=some false)
  (x2_k6:PySem.W.kitOne K (.ref C2) (.ref C7)=some false)
  (x2_k7:PySem.W.kitOne K (.ref C2) (.ref C8)=some false)
  (x2_k8:PySem.W.kitOne K (.ref C2) (.ref C9)=some false)
  (x2_k9:PySem.W.kitOne K (.ref C2) (.ref C10)=some false)
  (x2_k10:PySem.W.kitOne K (.ref C2) (.ref C11)=some false)
  (x2_k11:PySem.W.kitOne K (.ref C2) (.ref C12)=some false)
  (x2_k12:PySem.W.kitOne K (.ref C2) (.ref C13)=some false)
  (x2_k13:PySem.W.kitOne K (.ref C2) (.ref C14)=some false)
  (x2_va:PySem.W.kitOne K (.ref C2) (.type "ValueError")=some true)
  (x2_bo:PySem.W.exmOne K (.ref C2) (.ref C0)=some true)
  (a_law:PySem.W.nsIn K mainGlobals "law"=some (some (.ref fl)))
  (l_law:K.lookup fl=some ⟨oc,od,.func (PySem.W.fnOf "law" "law" (Jt KH) (QP KH) (Qf KH) .none kV doc pm an (.ref ca) ct),osl⟩)
  (c_law:PySem.W.codeIn K (.ref ca) "law"=true)
  :∃fd:FuncData,(∀(s:Shared)(v:Value),BindsTo s fd ⟨[v],[]⟩ [("_law_script",v)])∧∀(base:Heap)(c P:Addr),PySem.W.tabIn K "law"=some (c,P)→K.In base→base.Ns mainGlobals mg→Lamb mg base c P→FnOk l.prog w K mg base (CXE l.prog w) 12 fa fd ["_law_script"] (yf P):=by
 have e:=hfa.symm.trans (PySem.W.mg_of X G a_law)
 cases e
 have O:Own mg:=⟨PySem.W.mg_none_of X G z_len,PySem.W.mg_none_of X G z_range,PySem.W.mg_none_of X G z_abs,PySem.W.mg_none_of X G z_max,PySem.W.mg_none_of X G z_int,PySem.W.mg_none_of X G z_isi,PySem.W.mg_none_of X G z_bool,PySem.W.mg_none_of X G z_val,PySem.W.mg_none_of X G z_reversed,PySem.W.mg_none_of X G z_divmod,PySem.W.mg_none_of X G z_str,PySem.W.mg_none_of X G z_sum⟩
 have G2:Kind K (fun i=>([C0,C1,C2,C3,C4,C5,C6,C7,C8,C9,C10,C11,C12,C13,C14]:List Addr).getD i 0) 2:=⟨by decide,by decide,⟨x2_ex,x2_ga,x2_gn,x2_cl⟩,fun j hj=>match j,hj with|0,_=>x2_k0|1,_=>x2_k1|2,_=>x2_k2|3,_=>x2_k3|4,_=>x2_k4|5,_=>x2_k5|6,_=>x2_k6|7,_=>x2_k7|8,_=>x2_k8|9,_=>x2_k9|10,_=>x2_k10|11,_=>x2_k11|12,_=>x2_k12|13,_=>x2_k13|n+14,h=>absurd h (by omega),x2_va,x2_bo⟩
 have T:Txt K mg (fun i=>([t0,t1,t2,t3,t4,t5,t6,t7,t8]:List Tok).getD i 0) (fun i=>([C0,C1,C2,C3,C4,C5,C6,C7,C8,C9,C10,C11,C12,C13,C14]:List Addr).getD i 0) (fun i=>([R0,R1,R2,R3,R4,R5]:List Addr).getD i 0):=⟨PySem.W.mg_of X G k_0,PySem.W.mg_of X G k_1,PySem.W.mg_of X G k_2,PySem.W.mg_of X G k_3,PySem.W.mg_of X G k_4,PySem.W.mg_of X G k_5,PySem.W.mg_of X G k_6,PySem.W.mg_of X G k_7,PySem.W.mg_of X G k_8,PySem.W.mg_of X G k_9,PySem.W.mg_of X G k_10,PySem.W.mg_of X G k_11,PySem.W.mg_of X G k_12,PySem.W.mg_of X G k_13,PySem.W.mg_of X G k_14,PySem.W.mg_of X G m_FIGURES,PySem.W.mg_of X G m_PART,PySem.W.mg_of X G m_INSERTED,PySem.W.mg_of X G m_SIGNS,PySem.W.mg_of X G m_FLOATING,PySem.W.mg_of X G m_PLACES,PySem.W.mg_of X G m_MOST_FIGURES,PySem.W.mg_of X G m_MOST_SIGNS,PySem.W.mg_of X G m_LAST_BELOW,PySem.W.mg_of X G m_BESIDE,PySem.W.mg_of X G m_NOT_BELOW,PySem.W.mg_of X G m_BELOW,PySem.W.mg_of X G m_NUMBER_FORMS,PySem.W.mg_of X G m_SHOWN,PySem.W.mg_of X G m_PLAIN_KINDS,q_NUMBER_FORMS,q_SHOWN,⟨x1_ex⟩,⟨x2_ex⟩,t_str,t_int,t_NoneType,t_tuple⟩
 have KD:KDict l.prog w K ((fun i=>([R0,R1,R2,R3,R4,R5]:List Addr).getD i 0) 2) YM:=kd
 have KB:KDict l.prog w K ((fun i=>([R0,R1,R2,R3,R4,R5]:List Addr).getD i 0) 3) Qas:=kd_BESIDE
 have KN:KDict l.prog w K ((fun i=>([R0,R1,R2,R3,R4,R5]:List Addr).getD i 0) 4) nbV:=kd_NOT_BELOW
 have KW:KDict l.prog w K ((fun i=>([R0,R1,R2,R3,R4,R5]:List Addr).getD i 0) 5) bwV:=kd_BELOW
 have OL:mg "list"=none:=PySem.W.mg_none_of X G z2_list
 have OE:mg "enumerate"=none:=PySem.W.mg_none_of X G z2_enumerate
 generalize (fun i=>([C0,C1,C2,C3,C4,C5,C6,C7,C8,C9,C10,C11,C12,C13,C14]:List Addr).getD i 0)=c at G2 T
 generalize (fun i=>([R0,R1,R2,R3,R4,R5]:List Addr).getD i 0)=kr at T KD KB KN KW
 generalize (fun i=>([t0,t1,t2,t3,t4,t5,t6,t7,t8]:List Tok).getD i 0)=tk at T
 refine⟨PySem.W.fnOf "law" "law" (Jt KH) (QP KH) (Qf KH) .none kV doc pm an (.ref ca) ct,fun s v=>.of_eq rfl,fun base c' P ht kb nb L=>?_⟩
 obtain rfl:c'=ca:=by
  have z:PySem.W.tabIn K "law"=some (c',P):=ht
  unfold PySem.W.tabIn at z
  simp only[a_law,l_law]at z
  split at z
  ·split at z
   ·cases z;rfl
   ·cases z
  ·cases z
 have D_ten_to:Def l.prog w K mg base 1 "ten_to" ["many"] (YL):=d_ten_to.d1 X G (fun f fd F=>zA F O) fun _ _ _ _ _ _ _=>rfl
 have D_is_figures:Def l.prog w K mg base 1 "is_figures" ["text"] (UD):=d_is_figures.d1 X G (fun f fd F=>VO F T) fun _ _ _ _ _ _ _=>rfl
 have D_number_of:Def l.prog w K mg base 2 "number_of" ["text"] (vP):=d_number_of.d1 X G (fun f fd F=>YN F O T D_ten_to) fun _ _ _ _ _ _ _=>rfl
 have D_times_at:Def l.prog w K mg base 3 "times_at" ["text","at"] (UE):=d_times_at.d2 X G (fun f fd F=>UF F O T D_is_figures D_number_of) fun _ _ _ _ _ _ _ _=>rfl
 have D_rows_of:Def l.prog w K mg base 4 "rows_of" ["thing"] (qm K):=d_rows_of.d1 X G (fun f fd F=>qY F O T D_times_at) fun _ _ _ _ _ _ _=>rfl
 have D_floats_at:Def l.prog w K mg base 1 "floats_at" ["rows","at"] (VQ K):=d_floats_at.d2 X G (fun f fd F=>YQ F O T) fun _ _ _ _ _ _ _ _=>rfl
 have D_places_of:Def l.prog w K mg base 1 "places_of" ["rows","at","place"] (VR K):=d_places_of.d3 X G (fun f fd F=>YR F O T) fun _ _ _ _ _ _ _ _ _=>rfl
 have D_whole_part:Def l.prog w K mg base 2 "whole_part" ["rows","at"] (UG K):=d_whole_part.d2 X G (fun f fd F=>VS F O T D_places_of) fun _ _ _ _ _ _ _ _=>rfl
 have D_broken_part:Def l.prog w K mg base 1 "broken_part" ["rows","at","place"] (VT K):=d_broken_part.d3 X G (fun f fd F=>WX F O T) fun _ _ _ _ _ _ _ _ _=>rfl
 have D_lead_of:Def l.prog w K mg base 2 "lead_of" ["rows"] (qo K):=d_lead_of.d1 X G (fun f fd F=>q0 F O T D_floats_at) fun _ _ _ _ _ _ _=>rfl
 have D_tail_of:Def l.prog w K mg base 1 "tail_of" ["rows","at"] (qp K):=d_tail_of.d2 X G (fun f fd F=>ja F O T) fun _ _ _ _ _ _ _ _=>rfl
 have D_number_facts:Def l.prog w K mg base 1 "number_facts" ["rows"] (J2 K QQ):=d_number_facts.d1 X G (fun f fd F=>WD F O T) fun _ _ _ _ _ _ _=>rfl
 have D_plain_facts:Def l.prog w K mg base 1 "plain_facts" ["rows"] (J2 K Js):=d_plain_facts.d1 X G (fun f fd F=>WY F O T KD) fun _ _ _ _ _ _ _=>rfl
 have D_body_of:Def l.prog w K mg base 3 "body_of" ["rows","at"] (qr K):=d_body_of.d2 X G (fun f fd F=>jc F D_whole_part D_broken_part) fun _ _ _ _ _ _ _ _=>rfl
 have D_edited_facts:Def l.prog w K mg base 4 "edited_facts" ["rows"] (J2 K Q5):=d_edited_facts.d1 X G (fun f fd F=>WE F O T D_lead_of D_body_of D_tail_of) fun _ _ _ _ _ _ _=>rfl
 have D_facts_of:Def l.prog w K mg base 5 "facts_of" ["rows"] (J2 K JI):=d_facts_of.d1 X G (fun f fd F=>UI F D_number_facts D_plain_facts D_edited_facts) fun _ _ _ _ _ _ _=>rfl
 have D_understood:Def l.prog w K mg base 6 "understood" ["picture"] (VW K c):=d_understood.d1 X G (fun f fd F=>VX F T D_rows_of D_facts_of) fun _ _ _ _ _ _ _=>rfl
 have D_kind_of:Def l.prog w K mg base 7 "kind_of" ["picture"] (qy c):=d_kind_of.d1 X G (fun f fd F=>je F D_understood) fun _ _ _ _ _ _ _=>rfl
 have D_quotient_cut:Def l.prog w K mg base 1 "quotient_cut" ["number","by"] (zL):=d_quotient_cut.d2 X G (fun f fd F=>WF F O) fun _ _ _ _ _ _ _ _=>rfl
 have D_cut:Def l.prog w K mg base 2 "cut" ["amount","places"] (zM K):=d_cut.d2 X G (fun f fd F=>Qar F O D_ten_to D_quotient_cut) fun _ _ _ _ _ _ _ _=>rfl
 have D_rounded:Def l.prog w K mg base 2 "rounded" ["amount","places"] (Kd K):=d_rounded.d2 X G (fun f fd F=>jf F O D_ten_to) fun _ _ _ _ _ _ _ _=>rfl
 have D_fitted:Def l.prog w K mg base 3 "fitted" ["amount","before","behind"] (kC K):=d_fitted.d3 X G (fun f fd F=>zN F O D_ten_to D_cut) fun _ _ _ _ _ _ _ _ _=>rfl
 have D_figures_of:Def l.prog w K mg base 2 "figures_of" ["number"] (qt):=d_figures_of.d1 X G (fun f fd F=>VY F O T D_ten_to) fun _ _ _ _ _ _ _=>rfl
 have D_written_out:Def l.prog w K mg base 1 "written_out" ["rows"] (vW K):=d_written_out.d1 X G (fun f fd F=>WZ F O) fun _ _ _ _ _ _ _=>rfl
 have D_size_of:Def l.prog w K mg base 7 "size_of" ["picture"] (zO):=d_size_of.d1 X G (fun f fd F=>jd F O D_understood) fun _ _ _ _ _ _ _=>rfl
 have D_understood_as:Def l.prog w K mg base 6 "understood_as" ["kind","picture"] (WH K c):=d_understood_as.d2 X G (fun f fd F=>KJ F T D_rows_of D_facts_of) fun _ _ _ _ _ _ _ _=>rfl
 have D_sign_text:Def l.prog w K mg base 1 "sign_text" ["symbols","is_below"] (qv):=d_sign_text.d2 X G (fun f fd F=>YX F T KN KW) fun _ _ _ _ _ _ _ _=>rfl
 have D_hides_nought:Def l.prog w K mg base 1 "hides_nought" ["body"] (UL):=d_hides_nought.d1 X G (fun f fd F=>WI F T) fun _ _ _ _ _ _ _=>rfl
 have D_nought_text:Def l.prog w K mg base 1 "nought_text" ["symbols"] (VZ):=d_nought_text.d1 X G (fun f fd F=>W1 F O) fun _ _ _ _ _ _ _=>rfl
 have D_spread:Def l.prog w K mg base 3 "spread" ["body","units"] (V0):=d_spread.d2 X G (fun f fd F=>zS F O T KB D_figures_of) fun _ _ _ _ _ _ _ _=>rfl
 have D_hidden_in:Def l.prog w K mg base 1 "hidden_in" ["body","signs"] (V1):=d_hidden_in.d2 X G (fun f fd F=>YY F O OE T) fun _ _ _ _ _ _ _ _=>rfl
 have D_body_text:Def l.prog w K mg base 4 "body_text" ["body","units","is_below"] (UM):=d_body_text.d3 X G (fun f fd F=>YZ F T D_spread D_hidden_in D_sign_text) fun _ _ _ _ _ _ _ _ _=>rfl
 have D_edited_parts:Def l.prog w K mg base 4 "edited_parts" ["rows"] (UN K):=d_edited_parts.d1 X G (fun f fd F=>WJ F D_lead_of D_body_of D_written_out D_tail_of) fun _ _ _ _ _ _ _=>rfl
 have D_edited:Def l.prog w K mg base 7 "edited" ["picture","amount"] (V4 K c):=d_edited.d2 X G (fun f fd F=>zV F O D_understood_as D_edited_parts D_fitted D_hides_nought D_nought_text D_sign_text D_body_text) fun _ _ _ _ _ _ _ _=>rfl
 have D_content_of:Def l.prog w K mg base 7 "content_of" ["picture","amount"] (qx K c):=d_content_of.d2 X G (fun f fd F=>V6 F O T D_understood_as D_fitted D_figures_of) fun _ _ _ _ _ _ _ _=>rfl
 have D_put:Def l.prog w K mg base 8 "put" ["picture","amount"] (kG K):=d_put.d2 X G (fun f fd F=>Qav F D_kind_of D_content_of D_edited) fun _ _ _ _ _ _ _ _=>rfl
 have D_blank:Def l.prog w K mg base 9 "blank" ["picture"] (UO):=d_blank.d1 X G (fun f fd F=>kH F D_kind_of D_put D_size_of) fun _ _ _ _ _ _ _=>rfl
 have D__law_draw:Def l.prog w K mg base 1 "_law_draw" ["_law_script","_law_town","_law_many"] (X1 K):=d__law_draw.d3 X G (fun f fd F=>Y1 F O) fun _ _ _ _ _ _ _ _ _=>rfl
 have D__law_begun:Def l.prog w K mg base 1 "_law_begun" [] (Uj):=d__law_begun.d0 X G (fun f fd F=>V8 F) fun _ _ _ _ _ _=>rfl
 have D__law_class:Def l.prog w K mg base 1 "_law_class" ["_law_kept"] (WM K c):=d__law_class.d1 X G (fun f fd F=>V9 F O T) fun _ _ _ _ _ _ _=>rfl
 have D__law_places:Def l.prog w K mg base 2 "_law_places" ["_law_script","_law_town","_law_symbol","_law_most"] (v8 K):=d__law_places.d4 X G (fun f fd F=>W2 F O D__law_draw) fun _ _ _ _ _ _ _ _ _ _=>rfl
 have D__law_line:Def l.prog w K mg base 1 "_law_line" ["_law_parts"] (Y3 K):=d__law_line.d1 X G (fun f fd F=>Y4 F) fun _ _ _ _ _ _ _=>rfl
 have D__law_an_edited:Def l.prog w K mg base 3 "_law_an_edited" ["_law_script","_law_town"] (QbG K):=d__law_an_edited.d2 X G (fun f fd F=>Ku F O D__law_draw D__law_places) fun _ _ _ _ _ _ _ _=>rfl
 have D__law_an_amount:Def l.prog w K mg base 2 "_law_an_amount" ["_law_script","_law_town","_law_figures","_law_far"] (Ya K):=d__law_an_amount.d4 X G (fun f fd F=>Kv F O D__law_draw) fun _ _ _ _ _ _ _ _ _ _=>rfl
 have D__law_a_number:Def l.prog w K mg base 2 "_law_a_number" ["_law_script","_law_town"] (z3 K):=d__law_a_number.d2 X G (fun f fd F=>KK F D__law_draw) fun _ _ _ _ _ _ _ _=>rfl
 have D__law_content:Def l.prog w K mg base 1 "_law_content" ["_law_shows","_law_before","_law_behind","_law_amount_here"] (UT K):=d__law_content.d4 X G (fun f fd F=>WN F O) fun _ _ _ _ _ _ _ _ _ _=>rfl
 have D__law_edit:Def l.prog w K mg base 2 "_law_edit" ["_law_parts","_law_amount_here"] (UU K):=d__law_edit.d2 X G (fun f fd F=>Y6 F O OL OE D__law_line) fun _ _ _ _ _ _ _ _=>rfl
 have D_stored:DefD l.prog w K mg base 8 "stored" ["picture","amount","nearest"] (.bl false) (JL K c):=by
  refine dD_stored.Qcn X G (fun f fd F=>WL F O D_ten_to D_understood_as D_cut D_rounded D_content_of) fun _ _ _ _ _ _ _ _=>?_
  refine' .mk (σ:=?a) (τ:=?b) ?g1 ?g2 ?g3 ?h1 ?h2
  case h1=>exact Eq.refl _
  case h2=>exact Eq.refl _
 have DK2_stored:DefK2D l.prog w K mg base 8 "stored" "picture" "amount" "nearest" (.bl false) (JL K c):=by
  refine dD_stored.yX X G (fun f fd F=>WL F O D_ten_to D_understood_as D_cut D_rounded D_content_of) fun _ _ _ _ _ _ _ _=>?_
  refine' .mk (σ:=?a2) (τ:=?b2) ?j1 ?j2 ?j3 ?i1 ?i2
  case i1=>exact Eq.refl _
  case i2=>exact Eq.refl _
 have DK_stored:DefK21 l.prog w K mg base 8 "stored" ["picture","amount","nearest"] ["nearest"] (JL K c):=dD_stored.yY X G (fun f fd F=>WL F O D_ten_to D_understood_as D_cut D_rounded D_content_of) fun _ _ _ _ _ _ _ _ _=>rfl
 obtain⟨fh,fdh,ah,Fh⟩:=d_heard.ex
 have hbh:Binds K fdh ["_law_deed"] []:=Fh.binds (ps:=["_law_deed"]) fun _ _ _ _ _ _ us hl=>match us,hl with|[_],_=>rfl
 exact QaG (P:=l.prog) (w:=w) (base:=base) ⟨oc,od,kV,doc,pm,an,ct,osl,rfl,l_law,c_law⟩ O T L Fh (PySem.W.mg_of X G ah) hbh G2 D__law_class D__law_begun D__law_draw D__law_an_amount D__law_a_number D__law_content D__law_an_edited D__law_line D__law_edit D_cut D_rounded D_blank D_stored DK_stored DK2_stored
theorem QaH{P:Program}{w:World}{H:Hp}{s:Shared}{e:Value}{s':Shared}(z:CXE P w [] H s (fun _ _ _=>False) e s'):False:=by
 obtain⟨_,_,_,_,_,_,_,_,_,_,_,_,_,_,h⟩:=z
 exact h
theorem yh{K:PySem.W.Frag}{fl c P:Addr}{oc kV doc pm ct oc2:Value}{od an od2:Option Addr}{osl osl2:Array (Option Value)}{vs:Array Value}(a:PySem.W.nsIn K mainGlobals "law"=some (some (.ref fl)))
  (l:K.lookup fl=some ⟨oc,od,.func (PySem.W.fnOf "law" "law" (Jt KH) (QP KH) (Qf KH) .none kV doc pm an (.ref c) ct),osl⟩) (lc:K.lookup c=some ⟨oc2,od2,.fields vs,osl2⟩) (hv:(vs[11]? :Option Value)=some (.ref P)):∃c P,PySem.W.tabIn K "law"=some (c,P):=⟨c,P,yQ a l rfl lc hv⟩
end Lw
namespace PySem.W.Fast
theorem tw3538430576118548608:True:=trivial
theorem tw11668440438616263840:True:=trivial
theorem tw7731695660859532512:True:=trivial
theorem tw12480495040464508256:True:=trivial
theorem tw2730592021967407488:True:=trivial
theorem tw7006843481917227392:True:=trivial
theorem tw7915418780157231520:True:=trivial
theorem tw5191298456484019616:True:=trivial
theorem tw10819242836435715552:True:=trivial
theorem tw11671726950841880064:True:=trivial
theorem tw15767871286389199456:True:=trivial
theorem tw15718069798011036320:True:=trivial
theorem tw16619822423733136128:True:=trivial
theorem tw11440547846651626272:True:=trivial
theorem tw12335323760127327072:True:=trivial
theorem tw11926392115772621664:True:=trivial
theorem tw5256052993248106464:True:=trivial
theorem tw3615449480423453697:True:=trivial
theorem tw7691008286068754433:True:=trivial
theorem tw2215212521220273153:True:=trivial
theorem tw15223590082652015681:True:=trivial
theorem tw9251135683754665057:True:=trivial
theorem tw10756683272453810273:True:=trivial
theorem tw9983797427138918561:True:=trivial
theorem tw15178581787503153377:True:=trivial
theorem tw10139107497606209793:True:=trivial
theorem tw3075505554068415777:True:=trivial
theorem tw2208630558831936865:True:=trivial
theorem tw9601363757345474913:True:=trivial
theorem tw7951831675004682625:True:=trivial
theorem tw5075388930656094817:True:=trivial
theorem tw14758452223841935073:True:=trivial
theorem tw9253043436463932450:True:=trivial
theorem tw1123780269592104034:True:=trivial
theorem tw16279301560121486466:True:=trivial
theorem tw17632258380946938178:True:=trivial
theorem tw12752258080781967746:True:=trivial
theorem tw15592530955622165954:True:=trivial
theorem tw13340350123620202114:True:=trivial
theorem tw16063261013463229090:True:=trivial
theorem tw8615812853809738466:True:=trivial
theorem tw14913847220898372418:True:=trivial
theorem tw8078299330893090883:True:=trivial
theorem tw14181093557691950147:True:=trivial
theorem tw10526748084200075331:True:=trivial
theorem tw12495756497073390723:True:=trivial
theorem tw11645815953997111491:True:=trivial
theorem tw16468818923824592067:True:=trivial
theorem tw3538248900459610339:True:=trivial
theorem tw17490309703629172963:True:=trivial
theorem tw18279735640937466179:True:=trivial
theorem tw1529910139384081827:True:=trivial
theorem tw12962527668407917987:True:=trivial
theorem tw15931178435086959139:True:=trivial
theorem tw7464308373810156099:True:=trivial
theorem tw52391062189671107:True:=trivial
theorem tw4222963000744649411:True:=trivial
theorem tw163819676970354403:True:=trivial
theorem tw8044788941110121187:True:=trivial
theorem tw15141941847054275331:True:=trivial
theorem tw3421857234018187043:True:=trivial
theorem tw13897039697598704483:True:=trivial
theorem tw4339393342697797507:True:=trivial
theorem tw15239305882268158084:True:=trivial
theorem tw4327657015992644804:True:=trivial
theorem tw7664429836252580196:True:=trivial
theorem tw186586999874850244:True:=trivial
theorem tw13857156648932163076:True:=trivial
theorem tw15191148407387010660:True:=trivial
theorem tw5263626979029828324:True:=trivial
theorem tw10377067560450993924:True:=trivial
theorem tw8922554489541723940:True:=trivial
theorem tw6599935915890139940:True:=trivial
theorem tw13223402019800868804:True:=trivial
theorem tw7395675279045295076:True:=trivial
theorem tw3001547722312124421:True:=trivial
theorem tw4476288771287002213:True:=trivial
theorem tw10186650690388910373:True:=trivial
theorem tw9236333481380439461:True:=trivial
theorem tw3622182705699702245:True:=trivial
theorem tw13808822723981783749:True:=trivial
theorem tw8332885974419706597:True:=trivial
theorem tw11036974195760696165:True:=trivial
theorem tw8468064759658235781:True:=trivial
theorem tw13752215687979483013:True:=trivial
theorem tw8265118883542009797:True:=trivial
theorem tw3041392393675310053:True:=trivial
theorem tw13948292427207118854:True:=trivial
theorem tw9989201594458550342:True:=trivial
theorem tw7692913672213013606:True:=trivial
theorem tw1463048757175268550:True:=trivial
theorem tw5843793071522027782:True:=trivial
theorem tw9083104552599006502:True:=trivial
theorem tw7462633895293985094:True:=trivial
theorem tw2777434778390743366:True:=trivial
theorem tw9592632850940742022:True:=trivial
theorem tw17543754721026904486:True:=trivial
theorem tw5984003033387897350:True:=trivial
theorem tw8902055697210611302:True:=trivial
theorem tw8682189135220932230:True:=trivial
theorem tw16675794669556310822:True:=trivial
theorem tw4328069149518986022:True:=trivial
theorem tw10280325318264459078:True:=trivial
theorem tw14928145111670949766:True:=trivial
theorem tw18299110783929578406:True:=trivial
theorem tw4779401909059870694:True:=trivial
theorem tw14311891664262334503:True:=trivial
theorem tw9230903997193293863:True:=trivial
theorem tw10209198146059709607:True:=trivial
theorem tw2424821832024372391:True:=trivial
theorem tw13498956078750135559:True:=trivial
theorem tw18340851213057398183:True:=trivial
theorem tw7673765813300173255:True:=trivial
theorem tw6536139861464659463:True:=trivial
theorem tw14571662327252421191:True:=trivial
theorem tw5738877095850621511:True:=trivial
theorem tw13603368506838860455:True:=trivial
theorem tw7495594479273696071:True:=trivial
theorem tw6760616118985401448:True:=trivial
theorem tw10051447106080102536:True:=trivial
theorem tw16484460643325832456:True:=trivial
theorem tw11489547881989990696:True:=trivial
theorem tw8435955293905237352:True:=trivial
theorem tw2413389601943067080:True:=trivial
theorem tw4807565983099650536:True:=trivial
theorem tw639327368761326152:True:=trivial
theorem tw2423603420896115336:True:=trivial
theorem tw10953890858036093576:True:=trivial
theorem tw9187608650064013064:True:=trivial
theorem tw6903411412470396680:True:=trivial
theorem tw1174663036199501608:True:=trivial
theorem tw11356836612181439464:True:=trivial
theorem tw14598703802085632009:True:=trivial
theorem tw10565084739181047881:True:=trivial
theorem tw5057945731841326153:True:=trivial
theorem tw9308637896036461705:True:=trivial
theorem tw11363429381485675721:True:=trivial
theorem tw4752850979038318793:True:=trivial
theorem tw7011643194193311945:True:=trivial
theorem tw2465712913683444969:True:=trivial
theorem tw14073532765946320233:True:=trivial
theorem tw4696987966284789193:True:=trivial
theorem tw10769108518365403721:True:=trivial
theorem tw7316738419512255241:True:=trivial
theorem tw14408303333295661961:True:=trivial
theorem tw10089794560316951529:True:=trivial
theorem tw5838877700196041962:True:=trivial
theorem tw222130740868590986:True:=trivial
theorem tw13074731171086307786:True:=trivial
theorem tw15999591715568161578:True:=trivial
theorem tw15988183653903023978:True:=trivial
theorem tw3425507242951890826:True:=trivial
theorem tw16152776196182376330:True:=trivial
theorem tw14409121544742643690:True:=trivial
theorem tw10455281285833365579:True:=trivial
theorem tw2817129215448037515:True:=trivial
theorem tw12560663977588932779:True:=trivial
theorem tw17277501091985504459:True:=trivial
theorem tw6200350713764084011:True:=trivial
theorem tw11858907146511467851:True:=trivial
theorem tw13534774936620214699:True:=trivial
theorem tw13320410005660536427:True:=trivial
theorem tw1040361612918027979:True:=trivial
theorem tw9159237079716222667:True:=trivial
theorem tw16941839898894596939:True:=trivial
theorem tw12802662140432795531:True:=trivial
theorem tw12063277088723335115:True:=trivial
theorem tw17654553220285018156:True:=trivial
theorem tw5282917057938367628:True:=trivial
theorem tw16383030846393955596:True:=trivial
theorem tw2770103236031839532:True:=trivial
theorem tw4621294849470171468:True:=trivial
theorem tw10342728859294868876:True:=trivial
theorem tw9509665070977603148:True:=trivial
theorem tw12381277069242901260:True:=trivial
theorem tw15980971780743339884:True:=trivial
theorem tw3026608047360708524:True:=trivial
theorem tw1134773149331835820:True:=trivial
theorem tw4852339919884737452:True:=trivial
theorem tw16730531655331937228:True:=trivial
theorem tw5231503032631259277:True:=trivial
theorem tw17412210551297576141:True:=trivial
theorem tw13635648431580645581:True:=trivial
theorem tw9628767587234240749:True:=trivial
theorem tw4864994500380985837:True:=trivial
theorem tw9794622859068284653:True:=trivial
theorem tw10759315701266026349:True:=trivial
theorem tw5327808682559652910:True:=trivial
theorem tw5262056059933249710:True:=trivial
theorem tw8782788770517956942:True:=trivial
theorem tw3642963744969471374:True:=trivial
theorem tw321885559594700174:True:=trivial
theorem tw5979311359478846894:True:=trivial
theorem tw12772301942610157038:True:=trivial
theorem tw16489117304593131022:True:=trivial
theorem tw17788735083953506830:True:=trivial
theorem tw8612031625383629358:True:=trivial
theorem tw2533633835329998446:True:=trivial
theorem tw14035166034503496366:True:=trivial
theorem tw9358224408412423854:True:=trivial
theorem tw5067203960857069230:True:=trivial
theorem tw6855071598427695822:True:=trivial
theorem tw12109224378502996718:True:=trivial
theorem tw15966353501958581038:True:=trivial
theorem tw3017791341841887022:True:=trivial
theorem tw2950862118699775790:True:=trivial
theorem tw745615531016109902:True:=trivial
theorem tw17045464183053603662:True:=trivial
theorem tw12927495514558512143:True:=trivial
theorem tw13871566401688200207:True:=trivial
theorem tw13700325063532181615:True:=trivial
theorem tw12372354297031134351:True:=trivial
theorem tw12232608771379772591:True:=trivial
theorem tw102704821897389327:True:=trivial
theorem tw14833116572407048687:True:=trivial
theorem tw9492431458387774959:True:=trivial
theorem tw8085844359722809871:True:=trivial
theorem tw13105674491636193807:True:=trivial
theorem tw7342554833984448047:True:=trivial
theorem tw15592880502350113359:True:=trivial
theorem tw11447523454231861871:True:=trivial
theorem tw14773448900492318351:True:=trivial
theorem tw10277716102753080047:True:=trivial
theorem tw12944892633697656591:True:=trivial
theorem tw3756836335191782223:True:=trivial
theorem tw16085594122697056143:True:=trivial
theorem tw7823370787664585744:True:=trivial
theorem tw3409683562574544912:True:=trivial
theorem tw13766641588305328176:True:=trivial
theorem tw3502246133125975216:True:=trivial
theorem tw17554926531168009712:True:=trivial
theorem tw5277089337396750832:True:=trivial
theorem tw10695525358082240048:True:=trivial
theorem tw13674729982185917136:True:=trivial
theorem tw16637534067482699600:True:=trivial
theorem tw5513745272453608304:True:=trivial
theorem tw4230771042769749904:True:=trivial
theorem tw16358617017557461041:True:=trivial
theorem tw9691255843509852305:True:=trivial
theorem tw16696097295101568145:True:=trivial
theorem tw3054927935552330961:True:=trivial
theorem tw10172383953433856337:True:=trivial
theorem tw14597937177289057745:True:=trivial
theorem tw16670418217863257681:True:=trivial
theorem tw12743450438012678801:True:=trivial
theorem tw18064853870276997809:True:=trivial
theorem tw15832063747453652689:True:=trivial
theorem tw9610749255045143377:True:=trivial
theorem tw18380225400760010577:True:=trivial
theorem tw15160414241389777841:True:=trivial
theorem tw15751000029722916882:True:=trivial
theorem tw12049863121122375826:True:=trivial
theorem tw16877340910012096882:True:=trivial
theorem tw3686336214060318098:True:=trivial
theorem tw10782286309061983762:True:=trivial
theorem tw17648911643895859762:True:=trivial
theorem tw4787535249304541746:True:=trivial
theorem tw9533202988537598578:True:=trivial
theorem tw891422982844876530:True:=trivial
theorem tw9591830166842879922:True:=trivial
theorem tw11142205228157325234:True:=trivial
theorem tw12777611688018382867:True:=trivial
theorem tw5496052811143575635:True:=trivial
theorem tw4775862484517627987:True:=trivial
theorem tw10068858693078089843:True:=trivial
theorem tw13274136293168265427:True:=trivial
theorem tw13602174192725682451:True:=trivial
theorem tw8964980125590321459:True:=trivial
theorem tw6922069992849173843:True:=trivial
theorem tw6959469299011209555:True:=trivial
theorem tw15209327799263938099:True:=trivial
theorem tw944963984764255827:True:=trivial
theorem tw7256130108213325459:True:=trivial
theorem tw12638678379824802547:True:=trivial
theorem tw4294614111305052147:True:=trivial
theorem tw8402503363193216020:True:=trivial
theorem tw16839570815722703060:True:=trivial
theorem tw15497177060834175316:True:=trivial
theorem tw14542942405730391540:True:=trivial
theorem tw16086424735381448212:True:=trivial
theorem tw9536012778120122964:True:=trivial
theorem tw1993908811042949748:True:=trivial
theorem tw2131162348779616148:True:=trivial
theorem tw5520383376374658036:True:=trivial
theorem tw14160470041704244341:True:=trivial
theorem tw16533723716732599445:True:=trivial
theorem tw14978773565603160213:True:=trivial
theorem tw6949763567475797141:True:=trivial
theorem tw10928382875111143605:True:=trivial
theorem tw3158985686811305429:True:=trivial
theorem tw5691512756061595093:True:=trivial
theorem tw18160948148856968821:True:=trivial
theorem tw12043006268196564629:True:=trivial
theorem tw1386422236440110901:True:=trivial
theorem tw18176803804330072917:True:=trivial
theorem tw4760309058094987125:True:=trivial
theorem tw5825641897444829077:True:=trivial
theorem tw10265349241869453237:True:=trivial
theorem tw17307721702443858998:True:=trivial
theorem tw9380668388507918422:True:=trivial
theorem tw12524549329427529846:True:=trivial
theorem tw6701739336370141462:True:=trivial
theorem tw6938886718475745686:True:=trivial
theorem tw15929694288637010358:True:=trivial
theorem tw11931063012009165430:True:=trivial
theorem tw6134271309688189686:True:=trivial
theorem tw4196127276394755830:True:=trivial
theorem tw13568966643600518934:True:=trivial
theorem tw17041437346404127574:True:=trivial
theorem tw5322350097539174262:True:=trivial
theorem tw3999144753579128726:True:=trivial
theorem tw13189211678774014902:True:=trivial
theorem tw5022762993784932375:True:=trivial
theorem tw4135584008046367863:True:=trivial
theorem tw11639263101907860695:True:=trivial
theorem tw668496377346353527:True:=trivial
theorem tw11233222371190131095:True:=trivial
theorem tw15545753814881380919:True:=trivial
theorem tw17178060880271550135:True:=trivial
theorem tw17486373024781484791:True:=trivial
theorem tw14540499896325687063:True:=trivial
theorem tw6868228342422535127:True:=trivial
theorem tw420970192829836279:True:=trivial
theorem tw8100879538621699128:True:=trivial
theorem tw11741127688086703192:True:=trivial
theorem tw2217555805945588888:True:=trivial
theorem tw18029433619536464024:True:=trivial
theorem tw16798306802270341368:True:=trivial
theorem tw10122011371129142552:True:=trivial
theorem tw13528128896321215864:True:=trivial
theorem tw3531109515141861848:True:=trivial
theorem tw4763977588890157560:True:=trivial
theorem tw14279852744837596696:True:=trivial
theorem tw7695030813924326968:True:=trivial
theorem tw3449747906114752088:True:=trivial
theorem tw18097498150730580888:True:=trivial
theorem tw13761978860264609881:True:=trivial
theorem tw14330398802258380953:True:=trivial
theorem tw15758429398880139577:True:=trivial
theorem tw1276269628342355481:True:=trivial
theorem tw5963875225529913977:True:=trivial
theorem tw11473789893121529689:True:=trivial
theorem tw6701423419581394809:True:=trivial
theorem tw560263026766496665:True:=trivial
theorem tw12546227237615898714:True:=trivial
theorem tw2369244002946647130:True:=trivial
theorem tw17054233330731264154:True:=trivial
theorem tw10247279390146016410:True:=trivial
theorem tw17866761386006597850:True:=trivial
theorem tw14292177861788160250:True:=trivial
theorem tw15077493616415684922:True:=trivial
theorem tw13966055798908195354:True:=trivial
theorem tw6483887310355546650:True:=trivial
theorem tw13789363432167749242:True:=trivial
theorem tw17968969262672130714:True:=trivial
theorem tw5483653952684659354:True:=trivial
theorem tw9279098598500718330:True:=trivial
theorem tw16769012473923470138:True:=trivial
theorem tw17820184060412972858:True:=trivial
theorem tw15908670099981527930:True:=trivial
theorem tw3302424542371714010:True:=trivial
theorem tw17544678175286107098:True:=trivial
theorem tw13100994356001521723:True:=trivial
theorem tw6440229240000041115:True:=trivial
theorem tw5031258360533725531:True:=trivial
theorem tw7696143573048103323:True:=trivial
theorem tw7838150485947160059:True:=trivial
theorem tw2343229955702571579:True:=trivial
theorem tw6048485742198649435:True:=trivial
theorem tw16130558917307455131:True:=trivial
theorem tw12650349668610863867:True:=trivial
theorem tw11075111841040308027:True:=trivial
theorem tw17837009167096941403:True:=trivial
theorem tw13283353140684553115:True:=trivial
theorem tw6420249313252053052:True:=trivial
theorem tw10379591412407319612:True:=trivial
theorem tw1937499121251651708:True:=trivial
theorem tw17291933632366308508:True:=trivial
theorem tw11707820677762766108:True:=trivial
theorem tw1175683411892806940:True:=trivial
theorem tw1528021794908711260:True:=trivial
theorem tw2721980048509616508:True:=trivial
theorem tw58949447336797596:True:=trivial
theorem tw12401904584510837180:True:=trivial
theorem tw3587522604521974460:True:=trivial
theorem tw5389689575401786172:True:=trivial
theorem tw2061853581526214556:True:=trivial
theorem tw6527847897278453756:True:=trivial
theorem tw17469689193375630332:True:=trivial
theorem tw17041162861628648509:True:=trivial
theorem tw12396023091464241245:True:=trivial
theorem tw6329864456730409053:True:=trivial
theorem tw103377106259686557:True:=trivial
theorem tw8257565521106856093:True:=trivial
theorem tw8485236935635911997:True:=trivial
theorem tw12352947299300325693:True:=trivial
theorem tw9959244112524152189:True:=trivial
theorem tw3767143809601078877:True:=trivial
theorem tw13299351561670518525:True:=trivial
theorem tw15089308188150255389:True:=trivial
theorem tw8640255067556030397:True:=trivial
theorem tw12297430270817848350:True:=trivial
theorem tw13465090136779766814:True:=trivial
theorem tw8003724825584687166:True:=trivial
theorem tw18263292956067814462:True:=trivial
theorem tw11326161082066472222:True:=trivial
theorem tw16437985583047775582:True:=trivial
theorem tw15662174718725958174:True:=trivial
theorem tw15752321105973454398:True:=trivial
theorem tw1481456490795554430:True:=trivial
theorem tw6381583054561008350:True:=trivial
theorem tw17473396587852279582:True:=trivial
theorem tw14510095687839080222:True:=trivial
theorem tw4794041145853070142:True:=trivial
theorem tw1463782009155418078:True:=trivial
theorem tw7518840263280449727:True:=trivial
theorem tw14337463677942257887:True:=trivial
theorem tw10634456015495763231:True:=trivial
theorem tw4868873710255775007:True:=trivial
theorem tw132433610630042079:True:=trivial
theorem tw16139029562899420671:True:=trivial
theorem tw6879531659849670175:True:=trivial
theorem tw13352336157443071647:True:=trivial
theorem tw7175827962825560735:True:=trivial
theorem tw4331878694441071295:True:=trivial
theorem tw17613496401438029535:True:=trivial
theorem tw5586759685835127615:True:=trivial
theorem tw14842172484143680351:True:=trivial
theorem tw6623378340849975199:True:=trivial
theorem tw17907502621365489663:True:=trivial
theorem tw9982739967125911726:True:=trivial
end PySem.W.Fast
open PySem PySem.W PyProof.Rows
set_option maxRecDepth 100000 in
set_option maxHeartbeats 0 in
theorem PySem.Challenge.cw_boxmoves_k19_stored_holds : PySem.Challenge.rw_boxmoves_k19_stored.Holds := by
 w_on;o_law;k_head;(case hw=>w_witness2)
 k_fill
 refine L2.xE (l:=PySem.Challenge.rw_boxmoves_k19_stored) (n:=63) (k:=12) (x:="_law_script") (CX:=fun w=>L2.CXE PySem.Challenge.rw_boxmoves_k19_stored.prog w) (sp:=fun _ P=>Lw.yf P) rfl (by decide) rfl ⟨rfl,by decide,by decide⟩ (fun w h Y=>PySem.W.km_in_of Y) ?nL ?nT rfl ?hT ?F (fun w H a P ns hl hO hS=>⟨a,ns,rfl,hl,hO,hS,fun _=>rfl⟩) (fun w H s e s' z=>Lw.QaH z)
 case nL=>intro w;kernel_rfl
 case nT=>intro w;kernel_rfl
 case hT=>
  intro w
  refine' Lw.yh ?a ?l ?lc ?hv
  (case a=>k_is);(case l=>k_is);(case lc=>k_is);(case hv=>exact rfl)
 case F=>
  intro w mg fa h KX G hmg
  refine' Lw.all_mk KX G hmg ?d_ten_to ?d_is_figures ?d_number_of ?d_times_at ?d_rows_of ?d_floats_at ?d_places_of ?d_whole_part ?d_broken_part ?d_lead_of ?d_tail_of ?d_number_facts ?d_plain_facts ?d_body_of ?d_edited_facts ?d_facts_of ?d_understood ?d_kind_of ?d_quotient_cut ?d_cut ?d_rounded ?d_fitted ?d_figures_of ?d_written_out ?d_size_of ?d_understood_as ?d_sign_text ?d_hides_nought ?d_nought_text ?d_spread ?d_hidden_in ?d_body_text ?d_edited_parts ?d_edited ?d_content_of ?d_put ?d_blank ?d__law_draw ?d__law_begun ?d__law_class ?d__law_places ?d__law_line ?d__law_an_edited ?d__law_an_amount ?d__law_a_number ?d__law_content ?d__law_edit ?d_heard ?k_0 ?k_1 ?k_2 ?k_3 ?k_4 ?k_5 ?k_6 ?k_7 ?k_8 ?k_9 ?k_10 ?k_11 ?k_12 ?k_13 ?k_14 ?m_FIGURES ?m_INSERTED ?m_SIGNS ?m_FLOATING ?m_PLACES ?m_LAST_BELOW ?m_PART ?m_MOST_FIGURES ?m_MOST_SIGNS ?m_NUMBER_FORMS ?m_SHOWN ?m_PLAIN_KINDS ?q_NUMBER_FORMS ?q_SHOWN ?kd ?m_BESIDE ?kd_BESIDE ?m_NOT_BELOW ?kd_NOT_BELOW ?m_BELOW ?kd_BELOW ?dD_stored ?z2_list ?z2_enumerate ?t_str ?t_int ?t_NoneType ?t_tuple ?z_len ?z_range ?z_abs ?z_max ?z_int ?z_isi ?z_bool ?z_val ?z_reversed ?z_divmod ?z_str ?z_sum ?x1_ex ?x2_ex ?x2_ga ?x2_gn ?x2_cl ?x2_k0 ?x2_k1 ?x2_k2 ?x2_k3 ?x2_k4 ?x2_k5 ?x2_k6 ?x2_k7 ?x2_k8 ?x2_k9 ?x2_k10 ?x2_k11 ?x2_k12 ?x2_k13 ?x2_va ?x2_bo ?a_law ?l_law ?c_law
  (case d_ten_to=>(refine' L2.Qu ?a ?l ?c ?k;(case a=>k_is);(case l=>k_is);(case c=>k_is);(case k=>k_is)))
  (case d_is_figures=>(refine' L2.Qu ?a ?l ?c ?k;(case a=>k_is);(case l=>k_is);(case c=>k_is);(case k=>k_is)))
  (case d_number_of=>(refine' L2.Qu ?a ?l ?c ?k;(case a=>k_is);(case l=>k_is);(case c=>k_is);(case k=>k_is)))
  (case d_times_at=>(refine' L2.Qu ?a ?l ?c ?k;(case a=>k_is);(case l=>k_is);(case c=>k_is);(case k=>k_is)))
  (case d_rows_of=>(refine' L2.Qu ?a ?l ?c ?k;(case a=>k_is);(case l=>k_is);(case c=>k_is);(case k=>k_is)))
  (case d_floats_at=>(refine' L2.Qu ?a ?l ?c ?k;(case a=>k_is);(case l=>k_is);(case c=>k_is);(case k=>k_is)))
  (case d_places_of=>(refine' L2.Qu ?a ?l ?c ?k;(case a=>k_is);(case l=>k_is);(case c=>k_is);(case k=>k_is)))
  (case d_whole_part=>(refine' L2.Qu ?a ?l ?c ?k;(case a=>k_is);(case l=>k_is);(case c=>k_is);(case k=>k_is)))
  (case d_broken_part=>(refine' L2.Qu ?a ?l ?c ?k;(case a=>k_is);(case l=>k_is);(case c=>k_is);(case k=>k_is)))
  (case d_lead_of=>(refine' L2.Qu ?a ?l ?c ?k;(case a=>k_is);(case l=>k_is);(case c=>k_is);(case k=>k_is)))
  (case d_tail_of=>(refine' L2.Qu ?a ?l ?c ?k;(case a=>k_is);(case l=>k_is);(case c=>k_is);(case k=>k_is)))
  (case d_number_facts=>(refine' L2.Qu ?a ?l ?c ?k;(case a=>k_is);(case l=>k_is);(case c=>k_is);(case k=>k_is)))
  (case d_plain_facts=>(refine' L2.Qu ?a ?l ?c ?k;(case a=>k_is);(case l=>k_is);(case c=>k_is);(case k=>k_is)))
  (case d_body_of=>(refine' L2.Qu ?a ?l ?c ?k;(case a=>k_is);(case l=>k_is);(case c=>k_is);(case k=>k_is)))
  (case d_edited_facts=>(refine' L2.Qu ?a ?l ?c ?k;(case a=>k_is);(case l=>k_is);(case c=>k_is);(case k=>k_is)))
  (case d_facts_of=>(refine' L2.Qu ?a ?l ?c ?k;(case a=>k_is);(case l=>k_is);(case c=>k_is);(case k=>k_is)))
  (case d_understood=>(refine' L2.Qu ?a ?l ?c ?k;(case a=>k_is);(case l=>k_is);(case c=>k_is);(case k=>k_is)))
  (case d_kind_of=>(refine' L2.Qu ?a ?l ?c ?k;(case a=>k_is);(case l=>k_is);(case c=>k_is);(case k=>k_is)))
  (case d_quotient_cut=>(refine' L2.Qu ?a ?l ?c ?k;(case a=>k_is);(case l=>k_is);(case c=>k_is);(case k=>k_is)))
  (case d_cut=>(refine' L2.Qu ?a ?l ?c ?k;(case a=>k_is);(case l=>k_is);(case c=>k_is);(case k=>k_is)))
  (case d_rounded=>(refine' L2.Qu ?a ?l ?c ?k;(case a=>k_is);(case l=>k_is);(case c=>k_is);(case k=>k_is)))
  (case d_fitted=>(refine' L2.Qu ?a ?l ?c ?k;(case a=>k_is);(case l=>k_is);(case c=>k_is);(case k=>k_is)))
  (case d_figures_of=>(refine' L2.Qu ?a ?l ?c ?k;(case a=>k_is);(case l=>k_is);(case c=>k_is);(case k=>k_is)))
  (case d_written_out=>(refine' L2.Qu ?a ?l ?c ?k;(case a=>k_is);(case l=>k_is);(case c=>k_is);(case k=>k_is)))
  (case d_size_of=>(refine' L2.Qu ?a ?l ?c ?k;(case a=>k_is);(case l=>k_is);(case c=>k_is);(case k=>k_is)))
  (case d_understood_as=>(refine' L2.Qu ?a ?l ?c ?k;(case a=>k_is);(case l=>k_is);(case c=>k_is);(case k=>k_is)))
  (case d_sign_text=>(refine' L2.Qu ?a ?l ?c ?k;(case a=>k_is);(case l=>k_is);(case c=>k_is);(case k=>k_is)))
  (case d_hides_nought=>(refine' L2.Qu ?a ?l ?c ?k;(case a=>k_is);(case l=>k_is);(case c=>k_is);(case k=>k_is)))
  (case d_nought_text=>(refine' L2.Qu ?a ?l ?c ?k;(case a=>k_is);(case l=>k_is);(case c=>k_is);(case k=>k_is)))
  (case d_spread=>(refine' L2.Qu ?a ?l ?c ?k;(case a=>k_is);(case l=>k_is);(case c=>k_is);(case k=>k_is)))
  (case d_hidden_in=>(refine' L2.Qu ?a ?l ?c ?k;(case a=>k_is);(case l=>k_is);(case c=>k_is);(case k=>k_is)))
  (case d_body_text=>(refine' L2.Qu ?a ?l ?c ?k;(case a=>k_is);(case l=>k_is);(case c=>k_is);(case k=>k_is)))
  (case d_edited_parts=>(refine' L2.Qu ?a ?l ?c ?k;(case a=>k_is);(case l=>k_is);(case c=>k_is);(case k=>k_is)))
  (case d_edited=>(refine' L2.Qu ?a ?l ?c ?k;(case a=>k_is);(case l=>k_is);(case c=>k_is);(case k=>k_is)))
  (case d_content_of=>(refine' L2.Qu ?a ?l ?c ?k;(case a=>k_is);(case l=>k_is);(case c=>k_is);(case k=>k_is)))
  (case d_put=>(refine' L2.Qu ?a ?l ?c ?k;(case a=>k_is);(case l=>k_is);(case c=>k_is);(case k=>k_is)))
  (case d_blank=>(refine' L2.Qu ?a ?l ?c ?k;(case a=>k_is);(case l=>k_is);(case c=>k_is);(case k=>k_is)))
  (case d__law_draw=>(refine' L2.Qu ?a ?l ?c ?k;(case a=>k_is);(case l=>k_is);(case c=>k_is);(case k=>k_is)))
  (case d__law_begun=>(refine' L2.Qu ?a ?l ?c ?k;(case a=>k_is);(case l=>k_is);(case c=>k_is);(case k=>k_is)))
  (case d__law_class=>(refine' L2.Qu ?a ?l ?c ?k;(case a=>k_is);(case l=>k_is);(case c=>k_is);(case k=>k_is)))
  (case d__law_places=>(refine' L2.Qu ?a ?l ?c ?k;(case a=>k_is);(case l=>k_is);(case c=>k_is);(case k=>k_is)))
  (case d__law_line=>(refine' L2.Qu ?a ?l ?c ?k;(case a=>k_is);(case l=>k_is);(case c=>k_is);(case k=>k_is)))
  (case d__law_an_edited=>(refine' L2.Qu ?a ?l ?c ?k;(case a=>k_is);(case l=>k_is);(case c=>k_is);(case k=>k_is)))
  (case d__law_an_amount=>(refine' L2.Qu ?a ?l ?c ?k;(case a=>k_is);(case l=>k_is);(case c=>k_is);(case k=>k_is)))
  (case d__law_a_number=>(refine' L2.Qu ?a ?l ?c ?k;(case a=>k_is);(case l=>k_is);(case c=>k_is);(case k=>k_is)))
  (case d__law_content=>(refine' L2.Qu ?a ?l ?c ?k;(case a=>k_is);(case l=>k_is);(case c=>k_is);(case k=>k_is)))
  (case d__law_edit=>(refine' L2.Qu ?a ?l ?c ?k;(case a=>k_is);(case l=>k_is);(case c=>k_is);(case k=>k_is)))
  (case d_heard=>(refine' L2.Qu ?a ?l ?c ?k;(case a=>k_is);(case l=>k_is);(case c=>k_is);(case k=>k_is)))
  (case k_0=>k_is)
  (case k_1=>k_is)
  (case k_2=>k_is)
  (case k_3=>k_is)
  (case k_4=>k_is)
  (case k_5=>k_is)
  (case k_6=>k_is)
  (case k_7=>k_is)
  (case k_8=>k_is)
  (case k_9=>k_is)
  (case k_10=>k_is)
  (case k_11=>k_is)
  (case k_12=>k_is)
  (case k_13=>k_is)
  (case k_14=>k_is)
  (case m_FIGURES=>k_is)
  (case m_INSERTED=>k_is)
  (case m_SIGNS=>k_is)
  (case m_FLOATING=>k_is)
  (case m_PLACES=>k_is)
  (case m_LAST_BELOW=>k_is)
  (case m_PART=>k_is)
  (case m_MOST_FIGURES=>k_is)
  (case m_MOST_SIGNS=>k_is)
  (case m_NUMBER_FORMS=>k_is)
  (case m_SHOWN=>k_is)
  (case m_PLAIN_KINDS=>k_is)
  (case q_NUMBER_FORMS=>(refine' L2.wE ?l ?z ?v;(case l=>k_is);(case z=>show 6≤sizeLine;decide);(case v=>exact(.cons ⟨_,rfl⟩ (.cons ⟨_,rfl⟩ (.cons ⟨_,rfl⟩ (.cons ⟨_,rfl⟩ (.cons ⟨_,rfl⟩ (.cons ⟨_,rfl⟩ .nil)))))))))
  (case q_SHOWN=>(refine' L2.wE ?l ?z ?v;(case l=>k_is);(case z=>show 4≤sizeLine;decide);(case v=>exact(.cons ⟨_,rfl⟩ (.cons ⟨_,rfl⟩ (.cons ⟨_,rfl⟩ (.cons ⟨_,rfl⟩ .nil)))))))
  (case kd=>(refine' L2.xb ?ne ?l ?e1 ?e2 ?hx;(case l=>k_is);(case ne=>exact rfl);(case e1=>exact rfl);(case e2=>exact rfl);(case hx=>decide+kernel)))
  (case m_BESIDE=>k_is)
  (case kd_BESIDE=>(refine' L2.Wp ?ne ?l ?h ?nd;(case l=>k_is);(case ne=>exact rfl);(case h=>repeat (first|exact .nil|refine .cons rfl ?_));(case nd=>decide+kernel)))
  (case m_NOT_BELOW=>k_is)
  (case kd_NOT_BELOW=>(refine' L2.Wp ?ne ?l ?h ?nd;(case l=>k_is);(case ne=>exact rfl);(case h=>repeat (first|exact .nil|refine .cons rfl ?_));(case nd=>decide+kernel)))
  (case m_BELOW=>k_is)
  (case kd_BELOW=>(refine' L2.Wp ?ne ?l ?h ?nd;(case l=>k_is);(case ne=>exact rfl);(case h=>repeat (first|exact .nil|refine .cons rfl ?_));(case nd=>decide+kernel)))
  (case dD_stored=>(refine' L2.zh ?a ?l ?c ?k ?n ?d;(case a=>k_is);(case l=>k_is);(case c=>k_is);(case k=>k_is);(case n=>(refine' L2.vf ?nl ?nh;(case nl=>k_is);(case nh=>exact rfl)));(case d=>k_is)))
  (case z2_list=>k_is)
  (case z2_enumerate=>k_is)
  (case t_str=>kit_is)
  (case t_int=>kit_is)
  (case t_NoneType=>kit_is)
  (case t_tuple=>kit_is)
  (case z_len=>k_is)
  (case z_range=>k_is)
  (case z_abs=>k_is)
  (case z_max=>k_is)
  (case z_int=>k_is)
  (case z_isi=>k_is)
  (case z_bool=>k_is)
  (case z_val=>k_is)
  (case z_reversed=>k_is)
  (case z_divmod=>k_is)
  (case z_str=>k_is)
  (case z_sum=>k_is)
  (case x1_ex=>k_exc)
  (case x2_ex=>k_exc)
  (case x2_ga=>k_is)
  (case x2_gn=>k_is)
  (case x2_cl=>k_is)
  (case x2_k0=>kit_is)
  (case x2_k1=>kit_is)
  (case x2_k2=>kit_is)
  (case x2_k3=>kit_is)
  (case x2_k4=>kit_is)
  (case x2_k5=>kit_is)
  (case x2_k6=>kit_is)
  (case x2_k7=>kit_is)
  (case x2_k8=>kit_is)
  (case x2_k9=>kit_is)
  (case x2_k10=>kit_is)
  (case x2_k11=>kit_is)
  (case x2_k12=>kit_is)
  (case x2_k13=>kit_is)
  (case x2_va=>kit_is)
  (case x2_bo=>kts_exm)
  (case a_law=>k_is)
  (case l_law=>k_is)
  (case c_law=>k_is)
