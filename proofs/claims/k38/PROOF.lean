import PyProof.Rows.All
import Wide.All
import OpenK.AllK
import Wide.FinOn
import Lean
import PyProof.EqAt
import PyProof.EqKinds
import PyProof.TupleCall
import PyProof.NeKinds
import PyProof.WalksMore
import PyProof.Rows.SetFrom
import PyProof.FString5
import PyProof.FactsLen
import PySem.Challenge.RW_boxmoves_k38_plans_and_rows
set_option Elab.async false
set_option linter.all false
set_option maxRecDepth 100000
namespace L2
open PySem PySem.Spec PyProof.Rows
abbrev Key:=Sum Int Str
def qJ:Key→Value→Bool
 | .inl k,v=>Value.isInt k v
 | .inr x,v=>Value.isStrOf x v
def Qb2(w:World):Key→Int
 | .inl k=>hashInt k
 | .inr x=>hashStr w x
theorem Q0:∀{k:Key}{v:Value},qJ k v=true→(∃i t,k=Sum.inl i∧v=Value.int i t)∨(∃x t,k=Sum.inr x∧v=Value.str x t)
 | .inl i,v,h=>by
  obtain⟨t,e⟩:=Value.isInt_shape (k:=i) (v:=v) h
  exact .inl ⟨i,t,rfl,e⟩
 | .inr x,v,h=>by
  obtain⟨t,e⟩:=Value.isStrOf_shape (x:=x) (v:=v) h
  exact .inr ⟨x,t,rfl,e⟩
theorem jL(i:Int)(t:Tok):qJ (.inl i) (.int i t)=true:=by simp[qJ,Value.isInt]
theorem jM(x:Str)(t:Tok):qJ (.inr x) (.str x t)=true:=by simp[qJ,Value.isStrOf]
theorem yJ(a b:Int):decide ((Sum.inl a:Key)=Sum.inl b)=(a==b):=by
 by_cases e:a=b
 ·subst e;simp
 ·have h:¬ (Sum.inl a:Key)=Sum.inl b:=fun q=>e (Sum.inl.inj q)
  rw[decide_eq_false h]
  exact(beq_eq_false_iff_ne.mpr e).symm
theorem yK(a b:Str):decide ((Sum.inr a:Key)=Sum.inr b)=decide (a=b):=by
 by_cases e:a=b
 ·subst e;simp
 ·have h:¬ (Sum.inr a:Key)=Sum.inr b:=fun q=>e (Sum.inr.inj q)
  rw[decide_eq_false h,decide_eq_false e]
theorem yL(a:Int)(b:Str):decide ((Sum.inl a:Key)=Sum.inr b)=false:=decide_eq_false (fun q=>nomatch q)
theorem yM(a:Str)(b:Int):decide ((Sum.inr a:Key)=Sum.inl b)=false:=decide_eq_false (fun q=>nomatch q)
def Q6(prog:Program)(w:World):PySem.KeyKind prog w Key where
 is:=qJ
 hash:=Qb2 w
 inj:=fun v a b ha hb=>by
  rcases Q0 ha with⟨i,t,rfl,rfl⟩|⟨x,t,rfl,rfl⟩
  ·rcases Q0 hb with⟨j,u,rfl,e⟩|⟨y,u,rfl,e⟩
   ·injection e with e1 _;rw[e1]
   ·exact nomatch e
  ·rcases Q0 hb with⟨j,u,rfl,e⟩|⟨y,u,rfl,e⟩
   ·exact nomatch e
   ·injection e with e1 _;rw[e1]
 byValue:=fun k v h=>by
  rcases Q0 h with⟨i,t,rfl,rfl⟩|⟨x,t,rfl,rfl⟩<;>rfl
 pyHash:=fun hv h=>by
  rcases Q0 hv with⟨i,t,rfl,rfl⟩|⟨x,t,rfl,rfl⟩
  ·exact wpAny_pyHash_int h
  ·exact wpAny_pyHash_str h
 eqBool:=fun hu hv h=>by
  rcases Q0 hu with⟨i,t,rfl,rfl⟩|⟨x,t,rfl,rfl⟩
  ·rcases Q0 hv with⟨j,u,rfl,rfl⟩|⟨y,u,rfl,rfl⟩
   ·rw[yJ]at h;exact wpAny_eqBool_int h
   ·rw[yL]at h;exact SeqAt.EqAt.int_str i t y u _ _ _ _ h
  ·rcases Q0 hv with⟨j,u,rfl,rfl⟩|⟨y,u,rfl,rfl⟩
   ·rw[yM]at h;exact SeqAt.EqAt.str_int x t j u _ _ _ _ h
   ·rw[yK]at h;exact wpAny_eqBool_str h
 «strs»:=fun k x t v h=>by
  rcases Q0 h with⟨i,u,rfl,e⟩|⟨y,u,rfl,e⟩
  ·exact nomatch e
  ·injection e with e1 _
   subst e1
   cases v<;>rfl
theorem YX(prog:Program)(w:World)(i:Int)(t:Tok):(Q6 prog w).is (.inl i) (.int i t)=true:=jL i t
theorem YY(prog:Program)(w:World)(x:Str)(t:Tok):(Q6 prog w).is (.inr x) (.str x t)=true:=jM x t
end L2
namespace L2
open PySem PySem.Spec PyProof.Rows
inductive V where
 |non|bl (b:Bool)|int (i:Int)|str (x:Str)|byt (b:Array UInt8)|flt (b:UInt64)|ref (a:Addr)|ty (n:String)
 deriving DecidableEq
def RelV:V→Value→Prop
 | .non,u=>u=Value.none
 | .bl b,u=>u=Value.bool b
 | .int i,u=>∃t,u=Value.int i t
 | .str x,u=>∃t,u=Value.str x t
 | .byt b,u=>∃t,u=Value.bytes b t
 | .flt b,u=>∃t,u=Value.float b t
 | .ref a,u=>u=Value.ref a
 | .ty n,u=>u=Value.type n
abbrev Vals:List V→List Value→Prop:=Paired RelV
theorem Vals.length{xs:List V}{us:List Value}(r:Vals xs us):xs.length=us.length:=Paired.length r
theorem Vals.get:∀{xs:List V}{us:List Value}{i:Nat}{x:V},Vals xs us→xs[i]? =some x→∃u,us[i]? =some u∧RelV x u
 |_,_,_,_,.nil,e=>by simp at e
 |_,_,0,_,.cons r _,e=>by simp at e;subst e;exact⟨_,rfl,r⟩
 |_,_,i+1,x,.cons _ t,e=>by
  obtain⟨u,h1,h2⟩:=Vals.get (i:=i) (x:=x) t (by simpa using e)
  exact⟨u,by simpa using h1,h2⟩
theorem Vals.append:∀{xs ys:List V}{us ws:List Value},Vals xs us→Vals ys ws→Vals (xs++ys) (us++ws)
 |_,_,_,_,.nil,s=>s
 |_,_,_,_,.cons r t,s=>.cons r (Vals.append t s)
theorem Vals.take:∀{xs:List V}{us:List Value}(n:Nat),Vals xs us→Vals (xs.take n) (us.take n)
 |_,_,0,_=>.nil
 |_,_,_+1,.nil=>.nil
 |_,_,n+1,.cons r t=>.cons r (Vals.take n t)
theorem Vals.drop:∀{xs:List V}{us:List Value}(n:Nat),Vals xs us→Vals (xs.drop n) (us.drop n)
 |_,_,0,r=>r
 |_,_,_+1,.nil=>.nil
 |_,_,n+1,.cons _ t=>Vals.drop n t
def V1:Option V→Option Value→Prop
 |some v,some u=>RelV v u
 |none,none=>True
 |_,_=>False
def KV{κ:Type}:List (κ × V)→List (κ × Value)→Prop:=Paired fun(p:κ × V)(q:κ × Value)=>p.1=q.1∧RelV p.2 q.2
def kV:Key→V
 | .inl i=>.int i
 | .inr x=>.str x
inductive HO where
 |lst (xs:List V)
 |tup (xs:List V)
 |dK (kvs:List (Key × V))|dT (kvs:List (List Key × V))
 |set (S:Int→Bool) (n:Nat)
 |ins (C dx:Addr) (fs:List (Str × V))
 |own (x:Addr)
 |xd (fs:List (Str × V))
 |met (f x:Addr)
 |rng (lo hi:Int)
 |frz (o:Obj) (u:HO)
 |tbl (ps:Array Value)
 |ext (φ:Heap→Prop)
abbrev Hp:=Addr→Option HO
def upd(H:Hp)(a:Addr)(o:HO):Hp:=fun b=>if b=a then some o else H b
theorem Qc{H:Hp}{a:Addr}{o:HO}:upd H a o a=some o:=by unfold upd;rw[if_pos rfl]
theorem Qi{H:Hp}{a b:Addr}{o:HO}(h:b≠a):upd H a o b=H b:=by unfold upd;rw[if_neg h]
theorem vi{H:Hp}{a b:Addr}{o u:HO}(h:H a=some o)(h':H b=some u)(d:o≠u):a≠b:=by
 intro e;subst e;rw[h]at h';exact d (Option.some.inj h')
theorem Qr{H:Hp}{a b:Addr}{o:HO}(h:H a=some o)(h':H b=none):a≠b:=by
 intro e;subst e;rw[h]at h';cases h'
def Ke(h:Heap)(a:Addr)(items:Array Value):Prop:=∃o,h.get? a=some o∧o.cls=.type "tuple"∧∃n,o.data=.seq items n∧o.dict=none
theorem Ke.tup{h:Heap}{a:Addr}{items:Array Value}(p:Ke h a items):IsTup h a items:=let ⟨o,h1,h2,n,h3,_⟩:=p;⟨o,h1,h2,n,h3⟩
theorem Ke.new(h:Heap)(items:Array Value):Ke (h.push {cls:=.type "tuple",data:=.seq items}) h.objs.size items:=⟨_,Heap.get?_push_size _ rfl,rfl,_,rfl,rfl⟩
section
variable (P:Program)(w:World)
def Q7(H:Hp)(h:Heap)(a:Addr):HO→Prop
 | .lst xs=>xs.length≤sizeLine∧∃(its:List Value)(n:Nat),Vals xs its∧h.get? a=some {cls:=.type "list",data:=.seq its.toArray n}
 | .tup xs=>xs.length≤sizeLine∧∃its:List Value,Vals xs its∧Ke h a its.toArray
 | .dK kvs=>kvs.length≤sizeLine∧(a==sysModules)=false∧∃vs,KV kvs vs∧h.DictOf (Q6 P w) a vs
 | .dT kvs=>kvs.length≤sizeLine∧(a==sysModules)=false∧∃xs:List (List Key × Addr × Value),
   Paired (fun(p:List Key × V)(q:List Key × Addr × Value)=>p.1=q.1∧H q.2.1=some (.tup (p.1.map kV))∧RelV p.2 q.2.2) kvs xs∧
   ∃o es ep,h.get? a=some o∧o.ExactDict∧o.data=.dict es ep∧es.toList=xs.map (entryOfKey (tupleKind (Q6 P w)))∧(xs.map (·.1)).Nodup
 | .set S n=>h.SetOf (intKind P w) a S n
 | .ins C dx fs=>H dx=some (.own a)∧fs.length≤1000∧dx≠a∧h.get? a=some (PySem.W.instObj C dx)∧
   ∃mA,h.Ns1 dx mA∧(∀f,V1 (fs.lookup f) (mA f))∧PySem.Within mA (fs.map (·.1))
 | .own _=>∃o,h.get? a=some o
 | .xd fs=>∃mA,h.Ns1 a mA∧∀f,V1 (fs.lookup f) (mA f)
 | .rng lo hi=>∃t u v,h.get? a=some {cls:=.type "range",data:=.fields #[.int lo t,.int hi u,.int 1 v]}
 | .frz o u=>h.get? a=some o∧Q7 H h a u
 | .tbl ps=>h.get? a=some {cls:=.none,data:=.fields ps}
 | .met f x=>h.get? a=some (PySem.W.methodObj (.ref f) (.ref x))
 | .ext φ=>φ h∧(∃o,h.get? a=some o)∧∀h1 h2:Heap,φ h1→(∀o,h1.get? a=some o→h2.get? a=some o)→φ h2
def HOk(H:Hp)(h:Heap):Prop:=∀a o,H a=some o→Q7 P w H h a o
end
section
variable {P:Program}{w:World}{H H':Hp}{h h':Heap}{a:Addr}{o:HO}
theorem Q7.lt(x:Q7 P w H h a o):a<h.objs.size:=by
 cases o with
 |lst xs=>obtain⟨_,_,_,_,e⟩:=x;exact Heap.lt_size e
 |tup xs=>obtain⟨_,_,_,p⟩:=x;exact p.tup.lt
 |dK kvs=>obtain⟨_,_,_,_,o,_,_,e,_⟩:=x;exact Heap.lt_size e
 |dT kvs=>obtain⟨_,_,_,_,o,_,_,e,_⟩:=x;exact Heap.lt_size e
 |set S n=>obtain⟨o,_,_,_,e,_⟩:=x;exact Heap.lt_size e
 |ins C dx fs=>obtain⟨_,_,_,e,_⟩:=x;exact Heap.lt_size e
 |own y=>obtain⟨_,e⟩:=x;exact Heap.lt_size e
 |xd fs=>obtain⟨_,⟨_,_,_,e,_⟩,_⟩:=x;exact Heap.lt_size e
 |rng lo hi=>obtain⟨_,_,_,e⟩:=x;exact Heap.lt_size e
 |frz ob u=>obtain⟨e,_⟩:=x;exact Heap.lt_size e
 |tbl ps=>exact Heap.lt_size (show h.get? a=some _ from x)
 |met f y=>exact Heap.lt_size (show h.get? a=some _ from x)
 |ext φ=>obtain⟨_,⟨_,e⟩,_⟩:=x;exact Heap.lt_size e
theorem Paired.Qa7{α β:Type}{F G:α→β→Prop}:∀{l₁:List α}{l₂:List β},Paired F l₁ l₂→(∀a b,F a b→G a b)→Paired G l₁ l₂
 |_,_,.nil,_=>.nil
 |_,_,.cons r t,f=>.cons (f _ _ r) (Paired.Qa7 t f)
theorem Q7.YZ(x:Q7 P w H h a o)(k:∀b u,(b=a∨H b=some (.own a))→h.get? b=some u→h'.get? b=some u)
  (ho:∀b,H b=some (.own a)→H' b=some (.own a)) (ht:∀b xs,H b=some (.tup xs)→H' b=some (.tup xs)):Q7 P w H' h' a o:=by
 induction o with
 |lst xs=>obtain⟨z,its,n,r,e⟩:=x;exact⟨z,its,n,r,k _ _ (.inl rfl) e⟩
 |tup xs=>obtain⟨z,its,r,ob,e,c⟩:=x;exact⟨z,its,r,ob,k _ _ (.inl rfl) e,c⟩
 |dK kvs=>obtain⟨z,y,vs,r,ob,es,ep,e,c⟩:=x;exact⟨z,y,vs,r,ob,es,ep,k _ _ (.inl rfl) e,c⟩
 |dT kvs=>
  obtain⟨z,y,xs,r,ob,es,ep,e,c⟩:=x
  exact⟨z,y,xs,Paired.Qa7 r fun p q z=>⟨z.1,ht _ _ z.2.1,z.2.2⟩,ob,es,ep,k _ _ (.inl rfl) e,c⟩
 |set S n=>obtain⟨ob,es,ep,t,e,c⟩:=x;exact⟨ob,es,ep,t,k _ _ (.inl rfl) e,c⟩
 |ins C dx fs=>
  obtain⟨d,z,ne,e,mA,⟨od,es,ep,e2,c⟩,r⟩:=x
  exact⟨ho _ d,z,ne,k _ _ (.inl rfl) e,mA,⟨od,es,ep,k _ _ (.inr d) e2,c⟩,r⟩
 |own y=>obtain⟨ob,e⟩:=x;exact⟨ob,k _ _ (.inl rfl) e⟩
 |xd fs=>obtain⟨mA,⟨od,es,ep,e,c⟩,r⟩:=x;exact⟨mA,⟨od,es,ep,k _ _ (.inl rfl) e,c⟩,r⟩
 |rng lo hi=>obtain⟨t,u,v,e⟩:=x;exact⟨t,u,v,k _ _ (.inl rfl) e⟩
 |frz ob u ih=>obtain⟨e,q⟩:=x;exact⟨k _ _ (.inl rfl) e,ih q⟩
 |tbl ps=>
  have e:h.get? a=some {cls:=.none,data:=.fields ps}:=x
  show h'.get? a=some {cls:=.none,data:=.fields ps}
  exact k a _ (.inl rfl) e
 |met f y=>
  have e:h.get? a=some (PySem.W.methodObj (.ref f) (.ref y)):=x
  show h'.get? a=some (PySem.W.methodObj (.ref f) (.ref y))
  exact k a _ (.inl rfl) e
 |ext φ=>obtain⟨p,⟨o,e⟩,st⟩:=x;exact⟨st _ _ p fun o q=>k _ _ (.inl rfl) q,⟨o,k _ _ (.inl rfl) e⟩,st⟩
theorem HOk.lt(x:HOk P w H h)(e:H a=some o):a<h.objs.size:=(x a o e).lt
theorem HOk.fresh(x:HOk P w H h)(e:h.objs.size≤a):H a=none:=by
 cases q:H a with
 |none=>rfl
 |some u=>exact absurd (Nat.lt_of_lt_of_le (x.lt q) e) (Nat.lt_irrefl _)
theorem HOk.kept(x:HOk P w H h)(k:∀b u,h.get? b=some u→h'.get? b=some u):HOk P w H h':=fun a o e=>
 (x a o e).YZ (fun b u _ q=>k b u q) (fun _ q=>q) fun _ _ q=>q
theorem HOk.laid(x:HOk P w H h)(k:∀b u,h.get? b=some u→h'.get? b=some u) (hp:h.objs.size≤a) (new:Q7 P w (upd H a o) h' a o):HOk P w (upd H a o) h':=fun b u e=>by
 have hn:=x.fresh hp
 by_cases hb:b=a
 ·subst hb;rw[Qc]at e;cases e;exact new
 ·rw[Qi hb]at e
  exact(x b u e).YZ (fun c v _ q=>k c v q) (fun c q=>by rw[Qi (Qr q hn)];exact q) fun c xs q=>by rw[Qi (Qr q hn)];exact q
end
def Rd(H:Hp)(a:Addr)(u:HO):Prop:=H a=some u∨∃o,H a=some (.frz o u)
theorem Rd.ok{P:Program}{w:World}{H:Hp}{h:Heap}{a:Addr}{u:HO}(r:Rd H a u)(x:HOk P w H h):Q7 P w H h a u:=by
 rcases r with r|⟨o,r⟩
 ·exact x a u r
 ·obtain⟨_,q⟩:=x a _ r
  exact q
def Mut:Option HO→Prop
 |some (.lst _)=>True
 |some (.dK _)=>True
 |some (.dT _)=>True
 |some (.set _ _)=>True
 |some (.ins _ _ _)=>True
 |some (.ext _)=>True
 |_=>False
section
variable {P:Program}{w:World}{H:Hp}{h h':Heap}{x e:Addr}{o':HO}
theorem HOk.write(ok:HOk P w H h)(mu:Mut (H x))(he:e=x∨H e=some (.own x))(k:∀b u,b≠e→h.get? b=some u→h'.get? b=some u) (heo:∃u,h'.get? e=some u)
  (new:Q7 P w (upd H x o') h' x o'):HOk P w (upd H x o') h':=fun b u q=>by
 have nown:∀c y,H c=some (.own y)→c≠x:=fun c y r z=>by subst z;rw[r]at mu;exact mu
 have ntup:∀c xs,H c=some (.tup xs)→c≠x:=fun c xs r z=>by subst z;rw[r]at mu;exact mu
 by_cases hb:b=x
 ·subst hb;rw[Qc]at q;cases q;exact new
 ·rw[Qi hb]at q
  by_cases hbe:b=e
  ·have q':H b=some (.own x):=by
    rcases he with z|z
    ·exact absurd (hbe.trans z) hb
    ·rw[hbe];exact z
   rw[q]at q';cases q'
   obtain⟨v,hv⟩:=heo
   exact⟨v,by rw[hbe];exact hv⟩
  ·refine(ok b u q).YZ (fun c v hc r=>k c v ?_ r) (fun c r=>by rw[Qi (nown c b r)];exact r) fun c xs r=>by rw[Qi (ntup c xs r)];exact r
   rcases hc with rfl|hc
   ·exact hbe
   ·rintro rfl
    rcases he with z|z
    ·exact nown c b hc z
    ·rw[hc]at z;cases z;exact hb rfl
end
structure Un(fs ex:List Addr)(H H':Hp)(h h':Heap):Prop where
 keep:∀b o,h.get? b=some o→H b=none→b∉fs→b∉ex→h'.get? b=some o
 slot:∀b o,h.get? b=some o→H b=none→b∈fs→b∉ex→∃sl,h'.get? b=some {o with slots:=sl}
 free:∀b o,h.get? b=some o→H b=none→b∉ex→H' b=none
 there:∀b o,h.get? b=some o→b∉ex→∃o',h'.get? b=some o'
 Zq:∀b xs,H b=some (.tup xs)→H' b=some (.tup xs)
 frzs:∀b o u,H b=some (.frz o u)→H' b=some (.frz o u)
 tbls:∀b ps,H b=some (.tbl ps)→∃more,H' b=some (.tbl (ps++more))
section
variable {fs fs' ex ex':List Addr}{H H1 H2:Hp}{h h1 h2 h':Heap}{a x e:Addr}{o:HO}
theorem Un.any(u:Un fs ex H H1 h h1){b:Addr}{ob:Obj}(q:h.get? b=some ob)(n:H b=none)(hx:b∉ex):∃sl,h1.get? b=some {ob with slots:=sl}:=by
 by_cases hb:b∈fs
 ·exact u.slot b ob q n hb hx
 ·exact⟨ob.slots,u.keep b ob q n hb hx⟩
theorem Un.kept(k:∀b u,h.get? b=some u→h'.get? b=some u):Un fs ex H H h h':=
 ⟨fun b ob q _ _ _=>k b ob q,fun b ob q _ _ _=>⟨ob.slots,k b ob q⟩,fun _ _ _ n _=>n,fun b ob q _=>⟨ob,k b ob q⟩,fun _ _ q=>q,fun _ _ _ q=>q,fun _ ps q=>⟨#[],by rw[q];simp⟩⟩
theorem Un.refl:Un fs ex H H h h:=Un.kept fun _ _ q=>q
theorem Un.laid(k:∀b u,h.get? b=some u→h'.get? b=some u) (hp:h.objs.size≤a) (hn:H a=none):Un fs ex H (upd H a o) h h' where
 keep:=fun b u q _ _ _=>k b u q
 slot:=fun b u q _ _ _=>⟨u.slots,k b u q⟩
 free:=fun b u q n _=>by rw[Qi (Nat.ne_of_lt (Nat.lt_of_lt_of_le (Heap.lt_size q) hp))];exact n
 there:=fun b u q _=>⟨u,k b u q⟩
 Zq:=fun b xs q=>by rw[Qi (Qr q hn)];exact q
 frzs:=fun b u xs q=>by rw[Qi (Qr q hn)];exact q
 tbls:=fun b ps q=>⟨#[],by rw[Qi (Qr q hn),q];simp⟩
theorem Un.write(mu:Mut (H x))(he:e=x∨H e=some (.own x))(k:∀b u,b≠e→h.get? b=some u→h'.get? b=some u) (heo:∃u,h'.get? e=some u):Un fs ex H (upd H x o) h h':=by
 have hx:∀b,H b=none→b≠x:=fun b n z=>by subst z;rw[n]at mu;exact mu
 have hb:∀b,H b=none→b≠e:=fun b n z=>by
  subst z
  rcases he with r|r
  ·exact hx b n r
  ·rw[n]at r;cases r
 have hm:∀b u,H b=some u→¬ Mut (some u)→b≠x:=fun b u q nm z=>by subst z;rw[q]at mu;exact nm mu
 refine⟨fun b u q n _ _=>k b u (hb b n) q,fun b u q n _ _=>⟨u.slots,k b u (hb b n) q⟩,fun b u q n _=>by rw[Qi (hx b n)];exact n,fun b u q _=>?_,
  fun b xs q=>by rw[Qi (hm b _ q fun z=>z)];exact q,fun b u xs q=>by rw[Qi (hm b _ q fun z=>z)];exact q,fun b ps q=>⟨#[],by rw[Qi (hm b _ q fun z=>z),q];simp⟩⟩
 by_cases hbe:b=e
 ·subst hbe;exact heo
 ·exact⟨u,k b u hbe q⟩
end
def trk(h:Heap)(H:Hp):List Addr:=(List.range h.objs.size).filter fun a=>(H a).isSome
def xY(h:Heap)(H:Hp):Heap:=PySem.W.hideAll h (trk h H)
theorem jN(h:Heap)(H:Hp):(xY h H).objs.size=h.objs.size:=PySem.W.hideAll_size _ _
theorem kd{h:Heap}{H:Hp}{b:Addr}{o:Obj}(e:h.get? b=some o)(n:H b=none):(xY h H).get? b=some o:=
 PySem.W.hideAll_get _ e fun hm=>by
  have q:(H b).isSome=true:=(List.mem_filter.mp hm).2
  rw[n]at q;simp at q
theorem vj{h:Heap}{H:Hp}{b:Addr}{o:Obj}(e:(xY h H).get? b=some o):h.get? b=some o∧H b=none:=by
 have e':h.get? b=some o:=PySem.W.of_hideAll (trk h H) e
 refine⟨e',?_⟩
 cases q:H b with
 |none=>rfl
 |some x=>
  have hm:b∈trk h H:=List.mem_filter.mpr ⟨List.mem_range.mpr (Heap.lt_size e'),by simp[q]⟩
  have z:(xY h H).get? b=none:=PySem.W.hideAll_none (trk h H) hm
  rw[z]at e;cases e
end L2
namespace L2
open PySem PySem.Spec PyProof.Rows
structure Mod(K:PySem.W.Frag)(mg:Str→Option Value)(base:Heap):Prop where
 kin:K.In base
 glob:base.Ns mainGlobals mg
 blt:∃mb,base.Ns builtinsNs mb∧∀x:Str,x≠"__name__"→mb x=bootBuiltins x
 nolimit:base.NoLimit
structure Cx where
 prog:Program
 w:World
 K:PySem.W.Frag
 mg:Str→Option Value
 base:Heap
 A:Around
 N:List Str
 s₀:Shared
 H₀:Hp
 env:Env
 outer:List Env
 stack:List Env
 ex:List Addr
 fn:Str→Bool
 calm:Bool
 pn:List (Addr × Obj)
 xe:Value→Shared→Prop
def frs(l:List Env):List Addr:=l.filterMap (·.frame)
abbrev Cx.fs(X:Cx):List Addr:=frs X.outer
def Vis(sc:Scope)(x:Str):Prop:=sc.names.lookup x=some .local∨sc.names.lookup x=some .cell∨sc.names.lookup x=some .free
def Loc(sc:Scope)(x:Str):Prop:=sc.names.lookup x=some .local∨sc.names.lookup x=some .cell
def Look(env:Env)(h:Heap)(m:Str→Option Value)(x:Str)(u:Value):Prop:=
 (env.kindOf x=some .local∧m x=some u)∨((env.kindOf x=some .cell∨env.kindOf x=some .free)∧∃c,env.cells.lookup x=some c∧h.IsCell c (some u))
structure Cx.Ok(X:Cx):Prop where
 mod:Mod X.K X.mg X.base
 kind:X.env.scope.kind=.function
 glob:X.env.globals=mainGlobals
 blt:X.env.builtins=builtinsNs
 above:X.s₀.heap.objs.size≤X.env.locals
 inj:∀x y c,X.env.cells.lookup x=some c→X.env.cells.lookup y=some c→x=y
 has:∀x,(X.env.kindOf x=some .cell∨X.env.kindOf x=some .free)→∃c,X.env.cells.lookup x=some c
 cab:∀x c,X.fn x=true→X.env.cells.lookup x=some c→X.s₀.heap.objs.size≤c
 hd:X.calm=true→X.A.handled=none
 frames:X.A.frames=some X.stack
 stk:X.stack=X.outer∨(X.stack=X.env::X.outer∧X.env.frame=some X.env.locals)
 exf:∀b∈X.ex,b≠X.env.locals∧∀x c,X.env.cells.lookup x=some c→c≠b
 bs:∀b o,X.base.get? b=some o→X.s₀.heap.get? b=some o∧X.H₀ b=none
 bsz:X.base.objs.size≤X.s₀.heap.objs.size
 noex:∀b o,X.base.get? b=some o→b∉X.ex
 exfs:∀b∈X.ex,b∉X.fs
 V2:X.s₀.heap.FunFrames X.base X.outer
 frf:∀b∈X.fs,X.H₀ b=none
structure Inv(X:Cx)(pins:List (Addr × Obj))(σ:List (Option V))(H:Hp)(s:Shared):Prop where
 ok:X.Ok
 os:s.os=X.s₀.os
 bare:AllBare s.gens
 base:Un X.fs X.ex X.H₀ H X.s₀.heap s.heap
 loc:∃m,s.heap.Ns X.env.locals m∧∀(i:Nat)(x:Str)(v:V),X.N[i]? =some x→σ[i]? =some (some v)→Vis X.env.scope x→∃u,RelV v u∧Look X.env s.heap m x u
 cell:∀x c,X.env.cells.lookup x=some c→∃v,s.heap.IsCell c v
 free:H X.env.locals=none
 freeC:∀x c,X.env.cells.lookup x=some c→H c=none
 pin:∀p∈X.pn++pins,s.heap.get? p.1=some p.2∧H p.1=none∧p.1≠X.env.locals∧p.1∉X.fs∧∀v,p.2.data≠ .cell v
 hok:HOk X.prog X.w H s.heap
 len:σ.length=X.N.length
section
variable {X:Cx}{pins:List (Addr × Obj)}{σ:List (Option V)}{H H':Hp}{s:Shared}{h':Heap}
theorem Cx.Ok.Qb3(ok:X.Ok){b:Addr}{o:Obj}(e:X.base.get? b=some o):b∉X.fs:=fun hb=>by
 have:=(ok.V2.mem hb).1
 rw[e]at this;cases this
theorem Inv.bs(I:Inv X pins σ H s):∀b o,X.base.get? b=some o→s.heap.get? b=some o∧H b=none:=fun b o e=>
 ⟨I.base.keep b o (I.ok.bs b o e).1 (I.ok.bs b o e).2 (I.ok.Qb3 e) (I.ok.noex b o e),I.base.free b o (I.ok.bs b o e).1 (I.ok.bs b o e).2 (I.ok.noex b o e)⟩
theorem Inv.bk(I:Inv X pins σ H s):∀b o,X.base.get? b=some o→s.heap.get? b=some o:=fun b o e=>(I.bs b o e).1
theorem Inv.mod(I:Inv X pins σ H s):Mod X.K X.mg X.base:=I.ok.mod
theorem Inv.kIn(I:Inv X pins σ H s):X.K.In s.heap:=I.ok.mod.kin.keeps I.bk
theorem Inv.nolimit(I:Inv X pins σ H s):s.heap.NoLimit:=I.ok.mod.nolimit.keeps I.bk
theorem Inv.lt(I:Inv X pins σ H s):X.env.locals<s.heap.objs.size:=let ⟨_,hn,_⟩:=I.loc;hn.lt
theorem Inv.sz(I:Inv X pins σ H s):X.s₀.heap.objs.size≤s.heap.objs.size:=Nat.le_trans I.ok.above (Nat.le_of_lt I.lt)
theorem Inv.Qb4(I:Inv X pins σ H s){a:Addr}(h:s.heap.objs.size≤a):a∉X.fs:=fun hb=>by
 obtain⟨_,o,ho,_⟩:=I.ok.V2.mem hb
 exact absurd (Nat.lt_of_lt_of_le (Heap.lt_size ho) (Nat.le_trans I.sz h)) (Nat.lt_irrefl _)
theorem Inv.cne(I:Inv X pins σ H s):∀x c,X.env.cells.lookup x=some c→c≠X.env.locals:=fun x c e z=>by
 obtain⟨v,o,ho,hd⟩:=I.cell x c e
 obtain⟨m,⟨o',es,ep,ho',hd',_⟩,_⟩:=I.loc
 rw[z,ho']at ho;cases ho;rw[hd']at hd;cases hd
theorem Inv.V2(I:Inv X pins σ H s):s.heap.FunFrames X.base X.outer:=by
 have all:∀(l:List Env),(∀b∈frs l,b∈X.fs)→X.s₀.heap.FunFrames X.base l→s.heap.FunFrames X.base l:=by
  intro l
  induction l with
  |nil=>intro _ _;trivial
  |cons env r ih=>
   intro hs hl
   obtain⟨hk,⟨L,o,hf,hn,ho,hd⟩,hr⟩:=hl
   have hL:L∈X.fs:=hs L (by unfold frs;rw[List.filterMap_cons,hf];exact List.mem_cons_self)
   obtain⟨sl,e⟩:=I.base.slot L o ho (I.ok.frf L hL) hL fun z=>I.ok.exfs L z hL
   exact⟨hk,⟨L,_,hf,hn,e,hd⟩,ih (fun b hb=>hs b (by unfold frs;rw[List.filterMap_cons,hf];exact List.mem_cons_of_mem _ hb)) hr⟩
 exact all X.outer (fun _ hb=>hb) I.ok.V2
theorem Inv.stack(I:Inv X pins σ H s):s.heap.FunFrames X.base X.stack:=by
 rcases I.ok.stk with e|⟨e,hf⟩
 ·rw[e];exact I.V2
 ·rw[e]
  obtain⟨m,hn,_⟩:=I.loc
  refine .cons (by rw[I.ok.kind];decide) hf hn ?_ I.V2
  exact Heap.get?_none_of_le (Nat.le_trans I.ok.bsz I.ok.above)
theorem Inv.Xp(I:Inv X pins σ H s):∀b∈frs X.stack,b∈X.env.locals::X.fs:=fun b hb=>by
 rcases I.ok.stk with e|⟨e,hf⟩
 ·rw[e]at hb;exact List.mem_cons_of_mem _ hb
 ·rw[e]at hb
  unfold frs at hb
  rw[List.filterMap_cons,hf]at hb
  exact hb
theorem Inv.Z8(I:Inv X pins σ H s):∀b∈frs X.stack,H b=none:=fun b hb=>by
 rcases List.mem_cons.mp (I.Xp b hb)with e|hb
 ·rw[e];exact I.free
 ·obtain⟨_,o,ho,_⟩:=I.ok.V2.mem hb
  exact I.base.free b o ho (I.ok.frf b hb) fun z=>I.ok.exfs b z hb
theorem Inv.step{g':Array GenState}{t':Nat}{d':Drawn}{ch:List Addr}(I:Inv X pins σ H s)
  (hch:∀b∈ch,(b∈X.ex∨X.s₀.heap.objs.size≤b)∧b≠X.env.locals∧(∀x c,X.env.cells.lookup x=some c→c≠b)∧∀p∈X.pn++pins,p.1≠b)
  (keep:∀b o,b≠X.env.locals→b∉X.fs→b∉ch→s.heap.get? b=some o→H b=none→h'.get? b=some o)
  (slot:∀b o,b≠X.env.locals→b∈X.fs→b∉ch→s.heap.get? b=some o→H b=none→∃sl,h'.get? b=some {o with slots:=sl}) (free:∀b o,b∉ch→s.heap.get? b=some o→H b=none→H' b=none)
  (there:∀b o,b∉ch→s.heap.get? b=some o→∃o',h'.get? b=some o')
  (Zq:∀b xs,H b=some (.tup xs)→H' b=some (.tup xs)) (frzs:∀b o u,H b=some (.frz o u)→H' b=some (.frz o u)) (tbls:∀b ps,H b=some (.tbl ps)→∃more,H' b=some (.tbl (ps++more)))
  (ns:∀m,s.heap.Ns X.env.locals m→h'.Ns X.env.locals m) (hok:HOk X.prog X.w H' h') (hg:AllBare g'):
  Inv X pins σ H' {s with heap:=h',gens:=g',drawn:=d',toks:=t'}:=by
 have neL:∀b o,X.s₀.heap.get? b=some o→b≠X.env.locals:=fun b o e=>Nat.ne_of_lt (Nat.lt_of_lt_of_le (Heap.lt_size e) I.ok.above)
 have neC:∀b o,X.s₀.heap.get? b=some o→b∉X.ex→b∉ch:=fun b o e hx hb=>by
  rcases(hch b hb).1 with z|z
  ·exact hx z
  ·exact absurd (Nat.lt_of_lt_of_le (Heap.lt_size e) z) (Nat.lt_irrefl _)
 have cellK:∀x c,X.env.cells.lookup x=some c→∀v,s.heap.IsCell c v→h'.IsCell c v:=fun x c e v⟨o,ho,hd⟩=>by
  have nch:c∉ch:=fun z=>(hch c z).2.2.1 x c e rfl
  by_cases hc:c∈X.fs
  ·obtain⟨sl,q⟩:=slot c o (I.cne x c e) hc nch ho (I.freeC x c e)
   exact⟨_,q,hd⟩
  ·exact⟨o,keep c o (I.cne x c e) hc nch ho (I.freeC x c e),hd⟩
 refine⟨I.ok,I.os,hg,⟨fun b o e n hb hx=>?_,fun b o e n hb hx=>?_,fun b o e n hx=>?_,fun b o e hx=>?_,fun b xs e=>Zq b xs (I.base.Zq b xs e),fun b o xs e=>frzs b o xs (I.base.frzs b o xs e),fun b ps e=>?_⟩,?_,fun x c e=>?_,?_,fun x c e=>?_,fun p hp=>?_,hok,I.len⟩
 ·exact keep b o (neL b o e) hb (neC b o e hx) (I.base.keep b o e n hb hx) (I.base.free b o e n hx)
 ·obtain⟨sl,e1⟩:=I.base.slot b o e n hb hx
  obtain⟨sl',e2⟩:=slot b _ (neL b o e) hb (neC b o e hx) e1 (I.base.free b o e n hx)
  exact⟨sl',e2⟩
 ·obtain⟨o',e1⟩:=I.base.there b o e hx
  exact free b o' (neC b o e hx) e1 (I.base.free b o e n hx)
 ·obtain⟨o',e1⟩:=I.base.there b o e hx
  exact there b o' (neC b o e hx) e1
 ·obtain⟨m1,e1⟩:=I.base.tbls b ps e
  obtain⟨m2,e2⟩:=tbls b _ e1
  exact⟨m1++m2,by rw[e2,Array.append_assoc]⟩
 ·obtain⟨m,hn,hl⟩:=I.loc
  refine⟨m,ns m hn,fun i x v e1 e2 e3=>?_⟩
  obtain⟨u,r,l⟩:=hl i x v e1 e2 e3
  refine⟨u,r,?_⟩
  rcases l with l|⟨k,c,e,z⟩
  ·exact .inl l
  ·exact .inr ⟨k,c,e,cellK x c e _ z⟩
 ·obtain⟨v,z⟩:=I.cell x c e
  exact⟨v,cellK x c e v z⟩
 ·obtain⟨m,⟨o,_,_,ho,_⟩,_⟩:=I.loc
  exact free _ o (fun z=>(hch _ z).2.1 rfl) ho I.free
 ·obtain⟨v,o,ho,hd⟩:=I.cell x c e
  exact free c o (fun z=>(hch c z).2.2.1 x c e rfl) ho (I.freeC x c e)
 ·obtain⟨e,n,ne,nf,d⟩:=I.pin p hp
  have nch:p.1∉ch:=fun z=>(hch p.1 z).2.2.2 p hp rfl
  exact⟨keep p.1 p.2 ne nf nch e n,free p.1 p.2 nch e n,ne,nf,d⟩
theorem Inv.un{t':Nat}(I:Inv X pins σ H s)(u:Un X.fs [] H H' s.heap h')(hok:HOk X.prog X.w H' h'):Inv X pins σ H' {s with heap:=h',toks:=t'}:=by
 obtain⟨m,⟨o,es,ep,ho,r⟩,_⟩:=id I.loc
 obtain⟨sl,hL⟩:=u.any ho I.free (by simp)
 exact I.step (g':=s.gens) (d':=s.drawn) (ch:=[]) (fun _ z=>nomatch z) (fun b o _ hb _ e n=>u.keep b o e n hb (by simp)) (fun b o _ hb _ e n=>u.slot b o e n hb (by simp)) (fun b o _ e n=>u.free b o e n (by simp)) (fun b o _ e=>u.there b o e (by simp)) u.Zq u.frzs u.tbls (fun m' hm=>by
  obtain⟨o',es',ep',ho',r'⟩:=hm
  rw[ho]at ho';cases ho'
  exact⟨_,es',ep',hL,r'⟩) hok I.bare
theorem Inv.call{g':Array GenState}{t':Nat}{d':Drawn}{ch:List Addr}(I:Inv X pins σ H s)(u:Un (frs X.stack) ch H H' s.heap h')(hok:HOk X.prog X.w H' h')(hg:AllBare g')
  (hch:∀b∈ch,(b∈X.ex∨X.s₀.heap.objs.size≤b)∧b≠X.env.locals∧(∀x c,X.env.cells.lookup x=some c→c≠b)∧∀p∈X.pn++pins,p.1≠b):
  Inv X pins σ H' {s with heap:=h',gens:=g',drawn:=d',toks:=t'}:=by
 obtain⟨m,⟨o,es,ep,ho,r⟩,_⟩:=id I.loc
 obtain⟨sl,hL⟩:=u.any ho I.free fun z=>(hch _ z).2.1 rfl
 exact I.step (ch:=ch) hch (fun b o hL hb hc e n=>u.keep b o e n (fun z=>(List.mem_cons.mp (I.Xp b z)).elim hL hb) hc) (fun b o _ _ hc e n=>u.any e n hc) (fun b o hc e n=>u.free b o e n hc) (fun b o hc e=>u.there b o e hc) u.Zq u.frzs u.tbls (fun m' hm=>by
  obtain⟨o',es',ep',ho',r'⟩:=hm
  rw[ho]at ho';cases ho'
  exact⟨_,es',ep',hL,r'⟩) hok hg
theorem Inv.turned{t':Nat}{it:Addr}(I:Inv X pins σ H s)(k:∀b o,b≠it→s.heap.get? b=some o→h'.get? b=some o) (hn:H it=none) (hL:it≠X.env.locals)
  (h1:it∈X.ex∨X.s₀.heap.objs.size≤it) (h2:∀x c,X.env.cells.lookup x=some c→c≠it) (h3:∀p∈X.pn++pins,p.1≠it):Inv X pins σ H {s with heap:=h',toks:=t'}:=by
 have nit:∀b u,H b=some u→b≠it:=fun b u e z=>by rw[z,hn]at e;cases e
 refine I.step (g':=s.gens) (d':=s.drawn) (ch:=[it]) (fun b hb=>?_) (fun b o _ _ hc e _=>k b o (fun z=>hc (by simp[z])) e) (fun b o _ _ hc e _=>⟨o.slots,k b o (fun z=>hc (by simp[z])) e⟩) (fun _ _ _ _ n=>n)
  (fun b o hc e=>⟨o,k b o (fun z=>hc (by simp[z])) e⟩) (fun _ _ e=>e) (fun _ _ _ e=>e) (fun b ps e=>⟨#[],by rw[e];simp⟩) (fun m hm=>?_) (fun b u e=>?_) I.bare
 ·have e:b=it:=by simpa using hb
  subst e
  exact⟨h1,hL,h2,h3⟩
 ·obtain⟨o,es,ep,ho,r⟩:=hm
  exact⟨o,es,ep,k _ o (Ne.symm hL) ho,r⟩
 ·refine(I.hok b u e).YZ (fun c v hc q=>k c v ?_ q) (fun _ q=>q) fun _ _ q=>q
  rcases hc with z|z
  ·rw[z];exact nit b u e
  ·exact nit c _ z
theorem Inv.tok(I:Inv X pins σ H s)(t:Nat):Inv X pins σ H {s with toks:=t}:=I.un (h':=s.heap) (t':=t) Un.refl I.hok
theorem Inv.kept{t':Nat}(I:Inv X pins σ H s)(k:∀b u,s.heap.get? b=some u→h'.get? b=some u):Inv X pins σ H {s with heap:=h',toks:=t'}:=I.un (Un.kept k) (I.hok.kept k)
theorem Inv.laid{a:Addr}{o:HO}{t':Nat}(I:Inv X pins σ H s)(k:∀b u,s.heap.get? b=some u→h'.get? b=some u) (hp:s.heap.objs.size≤a) (new:Q7 X.prog X.w (upd H a o) h' a o):
  Inv X pins σ (upd H a o) {s with heap:=h',toks:=t'}:=I.un (Un.laid k hp (I.hok.fresh hp)) (I.hok.laid k hp new)
theorem Inv.write{x e:Addr}{o:HO}{t':Nat}(I:Inv X pins σ H s)(mu:Mut (H x))(he:e=x∨H e=some (.own x))(k:∀b u,b≠e→s.heap.get? b=some u→h'.get? b=some u) (heo:∃u,h'.get? e=some u)
  (new:Q7 X.prog X.w (upd H x o) h' x o):Inv X pins σ (upd H x o) {s with heap:=h',toks:=t'}:=I.un (Un.write mu he k heo) (I.hok.write mu he k heo new)
theorem Inv.weak{σ':List (Option V)}(I:Inv X pins σ H s)(hl:σ'.length=σ.length)(w:∀(i:Nat) v,σ'[i]? =some (some v)→σ[i]? =some (some v)):Inv X pins σ' H s:=
 ⟨I.ok,I.os,I.bare,I.base,let ⟨m,hn,hl'⟩:=I.loc;⟨m,hn,fun i x v e1 e2 e3=>hl' i x v e1 (w i v e2) e3⟩,I.cell,I.free,I.freeC,I.pin,I.hok,hl.trans I.len⟩
theorem Inv.Zx{pins':List (Addr × Obj)}(I:Inv X pins σ H s)(h:∀p∈pins',s.heap.get? p.1=some p.2∧H p.1=none∧p.1≠X.env.locals∧p.1∉X.fs∧∀v,p.2.data≠ .cell v):Inv X pins' σ H s:=
 ⟨I.ok,I.os,I.bare,I.base,I.loc,I.cell,I.free,I.freeC,fun p hp=>(List.mem_append.mp hp).elim (fun z=>I.pin p (List.mem_append_left _ z)) (h p),I.hok,I.len⟩
theorem Vg{N:List Str}(hN:N.Nodup){i j:Nat}{x:Str}(a:N[i]? =some x)(b:N[j]? =some x):i=j:=by
 obtain⟨h1,e1⟩:=List.getElem?_eq_some_iff.mp a
 obtain⟨h2,e2⟩:=List.getElem?_eq_some_iff.mp b
 exact(List.getElem_inj hN).mp (e1.trans e2.symm)
theorem KN{M:Model}{A:Around}{E:Value→Shared→Prop}{i:Nat}{x:Str}{v:V}{u:Value}{Q:Unit→Shared→Prop}(I:Inv X pins σ H s)(hN:X.N.Nodup)(hi:X.N[i]? =some x)(hx:Loc X.env.scope x)(r:RelV v u)
  (h:∀s',Inv X pins (σ.set i (some v)) H s'→(∃a,Heap.SameBut a s.heap s'.heap∧(a=X.env.locals∨X.env.cells.lookup x=some a))→Q () s') (hf:X.fn x=true∨X.env.scope.names.lookup x=some .local:=by first|exact .inl rfl|exact .inr rfl|assumption):wpAny M A (storeName X.env x u) Q E s:=by
 obtain⟨m,hn,hl⟩:=id I.loc
 have hcls:(X.env.scope.kind==.class||(X.env.scope.kind==.module&&X.env.locals !=X.env.globals))=false:=by rw[I.ok.kind];rfl
 have hiσ:i<σ.length:=by rw[I.len];exact(List.getElem?_eq_some_iff.mp hi).1
 have cne:=I.cne
 have tracked:∀{a:Addr}{h':Heap},(∃o,s.heap.get? a=some o∧H a=none)→Heap.SameBut a s.heap h'→HOk X.prog X.w H h':=fun{a h'} ha hs b ob e=>by
  obtain⟨_,_,hfree⟩:=ha
  refine(I.hok b ob e).YZ (fun c w' hc q=>(hs.2 c ?_).trans q) (fun _ q=>q) fun _ _ q=>q
  rintro rfl
  rcases hc with rfl|hc
  ·rw[hfree]at e;cases e
  ·rw[hfree]at hc;cases hc
 rcases hx with hk|hk
 ·refine wpAny_storeName_local hk hn (fun h' hn' hs=>?_) hcls
  obtain⟨oL,_,_,hoL,_⟩:=id hn
  refine h _ ⟨I.ok,I.os,I.bare,⟨fun b o e n hb hx=>?_,fun b o e n hb hx=>?_,I.base.free,fun b o e hx=>?_,I.base.Zq,I.base.frzs,I.base.tbls⟩,⟨_,hn',fun j y v' e1 e2 e3=>?_⟩,fun y c e=>?_,I.free,I.freeC,fun p hp=>?_,tracked ⟨oL,hoL,I.free⟩ hs,by simpa using I.len⟩ ⟨_,hs,.inl rfl⟩
  ·exact(hs.2 b (Nat.ne_of_lt (Nat.lt_of_lt_of_le (Heap.lt_size e) I.ok.above))).trans (I.base.keep b o e n hb hx)
  ·obtain⟨sl,e1⟩:=I.base.slot b o e n hb hx
   exact⟨sl,(hs.2 b (Nat.ne_of_lt (Nat.lt_of_lt_of_le (Heap.lt_size e) I.ok.above))).trans e1⟩
  ·obtain⟨o',e1⟩:=I.base.there b o e hx
   exact⟨o',(hs.2 b (Nat.ne_of_lt (Nat.lt_of_lt_of_le (Heap.lt_size e) I.ok.above))).trans e1⟩
  ·by_cases hj:j=i
   ·subst hj
    rw[hi]at e1;cases e1
    rw[List.getElem?_set_self hiσ]at e2
    cases e2
    exact⟨u,r,.inl ⟨hk,by simp⟩⟩
   ·rw[List.getElem?_set_ne (Ne.symm hj)]at e2
    obtain⟨u',r',q⟩:=hl j y v' e1 e2 e3
    refine⟨u',r',?_⟩
    rcases q with⟨k,e⟩|⟨k,c,e,z⟩
    ·refine .inl ⟨k,?_⟩
     have:y≠x:=fun e=>hj (Vg hN e1 (e▸hi))
     simp[this,e]
    ·exact .inr ⟨k,c,e,z.sameBut hs (cne y c e)⟩
  ·obtain⟨w',z⟩:=I.cell y c e
   exact⟨w',z.sameBut hs (cne y c e)⟩
  ·obtain⟨e,n,ne,nf,d⟩:=I.pin p hp
   exact⟨(hs.2 p.1 ne).trans e,n,ne,nf,d⟩
 ·have hfn:X.fn x=true:=by
   rcases hf with z|z
   ·exact z
   ·rw[z]at hk;cases hk
  obtain⟨c,hc⟩:=I.ok.has x (.inl hk)
  obtain⟨w',z⟩:=I.cell x c hc
  refine wpAny_storeName_cell I.ok.kind hk hc z (fun h' hc' hs=>?_)
  obtain⟨oc,hoc,hocd⟩:=id z
  refine h {s with heap:=h'} ⟨I.ok,I.os,I.bare,⟨fun b o e n hb hx=>?_,fun b o e n hb hx=>?_,I.base.free,fun b o e hx=>?_,I.base.Zq,I.base.frzs,I.base.tbls⟩,⟨m,hn.sameBut hs (Ne.symm (cne x c hc)),fun j y v' e1 e2 e3=>?_⟩,fun y c' e=>?_,I.free,I.freeC,fun p hp=>?_,tracked ⟨oc,hoc,I.freeC x c hc⟩ hs,by simpa using I.len⟩ ⟨c,hs,.inr hc⟩
  ·exact(hs.2 b (Nat.ne_of_lt (Nat.lt_of_lt_of_le (Heap.lt_size e) (I.ok.cab x c hfn hc)))).trans (I.base.keep b o e n hb hx)
  ·obtain⟨sl,e1⟩:=I.base.slot b o e n hb hx
   exact⟨sl,(hs.2 b (Nat.ne_of_lt (Nat.lt_of_lt_of_le (Heap.lt_size e) (I.ok.cab x c hfn hc)))).trans e1⟩
  ·obtain⟨o',e1⟩:=I.base.there b o e hx
   exact⟨o',(hs.2 b (Nat.ne_of_lt (Nat.lt_of_lt_of_le (Heap.lt_size e) (I.ok.cab x c hfn hc)))).trans e1⟩
  ·by_cases hj:j=i
   ·subst hj
    rw[hi]at e1;cases e1
    rw[List.getElem?_set_self hiσ]at e2
    cases e2
    exact⟨u,r,.inr ⟨.inl hk,c,hc,hc'⟩⟩
   ·rw[List.getElem?_set_ne (Ne.symm hj)]at e2
    obtain⟨u',r',q⟩:=hl j y v' e1 e2 e3
    refine⟨u',r',?_⟩
    rcases q with q|⟨k,c',e,z'⟩
    ·exact .inl q
    ·refine .inr ⟨k,c',e,z'.sameBut hs ?_⟩
     rintro rfl
     exact hj (Vg hN e1 (I.ok.inj _ _ _ e hc▸hi))
  ·by_cases hcc:c'=c
   ·subst hcc;exact⟨_,hc'⟩
   ·obtain⟨w2,z2⟩:=I.cell y c' e
    exact⟨w2,z2.sameBut hs hcc⟩
  ·obtain⟨e,n,ne,nf,d⟩:=I.pin p hp
   refine⟨(hs.2 p.1 ?_).trans e,n,ne,nf,d⟩
   intro q
   rw[q,hoc]at e
   have q':oc=p.2:=Option.some.inj e
   exact d w' (by rw[←q'];exact hocd)
theorem Vh{M:Model}{A:Around}{E:Value→Shared→Prop}{i:Nat}{x:Str}{v:V}{u:Value}{Q:Unit→Shared→Prop}(I:Inv X pins σ H s)(hN:X.N.Nodup)(hi:X.N[i]? =some x)(hx:Loc X.env.scope x)(r:RelV v u)
  (h:∀s',Inv X pins (σ.set i (some v)) H s'→Q () s') (hf:X.fn x=true∨X.env.scope.names.lookup x=some .local:=by first|exact .inl rfl|exact .inr rfl|assumption):wpAny M A (storeName X.env x u) Q E s:=
 KN I hN hi hx r (fun s' I' _=>h s' I') hf
theorem Inv.jO{s':Shared}{ch:List Addr}(I:Inv X pins σ H s)(ho:s'.os=s.os)(u:Un (frs X.stack) ch H H' s.heap s'.heap)(hok:HOk X.prog X.w H' s'.heap)(hg:AllBare s'.gens)
  (hch:∀b∈ch,(b∈X.ex∨X.s₀.heap.objs.size≤b)∧b≠X.env.locals∧(∀x c,X.env.cells.lookup x=some c→c≠b)∧∀p∈X.pn++pins,p.1≠b):Inv X pins σ H' s':=by
 obtain⟨h',g',d',t',o'⟩:=s'
 have e:o'=s.os:=ho
 subst e
 exact I.call (g':=g') (t':=t') (d':=d') u hok hg hch
end
abbrev XK:=Value→Option Addr→Hp→Prop
abbrev St:=List (Option V)
abbrev VK:=V→Hp→Prop
abbrev TE:=St→Hp→VK→Prop
abbrev TT:=St→Hp→(Bool→Hp→Prop)→Prop
abbrev TA:=St→Hp→(List V→Hp→Prop)→Prop
structure Ends where
 nx:St→Hp→Prop
 rt:VK
 bk:St→Hp→Prop:=fun _ _=>False
 ct:St→Hp→Prop:=fun _ _=>False
abbrev TS:=Ends→St→Hp→Prop
def EP(X:Cx)(pins:List (Addr × Obj))(σ:St)(Q:VK)(u:Value)(s':Shared):Prop:=∃v H',Inv X pins σ H' s'∧RelV v u∧Q v H'
def TP(X:Cx)(pins:List (Addr × Obj))(σ:St)(Q:Bool→Hp→Prop)(b:Bool)(s':Shared):Prop:=∃H',Inv X pins σ H' s'∧Q b H'
def AP(X:Cx)(pins:List (Addr × Obj))(σ:St)(Q:List V→Hp→Prop)(us:List Value)(s':Shared):Prop:=∃vs H',Inv X pins σ H' s'∧Vals vs us∧Q vs H'
def SP(X:Cx)(pins:List (Addr × Obj))(D:Ends)(f:Flow)(s':Shared):Prop:=
 match f with
 | .next=>∃σ' H',Inv X pins σ' H' s'∧D.nx σ' H'
 | .brk=>∃σ' H',Inv X pins σ' H' s'∧D.bk σ' H'
 | .cont=>∃σ' H',Inv X pins σ' H' s'∧D.ct σ' H'
 | .ret u=>∃v σ' H',Inv X pins σ' H' s'∧RelV v u∧D.rt v H'
def PE(X:Cx)(e:Expr)(t:TE):Prop:=
 ∀(pins:List (Addr × Obj))(s:Shared)(σ:St)(H:Hp)(Q:VK),Inv X pins σ H s→t σ H Q→wpAny (model X.prog X.w) X.A (eval e X.env) (EP X pins σ Q) X.xe s
def PT(X:Cx)(e:Expr)(t:TT):Prop:=
 ∀(pins:List (Addr × Obj))(s:Shared)(σ:St)(H:Hp)(Q:Bool→Hp→Prop),Inv X pins σ H s→t σ H Q→wpAny (model X.prog X.w) X.A (isTrue e X.env (eval e X.env)) (TP X pins σ Q) X.xe s
def PW(X:Cx)(e:Expr)(t:TT):Prop:=
 ∀(whole:Sem Value)(pins:List (Addr × Obj))(s:Shared)(σ:St)(H:Hp)(Q:Bool→Hp→Prop),Inv X pins σ H s→t σ H Q→wpAny (model X.prog X.w) X.A (isTrue e X.env whole) (TP X pins σ Q) X.xe s
theorem PW.pt{X:Cx}{e:Expr}{t:TT}(h:PW X e t):PT X e t:=h _
def PA(X:Cx)(es:List Expr)(t:TA):Prop:=
 ∀(pos:Pos)(pins:List (Addr × Obj))(s:Shared)(σ:St)(H:Hp)(Q:List V→Hp→Prop),Inv X pins σ H s→t σ H Q→wpAny (model X.prog X.w) X.A (spliced (backTo pos (starEach es X.env))) (AP X pins σ Q) X.xe s
def PS(X:Cx)(st:Stmt)(t:TS):Prop:=
 ∀(pins:List (Addr × Obj))(s:Shared)(σ:St)(H:Hp)(D:Ends),Inv X pins σ H s→t D σ H→wpAny (model X.prog X.w) X.A (exec st X.env) (SP X pins D) X.xe s
def PSs(X:Cx)(st:List Stmt)(t:TS):Prop:=
 ∀(pins:List (Addr × Obj))(s:Shared)(σ:St)(H:Hp)(D:Ends),Inv X pins σ H s→t D σ H→wpAny (model X.prog X.w) X.A (execs st X.env) (SP X pins D) X.xe s
theorem thn{α:Type}{t:Sem α}{Q Q':α→Shared→Prop}{M:Model}{A:Around}{E:Value→Shared→Prop}{s:Shared}(h:wpAny M A t Q E s)(hQ:∀a s,Q a s→Q' a s):wpAny M A t Q' E s:=wpAny_mono h hQ fun _ _ x=>x
end L2
namespace L2
open PySem PySem.Spec PyProof.Rows
section
variable {X:Cx}
def WV(i:Nat):TE:=fun σ H Q=>∃v,σ[i]? =some (some v)∧Q v H
def tC(v:V):TE:=fun _ H Q=>Q v H
theorem wD{i:Nat}{x:Str}{pos:Pos}(hN:X.N[i]? =some x)(hv:Vis X.env.scope x)(hd:(x==("__debug__":Str))=false:=by decide)(hcd:(x==("__classdict__":Str))=false:=by decide):PE X (.Name x pos) (WV i):=by
 intro pins s σ H Q I h
 obtain⟨v,e,h⟩:=h
 obtain⟨m,hn,hl⟩:=I.loc
 obtain⟨u,r,l⟩:=hl i x v hN e hv
 have fin:EP X pins σ Q u s:=⟨v,H,I,r,h⟩
 rcases l with⟨hk,hm⟩|⟨hk,c,hc,hcell⟩
 ·exact wpAny_Name (wpAny_loadName_local I.ok.kind hk hn hm fin) hd
 ·rcases hk with hk|hk
  ·exact wpAny_Name (wpAny_loadName_cell I.ok.kind hk hc hcell fin) hd
  ·exact wpAny_Name (wpAny_loadName_free I.ok.kind hk hc hcell fin hcd) hd
theorem Qf{i j pos}:PE X (.Constant (.int i) j pos) (tC (.int i)):=fun _ _ _ H _ I h=>wpAny_Constant_int ⟨.int i,H,I.tok _,⟨_,rfl⟩,h⟩
theorem JP{b j pos}:PE X (.Constant (.bool b) j pos) (tC (.bl b)):=fun _ _ _ H _ I h=>Constant_bool ⟨.bl b,H,I,rfl,h⟩
theorem WW{j pos}:PE X (.Constant .none j pos) (tC .non):=fun _ _ _ H _ I h=>Constant_none ⟨.non,H,I,rfl,h⟩
theorem Qq{x j pos}:PE X (.Constant (.str x) j pos) (tC (.str x)):=fun _ _ _ H _ I h=>Calls.Constant_str ⟨.str x,H,I.tok _,⟨_,rfl⟩,h⟩
def Gl(X:Cx)(x:Str):Prop:=X.env.kindOf x=some .globalImplicit
theorem Z9{E:Value→Shared→Prop}{pins:List (Addr × Obj)}{s:Shared}{σ:St}{H:Hp}{x:Str}{u:Value}{pos:Pos}{Q:Value→Shared→Prop}(I:Inv X pins σ H s)(hg:Gl X x)(hm:X.mg x=some u)(h:Q u s)
  (hd:(x==("__debug__":Str))=false:=by decide):wpAny (model X.prog X.w) X.A (eval (.Name x pos) X.env) Q E s:=
 Calls.Name_function_global I.ok.kind hg (Calls.loadGlobal_global (by rw[I.ok.glob];exact I.mod.glob.keeps I.bk) hm h) hd
theorem Kf{E:Value→Shared→Prop}{pins:List (Addr × Obj)}{s:Shared}{σ:St}{H:Hp}{x:Str}{u:Value}{pos:Pos}{Q:Value→Shared→Prop}(I:Inv X pins σ H s)(hg:Gl X x)(hm:X.mg x=none)(hv:bootBuiltins x=some u)(h:Q u s)
  (hn:x≠"__name__":=by decide) (hd:(x==("__debug__":Str))=false:=by decide):wpAny (model X.prog X.w) X.A (eval (.Name x pos) X.env) Q E s:=by
 obtain⟨mb,h1,h2⟩:=I.mod.blt
 exact Calls.Name_function_global I.ok.kind hg (Calls.loadGlobal_builtin (by rw[I.ok.glob];exact I.mod.glob.keeps I.bk) hm (by rw[I.ok.blt];exact h1.keeps I.bk) ((h2 x hn).trans hv) h) hd
theorem QW{x:Str}{v:V}{u:Value}{pos:Pos}(hg:Gl X x)(hm:X.mg x=some u)(r:RelV v u)(hd:(x==("__debug__":Str))=false:=by decide):PE X (.Name x pos) (tC v):=
 fun _ _ _ H _ I h=>Z9 I hg hm ⟨v,H,I,r,h⟩ hd
theorem JQ{x:Str}{v:V}{u:Value}{pos:Pos}(hg:Gl X x)(hm:X.mg x=none)(hv:bootBuiltins x=some u)(r:RelV v u)(hn:x≠"__name__":=by decide)(hd:(x==("__debug__":Str))=false:=by decide):PE X (.Name x pos) (tC v):=
 fun _ _ _ H _ I h=>Kf I hg hm hv ⟨v,H,I,r,h⟩ hn hd
variable {a b:Expr}{ta tb:TE}{pos:Pos}
def PC(X:Cx)(op:CmpOp)(a b:Expr)(t:TE):Prop:=
 ∀(pins:List (Addr × Obj))(s:Shared)(σ:St)(H:Hp)(Q:VK),Inv X pins σ H s→t σ H Q→
  wpAny (model X.prog X.w) X.A (eval a X.env) (fun v s₁=>wpAny (model X.prog X.w) X.A (eval b X.env) (fun u s₂=>wpAny (model X.prog X.w) X.A (compareOp op v u) (EP X pins σ Q) X.xe s₂) X.xe s₁) X.xe s
theorem ke(b:Expr){op:CmpOp}(h:op≠ .In)(h2:op≠ .NotIn):behindInMarks op b=false:=by
 have e1:(op==CmpOp.In)=false:=by cases op<;>first|rfl|exact absurd rfl h
 have e2:(op==CmpOp.NotIn)=false:=by cases op<;>first|rfl|exact absurd rfl h2
 cases b<;>simp[behindInMarks,e1,e2]
def Qb5(ta:TE):TE:=fun σ H Q=>ta σ H fun x H1=>Q (.bl (decide (x=.non))) H1
theorem RelV.kf{x:V}{v:Value}(r:RelV x v):(v==Value.none)=decide (x=.non):=by
 cases x with
 |non=>cases r;rfl
 |bl _=>cases r;rfl
 |int _=>obtain⟨t,rfl⟩:=r;rfl
 |str _=>obtain⟨t,rfl⟩:=r;rfl
 |byt _=>obtain⟨t,rfl⟩:=r;rfl
 |flt _=>obtain⟨t,rfl⟩:=r;rfl
 |ref _=>cases r;rfl
 |ty _=>cases r;rfl
theorem yN{j pos'}(ha:PE X a ta):PC X .Is a (.Constant .none j pos') (Qb5 ta):=by
 intro pins s σ H Q I h
 refine thn (ha pins s σ H _ I h) fun v s1⟨x,H1,I1,r1,q1⟩=>?_
 exact Constant_none (is_none_gen ⟨.bl _,H1,I1,by rw[r1.kf];rfl,q1⟩)
def tB(t:TE):TT:=fun σ H Q=>t σ H fun x H1=>∃c,x=.bl c∧Q c H1
theorem yO{op:CmpOp}{t:TE}(h:PC X op a b t)(h1:behindInMarks op b=false:=by first|exact ke _ (by decide) (by decide)|rfl):PT X (.Compare a [op] [b] pos) (tB t):=by
 intro pins s σ H Q I hw
 refine wpAny_isTrue_Compare1 (thn (h pins s σ H _ I hw) fun v s1 h1=>thn h1 fun u s2 h2=>thn h2 fun c s3⟨x,H1,I1,r1,q1⟩=>?_) h1
 obtain⟨d,rfl,q⟩:=q1
 cases r1
 exact wpAny_truthy_bool ⟨H1,I1,q⟩
theorem JR{e:Expr}{t:TE}(h:PE X e t)(he:∀whole,isTrue e X.env whole=(do let v←whole;standAt e.pos;holding [v] (truthy v)):=by intro _;rfl):PT X e (tB t):=by
 intro pins s σ H Q I hw
 refine isTrue_plain (thn (h pins s σ H _ I hw) fun v s1⟨x,H1,I1,r1,q1⟩=>?_) (he _)
 obtain⟨d,rfl,q⟩:=q1
 cases r1
 exact wpAny_truthy_bool ⟨H1,I1,q⟩
variable {tA tB':TT}{rest:List Expr}
def Qb6(t u:TT):TT:=fun σ H Q=>t σ H fun c H1=>if c=true then u σ H1 Q else Q false H1
def tOr(t u:TT):TT:=fun σ H Q=>t σ H fun c H1=>if c=true then Q true H1 else u σ H1 Q
def Qa8(t:TT):TT:=fun σ H Q=>t σ H fun c H1=>Q (!c) H1
theorem Y3(ha:PT X a tA):PW X (.BoolOp .And [a] pos) tA:=by
 intro wh pins s σ H Q I h
 refine isTrue_and (thn (ha pins s σ H Q I h) fun c s1 e=>?_)
 cases c with
 |true=>exact isTrue_and_nil e
 |false=>exact e
theorem Z3(ha:PT X a tA):PW X (.BoolOp .Or [a] pos) tA:=by
 intro wh pins s σ H Q I h
 refine isTrue_or (thn (ha pins s σ H Q I h) fun c s1 e=>?_)
 cases c with
 |false=>exact isTrue_or_nil e
 |true=>exact e
theorem UZ(ha:PT X a tA)(hb:PW X (.BoolOp .And (b::rest) pos) tB'):PW X (.BoolOp .And (a::b::rest) pos) (Qb6 tA tB'):=by
 intro wh pins s σ H Q I h
 refine isTrue_and (thn (ha pins s σ H _ I h) fun c s1⟨H1,I1,q1⟩=>?_)
 cases c with
 |true=>exact hb wh pins s1 σ H1 Q I1 q1
 |false=>exact⟨H1,I1,q1⟩
theorem Km(ha:PT X a tA)(hb:PW X (.BoolOp .Or (b::rest) pos) tB'):PW X (.BoolOp .Or (a::b::rest) pos) (tOr tA tB'):=by
 intro wh pins s σ H Q I h
 refine isTrue_or (thn (ha pins s σ H _ I h) fun c s1⟨H1,I1,q1⟩=>?_)
 cases c with
 |true=>exact⟨H1,I1,q1⟩
 |false=>exact hb wh pins s1 σ H1 Q I1 q1
theorem Za(ha:PT X a tA):PT X (.UnaryOp .Not a pos) (Qa8 tA):=by
 intro pins s σ H Q I h
 exact isTrue_not (ha pins s σ H (fun c H1=>Q (!c) H1) I h)
def vm(ta tb:TE):TE:=fun σ H Q=>ta σ H fun x H1=>∃c,x=.bl c∧if c=true then tb σ H1 Q else Q (.bl false) H1
def QbQ(ta tb:TE):TE:=fun σ H Q=>ta σ H fun x H1=>∃c,x=.bl c∧if c=true then Q (.bl true) H1 else tb σ H1 Q
def Qa9(ta:TE):TE:=fun σ H Q=>ta σ H fun x H1=>∃c,x=.bl c∧Q (.bl (!c)) H1
theorem Zy{op}{t:TE}(h:PE X a t):PE X (.BoolOp op [a] pos) t:=fun pins s σ H Q I hw=>BoolOp_one (h pins s σ H Q I hw)
theorem Zz(ha:PE X a ta)(hb:PE X (.BoolOp .And (b::rest) pos) tb):PE X (.BoolOp .And (a::b::rest) pos) (vm ta tb):=by
 intro pins s σ H Q I h
 refine BoolOp_and (thn (ha pins s σ H _ I h) fun v s1⟨x,H1,I1,r1,q1⟩=>?_)
 obtain⟨c,rfl,q1⟩:=q1
 cases r1
 refine wpAny_truthy_bool ?_
 cases c with
 |true=>exact hb pins s1 σ H1 Q I1 q1
 |false=>exact⟨.bl false,H1,I1,rfl,q1⟩
theorem yP(ha:PE X a ta)(hb:PE X (.BoolOp .Or (b::rest) pos) tb):PE X (.BoolOp .Or (a::b::rest) pos) (QbQ ta tb):=by
 intro pins s σ H Q I h
 refine BoolOp_or (thn (ha pins s σ H _ I h) fun v s1⟨x,H1,I1,r1,q1⟩=>?_)
 obtain⟨c,rfl,q1⟩:=q1
 cases r1
 refine wpAny_truthy_bool ?_
 cases c with
 |false=>exact hb pins s1 σ H1 Q I1 q1
 |true=>exact⟨.bl true,H1,I1,rfl,q1⟩
theorem yQ(ha:PE X a ta):PE X (.UnaryOp .Not a pos) (Qa9 ta):=by
 intro pins s σ H Q I h
 refine UnaryOp_ (thn (ha pins s σ H _ I h) fun v s1⟨x,H1,I1,r1,q1⟩=>?_)
 obtain⟨c,rfl,q1⟩:=q1
 cases r1
 exact not_of (wpAny_truthy_bool ⟨.bl (!c),H1,I1,rfl,q1⟩)
def tIf(t:TT)(ta tb:TE):TE:=fun σ H Q=>t σ H fun c H1=>if c=true then ta σ H1 Q else tb σ H1 Q
theorem J0{c:Expr}(hc:PT X c tA)(ha:PE X a ta)(hb:PE X b tb):PE X (.IfExp c a b pos) (tIf tA ta tb):=by
 intro pins s σ H Q I h
 refine wpAny_IfExp (thn (hc pins s σ H _ I h) fun d s1⟨H1,I1,q1⟩=>?_)
 cases d with
 |true=>exact ha pins s1 σ H1 Q I1 q1
 |false=>exact hb pins s1 σ H1 Q I1 q1
end
end L2
namespace L2
open PySem PySem.Spec PyProof.Rows
def SqL(K:PySem.W.Frag)(H:Hp)(a:Addr)(xs:List V):Prop:=
 Rd H a (.lst xs)∨
  ∃(o:Obj)(its:Array Value)(n:Nat),K.lookup a=some o∧o.cls=.type "list"∧o.dict=none∧o.data=.seq its n∧its.size≤sizeLine∧Vals xs its.toList
def SqT(K:PySem.W.Frag)(H:Hp)(a:Addr)(xs:List V):Prop:=
 Rd H a (.tup xs)∨
  ∃(o:Obj)(its:Array Value)(n:Nat),K.lookup a=some o∧o.cls=.type "tuple"∧o.data=.seq its n∧its.size≤sizeLine∧Vals xs its.toList
def Qb7:Value→Option V
 | .none=>some .non
 | .bool b=>some (.bl b)
 | .int i _=>some (.int i)
 | .str x _=>some (.str x)
 | .bytes b _=>some (.byt b)
 | .float b _=>some (.flt b)
 | .ref a=>some (.ref a)
 | .type n=>some (.ty n)
 |_=>none
theorem RelV.abs{x:V}{u:Value}(r:RelV x u):Qb7 u=some x:=by
 cases x with
 |non=>cases r;rfl
 |bl _=>cases r;rfl
 |int _=>obtain⟨t,rfl⟩:=r;rfl
 |str _=>obtain⟨t,rfl⟩:=r;rfl
 |byt _=>obtain⟨t,rfl⟩:=r;rfl
 |flt _=>obtain⟨t,rfl⟩:=r;rfl
 |ref _=>cases r;rfl
 |ty _=>cases r;rfl
theorem RelV.inj{x y:V}{u:Value}(r:RelV x u)(q:RelV y u):x=y:=Option.some.inj (r.abs.symm.trans q.abs)
theorem Vals.inj:∀{xs ys:List V}{us:List Value},Vals xs us→Vals ys us→xs=ys
 |_,_,_,.nil,.nil=>rfl
 |_,_,_,.cons r t,.cons r' t'=>by rw[r.inj r',Vals.inj t t']
section
variable {X:Cx}{pins:List (Addr × Obj)}{σ:St}{H:Hp}{s:Shared}{a:Addr}{xs ys:List V}
theorem SqT.of{K:PySem.W.Frag}(h:H a=some (.tup xs)):SqT K H a xs:=.inl (.inl h)
theorem Inv.list(I:Inv X pins σ H s)(h:SqL X.K H a xs):∃its:List Value,Vals xs its∧PlainL s.heap a its.toArray∧xs.length≤sizeLine:=by
 rcases h with h|⟨o,its,n,hk,hc,hd,hs,hz,r⟩
 ·obtain⟨z,its,n,r,e⟩:=h.ok I.hok
  exact⟨its,r,⟨_,n,e,rfl,rfl,rfl⟩,z⟩
 ·refine⟨its.toList,r,⟨o,n,I.kIn a o hk,hc,hd,by simpa using hs⟩,?_⟩
  have e:=r.length
  simp only[Array.length_toList]at e
  omega
theorem Inv.tuple(I:Inv X pins σ H s)(h:SqT X.K H a xs):∃its:List Value,Vals xs its∧IsTup s.heap a its.toArray∧xs.length≤sizeLine:=by
 rcases h with h|⟨o,its,n,hk,hc,hs,hz,r⟩
 ·obtain⟨z,its,r,p⟩:=h.ok I.hok
  exact⟨its,r,p.tup,z⟩
 ·refine⟨its.toList,r,⟨o,I.kIn a o hk,hc,n,by simpa using hs⟩,?_⟩
  have e:=r.length
  simp only[Array.length_toList]at e
  omega
theorem Inv.kg(I:Inv X pins σ H s)(h:SqL X.K H a xs)(h':SqL X.K H a ys):xs=ys:=by
 obtain⟨its,r,⟨o,n,e,_,_,d⟩,_⟩:=I.list h
 obtain⟨its',r',⟨o',n',e',_,_,d'⟩,_⟩:=I.list h'
 rw[e]at e';cases e'
 rw[d]at d'
 injection d' with d1 _
 have:its=its':=by simpa using congrArg Array.toList d1
 subst this
 exact r.inj r'
theorem Inv.V6(I:Inv X pins σ H s)(h:SqT X.K H a xs)(h':SqT X.K H a ys):xs=ys:=by
 obtain⟨its,r,⟨o,e,_,n,d⟩,_⟩:=I.tuple h
 obtain⟨its',r',⟨o',e',_,n',d'⟩,_⟩:=I.tuple h'
 rw[e]at e';cases e'
 rw[d]at d'
 injection d' with d1 _
 have:its=its':=by simpa using congrArg Array.toList d1
 subst this
 exact r.inj r'
end
abbrev Cx.xZ(X:Cx)(E:Value→Shared→Prop):Cx:={X with xe:=E}
abbrev Cx.nox(X:Cx):Cx:=X.xZ fun _ _=>False
theorem Cx.Ok.xZ{X:Cx}(ok:X.Ok)(E:Value→Shared→Prop):(X.xZ E).Ok:=
 ⟨ok.mod,ok.kind,ok.glob,ok.blt,ok.above,ok.inj,ok.has,ok.cab,ok.hd,ok.frames,ok.stk,ok.exf,ok.bs,ok.bsz,ok.noex,ok.exfs,ok.V2,ok.frf⟩
theorem Cx.Ok.Kg{X:Cx}{E:Value→Shared→Prop}(ok:(X.xZ E).Ok):X.Ok:=
 ⟨ok.mod,ok.kind,ok.glob,ok.blt,ok.above,ok.inj,ok.has,ok.cab,ok.hd,ok.frames,ok.stk,ok.exf,ok.bs,ok.bsz,ok.noex,ok.exfs,ok.V2,ok.frf⟩
section
variable {X:Cx}{pins:List (Addr × Obj)}{σ:St}{H:Hp}{s:Shared}{E:Value→Shared→Prop}
theorem Inv.xZ(I:Inv X pins σ H s)(E:Value→Shared→Prop):Inv (X.xZ E) pins σ H s:=⟨I.ok.xZ E,I.os,I.bare,I.base,I.loc,I.cell,I.free,I.freeC,I.pin,I.hok,I.len⟩
theorem Inv.Kg(I:Inv (X.xZ E) pins σ H s):Inv X pins σ H s:=⟨I.ok.Kg,I.os,I.bare,I.base,I.loc,I.cell,I.free,I.freeC,I.pin,I.hok,I.len⟩
theorem SP.Kg{D:Ends}{f:Flow}{s':Shared}(h:SP (X.xZ E) pins D f s'):SP X pins D f s':=by
 cases f with
 |next=>obtain⟨σ',H',I,q⟩:=h;exact⟨σ',H',I.Kg,q⟩
 |brk=>obtain⟨σ',H',I,q⟩:=h;exact⟨σ',H',I.Kg,q⟩
 |cont=>obtain⟨σ',H',I,q⟩:=h;exact⟨σ',H',I.Kg,q⟩
 |ret u=>obtain⟨v,σ',H',I,r,q⟩:=h;exact⟨v,σ',H',I.Kg,r,q⟩
theorem PSs.nox{st:List Stmt}{t:TS}(h:PSs X.nox st t):PSs X st t:=fun pins s σ H D I hw=>
 wpAny_mono (h pins s σ H D (I.xZ _) hw) (fun _ _ q=>q.Kg) fun _ _ z=>False.elim z
end
section
variable {X:Cx}{st:Stmt}{rest:List Stmt}{t u:TS}{e:Expr}{te:TE}{pos:Pos}
def QK:TS:=fun D σ H=>D.nx σ H
def Zj(t u:TS):TS:=fun D σ H=>t {D with nx:=u D} σ H
theorem JA:PSs X [] QK:=fun _ _ σ H _ I h=>wpAny_execs_nil ⟨σ,H,I,h⟩
theorem Qe(h1:PS X st t)(h2:PSs X rest u):PSs X (st::rest) (Zj t u):=by
 intro pins s σ H D I h
 refine wpAny_execs_cons (thn (h1 pins s σ H {D with nx:=u D} I h) fun f s1 q=>?_)
 cases f with
 |next=>
  obtain⟨σ',H',I',q⟩:=q
  exact h2 pins s1 σ' H' D I' q
 |ret v=>exact q
 |brk=>exact q
 |cont=>exact q
theorem Qm(h1:PS X st t):PSs X [st] t:=by
 intro pins s σ H D I h
 refine wpAny_execs_cons (thn (h1 pins s σ H D I h) fun f s1 q=>?_)
 cases f with
 |next=>exact wpAny_execs_nil q
 |ret v=>exact q
 |brk=>exact q
 |cont=>exact q
theorem Inv.quiet{pins:List (Addr × Obj)}{σ:St}{H:Hp}{s:Shared}(I:Inv X pins σ H s):interactive X.env=false:=by simp[interactive,I.ok.kind]
def Qba(te:TE):TS:=fun D σ H=>te σ H fun _ H1=>D.nx σ H1
theorem JS(he:PE X e te)(hs:swapsWith e none pos.line X.env=pure false:=by rfl):PS X (.Expr e pos) (Qba te):=by
 intro pins s σ H D I h
 exact wpAny_Expr_any (thn (he pins s σ H _ I h) fun v s1⟨x,H1,I1,r1,q1⟩=>⟨σ,H1,I1,q1⟩) I.quiet hs
def vn(te:TE):TS:=fun D σ H=>te σ H D.rt
theorem QD(he:PE X e te):PS X (.Return (some e) pos) (vn te):=by
 intro pins s σ H D I h
 exact wpAny_Return_some (thn (he pins s σ H _ I h) fun v s1⟨x,H1,I1,r1,q1⟩=>⟨x,σ,H1,I1,r1,q1⟩)
def yD(c:TT)(t u:TS):TS:=fun D σ H=>c σ H fun b H1=>if b=true then t D σ H1 else u D σ H1
theorem Xa{c:Expr}{a b:List Stmt}{tc:TT}(hc:PT X c tc)(ha:PSs X a t)(hb:PSs X b u):PS X (.If c a b pos) (yD tc t u):=by
 intro pins s σ H D I h
 refine wpAny_If (thn (hc pins s σ H _ I h) fun d s1⟨H1,I1,q1⟩=>?_)
 cases d with
 |true=>exact ha pins s1 σ H1 D I1 q1
 |false=>exact hb pins s1 σ H1 D I1 q1
end
abbrev TG:=V→St→Hp→(St→Hp→Prop)→Prop
abbrev TGs:=List V→St→Hp→(St→Hp→Prop)→Prop
def PG(X:Cx)(target:Expr)(t:TG):Prop:=
 ∀(pins:List (Addr × Obj))(s:Shared)(σ:St)(H:Hp)(v:V)(u:Value)(Q:St→Hp→Prop),Inv X pins σ H s→RelV v u→t v σ H Q→
  wpAny (model X.prog X.w) X.A (assign target X.env u) (fun _ s'=>∃σ' H',Inv X pins σ' H' s'∧Q σ' H') X.xe s
def PGs(X:Cx)(ts:List Expr)(t:TGs):Prop:=
 ∀(pins:List (Addr × Obj))(s:Shared)(σ:St)(H:Hp)(vs:List V)(us:List Value)(Q:St→Hp→Prop),Inv X pins σ H s→Vals vs us→t vs σ H Q→
  wpAny (model X.prog X.w) X.A (assignInOrder ((assignEach ts X.env).map (·.2)) us) (fun _ s'=>∃σ' H',Inv X pins σ' H' s'∧Q σ' H') X.xe s
abbrev QaX:=V→V→V→Hp→(Hp→Prop)→Prop
def QbR(X:Cx)(t:QaX):Prop:=
 ∀(pins:List (Addr × Obj))(s:Shared)(σ:St)(H:Hp)(o i v:V)(ov iv u:Value)(Q:Hp→Prop),Inv X pins σ H s→RelV o ov→RelV i iv→RelV v u→t o i v H Q→
  wpAny (model X.prog X.w) X.A (setItem ov iv u) (fun _ s'=>∃H',Inv X pins σ H' s'∧Q H') X.xe s
section
variable {X:Cx}{pos:Pos}
def QL(i:Nat):TG:=fun v σ H Q=>Q (σ.set i (some v)) H
theorem Qj{i:Nat}{x:Str}(hN:X.N.Nodup)(hi:X.N[i]? =some x)(hx:Loc X.env.scope x)(hf:X.fn x=true∨X.env.scope.names.lookup x=some .local:=by first|exact .inl rfl|exact .inr rfl|assumption):PG X (.Name x pos) (QL i):=by
 intro pins s σ H v u Q I r h
 exact wpAny_assign_Name (Vh I hN hi hx r (fun s' I'=>⟨_,H,I',h⟩) hf)
def Qb8:TGs:=fun vs σ H Q=>vs=[]∧Q σ H
def Qbb(t:TG)(u:TGs):TGs:=fun vs σ H Q=>∃v r,vs=v::r∧t v σ H fun σ' H'=>u r σ' H' Q
theorem QX:PGs X [] Qb8:=by
 intro pins s σ H vs us Q I r h
 obtain⟨e,h⟩:=h
 subst e
 cases r
 exact assignInOrder_nil ⟨σ,H,I,h⟩
theorem Qk{e:Expr}{es:List Expr}{t:TG}{u:TGs}(h1:PG X e t)(h2:PGs X es u)
  (hs:(assignEach (e::es) X.env).map (·.2)=assign e X.env::(assignEach es X.env).map (·.2):=by rfl):PGs X (e::es) (Qbb t u):=by
 intro pins s σ H vs us Q I r h
 obtain⟨v,vr,e1,h⟩:=h
 subst e1
 cases r with
 |cons r rr=>
  rw[hs]
  refine assignInOrder_cons (thn (h1 pins s σ H _ _ _ I r h) fun _ s1⟨σ1,H1,I1,q1⟩=>?_)
  exact h2 pins s1 σ1 H1 _ _ Q I1 rr q1
def QbS(K:PySem.W.Frag)(n:Nat)(t:TGs):TG:=fun v σ H Q=>∃a xs,v=.ref a∧SqT K H a xs∧xs.length=n∧t xs σ H Q
theorem Jy{es:List Expr}{k:Nat}{t:TGs}{n:Nat}(hc:X.calm=true)(h:PGs X es t)
  (hn:(assignEach es X.env).length=n:=by rfl) (hst:(assignEach es X.env).findIdx? (·.1)=none:=by rfl):PG X (.Tuple es k pos) (QbS X.K n t):=by
 intro pins s σ H v u Q I r hw
 obtain⟨a,xs,e1,hq,hl,hw⟩:=hw
 subst e1
 cases r
 obtain⟨its,rv,ht,hz⟩:=I.tuple hq
 refine assign_Tuple_tuple (I.ok.hd hc) ht (by simp[hn, ←hl,rv.length]) hst fun h' hx=>?_
 have I1:Inv X pins σ H {s with heap:=h'}:=I.kept (t':=s.toks) fun b o e=>hx b o (Nat.ne_of_lt (Heap.lt_size e)) e
 exact h pins _ σ H xs _ Q I1 (by simpa using rv) hw
def Qb9(to ti:TE)(t:QaX):TG:=fun v σ H Q=>to σ H fun o H1=>ti σ H1 fun i H2=>t o i v H2 fun H3=>Q σ H3
theorem wE{o i:Expr}{to ti:TE}{t:QaX}(ho:PE X o to)(hi:PE X i ti)(hs:QbR X t)
  (ha:∀v,assign (.Subscript o i pos) X.env v=(do
   let ov←holding [v] (eval o X.env)
   let iv←holding [v,ov] (eval i X.env)
   standAt pos
   holding [v,ov,iv] (setItem ov iv v)
   release [v,ov,iv] []):=by intro _;rfl):PG X (.Subscript o i pos) (Qb9 to ti t):=by
 intro pins s σ H v u Q I r h
 rw[ha]
 refine wpAny_bind (wpAny_holding (thn (ho pins s σ H _ I h) fun ov s1⟨x,H1,I1,r1,q1⟩=>?_))
 refine wpAny_bind (wpAny_holding (thn (hi pins s1 σ H1 _ I1 q1) fun iv s2⟨y,H2,I2,r2,q2⟩=>?_))
 refine wpAny_bind (wpAny_standAt (wpAny_bind (wpAny_holding (thn (hs pins s2 σ H2 x y v ov iv u _ I2 r1 r2 r q2) fun _ s3⟨H3,I3,q3⟩=>?_))))
 exact wpAny_release ⟨σ,H3,I3,q3⟩
def JI(te:TE)(g:TG):TS:=fun D σ H=>te σ H fun x H1=>g x σ H1 D.nx
theorem Zb{tg e:Expr}{te:TE}{g:TG}(he:PE X e te)(hg:PG X tg g)(hs:swapsWithSole [tg] e pos.line X.env=pure false:=by rfl)(hw:swappedStores [tg] e X.env=pure none:=by rfl)
  (h1:(assignEach [tg] X.env).map (·.2)=[assign tg X.env]:=by rfl):PS X (.Assign [tg] e pos) (JI te g):=by
 intro pins s σ H D I h
 refine wpAny_Assign_stores (thn (he pins s σ H _ I h) fun v s1⟨x,H1,I1,r1,q1⟩=>?_) hs hw
 rw[h1]
 exact thn (hg pins s1 σ H1 x v _ I1 r1 q1) fun _ s2 q=>q
theorem Qu{i:Nat}{x:Str}{e:Expr}{te:TE}{pos':Pos}(hN:X.N.Nodup)(hi:X.N[i]? =some x)(hx:Loc X.env.scope x)(he:PE X e te)(hs:swapsWith e (some (.Name x pos')) pos.line X.env=pure false:=by rfl)(hf:X.fn x=true∨X.env.scope.names.lookup x=some .local:=by first|exact .inl rfl|exact .inr rfl|assumption):
  PS X (.Assign [.Name x pos'] e pos) (JI te (QL i)):=by
 intro pins s σ H D I h
 refine wpAny_Assign_Name (thn (he pins s σ H _ I h) fun v s1⟨y,H1,I1,r1,q1⟩=>?_) hs
 exact Vh I1 hN hi hx r1 (fun s2 I2=>⟨_,H1,I2,q1⟩) hf
end
section
variable {X:Cx}{pos:Pos}
def wF(c:TT)(tb:TS):TS:=fun D σ H=>∃W:Nat→St→Hp→Prop,(∃m,W m σ H)∧∀m σ H,W m σ H→
 c σ H fun b H1=>if b=true then ∃N:St→Hp→Prop,(∀σ' H',N σ' H'→∃m',m'<m∧W m' σ' H')∧tb {D with nx:=N,ct:=N,bk:=D.nx} σ H1 else D.nx σ H1
theorem kh{c:Expr}{body:List Stmt}{tc:TT}{tb:TS}(hp:PassesOwn (model X.prog X.w) X.A X.env X.xe)(hc:PT X c tc)(hb:PSs X body tb):PS X (.While c body [] pos) (wF tc tb):=by
 intro pins s σ H D I h
 obtain⟨W,⟨m0,w0⟩,turn⟩:=h
 refine wpAny_While (codeAny_whileLoop (fun n s'=>∃σ' H',Inv X pins σ' H' s'∧W n σ' H') ?_ m0 ⟨σ,H,I,w0⟩)
 rintro n s1 ⟨σ1,H1,I1,w1⟩
 refine wpAny_passesOwn hp (thn (hc pins s1 σ1 H1 _ I1 (turn n σ1 H1 w1)) fun b s2⟨H2,I2,q2⟩=>?_)
 cases b with
 |true=>
  obtain⟨N,hN,q2⟩:=q2
  rw[if_pos rfl]
  refine wpAny_passesOwn hp (thn (hb pins s2 σ1 H2 _ I2 q2) fun f s3 q3=>?_)
  cases f with
  |next=>
   obtain⟨σ3,H3,I3,n3⟩:=q3
   obtain⟨m',hm,w3⟩:=hN σ3 H3 n3
   exact⟨m',hm,σ3,H3,I3,w3⟩
  |cont=>
   obtain⟨σ3,H3,I3,n3⟩:=q3
   obtain⟨m',hm,w3⟩:=hN σ3 H3 n3
   exact⟨m',hm,σ3,H3,I3,w3⟩
  |brk=>exact q3
  |ret v=>exact q3
 |false=>
  rw[if_neg Bool.false_ne_true]
  exact wpAny_execs_nil ⟨σ1,H2,I2,q2⟩
end
structure It where
 go:Nat→Hp→Prop
 yld:Nat→Hp→V→Hp→Prop
 stop:Nat→Hp→Prop
def jI(X:Cx)(pins:List (Addr × Obj))(H:Hp)(b:Addr):Prop:=
 H b=none∧b≠X.env.locals∧b∉X.fs∧(b∈X.ex∨X.s₀.heap.objs.size≤b)∧(∀x c,X.env.cells.lookup x=some c→c≠b)∧∀p∈X.pn++pins,p.1≠b
theorem Inv.wG{X:Cx}{pins:List (Addr × Obj)}{σ:St}{H H':Hp}{s:Shared}{b:Addr}(I:Inv X pins σ H s)(hb:s.heap.objs.size≤b)(hn:H' b=none):jI X pins H' b:=by
 refine⟨hn,Nat.ne_of_gt (Nat.lt_of_lt_of_le I.lt hb),I.Qb4 hb,.inr (Nat.le_trans I.sz hb),fun x c e z=>?_,fun p hp z=>?_⟩
 ·obtain⟨v,q⟩:=I.cell x c e
  exact absurd (Nat.lt_of_lt_of_le q.lt (by rw[z];exact hb)) (Nat.lt_irrefl _)
 ·exact absurd (Nat.lt_of_lt_of_le (Heap.lt_size (I.pin p hp).1) (by rw[z];exact hb)) (Nat.lt_irrefl _)
structure Turn(P:Program)(w:World)(K:PySem.W.Frag)(tg:Expr)(J:It)(fp:List Addr)(it:Addr)(tn:Nat→Heap→Prop):Prop where
 mem:it∈fp
 obj:∀i h,tn i h→∀b∈fp,∃o,h.get? b=some o∧∀v,o.data≠ .cell v
 keep:∀i h h',tn i h→(∀b∈fp,∀o,h.get? b=some o→h'.get? b=some o)→tn i h'
 item:∀(X:Cx),X.prog=P→X.w=w→X.K=K→X.calm=true→∀(i:Nat)(pins:List (Addr × Obj))(s:Shared)(σ:St)(H:Hp)(E:Value→Shared→Prop),Inv X pins σ H s→(∀b∈fp,jI X pins H b)→tn i s.heap→J.go i H→
  wpAny (model P w) X.A (pyNext (.ref it)) (fun r s1=>∃u,r=some u∧
   wpAny (model P w) X.A (letOwnedTupleGo tg (.ref it) u) (fun _ s2=>∃x H',Inv X pins σ H' s2∧RelV x u∧J.yld i H x H'∧tn (i+1) s2.heap∧∀b∈fp,H' b=none) E s1) E s
 done:∀(X:Cx),X.prog=P→X.w=w→X.K=K→X.calm=true→∀(i:Nat)(pins:List (Addr × Obj))(s:Shared)(σ:St)(H:Hp)(E:Value→Shared→Prop),Inv X pins σ H s→(∀b∈fp,jI X pins H b)→tn i s.heap→J.stop i H→
  wpAny (model P w) X.A (pyNext (.ref it)) (fun r s1=>r=none∧Inv X pins σ H s1) E s
 self:∀(A:Around)(i:Nat)(s:Shared)(Q:Value→Shared→Prop)(E:Value→Shared→Prop),tn i s.heap→Q (.ref it) s→wpAny (model P w) A (pyIter (.ref it)) Q E s
abbrev TI:=St→Hp→(It→Hp→Prop)→Prop
def PIE(X:Cx)(pins:List (Addr × Obj))(σ:St)(tg:Expr)(R:It→Hp→Prop)(itv:Value)(s2:Shared):Prop:=
 ∃(it:Addr)(fp:List Addr)(tn:Nat→Heap→Prop)(J:It)(H':Hp),itv=.ref it∧Inv X pins σ H' s2∧Turn X.prog X.w X.K tg J fp it tn∧tn 0 s2.heap∧(∀b∈fp,jI X pins H' b)∧R J H'
def PI(X:Cx)(tg iter:Expr)(wi:TI):Prop:=
 ∀(pins:List (Addr × Obj))(s:Shared)(σ:St)(H:Hp)(R:It→Hp→Prop),Inv X pins σ H s→wi σ H R→
  wpAny (model X.prog X.w) X.A (eval iter X.env) (fun v s1=>wpAny (model X.prog X.w) X.A (pyIter v) (PIE X pins σ tg R) X.xe s1) X.xe s
theorem jP{M:Model}{A:Around}{E:Value→Shared→Prop}{s:Shared}{tg:Expr}{it:Addr}{u:Value}{o:Obj}{n:String}{vs:Array Value}{Q:Unit→Shared→Prop}(ho:s.heap.get? it=some o)(hc:o.cls=.type n)(hd:o.data=.fields vs)
  (hn:["enumerate","zip","dict_itemiterator","dict_reverseitemiterator","odict_iterator","itertools.zip_longest","itertools.pairwise"].contains n=false) (hQ:Q () s):wpAny M A (letOwnedTupleGo tg (.ref it) u) Q E s:=by
 unfold letOwnedTupleGo
 cases tg<;>first
  |exact wpAny_pure hQ
  |(cases u<;>first
    |exact wpAny_pure hQ
    |(refine wpAny_bind (wpAny_load ho ?_)
      rw[hc,hd]
      show wpAny M A (if(["enumerate","zip","dict_itemiterator","dict_reverseitemiterator","odict_iterator","itertools.zip_longest","itertools.pairwise"].contains n&&vs[0]? ==some (rawInt _))=true then _ else _) Q E s
      rw[if_neg (by intro h;rw[hn,Bool.false_and]at h;cases h)]
      exact wpAny_pure hQ))
def Itl(K:PySem.W.Frag)(a:Addr):It:=
 ⟨fun i H=>∃xs x,SqL K H a xs∧xs[i]? =some x,fun i H x H'=>H'=H∧∀xs,SqL K H a xs→xs[i]? =some x,fun i H=>∃xs,SqL K H a xs∧xs.length≤i⟩
def Itt(K:PySem.W.Frag)(a:Addr):It:=
 ⟨fun i H=>∃xs x,SqT K H a xs∧xs[i]? =some x,fun i H x H'=>H'=H∧∀xs,SqT K H a xs→xs[i]? =some x,fun i H=>∃xs,SqT K H a xs∧xs.length≤i⟩
def Itr(lo:Int)(n:Nat):It:=⟨fun i _=>i<n,fun i H x H'=>H'=H∧x=.int (lo+i),fun i _=>n≤i⟩
theorem jQ{P:Program}{w:World}{K:PySem.W.Frag}{tg:Expr}(a it:Addr):Turn P w K tg (Itl K a) [it] it (fun i h=>h.IsListIter it a i) where
 mem:=by simp
 obj:=fun i h st b hb=>by
  have e:b=it:=by simpa using hb
  subst e
  obtain⟨o,e,c,d⟩:=st
  exact⟨o,e,fun v z=>by rw[d]at z;cases z⟩
 keep:=fun i h h' st k=>st.at fun o e=>k it (by simp) o e
 item:=by
  intro X hP hw hK hc i pins s σ H E I hf st hg
  subst hP hw hK
  obtain⟨xs,x,hq,hx⟩:=hg
  obtain⟨its,rv,p,hz⟩:=I.list hq
  obtain⟨u,hu,ru⟩:=rv.get hx
  obtain⟨f0,f1,f2,f3,f4,f5⟩:=hf it (by simp)
  refine wpAny_pyNext_list_item st p.isList (x:=u) (by simpa using hu) fun h' st' sb=>?_
  have I1:Inv X pins σ H {s with heap:=h'}:=I.turned (t':=s.toks) (fun b o hb e=>(sb.2 b hb).trans e) f0 f1 f3 f4 f5
  obtain⟨o,e,c,d⟩:=id st'
  exact⟨u,rfl,jP (s:={s with heap:=h'}) e c d (by decide) ⟨x,H,I1,ru,⟨rfl,fun ys hy=>by rw[I.kg hy hq];exact hx⟩,st',fun b hb=>(hf b hb).1⟩⟩
 done:=by
  intro X hP hw hK hc i pins s σ H E I hf st hg
  subst hP hw hK
  obtain⟨xs,hq,hx⟩:=hg
  obtain⟨its,rv,p,hz⟩:=I.list hq
  obtain⟨f0,f1,f2,f3,f4,f5⟩:=hf it (by simp)
  have hl:=rv.length
  exact wpAny_pyNext_list_end (I.ok.hd hc) st p.isList (by simp;omega) fun h' eb=>⟨rfl,I.turned (t':=s.toks) (fun b o hb e=>eb b o hb e) f0 f1 f3 f4 f5⟩
 self:=fun _ _ _ _ _ st h=>wpAny_pyIter_listiter st h
theorem qK{P:Program}{w:World}{K:PySem.W.Frag}{tg:Expr}(a it:Addr):Turn P w K tg (Itt K a) [it] it (fun i h=>h.IsTupleIter it a i) where
 mem:=by simp
 obj:=fun i h st b hb=>by
  have e:b=it:=by simpa using hb
  subst e
  obtain⟨o,e,c,d⟩:=st
  exact⟨o,e,fun v z=>by rw[d]at z;cases z⟩
 keep:=fun i h h' st k=>st.at fun o e=>k it (by simp) o e
 item:=by
  intro X hP hw hK hc i pins s σ H E I hf st hg
  subst hP hw hK
  obtain⟨xs,x,hq,hx⟩:=hg
  obtain⟨its,rv,p,hz⟩:=I.tuple hq
  obtain⟨u,hu,ru⟩:=rv.get hx
  obtain⟨f0,f1,f2,f3,f4,f5⟩:=hf it (by simp)
  refine wpAny_pyNext_tuple_item st (show s.heap.IsTuple a its.toArray from p) (x:=u) (by simpa using hu) fun h' st' sb=>?_
  have I1:Inv X pins σ H {s with heap:=h'}:=I.turned (t':=s.toks) (fun b o hb e=>(sb.2 b hb).trans e) f0 f1 f3 f4 f5
  obtain⟨o,e,c,d⟩:=id st'
  exact⟨u,rfl,jP (s:={s with heap:=h'}) e c d (by decide) ⟨x,H,I1,ru,⟨rfl,fun ys hy=>by rw[I.V6 hy hq];exact hx⟩,st',fun b hb=>(hf b hb).1⟩⟩
 done:=by
  intro X hP hw hK hc i pins s σ H E I hf st hg
  subst hP hw hK
  obtain⟨xs,hq,hx⟩:=hg
  obtain⟨its,rv,p,hz⟩:=I.tuple hq
  obtain⟨f0,f1,f2,f3,f4,f5⟩:=hf it (by simp)
  have hl:=rv.length
  exact wpAny_pyNext_tuple_end (I.ok.hd hc) st (show s.heap.IsTuple a its.toArray from p) (by simp;omega) fun h' eb=>⟨rfl,I.turned (t':=s.toks) (fun b o hb e=>eb b o hb e) f0 f1 f3 f4 f5⟩
 self:=fun _ _ _ _ _ st h=>wpAny_pyIter_tupleiter st h
theorem qL{P:Program}{w:World}{K:PySem.W.Frag}{tg:Expr}(it:Addr)(lo:Int)(n:Nat):Turn P w K tg (Itr lo n) [it] it (fun i h=>IsRangeIter h it (lo+(i:Nat)*1) ((n:Int)-(i:Nat)) 1) where
 mem:=by simp
 obj:=fun i h st b hb=>by
  have e:b=it:=by simpa using hb
  subst e
  exact⟨_,st,fun v z=>by
   have z':Data.fields _=Data.cell v:=z
   cases z'⟩
 keep:=fun i h h' st k=>k it (by simp) _ st
 item:=by
  intro X hP hw hK hc i pins s σ H E I hf st hg
  subst hP hw hK
  obtain⟨f0,f1,f2,f3,f4,f5⟩:=hf it (by simp)
  have W:=Walks.range (prog:=X.prog) (w:=X.w) (I.ok.hd hc) it lo 1 n
  refine W.item i s _ _ hg st fun v h' tk hv st' kk=>?_
  obtain⟨t,rfl⟩:=hv
  have I1:Inv X pins σ H {s with heap:=h',toks:=tk}:=I.turned (fun b o hb e=>kk b o (by simpa using hb) e) f0 f1 f3 f4 f5
  refine⟨_,rfl,jP (s:={s with heap:=h',toks:=tk}) (n:="range_iterator") st' rfl rfl (by decide) ⟨.int (lo+i),H,I1,⟨t,?_⟩,⟨rfl,rfl⟩,st',fun b hb=>(hf b hb).1⟩⟩
  rw[Int.mul_one]
 done:=by
  intro X hP hw hK hc i pins s σ H E I hf st hg
  subst hP hw hK
  obtain⟨f0,f1,f2,f3,f4,f5⟩:=hf it (by simp)
  exact wpAny_pyNext_range_end (I.ok.hd hc) st (by have:n≤i:=hg;omega) fun h' eb=>⟨rfl,I.turned (t':=s.toks) (fun b o hb e=>eb b o hb e) f0 f1 f3 f4 f5⟩
 self:=fun _ _ _ _ _ st h=>wpAny_pyIter_rangeiter st h
end L2
namespace L2
open PySem PySem.Spec PyProof.Rows
section
variable {X:Cx}{tg:Expr}
def Qbc(K:PySem.W.Frag)(tl:TE):TI:=fun σ H R=>tl σ H fun x H1=>∃a,x=.ref a∧(∃xs,SqL K H1 a xs)∧R (Itl K a) H1
def Qca(K:PySem.W.Frag)(tl:TE):TI:=fun σ H R=>tl σ H fun x H1=>∃a,x=.ref a∧(∃xs,SqT K H1 a xs)∧R (Itt K a) H1
theorem XR{l:Expr}{tl:TE}(hl:PE X l tl):PI X tg l (Qbc X.K tl):=by
 intro pins s σ H R I h
 refine thn (hl pins s σ H _ I h) fun v s1⟨x,H1,I1,r1,q1⟩=>?_
 obtain⟨a,e,⟨xs,hq⟩,q⟩:=q1
 subst e
 cases r1
 obtain⟨its,rv,p,hz⟩:=I1.list hq
 refine wpAny_pyIter_list p.isList ?_
 refine⟨s1.heap.objs.size,[s1.heap.objs.size],_,_,H1,rfl,I1.kept (t':=s1.toks) fun b o e=>Heap.get?_push_of_some _ e,jQ a _,⟨_,Heap.get?_push_size _ rfl,rfl,rfl⟩,fun b hb=>?_,q⟩
 have e:b=s1.heap.objs.size:=by simpa using hb
 subst e
 exact I1.wG (Nat.le_refl _) (I1.hok.fresh (Nat.le_refl _))
theorem Z4{l:Expr}{tl:TE}(hl:PE X l tl):PI X tg l (Qca X.K tl):=by
 intro pins s σ H R I h
 refine thn (hl pins s σ H _ I h) fun v s1⟨x,H1,I1,r1,q1⟩=>?_
 obtain⟨a,e,⟨xs,hq⟩,q⟩:=q1
 subst e
 cases r1
 obtain⟨its,rv,p,hz⟩:=I1.tuple hq
 refine wpAny_pyIter_tuple (show s1.heap.IsTuple a its.toArray from p) ?_
 refine⟨s1.heap.objs.size,[s1.heap.objs.size],_,_,H1,rfl,I1.kept (t':=s1.toks) fun b o e=>Heap.get?_push_of_some _ e,qK a _,⟨_,Heap.get?_push_size _ rfl,rfl,rfl⟩,fun b hb=>?_,q⟩
 have e:b=s1.heap.objs.size:=by simpa using hb
 subst e
 exact I1.wG (Nat.le_refl _) (I1.hok.fresh (Nat.le_refl _))
theorem kj{pins:List (Addr × Obj)}{σ:St}{H:Hp}{s:Shared}{R:It→Hp→Prop}{E:Value→Shared→Prop}{lo hi:Int}{t u v:Tok}{tk:Nat}(I:Inv X pins σ H s)(h1: -(2^62)≤lo)(h2:lo<2^62)(h3: -(2^62)≤hi)(h4:hi<2^62)
  (q:R (Itr lo (hi-lo).toNat) H):wpAny (model X.prog X.w) X.A (pyIter (.ref s.heap.objs.size)) (PIE X pins σ tg R) E {s with heap:=s.heap.push {cls:=.type "range",data:=.fields #[.int lo t,.int hi u,.int 1 v]},toks:=tk}:=by
 refine wpAny_pyIter_range (IsRange.new ..) (small_one h1 h2 h3 h4) ?_
 have I1:Inv X pins σ H {s with heap:=s.heap.push {cls:=.type "range",data:=.fields #[.int lo t,.int hi u,.int 1 v]},toks:=tk}:=I.kept fun b o e=>Heap.get?_push_of_some _ e
 refine⟨(s.heap.push {cls:=.type "range",data:=.fields #[.int lo t,.int hi u,.int 1 v]}).objs.size,[(s.heap.push {cls:=.type "range",data:=.fields #[.int lo t,.int hi u,.int 1 v]}).objs.size],_,_,H,rfl,
  I1.kept (t':=tk) fun b o e=>Heap.get?_push_of_some _ e,qL _ lo (hi-lo).toNat,?_,fun b hb=>?_,q⟩
 ·have e1:lo+((0:Nat):Int)*1=lo:=by simp
  have e2:(((hi-lo).toNat:Nat):Int)-((0:Nat):Int)=Builtin.Range.rangeSize lo hi 1:=by rw[rangeSize_one];split<;>omega
  show IsRangeIter _ _ (lo+((0:Nat):Int)*1) ((((hi-lo).toNat:Nat):Int)-((0:Nat):Int)) 1
  rw[e1,e2]
  exact Heap.get?_push_size _ rfl
 ·have e:b=(s.heap.push {cls:=.type "range",data:=.fields #[.int lo t,.int hi u,.int 1 v]}).objs.size:=by simpa using hb
  subst e
  exact I1.wG (Nat.le_refl _) (I1.hok.fresh (Nat.le_refl _))
def Qbd(ta:TA):TI:=fun σ H R=>ta σ H fun vs H1=>∃j:Int,vs=[.int j]∧ -(2^62)≤j∧j<2^62∧R (Itr 0 j.toNat) H1
theorem V7{a:Expr}{ta:TA}{p pos:Pos}(hg:Gl X "range")(hm:X.mg "range"=none)(ha:PA X [a] ta)(hs:starEach [a] X.env=[(false,eval a X.env)]:=by rfl):PI X tg (.Call (.Name "range" p) [a] [] pos) (Qbd ta):=by
 intro pins s σ H R I h
 refine Call_ (Kf I hg hm boot_range (PyProof.Rows.callWith_type1 (thn (ha pos pins s σ H _ I h) fun us s1⟨vs,H1,I1,r1,q1⟩=>?_) hs rfl))
 obtain⟨j,e,q1,q2,q⟩:=q1
 subst e
 cases r1 with
 |cons r rr=>
  cases rr
  obtain⟨t,rfl⟩:=r
  exact call_range_1 (kj I1 (by omega) (by omega) q1 q2 (by simpa using q))
def QbT(wi:TI)(g:TG)(tb:TS):TS:=fun D σ H=>wi σ H fun J H1=>∃W:Nat→Nat→St→Hp→Prop,(∃m,W 0 m σ H1)∧∀i m σ H,W i m σ H→
 (J.stop i H∧D.nx σ H)∨(J.go i H∧∃N:St→Hp→Prop,(∀σ' H',N σ' H'→∃m',m'<m∧W (i+1) m' σ' H')∧∀x H',J.yld i H x H'→g x σ H' fun σ2 H2=>tb {D with nx:=N,ct:=N,bk:=D.nx} σ2 H2)
def KO(fp:List Addr)(h:Heap):List (Addr × Obj):=fp.filterMap fun b=>(h.get? b).map fun o=>(b,o)
theorem Jp{fp:List Addr}{h:Heap}{b:Addr}{o:Obj}(hb:b∈fp)(e:h.get? b=some o):(b,o)∈KO fp h:=List.mem_filterMap.mpr ⟨b,hb,by rw[e];rfl⟩
theorem jR{fp:List Addr}{h:Heap}{p:Addr × Obj}(hp:p∈KO fp h):p.1∈fp∧h.get? p.1=some p.2:=by
 obtain⟨b,hb,e⟩:=List.mem_filterMap.mp hp
 cases q:h.get? b with
 |none=>rw[q]at e;cases e
 |some o=>
  rw[q]at e
  have e':(b,o)=p:=Option.some.inj e
  subst e'
  exact⟨hb,q⟩
theorem Inv.pinned{pins:List (Addr × Obj)}{σ:St}{H:Hp}{s:Shared}{fp:List Addr}(I:Inv X pins σ H s)(hf:∀b∈fp,jI X pins H b) (ho:∀b∈fp,∃o,s.heap.get? b=some o∧∀v,o.data≠ .cell v):Inv X (pins++KO fp s.heap) σ H s:=
 I.Zx fun p hp=>(List.mem_append.mp hp).elim (fun z=>I.pin p (List.mem_append_right _ z)) fun z=>by
  obtain⟨hb,e⟩:=jR z
  obtain⟨f0,f1,f2,_⟩:=hf p.1 hb
  obtain⟨o,e',d⟩:=ho p.1 hb
  rw[e]at e';cases e'
  exact⟨e,f0,f1,f2,d⟩
theorem Inv.JK{pins pl:List (Addr × Obj)}{σ:St}{H:Hp}{s:Shared}(I:Inv X (pins++pl) σ H s):Inv X pins σ H s:=I.Zx fun p hp=>I.pin p (List.mem_append_right _ (List.mem_append_left _ hp))
theorem Xq{iter:Expr}{body:List Stmt}{wi:TI}{g:TG}{tb:TS}{pos:Pos}(hp:PassesOwn (model X.prog X.w) X.A X.env X.xe)(hc:X.calm=true)(hi:PI X tg iter wi)(hg:PG X tg g)(hb:PSs X body tb)
  (hs:∀x,foldedSetIterable iter X.env x=pure x:=by intro _;rfl):PS X (.For tg iter body [] pos) (QbT wi g tb):=by
 intro pins s σ H D I h
 refine wpAny_For (thn (hi pins s σ H _ I h) fun v s1 h1=>thn h1 fun itv s2 h2=>?_) hs
 obtain⟨it,fp,tn,J,H2,e,I2,T,st2,f2,W,⟨m0,w0⟩,turn⟩:=h2
 subst e
 have stat:∀{H':Hp},(∀b∈fp,H' b=none)→∀b∈fp,jI X pins H' b:=fun hn b hb=>⟨hn b hb,(f2 b hb).2⟩
 refine codeAny_forLoop_any (fun n s'=>∃i σ' H',Inv X pins σ' H' s'∧tn i s'.heap∧(∀b∈fp,H' b=none)∧W i n σ' H') ?_ m0 ⟨0,σ,H2,I2,st2,fun b hb=>(f2 b hb).1,w0⟩
 rintro n s3 ⟨i,σ3,H3,I3,st3,fr3,w3⟩
 rcases turn i n σ3 H3 w3 with⟨stop,qn⟩|⟨go,N,hN,step⟩
 ·refine wpAny_passesOwn hp (thn (T.done X rfl rfl rfl hc i pins s3 σ3 H3 X.xe I3 (stat fr3) st3 stop) fun r s4⟨hr,I4⟩=>?_)
  subst hr
  exact wpAny_execs_nil ⟨σ3,H3,I4,qn⟩
 ·refine wpAny_passesOwn hp (thn (T.item X rfl rfl rfl hc i pins s3 σ3 H3 X.xe I3 (stat fr3) st3 go) fun r s4⟨u,hr,h4⟩=>?_)
  subst hr
  refine wpAny_passesOwn hp (thn h4 fun _ s5⟨x,H5,I5,r5,y5,st5,fr5⟩=>?_)
  have I5':=I5.pinned (stat fr5) (T.obj _ _ st5)
  refine wpAny_passesOwn hp (thn (hg _ s5 σ3 H5 x u _ I5' r5 (step x H5 y5)) fun _ s6⟨σ6,H6,I6,q6⟩=>?_)
  refine wpAny_passesOwn hp (thn (hb _ s6 σ6 H6 _ I6 q6) fun f s7 q7=>?_)
  have again:∀{σ7:St}{H7:Hp},Inv X (pins++KO fp s5.heap) σ7 H7 s7→N σ7 H7→∃m,m<n∧∃i σ' H',Inv X pins σ' H' s7∧tn i s7.heap∧(∀b∈fp,H' b=none)∧W i m σ' H':=fun{σ7 H7} I7 n7=>by
   obtain⟨m',hm,w7⟩:=hN σ7 H7 n7
   refine⟨m',hm,i+1,σ7,H7,I7.JK,T.keep _ _ _ st5 fun b hb o e=>(I7.pin (b,o) (List.mem_append_right _ (List.mem_append_right _ (Jp hb e)))).1,fun b hb=>?_,w7⟩
   obtain⟨o,e,d⟩:=T.obj _ _ st5 b hb
   exact(I7.pin (b,o) (List.mem_append_right _ (List.mem_append_right _ (Jp hb e)))).2.1
  cases f with
  |next=>obtain⟨σ7,H7,I7,n7⟩:=q7;exact again I7 n7
  |cont=>obtain⟨σ7,H7,I7,n7⟩:=q7;exact again I7 n7
  |brk=>obtain⟨σ7,H7,I7,q7⟩:=q7;exact⟨σ7,H7,I7.JK,q7⟩
  |ret v=>obtain⟨x7,σ7,H7,I7,r7,q7⟩:=q7;exact⟨x7,σ7,H7,I7.JK,r7,q7⟩
end
theorem jS{lo:Int}{n:Nat}{g:TG}{tb:TS}{D:Ends}{σ:St}{H:Hp}(Pv:Nat→St→Hp→Prop)(h0:Pv 0 σ H)
  (hs:∀i σ H,i<n→Pv i σ H→g (.int (lo+i)) σ H fun σ2 H2=>tb {D with nx:=Pv (i+1),ct:=Pv (i+1),bk:=D.nx} σ2 H2) (hd:∀σ H,Pv n σ H→D.nx σ H):
  ∃W:Nat→Nat→St→Hp→Prop,(∃m,W 0 m σ H)∧∀i m σ H,W i m σ H→
   ((Itr lo n).stop i H∧D.nx σ H)∨((Itr lo n).go i H∧∃N:St→Hp→Prop,(∀σ' H',N σ' H'→∃m',m'<m∧W (i+1) m' σ' H')∧∀x H',(Itr lo n).yld i H x H'→g x σ H' fun σ2 H2=>tb {D with nx:=N,ct:=N,bk:=D.nx} σ2 H2):=by
 refine⟨fun i m σ H=>m=n-i∧i≤n∧Pv i σ H,⟨n,by simp,Nat.zero_le _,h0⟩,?_⟩
 rintro i m σ H ⟨rfl,hi,p⟩
 by_cases hlt:i<n
 ·refine .inr ⟨hlt,Pv (i+1),fun σ' H' p'=>⟨n-(i+1),by omega,rfl,hlt,p'⟩,fun x H' y=>?_⟩
  obtain⟨e,y⟩:=y
  subst e y
  exact hs i σ _ hlt p
 ·have e:i=n:=by omega
  subst e
  exact .inl ⟨Nat.le_refl _,hd σ H p⟩
theorem km{c:TT}{tb:TS}{D:Ends}{σ:St}{H:Hp}(Pv:St→Hp→Prop)(μ:St→Hp→Nat)(h0:Pv σ H)
  (hs:∀σ H,Pv σ H→c σ H fun b H1=>if b=true then tb {D with nx:=fun σ' H'=>Pv σ' H'∧μ σ' H'<μ σ H,ct:=fun σ' H'=>Pv σ' H'∧μ σ' H'<μ σ H,bk:=D.nx} σ H1 else D.nx σ H1)
  (mono:∀σ H Q Q',(∀b H1,Q b H1→Q' b H1)→c σ H Q→c σ H Q'):wF c tb D σ H:=by
 refine⟨fun m σ H=>m=μ σ H∧Pv σ H,⟨_,rfl,h0⟩,?_⟩
 rintro m σ H ⟨rfl,p⟩
 refine mono σ H _ _ (fun b H1 q=>?_) (hs σ H p)
 cases b with
 |true=>exact⟨_,fun σ' H'⟨p',l⟩=>⟨_,l,rfl,p'⟩,q⟩
 |false=>exact q
end L2
namespace L2
open PySem PySem.Spec PyProof.Rows
abbrev R2:=V→V→Hp→VK→Prop
def OpR(X:Cx)(f:Value→Value→Sem Value)(r:R2):Prop:=
 ∀(pins:List (Addr × Obj))(s:Shared)(σ:St)(H:Hp)(x y:V)(v u:Value)(Q:VK),Inv X pins σ H s→RelV x v→RelV y u→r x y H Q→
  wpAny (model X.prog X.w) X.A (f v u) (EP X pins σ Q) X.xe s
def UnR(X:Cx)(f:Value→Sem Value)(r:V→Hp→VK→Prop):Prop:=
 ∀(pins:List (Addr × Obj))(s:Shared)(σ:St)(H:Hp)(x:V)(v:Value)(Q:VK),Inv X pins σ H s→RelV x v→r x H Q→
  wpAny (model X.prog X.w) X.A (f v) (EP X pins σ Q) X.xe s
def Xb(X:Cx)(f:Value)(r:List V→Hp→VK→Prop):Prop:=
 ∀(pins:List (Addr × Obj))(s:Shared)(σ:St)(H:Hp)(xs:List V)(us:List Value)(Q:VK),Inv X pins σ H s→Vals xs us→r xs H Q→
  wpAny (model X.prog X.w) X.A (call f us) (EP X pins σ Q) X.xe s
def Qcb(X:Cx)(r:V→Hp→(Bool→Hp→Prop)→Prop):Prop:=
 ∀(pins:List (Addr × Obj))(s:Shared)(σ:St)(H:Hp)(x:V)(v:Value)(Q:Bool→Hp→Prop),Inv X pins σ H s→RelV x v→r x H Q→
  wpAny (model X.prog X.w) X.A (truthy v) (TP X pins σ Q) X.xe s
def tOp(r:R2)(ta tb:TE):TE:=fun σ H Q=>ta σ H fun x H1=>tb σ H1 fun y H2=>r x y H2 Q
def tUn(r:V→Hp→VK→Prop)(ta:TE):TE:=fun σ H Q=>ta σ H fun x H1=>r x H1 Q
def rI(C:Int→Int→Prop)(g:Int→Int→V):R2:=fun x y H Q=>∃i j,x=.int i∧y=.int j∧C i j∧Q (g i j) H
def rI0(g:Int→Int→V):R2:=fun x y H Q=>∃i j,x=.int i∧y=.int j∧Q (g i j) H
def rU(g:Int→V):V→Hp→VK→Prop:=fun x H Q=>∃i,x=.int i∧Q (g i) H
section
variable {X:Cx}{a b c:Expr}{ta tb tc:TE}{pos:Pos}
theorem Qbe(ha:PE X a ta)(hb:PE X b tb){pins:List (Addr × Obj)}{s:Shared}{σ:St}{H:Hp}{R:V→V→Hp→Prop}(I:Inv X pins σ H s)
  (h:ta σ H fun x H1=>tb σ H1 fun y H2=>R x y H2) {Q:Value→Shared→Prop} {f:Value→Value→Sem Value}
  (hf:∀v u s2 x y H2,Inv X pins σ H2 s2→RelV x v→RelV y u→R x y H2→wpAny (model X.prog X.w) X.A (f v u) Q X.xe s2):
  wpAny (model X.prog X.w) X.A (eval a X.env) (fun v s₁=>wpAny (model X.prog X.w) X.A (eval b X.env) (fun u s₂=>wpAny (model X.prog X.w) X.A (f v u) Q X.xe s₂) X.xe s₁) X.xe s:=by
 refine thn (ha pins s σ H _ I h) fun v s1⟨x,H1,I1,r1,q1⟩=>?_
 refine thn (hb pins s1 σ H1 _ I1 q1) fun u s2⟨y,H2,I2,r2,q2⟩=>?_
 exact hf v u s2 x y H2 I2 r1 r2 q2
theorem QA{op:Operator}{r:R2}(ho:OpR X (binaryOp op) r)(ha:PE X a ta)(hb:PE X b tb):PE X (.BinOp a op b pos) (tOp r ta tb):=by
 intro pins s σ H Q I h
 exact wpAny_BinOp (Qbe ha hb I h fun v u s2 x y H2 I2 rx ry q=>ho pins s2 σ H2 x y v u Q I2 rx ry q)
theorem vo{op:UnaryOp}{r:V→Hp→VK→Prop}(ho:UnR X (unaryOp op) r)(ha:PE X a ta):PE X (.UnaryOp op a pos) (tUn r ta):=by
 intro pins s σ H Q I h
 exact UnaryOp_ (thn (ha pins s σ H _ I h) fun v s1⟨x,H1,I1,r1,q1⟩=>ho pins s1 σ H1 x v Q I1 r1 q1)
theorem opI{f:Value→Value→Sem Value}{C:Int→Int→Prop}{g:Int→Int→Int}
  (rule:∀(i j:Int)(t u:Tok)(s:Shared)(Q:Value→Shared→Prop)(E:Value→Shared→Prop),C i j→Q (.int (g i j) s.toks) {s with toks:=s.toks+1}→wpAny (model X.prog X.w) X.A (f (.int i t) (.int j u)) Q E s):
  OpR X f (rI C fun i j=>.int (g i j)):=by
 intro pins s σ H x y v u Q I rx ry h
 obtain⟨i,j,rfl,rfl,hc,q⟩:=h
 obtain⟨t,rfl⟩:=rx
 obtain⟨t',rfl⟩:=ry
 exact rule i j t t' s _ _ hc ⟨.int (g i j),H,I.tok _,⟨_,rfl⟩,q⟩
theorem QbU{f:Value→Value→Sem Value}{g:Int→Int→Int}
  (rule:∀(i j:Int)(t u:Tok)(s:Shared)(Q:Value→Shared→Prop)(E:Value→Shared→Prop),Q (.int (g i j) s.toks) {s with toks:=s.toks+1}→wpAny (model X.prog X.w) X.A (f (.int i t) (.int j u)) Q E s):
  OpR X f (rI0 fun i j=>.int (g i j)):=by
 intro pins s σ H x y v u Q I rx ry h
 obtain⟨i,j,rfl,rfl,q⟩:=h
 obtain⟨t,rfl⟩:=rx
 obtain⟨t',rfl⟩:=ry
 exact rule i j t t' s _ _ ⟨.int (g i j),H,I.tok _,⟨_,rfl⟩,q⟩
theorem QaY{f:Value→Value→Sem Value}{g:Int→Int→Bool}
  (rule:∀(i j:Int)(t u:Tok)(s:Shared)(Q:Value→Shared→Prop)(E:Value→Shared→Prop),Q (.bool (g i j)) s→wpAny (model X.prog X.w) X.A (f (.int i t) (.int j u)) Q E s):
  OpR X f (rI0 fun i j=>.bl (g i j)):=by
 intro pins s σ H x y v u Q I rx ry h
 obtain⟨i,j,rfl,rfl,q⟩:=h
 obtain⟨t,rfl⟩:=rx
 obtain⟨t',rfl⟩:=ry
 exact rule i j t t' s _ _ ⟨.bl (g i j),H,I,rfl,q⟩
def Qcc(i j:Int):Prop:=0<j∧j<1073741824
def Qcd(i j:Int):Prop:=0≤j∧j≤1000000∧i.natAbs<2^64
def Qbf(i j:Int):Prop:=(-(2^64)<i∧i<2^64)∨(-(2^64)<j∧j<2^64)
theorem Qbf.ok{i j:Int}(h:Qbf i j):IntMulOk i j:=by
 rcases h with⟨h1,h2⟩|⟨h1,h2⟩
 ·exact .of_left (intBits_le_64 h1 h2)
 ·exact .of_right (intBits_le_64 h1 h2)
theorem Z5:OpR X (binaryOp .Add) (rI0 fun i j=>.int (i+j)):=QbU fun _ _ _ _ _ _ _ q=>add_int q
theorem Zc:OpR X (binaryOp .Sub) (rI0 fun i j=>.int (i-j)):=QbU fun _ _ _ _ _ _ _ q=>sub_int q
theorem jT:OpR X (binaryOp .Mult) (rI Qbf fun i j=>.int (i*j)):=opI fun _ _ _ _ _ _ _ hc q=>mul_int q hc.ok
theorem Vi:OpR X (binaryOp .FloorDiv) (rI Qcc fun i j=>.int (i/j)):=opI fun i j _ _ _ _ _ hc q=>by
 have h1:(0:Int)<j:=hc.1
 have h2:j<1073741824:=hc.2
 exact floordiv_int (by omega) (by rw[Int.fdiv_eq_ediv_of_nonneg i (by omega)];exact q) (.inl (PyProof.noPylong_small (by omega)))
theorem WX:OpR X (binaryOp .Mod) (rI (fun _ j=>0<j) fun i j=>.int (i % j)):=opI fun i j _ _ _ _ _ hc q=>by
 have h1:(0:Int)<j:=hc
 exact mod_int' (by omega) (by rw[Int.fmod_eq_emod_of_nonneg i (by omega)];exact q)
theorem wH:OpR X (binaryOp .Pow) (rI Qcd fun i j=>.int (i^j.toNat)):=opI fun _ _ _ _ _ _ _ hc q=>pow_int_small hc.1 hc.2.1 hc.2.2 q
theorem unI{f:Value→Sem Value}{g:Int→Int}
  (rule:∀(i:Int)(t:Tok)(s:Shared)(Q:Value→Shared→Prop)(E:Value→Shared→Prop),Q (.int (g i) s.toks) {s with toks:=s.toks+1}→wpAny (model X.prog X.w) X.A (f (.int i t)) Q E s):
  UnR X f (rU fun i=>.int (g i)):=by
 intro pins s σ H x v Q I rx h
 obtain⟨i,rfl,q⟩:=h
 obtain⟨t,rfl⟩:=rx
 exact rule i t s _ _ ⟨.int (g i),H,I.tok _,⟨_,rfl⟩,q⟩
theorem jU:UnR X (unaryOp .USub) (rU fun i=>.int (-i)):=unI fun _ _ _ _ _ q=>neg_int q
end
def QbV:V→V→Bool
 | .non,.non=>true| .non,.int _=>true| .int _,.non=>true| .non,.bl _=>true| .bl _,.non=>true| .non,.str _=>true| .str _,.non=>true
 | .int _,.int _=>true| .bl _,.bl _=>true| .str _,.str _=>true| .byt _,.byt _=>true
 | .int _,.str _=>true| .str _,.int _=>true| .bl _,.str _=>true| .str _,.bl _=>true
 |_,_=>false
def rEq:R2:=fun x y H Q=>QbV x y=true∧Q (.bl (decide (x=y))) H
def rNe:R2:=fun x y H Q=>QbV x y=true∧Q (.bl (!decide (x=y))) H
theorem jV{i j:Int}:decide (V.int i=V.int j)=(i==j):=by
 rw[Bool.eq_iff_iff]
 simp
theorem wI{i j:Bool}:decide (V.bl i=V.bl j)=(i==j):=by
 rw[Bool.eq_iff_iff]
 simp
theorem jW{i j:Str}:decide (V.str i=V.str j)=(i==j):=by
 rw[Bool.eq_iff_iff]
 simp
theorem jX{i j:Array UInt8}:decide (V.byt i=V.byt j)=(i.toList==j.toList):=by
 rw[Bool.eq_iff_iff]
 cases i
 cases j
 simp
section
variable {X:Cx}{a b c:Expr}{ta tb tc:TE}{pos:Pos}
theorem QS{pins:List (Addr × Obj)}{σ:St}{H:Hp}{s:Shared}{Q:VK}{k k':Bool}(I:Inv X pins σ H s)(q:Q (.bl k) H)(e:k=k'):EP X pins σ Q (.bool k') s:=by
 subst e
 exact⟨.bl k,H,I,rfl,q⟩
theorem Xr:OpR X (compareOp .Eq) rEq:=by
 intro pins s σ H x y v u Q I rx ry h
 obtain⟨hs,q⟩:=h
 cases x with
 |non=>
  cases rx
  cases y with
  |non=>cases ry;exact PySem.EqNone.eq_none_none (QS I q (by simp))
  |bl j=>cases ry;exact PySem.EqNone.eq_none_bool (QS I q (by simp))
  |int j=>obtain⟨t',rfl⟩:=ry;exact PySem.EqNone.eq_none_int (QS I q (by simp))
  |str j=>obtain⟨t',rfl⟩:=ry;exact PySem.EqNone.eq_none_str (QS I q (by simp))
  |_=>exact absurd (show false=true from hs) Bool.false_ne_true
 |bl i=>
  cases rx
  cases y with
  |non=>cases ry;exact PySem.EqNone.eq_bool_none (QS I q (by simp))
  |bl j=>cases ry;exact eq_bool (QS I q wI)
  |str j=>obtain⟨t',rfl⟩:=ry;exact PySem.EqMixed.eq_bool_str (QS I q (by simp))
  |_=>exact absurd (show false=true from hs) Bool.false_ne_true
 |int i=>
  obtain⟨t,rfl⟩:=rx
  cases y with
  |non=>cases ry;exact PySem.EqNone.eq_int_none (QS I q (by simp))
  |int j=>obtain⟨t',rfl⟩:=ry;exact eq_int (QS I q jV)
  |str j=>obtain⟨t',rfl⟩:=ry;exact PySem.EqMixed.eq_int_str (QS I q (by simp))
  |_=>exact absurd (show false=true from hs) Bool.false_ne_true
 |str i=>
  obtain⟨t,rfl⟩:=rx
  cases y with
  |non=>cases ry;exact PySem.EqNone.eq_str_none (QS I q (by simp))
  |bl j=>cases ry;exact PySem.EqMixed.eq_str_bool (QS I q (by simp))
  |int j=>obtain⟨t',rfl⟩:=ry;exact PySem.EqMixed.eq_str_int (QS I q (by simp))
  |str j=>obtain⟨t',rfl⟩:=ry;exact eq_str (QS I q jW)
  |_=>exact absurd (show false=true from hs) Bool.false_ne_true
 |byt i=>
  obtain⟨t,rfl⟩:=rx
  cases y with
  |byt j=>obtain⟨t',rfl⟩:=ry;exact PySem.W.eq_bytes (QS I q jX)
  |_=>exact absurd (show false=true from hs) Bool.false_ne_true
 |_=>cases y<;>exact absurd (show false=true from hs) Bool.false_ne_true
theorem Y4:OpR X (compareOp .NotEq) rNe:=by
 intro pins s σ H x y v u Q I rx ry h
 obtain⟨hs,q⟩:=h
 cases x with
 |non=>
  cases rx
  cases y with
  |non=>cases ry;exact PySem.EqNone.ne_none_none (QS I q (by simp))
  |bl j=>cases ry;exact PySem.EqNone.ne_none_bool (QS I q (by simp))
  |int j=>obtain⟨t',rfl⟩:=ry;exact PySem.EqNone.ne_none_int (QS I q (by simp))
  |str j=>obtain⟨t',rfl⟩:=ry;exact PySem.EqNone.ne_none_str (QS I q (by simp))
  |_=>exact absurd (show false=true from hs) Bool.false_ne_true
 |bl i=>
  cases rx
  cases y with
  |non=>cases ry;exact PySem.EqNone.ne_bool_none (QS I q (by simp))
  |bl j=>cases ry;exact ne_bool (QS I q (congrArg not wI))
  |str j=>obtain⟨t',rfl⟩:=ry;exact PySem.EqMixed.ne_bool_str (QS I q (by simp))
  |_=>exact absurd (show false=true from hs) Bool.false_ne_true
 |int i=>
  obtain⟨t,rfl⟩:=rx
  cases y with
  |non=>cases ry;exact PySem.EqNone.ne_int_none (QS I q (by simp))
  |int j=>obtain⟨t',rfl⟩:=ry;exact ne_int (QS I q (congrArg not jV))
  |str j=>obtain⟨t',rfl⟩:=ry;exact PySem.EqMixed.ne_int_str (QS I q (by simp))
  |_=>exact absurd (show false=true from hs) Bool.false_ne_true
 |str i=>
  obtain⟨t,rfl⟩:=rx
  cases y with
  |non=>cases ry;exact PySem.EqNone.ne_str_none (QS I q (by simp))
  |bl j=>cases ry;exact PySem.EqMixed.ne_str_bool (QS I q (by simp))
  |int j=>obtain⟨t',rfl⟩:=ry;exact PySem.EqMixed.ne_str_int (QS I q (by simp))
  |str j=>obtain⟨t',rfl⟩:=ry;exact ne_str (QS I q (congrArg not jW))
  |_=>exact absurd (show false=true from hs) Bool.false_ne_true
 |byt i=>
  obtain⟨t,rfl⟩:=rx
  cases y with
  |byt j=>obtain⟨t',rfl⟩:=ry;exact PySem.W.ne_bytes (QS I q (congrArg not jX))
  |_=>exact absurd (show false=true from hs) Bool.false_ne_true
 |_=>cases y<;>exact absurd (show false=true from hs) Bool.false_ne_true
theorem vp:OpR X (compareOp .Lt) (rI0 fun i j=>.bl (decide (i<j))):=QaY fun _ _ _ _ _ _ _ q=>lt_int q
theorem jY:OpR X (compareOp .LtE) (rI0 fun i j=>.bl (decide (i≤j))):=QaY fun _ _ _ _ _ _ _ q=>le_int q
theorem kn:OpR X (compareOp .Gt) (rI0 fun i j=>.bl (decide (j<i))):=QaY fun _ _ _ _ _ _ _ q=>gt_int q
theorem yR:OpR X (compareOp .GtE) (rI0 fun i j=>.bl (decide (j≤i))):=QaY fun _ _ _ _ _ _ _ q=>ge_int q
theorem Qz(b:Expr){op:CmpOp}(h:op≠ .In:=by decide)(h2:op≠ .NotIn:=by decide):behindInMarks op b=false:=by
 have e1:(op==CmpOp.In)=false:=by cases op<;>first|rfl|exact absurd rfl h
 have e2:(op==CmpOp.NotIn)=false:=by cases op<;>first|rfl|exact absurd rfl h2
 cases b<;>simp[behindInMarks,e1,e2]
theorem Jl{op:CmpOp}{r:R2}(ho:OpR X (compareOp op) r)(ha:PE X a ta)(hb:PE X b tb)(hm:behindInMarks op b=false):PE X (.Compare a [op] [b] pos) (tOp r ta tb):=by
 intro pins s σ H Q I h
 exact wpAny_Compare1 (Qbe ha hb I h fun v u s2 x y H2 I2 rx ry q=>ho pins s2 σ H2 x y v u Q I2 rx ry q) hm
def yS(t:TE):TT:=fun σ H Q=>t σ H fun x H'=>∃k,x=.bl k∧Q k H'
theorem QB{op:CmpOp}{r:R2}(ho:OpR X (compareOp op) r)(ha:PE X a ta)(hb:PE X b tb)(hm:behindInMarks op b=false):PT X (.Compare a [op] [b] pos) (yS (tOp r ta tb)):=by
 intro pins s σ H Q I h
 refine wpAny_isTrue_Compare1 (thn (ha pins s σ H _ I h) fun v s1⟨x,H1,I1,r1,q1⟩=>thn (hb pins s1 σ H1 _ I1 q1) fun u s2⟨y,H2,I2,r2,q2⟩=>
  thn (ho pins s2 σ H2 x y v u _ I2 r1 r2 q2) fun c s3⟨z,H3,I3,r3,k,e,q3⟩=>?_) hm
 subst e
 cases r3
 exact wpAny_truthy_bool ⟨H3,I3,q3⟩
def yT(r r':R2)(ta tb tc:TE):TE:=fun σ H Q=>ta σ H fun x H1=>tb σ H1 fun y H2=>r x y H2 fun z H3=>∃k,z=.bl k∧
 (if k=true then tc σ H3 fun w' H4=>r' y w' H4 Q else Q (.bl false) H3)
theorem Vj{op op':CmpOp}{r r':R2}(ho:OpR X (compareOp op) r)(ho':OpR X (compareOp op') r')(ha:PE X a ta)(hb:PE X b tb)(hc:PE X c tc)
  (hm:lastMarks [op,op'] [b,c]=false:=by with_unfolding_all rfl):PE X (.Compare a [op,op'] [b,c] pos) (yT r r' ta tb tc):=by
 intro pins s σ H Q I h
 refine Compare_chain (thn (ha pins s σ H _ I h) fun v s1⟨x,H1,I1,r1,q1⟩=>chain_link (thn (hb pins s1 σ H1 _ I1 q1) fun u s2⟨y,H2,I2,r2,q2⟩=>
  thn (ho pins s2 σ H2 x y v u _ I2 r1 r2 q2) fun d s3⟨z,H3,I3,r3,k,e,q3⟩=>?_)) hm
 subst e
 cases r3
 refine wpAny_truthy_bool ?_
 cases k with
 |false=>exact ite_ff ⟨.bl false,H3,I3,rfl,q3⟩
 |true=>exact ite_tt (chain_last (thn (hc pins s3 σ H3 _ I3 q3) fun w' s4⟨z',H4,I4,r4,q4⟩=>ho' pins s4 σ H4 y z' u w' Q I4 r2 r4 q4))
def Qbg(K:PySem.W.Frag)(x:V)(H:Hp)(k:Bool):Prop:=
 match x with
 | .non=>k=false
 | .bl b=>k=b
 | .int i=>k=(i !=0)
 | .str y=>y.length≤sizeLine∧k=((y.length:Int) !=0)
 | .byt y=>y.size≤sizeLine∧k=((y.size:Int) !=0)
 | .ref p=>(∃xs,SqL K H p xs∧k= !xs.isEmpty)∨(∃xs,SqT K H p xs∧k= !xs.isEmpty)∨∃kvs,H p=some (.dK kvs)∧k= !kvs.isEmpty
 |_=>False
theorem qM{κ:Type}{kvs:List (κ × V)}{vs:List (κ × Value)}(r:KV kvs vs):(!vs.isEmpty)= !kvs.isEmpty:=by
 cases r<;>rfl
theorem WY{xs:List V}{its:List Value}(r:Vals xs its):(!its.toArray.isEmpty)= !xs.isEmpty:=by
 cases r<;>simp
theorem KP:(sizeLine:Nat)<2^63:=by rw[sizeLine_eq];decide
theorem yU:Qcb X (fun x H Q=>∃k,Qbg X.K x H k∧Q k H):=by
 intro pins s σ H x v Q I rx h
 obtain⟨k,e,q⟩:=h
 have hl:=KP
 have hs:sizeLine=16777216:=sizeLine_eq
 cases x with
 |non=>
  cases rx
  have e':k=false:=e
  subst e'
  exact truthy_none ⟨H,I,q⟩
 |bl b=>
  cases rx
  have e':k=b:=e
  subst e'
  exact wpAny_truthy_bool ⟨H,I,q⟩
 |int i=>
  obtain⟨t,rfl⟩:=rx
  have e':k=(i !=0):=e
  subst e'
  exact PySem.P.truthy_int ⟨H,I,q⟩
 |str y=>
  obtain⟨t,rfl⟩:=rx
  obtain⟨hy,e'⟩:y.length≤sizeLine∧k=((y.length:Int) !=0):=e
  subst e'
  exact PySem.P.truthy_str (by omega) ⟨H,I.tok _,q⟩
 |byt y=>
  obtain⟨t,rfl⟩:=rx
  obtain⟨hy,e'⟩:y.size≤sizeLine∧k=((y.size:Int) !=0):=e
  subst e'
  exact PySem.W.truthy_bytes (by omega) ⟨H,I.tok _,q⟩
 |ref p=>
  cases rx
  have e':(∃xs,SqL X.K H p xs∧k= !xs.isEmpty)∨(∃xs,SqT X.K H p xs∧k= !xs.isEmpty)∨∃kvs,H p=some (.dK kvs)∧k= !kvs.isEmpty:=e
  rcases e' with⟨xs,hx,e'⟩|⟨xs,hx,e'⟩|⟨kvs,hx,e'⟩
  ·subst e'
   obtain⟨its,r,pl,hz⟩:=I.list hx
   have hlen:=r.length
   exact wpAny_truthy_list pl.isList (by simp only[List.size_toArray];omega) ⟨H,I.tok _,by rw[WY r];exact q⟩
  ·subst e'
   obtain⟨its,r,pl,hz⟩:=I.tuple hx
   have hlen:=r.length
   exact truthy_tuple pl (by simp only[List.size_toArray];omega) ⟨H,I.tok _,by rw[WY r];exact q⟩
  ·subst e'
   obtain⟨hz,hS,vs,r,m⟩:kvs.length≤sizeLine∧(p==sysModules)=false∧∃vs,KV kvs vs∧s.heap.DictOf (Q6 X.prog X.w) p vs:=I.hok p _ hx
   have hlen:kvs.length=vs.length:=Paired.length r
   exact wpAny_truthy_dict hS m (by omega) ⟨H,I.tok _,by rw[qM r];exact q⟩
 |_=>exact(show False from e).elim
theorem ZQ(ha:PE X a ta)(he:∀whole,isTrue a X.env whole=(do let v←whole;standAt a.pos;holding [v] (truthy v))):
  PT X a (fun σ H Q=>ta σ H fun x H'=>∃k,Qbg X.K x H' k∧Q k H'):=by
 intro pins s σ H Q I h
 exact isTrue_plain (thn (ha pins s σ H _ I h) fun v s1⟨x,H1,I1,r1,q1⟩=>yU pins s1 σ H1 x v Q I1 r1 q1) (he _)
theorem WZ:OpR X (binaryOp .Add) (fun x y H Q=>∃i j,x=.str i∧y=.str j∧i.length+j.length≤sizeLine∧Q (.str (i++j)) H):=by
 intro pins s σ H x y v u Q I rx ry h
 obtain⟨i,j,rfl,rfl,hz,q⟩:=h
 obtain⟨t,rfl⟩:=rx
 obtain⟨t',rfl⟩:=ry
 exact add_str (fun t' tk=>⟨.str (i++j),H,I.tok _,⟨_,rfl⟩,q⟩) hz
theorem vals1{x:V}{us:List Value}(r:Vals [x] us):∃u,us=[u]∧RelV x u:=by
 cases r with
 |cons r1 r2=>cases r2;exact⟨_,rfl,r1⟩
theorem vals2{x y:V}{us:List Value}(r:Vals [x,y] us):∃u w',us=[u,w']∧RelV x u∧RelV y w':=by
 cases r with
 |cons r1 r2=>
  cases r2 with
  |cons r3 r4=>cases r4;exact⟨_,_,rfl,r1,r3⟩
theorem U0:Xb X (.builtin "abs") (fun xs H Q=>∃i,xs=[.int i]∧Q (.int (if i<0 then-i else i)) H):=by
 intro pins s σ H xs us Q I r h
 obtain⟨i,rfl,q⟩:=h
 obtain⟨u,rfl,t,rfl⟩:=vals1 r
 exact call_abs_int fun u tk=>⟨.int (if i<0 then-i else i),H,I.tok _,⟨_,rfl⟩,q⟩
theorem KQ(hc:X.calm=true):Xb X (.builtin "max") (fun xs H Q=>∃i j,xs=[.int i,.int j]∧Q (.int (if j>i then j else i)) H):=by
 intro pins s σ H xs us Q I r h
 obtain⟨i,j,rfl,q⟩:=h
 obtain⟨u,w',rfl,⟨t,rfl⟩,⟨t',rfl⟩⟩:=vals2 r
 refine max_two_ints (I.ok.hd hc) fun h' tk k=>⟨_,H,I.kept k,?_,q⟩
 by_cases hj:j>i
 ·rw[if_pos hj,if_pos hj];exact⟨_,rfl⟩
 ·rw[if_neg hj,if_neg hj];exact⟨_,rfl⟩
theorem jZ(hc:X.calm=true):Xb X (.builtin "min") (fun xs H Q=>∃i j,xs=[.int i,.int j]∧Q (.int (if j<i then j else i)) H):=by
 intro pins s σ H xs us Q I r h
 obtain⟨i,j,rfl,q⟩:=h
 obtain⟨u,w',rfl,⟨t,rfl⟩,⟨t',rfl⟩⟩:=vals2 r
 refine min_two_ints (I.ok.hd hc) fun h' tk k=>⟨_,H,I.kept k,?_,q⟩
 by_cases hj:j<i
 ·rw[if_pos hj,if_pos hj];exact⟨_,rfl⟩
 ·rw[if_neg hj,if_neg hj];exact⟨_,rfl⟩
end
end L2
namespace L2
open PySem PySem.Spec PyProof.Rows
structure ObjM(h:Heap)(x dx C:Addr)(mA:Str→Option Value):Prop where
 obj:h.get? x=some (PySem.W.instObj C dx)
 ns:h.Ns1 dx mA
 ne:dx≠x
theorem j0{h:Heap}{dx:Addr}{mA:Str→Option Value}(n:h.Ns1 dx mA):∃od,h.get? dx=some od∧∀name,PySem.W.lookIn name od=some (mA name):=by
 obtain⟨o,es,ep,ho,hd,hk,_,hm⟩:=n
 refine⟨o,ho,fun name=>?_⟩
 have e:=hm name
 unfold nsFind findBy at e
 rw[←Array.find?_toList]at e
 unfold PySem.W.lookIn
 rw[hd]
 dsimp only
 split
 ·rename_i y q
  rw[q]at e
  exact congrArg some e
 ·rename_i q
  rw[q]at e
  have a:es.toList.any (·.refKey)=false:=by
   rw[List.any_eq_false]
   intro y hy
   obtain⟨z,t,hkey⟩:=hk y (Array.mem_toList_iff.mp hy)
   simp[DictEntry.refKey,hkey]
  have a':¬ es.toList.any (·.refKey)=true:=by rw[a];exact Bool.false_ne_true
  rw[if_neg a']
  exact congrArg some e
theorem ObjM.look{h:Heap}{x dx C:Addr}{mA:Str→Option Value}(I:ObjM h x dx C mA):∃od,PySem.W.InstAt h x (PySem.W.instObj C dx) C (some od)∧∀name,PySem.W.lookIn name od=some (mA name):=
 let ⟨od,ho,hl⟩:=j0 I.ns
 ⟨od,⟨I.obj,rfl,rfl,ho⟩,hl⟩
section
variable {prog:Program}{w:World}{A:Around}{E:Value→Shared→Prop}{s:Shared}{K:PySem.W.Frag}{x dx C f:Addr}{mA:Str→Option Value}{name:Str}{v:Value}
theorem get_map{expr:Bool}{Q:Value→Shared→Prop}(X:K.In s.heap)(I:ObjM s.heap x dx C mA)(hg:PySem.W.plainGet K C name=true)(hh:PySem.W.hasDictIn K C=true)
  (ha:PySem.W.findIn K (.ref C) name=some none) (hv:mA name=some v) (hv':PySem.W.handedIn v=true) (h:Q v {s with toks:=s.toks+1}):
  wpAny (model prog w) A (getAttr (.ref x) name expr) Q E s:=by
 obtain⟨od,J,hl⟩:=I.look
 exact PySem.W.get_value X J (PySem.W.plainGet_of hg).1 (PySem.W.findObj_own hh ha rfl (by rw[hl,hv])) hv' h
theorem ko{pl:Sem Bool}{Q:Value × List Value→Shared→Prop}(X:K.In s.heap)(I:ObjM s.heap x dx C mA)(hg:PySem.W.plainGet K C name=true)
  (hf:PySem.W.findIn K (.ref C) name=some (some (.ref f))) (ht:PySem.W.isFn K (.ref f)=true) (hv:mA name=none) (h:Q (.ref f,[.ref x]) s):
  wpAny (model prog w) A (getMethod (.ref x) name pl) Q E s:=by
 obtain⟨od,J,hl⟩:=I.look
 exact PySem.W.method_fn X J (PySem.W.plainGet_of hg).1 (PySem.W.plainGet_of hg).2 hf (beq_iff_eq.mp ht) (by show(PySem.W.lookIn name od).map (·.isSome)=some false;rw[hl,hv];rfl) h
theorem vq{ns:List Str}{Q:Unit→Shared→Prop}(X:K.In s.heap)(I:ObjM s.heap x dx C mA)
  (hs:PySem.W.findIn K (.ref C) "__setattr__"=some (some (.builtin "object.__setattr__"))) (hp:PySem.W.plainOver K C=true) (ht:PySem.W.takerIn K C name=some none) (hh:PySem.W.hasDictIn K C=true)
  (hw:PySem.Within mA ns) (hsz:ns.length≤sizeLine)
  (h:∀h',ObjM h' x dx C (fun y=>if y=name then some v else mA y)→Heap.SameBut dx s.heap h'→Q () {s with heap:=h',toks:=s.toks+2}):
  wpAny (model prog w) A (setAttr (.ref x) name v) Q E s:=by
 obtain⟨od,J,hl⟩:=I.look
 refine PySem.W.set_plain X J hs (PySem.W.osa_open (s:={s with toks:=s.toks+1}) (r:=none) X J hp ht fun b=>?_)
 obtain⟨cd,hc,hd'⟩:=PySem.W.any_some hh
 have hx:s.heap.get? x=some ⟨.ref C,some dx,.plain, #[]⟩:=I.obj
 refine wpAny_bind (wpAny_pure (wpAny_bind (wpAny_bind (wpAny_loadPart hx (wpAny_bind (PySem.W.Looks.here (s:={s with toks:=s.toks+1}) (PySem.W.looks_clsIn X hc) ?_))))))
 rw[hd']
 refine wpAny_pure (a:=some dx) (wpAny_bind (wpAny_pure (wpAny_bind ?_)))
 refine wpAny_nsSet1 (s:={s with toks:=s.toks+1}) I.ns fun h' hn2 hs2=>?_
 obtain⟨oD,esD,epD,hoD,hdD,hcD⟩:=hn2.count (PySem.Within.cons name v hw)
 refine wpAny_bind (wpAny_lookBehind hoD (by rw[hdD];exact pastItsLine_dict (Nat.le_trans hcD (by rw[List.length_cons];omega))) ?_)
 exact wpAny_pure (h _ ⟨(hs2.2 _ (Ne.symm I.ne)).trans I.obj,hn2,I.ne⟩ hs2)
theorem kq{R:Result→Shared→Prop}{vs:List Value}{kw:List (Str × Value)}(X:K.In s.heap)(hm:PySem.W.makesIn K C=true)
  (hi:PySem.W.findIn K (.ref C) "__init__"=some (some (.ref f))) (hf:PySem.W.typeIn K (.ref f)=some (.type "function"))
  (h:codeAny (model prog w) (A.under (.builtin "type.__call__" ⟨.ref C::vs,kw⟩)) (.call (.ref f) ⟨.ref (s.heap.objs.size+1)::vs,kw⟩) (PySem.W.InitBack (s.heap.objs.size+1) R)
   {s with heap:=(s.heap.push PySem.W.emptyDict).push (PySem.W.instObj C s.heap.objs.size)}):
  codeAny (model prog w) A (.call (.ref C) ⟨vs,kw⟩) R s:=by
 obtain⟨hh,g,d,t,os⟩:=s
 exact PySem.W.make_core (PySem.W.makes_of X hm) (PySem.W.looks_findIn X hi) (fun self=>PySem.W.bind_fn X self hf) (.inl rfl) h
end
def XQ(f:Str)(v:V):List (Str × V)→List (Str × V)
 |[]=>[(f,v)]
 |(g,x)::r=>if g=f then(g,v)::r else(g,x)::XQ f v r
theorem Qy(f g:Str)(v:V):∀fs:List (Str × V),(XQ f v fs).lookup g=if g=f then some v else fs.lookup g
 |[]=>by
  show List.lookup g [(f,v)]=_
  by_cases h:g=f
  ·have hb:(g==f)=true:=beq_iff_eq.mpr h
   simp only[List.lookup,hb,if_pos h]
  ·have hb:(g==f)=false:=beq_eq_false_iff_ne.mpr h
   simp only[List.lookup,hb,if_neg h]
 |(k,x)::r=>by
  have ih:=Qy f g v r
  rw[show XQ f v ((k,x)::r)=(if k=f then(k,v)::r else(k,x)::XQ f v r)from rfl]
  by_cases hk:k=f
  ·rw[if_pos hk]
   by_cases h:g=k
   ·have hb:(g==k)=true:=beq_iff_eq.mpr h
    simp only[List.lookup,hb,if_pos (h.trans hk)]
   ·have hb:(g==k)=false:=beq_eq_false_iff_ne.mpr h
    simp only[List.lookup,hb,if_neg (fun e:g=f=>h (e.trans hk.symm))]
  ·rw[if_neg hk]
   by_cases h:g=k
   ·have hb:(g==k)=true:=beq_iff_eq.mpr h
    simp only[List.lookup,hb,if_neg (fun e:g=f=>hk (h.symm.trans e))]
   ·have hb:(g==k)=false:=beq_eq_false_iff_ne.mpr h
    simp only[List.lookup,hb]
    exact ih
theorem KR(f:Str)(v:V):∀fs:List (Str × V),f∈(XQ f v fs).map (·.1)∧∀g,g∈fs.map (·.1)→g∈(XQ f v fs).map (·.1)
 |[]=>⟨by simp[XQ],fun g h=>by simp at h⟩
 |(k,x)::r=>by
  obtain⟨i1,i2⟩:=KR f v r
  rw[show XQ f v ((k,x)::r)=(if k=f then(k,v)::r else(k,x)::XQ f v r)from rfl]
  by_cases hk:k=f
  ·rw[if_pos hk]
   subst hk
   exact⟨by simp,fun g h=>by simpa using h⟩
  ·rw[if_neg hk]
   refine⟨?_,fun g h=>?_⟩
   ·rw[List.map_cons]
    exact List.mem_cons_of_mem _ i1
   ·rw[List.map_cons]at h ⊢
    rcases List.mem_cons.mp h with e|e
    ·exact List.mem_cons.mpr (.inl e)
    ·exact List.mem_cons_of_mem _ (i2 g e)
theorem Jd(f:Str)(v:V):∀fs:List (Str × V),(XQ f v fs).length≤fs.length+1
 |[]=>by simp[XQ]
 |(k,x)::r=>by
  have ih:=Jd f v r
  rw[show XQ f v ((k,x)::r)=(if k=f then(k,v)::r else(k,x)::XQ f v r)from rfl]
  by_cases hk:k=f
  ·rw[if_pos hk,List.length_cons,List.length_cons];omega
  ·rw[if_neg hk,List.length_cons,List.length_cons];omega
theorem V1.some_of{v:V}{o:Option Value}(r:V1 (some v) o):∃u,o=some u∧RelV v u:=by
 cases o with
 |none=>exact(show False from r).elim
 |some u=>exact⟨u,rfl,r⟩
theorem V1.none_of{o:Option Value}(r:V1 none o):o=none:=by
 cases o with
 |none=>rfl
 |some u=>exact(show False from r).elim
theorem j4{v:V}{u:Value}(r:RelV v u):PySem.W.handedIn u=true:=by
 cases v with
 |non=>cases(show u=Value.none from r);rfl
 |bl b=>cases(show u=Value.bool b from r);rfl
 |int i=>obtain⟨t,e⟩:=(show ∃t,u=Value.int i t from r);cases e;rfl
 |str x=>obtain⟨t,e⟩:=(show ∃t,u=Value.str x t from r);cases e;rfl
 |byt b=>obtain⟨t,e⟩:=(show ∃t,u=Value.bytes b t from r);cases e;rfl
 |flt b=>obtain⟨t,e⟩:=(show ∃t,u=Value.float b t from r);cases e;rfl
 |ref a=>cases(show u=Value.ref a from r);rfl
 |ty n=>cases(show u=Value.type n from r);rfl
section
variable {P:Program}{w:World}{H H':Hp}{h h':Heap}{a C dx:Addr}{fs fs':List (Str × V)}
theorem KS(hok:HOk P w H h)(e:H a=some (.ins C dx fs)):∃mA,ObjM h a dx C mA∧(∀f,V1 (fs.lookup f) (mA f))∧PySem.Within mA (fs.map (·.1))∧fs.length≤1000∧H dx=some (.own a):=by
 obtain⟨d,z,ne,ob,mA,n,r,q⟩:=(show Q7 P w H h a (.ins C dx fs)from hok a _ e)
 exact⟨mA,⟨ob,n,ne⟩,r,q,z,d⟩
end
structure Cls(K:PySem.W.Frag)(C:Addr):Prop where
 pg:PySem.W.plainGet K C Str.empty=true
 hd:PySem.W.hasDictIn K C=true
 po:PySem.W.plainOver K C=true
 sa:PySem.W.findIn K (.ref C) "__setattr__"=some (some (.builtin "object.__setattr__"))
theorem Cls.get{K:PySem.W.Frag}{C:Addr}(c:Cls K C)(f:Str):PySem.W.plainGet K C f=true:=c.pg
def Xt(K:PySem.W.Frag)(C:Addr)(f:Str):Prop:=PySem.W.findIn K (.ref C) f=some none
theorem Xt.Qbh{K:PySem.W.Frag}{C:Addr}{f:Str}(n:Xt K C f):PySem.W.takerIn K C f=some none:=by
 unfold PySem.W.takerIn
 rw[show PySem.W.findIn K (.ref C) f=some none from n]
 rfl
structure Meth(K:PySem.W.Frag)(C:Addr)(m:Str)(f:Addr):Prop where
 at_:PySem.W.findIn K (.ref C) m=some (some (.ref f))
 fn:PySem.W.isFn K (.ref f)=true
 kp:PySem.W.keepIn K (.ref f)=true
section
variable {X:Cx}{pins:List (Addr × Obj)}{σ:St}{H:Hp}{s:Shared}{a C dx:Addr}{fs:List (Str × V)}{f:Str}{v:V}{A:Around}{E:Value→Shared→Prop}
theorem qN{b:Bool}{Q:Value→Shared→Prop}(I:Inv X pins σ H s)(e:H a=some (.ins C dx fs))(c:Cls X.K C)(n:Xt X.K C f)(l:fs.lookup f=some v)
  (h:∀u s',Inv X pins σ H s'→RelV v u→Q u s'):wpAny (model X.prog X.w) A (getAttr (.ref a) f b) Q E s:=by
 obtain⟨mA,O,r,_,_,_⟩:=KS I.hok e
 obtain⟨u,hu,ru⟩:=V1.some_of (v:=v) (o:=mA f) (by rw[←l];exact r f)
 exact get_map I.kIn O (c.get f) c.hd n hu (j4 ru) (h u _ (I.tok _) ru)
theorem W0{m:Str}{g:Addr}{pl:Sem Bool}{Q:Value × List Value→Shared→Prop}(I:Inv X pins σ H s)(e:H a=some (.ins C dx fs))(c:Cls X.K C)(k:Meth X.K C m g)(l:fs.lookup m=none)
  (h:Q (.ref g,[.ref a]) s):wpAny (model X.prog X.w) A (getMethod (.ref a) m pl) Q E s:=by
 obtain⟨mA,O,r,_,_,_⟩:=KS I.hok e
 have hn:mA m=none:=V1.none_of (by rw[←l];exact r m)
 exact ko I.kIn O (c.get m) k.at_ k.fn hn h
theorem qO{y:V}{u:Value}{Q:Unit→Shared→Prop}(I:Inv X pins σ H s)(e:H a=some (.ins C dx fs))(c:Cls X.K C)(n:Xt X.K C f)(hl:fs.length<1000)(ry:RelV y u)
  (h:∀s',Inv X pins σ (upd H a (.ins C dx (XQ f y fs))) s'→Q () s'):wpAny (model X.prog X.w) A (setAttr (.ref a) f u) Q E s:=by
 obtain⟨mA,O,r,wi,_,ho⟩:=KS I.hok e
 have hz:(fs.map (·.1)).length≤sizeLine:=by rw[List.length_map,sizeLine_eq];omega
 refine vq I.kIn O c.sa c.po n.Qbh c.hd wi hz fun h' O' sb=>h _ ?_
 have hd:∃o,h'.get? dx=some o:=let ⟨o,_,_,e',_⟩:=O'.ns;⟨o,e'⟩
 refine I.write (x:=a) (e:=dx) (by rw[e];exact True.intro) (.inr ho) (fun b q hb z=>(sb.2 b hb).trans z) hd ?_
 refine⟨by rw[Qi O.ne];exact ho,?_,O.ne,O'.obj,_,O'.ns,fun g=>?_,fun g hg=>?_⟩
 ·have:=Jd f y fs;omega
 ·show V1 ((XQ f y fs).lookup g) (if g=f then some u else mA g)
  rw[Qy]
  by_cases q:g=f
  ·rw[if_pos q,if_pos q];exact ry
  ·rw[if_neg q,if_neg q];exact r g
 ·by_cases q:g=f
  ·rw[q];exact(KR f y fs).1
  ·refine(KR f y fs).2 g (wi g fun z=>hg ?_)
   show(if g=f then some u else mA g)=none
   rw[if_neg q];exact z
theorem Inv.made(I:Inv X pins σ H s):Inv X pins σ (upd (upd H s.heap.objs.size (.own (s.heap.objs.size+1))) (s.heap.objs.size+1) (.ins C s.heap.objs.size []))
  {s with heap:=(s.heap.push PySem.W.emptyDict).push (PySem.W.instObj C s.heap.objs.size)}:=by
 have e1:(s.heap.push PySem.W.emptyDict).get? s.heap.objs.size=some PySem.W.emptyDict:=Heap.get?_push_size s.heap rfl
 have e2:((s.heap.push PySem.W.emptyDict).push (PySem.W.instObj C s.heap.objs.size)).get? (s.heap.objs.size+1)=some (PySem.W.instObj C s.heap.objs.size):=by
  have:=Heap.get?_push_size (s.heap.push PySem.W.emptyDict) (o:=PySem.W.instObj C s.heap.objs.size) rfl
  rwa[Heap.size_push]at this
 have e3:(s.heap.push PySem.W.emptyDict).Ns s.heap.objs.size (fun _=>none):=⟨PySem.W.emptyDict, #[],_,e1,rfl,(fun e he=>absurd he (by simp)),fun _=>rfl⟩
 have I1:=I.laid (a:=s.heap.objs.size) (o:=.own (s.heap.objs.size+1)) (h':=s.heap.push PySem.W.emptyDict) (t':=s.toks) (fun b u q=>Heap.get?_push_of_some _ q) (Nat.le_refl _) ⟨_,e1⟩
 refine I1.laid (a:=s.heap.objs.size+1) (o:=.ins C s.heap.objs.size []) (t':=s.toks) (fun b u q=>Heap.get?_push_of_some _ q) (Nat.le_of_eq (Heap.size_push _ _)) ?_
 have ne:s.heap.objs.size≠s.heap.objs.size+1:=Nat.ne_of_lt (Nat.lt_succ_self _)
 refine⟨by rw[Qi ne,Qc],Nat.zero_le _,ne,e2,fun _=>none,(Heap.Ns1.of_empty e3).at fun o q=>Heap.get?_push_of_some _ q,fun _=>True.intro,fun y hy=>absurd rfl hy⟩
theorem vt{prog:Program}{w:World}{env:Env}{e:Expr}{f:Str}{pos:Pos}{s:Shared}{Q:Value→Shared→Prop}(hb:attributeBase e f env (eval e env)=eval e env)
  (h:wpAny (model prog w) A (eval e env) (fun o s₁=>wpAny (model prog w) A (getAttr o f true) Q E s₁) E s):wpAny (model prog w) A (eval (.Attribute e f pos) env) Q E s:=
 Attribute_any_ h (by rw[arm_eval_Attribute,hb])
end
def Qce(K:PySem.W.Frag)(ta:TE)(f:Str):TE:=fun σ H Q=>ta σ H fun x H1=>∃a C dx fs v,x=.ref a∧H1 a=some (.ins C dx fs)∧Cls K C∧Xt K C f∧fs.lookup f=some v∧Q v H1
def Qcf(K:PySem.W.Frag)(ta tv:TE)(f:Str):TS:=fun D σ H=>tv σ H fun y H1=>ta σ H1 fun x H2=>∃a C dx fs,x=.ref a∧H2 a=some (.ins C dx fs)∧Cls K C∧Xt K C f∧fs.length<1000∧
 D.nx σ (upd H2 a (.ins C dx (XQ f y fs)))
section
variable {X:Cx}{o e value:Expr}{f:Str}{pos pos' tpos:Pos}{ta tv:TE}
theorem Kh(he:PE X e ta)(hb:attributeBase e f X.env (eval e X.env)=eval e X.env):PE X (.Attribute e f pos) (Qce X.K ta f):=by
 intro pins s σ H Q I h
 refine vt hb (thn (he pins s σ H _ I h) fun u s1⟨x,H1,I1,rx,a,C,dx,fs,v,ex,ea,c,n,l,q⟩=>?_)
 subst ex
 obtain rfl:u=Value.ref a:=rx
 exact qN I1 ea c n l fun u' s2 I2 ru=>⟨v,H1,I2,ru,q⟩
theorem U1(ha:PE X o ta)(hv:PE X value tv)(hs:swapsWith value (some (.Attribute o f pos')) pos.line X.env=pure false):PS X (.Assign [.Attribute o f pos'] value pos) (Qcf X.K ta tv f):=by
 intro pins s σ H D I h
 refine plainObj_wpAny_Assign_Attribute (thn (hv pins s σ H _ I h) fun u s1⟨y,H1,I1,ry,q⟩=>thn (ha pins s1 σ H1 _ I1 q) fun ov s2⟨x,H2,I2,rx,a,C,dx,fs,ex,ea,c,n,l,q2⟩=>?_) hs
 subst ex
 obtain rfl:ov=Value.ref a:=rx
 exact qO I2 ea c n l ry fun s3 I3=>⟨σ,_,I3,q2⟩
end
section
variable {X:Cx}{pins:List (Addr × Obj)}{σ:St}{H:Hp}{s:Shared}{A:Around}{E:Value→Shared→Prop}{Q:Value→Shared→Prop}{c:Value}{b:Bool}
inductive TyOf (K:PySem.W.Frag) (H:Hp):V→Value→Prop where
 |non:TyOf K H .non (.type "NoneType")
 |bl (x:Bool):TyOf K H (.bl x) (.type "bool")
 |int (i:Int):TyOf K H (.int i) (.type "int")
 |str (x:Str):TyOf K H (.str x) (.type "str")
 |flt (x:UInt64):TyOf K H (.flt x) (.type "float")
 |lst {a:Addr} {xs:List V} (e:H a=some (.lst xs)):TyOf K H (.ref a) (.type "list")
 |frz {a:Addr} {o:Obj} {xs:List V} (e:H a=some (.frz o (.lst xs))):TyOf K H (.ref a) (.type "list")
 |tup {a:Addr} {xs:List V} (e:H a=some (.tup xs)):TyOf K H (.ref a) (.type "tuple")
 |dK {a:Addr} {kvs:List (Key × V)} (e:H a=some (.dK kvs)):TyOf K H (.ref a) (.type "dict")
 |dT {a:Addr} {kvs:List (List Key × V)} (e:H a=some (.dT kvs)):TyOf K H (.ref a) (.type "dict")
 |ins {a C dx:Addr} {fs:List (Str × V)} (e:H a=some (.ins C dx fs)) (cl:Cls K C) (ha:PySem.W.findIn K (.ref C) "__class__"=some (some (.builtin "object.__class__")))
   (hn:PySem.W.specialIn K (.builtin "object.__class__") "__get__"=some (some (.builtin "getset_descriptor.__get__"))) (htk:PySem.W.takesIn K (.builtin "object.__class__")=some true)
   (hm:PySem.W.mroIn K C (.type "object")=some true):TyOf K H (.ref a) (.ref C)
theorem j5{x:V}{u t:Value}(I:Inv X pins σ H s)(rx:RelV x u)(ty:TyOf X.K H x t)(e:PySem.W.kitOne X.K t c=some b)(h:∀tk,Q (.bool b) {s with toks:=tk}):
  wpAny (model X.prog X.w) A (call (.builtin "isinstance") [u,c]) Q E s:=by
 cases ty with
 |non=>cases(show u=Value.none from rx);exact PySem.W.kia_one PySem.W.kitx_none I.kIn True.intro e (fun z=>nomatch z) h
 |bl y=>cases(show u=Value.bool y from rx);exact PySem.W.kia_one PySem.W.kitx_bool I.kIn True.intro e (fun z=>nomatch z) h
 |int i=>obtain⟨t,q⟩:=(show ∃t,u=Value.int i t from rx);cases q;exact PySem.W.kia_one PySem.W.kitx_int I.kIn True.intro e (fun z=>nomatch z) h
 |str y=>obtain⟨t,q⟩:=(show ∃t,u=Value.str y t from rx);cases q;exact PySem.W.kia_one PySem.W.kitx_str I.kIn True.intro e (fun z=>nomatch z) h
 |flt y=>obtain⟨t,q⟩:=(show ∃t,u=Value.float y t from rx);cases q;exact PySem.W.kia_one PySem.W.kitx_float I.kIn True.intro e (fun z=>nomatch z) h
 |@lst a xs ea=>
  cases(show u=Value.ref a from rx)
  obtain⟨_,_,n,_,h1⟩:=(show Q7 X.prog X.w H s.heap a (.lst xs)from I.hok a _ ea)
  exact PySem.W.kia_one PySem.W.kitx_list I.kIn ⟨_,h1,rfl⟩ e (fun z=>nomatch z) h
 |@frz a ob xs ea=>
  cases(show u=Value.ref a from rx)
  obtain⟨_,_,_,n,_,h1⟩:=(show Q7 X.prog X.w H s.heap a (.frz ob (.lst xs))from I.hok a _ ea)
  exact PySem.W.kia_one PySem.W.kitx_list I.kIn ⟨_,h1,rfl⟩ e (fun z=>nomatch z) h
 |@tup a xs ea=>
  cases(show u=Value.ref a from rx)
  obtain⟨_,_,_,p⟩:=(show Q7 X.prog X.w H s.heap a (.tup xs)from I.hok a _ ea)
  obtain⟨o,h1,h2,_⟩:=p
  exact PySem.W.kia_one PySem.W.kitx_tuple I.kIn ⟨o,h1,h2⟩ e (fun z=>nomatch z) h
 |@dK a kvs ea=>
  cases(show u=Value.ref a from rx)
  obtain⟨_,_,vs,_,p⟩:=(show Q7 X.prog X.w H s.heap a (.dK kvs)from I.hok a _ ea)
  obtain⟨o,es,ep,h1,h2,_⟩:=p
  exact PySem.W.kia_one PySem.W.kitx_dict I.kIn ⟨o,h1,h2.1⟩ e (fun z=>nomatch z) h
 |@dT a kvs ea=>
  cases(show u=Value.ref a from rx)
  obtain⟨_,_,xs,_,o,es,ep,h1,h2,_⟩:=(show Q7 X.prog X.w H s.heap a (.dT kvs)from I.hok a _ ea)
  exact PySem.W.kia_one PySem.W.kitx_dict I.kIn ⟨o,h1,h2.1⟩ e (fun z=>nomatch z) h
 |@ins a C dx fs ea cl ha hn htk hm=>
  cases(show u=Value.ref a from rx)
  obtain⟨mA,O,_⟩:=KS I.hok ea
  obtain⟨od,J,_⟩:=O.look
  exact PySem.W.kia_one (PySem.W.kitx_own (cl.get _) cl.hd ha hn htk hm) I.kIn J e (fun z=>nomatch z) h
end
end L2
namespace L2
open PySem PySem.Spec PyProof.Rows
structure Room(k:Nat)(A:Around):Prop where
 hd:A.handled=none
 dp:A.depth+3*k+5<recursionLimit
 un:A.units+16*k+200<cLine
theorem Room.mono{j k:Nat}{A:Around}(r:Room k A)(h:j≤k):Room j A:=⟨r.hd,by have:=r.dp;omega,by have:=r.un;omega⟩
theorem Room.deeper{k:Nat}{A:Around}(r:Room (k+1) A)(env:Env):Room k (A.deeper env):=
 ⟨r.hd,by have:=r.dp;show A.depth+1+3*k+5<_;omega,by have:=r.un;show A.units+3+16*k+200<_;omega⟩
theorem Room.in1{k:Nat}{A:Around}(r:Room (k+1) A):Room k A.in1:=
 ⟨r.hd,by have:=r.dp;show A.depth+3*k+5<_;omega,by have:=r.un;show A.units+1+16*k+200<_;omega⟩
theorem qP{A:Around}{C:Addr}{us:List Value}{kw:List (Str × Value)}:(A.under (.builtin "type.__call__" ⟨.ref C::us,kw⟩)).depth=A.depth+1:=by
 first|rfl|simp[Around.under,Code.weight,Code.isCreation,Code.isGuard,Code.isCaller,Code.frames,Code.isFrame,guardIds]
theorem qQ{A:Around}{C:Addr}{us:List Value}{kw:List (Str × Value)}:(A.under (.builtin "type.__call__" ⟨.ref C::us,kw⟩)).units=A.units+1:=by
 first|rfl|simp[Around.under,Code.cUnits,Code.frames,Code.isFrame]
theorem Room.make{k:Nat}{A:Around}(r:Room (k+1) A)(C:Addr)(us:List Value)(kw:List (Str × Value)):Room k (A.under (.builtin "type.__call__" ⟨.ref C::us,kw⟩)):=
 ⟨r.hd,by have:=r.dp;rw[qP];omega,by have:=r.un;rw[qQ];omega⟩
theorem Room.depth{k:Nat}{A:Around}(r:Room k A):A.depth<recursionLimit:=by have:=r.dp;omega
theorem Room.units{k:Nat}{A:Around}(r:Room k A):A.units+64<cLine:=by have:=r.un;omega
def Kn:TA:=fun _ H Q=>Q [] H
def Q8(ta:TE)(tr:TA):TA:=fun σ H Q=>ta σ H fun x H1=>tr σ H1 fun xs H2=>Q (x::xs) H2
section
variable {X:Cx}{e:Expr}{es:List Expr}{te:TE}{t:TA}{pos:Pos}
theorem Qb:PA X [] Kn:=fun _ _ _ _ H Q I h=>Calls.spliced_nil ⟨[],H,I,.nil,h⟩
theorem Qa(ha:PE X e te)(hr:PA X es t)(hs:starEach (e::es) X.env=(false,eval e X.env)::starEach es X.env:=by rfl):PA X (e::es) (Q8 te t):=by
 intro pos pins s σ H Q I h
 rw[hs]
 show wpAny _ _ (spliced ((false,eval e X.env)::backTo pos (starEach es X.env))) _ _ s
 refine Calls.spliced_cons (thn (ha pins s σ H _ I h) fun u s1⟨x,H1,I1,r1,q1⟩=>?_)
 exact thn (hr pos pins s1 σ H1 _ I1 q1) fun us s2⟨xs,H2,I2,r2,q2⟩=>⟨x::xs,H2,I2,.cons r1 r2,q2⟩
def wJ(t:TA):TE:=fun σ H Q=>t σ H fun xs H1=>xs.length≤sizeLine∧∀p,H1 p=none→Q (.ref p) (upd H1 p (.tup xs))
def yE(t:TA):TE:=fun σ H Q=>t σ H fun xs H1=>xs.length≤sizeLine∧∀p,H1 p=none→Q (.ref p) (upd H1 p (.lst xs))
theorem Qv{x1}(h:PA X es t):PE X (.Tuple es x1 pos) (wJ t):=by
 intro pins s σ H Q I hq
 refine wpAny_Tuple_spliced (thn (h pos pins s σ H _ I hq) fun us s1⟨xs,H1,I1,r,z,q⟩=>⟨by rw[←r.length];exact z,?_⟩)
 have hf:H1 s1.heap.objs.size=none:=I1.hok.fresh (Nat.le_refl _)
 refine⟨.ref s1.heap.objs.size,upd H1 s1.heap.objs.size (.tup xs),I1.laid (t':=s1.toks) (fun b u e=>Heap.get?_push_of_some _ e) (Nat.le_refl _) ?_,rfl,q _ hf⟩
 exact⟨z,us,r,⟨_,Heap.get?_push_size _ rfl,rfl,_,rfl,rfl⟩⟩
theorem Js(h:PA X es t):PE X (.List es pos) (yE t):=by
 intro pins s σ H Q I hq
 refine wpAny_List_spliced (thn (h pos pins s σ H _ I hq) fun us s1⟨xs,H1,I1,r,z,q⟩=>⟨by rw[←r.length];exact z,?_⟩)
 have hf:H1 s1.heap.objs.size=none:=I1.hok.fresh (Nat.le_refl _)
 refine⟨.ref s1.heap.objs.size,upd H1 s1.heap.objs.size (.lst xs),I1.laid (t':=s1.toks) (fun b u e=>Heap.get?_push_of_some _ e) (Nat.le_refl _) ?_,rfl,q _ hf⟩
 exact⟨z,us,0,r,Heap.get?_push_size _ rfl⟩
end
abbrev Sp:=List V→Hp→VK→XK→Prop
abbrev CXT:=List Env→Hp→Shared→XK→Value→Shared→Prop
structure Env0(P:Program)(w:World)(K:PySem.W.Frag)(mg:Str→Option Value)(base:Heap)(A:Around)(outer:List Env)(s:Shared)(H:Hp):Prop where
 frames:A.frames=some outer
 mod:Mod K mg base
 bs:∀b o,base.get? b=some o→s.heap.get? b=some o∧H b=none
 bsz:base.objs.size≤s.heap.objs.size
 V2:s.heap.FunFrames base outer
 frf:∀b∈frs outer,H b=none
 hok:HOk P w H s.heap
 bare:AllBare s.gens
def CE(outer:List Env)(P:Program)(w:World)(H:Hp)(s:Shared)(Q:VK)(u:Value)(s':Shared):Prop:=
 ∃v H',s'.os=s.os∧AllBare s'.gens∧Un (frs outer) [] H H' s.heap s'.heap∧HOk P w H' s'.heap∧RelV v u∧Q v H'
def CR(CX:CXT)(outer:List Env)(P:Program)(w:World)(H:Hp)(s:Shared)(Q:VK)(E:XK)(r:Result)(s':Shared):Prop:=
 match r with
 | .ok (.ret u)=>CE outer P w H s Q u s'
 | .ok _=>False
 | .error e=>CX outer H s E e s'
structure FnOk(P:Program)(w:World)(K:PySem.W.Frag)(mg:Str→Option Value)(base:Heap)(CX:CXT)(k:Nat)(f:Addr)(fd:FuncData)(ps:List Str)(sp:Sp):Prop where
 len:∀vs H Q E,sp vs H Q E→vs.length=ps.length
 run:∀(A:Around)(outer:List Env)(s:Shared)(H:Hp)(args:Args)(us:List Value)(vs:List V)(Q:VK)(E:XK),Room k A→Env0 P w K mg base A outer s H→BindsTo s fd args (ps.zip us)→Vals vs us→sp vs H Q E→
  codeAny (model P w) A (.call (.ref f) args) (CR CX outer P w H s Q E) s
theorem Env0.make{P:Program}{w:World}{K:PySem.W.Frag}{mg:Str→Option Value}{base:Heap}{A:Around}{outer:List Env}{s:Shared}{H:Hp}(e:Env0 P w K mg base A outer s H)(C:Addr)(us:List Value)(kw:List (Str × Value)):
  Env0 P w K mg base (A.under (.builtin "type.__call__" ⟨.ref C::us,kw⟩)) outer s H:=⟨by first|exact e.frames|(simpa[Around.under,Code.envs,Code.isFrame,pushEnvs]using e.frames),e.mod,e.bs,e.bsz,e.V2,e.frf,e.hok,e.bare⟩
theorem Env0.in1{P:Program}{w:World}{K:PySem.W.Frag}{mg:Str→Option Value}{base:Heap}{A:Around}{outer:List Env}{s:Shared}{H:Hp}(e:Env0 P w K mg base A outer s H):
  Env0 P w K mg base A.in1 outer s H:=⟨e.frames,e.mod,e.bs,e.bsz,e.V2,e.frf,e.hok,e.bare⟩
section
variable {X:Cx}{pins:List (Addr × Obj)}{σ:St}{H:Hp}{s s':Shared}
theorem Inv.QaZ(I:Inv X pins σ H s):Env0 X.prog X.w X.K X.mg X.base X.A X.stack s H:=
 ⟨I.ok.frames,I.ok.mod,I.bs,Nat.le_trans I.ok.bsz I.sz,I.stack,I.Z8,I.hok,I.bare⟩
theorem Inv.after{Q:VK}{u:Value}(I:Inv X pins σ H s)(h:CE X.stack X.prog X.w H s Q u s'):EP X pins σ Q u s':=by
 obtain⟨v,H',os,bare,un,hok,r,q⟩:=h
 obtain⟨hh,g,d,t,os'⟩:=s'
 obtain rfl:os'=s.os:=os
 exact⟨v,H',I.call (h':=hh) (g':=g) (d':=d) (t':=t) (ch:=[]) un hok bare (fun b z=>absurd z (by simp)),r,q⟩
end
def V8(sp:Sp)(dvs:List V)(E:XK)(t:TA):TE:=fun σ H Q=>t σ H fun vs H1=>sp (vs++dvs) H1 Q E
def Ko(C:Addr)(m:Str)(sp:Sp)(dvs:List V)(E:XK)(ta:TE)(t:TA):TE:=fun σ H Q=>ta σ H fun x H1=>∃a dx fs,x=.ref a∧H1 a=some (.ins C dx fs)∧fs.lookup m=none∧
 t σ H1 fun vs H2=>sp (x::(vs++dvs)) H2 Q E
def yV(C:Addr)(sp:Sp)(dvs:List V)(E:XK)(t:TA):TE:=fun σ H Q=>t σ H fun vs H1=>∀x dx,H1 x=none→H1 dx=none→dx≠x→
 sp (.ref x::(vs++dvs)) (upd (upd H1 dx (.own x)) x (.ins C dx [])) (fun v H2=>v=.non∧Q (.ref x) H2) E
def Binds(K:PySem.W.Frag)(fd:FuncData)(ps:List Str)(ds:List Value):Prop:=
 ∀(s:Shared)(us:List Value),K.In s.heap→(us++ds).length=ps.length→BindsTo s fd ⟨us,[]⟩ (ps.zip (us++ds))
theorem Binds.all{K:PySem.W.Frag}{fd:FuncData}{ps:List Str}(h:∀us:List Value,us.length=ps.length→bindArgs fd ⟨us,[]⟩=pure (ps.zip us)):Binds K fd ps []:=fun s us _ hl=>by
 rw[List.append_nil]at hl ⊢
 exact .of_eq (h us hl)
def Passes(CX:CXT)(X:Cx)(E:XK):Prop:=∀(pins:List (Addr × Obj))(σ:St)(H:Hp)(s:Shared)(e:Value)(s':Shared),Inv X pins σ H s→CX X.stack H s E e s'→X.xe e s'
section
variable {X:Cx}{CX:CXT}{k:Nat}{f C:Addr}{fd:FuncData}{ps:List Str}{sp:Sp}{dvs:List V}{ds:List Value}{E:XK}{x m:Str}{p pos apos:Pos}{e o:Expr}{es:List Expr}{ta:TE}{t:TA}
theorem U2{pins:List (Addr × Obj)}{σ:St}{H:Hp}{s:Shared}{Q:VK}{us:List Value}{vs:List V}(F:FnOk X.prog X.w X.K X.mg X.base CX k f fd ps sp)(hr:Room k X.A)(hb:Binds X.K fd ps ds)(hd:Vals dvs ds)(hx:Passes CX X E)
  (I:Inv X pins σ H s) (r:Vals vs us) (h:sp (vs++dvs) H Q E):wpAny (model X.prog X.w) X.A (call (.ref f) us) (EP X pins σ Q) X.xe s:=by
 have r2:Vals (vs++dvs) (us++ds):=r.append hd
 have hl:(us++ds).length=ps.length:=by rw[←r2.length];exact F.len _ _ _ _ h
 refine wpAny_call (codeAny_mono (F.run X.A X.stack s H ⟨us,[]⟩ (us++ds) (vs++dvs) Q E hr I.QaZ (hb s us I.kIn hl) r2 h) fun r s' hq=>?_)
 cases r with
 |error e=>exact hx pins σ H s e s' I hq
 |ok fl=>
  cases fl with
  |ret u=>exact I.after hq
  |next=>exact False.elim hq
  |brk=>exact False.elim hq
  |cont=>exact False.elim hq
theorem vz(F:FnOk X.prog X.w X.K X.mg X.base CX k f fd ps sp)(hr:Room k X.A)(hg:Gl X x)(hm:X.mg x=some (.ref f))(hk:PySem.W.keepIn X.K (.ref f)=true)(hb:Binds X.K fd ps ds)(hd:Vals dvs ds)(hx:Passes CX X E)
  (ha:PA X (e::es) t) (hdb:(x==("__debug__":Str))=false:=by decide) (he:starEach (e::es) X.env=(false,eval e X.env)::starEach es X.env:=by rfl) (hpl:(backTo pos (starEach es X.env)).any (·.1)=false:=by rfl):
  PE X (.Call (.Name x p) (e::es) [] pos) (V8 sp dvs E t):=by
 intro pins s σ H Q I h
 refine wpAny_Call_Name_kw (Z9 I hg hm ?_ hdb)
 refine PySem.W.callWith_K (h₀:=X.base) I.ok.mod.kin hk (thn (ha pos pins s σ H _ I h) fun us s1⟨vs,H1,I1,r,q⟩=>⟨I1.kIn,?_⟩) he hpl
 exact U2 F hr hb hd hx I1 r q
theorem ku(F:FnOk X.prog X.w X.K X.mg X.base CX k f fd ps sp)(hr:Room k X.A)(hg:Gl X x)(hm:X.mg x=some (.ref f))(hk:PySem.W.keepIn X.K (.ref f)=true)(hb:Binds X.K fd ps ds)(hd:Vals dvs ds)(hx:Passes CX X E)
  (hdb:(x==("__debug__":Str))=false:=by decide):PE X (.Call (.Name x p) [] [] pos) (V8 sp dvs E Kn):=by
 intro pins s σ H Q I h
 refine wpAny_Call_Name_kw (Z9 I hg hm ?_ hdb)
 exact PySem.W.callWith_K0 I.kIn hk (U2 (us:=[]) F hr hb hd hx I .nil h)
theorem vA{pl:Sem Bool}(he:PE X o ta)(c:Cls X.K C)(hm:Meth X.K C m f)(F:FnOk X.prog X.w X.K X.mg X.base CX k f fd ps sp)(hr:Room k X.A)(hb:Binds X.K fd ps ds)(hd:Vals dvs ds)(hx:Passes CX X E)(ha:PA X (e::es) t)
  (hst:starEach (e::es) X.env=(false,eval e X.env)::starEach es X.env:=by rfl) (hpl:(backTo pos (starEach es X.env)).any (·.1)=false:=by rfl)
  (ht:eval (.Call (.Attribute o m apos) (e::es) [] pos) X.env=(do
   let ov←eval o X.env
   standAt apos.atName
   let (f,first)←holding [ov] (getMethod ov m pl)
   callWith pos f first (backTo pos (starEach (e::es) X.env)) (backToKw pos (keywordEach [] X.env))):=by rfl):
  PE X (.Call (.Attribute o m apos) (e::es) [] pos) (Ko C m sp dvs E ta t):=by
 intro pins s σ H Q I h
 refine PySem.W.methodCall_KW (pl:=pl) (thn (he pins s σ H _ I h) fun u s1⟨x,H1,I1,rx,a,dx,fs,ex,ea,l,q⟩=>?_) ht
 subst ex
 obtain rfl:u=Value.ref a:=rx
 refine W0 I1 ea c hm l ?_
 refine PySem.W.callWith_K (first:=[.ref a]) (h₀:=X.base) I.ok.mod.kin hm.kp (thn (ha pos pins s1 σ H1 _ I1 q) fun us s2⟨vs,H2,I2,r,q2⟩=>⟨I2.kIn,?_⟩) hst hpl
 exact U2 (us:=.ref a::us) (vs:=.ref a::vs) F hr hb hd hx I2 (.cons rfl r) q2
theorem kx{pl:Sem Bool}(he:PE X o ta)(c:Cls X.K C)(hm:Meth X.K C m f)(F:FnOk X.prog X.w X.K X.mg X.base CX k f fd ps sp)(hr:Room k X.A)(hb:Binds X.K fd ps ds)(hd:Vals dvs ds)(hx:Passes CX X E)
  (ht:eval (.Call (.Attribute o m apos) [] [] pos) X.env=(do
   let ov←eval o X.env
   standAt apos.atName
   let (f,first)←holding [ov] (getMethod ov m pl)
   callWith pos f first (backTo pos (starEach [] X.env)) (backToKw pos (keywordEach [] X.env))):=by rfl):
  PE X (.Call (.Attribute o m apos) [] [] pos) (Ko C m sp dvs E ta Kn):=by
 intro pins s σ H Q I h
 refine PySem.W.methodCall_KW (pl:=pl) (thn (he pins s σ H _ I h) fun u s1⟨x,H1,I1,rx,a,dx,fs,ex,ea,l,q⟩=>?_) ht
 subst ex
 obtain rfl:u=Value.ref a:=rx
 refine W0 I1 ea c hm l ?_
 exact PySem.W.callWith_K0 (first:=[.ref a]) I1.kIn hm.kp (U2 (us:=[.ref a]) (vs:=[.ref a]) F hr hb hd hx I1 (.cons rfl .nil) q)
structure Mk(K:PySem.W.Frag)(C f:Addr):Prop where
 makes:PySem.W.makesIn K C=true
 init:PySem.W.findIn K (.ref C) "__init__"=some (some (.ref f))
 fn:PySem.W.isFn K (.ref f)=true
 kp:PySem.W.keepIn K (.ref C)=true
theorem ky{pins:List (Addr × Obj)}{σ:St}{H:Hp}{s:Shared}{Q:VK}{us:List Value}{vs:List V}(M:Mk X.K C f)(F:FnOk X.prog X.w X.K X.mg X.base CX k f fd ps sp)(hr:Room (k+1) X.A)(hb:Binds X.K fd ps ds)(hd:Vals dvs ds)
  (hx:Passes CX X E) (I:Inv X pins σ H s) (r:Vals vs us)
  (h:∀x dx,H x=none→H dx=none→dx≠x→sp (.ref x::(vs++dvs)) (upd (upd H dx (.own x)) x (.ins C dx [])) (fun v H2=>v=.non∧Q (.ref x) H2) E):
  wpAny (model X.prog X.w) X.A (call (.ref C) us) (EP X pins σ Q) X.xe s:=by
 have hq:=h (s.heap.objs.size+1) s.heap.objs.size (I.hok.fresh (Nat.le_succ _)) (I.hok.fresh (Nat.le_refl _)) (Nat.ne_of_lt (Nat.lt_succ_self _))
 have I2:=Inv.made (C:=C) I
 have r2:Vals (V.ref (s.heap.objs.size+1)::(vs++dvs)) (Value.ref (s.heap.objs.size+1)::(us++ds)):=.cons rfl (r.append hd)
 have hl:(Value.ref (s.heap.objs.size+1)::us++ds).length=ps.length:=by
  have e:=r2.length
  rw[F.len _ _ _ _ hq]at e
  exact e.symm
 refine wpAny_call (kq (f:=f) I.kIn M.makes M.init (beq_iff_eq.mp M.fn) (codeAny_mono (F.run _ X.stack _ _ ⟨Value.ref (s.heap.objs.size+1)::us,[]⟩ (Value.ref (s.heap.objs.size+1)::(us++ds)) _ _ E (hr.make C us [])
  (I2.QaZ.make C us []) (hb _ (Value.ref (s.heap.objs.size+1)::us) I2.kIn hl) r2 hq) fun r s' hq'=>?_))
 cases r with
 |error e=>exact hx pins σ _ _ e s' I2 hq'
 |ok fl=>
  cases fl with
  |ret u=>
   obtain⟨v,H',I3,rv,ev,q3⟩:=I2.after hq'
   subst ev
   exact⟨rv,⟨V.ref (s.heap.objs.size+1),H',I3,rfl,q3⟩⟩
  |next=>exact False.elim hq'
  |brk=>exact False.elim hq'
  |cont=>exact False.elim hq'
theorem vB(M:Mk X.K C f)(F:FnOk X.prog X.w X.K X.mg X.base CX k f fd ps sp)(hr:Room (k+1) X.A)(hg:Gl X x)(hm:X.mg x=some (.ref C))(hb:Binds X.K fd ps ds)(hd:Vals dvs ds)(hx:Passes CX X E)
  (ha:PA X (e::es) t) (hdb:(x==("__debug__":Str))=false:=by decide) (he:starEach (e::es) X.env=(false,eval e X.env)::starEach es X.env:=by rfl) (hpl:(backTo pos (starEach es X.env)).any (·.1)=false:=by rfl):
  PE X (.Call (.Name x p) (e::es) [] pos) (yV C sp dvs E t):=by
 intro pins s σ H Q I h
 refine wpAny_Call_Name_kw (Z9 I hg hm ?_ hdb)
 refine PySem.W.callWith_K (h₀:=X.base) I.ok.mod.kin M.kp (thn (ha pos pins s σ H _ I h) fun us s1⟨vs,H1,I1,r,q⟩=>⟨I1.kIn,?_⟩) he hpl
 exact ky M F hr hb hd hx I1 r q
end
section
variable {X:Cx}{CX:CXT}{k:Nat}{f C:Addr}{fd:FuncData}{ps ks:List Str}{sp:Sp}{E:XK}{x m:Str}{p pos apos kpos:Pos}{e o:Expr}{es:List Expr}{kws:List Keyword}{te ta:TE}{t tk:TA}{nm:Option Str}
variable {g:List Value→List Value→List Value}{gV:List V→List V→List V}
end
structure FnScope(N P:List Str)(sc:Scope):Prop where
 kind:sc.kind=.function
 co:sc.isCoroutine=false
 gen:sc.isGenerator=false
 nd:N.Nodup
 pre:N.take P.length=P
 par:∀x∈P,sc.names.lookup x=some .local∨sc.names.lookup x=some .cell
 nofree:∀y∈sc.names,y.2≠ .free
theorem V9{kindOf:Str→Option NameKind}{x:Str}:∀{binds:List (Str × Value)}{m:Str→Option Value},(∀v,(x,v)∉binds)→bindL kindOf binds m x=m x
 |[],_,_=>rfl
 |(n,v)::r,m,h=>by
  unfold bindL
  rw[V9 fun w hw=>h w (List.mem_cons_of_mem _ hw)]
  split
  ·have:x≠n:=by rintro rfl;exact h v List.mem_cons_self
   simp[this]
  ·rfl
theorem Ya{kindOf:Str→Option NameKind}{x:Str}:∀{binds:List (Str × Value)}{m:Str→Option Value},(∀v,(x,v)∉binds)→bindC kindOf binds m x=m x
 |[],_,_=>rfl
 |(n,v)::r,m,h=>by
  unfold bindC
  rw[Ya fun w hw=>h w (List.mem_cons_of_mem _ hw)]
  split
  ·rfl
  ·have:x≠n:=by rintro rfl;exact h v List.mem_cons_self
   simp[this]
theorem Yb{kindOf:Str→Option NameKind}{x:Str}{v:Value}:∀{P:List Str}{vs:List Value}{i:Nat}{m:Str→Option Value},P.Nodup→P[i]? =some x→vs[i]? =some v→kindOf x=some .local→
  bindL kindOf (P.zip vs) m x=some v
 |[],_,_,_,_,h,_,_=>by simp at h
 |_::_,[],_,_,_,_,h,_=>by simp at h
 |p::P,w::vs,0,m,nd,h1,h2,hk=>by
  simp at h1 h2;subst h1;subst h2
  show bindL kindOf ((p,w)::P.zip vs) m p=_
  unfold bindL
  rw[V9 fun v hv=>(List.nodup_cons.mp nd).1 (List.of_mem_zip hv).1,if_pos hk]
  simp
 |p::P,w::vs,i+1,m,nd,h1,h2,hk=>by
  show bindL kindOf ((p,w)::P.zip vs) m x=_
  unfold bindL
  exact Yb (i:=i) (List.nodup_cons.mp nd).2 (by simpa using h1) (by simpa using h2) hk
theorem Yc{kindOf:Str→Option NameKind}{x:Str}{v:Value}:∀{P:List Str}{vs:List Value}{i:Nat}{m:Str→Option Value},P.Nodup→P[i]? =some x→vs[i]? =some v→kindOf x≠some .local→
  bindC kindOf (P.zip vs) m x=some v
 |[],_,_,_,_,h,_,_=>by simp at h
 |_::_,[],_,_,_,_,h,_=>by simp at h
 |p::P,w::vs,0,m,nd,h1,h2,hk=>by
  simp at h1 h2;subst h1;subst h2
  show bindC kindOf ((p,w)::P.zip vs) m p=_
  unfold bindC
  rw[Ya fun v hv=>(List.nodup_cons.mp nd).1 (List.of_mem_zip hv).1,if_neg hk]
  simp
 |p::P,w::vs,i+1,m,nd,h1,h2,hk=>by
  show bindC kindOf ((p,w)::P.zip vs) m x=_
  unfold bindC
  exact Yc (i:=i) (List.nodup_cons.mp nd).2 (by simpa using h1) (by simpa using h2) hk
def start(N:List Str)(vs:List V):St:=vs.map some++List.replicate (N.length-vs.length) none
def Vk(CX:CXT)(P:Program)(w:World)(K:PySem.W.Frag)(mg:Str→Option Value)(base:Heap)(N:List Str)(qual:Str)(scope:Scope)(f:Addr)(cd:Value)(A:Around)(outer:List Env)(s:Shared)(H:Hp)(E:XK):Cx where
 prog:=P
 w:=w
 K:=K
 mg:=mg
 base:=base
 A:=A.deeper (envOfC qual scope s.heap.objs.size f cd)
 N:=N
 s₀:=s
 H₀:=H
 env:=envOfC qual scope s.heap.objs.size f cd
 outer:=outer
 stack:=envOfC qual scope s.heap.objs.size f cd::outer
 ex:=[]
 calm:=true
 fn:=fun _=>true
 pn:=[]
 xe:=fun e s'=>wpAny (model P w) (A.deeper (envOfC qual scope s.heap.objs.size f cd)) (leaving (envOfC qual scope s.heap.objs.size f cd) e) (fun _ s''=>CX outer H s E e s'') (fun e' s''=>CX outer H s E e' s'') s'
theorem Vl{sc:Scope}{n:Nat}{x:Str}(h:sc.names.lookup x=some .cell):∃c,(cellsFrom n sc.names []).lookup x=some c:=by
 have q:=PySem.W.cellsFrom_some sc.names n [] (.inl h)
 exact Option.isSome_iff_exists.mp q
theorem Yd{CX:CXT}{P:Program}{w:World}{K:PySem.W.Frag}{mg:Str→Option Value}{base:Heap}{N ps:List Str}{qual:Str}{scope:Scope}{f:Addr}{cd:Value}{A:Around}{outer:List Env}{s s1:Shared}{H:Hp}{E:XK}{us:List Value}{vs:List V}
  (S:FnScope N ps scope) (hd:A.handled=none) (e0:Env0 P w K mg base A outer s H) (hl:vs.length=ps.length) (r:Vals vs us)
  (x:InCallC s s.heap.objs.size (bindL (envOfC qual scope s.heap.objs.size f cd).kindOf (ps.zip us) fun _=>none) (cellsFrom (s.heap.objs.size+1) scope.names []) (bindC (envOfC qual scope s.heap.objs.size f cd).kindOf (ps.zip us) fun _=>none) s1):
  Inv (Vk CX P w K mg base N qual scope f cd A outer s H E) [] (start N vs) H s1:=by
 have hpl:ps.length≤N.length:=by have:=congrArg List.length S.pre;rw[List.length_take]at this;omega
 obtain⟨h1,tk,rfl,hk⟩:=x.done
 have noA:∀b:Addr,b∉(Vk CX P w K mg base N qual scope f cd A outer s H E).ex:=fun b z=>absurd (show b∈([]:List Addr)from z) (by simp)
 refine⟨⟨e0.mod,S.kind,rfl,rfl,Nat.le_refl _,fun y z c h1 h2=>?_,fun y hy=>?_,fun y c _ h=>?_,fun _=>hd,Around.frames_deeper e0.frames,.inr ⟨rfl,rfl⟩,fun b z=>absurd z (noA b),e0.bs,e0.bsz,fun b _ _=>noA b,fun b z=>absurd z (noA b),e0.V2,e0.frf⟩,
  rfl,e0.bare,Un.kept hk,⟨_,x.toInCall.ns,fun i y v h1 h2 h3=>?_⟩,fun y c h=>⟨_,x.cell y c h⟩,e0.hok.fresh (Nat.le_refl _),fun y c h=>?_,fun p hp=>absurd (show p∈([]:List (Addr × Obj))from hp) (by simp),e0.hok.kept hk,?_⟩
 ·exact name_of_addr x.apart (PySem.mem_of_lookup h1) (PySem.mem_of_lookup h2)
 ·have hy:scope.names.lookup y=some .cell∨scope.names.lookup y=some .free:=hy
  rcases hy with hy|hy
  ·exact Vl hy
  ·exact absurd rfl (S.nofree _ (PySem.mem_of_lookup hy))
 ·exact Nat.le_of_lt (x.above y c (PySem.mem_of_lookup h))
 ·have hi:i<vs.length:=by
   unfold start at h2
   by_cases hi:i<vs.length
   ·exact hi
   ·rw[List.getElem?_append_right (by simpa using hi)]at h2
    rw[List.getElem?_replicate]at h2
    split at h2<;>cases h2
  have ha:vs[i]? =some v:=by
   unfold start at h2
   rw[List.getElem?_append_left (by simpa using hi),List.getElem?_map]at h2
   cases e:vs[i]? with
   |none=>rw[e]at h2;cases h2
   |some a=>rw[e]at h2;cases h2;rfl
  obtain⟨u,hu,rv⟩:=r.get ha
  have hp:ps[i]? =some y:=by
   rw[←S.pre,List.getElem?_take_of_lt (by omega)];exact h1
  have ndP:ps.Nodup:=by rw[←S.pre];exact S.nd.sublist (List.take_sublist _ _)
  refine⟨u,rv,?_⟩
  rcases S.par y (List.mem_of_getElem? hp)with k|k
  ·exact .inl ⟨k,Yb ndP hp hu k⟩
  ·obtain⟨c,e⟩:=Vl (n:=s.heap.objs.size+1) k
   refine .inr ⟨.inl k,c,e,?_⟩
   have q:=x.cell y c e
   rw[Yc ndP hp hu (by show scope.names.lookup y≠_;rw[k];decide)]at q
   exact q
 ·exact e0.hok.fresh (Nat.le_of_lt (x.above y c (PySem.mem_of_lookup h)))
 ·unfold start
  show _=N.length
  rw[List.length_append,List.length_map,List.length_replicate]
  omega
theorem yW{CX:CXT}{P:Program}{w:World}{K:PySem.W.Frag}{mg:Str→Option Value}{base:Heap}{k:Nat}{f:Addr}{name qual:Str}{params:Arguments}{body:List Stmt}{scope:Scope}{dV kV doc pm cdv ct oc:Value}{an od:Option Addr}
  {osl:Array (Option Value)} {N ps:List Str} {sp:Sp} (lk:K.lookup f=some ⟨oc,od,.func (PySem.W.fnOf name qual params body scope dV kV doc pm an cdv ct),osl⟩) (hcd:PySem.W.codeIn K cdv qual=true) (S:FnScope N ps scope)
  (len:∀vs H Q E,sp vs H Q E→vs.length=ps.length)
  (hbody:∀(A:Around)(outer:List Env)(s:Shared)(H:Hp)(vs:List V)(Q:VK)(E:XK),Room k (A.deeper (envOfC qual scope s.heap.objs.size f cdv))→sp vs H Q E→
   ∃t,PSs (Vk CX P w K mg base N qual scope f cdv A outer s H E) body t∧t {nx:=fun _ H'=>Q .non H',rt:=Q} (start N vs) H):
  FnOk P w K mg base CX (k+1) f (PySem.W.fnOf name qual params body scope dV kV doc pm an cdv ct) ps sp:=by
 refine⟨len,fun A outer s H args us vs Q E hr e0 hb r hsp=>?_⟩
 have hl:=len _ _ _ _ hsp
 have KX:K.In s.heap:=e0.mod.kin.keeps fun b o e=>(e0.bs b o e).1
 have lim:s.heap.NoLimit:=e0.mod.nolimit.keeps fun b o e=>(e0.bs b o e).1
 have hkind:∀y∈ps.zip us,scope.names.lookup y.1=some .local∨(scope.names.lookup y.1=some .cell∧((cellsFrom (s.heap.objs.size+1) scope.names []).lookup y.1).isSome=true):=fun⟨n,v⟩ hy=>by
  rcases S.par n (List.of_mem_zip hy).1 with q|q
  ·exact .inl q
  ·exact .inr ⟨q,PySem.W.cellsFrom_some _ _ _ (.inl q)⟩
 refine codeAny_call_function hr.depth (KX _ _ lk) rfl S.co S.gen rfl (PySem.W.codeRec_of KX hcd) (hb _ _ _ _ ?_)
 refine wpAny_newFunctionEnv_cells S.kind hkind fun env he s1 x=>?_
 subst he
 refine⟨lim.keeps x.toInCall.keep,codeAny_func ?_⟩
 obtain⟨t,ht,hq⟩:=hbody A outer s H vs Q E (hr.deeper _) hsp
 have I:Inv (Vk CX P w K mg base N qual scope f cdv A outer s H E) [] (start N vs) H s1:=Yd S hr.hd e0 hl r x
 refine wpAny_mono (ht [] s1 (start N vs) H _ I hq) (fun fl s' hs=>?_) fun e s' hs=>hs
 have fin:∀{σ':St}{H':Hp}{v:V}{u:Value},Inv (Vk CX P w K mg base N qual scope f cdv A outer s H E) [] σ' H' s'→RelV v u→Q v H'→CE outer P w H s Q u s':=
  fun{σ' H' v u} J rv q=>⟨v,H',J.os,J.bare,J.base,J.hok,rv,q⟩
 cases fl with
 |ret u=>
  obtain⟨v,σ',H',J,rv,q⟩:=hs
  exact fin J rv q
 |next=>
  obtain⟨σ',H',J,q⟩:=hs
  exact fin (v:=V.non) (u:=Value.none) J rfl q
 |brk=>
  obtain⟨_,_,_,q⟩:=hs
  exact False.elim q
 |cont=>
  obtain⟨_,_,_,q⟩:=hs
  exact False.elim q
end L2
namespace L2
open PySem PySem.Spec PyProof.Rows
section
variable {X:Cx}{x:Str}{p pos:Pos}{e:Expr}{es:List Expr}{t:TA}{id T:String}{r:List V→Hp→VK→Prop}
def tCB(r:List V→Hp→VK→Prop)(t:TA):TE:=fun σ H Q=>t σ H fun vs H1=>r vs H1 Q
theorem Qh(hc:Xb X (.builtin id) r)(hg:Gl X x)(hm:X.mg x=none)(hv:bootBuiltins x=some (.builtin id))(ha:PA X (e::es) t)(hn:x≠"__name__":=by decide)(hdb:(x==("__debug__":Str))=false:=by decide)
  (he:starEach (e::es) X.env=(false,eval e X.env)::starEach es X.env:=by rfl) (hpl:(backTo pos (starEach es X.env)).any (·.1)=false:=by rfl):PE X (.Call (.Name x p) (e::es) [] pos) (tCB r t):=by
 intro pins s σ H Q I h
 refine wpAny_Call_Name_kw (Kf I hg hm hv ?_ hn hdb)
 exact PyProof.Rows.callWith_builtin1 (thn (ha pos pins s σ H _ I h) fun us s1⟨vs,H1,I1,r1,q1⟩=>hc pins s1 σ H1 vs us Q I1 r1 q1) he hpl
theorem QH(hc:Xb X (.type T) r)(hg:Gl X x)(hm:X.mg x=none)(hv:bootBuiltins x=some (.type T))(ha:PA X (e::es) t)(hn:x≠"__name__":=by decide)(hdb:(x==("__debug__":Str))=false:=by decide)
  (he:starEach (e::es) X.env=(false,eval e X.env)::starEach es X.env:=by rfl) (hpl:(backTo pos (starEach es X.env)).any (·.1)=false:=by rfl):PE X (.Call (.Name x p) (e::es) [] pos) (tCB r t):=by
 intro pins s σ H Q I h
 refine wpAny_Call_Name_kw (Kf I hg hm hv ?_ hn hdb)
 exact PyProof.Rows.callWith_type1 (thn (ha pos pins s σ H _ I h) fun us s1⟨vs,H1,I1,r1,q1⟩=>hc pins s1 σ H1 vs us Q I1 r1 q1) he hpl
end
end L2
namespace HT
open PySem PyProof.Rows
section
open PySem.SeqAt
open PySem.AutoSeq1 (wpAny_loadPart')
open PySem.MeetsSeq PySem.MeetsSeq2 PySem.MeetsSeq3
end
section
variable {prog:Program}{w:World}{A:Around}{E:Value→Shared→Prop}{s:Shared}
theorem vC{t b:Addr}{vs ws:List Value}{Q:Value→Shared→Prop}(ht:IsTup s.heap t vs.toArray)(hb:IsTup s.heap b ws.toArray)(hv:vs≠[])
  (h1:ws=[]→Q (.ref t) s) (h2:ws≠[]→Q (.ref s.heap.objs.size) {s with heap:=s.heap.push {cls:=.type "tuple",data:=.seq (vs++ws).toArray}})
  (hsz:vs.length+ws.length≤sizeLine):wpAny (model prog w) A (binaryOp .Add (.ref t) (.ref b)) Q E s:=by
 obtain⟨⟨cls,dd,data,sl⟩,ho,hc,n,hd⟩:=id ht
 obtain⟨⟨cls2,dd2,data2,sl2⟩,ho2,hc2,n2,hd2⟩:=id hb
 simp only at hc hd hc2 hd2
 subst hc hd hc2 hd2
 have e:vs.toArray++ws.toArray=(vs++ws).toArray:=by simp
 by_cases hw:ws=[]
 ·exact concat_meets ⟨_,ho,rfl⟩ ⟨_,ho2,rfl⟩ noFill_tuple_add seq_tuple_add PySem.F.slot_tuple_add PySem.F.entry_tuple_add (PySem.F.args_tuple_add_2 _ _)
   (tuple_addW1 t b vs.toArray ws.toArray n n2 dd dd2 sl sl2 (by simpa using hv) (by simp[hw])) ⟨ho,ho2,h1 hw⟩
 ·refine concat_meets ⟨_,ho,rfl⟩ ⟨_,ho2,rfl⟩ noFill_tuple_add seq_tuple_add PySem.F.slot_tuple_add PySem.F.entry_tuple_add (PySem.F.args_tuple_add_2 _ _)
   (tuple_addW2 t b vs.toArray ws.toArray n n2 dd dd2 sl sl2 (by simpa using hv) (by simpa using hw) (by rw[List.size_toArray,List.size_toArray];exact hsz)) ⟨ho,ho2,?_⟩
  rw[e]
  exact h2 hw
def sIx(n d:Nat):Option Int→Nat
 |none=>d
 |some v=>if v<0 then(v+(n:Int)).toNat else min v.toNat n
theorem U3(n d:Nat):sIx n d none=d:=rfl
theorem Zk(n d k:Nat):sIx n d (some (k:Int))=min k n:=by
 show(if(k:Int)<0 then((k:Int)+(n:Int)).toNat else min (k:Int).toNat n)=min k n
 rw[if_neg (by omega),Int.toNat_natCast]
theorem yX(n d:Nat)(hd:d≤n)(o:Option Int):sIx n d o≤n:=by
 cases o with
 |none=>exact hd
 |some v=>
  show(if v<0 then(v+(n:Int)).toNat else min v.toNat n)≤n
  by_cases hv:v<0
  ·rw[if_pos hv];omega
  ·rw[if_neg hv];exact Nat.min_le_right _ _
theorem j6(v:Int)(n d:Nat):(if v<0 then max (v+(n:Int)) 0 else min v (n:Int))=((sIx n d (some v):Nat):Int):=by
 show(if v<0 then max (v+(n:Int)) 0 else min v (n:Int))=(((if v<0 then(v+(n:Int)).toNat else min v.toNat n):Nat):Int)
 by_cases hv:v<0
 ·simp only[if_pos hv];omega
 ·simp only[if_neg hv];omega
theorem qR(lo hi:Option Int)(n:Nat):Builtin.Slice.sliceAdjust lo hi 1 (n:Int)=(((sIx n 0 lo:Nat):Int),((sIx n n hi:Nat):Int)):=by
 have h1:¬ ((1:Int)<0):=by omega
 unfold Builtin.Slice.sliceAdjust
 simp only[h1,if_false]
 refine Prod.ext ?_ ?_
 ·cases lo with
  |none=>rfl
  |some v=>exact j6 v n 0
 ·cases hi with
  |none=>rfl
  |some v=>exact j6 v n n
theorem qS(i j:Nat):Builtin.Slice.slicePlaces (i:Int) (j:Int) 1=j-i:=by
 unfold Builtin.Slice.slicePlaces
 have h1:(1:Int)>0:=by omega
 simp only[h1,if_true,Int.ediv_one]
 split<;>omega
theorem W2{v:Value}{o:Option Int}{Q:Option Int→Shared→Prop}(p:IsPart v o)(h:Q o s):wpAny (model prog w) A (Builtin.Slice.slicePartIndex v) Q E s:=by
 cases p with
 |none=>exact slicePart_none h
 |int i t=>exact slicePart_int h
theorem Zu{sl:Addr}{vl vu:Value}{lo hi:Option Int}{n:Nat}{Q:Int × Int × Nat→Shared→Prop}(hs:s.heap.IsSliceOf sl vl vu .none)(pl:IsPart vl lo)(pu:IsPart vu hi)
  (h:Q (((sIx n 0 lo:Nat):Int),1,sIx n n hi-sIx n 0 lo) s):wpAny (model prog w) A (Builtin.Slice.sliceApplied (.ref sl) (pure (n:Int))) Q E s:=by
 obtain⟨os,hos,hcs,hds⟩:=id hs
 unfold Builtin.Slice.sliceApplied Builtin.Slice.sliceFields
 refine wpAny_bind (wpAny_bind (wpAny_field hos hds (x:=vl) rfl (wpAny_bind (wpAny_field hos hds (x:=vu) rfl (wpAny_bind (wpAny_field hos hds (x:=.none) rfl (wpAny_pure ?_)))))))
 refine wpAny_bind (slicePart_none ?_)
 show wpAny _ _ (if((1:Int)==0)=true then _ else _) _ _ s
 rw[if_neg (by decide)]
 refine wpAny_bind (W2 pl (wpAny_bind (W2 pu (wpAny_bind (wpAny_pure ?_)))))
 show wpAny _ _ (match Builtin.Slice.sliceAdjust lo hi 1 (n:Int)with|(lo,hi)=>pure (lo,(1:Int),Builtin.Slice.slicePlaces lo hi 1)) _ _ s
 rw[qR lo hi n]
 show wpAny _ _ (pure (((sIx n 0 lo:Nat):Int),(1:Int),Builtin.Slice.slicePlaces ((sIx n 0 lo:Nat):Int) ((sIx n n hi:Nat):Int) 1)) _ _ s
 rw[qS]
 exact wpAny_pure h
theorem kz(xs:Array Value)(i k:Nat):((List.range k).filterMap fun(m:Nat)=>xs[((i:Int)+(m:Int)*1).toNat]?).toArray=((xs.toList.drop i).take k).toArray:=by
 have e:(fun(m:Nat)=>xs[((i:Int)+(m:Int)*1).toNat]?)=fun m=>xs[i+m]? :=by
  funext m
  have:((i:Int)+(m:Int)*1).toNat=i+m:=by omega
  rw[this]
 rw[e]
 have:=pick_run xs i k
 rw[List.filterMap_map]at this
 have e2:((fun x=>xs[x]?)∘fun x=>i+x)=fun m=>xs[i+m]? :=rfl
 rw[e2]at this
 rw[this]
theorem XS{t sl:Addr}{items:Array Value}{vl vu:Value}{lo hi:Option Int}{Q:Value→Shared→Prop}(ht:IsTup s.heap t items)(hs:s.heap.IsSliceOf sl vl vu .none)(pl:IsPart vl lo)(pu:IsPart vu hi)
  (hw:¬ (sIx items.size 0 lo=0∧sIx items.size items.size hi=items.size))
  (h:Q (.ref s.heap.objs.size) {s with heap:=s.heap.push {cls:=.type "tuple",data:=.seq ((items.toList.drop (sIx items.size 0 lo)).take (sIx items.size items.size hi-sIx items.size 0 lo)).toArray}})
  (hsz:items.size≤sizeLine):wpAny (model prog w) A (getItem (.ref t) (.ref sl)) Q E s:=by
 have htake:sizeOk (.seq ((items.toList.drop (sIx items.size 0 lo)).take (sIx items.size items.size hi-sIx items.size 0 lo)).toArray):=by
  show((items.toList.drop (sIx items.size 0 lo)).take (sIx items.size items.size hi-sIx items.size 0 lo)).toArray.size≤sizeLine
  rw[List.size_toArray,List.length_take,List.length_drop,Array.length_toList]
  omega
 have hj:sIx items.size items.size hi≤items.size:=yX _ _ (Nat.le_refl _) hi
 obtain⟨os,hos,hcs,hds⟩:=id hs
 have hTs:s.TypeIs (.ref sl) "slice":=⟨os,hos,hcs⟩
 unfold getItem
 try with_reducible refine wpAny_holding ?_
 first|refine wpAny_bind (wpAny_pure ?_)|skip
 refine wpAny_bind (wpAny_sequenceKey ht.typeIs (by decide) ?_)
 refine wpAny_bind (wpAny_callSpecial?_slot (name:=Str.ofString "__getitem__") ht.typeIs PyProof.Rows.slot_tuple_getitem
  (wpAny_call_entry PyProof.Rows.slot_tuple_getitem ht.typeIs entry_tuple_getitem ?_ (args_tuple_getitem _ _)))
 show wpAny _ _ (Builtin.Tuple.tupleItemsOf (.ref t)>>=_) _ _ s
 refine wpAny_bind (tupleItemsOf_ ht ?_)
 refine wpAny_bind (wpAny_typeOf hTs ?_)
 rw[if_pos (by decide)]
 refine wpAny_bind (Zu hs pl pu ?_)
 have hno:¬ ((((sIx items.size 0 lo:Nat):Int)==0&&(1:Int)==1&&(sIx items.size items.size hi-sIx items.size 0 lo)==items.size)=true):=by
  intro q
  rw[Bool.and_eq_true,Bool.and_eq_true]at q
  have q1:((sIx items.size 0 lo:Nat):Int)=0:=eq_of_beq q.1.1
  have q2:sIx items.size items.size hi-sIx items.size 0 lo=items.size:=eq_of_beq q.2
  exact hw ⟨by omega,by omega⟩
 show wpAny _ _ (if(((sIx items.size 0 lo:Nat):Int)==0&&(1:Int)==1&&(sIx items.size items.size hi-sIx items.size 0 lo)==items.size)=true then _ else _) _ _ s
 rw[if_neg hno,kz]
 first
  |exact wpAny_bind (m:=Builtin.Tuple.tupleExact _) (wpAny_newObj_type (wpAny_pure ⟨_,rfl,wpAny_pure h⟩) htake)
  |exact wpAny_bind (m:=Builtin.Tuple.tupleExact _) (wpAny_newObj_type (wpAny_bind (wpAny_pure (wpAny_pure ⟨_,rfl,wpAny_pure h⟩))) htake)
  |exact wpAny_bind (wpAny_bind (m:=Builtin.Tuple.tupleExact _) (wpAny_newObj_type (wpAny_pure (wpAny_pure ⟨_,rfl,wpAny_pure h⟩)) htake))
  |exact wpAny_bind (wpAny_bind (m:=Builtin.Tuple.tupleExact _) (wpAny_newObj_type (wpAny_pure ⟨_,rfl,wpAny_pure h⟩) htake))
end
end HT
namespace L2
open PySem PySem.Spec PyProof.Rows
abbrev TO:=St→Hp→(Option Int→Hp→Prop)→Prop
def PO(X:Cx)(e:Option Expr)(t:TO):Prop:=
 ∀(pins:List (Addr × Obj))(s:Shared)(σ:St)(H:Hp)(Q:Option Int→Hp→Prop),Inv X pins σ H s→t σ H Q→
  wpAny (model X.prog X.w) X.A (evalPart e X.env) (fun u s'=>∃o H',Inv X pins σ H' s'∧IsPart u o∧Q o H') X.xe s
def Y5:TO:=fun _ H Q=>Q none H
def Qbi(t:TE):TO:=fun σ H Q=>t σ H fun x H1=>∃i,x=.int i∧Q (some i) H1
section
variable {X:Cx}{e:Expr}{te:TE}{lo hi:Option Expr}{tl th:TO}{pos p2:Pos}
theorem KU:PO X none Y5:=by
 intro pins s σ H Q I h
 rw[evalPart_none]
 exact wpAny_pure ⟨none,H,I,.none,h⟩
theorem ZA(h:PE X e te):PO X (some e) (Qbi te):=by
 intro pins s σ H Q I hw
 rw[evalPart_some]
 refine thn (h pins s σ H _ I hw) fun u s1⟨x,H1,I1,r1,q1⟩=>?_
 obtain⟨i,rfl,q⟩:=q1
 obtain⟨t,rfl⟩:=r1
 exact⟨some i,H1,I1,.int i t,q⟩
def SlR(X:Cx)(r:V→Option Int→Option Int→Hp→VK→Prop):Prop:=
 ∀(pins:List (Addr × Obj))(s:Shared)(σ:St)(H:Hp)(x:V)(v vl vu:Value)(lo hi:Option Int)(sl:Addr)(Q:VK),Inv X pins σ H s→RelV x v→s.heap.IsSliceOf sl vl vu .none→IsPart vl lo→IsPart vu hi→r x lo hi H Q→
  ∃T id,typeLookup (.type T) "__getitem__"=pure (some (.builtin id))∧s.TypeIs v T∧wpAny (model X.prog X.w) X.A (getItem v (.ref sl)) (EP X pins σ Q) X.xe s
def tSl(r:V→Option Int→Option Int→Hp→VK→Prop)(te:TE)(tl th:TO):TE:=fun σ H Q=>te σ H fun x H1=>tl σ H1 fun l H2=>th σ H2 fun u H3=>r x l u H3 Q
theorem ZR{r:V→Option Int→Option Int→Hp→VK→Prop}(hr:SlR X r)(he:PE X e te)(hl:PO X lo tl)(hu:PO X hi th):PE X (.Subscript e (.Slice lo hi none p2) pos) (tSl r te tl th):=by
 intro pins s σ H Q I h
 refine Subscript_ (thn (he pins s σ H _ I h) fun v s1⟨x,H1,I1,r1,q1⟩=>?_)
 refine wpAny_Slice (thn (hl pins s1 σ H1 _ I1 q1) fun vl s2⟨l,H2,I2,pl,q2⟩=>thn (hu pins s2 σ H2 _ I2 q2) fun vu s3⟨u,H3,I3,pu,q3⟩=>?_)
 rw[evalPart_none]
 refine wpAny_pure ?_
 have I4:Inv X pins σ H3 {s3 with heap:=s3.heap.push {cls:=.type "slice",data:=.fields #[vl,vu,.none]}}:=I3.kept (t':=s3.toks) fun b ob q=>Heap.get?_push_of_some _ q
 obtain⟨T,id,hT,ht,hg⟩:=hr pins {s3 with heap:=s3.heap.push {cls:=.type "slice",data:=.fields #[vl,vu,.none]}} σ H3 x v vl vu l u s3.heap.objs.size Q I4 r1 (Heap.IsSliceOf.new ..) pl pu q3
 show wpAny (model X.prog X.w) X.A (subscriptTail e (.Slice lo hi none p2) v (.ref s3.heap.objs.size)) (EP X pins σ Q) X.xe {s3 with heap:=s3.heap.push {cls:=.type "slice",data:=.fields #[vl,vu,.none]}}
 exact tail_any (ops:=[.ref s3.heap.objs.size,v]) ht hT hg (by with_unfolding_all rfl)
def YT(xs:List V)(lo hi:Option Int):List V:=(xs.drop (HT.sIx xs.length 0 lo)).take (HT.sIx xs.length xs.length hi-HT.sIx xs.length 0 lo)
theorem Y6(xs:List V)(lo hi:Option Int):(YT xs lo hi).length≤xs.length:=by
 unfold YT
 rw[List.length_take,List.length_drop]
 omega
def Qcg(K:PySem.W.Frag):V→Option Int→Option Int→Hp→VK→Prop:=fun x lo hi H Q=>∃a xs,x=.ref a∧SqT K H a xs∧
 ¬ (HT.sIx xs.length 0 lo=0∧HT.sIx xs.length xs.length hi=xs.length)∧∀p,H p=none→Q (.ref p) (upd H p (.tup (YT xs lo hi)))
theorem yY:SlR X (Qcg X.K):=by
 intro pins s σ H x v vl vu lo hi sl Q I rx hs pl pu h
 obtain⟨a,xs,rfl,hx,hw,q⟩:=h
 cases rx
 obtain⟨its,r,ht,hz⟩:=I.tuple hx
 have hlen:its.toArray.size=xs.length:=by rw[List.size_toArray];exact r.length.symm
 refine⟨"tuple",_,PyProof.Rows.slot_tuple_getitem.lookup,ht.typeIs,?_⟩
 refine HT.XS ht hs pl pu (by rw[hlen];exact hw) ?_ (by rw[hlen];exact hz)
 rw[hlen]
 refine⟨.ref s.heap.objs.size,_,I.laid (t':=s.toks) (o:=.tup (YT xs lo hi)) (fun b ob q=>Heap.get?_push_of_some _ q) (Nat.le_refl _) ?_,rfl,q _ (I.hok.fresh (Nat.le_refl _))⟩
 exact⟨Nat.le_trans (Y6 xs lo hi) hz,_,(r.drop (HT.sIx xs.length 0 lo)).take (HT.sIx xs.length xs.length hi-HT.sIx xs.length 0 lo),Ke.new _ _⟩
def Qbj(K:PySem.W.Frag):R2:=fun x y H Q=>∃a b xs ys,x=.ref a∧y=.ref b∧SqT K H a xs∧SqT K H b ys∧xs≠[]∧xs.length+ys.length≤sizeLine∧
 (ys=[]→Q (.ref a) H)∧(ys≠[]→∀p,H p=none→Q (.ref p) (upd H p (.tup (xs++ys))))
theorem Vals.Vm{xs:List V}{us:List Value}(r:Vals xs us):us=[]↔xs=[]:=by
 cases r with
 |nil=>simp
 |cons _ _=>simp
theorem vD:OpR X (binaryOp .Add) (Qbj X.K):=by
 intro pins s σ H x y v u Q I rx ry h
 obtain⟨a,b,xs,ys,rfl,rfl,ha,hb,hx,hz,q1,q2⟩:=h
 cases rx
 cases ry
 obtain⟨its,r1,p1,_⟩:=I.tuple ha
 obtain⟨its2,r2,p2,_⟩:=I.tuple hb
 refine HT.vC p1 p2 (fun z=>hx (r1.Vm.mp z)) (fun z=>⟨.ref a,H,I,rfl,q1 (r2.Vm.mp z)⟩) (fun z=>?_) (by rw[←r1.length, ←r2.length];exact hz)
 refine⟨.ref s.heap.objs.size,_,I.laid (t':=s.toks) (o:=.tup (xs++ys)) (fun b ob q=>Heap.get?_push_of_some _ q) (Nat.le_refl _) ?_,rfl,q2 (fun w=>z (r2.Vm.mpr w)) _ (I.hok.fresh (Nat.le_refl _))⟩
 exact⟨by rw[List.length_append];exact hz,_,r1.append r2,Ke.new _ _⟩
end
end L2
namespace L2
open PySem PySem.Spec PyProof.Rows
def ixN(n:Nat)(i:Int):Option Nat:=if 0≤i then(if i<n then some i.toNat else none)else if-(n:Int)≤i then some (i+n).toNat else none
def atI{α:Type}(xs:List α)(i:Int):Option α:=(ixN xs.length i).bind fun j=>xs[j]?
theorem vE{n:Nat}{i:Int}{j:Nat}(h:ixN n i=some j):seqIndex? i n=some j∧j<n∧ -(n:Int)≤i∧i<n:=by
 unfold ixN at h
 by_cases h0:0≤i
 ·rw[if_pos h0]at h
  by_cases h1:i<n
  ·rw[if_pos h1]at h
   have e:i.toNat=j:=Option.some.inj h
   exact⟨by rw[seqIndex_of h0 h1,e],by omega,by omega,h1⟩
  ·rw[if_neg h1]at h;cases h
 ·rw[if_neg h0]at h
  by_cases h1: -(n:Int)≤i
  ·rw[if_pos h1]at h
   have e:(i+n).toNat=j:=Option.some.inj h
   exact⟨by rw[seqIndex_neg (by omega) h1,e],by omega,h1,by omega⟩
  ·rw[if_neg h1]at h;cases h
theorem j7{α:Type}{xs:List α}{i:Int}{v:α}(h:atI xs i=some v):∃j,seqIndex? i xs.length=some j∧xs[j]? =some v∧j<xs.length∧ -(xs.length:Int)≤i∧i<xs.length:=by
 unfold atI at h
 cases e:ixN xs.length i with
 |none=>rw[e]at h;cases h
 |some j=>
  rw[e]at h
  obtain⟨h1,h2,h3,h4⟩:=vE e
  exact⟨j,h1,h,h2,h3,h4⟩
theorem Q9{α:Type}{xs:List α}{j:Nat}{v:α}(h:xs[j]? =some v):atI xs (j:Int)=some v:=by
 have hj:j<xs.length:=(List.getElem?_eq_some_iff.mp h).1
 have e:ixN xs.length (j:Int)=some j:=by
  unfold ixN
  rw[if_pos (by omega),if_pos (by omega)];simp
 unfold atI;rw[e];exact h
theorem kA{α:Type}(xs:List α)(v:α):atI (xs++[v]) (-1)=some v:=by
 have hl:(xs++[v]).length=xs.length+1:=by simp
 have e:ixN (xs++[v]).length (-1)=some xs.length:=by
  unfold ixN
  rw[hl,if_neg (by decide),if_pos (by omega)]
  congr 1
  omega
 unfold atI
 rw[e]
 show(xs++[v])[xs.length]? =some v
 simp
def j8(b:Expr):Prop:=∀o i,subscripted b false o i=operate [o,i] (getItem o i)
def IxR(X:Cx)(r:R2):Prop:=
 ∀(value slice:Expr)(pins:List (Addr × Obj))(s:Shared)(σ:St)(H:Hp)(x y:V)(v u:Value)(Q:VK),Inv X pins σ H s→RelV x v→RelV y u→r x y H Q→
  subscripted slice false v u=operate [v,u] (getItem v u)→wpAny (model X.prog X.w) X.A (subscriptTail value slice v u) (EP X pins σ Q) X.xe s
def MtR(X:Cx)(id:String)(r:V→List V→Hp→VK→Prop):Prop:=
 ∀(pins:List (Addr × Obj))(s:Shared)(σ:St)(H:Hp)(x:V)(xs:List V)(v:Value)(us:List Value)(Q:VK),Inv X pins σ H s→RelV x v→Vals xs us→r x xs H Q→
  wpAny (model X.prog X.w) X.A (call (.builtin id) (v::us)) (EP X pins σ Q) X.xe s
section
variable {X:Cx}{a b:Expr}{ta tb:TE}{pos:Pos}
theorem QT{r:R2}(hr:IxR X r)(ha:PE X a ta)(hb:PE X b tb)(hs:j8 b):PE X (.Subscript a b pos) (tOp r ta tb):=by
 intro pins s σ H Q I h
 exact Subscript_ (Qbe ha hb I h fun v u s2 x y H2 I2 rx ry q=>hr a b pins s2 σ H2 x y v u Q I2 rx ry q (hs _ _))
def Qch(K:PySem.W.Frag):R2:=fun x y H Q=>∃p xs i v,x=.ref p∧y=.int i∧SqL K H p xs∧atI xs i=some v∧Q v H
def Qci(K:PySem.W.Frag):R2:=fun x y H Q=>∃p xs i v,x=.ref p∧y=.int i∧SqT K H p xs∧atI xs i=some v∧Q v H
theorem Y7:IxR X (Qch X.K):=by
 intro value slice pins s σ H x y v u Q I rx ry h hs
 obtain⟨p,xs,i,z,rfl,rfl,hq,he,q⟩:=h
 cases rx
 obtain⟨t,rfl⟩:=ry
 obtain⟨its,r,pl,hz⟩:=I.list hq
 obtain⟨j,h1,h2,h3,h4,h5⟩:=j7 he
 obtain⟨w,ew,rw'⟩:=r.get h2
 have hl:=r.length
 have hn:=KP
 have fin:EP X pins σ Q w s:=⟨z,H,I,rw',q⟩
 by_cases h0:0≤i
 ·have hj:i.toNat=j:=by
   rw[seqIndex_of h0 h5]at h1
   exact Option.some.inj h1
  exact item_listR pl.isList h0 (by omega) (by rw[hj];simpa using ew) fin hs
 ·have hj:(i+(its.toArray.size:Int)).toNat=j:=by
   rw[seqIndex_neg (by omega) h4]at h1
   rw[List.size_toArray, ←hl]
   exact Option.some.inj h1
  exact subscriptTail_builtinR (x:=w) pl.isList.typeIs slot_list_getitem.lookup
   (wpAny_getItem_list_neg (Q:=fun r s'=>r=w∧EP X pins σ Q r s') pl.isList (by omega) (by rw[List.size_toArray]<;>omega) (by omega) (by rw[hj];simpa using ew) ⟨rfl,fin⟩) hs
theorem Ye:IxR X (Qci X.K):=by
 intro value slice pins s σ H x y v u Q I rx ry h hs
 obtain⟨p,xs,i,z,rfl,rfl,hq,he,q⟩:=h
 cases rx
 obtain⟨t,rfl⟩:=ry
 obtain⟨its,r,pl,hz⟩:=I.tuple hq
 obtain⟨j,h1,h2,h3,h4,h5⟩:=j7 he
 obtain⟨w,ew,rw'⟩:=r.get h2
 have hl:=r.length
 have hn:=KP
 have fin:EP X pins σ Q w s:=⟨z,H,I,rw',q⟩
 exact subscriptTail_builtinR (x:=w) pl.typeIs slot_tuple_getitem.lookup
  (getItem_tuple (j:=j) (Q:=fun r s'=>r=w∧EP X pins σ Q r s') pl (by omega) (by omega) (by rw[List.size_toArray, ←hl];exact h1) (by simpa using ew) ⟨rfl,fin⟩) hs
def ZB:V→Bool
 | .non=>true
 | .bl _=>true
 | .int _=>true
 | .str _=>true
 |_=>false
def eqV:V→V→Bool
 | .non,.non=>true
 | .bl a,.bl b=>a==b
 | .bl a,.int b=>(if a then 1 else 0)==b
 | .int a,.bl b=>a==(if b then 1 else 0)
 | .int a,.int b=>a==b
 | .str a,.str b=>a==b
 |_,_=>false
theorem wK{A:Around}{s:Shared}{y x:V}{u v:Value}(ry:RelV y u)(rx:RelV x v)(fy:ZB y=true)(fx:ZB x=true):SeqAt.EqAt A s u v (eqV y x):=by
 cases y with
 |non=>
  cases ry
  cases x with
  |non=>cases rx;exact SeqAt.EqAt.same _
  |bl b=>cases rx;exact SeqAt.EqAt.none_bool b
  |int b=>obtain⟨t,rfl⟩:=rx;exact SeqAt.EqAt.none_int b t
  |str b=>obtain⟨t,rfl⟩:=rx;exact SeqAt.EqAt.none_str b t
  |_=>exact absurd (show false=true from fx) Bool.false_ne_true
 |bl a=>
  cases ry
  cases x with
  |non=>cases rx;exact SeqAt.EqAt.bool_none a
  |bl b=>cases rx;exact SeqAt.EqAt.bool_bool a b
  |int b=>obtain⟨t,rfl⟩:=rx;exact SeqAt.EqAt.bool_int a b t
  |str b=>obtain⟨t,rfl⟩:=rx;exact SeqAt.EqAt.bool_str a b t
  |_=>exact absurd (show false=true from fx) Bool.false_ne_true
 |int a=>
  obtain⟨t',rfl⟩:=ry
  cases x with
  |non=>cases rx;exact SeqAt.EqAt.int_none a t'
  |bl b=>cases rx;exact SeqAt.EqAt.int_bool a t' b
  |int b=>obtain⟨t,rfl⟩:=rx;exact SeqAt.EqAt.int_int a t' b t
  |str b=>obtain⟨t,rfl⟩:=rx;exact SeqAt.EqAt.int_str a t' b t
  |_=>exact absurd (show false=true from fx) Bool.false_ne_true
 |str a=>
  obtain⟨t',rfl⟩:=ry
  cases x with
  |non=>cases rx;exact SeqAt.EqAt.str_none a t'
  |bl b=>cases rx;exact SeqAt.EqAt.str_bool a t' b
  |int b=>obtain⟨t,rfl⟩:=rx;exact SeqAt.EqAt.str_int a t' b t
  |str b=>obtain⟨t,rfl⟩:=rx;exact SeqAt.EqAt.str_str a t' b t
  |_=>exact absurd (show false=true from fx) Bool.false_ne_true
 |_=>exact absurd (show false=true from fy) Bool.false_ne_true
def eqU(x:V)(u:Value):Bool:=match u with
 | .none=>eqV .non x
 | .bool b=>eqV (.bl b) x
 | .int i _=>eqV (.int i) x
 | .str z _=>eqV (.str z) x
 |_=>false
theorem Yf{x y:V}{u:Value}(r:RelV y u)(f:ZB y=true):eqU x u=eqV y x:=by
 cases y with
 |non=>cases r;rfl
 |bl b=>cases r;rfl
 |int i=>obtain⟨t,rfl⟩:=r;rfl
 |str z=>obtain⟨t,rfl⟩:=r;rfl
 |_=>exact absurd (show false=true from f) Bool.false_ne_true
theorem KW{x:V}:∀{xs:List V}{us:List Value},Vals xs us→xs.all ZB=true→us.any (eqU x)=xs.any fun y=>eqV y x
 |_,_,.nil,_=>rfl
 |y::xs,u::us,.cons r t,f=>by
  rw[List.all_cons,Bool.and_eq_true]at f
  rw[List.any_cons,List.any_cons,Yf r f.1,KW t f.2]
theorem J1{A:Around}{s:Shared}{x:V}{v:Value}(rx:RelV x v)(fx:ZB x=true):∀{xs:List V}{us:List Value},Vals xs us→xs.all ZB=true→∀u∈us,SeqAt.EqAt A s u v (eqU x u)
 |_,_,.nil,_=>fun u hu=>by cases hu
 |y::xs,u::us,.cons r t,f=>fun u' hu=>by
  rw[List.all_cons,Bool.and_eq_true]at f
  rcases List.mem_cons.mp hu with rfl|hu
  ·rw[Yf r f.1];exact wK r rx f.1 fx
  ·exact J1 rx fx t f.2 u' hu
def inV(x:V)(xs:List V):Bool:=xs.any fun y=>eqV y x
def rIn(K:PySem.W.Frag)(neg:Bool):R2:=fun x y H Q=>∃p xs,y=.ref p∧(SqL K H p xs∨SqT K H p xs)∧ZB x=true∧xs.all ZB=true∧Q (.bl (if neg then !inV x xs else inV x xs)) H
theorem j9:OpR X (compareOp .In) (rIn X.K false):=by
 intro pins s σ H x y v u Q I rx ry h
 obtain⟨p,xs,rfl,hq,fx,fs,q⟩:=h
 cases ry
 rcases hq with hq|hq
 ·obtain⟨its,r,pl,hz⟩:=I.list hq
  refine SeqAt.in_listAt (eqU x) pl.isList (fun w hw=>J1 rx fx r fs w (by simpa using hw)) ⟨.bl _,H,I,rfl,?_⟩
  rw[show its.toArray.any (eqU x)=its.any (eqU x) by simp,KW r fs]
  exact q
 ·obtain⟨its,r,pl,hz⟩:=I.tuple hq
  refine SeqAt.in_tupleAt (eqU x) pl (fun w hw=>J1 rx fx r fs w (by simpa using hw)) ⟨.bl _,H,I,rfl,?_⟩
  rw[show its.toArray.any (eqU x)=its.any (eqU x) by simp,KW r fs]
  exact q
theorem Yh:OpR X (compareOp .NotIn) (rIn X.K true):=by
 intro pins s σ H x y v u Q I rx ry h
 obtain⟨p,xs,rfl,hq,fx,fs,q⟩:=h
 cases ry
 rcases hq with hq|hq
 ·obtain⟨its,r,pl,hz⟩:=I.list hq
  refine SeqAt.notIn_listAt (eqU x) pl.isList (fun w hw=>J1 rx fx r fs w (by simpa using hw)) ⟨.bl _,H,I,rfl,?_⟩
  rw[show its.toArray.any (eqU x)=its.any (eqU x) by simp,KW r fs]
  exact q
 ·obtain⟨its,r,pl,hz⟩:=I.tuple hq
  refine SeqAt.notIn_tupleAt (eqU x) pl (fun w hw=>J1 rx fx r fs w (by simpa using hw)) ⟨.bl _,H,I,rfl,?_⟩
  rw[show its.toArray.any (eqU x)=its.any (eqU x) by simp,KW r fs]
  exact q
theorem Qp:Xb X (.builtin "len") (fun xs H Q=>∃p ys,xs=[.ref p]∧(SqL X.K H p ys∨SqT X.K H p ys)∧Q (.int ys.length) H):=by
 intro pins s σ H xs us Q I r h
 obtain⟨p,ys,rfl,hq,q⟩:=h
 obtain⟨u,rfl,rx⟩:=vals1 r
 cases rx
 have hn:=KP
 rcases hq with hq|hq
 ·obtain⟨its,r',pl,hz⟩:=I.list hq
  have hlen:=r'.length
  exact Calls.call_len_list pl.isList (by simp only[List.size_toArray]<;>omega) ⟨.int ys.length,H,I.tok _,⟨s.toks+1,by rw[List.size_toArray,hlen]⟩,q⟩
 ·obtain⟨its,r',pl,hz⟩:=I.tuple hq
  have hlen:=r'.length
  exact len_tuple pl (by simp only[List.size_toArray]<;>omega) ⟨.int ys.length,H,I.tok _,⟨s.toks+1,by rw[List.size_toArray,hlen]⟩,q⟩
theorem Yi:Xb X (.builtin "len") (fun xs H Q=>∃z,xs=[.str z]∧z.length≤sizeLine∧Q (.int z.length) H):=by
 intro pins s σ H xs us Q I r h
 obtain⟨z,rfl,hz,q⟩:=h
 obtain⟨u,rfl,t,rfl⟩:=vals1 r
 have hn:=KP
 exact len_str (by omega) ⟨.int z.length,H,I.tok _,⟨_,rfl⟩,q⟩
theorem Ki:Xb X (.type "list") (fun xs H Q=>∃p ys,xs=[.ref p]∧(SqL X.K H p ys∨SqT X.K H p ys)∧∀l,H l=none→Q (.ref l) (upd H l (.lst ys))):=by
 intro pins s σ H xs us Q I r h
 obtain⟨p,ys,rfl,hq,q⟩:=h
 obtain⟨u,rfl,rx⟩:=vals1 r
 cases rx
 have fin:∀(its:List Value),Vals ys its→ys.length≤sizeLine→∀(h':Heap)(c':Nat),(∀b o',s.heap.get? b=some o'→h'.get? b=some o')→
   h'.get? s.heap.objs.size=some {cls:=.type "list",dict:=none,data:=.seq its.toArray c',slots:= #[]}→EP X pins σ Q (.ref s.heap.objs.size) {s with heap:=h'}:=fun its r' hz h' c' kp e=>
  ⟨.ref s.heap.objs.size,_,I.laid (t':=s.toks) kp (Nat.le_refl _) (show Q7 X.prog X.w _ h' _ (.lst ys)from⟨hz,its,c',r',e⟩),rfl,q _ (I.hok.fresh (Nat.le_refl _))⟩
 rcases hq with hq|hq
 ·obtain⟨its,r',pl,hz⟩:=I.list hq
  have hlen:=r'.length
  obtain⟨o,ho,hc,n,hd⟩:=pl.isList
  exact call_list_seq p (.inl rfl) ho hc hd (fun h' c' kp e=>fin its r' hz h' c' kp e) (by simp only[List.size_toArray]<;>omega)
 ·obtain⟨its,r',pl,hz⟩:=I.tuple hq
  have hlen:=r'.length
  obtain⟨o,ho,hc,n,hd⟩:=pl
  exact call_list_seq p (.inr rfl) ho hc hd (fun h' c' kp e=>fin its r' hz h' c' kp e) (by simp only[List.size_toArray]<;>omega)
theorem Qw:Xb X (.type "tuple") (fun xs H Q=>∃p ys,xs=[.ref p]∧((SqL X.K H p ys∧∀l,H l=none→Q (.ref l) (upd H l (.tup ys)))∨(SqT X.K H p ys∧Q (.ref p) H))):=by
 intro pins s σ H xs us Q I r h
 obtain⟨p,ys,rfl,h⟩:=h
 obtain⟨u,rfl,rx⟩:=vals1 r
 cases rx
 rcases h with⟨hq,q⟩|⟨hq,q⟩
 ·obtain⟨its,r',pl,hz⟩:=I.list hq
  have hlen:=r'.length
  refine call_tuple_list pl.isList (fun h' kp=>?_) (by simp only[List.size_toArray]<;>omega)
  have I1:Inv X pins σ H {s with heap:=h'}:=I.kept (t':=s.toks) kp
  have I2:Inv X pins σ (upd H h'.objs.size (.tup ys)) {s with heap:=h'.push {cls:=.type "tuple",data:=.seq its.toArray}}:=
   I1.laid (t':=s.toks) (fun b o e=>Heap.get?_push_of_some _ e) (Nat.le_refl _) (show Q7 X.prog X.w _ _ _ (.tup ys)from⟨hz,its,r',Ke.new _ _⟩)
  exact⟨.ref h'.objs.size,_,I2,rfl,q _ (I1.hok.fresh (Nat.le_refl _))⟩
 ·obtain⟨its,r',pl,hz⟩:=I.tuple hq
  exact call_tuple_same pl ⟨.ref p,H,I,rfl,q⟩
def tyV(K:PySem.W.Frag)(T:String)(x:V)(H:Hp):Prop:=match x with
 | .str _=>T="str"
 | .int _=>T="int"
 | .ref p=>(T="list"∧∃xs,SqL K H p xs)∨(T="tuple"∧∃o,K.lookup p=some o∧o.cls=.type "tuple"∧o.dict=none)∨
   (T="dict"∧((∃kvs,H p=some (.dK kvs))∨∃kvs,H p=some (.dT kvs)))∨(T="set"∧∃S n,H p=some (.set S n))∨(T="tuple"∧∃xs,H p=some (.tup xs))
 |_=>False
theorem yZ{pins:List (Addr × Obj)}{σ:St}{H:Hp}{s:Shared}{T:String}{x:V}{v:Value}(I:Inv X pins σ H s)(r:RelV x v)(ty:tyV X.K T x H):
  s.TypeIs v T∧∀a,v=.ref a→∃ob,s.heap.get? a=some ob∧ob.dict=none:=by
 cases x with
 |str z=>
  obtain⟨t,rfl⟩:=r
  cases(show T="str" from ty)
  exact⟨typeIs_str s z t,fun _ e=>nomatch e⟩
 |int i=>
  obtain⟨t,rfl⟩:=r
  cases(show T="int" from ty)
  exact⟨typeIs_int s i t,fun _ e=>nomatch e⟩
 |ref p=>
  cases r
  rcases ty with⟨rfl,xs,hq⟩|⟨rfl,o,hk,hc,hd⟩|⟨rfl,hk⟩|⟨rfl,S,n,hk⟩|⟨rfl,xs,hk⟩
  ·obtain⟨its,_,pl,_⟩:=I.list hq
   refine⟨pl.isList.typeIs,fun a e=>?_⟩
   cases e
   obtain⟨o,n,e,c,hd,_⟩:=pl
   exact⟨o,e,hd⟩
  ·refine⟨⟨o,I.kIn p o hk,hc⟩,fun a e=>?_⟩
   cases e
   exact⟨o,I.kIn _ o hk,hd⟩
  ·have z:∃o,s.heap.get? p=some o∧o.ExactDict:=by
    rcases hk with⟨kvs,hk⟩|⟨kvs,hk⟩
    ·obtain⟨_,_,_,_,o,_,_,e,ex,_⟩:=I.hok p _ hk
     exact⟨o,e,ex⟩
    ·obtain⟨_,_,_,_,o,_,_,e,ex,_⟩:=I.hok p _ hk
     exact⟨o,e,ex⟩
   obtain⟨o,e,ex⟩:=z
   refine⟨⟨o,e,ex.1⟩,fun a e2=>?_⟩
   cases e2
   exact⟨o,e,ex.2.1⟩
  ·obtain⟨o,_,_,_,e,ex,_⟩:=I.hok p _ hk
   refine⟨⟨o,e,ex.1⟩,fun a e2=>?_⟩
   cases e2
   exact⟨o,e,ex.2.1⟩
  ·obtain⟨_,its,_,o,h1,h2,n,h3,h4⟩:=(show Q7 X.prog X.w H s.heap p (.tup xs)from I.hok p _ hk)
   exact⟨⟨o,h1,h2⟩,fun a e=>by cases e;exact⟨o,h1,h4⟩⟩
 |_=>exact False.elim ty
def tBM(K:PySem.W.Frag)(T:String)(r:V→List V→Hp→VK→Prop)(to:TE)(t:TA):TE:=fun σ H Q=>to σ H fun x H1=>tyV K T x H1∧t σ H1 fun xs H2=>r x xs H2 Q
variable {o e:Expr}{es:List Expr}{to:TE}{t:TA}{name:Str}{apos cpos:Pos}{T id:String}{r:V→List V→Hp→VK→Prop}
theorem XT(pa:PlainAttrs T)(slot:Slot T name id)(hty:typeOf (.builtin id)=pure (.type "method_descriptor"))(hm:MtR X id r)(ho:PE X o to)(ha:PA X (e::es) t)
  (hbase:attributeBase o name X.env (eval o X.env)=eval o X.env:=by rfl)
  (hfew:((backTo cpos (starEach (e::es) X.env)).all (fun x=> !x.1)&&(backToKw cpos (keywordEach [] X.env)).all (fun x=>x.1.isSome)
   &&decide ((e::es).length+([]:List Keyword).length+(if([]:List Keyword).isEmpty then 0 else 1)<30))=true:=by rfl)
  (hline:(apos.endLine==cpos.line)=true:=by rfl) (hs:starEach (e::es) X.env=(false,eval e X.env)::starEach es X.env:=by rfl) (hplain:(backTo cpos (starEach es X.env)).any (·.1)=false:=by rfl):
  PE X (.Call (.Attribute o name apos) (e::es) [] cpos) (tBM X.K T r to t):=by
 intro pins s σ H Q I h
 refine wpAny_Call_method_late hbase hfew hline rfl (thn (ho pins s σ H _ I h) fun v s1⟨x,H1,I1,r1,ty,q1⟩=>?_)
 obtain⟨h1,h2⟩:=yZ I1 r1 ty
 refine⟨T,id,pa,slot,hty,h1,h2,?_⟩
 have hA:=ha cpos pins s1 σ H1 _ I1 q1
 rw[hs]at hA ⊢
 refine Calls.callWith_builtin (by show(false||(backTo cpos (starEach es X.env)).any (·.1))=false;rw[hplain]<;>rfl) (Calls.evalArgs_plain ?_)
 exact thn hA fun us s2⟨vs,H2,I2,r2,q2⟩=>hm pins s2 σ H2 x vs v us Q I2 r1 r2 q2
end
end L2
namespace L2
open PySem PySem.Spec PyProof.Rows
def MtM(X:Cx)(id:String)(r:V→List V→Hp→VK→Prop):Prop:=
 ∀(pins:List (Addr × Obj))(s:Shared)(σ:St)(H:Hp)(x:V)(xs:List V)(v:Value)(us:List Value)(Q:VK),Inv X pins σ H s→RelV x v→Vals xs us→r x xs H Q→
  wpAny (model X.prog X.w) X.A (call (.builtin id) (v::us)) (EP X pins σ Q) X.xe s
theorem Vals.one:∀{x:V}{us:List Value},Vals [x] us→∃u,us=[u]∧RelV x u
 |_,_,.cons r .nil=>⟨_,rfl,r⟩
theorem Vals.rep{xs:List V}{us:List Value}(h:Vals xs us):∀k:Nat,Vals (List.replicate k xs).flatten (List.replicate k us).flatten
 |0=>.nil
 |k+1=>by
  rw[List.replicate_succ,List.replicate_succ,List.flatten_cons,List.flatten_cons]
  exact Vals.append h (Vals.rep h k)
theorem foldl_rep(its:List Value):∀(k:Nat)(acc:List Value),
  List.foldl (fun x1 x2=>x1++x2) acc.toArray (List.replicate k its.toArray)=(acc++(List.replicate k its).flatten).toArray
 |0,acc=>by simp
 |k+1,acc=>by
  have e:acc.toArray++its.toArray=(acc++its).toArray:=by simp
  have e2:(acc++its)++(List.replicate k its).flatten=acc++(List.replicate (k+1) its).flatten:=by
   rw[List.replicate_succ,List.flatten_cons,List.append_assoc]
  rw[←e2, ←foldl_rep its k (acc++its), ←e,List.replicate_succ,List.foldl_cons]
section
variable {X:Cx}{pins:List (Addr × Obj)}{σ:St}{H:Hp}{s:Shared}{l b:Addr}{xs ys zs:List V}
theorem Inv.Qbk{its its':List Value}{n:Nat}{f:Array Value→Array Value}{t':Nat}(I:Inv X pins σ H s)(hH:H l=some (.lst xs))
  (e:s.heap.get? l=some {cls:=.type "list",data:=.seq its.toArray n}) (hf:f its.toArray=its'.toArray) (hv:Vals ys its') (hz:ys.length≤sizeLine):
  Inv X pins σ (upd H l (.lst ys)) {s with heap:=s.heap.update l (Obj.mapSeq f),toks:=t'}:=by
 have q:=PySem.IsL.update e f
 rw[hf]at q
 refine I.write (x:=l) (e:=l) (by rw[hH];exact trivial) (.inl rfl) (fun b' u hb hu=>(Heap.get?_update_other s.heap (Obj.mapSeq f) (Ne.symm hb)).trans hu) ⟨_,q⟩ ?_
 exact⟨hz,its',_,hv,q⟩
theorem Inv.QbW{its:List Value}{t':Nat}(I:Inv X pins σ H s)(hv:Vals ys its)(hz:ys.length≤sizeLine):
  Inv X pins σ (upd H s.heap.objs.size (.lst ys)) {s with heap:=s.heap.push {cls:=.type "list",data:=.seq its.toArray},toks:=t'}:=
 I.laid (fun _ _ q=>Heap.get?_push_of_some _ q) (Nat.le_refl _) ⟨hz,its,0,hv,Heap.get?_push_size _ rfl⟩
theorem Inv.fresh(I:Inv X pins σ H s):H s.heap.objs.size=none:=I.hok.fresh (Nat.le_refl _)
theorem Inv.x3(I:Inv X pins σ H s)(hH:H l=some (.lst xs)):xs.length≤sizeLine∧∃(its:List Value)(n:Nat),Vals xs its∧xs.length=its.length∧s.heap.get? l=some {cls:=.type "list",data:=.seq its.toArray n}:=by
 obtain⟨z,its,n,r,e⟩:=I.hok l _ hH
 exact⟨z,its,n,r,r.length,e⟩
theorem Ky{n:Nat}(h:n≤sizeLine):Builtin.List.listTooLong n=false:=by
 unfold Builtin.List.listTooLong
 exact decide_eq_false (by omega)
end
section
variable {X:Cx}
def vF:V→List V→Hp→VK→Prop:=fun x vs H Q=>∃l xs y,x=.ref l∧vs=[y]∧H l=some (.lst xs)∧xs.length<sizeLine∧Q .non (upd H l (.lst (xs++[y])))
theorem JT:MtM X "list.append" vF:=by
 intro pins s σ H x vs v us Q I rx rv h
 obtain⟨l,xs,y,rfl,rfl,hH,hz,q⟩:=h
 cases rx
 obtain⟨u,rfl,ru⟩:=rv.one
 obtain⟨z,its,n,r,hl,e⟩:=I.x3 hH
 refine call_meets F.slot_list_append ⟨_,e,rfl⟩ F.entry_list_append (F.args_list_append_2 _ _) (PySem.list_append l its.toArray n u (by rw[List.size_toArray];omega)) ⟨e,?_⟩
 refine⟨.non,_,I.Qbk (its':=its++[u]) hH e (by simp) (r.append (.cons ru .nil)) ?_,rfl,q⟩
 rw[List.length_append,List.length_singleton]
 omega
def vG:V→List V→Hp→VK→Prop:=fun x vs H Q=>∃l b xs zs,x=.ref l∧vs=[.ref b]∧H l=some (.lst xs)∧H b=some (.lst zs)∧xs.length+zs.length≤sizeLine∧Q .non (upd H l (.lst (xs++zs)))
theorem Yj:MtM X "list.extend" vG:=by
 intro pins s σ H x vs v us Q I rx rv h
 obtain⟨l,b,xs,zs,rfl,rfl,hH,hB,hz,q⟩:=h
 cases rx
 obtain⟨u,rfl,ru⟩:=rv.one
 cases ru
 obtain⟨z,its,n,r,hl,e⟩:=I.x3 hH
 obtain⟨z2,its2,n2,r2,hl2,e2⟩:=I.x3 hB
 have hsz:its.toArray.size+its2.toArray.size≤sizeLine:=by rw[List.size_toArray,List.size_toArray];omega
 have hlong:¬ (!its.toArray.isEmpty&&Builtin.List.listTooLong (its.toArray.size+its2.toArray.size))=true:=by
  rw[Ky hsz,Bool.and_false]
  exact Bool.false_ne_true
 refine call_meets F.slot_list_extend ⟨_,e,rfl⟩ F.entry_list_extend (F.args_list_extend_2 _ _)
  (AutoSeq1.list_extend_list_list_0 l its.toArray n b its2.toArray n2 hlong (by rw[List.size_toArray];omega) (by omega)) ⟨e,e2,?_⟩
 refine⟨.non,_,I.Qbk (its':=its++its2) hH e (by simp) (r.append r2) ?_,rfl,q⟩
 rw[List.length_append]
 omega
def QbX:R2:=fun x y H Q=>∃l b xs zs,x=.ref l∧y=.ref b∧H l=some (.lst xs)∧H b=some (.lst zs)∧xs.length+zs.length≤sizeLine∧∀p,H p=none→Q (.ref p) (upd H p (.lst (xs++zs)))
theorem Xu:OpR X (binaryOp .Add) QbX:=by
 intro pins s σ H x y v u Q I rx ry h
 obtain⟨l,b,xs,zs,rfl,rfl,hH,hB,hz,q⟩:=h
 cases rx
 cases ry
 obtain⟨z,its,n,r,hl,e⟩:=I.x3 hH
 obtain⟨z2,its2,n2,r2,hl2,e2⟩:=I.x3 hB
 refine PySem.P.add_list e e2 ?_ (by rw[List.size_toArray,List.size_toArray];omega)
 have ea:its.toArray++its2.toArray=(its++its2).toArray:=by simp
 rw[ea]
 exact⟨.ref _,_,I.QbW (t':=s.toks) (r.append r2) (by rw[List.length_append];omega),rfl,q _ I.fresh⟩
def Qcj:R2:=fun x y H Q=>∃l k xs,x=.ref l∧y=.int k∧H l=some (.lst xs)∧ -(2^63)≤k∧k<2^63∧xs.length*k.toNat≤sizeLine∧
 ∀p,H p=none→Q (.ref p) (upd H p (.lst (List.replicate k.toNat xs).flatten))
theorem len_rep{α:Type}(xs:List α)(k:Nat):(List.replicate k xs).flatten.length=k*xs.length:=by
 induction k with
 |zero=>simp
 |succ k ih=>rw[List.replicate_succ,List.flatten_cons,List.length_append,ih,Nat.succ_mul,Nat.add_comm]
theorem wL:OpR X (binaryOp .Mult) Qcj:=by
 intro pins s σ H x y v u Q I rx ry h
 obtain⟨l,k,xs,rfl,rfl,hH,h1,h2,hz,q⟩:=h
 cases rx
 obtain⟨t,rfl⟩:=ry
 obtain⟨z,its,n,r,hl,e⟩:=I.x3 hH
 have hlen:its.toArray.size*k.toNat≤sizeLine:=by rw[List.size_toArray, ←hl];exact hz
 have hcap:¬ its.toArray.size*k.toNat>(2^63-1)/8:=by
  have:(sizeLine:Nat)≤(2^63-1)/8:=by decide
  omega
 have hfit:¬ (!Builtin.List.listFitsIndex k)=true:=by
  rw[fitsIndex_both h1 h2]
  exact Bool.false_ne_true
 have hlong:¬ Builtin.List.listTooLong (its.toArray.size*k.toNat)=true:=by
  rw[Ky hlen]
  exact Bool.false_ne_true
 have hnew:List.foldl (fun x1 x2=>x1++x2) #[] (List.replicate (if its.toArray.isEmpty=true then 0 else k.toNat) its.toArray)=(List.replicate k.toNat its).flatten.toArray:=by
  have f0:∀m:Nat,List.foldl (fun x1 x2=>x1++x2) #[] (List.replicate m its.toArray)=(List.replicate m its).flatten.toArray:=fun m=>by
   have:=foldl_rep its m []
   rw[List.nil_append]at this
   exact this
  rw[f0]
  cases its with
  |nil=>simp
  |cons a r'=>rw[if_neg (by simp)]
 refine wpAny_binaryOp_repeat_ref (T:="list") (U:="int") (by decide) ⟨_,e,rfl⟩ (fun s'=>typeIs_int s' k t) noFill_list_mul F.fills_int_mul F.slot_int_rmul repeat_list F.slot_int_index.lookup
  (call_meets F.slot_int_rmul (typeIs_int s k t) F.entry_int_rmul (F.args_int_rmul_2 _ _) (int___rmul___int_list k t l its.toArray n)
   ⟨e,rfl,⟨_,e,rfl⟩,call_meets F.slot_list_mul ⟨_,e,rfl⟩ F.entry_list_mul (F.args_list_mul_2 _ _) (AutoListH.list___mul___list_int_3 l its.toArray n k t hfit hcap hlong) ⟨e,?_⟩⟩)
 rw[hnew]
 exact⟨.ref _,_,I.QbW (t':=s.toks) (r.rep k.toNat) (by rw[len_rep,Nat.mul_comm];exact hz),rfl,q _ I.fresh⟩
end
section
variable {prog:Program}{w:World}{A:Around}{E:Value→Shared→Prop}{s:Shared}
theorem za(its its2:List Value)(a c:Nat):its.toArray.extract 0 a++its2.toArray++its.toArray.extract c its.toArray.size=(its.take a++its2++its.drop c).toArray:=by
 apply Array.toList_inj.mp
 first
  |(simp
    exact List.take_of_length_le (by simp))
  |simp[List.take_of_length_le]
  |simp
end
section
variable {X:Cx}
end
end L2
namespace L2
open PySem PySem.Spec PyProof.Rows
section
variable {κ:Type}[DecidableEq κ]
def Y8(kvs:List (κ × V))(k:κ):Option V:=(kvs.find? fun kv=>decide (kv.1=k)).map (·.2)
def putK(kvs:List (κ × V))(k:κ)(v:V):List (κ × V):=
 if(kvs.any fun kv=>decide (kv.1=k))=true then kvs.map (fun kv=>if kv.1=k then(kv.1,v)else kv)else kvs++[(k,v)]
theorem JC{p:κ × V}{r:List (κ × V)}{k:κ}(e:p.1=k):Y8 (p::r) k=some p.2:=by simp[Y8,List.find?_cons,e]
theorem Jb{p:κ × V}{r:List (κ × V)}{k:κ}(e:¬ p.1=k):Y8 (p::r) k=Y8 r k:=by simp[Y8,List.find?_cons,e]
theorem U4(k:κ):∀kvs:List (κ × V),(kvs.any fun kv=>decide (kv.1=k))=(Y8 kvs k).isSome
 |[]=>rfl
 |p::r=>by
  rw[List.any_cons]
  by_cases e:p.1=k
  ·simp only[JC e,decide_eq_true e,Bool.true_or,Option.isSome_some]
  ·rw[Jb e,decide_eq_false e,Bool.false_or];exact U4 k r
theorem Xc(kvs:List (κ × V))(k:κ)(v:V):(putK kvs k v).length≤kvs.length+1:=by
 unfold putK
 split
 ·rw[List.length_map];omega
 ·rw[List.length_append,List.length_cons,List.length_nil];omega
theorem V1.zb{o:Option V}{u:Option Value}(r:V1 o u):o.isSome=u.isSome:=by
 cases o with
 |none=>cases u with
  |none=>rfl
  |some _=>exact(show False from r).elim
 |some _=>cases u with
  |none=>exact(show False from r).elim
  |some _=>rfl
theorem V1.getD{o:Option V}{u:Option Value}{d:V}{d':Value}(r:V1 o u)(rd:RelV d d'):RelV (o.getD d) (u.getD d'):=by
 cases o with
 |none=>cases u with
  |none=>exact rd
  |some _=>exact(show False from r).elim
 |some _=>cases u with
  |none=>exact(show False from r).elim
  |some _=>exact r
theorem KV.val{kvs:List (κ × V)}{vs:List (κ × Value)}(r:KV kvs vs)(k:κ):V1 (Y8 kvs k) (valueAt vs k):=by
 unfold KV at r
 induction r with
 |nil=>exact True.intro
 |@cons p q ps qs h t ih=>
  obtain⟨h1,h2⟩:=h
  by_cases e:p.1=k
  ·have e':q.1=k:=h1.symm.trans e
   have b:valueAt (q::qs) k=some q.2:=by simp[valueAt,List.find?_cons,e']
   rw[JC e,b];exact h2
  ·have e':¬ q.1=k:=fun z=>e (h1.trans z)
   have b:valueAt (q::qs) k=valueAt qs k:=by simp[valueAt,List.find?_cons,e']
   rw[Jb e,b];exact ih
theorem KV.any{kvs:List (κ × V)}{vs:List (κ × Value)}(r:KV kvs vs)(k:κ):(kvs.any fun kv=>decide (kv.1=k))=vs.any fun kv=>decide (kv.1=k):=by
 unfold KV at r
 induction r with
 |nil=>rfl
 |cons h t ih=>rw[List.any_cons,List.any_cons,ih,h.1]
theorem KV.Qbl{kvs:List (κ × V)}{vs:List (κ × Value)}(r:KV kvs vs)(k:κ){y:V}{u:Value}(ry:RelV y u):
  KV (kvs.map fun kv=>if kv.1=k then(kv.1,y)else kv) (vs.map fun kv=>if kv.1=k then(kv.1,u)else kv):=by
 unfold KV at r ⊢
 induction r with
 |nil=>exact .nil
 |@cons p q ps qs h t ih=>
  rw[List.map_cons,List.map_cons]
  refine .cons ?_ ih
  obtain⟨h1,h2⟩:=h
  by_cases e:p.1=k
  ·rw[if_pos e,if_pos (h1.symm.trans e)];exact⟨h1,ry⟩
  ·rw[if_neg e,if_neg (fun z=>e (h1.trans z))];exact⟨h1,h2⟩
theorem KV.put{kvs:List (κ × V)}{vs:List (κ × Value)}(r:KV kvs vs)(k:κ){y:V}{u:Value}(ry:RelV y u):KV (putK kvs k y) (stored vs k u):=by
 unfold putK stored
 rw[r.any k]
 by_cases e:(vs.any fun kv=>decide (kv.1=k))=true
 ·rw[if_pos e,if_pos e];exact r.Qbl k ry
 ·rw[if_neg e,if_neg e];exact Paired.snoc r ⟨rfl,ry⟩
theorem KV.length{kvs:List (κ × V)}{vs:List (κ × Value)}(r:KV kvs vs):kvs.length=vs.length:=Paired.length r
end
theorem zc{P:Program}{w:World}{k:Key}{u:Value}(r:RelV (kV k) u):(Q6 P w).is k u=true:=by
 cases k with
 |inl i=>obtain⟨t,e⟩:=(show ∃t,u=Value.int i t from r);subst e;exact YX P w i t
 |inr x=>obtain⟨t,e⟩:=(show ∃t,u=Value.str x t from r);subst e;exact YY P w x t
theorem Yk{P:Program}{w:World}:∀{ks:List Key}{us:List Value},Vals (ks.map kV) us→ItemsAre (Q6 P w) ks us
 |[],_,r=>by rw[List.map_nil]at r;cases r;exact .nil
 |k::ks,_,r=>by
  rw[List.map_cons]at r
  cases r with
  |cons h t=>exact .cons (zc h) (Yk t)
abbrev KT(H:Hp):List (List Key × V)→List (List Key × Addr × Value)→Prop:=Paired fun p q=>p.1=q.1∧H q.2.1=some (.tup (p.1.map kV))∧RelV p.2 q.2.2
theorem KT.val{H:Hp}{kvs:List (List Key × V)}{xs:List (List Key × Addr × Value)}(r:KT H kvs xs)(k:List Key):V1 (Y8 kvs k) ((atKey xs k).map (·.2)):=by
 induction r with
 |nil=>exact True.intro
 |@cons p q ps qs h t ih=>
  obtain⟨h1,_,h2⟩:=h
  by_cases e:p.1=k
  ·have e':q.1=k:=h1.symm.trans e
   have b:atKey (q::qs) k=some q.2:=by simp[atKey,List.find?_cons,e']
   rw[JC e,b];exact h2
  ·have e':¬ q.1=k:=fun z=>e (h1.trans z)
   have b:atKey (q::qs) k=atKey qs k:=by simp[atKey,List.find?_cons,e']
   rw[Jb e,b];exact ih
theorem KT.Qbl{H:Hp}{kvs:List (List Key × V)}{xs:List (List Key × Addr × Value)}(r:KT H kvs xs)(k:List Key){y:V}{u:Value}(ry:RelV y u):
  KT H (kvs.map fun kv=>if kv.1=k then(kv.1,y)else kv) (xs.map (putAt k u)):=by
 induction r with
 |nil=>exact .nil
 |@cons p q ps qs h t ih=>
  rw[List.map_cons,List.map_cons]
  refine .cons ?_ ih
  obtain⟨h1,h2,h3⟩:=h
  unfold putAt
  by_cases e:p.1=k
  ·rw[if_pos e,if_pos (h1.symm.trans e)];exact⟨h1,h2,ry⟩
  ·rw[if_neg e,if_neg (fun z=>e (h1.trans z))];exact⟨h1,h2,h3⟩
theorem KT.put{H:Hp}{kvs:List (List Key × V)}{xs:List (List Key × Addr × Value)}(r:KT H kvs xs)(k:List Key){b:Addr}{y:V}{u:Value}(hb:H b=some (.tup (k.map kV)))(ry:RelV y u):
  KT H (putK kvs k y) (storedH xs k b u):=by
 have e:(kvs.any fun kv=>decide (kv.1=k))=(atKey xs k).isSome:=by
  rw[U4,(r.val k).zb,Option.isSome_map]
 unfold putK storedH
 rw[e]
 by_cases q:(atKey xs k).isSome=true
 ·rw[if_pos q,if_pos q];exact r.Qbl k ry
 ·rw[if_neg q,if_neg q];exact Paired.snoc r ⟨rfl,hb,ry⟩
theorem KT.keeps{H H':Hp}{kvs:List (List Key × V)}{xs:List (List Key × Addr × Value)}(r:KT H kvs xs)(ht:∀b ys,H b=some (.tup ys)→H' b=some (.tup ys)):KT H' kvs xs:=
 Paired.Qa7 r fun _ _ z=>⟨z.1,ht _ _ z.2.1,z.2.2⟩
section
variable {P:Program}{w:World}{H:Hp}{h:Heap}{a:Addr}
theorem y0{u:HO}(ok:HOk P w H h)(e:Rd H a u):Q7 P w H h a u:=e.ok ok
theorem zd{kvs:List (Key × V)}(ok:HOk P w H h)(e:Rd H a (.dK kvs)):kvs.length≤sizeLine∧(a==sysModules)=false∧∃vs,KV kvs vs∧h.DictOf (Q6 P w) a vs:=
 show Q7 P w H h a (.dK kvs)from y0 ok e
theorem Qaa{kvs:List (Key × V)}(ok:HOk P w H h)(e:H a=some (.dK kvs)):kvs.length≤sizeLine∧(a==sysModules)=false∧∃vs,KV kvs vs∧h.DictOf (Q6 P w) a vs:=zd ok (.inl e)
theorem U5{ks:List Key}(ok:HOk P w H h)(e:H a=some (.tup (ks.map kV))):(tupleKind (Q6 P w)).is h ks a:=by
 obtain⟨_,its,r,o,h1,h2,n,h3,_⟩:=(show Q7 P w H h a (.tup (ks.map kV))from ok a _ e)
 exact⟨o,its.toArray,n,h1,h2,h3,by simpa using Yk r⟩
theorem ze{kvs:List (List Key × V)}(ok:HOk P w H h)(e:Rd H a (.dT kvs)):kvs.length≤sizeLine∧(a==sysModules)=false∧
  ∃xs,KT H kvs xs∧h.DictOfH (tupleKind (Q6 P w)) a xs:=by
 obtain⟨z,y,xs,r,o,es,ep,h1,h2,h3,h4,h5⟩:=(show Q7 P w H h a (.dT kvs)from y0 ok e)
 refine⟨z,y,xs,r,o,es,ep,h1,h2,h3,h4,fun x hx=>?_,h5⟩
 have all:∀{l:List (List Key × V)}{m:List (List Key × Addr × Value)},KT H l m→∀x∈m,(tupleKind (Q6 P w)).is h x.1 x.2.1:=by
  intro l m q
  induction q with
  |nil=>intro x hx;exact nomatch hx
  |@cons p q ps qs hq t ih=>
   intro x hx
   rcases List.mem_cons.mp hx with e|hx
   ·subst e
    exact U5 ok (by rw[←hq.1];exact hq.2.1)
   ·exact ih x hx
 exact all r x hx
theorem Qbm{kvs:List (List Key × V)}(ok:HOk P w H h)(e:H a=some (.dT kvs)):kvs.length≤sizeLine∧(a==sysModules)=false∧
  ∃xs,KT H kvs xs∧h.DictOfH (tupleKind (Q6 P w)) a xs:=ze ok (.inl e)
end
def U6(H:Hp)(a:Addr)(y:V)(r:Option V):Prop:=
 (∃kvs k,Rd H a (.dK kvs)∧y=kV k∧r=Y8 kvs k)∨∃kvs k b,Rd H a (.dT kvs)∧y=.ref b∧H b=some (.tup (k.map kV))∧r=Y8 kvs k
def zf(H:Hp)(a:Addr)(y v:V)(H':Hp):Prop:=
 (∃kvs k,H a=some (.dK kvs)∧y=kV k∧kvs.length<sizeLine∧H'=upd H a (.dK (putK kvs k v)))∨
 ∃kvs k b,H a=some (.dT kvs)∧y=.ref b∧H b=some (.tup (k.map kV))∧kvs.length<sizeLine∧H'=upd H a (.dT (putK kvs k v))
theorem U6.k{H:Hp}{a:Addr}{kvs:List (Key × V)}{k:Key}(e:H a=some (.dK kvs)):U6 H a (kV k) (Y8 kvs k):=.inl ⟨kvs,k,.inl e,rfl,rfl⟩
theorem zf.k{H:Hp}{a:Addr}{kvs:List (Key × V)}{k:Key}{v:V}(e:H a=some (.dK kvs))(hl:kvs.length<sizeLine):zf H a (kV k) v (upd H a (.dK (putK kvs k v))):=.inl ⟨kvs,k,e,rfl,hl,rfl⟩
section
variable {X:Cx}{pins:List (Addr × Obj)}{σ:St}{H:Hp}{s:Shared}{a:Addr}{y v:V}{u r:Value}{o:Option V}{A:Around}{E:Value→Shared→Prop}
theorem Inv.big(I:Inv X pins σ H s):sysModules<s.heap.objs.size:=by
 have h:mainGlobals<s.heap.objs.size:=(I.mod.glob.keeps I.bk).lt
 exact Nat.lt_trans (by decide) h
theorem zg{Q:Value→Shared→Prop}(hu:A.units+1<cLine)(I:Inv X pins σ H s)(g:U6 H a y (some v))(ry:RelV y u)(h:∀w' s',Inv X pins σ H s'→RelV v w'→Q w' s'):
  wpAny (model X.prog X.w) A (getItem (.ref a) u) Q E s:=by
 rcases g with⟨kvs,k,e,ey,l⟩|⟨kvs,k,b,e,ey,eb,l⟩
 ·subst ey
  obtain⟨z,hd,vs,rel,dd⟩:=zd I.hok e
  obtain⟨w',hw,rw'⟩:=V1.some_of (v:=v) (o:=valueAt vs k) (by rw[l];exact rel.val k)
  exact wpAny_getItem_of (zc ry) dd.mapOf hw (h w' _ (I.tok _) rw')
 ·subst ey
  cases(show u=Value.ref b from ry)
  obtain⟨z,hd,xs,rel,dd⟩:=ze I.hok e
  obtain⟨w',hw,rw'⟩:=V1.some_of (v:=v) (o:=(atKey xs k).map (·.2)) (by rw[l];exact rel.val k)
  obtain⟨p,hp,hp2⟩:=Option.map_eq_some_iff.mp hw
  refine wpAny_getItem_heap (tupleKind_room_in1 hu) (U5 I.hok eb) dd hp ?_
  rw[hp2]
  exact h w' _ (I.tok _) rw'
theorem Y9{h':Heap}{t':Nat}{ob:HO}(I:Inv X pins σ H s)(mu:Mut (H a))(hs:Heap.SameBut a s.heap h')(he:∃q,h'.get? a=some q) (new:Q7 X.prog X.w (upd H a ob) h' a ob):
  Inv X pins σ (upd H a ob) {s with heap:=h',toks:=t'}:=
 I.write (x:=a) (e:=a) mu (.inl rfl) (fun b q hb z=>(hs.2 b hb).trans z) he new
theorem wM{P:Program}{w:World}{H':Hp}{h':Heap}{kvs:List (Key × V)}{vs:List (Key × Value)}(z:kvs.length≤sizeLine)(hd:(a==sysModules)=false)(rel:KV kvs vs)(dd:h'.DictOf (Q6 P w) a vs):
  Q7 P w H' h' a (.dK kvs):=⟨z,hd,vs,rel,dd⟩
theorem Yl{H':Hp}{Q:Unit→Shared→Prop}(hu:A.units+1<cLine)(I:Inv X pins σ H s)(g:zf H a y v H')(ry:RelV y u)(rv:RelV v r)(h:∀s',Inv X pins σ H' s'→Q () s'):
  wpAny (model X.prog X.w) A (setItem (.ref a) u r) Q E s:=by
 rcases g with⟨kvs,k,e,ey,l,eH⟩|⟨kvs,k,b,e,ey,eb,l,eH⟩
 ·subst ey eH
  obtain⟨z,hd,vs,rel,dd⟩:=Qaa I.hok e
  have hz:vs.length≤sizeLine:=by rw[←rel.length];exact z
  have hl:(putK kvs k v).length≤sizeLine:=by have:=Xc kvs k v;omega
  refine wpAny_setItem_pairs (hsz:=hz) (zc ry) dd fun h' dd' hs=>h _ ?_
  have he:∃q,h'.get? a=some q:=let ⟨q,_,_,hq,_⟩:=dd';⟨q,hq⟩
  exact Y9 I (by rw[e];exact True.intro) hs he (wM hl hd (rel.put k rv) dd')
 ·subst ey eH
  cases(show u=Value.ref b from ry)
  obtain⟨z,hd,xs,rel,dd⟩:=Qbm I.hok e
  have hz:xs.length≤sizeLine:=by rw[←Paired.length rel];exact z
  have hl:(putK kvs k v).length≤sizeLine:=by have:=Xc kvs k v;omega
  refine wpAny_setItem_heap (hsz:=hz) (tupleKind_room_in1 hu) (U5 I.hok eb) dd fun h' dd' hs=>h _ ?_
  obtain⟨q,es,ep,hq,h2,h3,h4,_,h5⟩:=dd'
  refine Y9 I (by rw[e];exact True.intro) hs ⟨q,hq⟩ ⟨hl,hd,_,(rel.put k eb rv).keeps fun c ys ec=>?_,q,es,ep,hq,h2,h3,h4,h5⟩
  rw[Qi (vi ec e (fun z=>nomatch z))]
  exact ec
end
section
variable {X:Cx}{pins:List (Addr × Obj)}{σ:St}{H:Hp}{s:Shared}{a:Addr}{kvs:List (Key × V)}{k:Key}{u:Value}{A:Around}{E:Value→Shared→Prop}
end
def QbY(i:Expr):Prop:=∀ov iv,subscripted i false ov iv=operate [ov,iv] (getItem ov iv)
theorem vH{prog:Program}{w:World}{A:Around}{E:Value→Shared→Prop}{s:Shared}{env:Env}{value slice:Expr}{pos:Pos}{T id:String}{Q:Value→Shared→Prop}
  (hl:typeLookup (.type T) "__getitem__"=pure (some (.builtin id))) (hs:QbY slice)
  (h:wpAny (model prog w) A (eval value env) (fun o s₁=>wpAny (model prog w) A (eval slice env) (fun i s₂=>s₂.TypeIs o T∧wpAny (model prog w) A (getItem o i) Q E s₂) E s₁) E s):
  wpAny (model prog w) A (eval (.Subscript value slice pos) env) Q E s:=by
 refine Subscript_ (wpAny_mono h (fun o s₁ h₁=>wpAny_mono h₁ (fun i s₂ h₂=>?_) fun _ _ x=>x) fun _ _ x=>x)
 obtain⟨hT,h₂⟩:=h₂
 unfold subscriptTail
 refine wpAny_bind ?_
 rw[getitemInPython_of_ne hT.not_modules]
 refine wpAny_bind (wpAny_specialOf hT hl ?_)
 have fin:wpAny (model prog w) A (subscripted slice false o i) (fun r s₃=>wpAny (model prog w) A (letTemporaryGo value o r>>=fun _=>pure r) Q E s₃) E s₂:=by
  rw[hs o i]
  exact wpAny_operating (wpAny_mono h₂ (fun r s₃ h₃=>wpAny_bind (wpAny_letTemporaryGo (wpAny_pure h₃))) fun _ _ x=>x)
 first
  |exact wpAny_pure (wpAny_bind fin)
  |exact wpAny_bind (wpAny_pure (wpAny_bind fin))
  |exact wpAny_bind fin
theorem Ua{X:Cx}{pins:List (Addr × Obj)}{σ:St}{H:Hp}{s:Shared}{a:Addr}{y:V}{o:Option V}(I:Inv X pins σ H s)(g:U6 H a y o):s.TypeIs (.ref a) "dict":=by
 rcases g with⟨kvs,k,e,_,_⟩|⟨kvs,k,b,e,_,_,_⟩
 ·obtain⟨_,_,vs,_,dd⟩:=zd I.hok e
  exact dd.typeIs
 ·obtain⟨_,_,xs,_,dd⟩:=ze I.hok e
  exact dd.typeIs
def Qbn(td ty:TE):TE:=fun σ H Q=>td σ H fun x H1=>ty σ H1 fun y H2=>∃a v,x=.ref a∧U6 H2 a y (some v)∧Q v H2
def Qab(td ty tv:TE):TS:=fun D σ H=>tv σ H fun v H1=>td σ H1 fun x H2=>ty σ H2 fun y H3=>∃a H4,x=.ref a∧zf H3 a y v H4∧D.nx σ H4
section
variable {X:Cx}{o i e value:Expr}{pos pos' tpos:Pos}{td ty tv:TE}
theorem XU(hu:X.A.units+1<cLine)(ho:PE X o td)(hi:PE X i ty)(hs:QbY i):PE X (.Subscript o i pos) (Qbn td ty):=by
 intro pins s σ H Q I h
 refine vH PySem.F.slot_dict_getitem.lookup hs (thn (ho pins s σ H _ I h) fun u s1⟨x,H1,I1,rx,q1⟩=>thn (hi pins s1 σ H1 _ I1 q1) fun iv s2⟨y,H2,I2,ry,a,v,ex,g,q2⟩=>?_)
 subst ex
 obtain rfl:u=Value.ref a:=rx
 exact⟨Ua I2 g,zg hu I2 g ry fun w' s3 I3 rw'=>⟨v,H2,I3,rw',q2⟩⟩
theorem Ub(hu:X.A.units+1<cLine)(ho:PE X o td)(hi:PE X i ty)(hv:PE X value tv)(hs:swapsWith value (some (.Subscript o i pos')) pos.line X.env=pure false):
  PS X (.Assign [.Subscript o i pos'] value pos) (Qab td ty tv):=by
 intro pins s σ H D I h
 refine wpAny_Assign_Subscript (thn (hv pins s σ H _ I h) fun r s1⟨v,H1,I1,rv,q1⟩=>thn (ho pins s1 σ H1 _ I1 q1) fun u s2⟨x,H2,I2,rx,q2⟩=>thn (hi pins s2 σ H2 _ I2 q2) fun iv s3⟨y,H3,I3,ry,a,H4,ex,g,q3⟩=>?_) hs
 subst ex
 obtain rfl:u=Value.ref a:=rx
 exact Yl hu I3 g ry rv fun s4 I4=>⟨σ,H4,I4,q3⟩
end
theorem U7{P:Program}{w:World}{H:Hp}(h:Heap)(hb:sysModules<h.objs.size):Q7 P w H (h.push {cls:=.type "dict",data:=.dict #[]}) h.objs.size (.dK []):=
 ⟨Nat.zero_le _,beq_eq_false_iff_ne.mpr (Ne.symm (Nat.ne_of_lt hb)),[],.nil,Heap.DictOf.new h⟩
def wN:TE:=fun _ H Q=>∀p,H p=none→Q (.ref p) (upd H p (.dK []))
section
variable {X:Cx}{pos:Pos}
theorem kB:PE X (.Dict [] [] pos) wN:=fun pins s σ H Q I h=>
 wpAny_Dict_empty ⟨.ref s.heap.objs.size,_,I.laid (a:=s.heap.objs.size) (o:=.dK []) (t':=s.toks) (fun _ _ q=>Heap.get?_push_of_some _ q) (Nat.le_refl _) (U7 s.heap I.big),rfl,h _ (I.hok.fresh (Nat.le_refl _))⟩
end
def zh:List (TE × TE)→St→Hp→(List (V × V)→Hp→Prop)→Prop
 |[],_,H,Q=>Q [] H
 |(tk,tv)::r,σ,H,Q=>tk σ H fun x H1=>tv σ H1 fun y H2=>zh r σ H2 fun ps H3=>Q ((x,y)::ps) H3
abbrev VV:List (V × V)→List (Value × Value)→Prop:=Paired fun p q=>RelV p.1 q.1∧RelV p.2 q.2
def PPs(X:Cx)(pos:Pos)(keys:List (Option Expr))(values:List Expr)(trs:List (TE × TE)):Prop:=
 ∀(pins:List (Addr × Obj))(s:Shared)(σ:St)(H:Hp)(Q:List (V × V)→Hp→Prop),Inv X pins σ H s→zh trs σ H Q→
  wpAny (model X.prog X.w) X.A (evalPairs (pairTrees keys values X.env pos)) (fun vs s'=>∃ps H',Inv X pins σ H' s'∧VV ps vs∧Q ps H') X.xe s
theorem zi{X:Cx}{pos:Pos}:PPs X pos [] [] []:=fun pins s σ H Q I h=>pairTrees_nil_walk ⟨[],H,I,.nil,h⟩
theorem Vn{X:Cx}{pos:Pos}{k v:Expr}{ks:List (Option Expr)}{vs:List Expr}{tk tv:TE}{trs:List (TE × TE)}(hk:PE X k tk)(hv:PE X v tv)(hr:PPs X pos ks vs trs):
  PPs X pos (some k::ks) (v::vs) ((tk,tv)::trs):=fun pins s σ H Q I h=>
 pairTrees_cons_walk (thn (hk pins s σ H _ I h) fun u s1⟨x,H1,I1,rx,q1⟩=>thn (hv pins s1 σ H1 _ I1 q1) fun w2 s2⟨y,H2,I2,ry,q2⟩=>
  thn (hr pins s2 σ H2 _ I2 q2) fun ws s3⟨ps,H3,I3,rel,q3⟩=>⟨(x,y)::ps,H3,I3,.cons ⟨rx,ry⟩ rel,q3⟩)
def Kj(kvs more:List (Key × V)):List (Key × V):=more.foldl (fun acc kv=>putK acc kv.1 kv.2) kvs
theorem KV.merge:∀{more:List (Key × V)}{rs:List (Key × Value)}{kvs:List (Key × V)}{vs:List (Key × Value)},KV more rs→KV kvs vs→KV (Kj kvs more) (merged vs rs):=by
 intro more rs kvs vs r
 unfold KV at r
 induction r generalizing kvs vs with
 |nil=>intro q;exact q
 |@cons p q ps qs h t ih=>
  intro r0
  have e:KV (putK kvs p.1 p.2) (stored vs q.1 q.2):=by
   have:=r0.put p.1 h.2
   rw[←h.1];exact this
  exact ih e
theorem Xv:∀(more kvs:List (Key × V)),(Kj kvs more).length≤kvs.length+more.length
 |[],kvs=>by show kvs.length≤kvs.length+0;omega
 |p::r,kvs=>by
  have h1:=Xv r (putK kvs p.1 p.2)
  have h2:=Xc kvs p.1 p.2
  show(Kj (putK kvs p.1 p.2) r).length≤_
  rw[List.length_cons];omega
theorem W3{P:Program}{w:World}:∀{kvs:List (Key × V)}{ws:List (Value × Value)},VV (kvs.map fun kv=>(kV kv.1,kv.2)) ws→∃rs,Carries (Q6 P w) ws rs∧KV kvs rs
 |[],_,r=>by rw[List.map_nil]at r;cases r;exact⟨[],True.intro,.nil⟩
 |p::kvs,_,r=>by
  rw[List.map_cons]at r
  cases r with
  |@cons a b as bs h t=>
   obtain⟨rs,c,q⟩:=W3 (P:=P) (w:=w) t
   obtain⟨b1,b2⟩:=b
   exact⟨(p.1,b2)::rs,⟨zc h.1,rfl,c⟩,.cons ⟨rfl,h.2⟩ q⟩
def kC(trs:List (TE × TE)):TE:=fun σ H Q=>∀p,H p=none→zh trs σ (upd H p (.dK [])) fun ps H2=>H2 p=some (.dK [])∧∃kvs:List (Key × V),ps=kvs.map (fun kv=>(kV kv.1,kv.2))∧kvs.length≤15∧Q (.ref p) (upd H2 p (.dK (Kj [] kvs)))
theorem zk{X:Cx}{pos:Pos}{keys:List (Option Expr)}{values:List Expr}{trs:List (TE × TE)}(h:PPs X pos keys values trs)(hall:keys.all (·.isSome)=true)(hl:keys.length=values.length)(h0:keys≠[])
  (h15:keys.length≤15):PE X (.Dict keys values pos) (kC trs):=by
 intro pins s σ H Q I q
 have hn:=I.hok.fresh (Nat.le_refl s.heap.objs.size)
 have I1:=I.laid (a:=s.heap.objs.size) (o:=.dK []) (h':=s.heap.push {cls:=.type "dict",data:=.dict #[]}) (t':=s.toks) (fun _ _ q=>Heap.get?_push_of_some _ q) (Nat.le_refl _) (U7 s.heap I.big)
 refine wpAny_Dict_walk (knd:=Q6 X.prog X.w) hall hl h0 h15 (thn (h pins _ σ _ _ I1 (q _ hn)) fun ws s2⟨ps,H2,I2,rel,e,kvs,ep,lk,q2⟩=>?_)
 subst ep
 obtain⟨rs,c,rk⟩:=W3 (P:=X.prog) (w:=X.w) rel
 obtain⟨z,hd,vs0,r0,dd⟩:=Qaa I2.hok e
 cases r0
 refine⟨rs,c,dd,fun h' dd' hs=>⟨.ref s.heap.objs.size,_,?_,rfl,q2⟩⟩
 have hz:(Kj [] kvs).length≤sizeLine:=by
  have h1:=Xv kvs []
  rw[List.length_nil]at h1
  rw[sizeLine_eq];omega
 have he:∃q,h'.get? s.heap.objs.size=some q:=let ⟨q,_,_,hq,_⟩:=dd';⟨q,hq⟩
 exact Y9 I2 (by rw[e];exact True.intro) hs he (wM hz hd (rk.merge .nil) dd')
structure M2(X:Cx)(o:Expr)(m:Str)(apos:Pos)(e f:Expr)(cpos:Pos):Prop where
 base:attributeBase o m X.env (eval o X.env)=eval o X.env
 few:((backTo cpos (starEach [e,f] X.env)).all (fun x=> !x.1)&&(backToKw cpos (keywordEach [] X.env)).all (fun x=>x.1.isSome)
  &&decide (([e,f]:List Expr).length+([]:List Keyword).length+(if([]:List Keyword).isEmpty then 0 else 1)<30))=true
 line:(apos.endLine==cpos.line)=true
 trees:backTo cpos (starEach [e,f] X.env)=[(false,eval e X.env),(false,eval f X.env)]
def IsD(H:Hp)(a:Addr):Prop:=(∃kvs,Rd H a (.dK kvs))∨∃kvs,Rd H a (.dT kvs)
theorem Qac{X:Cx}{pins:List (Addr × Obj)}{σ:St}{H:Hp}{s:Shared}{a:Addr}(I:Inv X pins σ H s)(d:IsD H a):
  s.TypeIs (.ref a) "dict"∧(∀b,Value.ref a=.ref b→∃ob,s.heap.get? b=some ob∧ob.dict=none)∧(a==sysModules)=false:=by
 rcases d with⟨kvs,e⟩|⟨kvs,e⟩
 ·obtain⟨_,hd,vs,_,dd⟩:=zd I.hok e
  refine⟨dd.typeIs,fun b q=>?_,hd⟩
  cases q
  obtain⟨ob,_,_,h1,h2,_⟩:=dd
  exact⟨ob,h1,h2.2.1⟩
 ·obtain⟨_,hd,xs,_,dd⟩:=ze I.hok e
  refine⟨dd.typeIs,fun b q=>?_,hd⟩
  cases q
  obtain⟨ob,_,_,h1,h2,_⟩:=dd
  exact⟨ob,h1,h2.2.1⟩
section
variable {X:Cx}{pins:List (Addr × Obj)}{σ:St}{H:Hp}{s:Shared}{a:Addr}{y d:V}{u r:Value}{o:Option V}{A:Around}{E:Value→Shared→Prop}
theorem Qad{Q:Value→Shared→Prop}(hu:A.units+1<cLine)(I:Inv X pins σ H s)(g:U6 H a y o)(ry:RelV y u)(rd:RelV d r)(h:∀w' s',Inv X pins σ H s'→RelV (o.getD d) w'→Q w' s'):
  wpAny (model X.prog X.w) A (call (.builtin "dict.get") [.ref a,u,r]) Q E s:=by
 rcases g with⟨kvs,k,e,ey,l⟩|⟨kvs,k,b,e,ey,eb,l⟩
 ·subst ey
  obtain⟨z,hd,vs,rel,dd⟩:=zd I.hok e
  refine call_meetsIn PySem.F.slot_dict_get dd.typeIs PySem.F.entry_dict_get (PySem.F.args_dict_get_3 _ _ _) (meets_dict_get_default (Q6 X.prog X.w) a (zc ry) hd r) ⟨_,dd.mapOf,h _ _ (I.tok _) ?_⟩
  rw[l]
  exact(rel.val k).getD rd
 ·subst ey
  cases(show u=Value.ref b from ry)
  obtain⟨z,hd,xs,rel,dd⟩:=ze I.hok e
  refine call_meetsIn PySem.F.slot_dict_get dd.typeIs PySem.F.entry_dict_get (PySem.F.args_dict_get_3 _ _ _) (meetsH_dict_get_default (tupleKind (Q6 X.prog X.w)) a b hd r) ⟨tupleKind_room_in1 hu,k,xs,U5 I.hok eb,dd,h _ _ (I.tok _) ?_⟩
  rw[l]
  exact(rel.val k).getD rd
end
def Qae(td ty tx:TE):TE:=fun σ H Q=>td σ H fun x H1=>∃a,x=.ref a∧IsD H1 a∧ty σ H1 fun y H2=>tx σ H2 fun z H3=>∃o,U6 H3 a y o∧Q (o.getD z) H3
section
variable {X:Cx}{o e f:Expr}{apos cpos:Pos}{td ty tx:TE}
theorem kD(hu:X.A.units+1<cLine)(ho:PE X o td)(he:PE X e ty)(hf:PE X f tx)(m:M2 X o "get" apos e f cpos):PE X (.Call (.Attribute o "get" apos) [e,f] [] cpos) (Qae td ty tx):=by
 intro pins s σ H Q I h
 refine wpAny_Call_method m.base m.few m.line PySem.F.plainAttrs_dict PySem.F.slot_dict_get PySem.F.type_dict_get (thn (ho pins s σ H _ I h) fun u s1⟨x,H1,I1,rx,a,ex,d,q1⟩=>?_)
 subst ex
 obtain rfl:u=Value.ref a:=rx
 obtain⟨t1,t2,_⟩:=Qac I1 d
 refine⟨t1,t2,?_⟩
 rw[m.trees]
 refine Calls.callWith_builtin rfl (Calls.evalArgs_plain (Calls.spliced_cons (thn (he pins s1 σ H1 _ I1 q1) fun iv s2⟨y,H2,I2,ry,q2⟩=>
  Calls.spliced_cons (thn (hf pins s2 σ H2 _ I2 q2) fun fv s3⟨z,H3,I3,rz,ov,g,q3⟩=>Calls.spliced_nil ?_))))
 exact Qad hu I3 g ry rz fun w' s4 I4 rw'=>⟨_,H3,I4,rw',q3⟩
end
section
variable {X:Cx}{pins:List (Addr × Obj)}{σ:St}{H:Hp}{s:Shared}{a:Addr}{kvs:List (Key × V)}{A:Around}{E:Value→Shared→Prop}
end
section
variable {X:Cx}{pins:List (Addr × Obj)}{σ:St}{H:Hp}{s:Shared}{a:Addr}{y:V}{u:Value}{A:Around}{E:Value→Shared→Prop}
end
end L2
namespace Att
open PySem PySem.W PySem.Calls PyProof.Rows
theorem KY{P:Params}{h:Heap}:∀(ns:List Int)(vs:List Value),WellAll P h vs (ns.map WData.int)→IntsAre vs ns:=by
 intro ns
 induction ns with
 |nil=>
  intro vs w
  rw[List.map_nil]at w
  cases w
  exact .nil
 |cons n ns ih=>
  intro vs w
  rw[List.map_cons]at w
  cases w with
  |cons a b=>
   cases a
   exact .cons _ _ (ih _ b)
theorem zl{l:OpenLaw}{n:Nat}(hn:l.most=some n){P:Params}{h:Heap}{args:List WData}{vals:List Value}
  (hpre:l.row.toRowW.claim.pre args=true) (hwl:WellAll P h vals args):
  ∃a vs ns,vals=[Value.ref a]∧args=[WData.list (ns.map WData.int)]∧h.get? a=some {cls:=.type "list",data:=.seq vs.toArray}∧IntsAre vs ns∧ns.length≤n:=by
 have hsh:WShape.hasAll [] args [.list .int]=true:=(pre_splitW hpre).1
 have hc:l.pre.holds [] {args:=args}=true:=(pre_splitW hpre).2
 obtain⟨d,r,rfl,h1,h2⟩:=hasAllW_cons hsh
 obtain rfl:=hasAllW_nil h2
 obtain⟨xs,rfl,h3⟩:=hasW_list h1
 obtain⟨ns,rfl⟩:=items_int h3
 have hlen:ns.length≤n:=by
  unfold OpenLaw.pre at hc
  have h4:(WTm.not (.lt (.lit (.int (n:Int))) (.len (.arg 0)))).holds [] {args:=[.list (ns.map .int)]}=true:=by
   have h4:=(holds_andW hc).1
   rw[hn]at h4
   exact h4
  have h5:=condW_of h4 (w_not (w_lt w_lit (w_len_list (w_arg rfl))))
  rw[List.length_map]at h5
  refine Nat.le_of_not_lt fun q=>?_
  have q':(n:Int)<((ns.length:Nat):Int):=by omega
  first
   |(rw[decide_eq_true q']at h5;exact absurd h5 (by decide))
   |(simp at h5;omega)
 cases hwl with
 |cons w1 w2=>
  cases w2
  cases w1 with
  |list ho hall=>exact⟨_,_,ns,rfl,rfl,ho,KY ns _ hall,hlen⟩
theorem zm(l:OpenLaw)(args:List WData):l.row.toRowW.claim.post args (.bool true) args=true:=
 postW_of (r:=l.row.toRowW) (X:=(true==true))
  (show WShape.has [] (.bool true) .bool=true by first|rfl|decide|simp[WShape.has,WShape.arms,WShape.armsAll])
  (show(WTm.eq .res (.lit (.bool true))).value [] {args:=args,res:=some (.bool true),after:=args}=some (.bool (true==true))from w_eq_bool (w_res rfl) w_lit) rfl
theorem Uc{l:OpenLaw}{n:Nat}{q:Program}{loose:List Str}{XP:(Str→Option Value)→Heap→Prop}{YP:World→Heap→Prop}{d:DefRec}
  (hn:l.most=some n) (hdf:d.params.defaults=[])
  (call:∀(w:World)(s₀ s₁:Shared)(mg mb:Str→Option Value)(fa:Addr)(o:Obj)(pm cd doc:Value)(a:Addr)(vs:List Value)(ns:List Int),
   Ground q loose [] XP w s₀ mg mb s₁.heap→YP w s₁.heap→
   s₁.heap.get? fa=some o→o.data=.func (docDef d.name d.params d.body d.scope pm cd doc)→s₁.heap.CodeRec cd d.name→mg d.name=some (.ref fa)→
   s₁.heap.get? a=some {cls:=.type "list",data:=.seq vs.toArray}→IntsAre vs ns→ns.length≤n→s₁.gens= #[]→
   codeAny (model l.prog w) callerA (.call (.ref fa) ⟨[.ref a],[]⟩) (fun r s'=>r=.ok (.ret (.bool true))∧OldK s₁.heap s'.heap∧s'.os=s₁.os∧AllBare s'.gens) s₁):
  WalkO q loose XP YP l.row.toRowW d [] (fun f vs=>PySem.call f vs):=by
 intro w s₀ s₁ mg mb G Y fa o pm cd doc dV kV ho hd hcd hD hmg hg args vals as hpre hlay hrd hwl hlo
 obtain rfl:dV=.none:=Dflts.none hD hdf
 obtain rfl:kV=.none:=Dflts.noKw hD
 obtain⟨a,vs,ns,rfl,rfl,hobj,hints,hlen⟩:=zl hn hpre hwl
 refine enter_call (codeAny_mono (call w s₀ s₁ mg mb fa o pm cd doc a vs ns G Y ho (fd_plain hd) hcd hmg hobj hints hlen hg) fun r s' hq=>?_)
 obtain⟨rfl,h2,h3,h4⟩:=hq
 exact⟨.inl ⟨.bool true,.bool true,[],rfl,fun _=>rfl,.bool true,zm l _,fun _=>⟨List.Pairwise.nil,fun _ hm=>(nomatch hm)⟩⟩,h2,h3,h4⟩
section
variable {prog:Program}{w:World}{A:Around}{E:Value→Shared→Prop}{s:Shared}{K:Frag}
end
end Att
namespace L2
open PySem PySem.Spec PyProof.Rows
theorem Ym:∀{vs:List Value}{ns:List Int},IntsAre vs ns→Vals (ns.map V.int) vs
 |_,_,.nil=>.nil
 |_,_,.cons n t h=>.cons ⟨t,rfl⟩ (Ym h)
end L2
namespace L2
open PySem PySem.Spec PyProof.Rows
end L2
namespace L2
open PySem PySem.Spec PyProof.Rows
def inClass(s:Stmt)(j:Nat):Stmt:=match s with
 | .ClassDef _ _ _ body _ _ _ _ _ _ _=>body.getD j (.Pass ⟨0,0,0,0⟩)
 |_=>.Pass ⟨0,0,0,0⟩
def Je(s:Stmt):Arguments:=match s with
 | .FunctionDef _ a _ _ _ _ _ _ _ _=>a
 |_=>{posonlyargs:=[],args:=[],vararg:=none,kwonlyargs:=[],kw_defaults:=[],kwarg:=none,defaults:=[]}
def QM(s:Stmt):List Stmt:=match s with
 | .FunctionDef _ _ b _ _ _ _ _ _ _=>b
 |_=>[]
def Qd(s:Stmt):Scope:=match s with
 | .FunctionDef _ _ _ _ _ _ sc _ _ _=>sc
 |_=>{kind:=.function,names:=[],isGenerator:=false,isCoroutine:=false}
abbrev E0:XK:=fun _ _ _=>False
structure Fun(K:PySem.W.Frag)(x qual:Str)(st:Stmt)(f:Addr)(fd:FuncData):Prop where
 ex:∃(oc:Value)(od:Option Addr)(kV doc pm:Value)(an:Option Addr)(cdv ct:Value)(osl:Array (Option Value)),
  fd=PySem.W.fnOf x qual (Je st) (QM st) (Qd st) .none kV doc pm an cdv ct∧K.lookup f=some ⟨oc,od,.func fd,osl⟩∧PySem.W.codeIn K cdv qual=true
 kp:PySem.W.keepIn K (.ref f)=true
section
variable {P:Program}{w:World}{K:PySem.W.Frag}{mg:Str→Option Value}{base:Heap}
theorem Fun.binds{x qual:Str}{st:Stmt}{f:Addr}{fd:FuncData}{ps:List Str}(F:Fun K x qual st f fd)
  (h:∀(kV doc pm:Value)(an:Option Addr)(cdv ct:Value)(us:List Value),us.length=ps.length→bindArgs (PySem.W.fnOf x qual (Je st) (QM st) (Qd st) .none kV doc pm an cdv ct) ⟨us,[]⟩=pure (ps.zip us)):Binds K fd ps []:=by
 obtain⟨oc,od,kV,doc,pm,an,cdv,ct,osl,rfl,lk,hcd⟩:=F.ex
 exact .all (h kV doc pm an cdv ct)
end
theorem Qaf{A:Around}{k:Nat}(hr:Room k A):A.units+1<cLine:=Nat.lt_of_le_of_lt (Nat.add_le_add_left (by decide:1≤64) _) hr.units
section
variable {X:Cx}
theorem pv(i:Nat){x:Str}{pos:Pos}(hN:X.N[i]? =some x:=by rfl)(hv:Vis X.env.scope x:=by first|exact Or.inl rfl|exact Or.inr (Or.inl rfl)|exact Or.inr (Or.inr rfl))(hd:(x==("__debug__":Str))=false:=by decide)
  (hcd:(x==("__classdict__":Str))=false:=by decide):PE X (.Name x pos) (WV i):=wD hN hv hd hcd
end
theorem Jx{A B:Prop}(h:B):if false=true then A else B:=by
 rw[if_neg Bool.false_ne_true]
 exact h
theorem Q3{A B:Prop}(h:A):if true=true then A else B:=by
 rw[if_pos rfl]
 exact h
def Qg(H H':Hp):Prop:=∀b o,H b=some o→H' b=some o
theorem Qg.refl(H:Hp):Qg H H:=fun _ _ h=>h
theorem Qg.trans{H H1 H2:Hp}(a:Qg H H1)(b:Qg H1 H2):Qg H H2:=fun c o h=>b c o (a c o h)
theorem Qg.free{H H':Hp}(e:Qg H H'){l:Addr}(h:H' l=Option.none):H l=Option.none:=by
 cases q:H l with
 |none=>rfl
 |some o=>
  rw[e l o q]at h
  cases h
end L2
namespace L2
open PySem PySem.Spec PyProof.Rows
section
variable {X:Cx}
end
section
variable {κ:Type}[DecidableEq κ]
end
end L2
set_option Elab.async false
set_option linter.all false
set_option maxRecDepth 100000
namespace L2
open PySem PySem.Spec PyProof.Rows
theorem Q7.ex{P:Program}{w:World}{H:Hp}{h:Heap}{a:Addr}{o:HO}(x:Q7 P w H h a o):∃ob,h.get? a=some ob:=by
 cases o with
 |lst xs=>obtain⟨_,_,_,_,e⟩:=x;exact⟨_,e⟩
 |tup xs=>obtain⟨_,_,_,ob,e,_⟩:=x;exact⟨_,e⟩
 |dK kvs=>obtain⟨_,_,_,_,o,_,_,e,_⟩:=x;exact⟨_,e⟩
 |dT kvs=>obtain⟨_,_,_,_,o,_,_,e,_⟩:=x;exact⟨_,e⟩
 |set S n=>obtain⟨o,_,_,_,e,_⟩:=x;exact⟨_,e⟩
 |ins C dx fs=>obtain⟨_,_,_,e,_⟩:=x;exact⟨_,e⟩
 |own y=>exact x
 |xd fs=>obtain⟨_,⟨_,_,_,e,_⟩,_⟩:=x;exact⟨_,e⟩
 |rng lo hi=>obtain⟨_,_,_,e⟩:=x;exact⟨_,e⟩
 |frz ob u=>obtain⟨e,_⟩:=x;exact⟨_,e⟩
 |tbl ps=>exact⟨_,(show h.get? a=some _ from x)⟩
 |met f y=>exact⟨_,(show h.get? a=some _ from x)⟩
 |ext φ=>obtain⟨_,e,_⟩:=x;exact e
def vI(h:Heap)(e T:Addr)(cls:Value):Prop:=
 ∃oe vs oT ts a0,h.get? e=some oe∧oe.cls=cls∧oe.data=.fields vs∧vs[0]? =some a0∧vs[1]? =some (.ref T)∧T≠e∧h.get? T=some oT∧oT.data=.fields ts∧ts[3]? =some .none
def CXE(P:Program)(w:World):CXT:=fun outer H s E e s'=>
 ∃a T cls H',e=.ref a∧vI s'.heap a T cls∧s.heap.get? a=none∧s.heap.get? T=none∧H' a=none∧H' T=none∧s'.os=s.os∧AllBare s'.gens∧
  Un (frs outer) [] H H' s.heap s'.heap∧HOk P w H' s'.heap∧E cls none H'
theorem Qn{P:Program}{w:World}{X:Cx}:Passes (CXE P w) X E0:=fun _ _ _ _ _ _ _⟨_,_,_,_,_,_,_,_,_,_,_,_,_,_,h⟩=>h.elim
section
variable {X:Cx}{pins:List (Addr × Obj)}{σ:St}{H:Hp}{s:Shared}
theorem Yn{E:XK}{a:Addr}{cls a0:Value}{ys:List Addr}{h'':Heap}(I:Inv X pins σ H s)(hex:X.ex=[])(hstk:X.stack=X.env::X.outer)
  (hys:∀y∈ys,H y=none∧X.s₀.heap.get? y=none) (ha:H a=none) (ha0:X.s₀.heap.get? a=none)
  (fl:Heap.FlyingW (PySem.W.hideAll s.heap (frs X.stack++ys)) X.outer a cls a0 h'') (up:∀b∈frs X.stack,∀o,s.heap.get? b=some o→(∀vs,o.data≠ .fields vs)→∃sl,h''.get? b=some {o with slots:=sl}) (hE:E cls none H):
  CXE X.prog X.w X.outer X.H₀ X.s₀ E (.ref a) {s with heap:=h''}:=by
 obtain⟨f1,f2,f3,oe,vs,T,oT,ts,t1,⟨t2,t3⟩,t4,t5,t6,t7,t8,t9,t10⟩:=fl
 have nex:∀b:Addr,b∉X.ex:=fun b hb=>by rw[hex]at hb;cases hb
 have inB:∀b o,s.heap.get? b=some o→b∉frs X.stack→b∉ys→h''.get? b=some o:=fun b o e n1 n2=>
  f1 b o (PySem.W.hideAll_get _ e fun hm=>(List.mem_append.mp hm).elim n1 n2)
 have fr:∀b∈frs X.stack,∃o,s.heap.get? b=some o∧∀vs,o.data≠ .fields vs:=fun b hb=>(I.stack.mem hb).2
 have old:∀b o,X.s₀.heap.get? b=some o→b∉ys:=fun b o e hb=>by rw[(hys b hb).2]at e;cases e
 have notF:∀b,b∈frs X.stack→b∈X.env.locals::X.fs:=I.Xp
 have neL:∀b o,X.s₀.heap.get? b=some o→b≠X.env.locals:=fun b o e=>Nat.ne_of_lt (Nat.lt_of_lt_of_le (Heap.lt_size e) I.ok.above)
 have noT:∀o,s.heap.get? T=some o→T∉ys→False:=fun o e n2=>by
  by_cases hf:T∈frs X.stack
  ·obtain⟨o2,e2,d2⟩:=fr T hf
   obtain⟨sl,e3⟩:=up T hf o2 e2 d2
   rw[t8]at e3
   cases e3
   exact d2 _ t9
  ·have:=PySem.W.hideAll_get (frs X.stack++ys) e fun hm=>(List.mem_append.mp hm).elim hf n2
   rw[t6]at this
   cases this
 refine⟨a,T,cls,H,rfl,⟨oe,vs,oT,ts,a0,t1,t2,t4,t3,t5,t7,t8,t9,t10⟩,ha0,?_,ha,?_,I.os,I.bare,⟨fun b o e n hb hx=>?_,fun b o e n hb hx=>?_,fun b o e n hx=>I.base.free b o e n (nex b),fun b o e hx=>?_,I.base.Zq,I.base.frzs,I.base.tbls⟩,fun b o e=>?_,hE⟩
 ·cases q:X.s₀.heap.get? T with
  |none=>rfl
  |some o=>
   obtain⟨o',e'⟩:=I.base.there T o q (nex T)
   exact(noT o' e' (old T o q)).elim
 ·cases q:H T with
  |none=>rfl
  |some u=>
   obtain⟨ob,e⟩:=(I.hok T u q).ex
   exact(noT ob e fun hm=>by rw[(hys T hm).1]at q;cases q).elim
 ·refine inB b o (I.base.keep b o e n hb (nex b)) (fun hm=>?_) (old b o e)
  rcases List.mem_cons.mp (notF b hm)with z|z
  ·exact neL b o e z
  ·exact hb z
 ·obtain⟨sl,e1⟩:=I.base.slot b o e n hb (nex b)
  have hm:b∈frs X.stack:=by rw[hstk];unfold frs;rw[List.filterMap_cons];split<;>first|exact hb|exact List.mem_cons_of_mem _ hb
  obtain⟨o2,e2,d2⟩:=fr b hm
  rw[e1]at e2
  cases e2
  obtain⟨sl',e3⟩:=up b hm _ e1 d2
  exact⟨sl',e3⟩
 ·obtain⟨o',e1⟩:=I.base.there b o e (nex b)
  by_cases hm:b∈frs X.stack
  ·obtain⟨o2,e2,d2⟩:=fr b hm
   obtain⟨sl',e3⟩:=up b hm _ e2 d2
   exact⟨_,e3⟩
  ·exact⟨o',inB b o' e1 hm (old b o e)⟩
 ·refine(I.hok b o e).YZ (fun c u hc q=>inB c u q (fun hm=>?_) fun hm=>?_) (fun _ q=>q) fun _ _ q=>q
  ·have z:=I.Z8 c hm
   rcases hc with rfl|hc
   ·rw[e]at z;cases z
   ·rw[hc]at z;cases z
  ·have z:=(hys c hm).1
   rcases hc with rfl|hc
   ·rw[e]at z;cases z
   ·rw[hc]at z;cases z
theorem Xd(I:Inv X pins σ H s)(ys:List Addr):s.heap.FunFrames (PySem.W.hideAll s.heap (frs X.stack++ys)) X.stack:=
 PySem.W.funFrames_hide I.stack fun env he a hf=>List.mem_append_left _ (List.mem_filterMap.mpr ⟨env,he,hf⟩)
end
def Qag(X:Cx)(E:XK):Prop:=∀(pins:List (Addr × Obj))(σ:St)(H:Hp)(s:Shared)(h':Heap)(a:Addr)(cls:Value)(args:List Value),
 Inv X pins σ H s→Heap.MadeExcOf s.heap h' a cls args→E cls none H→X.xe (.ref a) {s with heap:=h'}
structure Fram(X:Cx)(E:XK):Prop where
 ex:X.ex=[]
 stk:X.stack=X.env::X.outer
 fr:X.env.frame=some X.env.locals
 xe:∀e s',wpAny (model X.prog X.w) X.A (leaving X.env e) (fun _ s''=>CXE X.prog X.w X.outer X.H₀ X.s₀ E e s'') (fun e' s''=>CXE X.prog X.w X.outer X.H₀ X.s₀ E e' s'') s'→X.xe e s'
theorem Ud{P:Program}{w:World}{K:PySem.W.Frag}{mg:Str→Option Value}{base:Heap}{N:List Str}{qual:Str}{scope:Scope}{f:Addr}{cd:Value}{A:Around}{outer:List Env}{s:Shared}{H:Hp}{E:XK}:
  Fram (Vk (CXE P w) P w K mg base N qual scope f cd A outer s H E) E:=⟨rfl,rfl,rfl,fun _ _ h=>h⟩
section
variable {X:Cx}{E:XK}
theorem Yo(F:Fram X E):Qag X E:=by
 intro pins σ H1 s1 h' a cls args I hx hE
 have nex:∀b:Addr,b∉X.ex:=fun b hb=>by rw[F.ex]at hb;cases hb
 refine F.xe _ _ ?_
 have ff:s1.heap.FunFrames (PySem.W.hideAll s1.heap (frs X.stack++[])) (X.env::X.outer):=by
  have z:=Xd I []
  rw[F.stk]at z ⊢
  exact z
 refine wpAny_leaves_madeW (s:={s1 with heap:=h'}) (h:=s1.heap) (base:=PySem.W.hideAll s1.heap (frs X.stack++[])) (by rw[←F.stk];exact I.ok.frames) F.fr
  (fun b o q=>PySem.W.of_hideAll _ q) ff hx fun h'' t fl _ _ up=>?_
 refine Yn (s:=s1) (ys:=[]) I F.ex F.stk (fun y hy=>nomatch hy) ?_ ?_ fl (fun b _ o e d=>?_) hE
 ·cases q:H1 a with
  |none=>rfl
  |some u=>
   obtain⟨ob,e⟩:=(I.hok a u q).ex
   have:=hx.new
   rw[e]at this
   cases this
 ·cases q:X.s₀.heap.get? a with
  |none=>rfl
  |some o=>
   obtain⟨o',e'⟩:=I.base.there a o q (nex a)
   have:=hx.new
   rw[e']at this
   cases this
 ·exact up b o (hx.keeps b o e) d
theorem JN(F:Fram X E):Passes (CXE X.prog X.w) X E:=by
 intro pins σ H1 s1 e s' I h
 obtain⟨a,T,cls,H',rfl,⟨oe,vs,oT,ts,a0,t1,t2,t3,t4,t5,t6,t7,t8,t9⟩,n1,n2,ha,hT,os,bare,un,hok,hE⟩:=h
 have nex:∀b:Addr,b∉X.ex:=fun b hb=>by rw[F.ex]at hb;cases hb
 have I':Inv X pins σ H' s':=I.jO os un hok bare fun b hb=>nomatch hb
 have old:∀b,s1.heap.get? b=none→X.s₀.heap.get? b=none:=fun b hb=>by
  cases q:X.s₀.heap.get? b with
  |none=>rfl
  |some o=>
   obtain⟨o',e'⟩:=I.base.there b o q (nex b)
   rw[hb]at e'
   cases e'
 refine F.xe _ _ ?_
 have ff:s'.heap.FunFrames (PySem.W.hideAll s'.heap (frs X.stack++[a,T])) (X.env::X.outer):=by
  have z:=Xd I' [a,T]
  rw[F.stk]at z ⊢
  exact z
 refine wpAny_leaves_onW (base:=PySem.W.hideAll s'.heap (frs X.stack++[a,T])) (cls:=cls) (a0:=a0) (by rw[←F.stk];exact I.ok.frames) F.fr
  ⟨fun b o q=>PySem.W.of_hideAll _ q,PySem.W.hideAll_none _ (List.mem_append_right _ (by simp)),ff,oe,vs,T,oT,ts,t1,⟨t2,t4⟩,t3,t5,PySem.W.hideAll_none _ (List.mem_append_right _ (by simp)),t6,t7,t8,t9⟩
  fun h'' fl up=>?_
 refine Yn I' F.ex F.stk (fun y hy=>?_) ha (old a n1) fl (fun b _ o e d=>up b o e d) hE
 rcases List.mem_cons.mp hy with rfl|hy
 ·exact⟨ha,old _ n1⟩
 ·obtain rfl:=List.mem_singleton.mp hy
  exact⟨hT,old _ n2⟩
end
section
variable {X:Cx}
structure Err(K:PySem.W.Frag)(C:Addr):Prop where
 ex:PySem.W.excIn K C [.type "ValueError",.type "Exception",.type "BaseException",.type "object"] "ValueError.__new__"=true
def Qah(C:Addr)(E:XK)(t:TA):TS:=fun _ σ H=>t σ H fun vs H1=>vs.length≤sizeLine∧E (.ref C) none H1
theorem U8{C:Addr}{x:Str}{np cpos pos:Pos}{e₀:Expr}{rest:List Expr}{t:TA}{E:XK}(T:Qag X E)(hc:X.calm=true)(hg:Gl X x)(hm:X.mg x=some (.ref C))(hC:Err X.K C)(ha:PA X (e₀::rest) t)
  (he:starEach (e₀::rest) X.env=(false,eval e₀ X.env)::starEach rest X.env:=by rfl) (hpl:(backTo cpos (starEach rest X.env)).any (·.1)=false:=by rfl) (hdb:(x==("__debug__":Str))=false:=by decide):
  PS X (.Raise (some (.Call (.Name x np) (e₀::rest) [] cpos)) none pos) (Qah C E t):=by
 intro pins s σ H D I h
 have q:=hC.ex
 have O:∃bm N nm q bs hdct sn sub ab col dd k0 k1 k2 k3 k5 mN,X.base.get? C=some (excClassObj nm q C N bs bm hdct sn sub ab col dd k0 k1 k2 k3 k5 "ValueError.__new__")∧X.base.Ns N mN∧mN "__init__"=none∧
   OwnTail X.base [.type "ValueError",.type "Exception",.type "BaseException",.type "object"] bm:=by
  have KX:=I.mod.kin
  unfold PySem.W.excIn at q
  split at q
  ·rename_i dd cd sl ho
   split at q
   ·rename_i C' bm k0 k1 k2 k3 n k5 hm hs
    simp only[Bool.and_eq_true,beq_iff_eq,Bool.not_eq_true']at q
    obtain⟨⟨⟨⟨⟨rfl,rfl⟩,hdel⟩,ht⟩,hok⟩,hni⟩:=q
    obtain⟨nm,bs,mro,ns,qn,hd,sn,sub,ab,col,del⟩:=cd
    dsimp only at hm hdel hok hni
    subst hm hdel
    have hsl:sl= #[k0,k1,k2,k3,some (.builtin "ValueError.__new__"),k5]:=by
     obtain⟨l⟩:=sl
     simp only at hs
     rw[hs]
    subst hsl
    exact⟨bm,ns,nm,qn,bs,hd,sn,sub,ab,col,dd,k0,k1,k2,k3,k5,_,KX _ _ ho,.of_isNs (PySem.W.isNs_of_in KX hok),PySem.W.nsMap_none_of_in KX hok hni,PySem.W.tail_of_in KX ht⟩
   ·cases q
  ·cases q
 obtain⟨tl,Nn,nm,qq,bs,hdct,sn,sub,ab,col,dd,k0,k1,k2,k3,k5,mN,h1,h2,h3,h4⟩:=O
 refine wpAny_Raise_call_subT (C:=C) (nm:=nm) (q:=qq) (N:=Nn) (bs:=bs) (bm:=tl) (hdct:=hdct) (sn:=sn) (sub:=sub) (ab:=ab) (col:=col) (dd:=dd) (k0:=k0) (k1:=k1) (k2:=k2) (k3:=k3) (k5:=k5)
  PySem.F.excBase_ValueError (mN:=mN) (h4.hasType PySem.F.excBase_ValueError.hasBase) (I.ok.hd hc) (by rw[he];show(false||(backTo cpos (starEach rest X.env)).any (·.1))=false;rw[hpl];rfl) h3 ?_
 refine Z9 I hg hm ⟨rfl,?_⟩ (hd:=hdb)
 have w1:=ha cpos pins s σ H _ I h
 rw[he]at w1 ⊢
 refine Calls.evalArgs_plain (wpAny_mono w1 (fun us s2 q2=>?_) fun _ _ y=>y)
 obtain⟨vs,H',I2,rv,hl,hE⟩:=q2
 refine⟨rfl,?_,I2.bk _ _ h1,h2.keeps I2.bk,h4.keeps I2.bk,fun h' e hm=>T pins σ H' s2 h' e (.ref C) _ I2 hm hE⟩
 show us.length≤sizeLine
 rw[←rv.length]
 exact hl
end
end L2
set_option Elab.async false
set_option linter.all false
set_option maxRecDepth 100000
namespace L2
open PySem PySem.Spec PyProof.Rows
section
variable {X:Cx}{pins:List (Addr × Obj)}{σ:St}{H H':Hp}{s:Shared}{h':Heap}
theorem Inv.Qbo{t':Nat}{ch:List Addr}(I:Inv X pins σ H s)
  (hch:∀b∈ch,X.s₀.heap.get? b=none∧b≠X.env.locals∧(∀x c,X.env.cells.lookup x=some c→c≠b)∧∀p∈X.pn++pins,p.1≠b)
  (keep:∀b o,b≠X.env.locals→b∉X.fs→b∉ch→s.heap.get? b=some o→H b=none→h'.get? b=some o)
  (slot:∀b o,b≠X.env.locals→b∈X.fs→b∉ch→s.heap.get? b=some o→H b=none→∃sl,h'.get? b=some {o with slots:=sl})
  (there:∀b o,b∉ch→s.heap.get? b=some o→∃o',h'.get? b=some o')
  (ns:∀m,s.heap.Ns X.env.locals m→h'.Ns X.env.locals m) (hok:HOk X.prog X.w H h'):
  Inv X pins σ H {s with heap:=h',toks:=t'}:=by
 have neL:∀b o,X.s₀.heap.get? b=some o→b≠X.env.locals:=fun b o e=>Nat.ne_of_lt (Nat.lt_of_lt_of_le (Heap.lt_size e) I.ok.above)
 have neC:∀b o,X.s₀.heap.get? b=some o→b∉ch:=fun b o e hb=>by
  have z:=(hch b hb).1
  rw[e]at z
  cases z
 have cellK:∀x c,X.env.cells.lookup x=some c→∀v,s.heap.IsCell c v→h'.IsCell c v:=fun x c e v⟨o,ho,hd⟩=>by
  have nch:c∉ch:=fun z=>(hch c z).2.2.1 x c e rfl
  by_cases hc:c∈X.fs
  ·obtain⟨sl,q⟩:=slot c o (I.cne x c e) hc nch ho (I.freeC x c e)
   exact⟨_,q,hd⟩
  ·exact⟨o,keep c o (I.cne x c e) hc nch ho (I.freeC x c e),hd⟩
 refine⟨I.ok,I.os,I.bare,⟨fun b o e n hb hx=>?_,fun b o e n hb hx=>?_,I.base.free,fun b o e hx=>?_,I.base.Zq,I.base.frzs,I.base.tbls⟩,?_,fun x c e=>?_,I.free,I.freeC,fun p hp=>?_,hok,I.len⟩
 ·exact keep b o (neL b o e) hb (neC b o e) (I.base.keep b o e n hb hx) (I.base.free b o e n hx)
 ·obtain⟨sl,e1⟩:=I.base.slot b o e n hb hx
  obtain⟨sl',e2⟩:=slot b _ (neL b o e) hb (neC b o e) e1 (I.base.free b o e n hx)
  exact⟨sl',e2⟩
 ·obtain⟨o',e1⟩:=I.base.there b o e hx
  exact there b o' (neC b o e) e1
 ·obtain⟨m,hn,hl⟩:=I.loc
  refine⟨m,ns m hn,fun i x v e1 e2 e3=>?_⟩
  obtain⟨u,r,l⟩:=hl i x v e1 e2 e3
  refine⟨u,r,?_⟩
  rcases l with l|⟨k,c,e,z⟩
  ·exact .inl l
  ·exact .inr ⟨k,c,e,cellK x c e _ z⟩
 ·obtain⟨v,z⟩:=I.cell x c e
  exact⟨v,cellK x c e v z⟩
 ·obtain⟨e,n,ne,nf,d⟩:=I.pin p hp
  have nch:p.1∉ch:=fun z=>(hch p.1 z).2.2.2 p hp rfl
  exact⟨keep p.1 p.2 ne nf nch e n,n,ne,nf,d⟩
def x5(a:Addr)(cls:Value):HO:=.ext fun h=>∃o vs,h.get? a=some o∧o.cls=cls∧o.data=.fields vs
theorem vJ{P:Program}{w:World}{H:Hp}{h:Heap}{a:Addr}{cls:Value}{o:Obj}{vs:Array Value}(e:h.get? a=some o)(hc:o.cls=cls)(hd:o.data=.fields vs):Q7 P w H h a (x5 a cls):=
 ⟨⟨o,vs,e,hc,hd⟩,⟨o,e⟩,fun _ _⟨o,vs,e,r⟩ k=>⟨o,vs,k o e,r⟩⟩
theorem Inv.kE{a:Addr}{o:HO}(I:Inv X pins σ H s)(hn:H a=none)(h0:X.s₀.heap.get? a=none)(hL:a≠X.env.locals)(hc:∀x c,X.env.cells.lookup x=some c→c≠a) (hp:∀p∈X.pn++pins,p.1≠a)
  (new:Q7 X.prog X.w (upd H a o) s.heap a o):Inv X pins σ (upd H a o) s:=by
 refine⟨I.ok,I.os,I.bare,⟨I.base.keep,I.base.slot,fun b u e n hx=>?_,I.base.there,fun b xs e=>?_,fun b u xs e=>?_,fun b ps e=>?_⟩,I.loc,I.cell,?_,fun x c e=>?_,fun p q=>?_,fun b u e=>?_,I.len⟩
 ·rw[Qi fun z=>by rw[z,h0]at e;cases e]
  exact I.base.free b u e n hx
 ·have q:=I.base.Zq b xs e
  rw[Qi (Qr q hn)]
  exact q
 ·have q:=I.base.frzs b u xs e
  rw[Qi (Qr q hn)]
  exact q
 ·obtain⟨m,q⟩:=I.base.tbls b ps e
  exact⟨m,by rw[Qi (Qr q hn)];exact q⟩
 ·rw[Qi hL.symm]
  exact I.free
 ·rw[Qi (hc x c e)]
  exact I.freeC x c e
 ·obtain⟨e,n,r⟩:=I.pin p q
  exact⟨e,by rw[Qi (hp p q)];exact n,r⟩
 ·by_cases hb:b=a
  ·subst hb
   rw[Qc]at e
   cases e
   exact new
  ·rw[Qi hb]at e
   exact(I.hok b u e).YZ (fun c v _ q=>q) (fun c q=>by rw[Qi (Qr q hn)];exact q) fun c xs q=>by rw[Qi (Qr q hn)];exact q
end
abbrev Cx.alt(X:Cx)(pn:List (Addr × Obj))(xe:Value→Shared→Prop):Cx:={X with pn:=pn,xe:=xe}
abbrev Cx.marked(X:Cx)(v:Value)(xe:Value→Shared→Prop):Cx:={X with A:=X.A.mark (some v),calm:=false,xe:=xe}
section
variable {X:Cx}{pins:List (Addr × Obj)}{σ:St}{H H':Hp}{s:Shared}
theorem Inv.Qbp(I:Inv X pins σ H s)(xe:Value→Shared→Prop):Inv (X.alt (X.pn++pins) xe) [] σ H s:=
 ⟨⟨I.ok.mod,I.ok.kind,I.ok.glob,I.ok.blt,I.ok.above,I.ok.inj,I.ok.has,I.ok.cab,I.ok.hd,I.ok.frames,I.ok.stk,I.ok.exf,I.ok.bs,I.ok.bsz,I.ok.noex,I.ok.exfs,I.ok.V2,I.ok.frf⟩,I.os,I.bare,I.base,I.loc,I.cell,I.free,I.freeC,
  fun p hp=>I.pin p (by simpa using hp),I.hok,I.len⟩
theorem Inv.ofAlt{xe:Value→Shared→Prop}{pins2:List (Addr × Obj)}(I:Inv (X.alt (X.pn++pins) xe) pins2 σ H s):Inv X pins σ H s:=
 ⟨⟨I.ok.mod,I.ok.kind,I.ok.glob,I.ok.blt,I.ok.above,I.ok.inj,I.ok.has,I.ok.cab,I.ok.hd,I.ok.frames,I.ok.stk,I.ok.exf,I.ok.bs,I.ok.bsz,I.ok.noex,I.ok.exfs,I.ok.V2,I.ok.frf⟩,I.os,I.bare,I.base,I.loc,I.cell,I.free,I.freeC,
  fun p hp=>I.pin p (List.mem_append_left _ hp),I.hok,I.len⟩
theorem Inv.U9(I:Inv X pins σ H s)(v:Value)(xe:Value→Shared→Prop):Inv (X.marked v xe) pins σ H s:=
 ⟨⟨I.ok.mod,I.ok.kind,I.ok.glob,I.ok.blt,I.ok.above,I.ok.inj,I.ok.has,I.ok.cab,(fun z=>nomatch z),I.ok.frames,I.ok.stk,I.ok.exf,I.ok.bs,I.ok.bsz,I.ok.noex,I.ok.exfs,I.ok.V2,I.ok.frf⟩,I.os,I.bare,I.base,I.loc,I.cell,I.free,I.freeC,
  I.pin,I.hok,I.len⟩
theorem Inv.Kz{v:Value}{xe:Value→Shared→Prop}(I:Inv (X.marked v xe) pins σ H s)(hh:X.A.handled=none):Inv X pins σ H s:=
 ⟨⟨I.ok.mod,I.ok.kind,I.ok.glob,I.ok.blt,I.ok.above,I.ok.inj,I.ok.has,I.ok.cab,fun _=>hh,I.ok.frames,I.ok.stk,I.ok.exf,I.ok.bs,I.ok.bsz,I.ok.noex,I.ok.exfs,I.ok.V2,I.ok.frf⟩,I.os,I.bare,I.base,I.loc,I.cell,I.free,I.freeC,
  I.pin,I.hok,I.len⟩
theorem name_goes{n:Str}{i:Nat}{pos:Pos}{E:Value→Shared→Prop}{M:Model}{A:Around}{Q:Unit→Shared→Prop}(I:Inv X pins σ H s)(hN:X.N.Nodup)(hi:X.N[i]? =some n)(hl:X.env.scope.names.lookup n=some .local)
  (h:∀s',Inv X pins (σ.set i none) H s'→Q () s'):wpAny M A (do bindName X.env n .none;unbindBehindTheSuite X.env n pos) Q E s:=by
 have hp:(X.env.scope.kind==.class||(X.env.scope.kind==.module&&X.env.locals !=X.env.globals))=false:=by rw[I.ok.kind];rfl
 have hk:X.env.kindOf n=some .local:=hl
 refine wpAny_bind (wpAny_bindName (Vh (v:=V.non) I hN hi (.inl hl) rfl (fun s1 I1=>?_) (.inr hl)))
 unfold unbindBehindTheSuite
 refine wpAny_onRaise ?_
 unfold unbindName
 refine wpAny_bind (wpAny_point (wpAny_bind ?_))
 unfold deleteName
 simp only[hk,hp]
 rw[if_neg (by decide)]
 obtain⟨m,hn,hloc⟩:=id I1.loc
 obtain⟨u,ru,lk⟩:=hloc i n V.non hi (by rw[List.getElem?_set_self (by rw[I.len];exact(List.getElem?_eq_some_iff.mp hi).1)]) (.inl hl)
 have hmn:(m n).isSome=true:=by
  rcases lk with⟨_,e⟩|⟨z,_⟩
  ·rw[e];rfl
  ·have z':X.env.scope.names.lookup n=some .cell∨X.env.scope.names.lookup n=some .free:=z
   rcases z' with z'|z'<;>(rw[hl]at z';cases z')
 refine wpAny_bind (wpAny_nsDel_keeps hn fun h' v hn' hs=>?_)
 rw[hmn]
 simp only[Bool.not_true,Bool.false_eq_true,if_false]
 refine wpAny_pure (wpAny_point (h _ ?_))
 obtain⟨oL,_,_,hoL,_⟩:=id hn
 have kp:∀b o,b≠X.env.locals→s1.heap.get? b=some o→h'.get? b=some o:=fun b o hb e=>(hs.2 b hb).trans e
 refine⟨I1.ok,I1.os,I1.bare,⟨fun b o e n hb hx=>?_,fun b o e n hb hx=>?_,I1.base.free,fun b o e hx=>?_,I1.base.Zq,I1.base.frzs,I1.base.tbls⟩,⟨_,hn',fun j y w e1 e2 e3=>?_⟩,fun y c e=>?_,I1.free,I1.freeC,fun p hp=>?_,fun b ob e=>?_,?_⟩
 ·exact kp b o (Nat.ne_of_lt (Nat.lt_of_lt_of_le (Heap.lt_size e) I1.ok.above)) (I1.base.keep b o e n hb hx)
 ·obtain⟨sl,e1⟩:=I1.base.slot b o e n hb hx
  exact⟨sl,kp b _ (Nat.ne_of_lt (Nat.lt_of_lt_of_le (Heap.lt_size e) I1.ok.above)) e1⟩
 ·obtain⟨o',e1⟩:=I1.base.there b o e hx
  exact⟨o',kp b _ (Nat.ne_of_lt (Nat.lt_of_lt_of_le (Heap.lt_size e) I1.ok.above)) e1⟩
 ·by_cases hj:j=i
  ·subst hj
   rw[List.getElem?_set]at e2
   simp only[if_true]at e2
   split at e2<;>cases e2
  ·rw[List.getElem?_set_ne (Ne.symm hj)]at e2
   obtain⟨u',r',q⟩:=hloc j y w e1 (by rw[List.getElem?_set_ne (Ne.symm hj)];exact e2) e3
   refine⟨u',r',?_⟩
   rcases q with⟨k,e⟩|⟨k,c,e,z⟩
   ·refine .inl ⟨k,?_⟩
    have:y≠n:=fun e=>hj (Vg hN e1 (e▸hi))
    simp only[this,if_false]
    exact e
   ·exact .inr ⟨k,c,e,z.sameBut hs (I1.cne y c e)⟩
 ·obtain⟨w',z⟩:=I1.cell y c e
  exact⟨w',z.sameBut hs (I1.cne y c e)⟩
 ·obtain⟨e,n,ne,nf,d⟩:=I1.pin p hp
  exact⟨kp p.1 p.2 ne e,n,ne,nf,d⟩
 ·refine(I1.hok b ob e).YZ (fun c w' hc q=>kp c w' ?_ q) (fun _ q=>q) fun _ _ q=>q
  rintro rfl
  have z:=I1.free
  rcases hc with rfl|hc
  ·rw[e]at z;cases z
  ·rw[hc]at z;cases z
 ·rw[List.length_set]
  exact I.len
theorem Inv.looked{a T:Addr}{cls:Value}{h5:Heap}{t':Nat}(I:Inv X pins σ H s)(hstk:X.stack=X.env::X.outer)(F:vI s.heap a T cls)(ha:H a=none)(hT:H T=none)(f1:X.s₀.heap.get? a=none)(f2:X.s₀.heap.get? T=none)
  (hpn:∀p∈X.pn++pins,p.1≠a∧p.1≠T) (st:(PySem.W.hideAll s.heap (frs X.stack++[a,T])).StaysIn h5) (up:s.heap.UpToSlots h5):
  Inv X pins σ H {s with heap:=h5,toks:=t'}:=by
 obtain⟨oe,vs,oT,ts,a0,t1,t2,t3,t4,t5,t6,t7,t8,t9⟩:=F
 have two:∀b,b∈[a,T]→b=a∨b=T:=fun b hb=>by simpa using hb
 have recd:∀b,b∈[a,T]→∃o vs,s.heap.get? b=some o∧o.data=.fields vs:=fun b hb=>by
  rcases two b hb with rfl|rfl
  ·exact⟨_,_,t1,t3⟩
  ·exact⟨_,_,t7,t8⟩
 have inB:∀b o,s.heap.get? b=some o→b∉frs X.stack→b∉[a,T]→h5.get? b=some o:=fun b o e n1 n2=>
  st b o (PySem.W.hideAll_get _ e fun hm=>(List.mem_append.mp hm).elim n1 n2)
 have fr:∀b∈frs X.stack,∃o,s.heap.get? b=some o∧∀vs,o.data≠ .fields vs:=fun b hb=>(I.stack.mem hb).2
 have inS:∀b∈X.fs,b∈frs X.stack:=fun b hb=>by rw[hstk];unfold frs;rw[List.filterMap_cons];split<;>first|exact hb|exact List.mem_cons_of_mem _ hb
 refine I.Qbo (ch:=[a,T]) (fun b hb=>⟨?_,?_,fun x c e z=>?_,fun p hp=>?_⟩) (fun b o hL hb hc e n=>?_) (fun b o hL hb hc e n=>?_) (fun b o hc e=>?_) (fun m hm=>up.ns hm) fun b u e=>?_
 ·rcases two b hb with rfl|rfl
  ·exact f1
  ·exact f2
 ·obtain⟨o,ws,e,d⟩:=recd b hb
  rintro rfl
  obtain⟨m,⟨o',es,ep,e',d',_⟩,_⟩:=I.loc
  rw[e]at e'
  cases e'
  rw[d]at d'
  cases d'
 ·obtain⟨o,ws,e1,d⟩:=recd b hb
  obtain⟨v,o',e',d'⟩:=I.cell x c e
  rw[z,e1]at e'
  cases e'
  rw[d]at d'
  cases d'
 ·rcases two b hb with rfl|rfl
  ·exact(hpn p hp).1
  ·exact(hpn p hp).2
 ·exact inB b o e (fun hm=>(List.mem_cons.mp (I.Xp b hm)).elim hL hb) hc
 ·obtain⟨o2,e2,d2⟩:=fr b (inS b hb)
  rw[e]at e2
  cases e2
  exact up b o e d2
 ·by_cases hm:b∈frs X.stack
  ·obtain⟨o2,e2,d2⟩:=fr b hm
   obtain⟨sl,q⟩:=up b o2 e2 d2
   exact⟨_,q⟩
  ·exact⟨o,inB b o e hm hc⟩
 ·refine(I.hok b u e).YZ (fun c v hc q=>inB c v q (fun hm=>?_) fun hm=>?_) (fun _ q=>q) fun _ _ q=>q
  ·have z:=I.Z8 c hm
   rcases hc with rfl|hc
   ·rw[e]at z;cases z
   ·rw[hc]at z;cases z
  ·have z:H c=none:=by
    rcases two c hm with rfl|rfl
    ·exact ha
    ·exact hT
   rcases hc with rfl|hc
   ·rw[e]at z;cases z
   ·rw[hc]at z;cases z
def Qck(K:PySem.W.Frag)(C:Addr)(i n:Nat)(tb:XK→TS)(th:TS):TS:=fun D σ H=>
 tb (fun cls _ H'=>PySem.W.exmOne K cls (.ref C)=some true∧∀a,H' a=none→
  th {nx:=fun σ2 H2=>D.nx (σ2.set i none) H2,rt:=D.rt,bk:=fun σ2 H2=>D.bk (σ2.set i none) H2,ct:=fun σ2 H2=>D.ct (σ2.set i none) H2} ((List.replicate n none).set i (some (.ref a))) (upd H' a (x5 a cls))) D σ H
theorem Qai{body suite:List Stmt}{b₀:Stmt}{x nm:Str}{np hpos pos:Pos}{C:Addr}{i:Nat}{tb:XK→TS}{th:TS}(hc:X.calm=true)(hex:X.ex=[])(hstk:X.stack=X.env::X.outer)(hfr:X.env.frame=some X.env.locals)
  (hg:Gl X x) (hm:X.mg x=some (.ref C)) (hN:X.N.Nodup) (hi:X.N[i]? =some nm) (hl:X.env.scope.names.lookup nm=some .local)
  (hb:∀(E:XK)(pn:List (Addr × Obj))(xe:Value→Shared→Prop),Passes (CXE X.prog X.w) (X.alt pn xe) E→PSs (X.alt pn xe) body (tb E))
  (hs:∀v:Value,PSs (X.marked v fun _ _=>False) (b₀::suite) th) (hdb:(x==("__debug__":Str))=false:=by decide):
  PS X (.Try body [.ExceptHandler (some (.Name x np)) (some nm) (b₀::suite) hpos] [] [] pos) (Qck X.K C i X.N.length tb th):=by
 intro pins s σ H D I h
 refine wpAny_Try_except ?_
 have hpass:Passes (CXE X.prog X.w) (X.alt (X.pn++pins) fun e s'=>∃a T cls σ' H',e=.ref a∧Inv X pins σ' H' s'∧vI s'.heap a T cls∧H' a=none∧H' T=none∧X.s₀.heap.get? a=none∧X.s₀.heap.get? T=none∧
   (∀p∈X.pn++pins,p.1≠a∧p.1≠T)∧PySem.W.exmOne X.K cls (.ref C)=some true∧∀a,H' a=none→
  th {nx:=fun σ2 H2=>D.nx (σ2.set i none) H2,rt:=D.rt,bk:=fun σ2 H2=>D.bk (σ2.set i none) H2,ct:=fun σ2 H2=>D.ct (σ2.set i none) H2} ((List.replicate X.N.length none).set i (some (.ref a))) (upd H' a (x5 a cls)))
   (fun cls _ H'=>PySem.W.exmOne X.K cls (.ref C)=some true∧∀a,H' a=none→
  th {nx:=fun σ2 H2=>D.nx (σ2.set i none) H2,rt:=D.rt,bk:=fun σ2 H2=>D.bk (σ2.set i none) H2,ct:=fun σ2 H2=>D.ct (σ2.set i none) H2} ((List.replicate X.N.length none).set i (some (.ref a))) (upd H' a (x5 a cls))):=by
  intro pins2 σ2 H2 s2 e s' I2 q
  obtain⟨a,T,cls,H',rfl,fl,n1,n2,ha,hT,os,bare,un,hok,hE⟩:=q
  have I3:=I2.jO os un hok bare fun b hb=>nomatch hb
  have frs0:∀b,s2.heap.get? b=none→X.s₀.heap.get? b=none:=fun b hb=>by
   cases q:X.s₀.heap.get? b with
   |none=>rfl
   |some o=>
    obtain⟨o',e'⟩:=I2.base.there b o q (by show b∉X.ex;rw[hex];simp)
    rw[hb]at e'
    cases e'
  have pn:∀b,s2.heap.get? b=none→∀p∈X.pn++pins,p.1≠b:=fun b hb p hp z=>by
   have:=(I2.pin p (List.mem_append_left _ hp)).1
   rw[z,hb]at this
   cases this
  exact⟨a,T,cls,σ2,H',rfl,I3.ofAlt,fl,ha,hT,frs0 a n1,frs0 T n2,fun p hp=>⟨pn a n1 p hp,pn T n2 p hp⟩,hE⟩
 refine wpAny_mono (hb _ (X.pn++pins) _ hpass [] s σ H D (I.Qbp _) h) (fun f s1 q=>?_) (fun e s1 q=>?_)
 ·cases f with
  |next=>obtain⟨σ',H',I',q⟩:=q;exact wpAny_execs_nil ⟨σ',H',I'.ofAlt,q⟩
  |brk=>obtain⟨σ',H',I',q⟩:=q;exact⟨σ',H',I'.ofAlt,q⟩
  |cont=>obtain⟨σ',H',I',q⟩:=q;exact⟨σ',H',I'.ofAlt,q⟩
  |ret u=>obtain⟨v,σ',H',I',q⟩:=q;exact⟨v,σ',H',I'.ofAlt,q⟩
 ·obtain⟨a,T,cls,σ',H',rfl,I1,F1,ha,hT,f1,f2,hpn,hx,hh⟩:=q
  obtain⟨oe,vs,oT,ts,a0,t1,t2,t3,t4,t5,t6,t7,t8,t9⟩:=id F1
  have hfrm:X.A.frames=some (X.env::X.outer):=by rw[←hstk];exact I1.ok.frames
  have ff:s1.heap.FunFrames (PySem.W.hideAll s1.heap (frs X.stack++[a,T])) (X.env::X.outer):=by
   have z:=Xd I1 [a,T]
   rw[hstk]at z ⊢
   exact z
  have fl0:Heap.FlyingW (PySem.W.hideAll s1.heap (frs X.stack++[a,T])) (X.env::X.outer) a cls a0 s1.heap:=
   ⟨fun b o q=>PySem.W.of_hideAll _ q,PySem.W.hideAll_none _ (List.mem_append_right _ (by simp)),ff,oe,vs,T,oT,ts,t1,⟨t2,t4⟩,t3,t5,PySem.W.hideAll_none _ (List.mem_append_right _ (by simp)),t6,t7,t8,t9⟩
  refine wpAny_looks_onW hfrm hfr fl0 fun h4 held up4=>?_
  refine wpAny_landsW held fun h5 fl5 up5=>?_
  have up15:s1.heap.UpToSlots h5:=up4.trans up5
  have I5:Inv X pins σ' H' {s1 with heap:=h5}:=I1.looked (t':=s1.toks) hstk F1 ha hT f1 f2 hpn fl5.1 up15
  obtain⟨oe5,vs5,e5,c5,d5,_⟩:=fl5.first
  refine wpAny_handleBy_cons (codeAny_handlers_test ?_) (by intro q;cases q)
  refine Z9 (X:=X.marked (.ref a) fun _ _=>False) (I5.U9 (.ref a) _) hg hm ?_ (hd:=hdb)
  have LT:PySem.W.Looks (model X.prog X.w) h5 (typeOf (.ref a)) cls:=by
   subst c5
   exact(PySem.W.Looks.ld e5).andThen .now
  refine(PySem.W.exm_one (M:=model X.prog X.w) I5.kIn LT hx).here ?_
  show codeAny _ _ (.handlers (.ref a) [.ExceptHandler none (some nm) (b₀::suite) hpos] X.env) _ _
  refine codeAny_handlers_suite_as ?_
  refine lands_againW fl5 fun h6 fl6 up6=>?_
  have up16:s1.heap.UpToSlots h6:=up15.trans up6
  have I6:Inv X pins σ' H' {s1 with heap:=h6}:=I1.looked (t':=s1.toks) hstk F1 ha hT f1 f2 hpn fl6.1 up16
  obtain⟨oe6,vs6,e6,c6,d6,_⟩:=fl6.first
  have aL:a≠X.env.locals:=by
   rintro rfl
   obtain⟨m,⟨o',es,ep,e',d',_⟩,_⟩:=I1.loc
   rw[t1]at e'
   cases e'
   rw[t3]at d'
   cases d'
  have aC:∀x c,X.env.cells.lookup x=some c→c≠a:=fun x c e z=>by
   obtain⟨v,o',e',d'⟩:=I1.cell x c e
   rw[z,t1]at e'
   cases e'
   rw[t3]at d'
   cases d'
  refine KN (X:=X.marked (.ref a) fun _ _=>False) (v:=V.ref a) (I6.U9 (.ref a) fun _ _=>False) hN hi (.inl hl) rfl (fun s7 I7 sb=>?_) (.inr hl)
  have e7:s7.heap.get? a=some oe6:=by
   obtain⟨b,hs,hb⟩:=sb
   rw[hs.2 a ?_]
   ·exact e6
   ·rcases hb with rfl|hb
    ·exact aL
    ·exact(aC _ _ hb).symm
  have I8:Inv (X.marked (.ref a) fun _ _=>False) pins ((List.replicate X.N.length none).set i (some (.ref a))) H' s7:=I7.weak (by rw[List.length_set,List.length_set,List.length_replicate];exact I1.len.symm) fun j v e=>by
   by_cases hj:j=i
   ·subst hj
    rw[List.getElem?_set]at e ⊢
    simp only[if_true,List.length_replicate]at e ⊢
    split at e
    ·rename_i hlt
     rw[if_pos (by rw[I1.len];exact hlt)]
     exact e
    ·cases e
   ·rw[List.getElem?_set_ne (Ne.symm hj),List.getElem?_replicate]at e
    split at e<;>cases e
  have I9:=I8.kE (o:=x5 a cls) ha f1 aL aC (fun p hp=>(hpn p hp).1) (vJ e7 c6 d6)
  refine wpAny_mono (hs (.ref a) pins s7 _ _ _ I9 (hh a ha)) (fun f s8 q8=>?_) (fun _ _ z=>z.elim)
  have hnd:=I.ok.hd hc
  cases f with
  |next=>obtain⟨σ8,H8,J,q⟩:=q8;exact name_goes (J.Kz hnd) hN hi hl fun s9 J9=>⟨_,_,J9,q⟩
  |brk=>obtain⟨σ8,H8,J,q⟩:=q8;exact name_goes (J.Kz hnd) hN hi hl fun s9 J9=>⟨_,_,J9,q⟩
  |cont=>obtain⟨σ8,H8,J,q⟩:=q8;exact name_goes (J.Kz hnd) hN hi hl fun s9 J9=>⟨_,_,J9,q⟩
  |ret u=>obtain⟨v,σ8,H8,J,q⟩:=q8;exact name_goes (J.Kz hnd) hN hi hl fun s9 J9=>⟨v,_,_,J9,q⟩
end
end L2
set_option Elab.async false
set_option linter.all false
set_option maxRecDepth 100000
namespace L2
open PySem PySem.Spec PyProof.Rows
def Xe(a:Addr)(q:Str):HO:=.ext fun h=>∃o vs t,h.get? a=some o∧o.data=.fields vs∧vs[1]? =some (.str q t)
theorem kF{P:Program}{w:World}{H:Hp}{h:Heap}{a:Addr}{q:Str}(e:h.CodeRec (.ref a) q):Q7 P w H h a (Xe a q):=by
 obtain⟨c,o,vs,t,e1,e2,e3,e4⟩:=e
 cases e1
 exact⟨⟨o,vs,t,e2,e3,e4⟩,⟨o,e2⟩,fun _ _⟨o,vs,t,e,r⟩ k=>⟨o,vs,t,k o e,r⟩⟩
theorem zn{P:Program}{w:World}{H:Hp}{h:Heap}{a:Addr}{q:Str}(e:Q7 P w H h a (Xe a q)):h.CodeRec (.ref a) q:=by
 obtain⟨⟨o,vs,t,e2,e3,e4⟩,_⟩:=e
 exact⟨a,o,vs,t,rfl,e2,e3,e4⟩
def WL(H:Hp)(P:Addr)(q:Str):Prop:=
 ∃ps:Array Value,H P=some (.tbl ps)∧TriplesOk ps.toList∧∀pos cv,codeAmong pos ps.toList=some cv→∃a,cv=.ref a∧H a=some (Xe a q)
structure Lamb(mg:Str→Option Value)(base:Heap)(c P:Addr):Prop where
 hd:PySem.W.CodeHd base c P
 bm:∃bm ob,mg "__builtins__"=some (.ref bm)∧bm≠builtinsNs∧base.get? bm=some ob∧ob.cls=.type "module"∧ob.dict=some builtinsNs∧ob.data=.plain
theorem Yp{a b:Int}{ta tb:Tok}{c:Value}(l:List Value)(h:TriplesOk l):TriplesOk (l++[.int a ta,.int b tb,c]):=by
 fun_induction TriplesOk l with
 |case1=>simp[TriplesOk]
 |case2 a' t b' u x rest ih=>exact ih h
 |case3=>exact h.elim
theorem qT{p:Pos}{a b:Int}{ta tb:Tok}{c cv:Value}(l:List Value)(h:TriplesOk l)(e:codeAmong p (l++[.int a ta,.int b tb,c])=some cv):codeAmong p l=some cv∨cv=c:=by
 fun_induction TriplesOk l with
 |case1=>
  simp only[List.nil_append,codeAmong]at e
  split at e
  ·cases e;exact .inr rfl
  ·cases e
 |case2 a' t b' u x rest ih=>
  simp only[List.cons_append,codeAmong]at e ⊢
  split at e
  ·rename_i q;rw[if_pos q];exact .inl e
  ·rename_i q;rw[if_neg q];exact ih h e
 |case3=>exact h.elim
section
variable {X:Cx}{pins:List (Addr × Obj)}{σ:St}{H:Hp}{s:Shared}
theorem kG{c P:Addr}{q:Str}{params:Arguments}{body:Expr}{scope:Scope}{pos:Pos}{cl:List (Str × Addr)}{Q:Value→Shared→Prop}(I:Inv X pins σ H s)(L:Lamb X.mg X.base c P)(hcode:X.env.code=.ref c)(hq:q=X.env.qual++"<lambda>")
  (hdef:defaultsOf params X.env=([],[])) (hcl:closureFor scope X.env=pure cl) (T:WL H P q)
  (h:∀f c' pm ctv H' s',Inv X pins σ H' s'→s'.heap.get? f=some (PySem.W.kla_obj "<lambda>" q params body scope cl pm c' ctv)→H' f=none→s.heap.objs.size≤f→H' c'=some (Xe c' q)→WL H' P q→
   (∀b o,H b=some o→b≠P→H' b=some o)→(∀b o,s.heap.get? b=some o→b≠P→s'.heap.get? b=some o)→Q (.ref f) s'):
  wpAny (model X.prog X.w) X.A (eval (.Lambda params body scope pos) X.env) Q X.xe s:=by
 subst hq
 obtain⟨ps,hP,ht,hc⟩:=T
 obtain⟨bm,ob,b1,b2,b3,b4,b5,b6⟩:=L.bm
 have hPo:s.heap.get? P=some (PySem.W.tabObj ps):=I.hok P _ hP
 have hg:s.heap.Ns mainGlobals X.mg:=I.mod.glob.keeps I.bk
 have hgP:mainGlobals≠P:=fun z=>by
  obtain⟨o,es,ep,e,hd,_⟩:=hg
  rw[z,hPo]at e
  cases e
  cases hd
 have b3':=I.bk _ _ b3
 have hbG:bm≠mainGlobals:=fun z=>by
  obtain⟨o,es,ep,e,hd,_⟩:=hg
  rw[z,e]at b3'
  cases b3'
  rw[hd]at b6
  cases b6
 have hbP:bm≠P:=fun z=>by
  rw[z,hPo]at b3'
  cases b3'
  cases b4
 have hB:s.heap.BuiltinsAt X.mg P:=⟨bm,ob,b1,b2,hbG,hbP,b3',b4,b5,b6⟩
 refine PySem.W.kla_eval hdef ?_
 cases ha:codeAmong pos ps.toList with
 |some cv=>
  obtain⟨c',rfl,hc'⟩:=hc pos cv ha
  refine PySem.W.kla_makeFunctionHit hcl I.ok.glob hg hcode (L.hd.keeps I.bk) hPo ht ha hB fun ctv h' tk k hsz=>?_
  have kp:∀b o,s.heap.get? b=some o→(h'.push (PySem.W.kla_obj "<lambda>" (X.env.qual++"<lambda>") params body scope cl ((X.mg "__name__").getD .none) c' ctv)).get? b=some o:=fun b o e=>Heap.get?_push_of_some _ (k b o e)
  exact h h'.objs.size c' _ ctv H _ (I.kept kp) (Heap.get?_push_size _ rfl) (I.hok.fresh hsz) hsz hc' ⟨ps,hP,ht,hc⟩ (fun _ _ e _=>e) fun b o e _=>kp b o e
 |none=>
  refine PySem.W.kla_makeFunction hcl I.ok.glob hg hcode (L.hd.keeps I.bk) hPo ht ha hgP hB fun c' ctv h' tk ext hge hlt hrec htb=>?_
  have kp:∀b o,s.heap.get? b=some o→b≠P→(h'.push (PySem.W.kla_obj "<lambda>" (X.env.qual++"<lambda>") params body scope cl ((X.mg "__name__").getD .none) c' ctv)).get? b=some o:=fun b o e n=>Heap.get?_push_of_some _ (ext b o n e)
  have hc0:H c'=none:=I.hok.fresh hge
  have ncP:c'≠P:=fun z=>by rw[z,hP]at hc0;cases hc0
  have Hk:∀b o,H b=some o→b≠P→upd (upd H P (.tbl (ps++ #[rawInt pos.line,rawInt pos.col,.ref c']))) c' (Xe c' (X.env.qual++"<lambda>")) b=some o:=fun b o e n=>by
   rw[Qi (Qr e hc0),Qi n]
   exact e
  have HP:upd (upd H P (.tbl (ps++ #[rawInt pos.line,rawInt pos.col,.ref c']))) c' (Xe c' (X.env.qual++"<lambda>")) P=some (.tbl (ps++ #[rawInt pos.line,rawInt pos.col,.ref c'])):=by
   rw[Qi ncP.symm,Qc]
  have hsz:s.heap.objs.size≤h'.objs.size:=Nat.le_of_lt (Nat.lt_of_le_of_lt hge hlt)
  refine h h'.objs.size c' _ ctv (upd (upd H P (.tbl (ps++ #[rawInt pos.line,rawInt pos.col,.ref c']))) c' (Xe c' (X.env.qual++"<lambda>"))) _ (I.un (t':=tk) ⟨fun b o e n hb hx=>?_,fun b o e n hb hx=>?_,fun b o e n hx=>?_,fun b o e hx=>?_,fun b xs e=>?_,fun b o u e=>?_,fun b qs e=>?_⟩ fun b u e=>?_) (Heap.get?_push_size _ rfl) ?_ hsz (Qc) ⟨_,HP,?_,fun p cv e=>?_⟩ Hk fun b o e n=>kp b o e n
  ·exact kp b o e fun z=>by rw[z,hP]at n;cases n
  ·exact⟨o.slots,kp b o e fun z=>by rw[z,hP]at n;cases n⟩
  ·have n1:b≠P:=fun z=>by rw[z,hP]at n;cases n
   have n2:b≠c':=Nat.ne_of_lt (Nat.lt_of_lt_of_le (Heap.lt_size e) hge)
   rw[Qi n2,Qi n1]
   exact n
  ·by_cases z:b=P
   ·exact⟨_,by rw[z];exact Heap.get?_push_of_some _ htb⟩
   ·exact⟨o,kp b o e z⟩
  ·exact Hk b _ e fun z=>by rw[z,hP]at e;cases e
  ·exact Hk b _ e fun z=>by rw[z,hP]at e;cases e
  ·by_cases z:b=P
   ·subst z
    rw[hP]at e
    cases e
    exact⟨_,HP⟩
   ·exact⟨#[],by rw[Hk b _ e z];simp⟩
  ·by_cases z1:b=c'
   ·subst z1
    rw[Qc]at e
    cases e
    exact kF (hrec.keeps fun b o e=>Heap.get?_push_of_some _ e)
   ·by_cases z2:b=P
    ·subst z2
     rw[HP]at e
     cases e
     exact(Heap.get?_push_of_some _ htb:_)
    ·rw[Qi z1,Qi z2]at e
     refine(I.hok b u e).YZ (fun d v hd q'=>kp d v q' fun z=>?_) (fun d q'=>Hk d _ q' fun z=>by rw[z,hP]at q';cases q') fun d xs q'=>Hk d _ q' fun z=>by rw[z,hP]at q';cases q'
     rcases hd with rfl|hd
     ·exact z2 z
     ·rw[z,hP]at hd
      cases hd
  ·have n2:h'.objs.size≠c':=Nat.ne_of_gt hlt
   have n0:H h'.objs.size=none:=I.hok.fresh hsz
   have n1:h'.objs.size≠P:=fun z=>by rw[z,hP]at n0;cases n0
   show upd _ _ _ _=none
   rw[Qi n2,Qi n1]
   exact n0
  ·rw[Array.toList_append]
   exact Yp _ ht
  ·rw[Array.toList_append]at e
   rcases qT _ ht e with e|rfl
   ·obtain⟨a,rfl,ha'⟩:=hc p cv e
    exact⟨a,rfl,Hk a _ ha' fun z=>by rw[z,hP]at ha';cases ha'⟩
   ·exact⟨c',rfl,Qc⟩
end
def qU(P:Program)(w:World)(K:PySem.W.Frag)(mg:Str→Option Value)(base:Heap)(N:List Str)(q:Str)(scope:Scope)(f c':Addr)(cl:List (Str × Addr))(A:Around)(outer:List Env)(s:Shared)(H:Hp)(E:XK):Cx where
 prog:=P
 w:=w
 K:=K
 mg:=mg
 base:=base
 A:=A.deeper (PySem.W.envX q scope s.heap.objs.size f (.ref c') cl)
 N:=N
 s₀:=s
 H₀:=H
 env:=PySem.W.envX q scope s.heap.objs.size f (.ref c') cl
 outer:=outer
 stack:=PySem.W.envX q scope s.heap.objs.size f (.ref c') cl::outer
 ex:=[]
 calm:=true
 fn:=fun _=>false
 pn:=[]
 xe:=fun e s'=>wpAny (model P w) (A.deeper (PySem.W.envX q scope s.heap.objs.size f (.ref c') cl)) (leaving (PySem.W.envX q scope s.heap.objs.size f (.ref c') cl) e) (fun _ s''=>CXE P w outer H s E e s'') (fun e' s''=>CXE P w outer H s E e' s'') s'
theorem KA{P:Program}{w:World}{K:PySem.W.Frag}{mg:Str→Option Value}{base:Heap}{N:List Str}{q:Str}{scope:Scope}{f c':Addr}{cl:List (Str × Addr)}{A:Around}{outer:List Env}{s:Shared}{H:Hp}{E:XK}:
  Fram (qU P w K mg base N q scope f c' cl A outer s H E) E:=⟨rfl,rfl,rfl,fun _ _ h=>h⟩
structure CellsOk(N:List Str)(σ:St)(scope:Scope)(cl:List (Str × Addr))(H:Hp)(fs:List Addr)(h:Heap):Prop where
 inj:∀x y c,cl.lookup x=some c→cl.lookup y=some c→x=y
 has:∀x,scope.names.lookup x=some .free→∃c,cl.lookup x=some c
 none_:∀y∈scope.names,y.2≠ .local∧y.2≠ .cell
 cell:∀x c,cl.lookup x=some c→H c=none∧c∉fs∧∃v,h.IsCell c v
 val:∀(i:Nat)(x:Str)(v:V),N[i]? =some x→σ[i]? =some (some v)→scope.names.lookup x=some .free→∃u c,RelV v u∧cl.lookup x=some c∧h.IsCell c (some u)
section
variable {X:Cx}{pins:List (Addr × Obj)}{σ1:St}{H:Hp}{s:Shared}
theorem kH{k:Nat}{N:List Str}{σ:St}{q:Str}{params:Arguments}{body:Expr}{scope:Scope}{f c':Addr}{cl:List (Str × Addr)}{pm ctv:Value}{te:TE}{Q:VK}{E:XK}(I:Inv X pins σ1 H s)(hh:X.A.handled=none)(hr:Room (k+1) X.A)
  (ho:s.heap.get? f=some (PySem.W.kla_obj "<lambda>" q params body scope cl pm c' ctv)) (hc':H c'=some (Xe c' q)) (hk:scope.kind=.function) (hco:scope.isCoroutine=false) (hgen:scope.isGenerator=false)
  (hbind:bindArgs (PySem.W.kla_fn "<lambda>" q params body scope cl pm (.ref c') ctv) ⟨[],[]⟩=pure []) (hlen:σ.length=N.length)
  (C:CellsOk N σ scope cl H (frs X.stack) s.heap) (hx:Passes (CXE X.prog X.w) X E)
  (hb:Room k (X.A.deeper (PySem.W.envX q scope s.heap.objs.size f (.ref c') cl))→PE (qU X.prog X.w X.K X.mg X.base N q scope f c' cl X.A X.stack s H E) body te) (h:te σ H Q):
  wpAny (model X.prog X.w) X.A (call (.ref f) []) (EP X pins σ1 Q) X.xe s:=by
 have hcell:∀x∈scope.names,x.2≠ .cell:=fun x hx=>(C.none_ x hx).2
 refine wpAny_call (codeAny_mono (R:=CR (CXE X.prog X.w) X.stack X.prog X.w H s Q E) ?_ fun r s' hq=>?_)
 ·refine PySem.W.kla_callFunE hr.depth ho rfl hco hgen rfl (zn (I.hok c' _ hc')) ?_
  rw[hbind]
  refine wpAny_pure (wpAny_newFunctionEnv hcell (fun y hy=>nomatch hy) (fun h₁ hns hsb=>⟨I.nolimit.fresh _ hsb,?_⟩) hk)
  show codeAny _ _ (.expr body (PySem.W.envX q scope s.heap.objs.size f (.ref c') cl)) _ _
  have hk₁:∀b o,s.heap.get? b=some o→h₁.get? b=some o:=fun b o e=>hsb.extBut b o (Nat.ne_of_lt (Heap.lt_size e)) (Heap.get?_push_of_some _ e)
  have vis:∀x,Vis scope x→scope.names.lookup x=some .free:=fun x hv=>by
   rcases hv with z|z|z
   ·exact absurd rfl (C.none_ _ (PySem.mem_of_lookup z)).1
   ·exact absurd rfl (C.none_ _ (PySem.mem_of_lookup z)).2
   ·exact z
  have J:Inv (qU X.prog X.w X.K X.mg X.base N q scope f c' cl X.A X.stack s H E) [] σ H {s with heap:=h₁,toks:=s.toks+([]:List (Str × Value)).length}:=by
   refine⟨⟨I.ok.mod,hk,rfl,rfl,Nat.le_refl _,C.inj,fun x hx'=>?_,(fun x c z _=>nomatch z),fun _=>hh,Around.frames_deeper I.ok.frames,.inr ⟨rfl,rfl⟩,fun b z=>absurd (show b∈([]:List Addr)from z) (by simp),I.bs,Nat.le_trans I.ok.bsz I.sz,fun b _ _ z=>absurd (show b∈([]:List Addr)from z) (by simp),fun b z=>absurd (show b∈([]:List Addr)from z) (by simp),I.stack,I.Z8⟩,
    rfl,I.bare,Un.kept hk₁,⟨_,hns,fun i x v h1 h2 h3=>?_⟩,fun x c e=>?_,I.hok.fresh (Nat.le_refl _),fun x c e=>(C.cell x c e).1,fun p hp=>absurd (show p∈([]:List (Addr × Obj))from hp) (by simp),I.hok.kept hk₁,hlen⟩
   ·have hx'':scope.names.lookup x=some .cell∨scope.names.lookup x=some .free:=hx'
    rcases hx'' with z|z
    ·exact absurd rfl (C.none_ _ (PySem.mem_of_lookup z)).2
    ·exact C.has x z
   ·obtain⟨u,c,r,e,⟨o,e1,e2⟩⟩:=C.val i x v h1 h2 (vis x h3)
    exact⟨u,r,.inr ⟨.inr (vis x h3),c,e,⟨o,hk₁ _ _ e1,e2⟩⟩⟩
   ·obtain⟨_,_,v,o,e1,e2⟩:=C.cell x c e
    exact⟨v,o,hk₁ _ _ e1,e2⟩
  refine PySem.W.kla_codeExpr (wpAny_mono (hb (hr.deeper _) [] _ σ H Q J h) (fun v s' hq=>?_) fun e s' hq=>hq)
  obtain⟨y,H',J',r,q'⟩:=hq
  exact⟨y,H',J'.os,J'.bare,J'.base,J'.hok,r,q'⟩
 ·cases r with
  |error e=>exact hx pins σ1 H s e s' I hq
  |ok fl=>
   cases fl with
   |ret u=>exact I.after hq
   |next=>exact False.elim hq
   |brk=>exact False.elim hq
   |cont=>exact False.elim hq
end
end L2
set_option Elab.async false
set_option linter.all false
set_option maxRecDepth 100000
namespace L2
open PySem PySem.Spec PyProof.Rows
theorem Qbq{CX:CXT}{P:Program}{w:World}{K:PySem.W.Frag}{mg:Str→Option Value}{base:Heap}{k:Nat}{f:Addr}{name qual:Str}{params:Arguments}{body:List Stmt}{scope:Scope}{dV kV doc pm cdv ct oc:Value}{an od:Option Addr}
  {osl:Array (Option Value)} {N ps:List Str} {A:Around} {outer:List Env} {s:Shared} {H:Hp} {args:Args} {us:List Value} {vs:List V} {Q:VK} {E:XK}
  (lk:K.lookup f=some ⟨oc,od,.func (PySem.W.fnOf name qual params body scope dV kV doc pm an cdv ct),osl⟩) (hcd:PySem.W.codeIn K cdv qual=true) (S:FnScope N ps scope)
  (hr:Room (k+1) A) (e0:Env0 P w K mg base A outer s H) (hb:BindsTo s (PySem.W.fnOf name qual params body scope dV kV doc pm an cdv ct) args (ps.zip us)) (r:Vals vs us) (hl:vs.length=ps.length)
  (hbody:Room k (A.deeper (envOfC qual scope s.heap.objs.size f cdv))→
   ∃t,PSs (Vk CX P w K mg base N qual scope f cdv A outer s H E) body t∧t {nx:=fun _ H'=>Q .non H',rt:=Q} (start N vs) H):
  codeAny (model P w) A (.call (.ref f) args) (CR CX outer P w H s Q E) s:=by
 have KX:K.In s.heap:=e0.mod.kin.keeps fun b o e=>(e0.bs b o e).1
 have lim:s.heap.NoLimit:=e0.mod.nolimit.keeps fun b o e=>(e0.bs b o e).1
 have hkind:∀y∈ps.zip us,scope.names.lookup y.1=some .local∨(scope.names.lookup y.1=some .cell∧((cellsFrom (s.heap.objs.size+1) scope.names []).lookup y.1).isSome=true):=fun⟨n,v⟩ hy=>by
  rcases S.par n (List.of_mem_zip hy).1 with q|q
  ·exact .inl q
  ·exact .inr ⟨q,PySem.W.cellsFrom_some _ _ _ (.inl q)⟩
 refine codeAny_call_function hr.depth (KX _ _ lk) rfl S.co S.gen rfl (PySem.W.codeRec_of KX hcd) (hb _ _ _ _ ?_)
 refine wpAny_newFunctionEnv_cells S.kind hkind fun env he s1 x=>?_
 subst he
 refine⟨lim.keeps x.toInCall.keep,codeAny_func ?_⟩
 obtain⟨t,ht,hq⟩:=hbody (hr.deeper _)
 have I:Inv (Vk CX P w K mg base N qual scope f cdv A outer s H E) [] (start N vs) H s1:=Yd S hr.hd e0 hl r x
 refine wpAny_mono (ht [] s1 (start N vs) H _ I hq) (fun fl s' hs=>?_) fun e s' hs=>hs
 have fin:∀{σ':St}{H':Hp}{v:V}{u:Value},Inv (Vk CX P w K mg base N qual scope f cdv A outer s H E) [] σ' H' s'→RelV v u→Q v H'→CE outer P w H s Q u s':=
  fun{σ' H' v u} J rv q=>⟨v,H',J.os,J.bare,J.base,J.hok,rv,q⟩
 cases fl with
 |ret u=>
  obtain⟨v,σ',H',J,rv,q⟩:=hs
  exact fin J rv q
 |next=>
  obtain⟨σ',H',J,q⟩:=hs
  exact fin (v:=V.non) (u:=Value.none) J rfl q
 |brk=>
  obtain⟨_,_,_,q⟩:=hs
  exact False.elim q
 |cont=>
  obtain⟨_,_,_,q⟩:=hs
  exact False.elim q
structure LamAt(X:Cx)(N:List Str)(σ:St)(q:Str)(params:Arguments)(body:Expr)(scope:Scope)(f c':Addr)(cl:List (Str × Addr))(pm ctv:Value):Prop where
 ob:X.s₀.heap.get? f=some (PySem.W.kla_obj "<lambda>" q params body scope cl pm c' ctv)
 un:X.H₀ f=none
 fr:f∉X.fs
 code:X.H₀ c'=some (Xe c' q)
 kind:scope.kind=.function
 co:scope.isCoroutine=false
 gen:scope.isGenerator=false
 bind:bindArgs (PySem.W.kla_fn "<lambda>" q params body scope cl pm (.ref c') ctv) ⟨[],[]⟩=pure []
 len:σ.length=N.length
 cells:CellsOk N σ scope cl X.H₀ X.fs X.s₀.heap
def Qbr(i:Nat)(f c':Addr)(q:Str)(σ:St)(te:TE):TE:=fun σ1 H Q=>σ1[i]? =some (some (.ref f))∧H c'=some (Xe c' q)∧te σ H Q
section
variable {X:Cx}
theorem vK{k i:Nat}{x:Str}{p pos:Pos}{N:List Str}{σ:St}{q:Str}{params:Arguments}{body:Expr}{scope:Scope}{f c':Addr}{cl:List (Str × Addr)}{pm ctv:Value}{te:TE}{E:XK}
  (L:LamAt X N σ q params body scope f c' cl pm ctv) (hex:X.ex=[]) (hcalm:X.calm=true) (hN:X.N[i]? =some x) (hv:Vis X.env.scope x) (hr:Room (k+1) X.A) (hx:Passes (CXE X.prog X.w) X E)
  (hloc:∀x c,cl.lookup x=some c→c<X.s₀.heap.objs.size)
  (hb:∀s H,Room k (X.A.deeper (PySem.W.envX q scope s.heap.objs.size f (.ref c') cl))→PE (qU X.prog X.w X.K X.mg X.base N q scope f c' cl X.A X.stack s H E) body te)
  (hd:(x==("__debug__":Str))=false:=by decide) (hcd:(x==("__classdict__":Str))=false:=by decide):PE X (.Call (.Name x p) [] [] pos) (Qbr i f c' q σ te):=by
 intro pins s σ1 H Q I h
 obtain⟨h1,h2,h3⟩:=h
 have nex:∀b:Addr,b∉X.ex:=fun b z=>by rw[hex]at z;cases z
 have ho:=I.base.keep f _ L.ob L.un L.fr (nex f)
 refine wpAny_Call_Name_kw (thn (wD (X:=X) hN hv hd hcd pins s σ1 H (fun v H'=>v=.ref f∧H'=H) I ⟨_,h1,rfl,rfl⟩) fun u s1⟨v,H',I1,rv,e,e2⟩=>?_)
 subst e e2
 obtain rfl:u=Value.ref f:=rv
 have ho1:=I1.base.keep f _ L.ob L.un L.fr (nex f)
 have neL:∀b,b<X.s₀.heap.objs.size→b≠X.env.locals:=fun b hb=>Nat.ne_of_lt (Nat.lt_of_lt_of_le hb I1.ok.above)
 refine PySem.W.callWith_of (P:=fun h=>h=s1.heap) rfl (fun h e=>⟨.frame,.inl rfl,by subst e;exact(PySem.W.Looks.ld (part:=none) ho1).andThen .now⟩) (PyProof.Rows.evalArgs_nil3 ⟨rfl,?_⟩)
 refine kH I1 (I1.ok.hd hcalm) hr ho1 h2 L.kind L.co L.gen L.bind L.len ?_ hx (hb s1 H') h3
 refine⟨L.cells.inj,L.cells.has,L.cells.none_,fun x c e=>?_,fun j y v e1 e2 e3=>?_⟩
 ·obtain⟨a1,a2,v,o,a3,a4⟩:=L.cells.cell x c e
  refine⟨I1.base.free c o a3 a1 (nex c),fun z=>?_,v,o,I1.base.keep c o a3 a1 a2 (nex c),a4⟩
  rcases List.mem_cons.mp (I1.Xp c z)with z|z
  ·exact neL c (hloc x c e) z
  ·exact a2 z
 ·obtain⟨u,c,r,e,o,a3,a4⟩:=L.cells.val j y v e1 e2 e3
  obtain⟨a1,a2,_⟩:=L.cells.cell y c e
  exact⟨u,c,r,e,o,I1.base.keep c o a3 a1 a2 (nex c),a4⟩
end
end L2
set_option Elab.async false
set_option linter.all false
set_option maxRecDepth 100000
namespace L2
open PySem PySem.Spec PyProof.Rows
section
variable {X:Cx}
theorem qa{i:Int}(h:i.natAbs<2^2000):Builtin.Int.intBits i≤2^20:=Nat.le_trans (intBits_le h) (by decide)
def Qcl(i j:Int):Prop:=i.natAbs<2^2000∧j.natAbs<2^2000
theorem Ue:OpR X (binaryOp .Mult) (rI Qcl fun i j=>.int (i*j)):=opI fun _ _ _ _ _ _ _ hc q=>mul_int q (IntMulOk.of_bits (qa hc.1) (qa hc.2))
def Qbs(i j:Int):Prop:=0<j∧j.natAbs<2^2000
theorem kI:OpR X (binaryOp .FloorDiv) (rI Qbs fun i j=>.int (i/j)):=opI fun i j _ _ _ _ _ hc q=>by
 have hp:Builtin.divisionGoesByPylong i j=false:=PyProof.noPylong_of_log2 (by
  by_cases h0:j.natAbs=0
  ·rw[h0];decide
  ·have:=(Nat.log2_lt h0).mpr hc.2
   omega)
 refine floordiv_int (Int.ne_of_gt hc.1) ?_ (.inl hp)
 rw[Int.fdiv_eq_ediv_of_nonneg _ (Int.le_of_lt hc.1)]
 exact q
def V3(x:Str)(n:Nat):Str:=⟨(List.replicate n x.cps).foldl (· ++ ·) #[]⟩
theorem qV:OpR X (binaryOp .Mult) (fun x y H Q=>∃z n,x=.str z∧y=.int n∧0≤n∧z.length*n.toNat≤sizeLine∧n<2^40∧Q (.str (V3 z n.toNat)) H):=by
 intro pins s σ H x y v u Q I rx ry h
 obtain⟨z,n,rfl,rfl,h0,hl,hn,q⟩:=h
 obtain⟨t,rfl⟩:=rx
 obtain⟨t',rfl⟩:=ry
 have hlen:∀k:Nat,(V3 z k).cps.toList=(List.replicate k z.cps.toList).flatten:=fun k=>by
  unfold V3
  have:∀(l:List (Array Nat))(acc:Array Nat),(l.foldl (· ++ ·) acc).toList=acc.toList++(l.map (·.toList)).flatten:=by
   intro l
   induction l with
   |nil=>intro acc;simp
   |cons a r ih=>intro acc;rw[List.foldl_cons,ih];simp
  rw[this]
  simp
 refine PySem.P.mul_str ?_ ?_ ?_ ?_
 ·rw[decide_eq_false (by omega),decide_eq_false (by omega)];rfl
 ·intro h1 h2 h3
  have:(z.length:Int)*n≤2^63-1:=by
   have e:((z.length*n.toNat:Nat):Int)=(z.length:Int)*n:=by push_cast;rw[Int.toNat_of_nonneg h0]
   have:=KP
   omega
  have:=(Int.le_ediv_iff_mul_le (by omega:0<n)).mpr this
  omega
 ·intro h1 h2
  have:=hl
  exact decide_eq_false (Nat.not_lt.mpr hl)
 ·by_cases h1:n<1
  ·rw[if_pos h1]
   have e:V3 z n.toNat=Str.empty:=by rw[show n=0 by omega];rfl
   exact⟨by decide,.str (V3 z n.toNat),H,I.tok _,⟨_,by rw[e]⟩,q⟩
  ·rw[if_neg h1]
   by_cases h2:(n==1||z.length==0)=true
   ·rw[if_pos h2]
    have e:V3 z n.toNat=z:=by
     have:(V3 z n.toNat).cps.toList=z.cps.toList:=by
      rw[hlen]
      simp only[Bool.or_eq_true,beq_iff_eq]at h2
      rcases h2 with h2|h2
      ·rw[h2];simp
      ·have:z.cps.toList=[]:=by
        have h3:z.cps.size=0:=h2
        rw[Array.eq_empty_of_size_eq_zero h3]
       rw[this];simp
     have:(V3 z n.toNat).cps=z.cps:=by rw[←Array.toList_inj];exact this
     cases z
     cases hh:V3 _ n.toNat
     rw[hh]at this
     simp only at this
     rw[this]
    exact⟨.str (V3 z n.toNat),H,I,⟨t,by rw[e]⟩,q⟩
   ·rw[if_neg h2]
    refine⟨?_,.str (V3 z n.toNat),H,I.tok _,⟨_,rfl⟩,q⟩
    show(V3 z n.toNat).cps.size≤sizeLine
    rw[←Array.length_toList,hlen,List.length_flatten,List.map_replicate,List.sum_replicate_nat]
    have e:z.cps.toList.length=z.length:=by rw[Array.length_toList];rfl
    rw[e,Nat.mul_comm]
    exact hl
theorem Xw:Xb X (.type "int") (fun xs H Q=>∃x n,xs=[.str x]∧PySem.intText? x=some n∧x.length≤640∧Q (.int n) H):=by
 intro pins s σ H xs us Q I r h
 obtain⟨x,n,rfl,hn,hl,q⟩:=h
 obtain⟨u,rfl,t,rfl⟩:=vals1 r
 exact PySem.W.KIN.call_text hn hl ⟨.int n,H,I.tok _,⟨_,rfl⟩,q⟩
inductive EqD (K:PySem.W.Frag) (H:Hp):Nat→V→V→Bool→Prop where
 |flat {n:Nat} {x y:V} (fx:ZB x=true) (fy:ZB y=true):EqD K H n x y (eqV x y)
 |tup {n:Nat} {a b:Addr} {xs ys:List V} {e:Nat→Bool} (ne:a≠b) (ha:SqT K H a xs) (hb:SqT K H b ys) (he:∀j x y,xs[j]? =some x→ys[j]? =some y→EqD K H n x y (e j)):
   EqD K H (n+1) (.ref a) (.ref b) ((List.range (min xs.length ys.length)).all e&&xs.length==ys.length)
theorem ZC{pins:List (Addr × Obj)}{σ:St}{H:Hp}{s:Shared}{A:Around}{xs ys:List V}{its its2:List Value}{e:Nat→Bool}{n:Nat}(r1:Vals xs its)(r2:Vals ys its2)
  (he:∀j x y u v,xs[j]? =some x→ys[j]? =some y→RelV x u→RelV y v→SeqAt.EqAt A s u v (e j)):∀j(h1:j<its.toArray.size)(h2:j<its2.toArray.size),SeqAt.EqAt A s its.toArray[j] its2.toArray[j] (e j):=by
 intro j h1 h2
 have l1:=r1.length
 have l2:=r2.length
 rw[List.size_toArray]at h1 h2
 have k1:xs[j]? =some xs[j]:=List.getElem?_eq_getElem (by omega)
 have k2:ys[j]? =some ys[j]:=List.getElem?_eq_getElem (by omega)
 obtain⟨u,e1,q1⟩:=r1.get k1
 obtain⟨v,e2,q2⟩:=r2.get k2
 have z1:its.toArray[j]=u:=by
  rw[List.getElem?_eq_getElem h1]at e1
  simpa using Option.some.inj e1
 have z2:its2.toArray[j]=v:=by
  rw[List.getElem?_eq_getElem h2]at e2
  simpa using Option.some.inj e2
 rw[z1,z2]
 exact he j _ _ u v k1 k2 q1 q2
theorem EqD.at{pins:List (Addr × Obj)}{σ:St}{H:Hp}{s:Shared}(I:Inv X pins σ H s){n:Nat}{x y:V}{k:Bool}(d:EqD X.K H n x y k):∀{A:Around}{u v:Value},A.units+n<cLine→RelV x u→RelV y v→SeqAt.EqAt A s u v k:=by
 induction d with
 |flat fx fy=>intro A u v _ rx ry;exact wK rx ry fx fy
 |@tup n a b xs ys e ne ha hb he ih=>
  intro A u v hu rx ry
  obtain rfl:u=Value.ref a:=rx
  obtain rfl:v=Value.ref b:=ry
  obtain⟨its,r1,p1,_⟩:=I.tuple ha
  obtain⟨its2,r2,p2,_⟩:=I.tuple hb
  have l1:=r1.length
  have l2:=r2.length
  have z:=SeqAt.RcAt.tuples (A:=A) (s:=s) (e:=e) p1 p2 (by omega) (ZC (pins:=pins) (σ:=σ) (H:=H) (n:=n) r1 r2 fun j x y u v h1 h2 q1 q2=>ih j x y h1 h2 (A:=A.in1) (by show A.units+1+n<cLine;omega) q1 q2)
  rw[List.size_toArray,List.size_toArray, ←l1, ←l2]at z
  exact .of_refs ne z
def Qaj:V→List V→Hp→VK→Prop:=fun x vs H Q=>∃l xs y,x=.ref l∧vs=[y]∧H l=some (.lst xs)∧ZB y=true∧xs.all ZB=true∧Q (.int (xs.countP fun z=>eqV z y)) H
theorem W4{y:V}:∀{xs:List V}{us:List Value},Vals xs us→xs.all ZB=true→us.countP (eqU y)=xs.countP fun z=>eqV z y
 |_,_,.nil,_=>rfl
 |x::xs,u::us,.cons r t,h=>by
  rw[List.all_cons,Bool.and_eq_true]at h
  rw[List.countP_cons,List.countP_cons,W4 t h.2,Yf r h.1]
theorem kJ:MtR X "list.count" Qaj:=by
 intro pins s σ H x vs v us Q I rx rv h
 obtain⟨l,xs,y,rfl,rfl,hH,fy,fs,q⟩:=h
 obtain rfl:v=Value.ref l:=rx
 obtain⟨u,rfl,ru⟩:=vals1 rv
 obtain⟨z,its,n,r,hl,e⟩:=I.x3 hH
 refine call_meets PySem.F.slot_list_count ⟨_,e,rfl⟩ PySem.F.entry_list_count (PySem.F.args_list_count_2 _ _) (SeqAt.list_countAt l its.toArray n none #[] u (eqU y)) ⟨e,fun w hw=>J1 ru fy r fs w (by simpa using hw),?_⟩
 rw[show its.toArray.toList=its from rfl,W4 r fs]
 exact⟨.int _,H,I.tok _,⟨_,rfl⟩,q⟩
def Qak:V→List V→Hp→VK→Prop:=fun x vs H Q=>∃l xs y j,x=.ref l∧vs=[y]∧H l=some (.lst xs)∧ZB y=true∧xs.all ZB=true∧(∃z,xs[j]? =some z∧eqV z y=true)∧(∀i z,i<j→xs[i]? =some z→eqV z y=false)∧Q (.int (j:Nat)) H
theorem kK:MtR X "list.index" Qak:=by
 intro pins s σ H x vs v us Q I rx rv h
 obtain⟨l,xs,y,j,rfl,rfl,hH,fy,fs,⟨zj,hz,hit⟩,hno,q⟩:=h
 obtain rfl:v=Value.ref l:=rx
 obtain⟨u,rfl,ru⟩:=vals1 rv
 obtain⟨z,its,n,r,hl,e⟩:=I.x3 hH
 have hj:j<xs.length:=(List.getElem?_eq_some_iff.mp hz).1
 have at_:∀(i:Nat)(hi:i<its.toArray.size)(w:V),xs[i]? =some w→eqU y its.toArray[i]=eqV w y:=fun i hi w hw=>by
  obtain⟨w',e1,q1⟩:=r.get hw
  have hi':i<its.length:=by simpa using hi
  rw[List.getElem?_eq_getElem hi']at e1
  have z1:its.toArray[i]=w':=by simpa using Option.some.inj e1
  rw[z1]
  refine Yf q1 ?_
  exact List.all_eq_true.mp fs w (List.mem_of_getElem? hw)
 have hsz:its.toArray.size=xs.length:=by rw[List.size_toArray];exact hl.symm
 refine call_meets PySem.F.slot_list_index ⟨_,e,rfl⟩ PySem.F.entry_list_index (PySem.F.args_list_index_2 _ _)
  (SeqAt.list_indexAt l its.toArray n none #[] u (eqU y) j (by omega) (by have:=KP;omega) ?_ ?_) ⟨e,fun w hw=>J1 ru fy r fs w (by simpa using hw),⟨.int _,H,I.tok _,⟨_,rfl⟩,q⟩⟩
 ·rw[at_ j (by omega) zj hz];exact hit
 ·intro m hm hlt
  have:xs[m]? =some xs[m]:=List.getElem?_eq_getElem (by omega)
  rw[at_ m hm _ this]
  exact hno m _ hlt this
end
end L2
set_option Elab.async false
set_option linter.all false
set_option maxRecDepth 100000
namespace L2
open PySem PySem.Spec PyProof.Rows
structure ErrK(K:PySem.W.Frag)(C:Addr):Prop where
 ex:PySem.W.excIn K C [.type "ValueError",.type "Exception",.type "BaseException",.type "object"] "ValueError.__new__"=true
 ga:PySem.W.findIn K (.ref C) "__getattribute__"=some (some (.builtin "BaseException.__getattribute__"))
 gn:PySem.W.findIn K (.ref C) "__getattr__"=some none
 cl:PySem.W.findIn K (.ref C) "__class__"=some (some (.builtin "object.__class__"))
theorem ErrK.err{K:PySem.W.Frag}{C:Addr}(e:ErrK K C):Err K C:=⟨e.ex⟩
theorem Vo{K:PySem.W.Frag}{C:Addr}{h:Heap}(KX:K.In h)(e:Err K C):∃bm N nm q bs hdct sn sub ab col dd k0 k1 k2 k3 k5,h.get? C=some (excClassObj nm q C N bs bm hdct sn sub ab col dd k0 k1 k2 k3 k5 "ValueError.__new__")∧
  OwnTail h [.type "ValueError",.type "Exception",.type "BaseException",.type "object"] bm:=by
 have q:=e.ex
 unfold PySem.W.excIn at q
 split at q
 ·rename_i dd cd sl ho
  split at q
  ·rename_i C' bm k0 k1 k2 k3 n k5 hm hs
   simp only[Bool.and_eq_true,beq_iff_eq,Bool.not_eq_true']at q
   obtain⟨⟨⟨⟨⟨rfl,rfl⟩,hdel⟩,ht⟩,hok⟩,hni⟩:=q
   obtain⟨nm,bs,mro,ns,qn,hd,sn,sub,ab,col,del⟩:=cd
   dsimp only at hm hdel hok hni
   subst hm hdel
   have hsl:sl= #[k0,k1,k2,k3,some (.builtin "ValueError.__new__"),k5]:=by
    obtain⟨l⟩:=sl
    simp only at hs
    rw[hs]
   subst hsl
   exact⟨bm,ns,nm,qn,bs,hd,sn,sub,ab,col,dd,k0,k1,k2,k3,k5,KX _ _ ho,PySem.W.tail_of_in KX ht⟩
  ·cases q
 ·cases q
section
variable {prog:Program}{w:World}{A:Around}{E:Value→Shared→Prop}{h:Heap}{g:Array GenState}{d:Drawn}{t:Nat}{os:OsState}{K:PySem.W.Frag}{a C:Addr}{o:Obj}
theorem Vp{R:Result→Shared→Prop}(KX:K.In h)(e:ErrK K C)(hx:h.get? a=some o)(hc:o.cls=.ref C)(hq:R (.ok (.ret (.ref C))) ⟨h,g,d,t,os⟩):
  codeAny (model prog w) A (.call (.builtin "getset_descriptor.__get__") ⟨[.builtin "object.__class__",.ref a,.ref C],[]⟩) R ⟨h,g,d,t,os⟩:=by
 obtain⟨bm,N,nm,q,bs,hdct,sn,sub,ab,col,dd,k0,k1,k2,k3,k5,hC,T⟩:=Vo KX e.err
 have hT5:(⟨h,g,d,t,os⟩:Shared).TypeIs (.builtin "object.__class__") "getset_descriptor":=F.typeOf_object_class
 have hcB:(Value.ref C::bm).contains (.type (".".intercalate ("object.__class__".cutAt '.').dropLast))=true:=by
  rw[F.owner_object_class,List.contains_cons,T.hasType (X:="object") (b:=true) (by decide)];rfl
 refine codeAny_call_builtin F.slot_gs_get.plain F.entry_gs_get (F.slot_gs_get.check _ _ _ _ _ _ _ _ hT5 (F.args_gs_get _ _ _) ?_)
 repeat (any_goals (first|assumption|(with_reducible refine wpAny_loadPart_at hx ?_;rw[hc])|(with_reducible refine wpAny_isSubtype_exc hC ?_;rw[hcB])|wp_step))
 refine⟨Code.quiet_builtin _ (by decide+kernel),codeAny_builtin F.entry_object_class ?_⟩
 repeat (any_goals (first|assumption|(with_reducible refine wpAny_loadPart_at hx ?_;rw[hc])|wp_step))
theorem KZ{tk:Tok}{Q:Fin→Shared→Prop}(KX:K.In h)(e:ErrK K C)(hx:h.get? a=some o)(hc:o.cls=.ref C)(hq:Q (.done (.ret (.ref C))) ⟨h,g,d,t,os⟩):
  wpAny (model prog w) A (Builtin.«object.__getattribute__» ⟨[.ref a,.str "__class__" tk],[]⟩) Q E ⟨h,g,d,t,os⟩:=by
 have L:=PySem.W.looks_findIn (M:=model prog w) KX e.cl
 have hT5:(⟨h,g,d,t,os⟩:Shared).TypeIs (.builtin "object.__class__") "getset_descriptor":=F.typeOf_object_class
 have f5:=F.typeOf_object_class
 have f6:=F.slot_gs_get.lookup
 have f7:=F.slot_gs_set.lookup
 repeat (any_goals (first|assumption|(with_reducible refine wpAny_loadPart_at hx ?_;rw[hc])|with_reducible refine PySem.W.Looks.at L ?_|wp_step))
 refine Vp KX e hx hc ?_
 repeat (any_goals (first|assumption|wp_step))
theorem K1{M:Model}{nameV:Value}{Q:Unit→Shared→Prop}(KX:K.In h)(e:ErrK K C)(hx:h.get? a=some o)(hc:o.cls=.ref C)(hq:Q () ⟨h,g,d,t,os⟩):
  wpAny M A (checkBuiltinCall "BaseException.__getattribute__" ⟨[.ref a,nameV],[]⟩) Q E ⟨h,g,d,t,os⟩:=by
 obtain⟨bm,N,nm,q,bs,hdct,sn,sub,ab,col,dd,k0,k1,k2,k3,k5,hC,T⟩:=Vo KX e.err
 have hk:builtinKind "BaseException.__getattribute__"=some .slot:=by decide+kernel
 have hsplit:splitId "BaseException.__getattribute__"=some ("BaseException","__getattribute__"):=by decide+kernel
 have hcB:(Value.ref C::bm).contains (.type "BaseException")=true:=by rw[List.contains_cons,T.hasType (X:="BaseException") (b:=true) (by decide)];rfl
 have ha:=F.args_bexc_ga (.ref a) nameV
 simp only[checkBuiltinCall,hk,hsplit]
 refine wpAny_bind ?_
 ·unfold isInstance
  repeat (first|(with_reducible refine wpAny_loadPart_at hx ?_;rw[hc])|(with_reducible refine wpAny_isSubtype_exc hC ?_;rw[hcB])|wp_step)
  exact hq
theorem WM{tk:Tok}{R:Result→Shared→Prop}(KX:K.In h)(e:ErrK K C)(hx:h.get? a=some o)(hc:o.cls=.ref C)(hq:R (.ok (.ret (.ref C))) ⟨h,g,d,t,os⟩):
  codeAny (model prog w) A (.call (.builtin "BaseException.__getattribute__") ⟨[.ref a,.str "__class__" tk],[]⟩) R ⟨h,g,d,t,os⟩:=
 codeAny_call_builtin F.excAttr_ValueError.ga.plain F.entry_bexc_ga (K1 KX e hx hc (KZ KX e hx hc hq))
theorem Yq{tk:Tok}{Q:Value→Shared→Prop}(KX:K.In h)(e:ErrK K C)(hx:h.get? a=some o)(hc:o.cls=.ref C)(hq:Q (.ref C) ⟨h,g,d,t,os⟩):
  wpAny (model prog w) A (getAttrBy (.ref a) (.str "__class__" tk) false) Q E ⟨h,g,d,t,os⟩:=by
 have L1:=PySem.W.looks_findIn (M:=model prog w) KX e.ga
 have L2:=PySem.W.looks_findIn (M:=model prog w) KX e.gn
 have f3:=F.excAttr_ValueError.ga.bind (.ref a)
 have hx2:(Value.builtin "BaseException.__getattribute__"==Value.builtin "object.__getattribute__")=false:=by decide+kernel
 have hx1:(onTheHeap (Value.ref C)&&Value.builtin "BaseException.__getattribute__"==Value.builtin "object.__getattribute__")=false:=by rw[hx2];rfl
 repeat (any_goals (first|assumption|(with_reducible refine wpAny_loadPart_at hx ?_;rw[hc])|with_reducible refine PySem.W.Looks.at L1 ?_|with_reducible refine PySem.W.Looks.at L2 ?_|wp_step))
 refine WM KX e hx hc ?_
 repeat (any_goals (first|assumption|wp_step))
theorem WN{Q:Option Value→Shared→Prop}(KX:K.In h)(e:ErrK K C)(hx:h.get? a=some o)(hc:o.cls=.ref C)(hq:Q (some (.ref C)) ⟨h,g,d,t+1,os⟩):
  wpAny (model prog w) A (getAttr? (.ref a) "__class__") Q E ⟨h,g,d,t,os⟩:=by
 unfold getAttr? getAttrBy?
 repeat (any_goals (first|assumption|with_reducible apply Yq KX e hx hc|wp_step))
end
theorem kL{K:PySem.W.Frag}{a C:Addr}(e:ErrK K C):PySem.W.KitX K (.ref a) (.ref C) (fun h=>∃o,h.get? a=some o∧o.cls=.ref C) where
 ty:=fun M h X⟨o,e1,e2⟩=>by
  rw[←e2]
  exact(PySem.W.Looks.ld e1).andThen .now
 it:=fun M h X _=>by
  obtain⟨bm,N,nm,q,bs,hdct,sn,sub,ab,col,dd,k0,k1,k2,k3,k5,hC,T⟩:=Vo X e.err
  intro A' Q' E' s' k q
  unfold isType loadHead
  exact wpAny_bind (wpAny_loadPart (k _ _ hC) (wpAny_pure q))
 ne:=fun h tp dd its n sl X htp=>by
  obtain⟨bm,N,nm,q,bs,hdct,sn,sub,ab,col,dd,k0,k1,k2,k3,k5,hC,T⟩:=Vo X e.err
  refine Bool.eq_false_iff.mpr fun q=>?_
  have e:C=tp:=Value.ref.inj (beq_iff_eq.mp q)
  subst e
  rw[hC]at htp
  exact absurd (Value.type.inj (congrArg Obj.cls (Option.some.inj htp))) (by decide)
 ca:=fun{prog w A E Q s} X⟨o,e1,e2⟩ k=>by
  obtain⟨h,g,d,t,os⟩:=s
  exact WN X e e1 e2 k
section
variable {X:Cx}
def Qal:V→Bool
 | .ref _=>true
 | .ty _=>true
 |_=>false
def Qam:V→Value
 | .ref C=>.ref C
 | .ty n=>.type n
 |_=>.none
theorem vL{c:V}{u:Value}(h:Qal c=true)(r:RelV c u):u=Qam c:=by
 cases c<;>first|exact r|cases h
def Qcm(K:PySem.W.Frag):List V→Hp→VK→Prop:=fun xs H Q=>∃x c b,xs=[x,c]∧Qal c=true∧((∃t,TyOf K H x t∧PySem.W.kitOne K t (Qam c)=some b)∨∃a C,x=.ref a∧H a=some (x5 a (.ref C))∧ErrK K C∧PySem.W.kitOne K (.ref C) (Qam c)=some b)∧Q (.bl b) H
theorem Qx:Xb X (.builtin "isinstance") (Qcm X.K):=by
 intro pins s σ H xs us Q I r h
 obtain⟨x,c,b,rfl,hc,hx,q⟩:=h
 obtain⟨u,u2,rfl,ru,ru2⟩:=vals2 r
 obtain rfl:=vL hc ru2
 rcases hx with⟨t,ty,k⟩|⟨a,C,rfl,hH,e,k⟩
 ·exact j5 I ru ty k fun tk=>⟨.bl b,H,I.tok tk,rfl,q⟩
 ·obtain rfl:u=Value.ref a:=ru
  obtain⟨⟨o,vs,e1,e2,_⟩,_⟩:=(show Q7 X.prog X.w H s.heap a (x5 a (.ref C))from I.hok a _ hH)
  exact PySem.W.kia_one (kL e) I.kIn ⟨o,e1,e2⟩ k (fun z=>nomatch z) fun tk=>⟨.bl b,H,I.tok tk,rfl,q⟩
end
end L2
set_option Elab.async false
set_option linter.all false
set_option maxRecDepth 100000
namespace L2
open PySem PySem.Spec PyProof.Rows
def kM(P:Addr)(H:Hp):Prop:=H P=some (.tbl #[])∧∀b,b≠P→H b=none∨∃o xs,H b=some (.frz o (.lst xs))
def Uf(K:PySem.W.Frag):Bool:=K.all fun p=>match p.2.cls with
 | .type n=> !(n=="list")
 |_=>true
theorem qW{K:PySem.W.Frag}{a:Addr}{o:Obj}(h:Uf K=true)(e:K.lookup a=some o):o.cls≠ .type "list":=fun z=>by
 have q:=List.all_eq_true.mp h (a,o) (PySem.W.mem_of_lookupK e)
 dsimp only at q
 rw[z]at q
 exact absurd q (by decide)
theorem zo{Pr:Program}{w:World}{K:PySem.W.Frag}{mg mb:Str→Option Value}{CX:CXT}{k:Nat}{fa a c P:Addr}{fd:FuncData}{x:Str}{sp:Sp}{s₁:Shared}{vs:List Value}{ns:List Int}
  (KX:K.In s₁.heap) (nL:Uf K=true) (nT:PySem.W.noTabs K=true) (hns:s₁.heap.Ns mainGlobals mg) (hb:s₁.heap.Ns builtinsNs mb) (hbb:∀x:Str,x≠"__name__"→mb x=bootBuiltins x) (hlim:s₁.heap.NoLimit) (hg:s₁.gens= #[])
  (hC:PySem.W.CodeHd s₁.heap c P) (hP:s₁.heap.get? P=some (PySem.W.tabObj #[])) (hbm:∃bm ob,mg "__builtins__"=some (.ref bm)∧bm≠builtinsNs∧s₁.heap.get? bm=some ob∧ob.cls=.type "module"∧ob.dict=some builtinsNs∧ob.data=.plain)
  (ha:s₁.heap.get? a=some {cls:=.type "list",data:=.seq vs.toArray}) (hi:IntsAre vs ns) (hl:ns.length≤sizeLine) (hr:Room k callerA)
  (F:∀base:Heap,K.In base→base.Ns mainGlobals mg→Lamb mg base c P→FnOk Pr w K mg base CX k fa fd [x] sp) (hbind:∀(s:Shared)(u:Value),BindsTo s fd ⟨[u],[]⟩ [(x,u)])
  (hsp:∀H:Hp,kM P H→(∃o,H a=some (.frz o (.lst (ns.map V.int))))→sp [.ref a] H (fun v _=>v=.bl true) fun _ _ _=>False)
  (hCX:∀H e s',CX [] H s₁ (fun _ _ _=>False) e s'→False):
  codeAny (model Pr w) callerA (.call (.ref fa) ⟨[.ref a],[]⟩) (fun r s'=>r=.ok (.ret (.bool true))∧OldK s₁.heap s'.heap∧s'.os=s₁.os∧AllBare s'.gens) s₁:=by
 have rv:=Ym hi
 have lenV:=hi.length
 have hPa:P≠a:=fun z=>by rw[z,ha]at hP;cases hP
 have hKP:K.lookup P=none:=by
  cases q:K.lookup P with
  |none=>rfl
  |some o=>
   have e:=KX P o q
   rw[hP]at e
   cases e
   have z:=List.all_eq_true.mp nT (P,_) (PySem.W.mem_of_lookupK q)
   exact absurd (show false=true from z) Bool.false_ne_true
 have core:∀H:Hp,kM P H→(∃o,H a=some (.frz o (.lst (ns.map V.int))))→HOk Pr w H s₁.heap→(∀b,H b≠none→b=a∨b=P)→(H a≠none→K.lookup a=none)→
   codeAny (model Pr w) callerA (.call (.ref fa) ⟨[.ref a],[]⟩) (fun r s'=>r=.ok (.ret (.bool true))∧OldK s₁.heap s'.heap∧s'.os=s₁.os∧AllBare s'.gens) s₁:=by
  intro H hO hS hok hA hK
  have base_of:∀{b:Addr}{o:Obj},s₁.heap.get? b=some o→H b=none→(xY s₁.heap H).get? b=some o:=fun e n=>kd e n
  have noO:∀{b:Addr}{o:Obj},s₁.heap.get? b=some o→(∀vs n,o.data≠ .seq vs n)→(o.cls≠ .none)→H b=none:=fun{b o} e d1 d2=>by
   cases q:H b with
   |none=>rfl
   |some u=>
    rcases hA b (by rw[q];simp)with z|z
    ·subst z
     rw[ha]at e
     cases e
     exact absurd rfl (d1 _ _)
    ·subst z
     rw[hP]at e
     cases e
     exact absurd rfl d2
  have noA:∀{b:Addr}{o:Obj}{es:Array DictEntry}{ep:Nat},s₁.heap.get? b=some o→o.data=.dict es ep→H b=none:=fun{b o es ep} e d=>by
   cases q:H b with
   |none=>rfl
   |some u=>
    rcases hA b (by rw[q];simp)with z|z
    ·subst z
     rw[ha]at e
     cases e
     cases d
    ·subst z
     rw[hP]at e
     cases e
     cases d
  have nsK:∀{b:Addr}{m:Str→Option Value},s₁.heap.Ns b m→(xY s₁.heap H).Ns b m:=fun{b m}⟨o,es,ep,e,d,r⟩=>⟨o,es,ep,base_of e (noA e d),d,r⟩
  have hKb:K.In (xY s₁.heap H):=fun b o e=>base_of (KX b o e) (by
   cases q:H b with
   |none=>rfl
   |some u=>
    rcases hA b (by rw[q];simp)with z|z
    ·subst z
     rw[hK (by rw[q];simp)]at e
     cases e
    ·subst z
     rw[hKP]at e
     cases e)
  have hM:Mod K mg (xY s₁.heap H):=⟨hKb,nsK hns,⟨mb,nsK hb,hbb⟩,let ⟨mc,h1,h2⟩:=hlim;⟨mc,nsK h1,h2⟩⟩
  have e0:Env0 Pr w K mg (xY s₁.heap H) callerA [] s₁ H:=⟨rfl,hM,fun b o e=>vj e,Nat.le_of_eq (jN _ _),trivial,fun b hb=>absurd (show b∈([]:List Addr)from hb) (by simp),hok,.of_eq hg⟩
  have L:Lamb mg (xY s₁.heap H) c P:=by
   obtain⟨o,vs',file,tf,flags,tg,inF,text,tt,e1,r1,r2,r⟩:=hC
   obtain⟨bm,ob,b1,b2,b3,b4,b5,b6⟩:=hbm
   exact⟨⟨o,vs',file,tf,flags,tg,inF,text,tt,base_of e1 (noO e1 (fun vs n z=>by rw[r2]at z;cases z) fun z=>by rw[r1]at z;cases z),r1,r2,r⟩,
    ⟨bm,ob,b1,b2,base_of b3 (noO b3 (fun vs n z=>by rw[b6]at z;cases z) fun z=>by rw[b4]at z;cases z),b4,b5,b6⟩⟩
  refine codeAny_mono ((F _ hKb (nsK hns) L).run callerA [] s₁ H ⟨[.ref a],[]⟩ [.ref a] [.ref a] _ _ hr e0 (hbind s₁ (.ref a)) (.cons rfl .nil) (hsp H hO hS)) fun r s' h=>?_
  cases r with
  |error e=>exact(hCX H e s' h).elim
  |ok fl=>
   cases fl with
   |next=>exact False.elim h
   |brk=>exact False.elim h
   |cont=>exact False.elim h
   |ret u=>
    obtain⟨v,H',os,bare,un,hok',r',q⟩:=h
    have q':v=.bl true:=q
    subst q'
    obtain rfl:u=Value.bool true:=r'
    have tabK:∃ps,s'.heap.get? P=some (PySem.W.tabObj ps):=by
     obtain⟨more,e⟩:=un.tbls P #[] hO.1
     exact⟨_,hok' P _ e⟩
    have keep:∀b o,b≠P→s₁.heap.get? b=some o→s'.heap.get? b=some o:=fun b o hbP e=>by
     cases q:H b with
     |none=>exact un.keep b o e q (by intro z;exact absurd (show b∈([]:List Addr)from z) (by simp)) (by simp)
     |some u=>
      rcases hO.2 b hbP with z|⟨ob,xs,z⟩
      ·rw[q]at z;cases z
      ·have z2:=un.frzs b ob _ z
       obtain⟨e1,_⟩:=hok b _ z
       obtain⟨e2,_⟩:=hok' b _ z2
       rw[e]at e1;cases e1
       exact e2
    refine⟨rfl,⟨fun b o e=>?_,fun b o e=>?_⟩,os,bare⟩
    ·by_cases hbP:b=P
     ·subst hbP
      rw[hP]at e
      cases e
      obtain⟨ps,e2⟩:=tabK
      exact .inr (.inl ⟨(hC.tab hP).isCodeTable,rfl, #[],ps,rfl,by rw[Array.empty_append];exact e2⟩)
     ·exact .inl (keep b o hbP e)
    ·by_cases hbP:b=P
     ·subst hbP
      obtain⟨ps,e2⟩:=tabK
      exact⟨_,e2⟩
     ·exact⟨o,keep b o hbP e⟩
 cases hk:K.lookup a with
 |some o=>
  have e:=KX a o hk
  rw[ha]at e
  cases e
  exact absurd rfl (qW nL hk)
 |none=>
  refine core (fun b=>if b=a then some (.frz {cls:=.type "list",data:=.seq vs.toArray} (.lst (ns.map V.int)))else if b=P then some (.tbl #[])else none) ⟨?_,fun b hb=>?_⟩ ⟨{cls:=.type "list",data:=.seq vs.toArray},if_pos rfl⟩ (fun b u z=>?_) (fun b z=>?_) fun _=>hk
  ·show(if P=a then _ else if P=P then _ else _)=_
   rw[if_neg hPa,if_pos rfl]
  ·by_cases h1:b=a
   ·exact .inr ⟨_,_,if_pos h1⟩
   ·exact .inl (by show(if b=a then _ else if b=P then _ else _)=_;rw[if_neg h1,if_neg hb])
  ·by_cases h1:b=a
   ·have z':=(if_pos h1).symm.trans z
    cases z'
    subst h1
    exact⟨ha,by rw[List.length_map];exact hl,vs,_,rv,ha⟩
   ·have z1:=(if_neg h1).symm.trans z
    by_cases hb:b=P
    ·subst hb
     have z':=(if_pos rfl).symm.trans z1
     cases z'
     exact hP
    ·have z':=(if_neg hb).symm.trans z1
     cases z'
  ·by_cases h1:b=a
   ·exact .inl h1
   ·by_cases hb:b=P
    ·exact .inr hb
    ·exact absurd ((if_neg h1).trans (if_neg hb)) z
theorem kN{l:PySem.W.OpenLaw}{n k:Nat}{q:Program}{loose:List Str}{XP:(Str→Option Value)→Heap→Prop}{YP:World→Heap→Prop}{d d':DefRec}{K:Params→PySem.W.Frag}{CX:World→CXT}{sp:World→Addr→Sp}{x:Str}
  (hn:l.most=some n) (hn2:n≤sizeLine) (hdf:d.params.defaults=[]) (hr:Room k callerA)
  (hY:∀(w:World)(h:Heap),YP w h→(K w.params).In h) (nL:∀w:World,Uf (K w.params)=true) (nT:∀w:World,PySem.W.noTabs (K w.params)=true) (hrec:(recsOf q).find? (fun e=>e.name==d.name)=some d')
  (hT:∀w:World,∃c P,PySem.W.tabIn (K w.params) d.name=some (c,P))
  (F:∀(w:World)(mg:Str→Option Value)(fa:Addr)(h:Heap),(K w.params).In h→h.Ns mainGlobals mg→mg d.name=some (.ref fa)→
   ∃fd:FuncData,(∀(s:Shared)(u:Value),BindsTo s fd ⟨[u],[]⟩ [(x,u)])∧
    ∀(base:Heap)(c P:Addr),PySem.W.tabIn (K w.params) d.name=some (c,P)→(K w.params).In base→base.Ns mainGlobals mg→Lamb mg base c P→FnOk l.prog w (K w.params) mg base (CX w) k fa fd [x] (sp w P))
  (hsp:∀(w:World)(H:Hp)(a P:Addr)(ns:List Int),ns.length≤n→kM P H→(∃o,H a=some (.frz o (.lst (ns.map V.int))))→sp w P [.ref a] H (fun v _=>v=.bl true) fun _ _ _=>False)
  (hCX:∀(w:World)(H:Hp)(s:Shared)(e:Value)(s':Shared),CX w [] H s (fun _ _ _=>False) e s'→False):
  PySem.W.WalkO q loose XP YP l.row.toRowW d [] (fun f vs=>PySem.call f vs):=by
 refine Att.Uc hn hdf fun w s₀ s₁ mg mb fa o pm cd doc a vs ns G Y ho hd hcd hmg hobj hints hlen hg=>?_
 have KX:=hY w _ Y
 obtain⟨fd,hb,hF⟩:=F w mg fa _ KX G.T.g hmg
 obtain⟨c,P,ht⟩:=hT w
 obtain⟨hC,hP⟩:=PySem.W.tab_of G.T KX hrec ht
 exact zo (c:=c) (P:=P) (sp:=sp w P) KX (nL w) (nT w) G.T.g G.T.b G.T.builtins G.T.nolimit hg hC hP G.T.bmain hobj hints (Nat.le_trans hlen hn2) hr (fun base kb nb L=>hF base c P ht kb nb L) hb (fun H hO hS=>hsp w H a P ns hlen hO hS) fun H e s'=>hCX w H s₁ e s'
end L2
set_option Elab.async false
set_option linter.all false
set_option maxRecDepth 100000
namespace L2
open PySem PySem.Spec PyProof.Rows
section
variable {X:Cx}
end
def Jf(cells:List (Str × Addr)):List (Str × NameKind)→List (Str × Addr)→List (Str × Addr)
 |[],acc=>acc
 |(n,k)::r,acc=>Jf cells r (if k==.free then(n,(cells.lookup n).getD 0)::acc else acc)
theorem zp{env:Env}:∀(names:List (Str × NameKind))(acc:List (Str × Addr)),(∀y∈names,y.2=.free→∃c,env.cells.lookup y.1=some c)→
  (forIn names acc fun x(cs:List (Str × Addr))=>(do
   let (name,kind):=x
   if kind==.free then
    let c←cellOf env name
    pure (ForInStep.yield ((name,c)::cs))
   else pure (ForInStep.yield cs):Sem (ForInStep (List (Str × Addr)))))=pure (Jf env.cells names acc)
 |[],acc,_=>rfl
 |(n,k)::r,acc,h=>by
  rw[List.forIn_cons]
  have ih:=fun acc'=>zp (env:=env) r acc' fun y hy=>h y (List.mem_cons_of_mem _ hy)
  by_cases hk:k=.free
  ·subst hk
   obtain⟨c,hc⟩:=h (n,.free) List.mem_cons_self rfl
   have hc':env.cells.lookup n=some c:=hc
   show _=pure (Jf env.cells r (if NameKind.free==NameKind.free then _ else _))
   have e:cellOf env n=pure c:=by unfold cellOf;rw[hc']
   simp only[beq_self_eq_true,if_true,e,pure_bind,hc',Option.getD_some]
   exact ih _
  ·have hb:(k==NameKind.free)=false:=beq_eq_false_iff_ne.mpr hk
   show _=pure (Jf env.cells r (if k==NameKind.free then _ else _))
   simp only[hb,Bool.false_eq_true,if_false,pure_bind]
   exact ih _
theorem JL{scope:Scope}{env:Env}(h:∀y∈scope.names,y.2=.free→∃c,env.cells.lookup y.1=some c):closureFor scope env=pure (Jf env.cells scope.names []):=by
 unfold closureFor
 have:=zp (env:=env) scope.names [] h
 simp only[bind_pure]at this ⊢
 exact this
theorem Xx{cells:List (Str × Addr)}{x:Str}{c:Addr}:∀(names:List (Str × NameKind))(acc:List (Str × Addr)),(∀y∈names,y.2=.free→∃c,cells.lookup y.1=some c)→(acc.lookup x=some c→cells.lookup x=some c)→
  (Jf cells names acc).lookup x=some c→cells.lookup x=some c
 |[],_,_,h,e=>h e
 |(n,k)::r,acc,h0,h,e=>by
  unfold Jf at e
  refine Xx r _ (fun y hy=>h0 y (List.mem_cons_of_mem _ hy)) (fun e'=>?_) e
  split at e'
  ·rename_i hk
   rw[List.lookup_cons]at e'
   split at e'
   ·rename_i hx
    have hx':x=n:=eq_of_beq hx
    subst hx'
    obtain⟨d,hd⟩:=h0 (x,k) List.mem_cons_self (eq_of_beq hk)
    have hd':cells.lookup x=some d:=hd
    rw[hd']at e' ⊢
    exact e'
   ·exact h e'
  ·exact h e'
theorem Zl{cells:List (Str × Addr)}{x:Str}:∀(names:List (Str × NameKind))(acc:List (Str × Addr)),((∃c,acc.lookup x=some c)∨(x,NameKind.free)∈names)→∃c,(Jf cells names acc).lookup x=some c
 |[],acc,h=>by
  rcases h with h|h
  ·exact h
  ·cases h
 |(n,k)::r,acc,h=>by
  unfold Jf
  refine Zl r _ ?_
  rcases h with⟨c,h⟩|h
  ·refine .inl ?_
   split
   ·rw[List.lookup_cons]
    split
    ·exact⟨_,rfl⟩
    ·exact⟨c,h⟩
   ·exact⟨c,h⟩
  ·rcases List.mem_cons.mp h with e|h
   ·cases e
    refine .inl ?_
    rw[if_pos (by rfl),List.lookup_cons,beq_self_eq_true]
    exact⟨_,rfl⟩
   ·exact .inr h
end L2
set_option Elab.async false
set_option linter.all false
set_option maxRecDepth 100000
namespace L2
open PySem PySem.Spec PyProof.Rows
section
variable {P:Program}{w:World}{K:PySem.W.Frag}{mg:Str→Option Value}{base:Heap}
theorem okE{x qual:Str}{st:Stmt}{f:Addr}{fd:FuncData}{N ps:List Str}{k:Nat}{sp:Sp}(F:Fun K x qual st f fd)(S:FnScope N ps (Qd st))(len:∀vs H Q E,sp vs H Q E→vs.length=ps.length)
  (hbody:∀(cdv:Value)(A:Around)(outer:List Env)(s:Shared)(H:Hp)(vs:List V)(Q:VK)(E:XK),Room k (A.deeper (envOfC qual (Qd st) s.heap.objs.size f cdv))→sp vs H Q E→
   ∃t,PSs (Vk (CXE P w) P w K mg base N qual (Qd st) f cdv A outer s H E) (QM st) t∧t {nx:=fun _ H'=>Q .non H',rt:=Q} (start N vs) H):FnOk P w K mg base (CXE P w) (k+1) f fd ps sp:=by
 obtain⟨oc,od,kV,doc,pm,an,cdv,ct,osl,rfl,lk,hcd⟩:=F.ex
 exact yW lk hcd S len fun A outer s H vs Q E hr hsp=>hbody cdv A outer s H vs Q E hr hsp
theorem okN{x qual:Str}{st:Stmt}{f:Addr}{fd:FuncData}{N ps:List Str}{k:Nat}{sp:Sp}(F:Fun K x qual st f fd)(S:FnScope N ps (Qd st))(len:∀vs H Q E,sp vs H Q E→vs.length=ps.length)
  (hbody:∀(cdv:Value)(A:Around)(outer:List Env)(s:Shared)(H:Hp)(vs:List V)(Q:VK)(E:XK),Room k (A.deeper (envOfC qual (Qd st) s.heap.objs.size f cdv))→sp vs H Q E→
   ∃t,PSs (Vk (CXE P w) P w K mg base N qual (Qd st) f cdv A outer s H E).nox (QM st) t∧t {nx:=fun _ H'=>Q .non H',rt:=Q} (start N vs) H):FnOk P w K mg base (CXE P w) (k+1) f fd ps sp:=
 okE F S len fun cdv A outer s H vs Q E hr hsp=>by
  obtain⟨t,h,q⟩:=hbody cdv A outer s H vs Q E hr hsp
  exact⟨t,h.nox,q⟩
end
structure PEx(X:Cx)(e:Expr)(t:TE):Prop where
 pe:PE X e t
structure PSx(X:Cx)(e:List Stmt)(t:TS):Prop where
 ps:PSs X e t
theorem Qbt{X:Cx}{k1 k2 v1 v2:Expr}{pos pos':Pos}{t1 t2 u1 u2:TE}(h1:PEx X k1 t1)(h2:PEx X v1 u1)(h3:PEx X k2 t2)(h4:PEx X v2 u2):PSx X [.Return (some (.Dict [some k1,some k2] [v1,v2] pos)) pos'] (vn (kC [(t1,u1),(t2,u2)])):=
 ⟨Qm (QD (zk (Vn h1.pe h2.pe (Vn h3.pe h4.pe zi)) rfl rfl (List.cons_ne_nil _ _) (Nat.le_of_ble_eq_true rfl)))⟩
theorem qX{X:Cx}{x y:Str}{i:Int}{p1 p2 p3 p4 p5 p6:Pos}{j1 j2 j3:Nat}:PSx X [.Return (some (.Dict [some (.Constant (.str x) j1 p1),some (.Constant (.str y) j2 p2)] [.Constant (.int i) j3 p3,.Dict [] [] p4] p5)) p6] (vn (kC [(tC (.str x),tC (.int i)),(tC (.str y),wN)])):=
 Qbt ⟨Qq⟩ ⟨Qf⟩ ⟨Qq⟩ ⟨kB⟩
theorem zq{P:Program}{w:World}{K:PySem.W.Frag}{mg:Str→Option Value}{base:Heap}{x qual:Str}{st:Stmt}{f:Addr}{fd:FuncData}{N ps:List Str}{k:Nat}{sp:Sp}(F:Fun K x qual st f fd)(S:FnScope N ps (Qd st))(len:∀vs H Q E,sp vs H Q E→vs.length=ps.length)
  (hbody:∀(cdv:Value)(A:Around)(outer:List Env)(s:Shared)(H:Hp)(vs:List V)(Q:VK)(E:XK),Room k (A.deeper (envOfC qual (Qd st) s.heap.objs.size f cdv))→sp vs H Q E→
   ∃t,PSx (Vk (CXE P w) P w K mg base N qual (Qd st) f cdv A outer s H E).nox (QM st) t∧t {nx:=fun _ H'=>Q .non H',rt:=Q} (start N vs) H):FnOk P w K mg base (CXE P w) (k+1) f fd ps sp:=
 okN F S len fun cdv A outer s H vs Q E hr hsp=>by
  obtain⟨t,h,q⟩:=hbody cdv A outer s H vs Q E hr hsp
  exact⟨t,h.ps,q⟩
structure Def(P:Program)(w:World)(K:PySem.W.Frag)(mg:Str→Option Value)(base:Heap)(k:Nat)(x:Str)(ps:List Str)(sp:Sp):Prop where
 ex:∃f fd,mg x=some (.ref f)∧PySem.W.keepIn K (.ref f)=true∧Binds K fd ps []∧FnOk P w K mg base (CXE P w) k f fd ps sp
section
variable {X:Cx}{k k':Nat}{x:Str}{ps:List Str}{sp:Sp}{E:XK}{p pos:Pos}{e:Expr}{es:List Expr}{t:TA}
theorem Def.pe(D:Def X.prog X.w X.K X.mg X.base k x ps sp)(hr:Room k' X.A)(hk:k≤k')(hg:Gl X x)(hx:Passes (CXE X.prog X.w) X E)(ha:PA X (e::es) t)(hdb:(x==("__debug__":Str))=false:=by decide)
  (he:starEach (e::es) X.env=(false,eval e X.env)::starEach es X.env:=by rfl) (hpl:(backTo pos (starEach es X.env)).any (·.1)=false:=by rfl):PE X (.Call (.Name x p) (e::es) [] pos) (V8 sp [] E t):=by
 obtain⟨f,fd,h1,h2,h3,h4⟩:=D.ex
 exact vz h4 (hr.mono hk) hg h1 h2 h3 .nil hx ha hdb he hpl
theorem Def.pe0(D:Def X.prog X.w X.K X.mg X.base k x ps sp)(hr:Room k' X.A)(hk:k≤k')(hg:Gl X x)(hx:Passes (CXE X.prog X.w) X E)(hdb:(x==("__debug__":Str))=false:=by decide):
  PE X (.Call (.Name x p) [] [] pos) (V8 sp [] E Kn):=by
 obtain⟨f,fd,h1,h2,h3,h4⟩:=D.ex
 exact ku h4 (hr.mono hk) hg h1 h2 h3 .nil hx hdb
end
section
variable {X:Cx}{k k':Nat}{x:Str}{ps ks:List Str}{sp:Sp}{E:XK}{p pos:Pos}{e:Expr}{es:List Expr}{t tk:TA}{kws:List Keyword}
end
theorem ifB{c:Bool}{A B:Prop}(hT:c=true→A)(hF:c=false→B):if c=true then A else B:=by
 cases c with
 |true=>rw[if_pos rfl];exact hT rfl
 |false=>rw[if_neg (by decide)];exact hF rfl
theorem Qan(x y:Bool):(!decide (V.bl x=V.bl y))=(x !=y):=by cases x<;>cases y<;>rfl
theorem vM(x y:Int):decide (V.int x=V.int y)=decide (x=y):=by
 by_cases h:x=y
 ·subst h;simp
 ·rw[decide_eq_false (fun e=>h (V.int.inj e)),decide_eq_false h]
theorem Qbu{A:Around}{k:Nat}(hr:Room k A):A.units+1+1<cLine:=Nat.lt_of_le_of_lt (by omega:A.units+1+1≤A.units+64) hr.units
theorem SqL.upd{K:PySem.W.Frag}{H:Hp}{a b:Addr}{o:HO}{xs:List V}(h:SqL K H a xs)(n:a≠b):SqL K (upd H b o) a xs:=by
 rcases h with(h|⟨o',h⟩)|h
 ·exact .inl (.inl (by rw[Qi n];exact h))
 ·exact .inl (.inr ⟨o',by rw[Qi n];exact h⟩)
 ·exact .inr h
theorem SqT.same{K:PySem.W.Frag}{H H':Hp}{a:Addr}{xs:List V}(e:Qg H H')(h:SqT K H a xs):SqT K H' a xs:=by
 rcases h with(h|⟨o,h⟩)|h
 ·exact .inl (.inl (e _ _ h))
 ·exact .inl (.inr ⟨o,e _ _ h⟩)
 ·exact .inr h
theorem Qg.new{H:Hp}{p:Addr}{o:HO}(h:H p=none):Qg H (upd H p o):=fun b u e=>by rw[Qi (Qr e h)];exact e
structure TownAt(H:Hp)(t r:Addr)(c:Int)(rs:List (Key × V)):Prop where
 tw:H t=some (.dK [(Sum.inr "count",.int c),(Sum.inr "rests",.ref r)])
 rt:H r=some (.dK rs)
 vs:∀kv∈rs,∃k z,kv=(Sum.inl k,V.int z)
 c0:0≤c
 ln:(rs.length:Int)≤c
 ne:t≠r
theorem TownAt.same{H H':Hp}{t r:Addr}{c:Int}{rs:List (Key × V)}(T:TownAt H t r c rs)(e:Qg H H'):TownAt H' t r c rs:=⟨e _ _ T.tw,e _ _ T.rt,T.vs,T.c0,T.ln,T.ne⟩
def Apart(t r:Addr)(H H':Hp):Prop:=∀b o,H b=some o→b≠t→b≠r→H' b=some o
theorem Apart.trans{t r:Addr}{H H1 H2:Hp}(a:Apart t r H H1)(b:Apart t r H1 H2):Apart t r H H2:=fun c o e n1 n2=>b c o (a c o e n1 n2) n1 n2
theorem Apart.of{t r:Addr}{H H1:Hp}(a:Qg H H1):Apart t r H H1:=fun c o e _ _=>a c o e
theorem Apart.seq{K:PySem.W.Frag}{t r a:Addr}{H H':Hp}{xs:List V}(e:Apart t r H H')(h:SqL K H a xs)(n1:a≠t)(n2:a≠r):SqL K H' a xs:=by
 rcases h with(h|⟨o,h⟩)|h
 ·exact .inl (.inl (e _ _ h n1 n2))
 ·exact .inl (.inr ⟨o,e _ _ h n1 n2⟩)
 ·exact .inr h
theorem Ys{rs:List (Key × V)}(h:∀kv∈rs,∃k z,kv=(Sum.inl k,V.int z)) (k:Int) (d:Int):∃z,(Y8 rs (Sum.inl k:Key)).getD (.int d)=.int z:=by
 cases e:rs.find? fun kv=>decide (kv.1=(Sum.inl k:Key))with
 |none=>exact⟨d,by unfold Y8;rw[e];rfl⟩
 |some p=>
  obtain⟨k',z,rfl⟩:=h p (List.mem_of_find?_eq_some e)
  exact⟨z,by unfold Y8;rw[e];rfl⟩
theorem Yt{rs:List (Key × V)}(h:∀kv∈rs,∃k z,kv=(Sum.inl k,V.int z)) (k z:Int):(∀kv∈putK rs (Sum.inl k:Key) (.int z),∃k z,kv=(Sum.inl k,V.int z))∧(putK rs (Sum.inl k:Key) (.int z)).length≤rs.length+1:=by
 unfold putK
 split
 ·refine⟨fun kv hm=>?_,by rw[List.length_map];omega⟩
  obtain⟨p,hp,rfl⟩:=List.mem_map.mp hm
  obtain⟨k',z',rfl⟩:=h p hp
  split
  ·exact⟨k',z,rfl⟩
  ·exact⟨k',z',rfl⟩
 ·refine⟨fun kv hm=>?_,by rw[List.length_append];exact Nat.le_refl _⟩
  rcases List.mem_append.mp hm with hm|hm
  ·exact h kv hm
  ·exact⟨k,z,List.mem_singleton.mp hm⟩
theorem zr:¬ ((Sum.inr "count":Key)=(Sum.inr "rests":Key)):=by
 have h:¬ ("count":Str)="rests":=by decide+kernel
 exact fun e=>h (Sum.inr.inj e)
theorem kO(c d:Int)(r:Addr):putK [((Sum.inr "count":Key),V.int c),(Sum.inr "rests",V.ref r)] (Sum.inr "count") (.int d)=[((Sum.inr "count":Key),V.int d),((Sum.inr "rests":Key),V.ref r)]:=by
 have h:¬ ((Sum.inr "rests":Key)=(Sum.inr "count":Key)):=fun e=>zr e.symm
 unfold putK
 rw[if_pos (by simp)]
 simp only[List.map_cons,List.map_nil,if_true,if_neg h]
theorem ZS{H:Hp}{t r:Addr}{c:Int}(h:H t=some (.dK [(Sum.inr "count",.int c),(Sum.inr "rests",.ref r)])):U6 H t (.str "count") (some (.int c)):=by
 have e:=U6.k (k:=(Sum.inr "count":Key)) h
 rw[JC rfl]at e
 exact e
theorem ZT{H:Hp}{t r:Addr}{c:Int}(h:H t=some (.dK [(Sum.inr "count",.int c),(Sum.inr "rests",.ref r)])):U6 H t (.str "rests") (some (.ref r)):=by
 have e:=U6.k (k:=(Sum.inr "rests":Key)) h
 rw[Jb zr,JC rfl]at e
 exact e
theorem qY{H:Hp}{t r:Addr}{c:Int}(d:Int)(h:H t=some (.dK [(Sum.inr "count",.int c),(Sum.inr "rests",.ref r)])):zf H t (.str "count") (.int d) (upd H t (.dK [(Sum.inr "count",.int d),(Sum.inr "rests",.ref r)])):=by
 have e:=zf.k (k:=(Sum.inr "count":Key)) (v:=.int d) h (by show 2<sizeLine;decide)
 rw[kO]at e
 exact e
def W5(K:PySem.W.Frag):Sp:=fun vs H Q _=>∃(a t r:Addr)(ns:List Int)(c many:Int)(rs:List (Key × V)),vs=[.ref a,.ref t,.int many]∧SqL K H a (ns.map V.int)∧TownAt H t r c rs∧a≠t∧a≠r∧ns.length≤63∧c<100000∧0<many∧many<1000000∧
 ∀(v:Int)(rs':List (Key × V))(H':Hp),0≤v→v<many→TownAt H' t r (c+1) rs'→Apart t r H H'→Q (.int v) H'
def Ug:Sp:=fun vs H Q _=>vs=[]∧∀(t r:Addr)(H':Hp),H t=none→H r=none→TownAt H' t r 0 []→Qg H H'→Q (.ref t) H'
structure Own(mg:Str→Option Value):Prop where
 len:mg "len"=none
 range:mg "range"=none
 abs:mg "abs"=none
 max:mg "max"=none
 int:mg "int"=none
 isi:mg "isinstance"=none
 bool:mg "bool"=none
 val:mg "ValueError"=none
 reversed:mg "reversed"=none
 divmod:mg "divmod"=none
 str:mg "str"=none
 sum:mg "sum"=none
end L2
set_option Elab.async false
set_option linter.all false
set_option maxRecDepth 100000
namespace L2
open PySem PySem.Spec PyProof.Rows
def E00:XK:=fun _ _ _=>False
theorem LamAt.alt{X:Cx}{N:List Str}{σ:St}{q:Str}{params:Arguments}{body:Expr}{scope:Scope}{f c':Addr}{cl:List (Str × Addr)}{pm ctv:Value}{pn:List (Addr × Obj)}{xe:Value→Shared→Prop}
  (L:LamAt X N σ q params body scope f c' cl pm ctv):LamAt (X.alt pn xe) N σ q params body scope f c' cl pm ctv:=
 ⟨L.ob,L.un,L.fr,L.code,L.kind,L.co,L.gen,L.bind,L.len,L.cells⟩
def Qa0(P:Addr)(q:Str)(th:St→Addr→Addr→Hp→VK→Prop):TE:=fun σ H Q=>WL H P q∧∀(f c':Addr)(H1:Hp),H1 f=none→H1 c'=some (Xe c' q)→WL H1 P q→(∀b o,H b=some o→b≠P→H1 b=some o)→th σ f c' H1 Q
section
variable {X:Cx}{k:Nat}{x qual:Str}{st:Stmt}{fa:Addr}{fd:FuncData}{N:List Str}{p1:Str}{E:XK}{c P:Addr}{q:Str}{params:Arguments}{body:Expr}{scope:Scope}{p lpos cpos:Pos}{th:St→Addr→Addr→Hp→VK→Prop}
theorem qZ(F:Fun X.K x qual st fa fd)(S:FnScope N [p1] (Qd st))(hm:X.mg x=some (.ref fa))(hg:Gl X x)(hb:Binds X.K fd [p1] [])(hr:Room (k+1) X.A)(hx:Passes (CXE X.prog X.w) X E)
  (L:Lamb X.mg X.base c P) (hcode:X.env.code=.ref c) (hq:q=X.env.qual++"<lambda>") (hdef:defaultsOf params X.env=([],[])) (hfn:∀y,X.fn y=true)
  (sk:scope.kind=.function) (sco:scope.isCoroutine=false) (sgen:scope.isGenerator=false) (snone:∀y∈scope.names,y.2≠ .local∧y.2≠ .cell) (sfree:∀y∈scope.names,y.2=.free→X.env.scope.names.lookup y.1=some .cell)
  (hbind:∀cl pm c' ctv,bindArgs (PySem.W.kla_fn "<lambda>" q params body scope cl pm (.ref c') ctv) ⟨[],[]⟩=pure [])
  (hbody:∀(cdv:Value)(σ:St)(f c':Addr)(cl:List (Str × Addr))(pm ctv:Value)(s1:Shared)(H1:Hp)(Q:VK),
   LamAt (Vk (CXE X.prog X.w) X.prog X.w X.K X.mg X.base N qual (Qd st) fa cdv X.A X.stack s1 H1 E) X.N σ q params body scope f c' cl pm ctv→
   (∀x c,cl.lookup x=some c→c<s1.heap.objs.size)→Room k (X.A.deeper (envOfC qual (Qd st) s1.heap.objs.size fa cdv))→th σ f c' H1 Q→
   ∃t,PSs (Vk (CXE X.prog X.w) X.prog X.w X.K X.mg X.base N qual (Qd st) fa cdv X.A X.stack s1 H1 E) (QM st) t∧t {nx:=fun _ H'=>Q .non H',rt:=Q} (start N [.ref f]) H1)
  (hdb:(x==("__debug__":Str))=false:=by decide):PE X (.Call (.Name x p) [.Lambda params body scope lpos] [] cpos) (Qa0 P q th):=by
 intro pins s σ H Q I h
 obtain⟨hT,h⟩:=h
 obtain⟨oc,od,kV,doc,pm',an,cdv,ct,osl,rfl,lk,hcd⟩:=F.ex
 have has:∀y∈scope.names,y.2=.free→∃c,X.env.cells.lookup y.1=some c:=fun y hy e=>I.ok.has y.1 (.inl (sfree y hy e))
 refine wpAny_Call_Name_kw (Z9 I hg hm ?_ hdb)
 refine PySem.W.callWith_K (h₀:=X.base) I.ok.mod.kin F.kp ?_ rfl rfl
 show wpAny _ _ (spliced ((false,eval (.Lambda params body scope lpos) X.env)::[])) _ _ s
 refine Calls.spliced_cons (kG I L hcode hq hdef (JL has) hT fun f c' pm ctv H1 s1 I1 ob un fr code T1 keep kp=>Calls.spliced_nil ⟨I1.kIn,?_⟩)
 have fs0:∀b∈frs X.stack,∃o,s.heap.get? b=some o:=fun b hb=>let ⟨o,e,_⟩:=(I.stack.mem hb).2;⟨o,e⟩
 have cs:∀y d,(Jf X.env.cells scope.names []).lookup y=some d→X.env.cells.lookup y=some d:=fun y d e=>Xx scope.names [] has (fun z=>nomatch z) e
 have frS:∀b∈frs X.stack,b=X.env.locals∨b∈X.fs:=fun b hb=>List.mem_cons.mp (I.Xp b hb)
 have LA:LamAt (Vk (CXE X.prog X.w) X.prog X.w X.K X.mg X.base N qual (Qd st) fa cdv X.A X.stack s1 H1 E) X.N σ q params body scope f c' (Jf X.env.cells scope.names []) pm ctv:=by
  refine⟨ob,un,fun hf=>?_,code,sk,sco,sgen,hbind _ _ _ _,I.len,⟨fun y z d e1 e2=>I.ok.inj y z d (cs y d e1) (cs z d e2),fun y hy=>Zl scope.names [] (.inr (PySem.mem_of_lookup hy)),snone,fun y d e=>?_,fun j y v e1 e2 e3=>?_⟩⟩
  ·obtain⟨o,e⟩:=fs0 f hf
   exact absurd (Heap.lt_size e) (Nat.not_lt.mpr fr)
  ·refine⟨I1.freeC y d (cs y d e),fun hf=>?_,I1.cell y d (cs y d e)⟩
   rcases frS d hf with z|z
   ·exact I.cne y d (cs y d e) z
   ·obtain⟨o,eo⟩:∃o,X.s₀.heap.get? d=some o:=let ⟨o,e,_⟩:=(I.ok.V2.mem z).2;⟨o,e⟩
    exact absurd (Heap.lt_size eo) (Nat.not_lt.mpr (I.ok.cab y d (hfn y) (cs y d e)))
  ·have hy:X.env.scope.names.lookup y=some .cell:=sfree _ (PySem.mem_of_lookup e3) rfl
   obtain⟨m,_,hl⟩:=I1.loc
   obtain⟨u,r,lk'⟩:=hl j y v e1 e2 (.inr (.inl hy))
   obtain⟨d,hd⟩:=I.ok.has y (.inl hy)
   rcases lk' with⟨kk,_⟩|⟨_,d',hd',hc⟩
   ·have z:X.env.scope.names.lookup y=some .local:=kk
    rw[hy]at z
    cases z
   ·obtain⟨d2,hd2⟩:=Zl (cells:=X.env.cells) scope.names [] (.inr (PySem.mem_of_lookup e3))
    have:=cs y d2 hd2
    rw[hd']at this
    cases this
    exact⟨u,d',r,hd2,hc⟩
 have hlo:∀y d,(Jf X.env.cells scope.names []).lookup y=some d→d<s1.heap.objs.size:=fun y d e=>by
  obtain⟨v,o,e1,_⟩:=I1.cell y d (cs y d e)
  exact Heap.lt_size e1
 have hB:=hb s1 [.ref f] I1.kIn rfl
 refine wpAny_call (codeAny_mono (Qbq (N:=N) (ps:=[p1]) (Q:=Q) (E:=E) lk hcd S hr I1.QaZ hB (vs:=[.ref f]) (.cons rfl .nil) rfl fun hr'=>hbody cdv σ f c' _ pm ctv s1 H1 Q LA hlo hr' (h f c' H1 un code T1 keep)) fun r s' hq=>?_)
 cases r with
 |error e=>exact hx pins σ H1 s1 e s' I1 hq
 |ok fl=>
  cases fl with
  |ret u=>exact I1.after hq
  |next=>exact False.elim hq
  |brk=>exact False.elim hq
  |cont=>exact False.elim hq
end
def qc(sc outer:Scope):Bool:=sc.names.all fun y=> !(y.2==.free)||outer.names.lookup y.1==some .cell
theorem K2{sc outer:Scope}(h:qc sc outer=true):∀y∈sc.names,y.2=.free→outer.names.lookup y.1=some .cell:=fun y hy e=>by
 have q:=List.all_eq_true.mp h y hy
 rw[e]at q
 simpa using q
structure FunC(K:PySem.W.Frag)(x qual:Str)(st:Stmt)(f:Addr)(fd:FuncData)(cdv:Value):Prop where
 ex:∃(oc:Value)(od:Option Addr)(kV doc pm:Value)(an:Option Addr)(ct:Value)(osl:Array (Option Value)),
  fd=PySem.W.fnOf x qual (Je st) (QM st) (Qd st) .none kV doc pm an cdv ct∧K.lookup f=some ⟨oc,od,.func fd,osl⟩∧PySem.W.codeIn K cdv qual=true
theorem Qcn{P:Program}{w:World}{K:PySem.W.Frag}{mg:Str→Option Value}{base:Heap}{x qual:Str}{st:Stmt}{f:Addr}{fd:FuncData}{cdv:Value}{N ps:List Str}{k:Nat}{sp:Sp}(F:FunC K x qual st f fd cdv)(S:FnScope N ps (Qd st))(len:∀vs H Q E,sp vs H Q E→vs.length=ps.length)
  (hbody:∀(A:Around)(outer:List Env)(s:Shared)(H:Hp)(vs:List V)(Q:VK)(E:XK),Room k (A.deeper (envOfC qual (Qd st) s.heap.objs.size f cdv))→sp vs H Q E→
   ∃t,PSs (Vk (CXE P w) P w K mg base N qual (Qd st) f cdv A outer s H E).nox (QM st) t∧t {nx:=fun _ H'=>Q .non H',rt:=Q} (start N vs) H):FnOk P w K mg base (CXE P w) (k+1) f fd ps sp:=by
 obtain⟨oc,od,kV,doc,pm,an,ct,osl,rfl,lk,hcd⟩:=F.ex
 exact yW lk hcd S len fun A outer s H vs Q E hr hsp=>by
  obtain⟨t,h,q⟩:=hbody A outer s H vs Q E hr hsp
  exact⟨t,h.nox,q⟩
structure DefAt(K:PySem.W.Frag)(x:Str)(st:Stmt):Prop where
 ex:∃f fd,PySem.W.nsIn K mainGlobals x=some (some (.ref f))∧Fun K x x st f fd
theorem kP{K:PySem.W.Frag}{x:Str}{st:Stmt}{f:Addr}{oc:Value}{od an:Option Addr}{osl:Array (Option Value)}{kV doc pm cdv ct:Value}(a:PySem.W.nsIn K mainGlobals x=some (some (.ref f)))
  (l:K.lookup f=some ⟨oc,od,.func (PySem.W.fnOf x x (Je st) (QM st) (Qd st) .none kV doc pm an cdv ct),osl⟩) (c:PySem.W.codeIn K cdv x=true) (k:PySem.W.keepIn K (.ref f)=true):DefAt K x st:=
 ⟨f,_,a,⟨⟨oc,od,kV,doc,pm,an,cdv,ct,osl,rfl,l,c⟩,k⟩⟩
section
variable {P:Program}{w:World}{K:PySem.W.Frag}{mg:Str→Option Value}{base h:Heap}{x:Str}{st:Stmt}{k:Nat}{ps:List Str}{sp:Sp}
theorem DefAt.def(D:DefAt K x st)(X:K.In h)(G:h.Ns mainGlobals mg)(hok:∀f fd,Fun K x x st f fd→FnOk P w K mg base (CXE P w) k f fd ps sp)
  (hb:∀(kV doc pm:Value)(an:Option Addr)(cdv ct:Value)(us:List Value),us.length=ps.length→bindArgs (PySem.W.fnOf x x (Je st) (QM st) (Qd st) .none kV doc pm an cdv ct) ⟨us,[]⟩=pure (ps.zip us)):Def P w K mg base k x ps sp:=by
 obtain⟨f,fd,a,F⟩:=D.ex
 exact⟨f,fd,PySem.W.mg_of X G a,F.kp,F.binds hb,hok f fd F⟩
end
theorem Qao{K:PySem.W.Frag}{x:Str}{f c P:Addr}{oc oc2:Value}{od od2:Option Addr}{osl osl2:Array (Option Value)}{fd:FuncData}{vs:Array Value}(a:PySem.W.nsIn K mainGlobals x=some (some (.ref f)))(l:K.lookup f=some ⟨oc,od,.func fd,osl⟩)(hc:fd.code=.ref c)
  (lc:K.lookup c=some ⟨oc2,od2,.fields vs,osl2⟩) (hv:(vs[11]? :Option Value)=some (.ref P)):PySem.W.tabIn K x=some (c,P):=by
 unfold PySem.W.tabIn
 simp only[a,l,hc,lc,hv]
theorem all_true(n:Nat):(List.range n).all (fun _=>true)=true:=List.all_eq_true.mpr fun _ _=>rfl
inductive Like (K:PySem.W.Frag) (H:Hp) (n:Nat):List V→List V→Prop where
 |nil:Like K H n [] []
 |cons {x y:V} {xs ys:List V} (h:EqD K H n x y true) (t:Like K H n xs ys):Like K H n (x::xs) (y::ys)
theorem Like.len{K:PySem.W.Frag}{H:Hp}{n:Nat}{xs ys:List V}(l:Like K H n xs ys):xs.length=ys.length:=by
 induction l with
 |nil=>rfl
 |cons h t ih=>rw[List.length_cons,List.length_cons,ih]
theorem Like.at{K:PySem.W.Frag}{H:Hp}{n:Nat}{xs ys:List V}(l:Like K H n xs ys):∀(j:Nat)(x y:V),xs[j]? =some x→ys[j]? =some y→EqD K H n x y true:=by
 induction l with
 |nil=>intro j x y h;cases h
 |cons h t ih=>
  intro j x y h1 h2
  cases j with
  |zero=>cases h1;cases h2;exact h
  |succ j=>exact ih j x y h1 h2
structure LawSt(H:Hp)(a t r Pa:Addr)(q:Str)(ns:List Int)(c:Int):Prop where
 sc:∃o,H a=some (.frz o (.lst (ns.map V.int)))
 tw:∃rs,TownAt H t r c rs
 tab:WL H Pa q
 ln:ns.length≤63
theorem WL.same{H H':Hp}{P:Addr}{q:Str}(T:WL H P q)(e:Qg H H'):WL H' P q:=by
 obtain⟨ps,h1,h2,h3⟩:=T
 exact⟨ps,e _ _ h1,h2,fun p cv z=>let ⟨a,z1,z2⟩:=h3 p cv z;⟨a,z1,e _ _ z2⟩⟩
section
variable {H H':Hp}{a t r Pa:Addr}{q:Str}{ns:List Int}{c c':Int}{K:PySem.W.Frag}
theorem LawSt.same(S:LawSt H a t r Pa q ns c)(e:Qg H H'):LawSt H' a t r Pa q ns c:=
 ⟨let ⟨o,h⟩:=S.sc;⟨o,e _ _ h⟩,let ⟨rs,h⟩:=S.tw;⟨rs,h.same e⟩,S.tab.same e,S.ln⟩
theorem LawSt.nat(S:LawSt H a t r Pa q ns c):a≠t:=fun z=>by
 obtain⟨o,h⟩:=S.sc
 obtain⟨rs,h2⟩:=S.tw
 rw[z,h2.tw]at h
 cases h
theorem LawSt.nar(S:LawSt H a t r Pa q ns c):a≠r:=fun z=>by
 obtain⟨o,h⟩:=S.sc
 obtain⟨rs,h2⟩:=S.tw
 rw[z,h2.rt]at h
 cases h
theorem LawSt.sq(S:LawSt H a t r Pa q ns c):SqL K H a (ns.map V.int):=let ⟨o,h⟩:=S.sc; .inl (.inr ⟨o,h⟩)
theorem LawSt.keep(S:LawSt H a t r Pa q ns c)(A:Apart t r H H'){b:Addr}{o:HO}(e:H b=some o)(n:∀kvs,o≠ .dK kvs):H' b=some o:=by
 obtain⟨rs,h2⟩:=S.tw
 refine A b o e (fun z=>?_) fun z=>?_
 ·rw[z,h2.tw]at e;cases e;exact n _ rfl
 ·rw[z,h2.rt]at e;cases e;exact n _ rfl
theorem LawSt.drawn(S:LawSt H a t r Pa q ns c)(A:Apart t r H H'){rs:List (Key × V)}(T:TownAt H' t r c' rs):LawSt H' a t r Pa q ns c':=by
 obtain⟨o,h⟩:=S.sc
 obtain⟨ps,h1,h2,h3⟩:=S.tab
 exact⟨⟨o,S.keep A h fun _ z=>nomatch z⟩,⟨rs,T⟩,⟨ps,S.keep A h1 (fun _ z=>nomatch z),h2,fun p cv z=>let ⟨b,z1,z2⟩:=h3 p cv z;⟨b,z1,S.keep A z2 fun _ z=>nomatch z⟩⟩,S.ln⟩
theorem LawSt.zt(S:LawSt H a t r Pa q ns c)(k:∀b o,H b=some o→b≠Pa→H' b=some o) {b:Addr} {o:HO} (e:H b=some o) (n:∀ps,o≠ .tbl ps):H' b=some o:=by
 obtain⟨ps,h1,_⟩:=S.tab
 refine k b o e fun z=>?_
 rw[z,h1]at e
 cases e
 exact n _ rfl
theorem LawSt.lam(S:LawSt H a t r Pa q ns c)(k:∀b o,H b=some o→b≠Pa→H' b=some o) (T:WL H' Pa q):LawSt H' a t r Pa q ns c:=by
 obtain⟨o,h⟩:=S.sc
 obtain⟨rs,h2⟩:=S.tw
 exact⟨⟨o,S.zt k h fun _ z=>nomatch z⟩,⟨rs,S.zt k h2.tw (fun _ z=>nomatch z),S.zt k h2.rt (fun _ z=>nomatch z),h2.vs,h2.c0,h2.ln,h2.ne⟩,T,S.ln⟩
end
end L2
set_option Elab.async false
set_option linter.all false
set_option maxRecDepth 100000
namespace L2
open PySem PySem.Spec PyProof.Rows
def wO(scope:Scope)(env:Env)(C:Addr):Env:=
 {scope:=scope,locals:=C,globals:=env.globals,cells:=cellsFrom (C+1) scope.names [],qual:=env.qual,func:=none,code:=env.code,frame:=env.frame,builtins:=env.builtins}
abbrev Xf(X:Cx)(NB:List Str)(scope:Scope)(s:Shared)(H:Hp)(ex:List Addr):Cx:=
 {X with N:=NB,s₀:=s,H₀:=H,env:=wO scope X.env s.heap.objs.size,outer:=X.stack,ex:=ex,fn:=fun _=>true,pn:=[],xe:=fun _ _=>False}
structure BlkScope(NB:List Str)(scope:Scope):Prop where
 kind:scope.kind=.function
 nd:NB.Nodup
 nofree:∀y∈scope.names,y.2≠ .free
 loc:∀y∈scope.names,y.2=.local→scope.names.lookup y.1=some .local
theorem Yu{scope:Scope}{env:Env}(h:∀y∈scope.names,y.2≠ .free):relabel scope env=scope:=by
 obtain⟨k,names,g,c,m⟩:=scope
 have e:∀l:List (Str × NameKind),(∀y∈l,y.2≠ .free)→(l.map fun(n,k)=>if(k==NameKind.free&&env.scope.kind==.function&&env.kindOf n==some .cell)then(n,NameKind.cell)else(n,k))=l:=by
  intro l
  induction l with
  |nil=>intro _;rfl
  |cons y r ih=>
   intro hl
   obtain⟨n,k⟩:=y
   have hk:(k==NameKind.free)=false:=beq_eq_false_iff_ne.mpr (hl (n,k) List.mem_cons_self)
   rw[List.map_cons,ih fun y hy=>hl y (List.mem_cons_of_mem _ hy)]
   simp only[hk,Bool.false_and,Bool.false_eq_true,if_false]
 unfold relabel
 simp only[e names h]
theorem zu{scope:Scope}{env:Env}(h:∀y∈scope.names,y.2≠ .free):closureFor scope env=pure []:=by
 rw[JL fun y hy e=>absurd e (h y hy)]
 have e:∀(l:List (Str × NameKind))(acc:List (Str × Addr)),(∀y∈l,y.2≠ .free)→Jf env.cells l acc=acc:=by
  intro l
  induction l with
  |nil=>intro acc _;rfl
  |cons y r ih=>
   intro acc hl
   obtain⟨n,k⟩:=y
   have hk:(k==NameKind.free)=false:=beq_eq_false_iff_ne.mpr (hl (n,k) List.mem_cons_self)
   unfold Jf
   rw[hk]
   exact ih acc fun y hy=>hl y (List.mem_cons_of_mem _ hy)
 rw[e _ _ h]
theorem WO{M:Model}{A:Around}{E:Value→Shared→Prop}{s:Shared}{scope:Scope}{globals:Addr}{qual:Str}{env:Env}{Q:Env→Shared→Prop}(hk:scope.kind=.function)
  (hQ:∀cenv s',cenv={scope:=scope,locals:=s.heap.objs.size,globals:=globals,cells:=cellsFrom (s.heap.objs.size+1) scope.names [],qual:=qual,func:=none,code:=env.code,frame:=env.frame,builtins:=env.builtins}→
   InCallC s s.heap.objs.size (fun _=>none) (cellsFrom (s.heap.objs.size+1) scope.names []) (fun _=>none) s'→Q cenv s'):
  wpAny M A (newFunctionEnv scope globals [] [] qual none .none (some env)) Q E s:=by
 simp only[newFunctionEnv,Option.isSome_some,if_true]
 refine wpAny_bind (wpAny_alloc ?_)
 refine wpAny_bind (wpAny_layCells _ (fun name kind cells=>by cases hkc:kind==NameKind.cell<;>simp[hkc]) _ _ _ _ ?_)
 have ok:=cellsFrom_ok scope.names (s.heap.push {cls:=.type "dict",data:=.dict #[]}) (s.heap.objs.size+1) [] ⟨fun _ _ hm=>(nomatch hm),List.Pairwise.nil⟩ (by rw[Heap.size_push];exact Nat.le_refl _)
 rw[Heap.size_push]at ok
 rw[show({s with heap:=s.heap.push {cls:=.type "dict",data:=.dict #[]}}:Shared).heap.objs.size=s.heap.objs.size+1 from Heap.size_push ..]
 refine wpAny_bind (wpAny_pure (wpAny_pure (hQ _ _ rfl ?_)))
 exact⟨⟨⟨_,_,rfl⟩,(Heap.Ns.new s.heap (.type "dict")).keeps (pushCells_keeps _ _),fun b o e=>pushCells_keeps _ _ b o (Heap.get?_push_of_some _ e),Nat.le_refl _⟩,
   fun n c hc=>(ok.empty n c (mem_of_lookup hc)).1,ok.apart,fun n c hm=>(ok.empty n c hm).2⟩
section
variable {prog:Program}{w:World}{A:Around}{E:Value→Shared→Prop}{R:Result→Shared→Prop}{s:Shared}
theorem K3{elt target iter:Expr}{ifs:List Expr}{scope:Scope}{pos:Pos}{it acc:Value}{env:Env}(I:Nat→Shared→Prop)
  (turn:∀n s,I n s→wpAny (model prog w) A (pyNext it) (fun r s₁=>match r with
   |none=>R (.ok .next) s₁
   |some v=>wpAny (model prog w) A (letOwnedTupleGo target it v) (fun _ s₁'=>wpAny (model prog w) A (assign target env v) (fun _ s₂=>
     wpAny (model prog w) A (forIn ifs true fun c r=>if r=true then do let ok←isTrue c env (eval c env);pure (ForInStep.yield ok)else pure (ForInStep.yield r)) (fun ok s₃=>
      if ok=true then wpAny (model prog w) A (eval elt env) (fun x s₄=>
       wpAny (model prog w) A (call (.builtin "list.append") [acc,x]) (fun _ s₅=>∃m,m<n∧I m s₅) (notedBy (model prog w) A env fun e s'=>R (.error e) s') s₄) (notedBy (model prog w) A env fun e s'=>R (.error e) s') s₃
      else ∃m,m<n∧I m s₃) (notedBy (model prog w) A env fun e s'=>R (.error e) s') s₂) (notedBy (model prog w) A env fun e s'=>R (.error e) s') s₁') (notedBy (model prog w) A env fun e s'=>R (.error e) s') s₁) (notedBy (model prog w) A env fun e s'=>R (.error e) s') s)
  (n:Nat) (h:I n s):
  codeAny (model prog w) A (.compLoop (.ListComp elt [⟨target,iter,ifs,0⟩] scope pos) 0 it acc env) R s:=by
 refine codeAny_loop rfl I (fun n s hI=>?_) n h
 show wpAny _ A ((compTurn (.ListComp elt [⟨target,iter,ifs,0⟩] scope pos) 0 it acc env).onRaise (fun x=>do noteFrame x env;theTreesLotGoes x)) _ _ s
 refine wpAny_noted ?_
 rw[compTurn_list]
 refine wpAny_bind (wpAny_standAt (wpAny_bind (wpAny_mono (turn n s hI) (fun r s₁ h₁=>?_) fun _ _ h'=>h')))
 cases r with
 |none=>exact wpAny_pure h₁
 |some v=>
  refine wpAny_bind (wpAny_mono h₁ (fun _ s₁' h₁'=>?_) fun _ _ h'=>h')
  refine wpAny_bind (wpAny_mono h₁' (fun _ s₂ h₂=>wpAny_bind (wpAny_mono h₂ (fun ok s₃ h₃=>?_) fun _ _ h'=>h')) fun _ _ h'=>h')
  cases ok with
  |false=>exact wpAny_pure ⟨rfl,h₃⟩
  |true=>
   exact wpAny_bind (wpAny_bind (wpAny_mono h₃ (fun x s₄ h₄=>wpAny_bind (wpAny_mono h₄ (fun _ s₅ h₅=>wpAny_pure (wpAny_pure ⟨rfl,h₅⟩)) fun _ _ h'=>h')) fun _ _ h'=>h'))
end
def PTs(X:Cx)(ifs:List Expr)(t:TT):Prop:=
 ∀(pins:List (Addr × Obj))(s:Shared)(σ:St)(H:Hp)(Q:Bool→Hp→Prop),Inv X pins σ H s→t σ H Q→
  wpAny (model X.prog X.w) X.A (forIn ifs true fun c r=>if r=true then do let ok←isTrue c X.env (eval c X.env);pure (ForInStep.yield ok)else pure (ForInStep.yield r)) (TP X pins σ Q) X.xe s
def Qbv:TT:=fun _ H Q=>Q true H
theorem Jm{X:Cx}:PTs X [] Qbv:=fun pins s σ H Q I h=>wpAny_tests_nil ⟨H,I,h⟩
def vN(NB:List Str)(wi:TI)(g:TG)(tt:TT)(te:TE):TE:=fun σ H Q=>wi σ H fun J H1=>∃W:Nat→Nat→List V→Hp→Prop,(∃m,W 0 m [] H1)∧∀i m vs H,W i m vs H→
 (J.stop i H∧∀p,H p=none→Q (.ref p) (upd H p (.lst vs)))∨(J.go i H∧vs.length<sizeLine∧∃N:List V→Hp→Prop,(∀vs' H',N vs' H'→∃m',m'<m∧W (i+1) m' vs' H')∧
  ∀x H',J.yld i H x H'→g x (List.replicate NB.length none) H' fun σ2 H2=>tt σ2 H2 fun b H3=>if b=true then te σ2 H3 fun v H4=>N (vs++[v]) H4 else N vs H3)
abbrev Z0(ys:List Value):Obj:={cls:=.type "list",data:=.seq ys.toArray ys.length}
section
variable {X:Cx}
theorem ZU{elt tg iter:Expr}{ifs:List Expr}{scope:Scope}{pos:Pos}{NB:List Str}{wi:TI}{g:TG}{tt:TT}{te:TE}(hc:X.calm=true)(S:BlkScope NB scope)(hi:PI X tg iter wi)
  (hg:∀s H ex,PG (Xf X NB scope s H ex) tg g) (ht:∀s H ex,PTs (Xf X NB scope s H ex) ifs tt) (he:∀s H ex,PE (Xf X NB scope s H ex) elt te)
  (hs:∀x,foldedSetIterable iter X.env x=pure x:=by intro _;rfl):PE X (.ListComp elt [⟨tg,iter,ifs,0⟩] scope pos) (vN NB wi g tt te):=by
 intro pins s σ H Q I h
 rw[eval_ListComp]
 refine wpAny_comprehension_free (use:=none) (cl:=[]) rfl hs (zu S.nofree) S.kind S.loc (thn (hi pins s σ H _ I h) fun v s1 h1=>thn h1 fun itv s2 h2=>?_)
 obtain⟨it,fp,tn,J,H2,e,I2,T,st2,f2,W,⟨m0,w0⟩,turn⟩:=h2
 subst e
 refine wpAny_newObj_type ?_
 have up2:∀b o,s2.heap.get? b=some o→(s2.heap.push {cls:=.type "list",data:=.seq ([]:List Value).toArray}).get? b=some o:=fun b o e=>Heap.get?_push_of_some _ e
 have I3:Inv X pins σ H2 {s2 with heap:=s2.heap.push {cls:=.type "list",data:=.seq ([]:List Value).toArray}}:=I2.kept (t':=s2.toks) up2
 have st3:tn 0 (s2.heap.push {cls:=.type "list",data:=.seq ([]:List Value).toArray}):=T.keep _ _ _ st2 fun b _ o e=>up2 b o e
 have hD3:(s2.heap.push {cls:=.type "list",data:=.seq ([]:List Value).toArray}).get? s2.heap.objs.size=some (Z0 []):=Heap.get?_push_size _ rfl
 have hD2:H2 s2.heap.objs.size=none:=I2.hok.fresh (Nat.le_refl _)
 have lt2:∀b o,s2.heap.get? b=some o→b≠s2.heap.objs.size:=fun b o e=>Nat.ne_of_lt (Heap.lt_size e)
 have fpO:∀b∈fp,∃o,s2.heap.get? b=some o:=fun b hb=>let ⟨o,e,_⟩:=T.obj _ _ st2 b hb;⟨o,e⟩
 have hDs0:X.s₀.heap.objs.size≤s2.heap.objs.size:=I2.sz
 have hDL:s2.heap.objs.size≠X.env.locals:=Nat.ne_of_gt I2.lt
 have hDC:∀x c,X.env.cells.lookup x=some c→c≠s2.heap.objs.size:=fun x c e=>let ⟨v,o,e1,_⟩:=I2.cell x c e;lt2 c o e1
 have hDp:∀p∈X.pn++pins,p.1≠s2.heap.objs.size:=fun p hp=>lt2 p.1 _ (I2.pin p hp).1
 have hDf:s2.heap.objs.size∉frs X.stack:=fun z=>let ⟨o,e,_⟩:=(I2.stack.mem z).2;lt2 _ o e rfl
 generalize hS3:({s2 with heap:=s2.heap.push {cls:=.type "list",data:=.seq ([]:List Value).toArray}}:Shared)=s3 at I3 ⊢
 have hh3:s3.heap=s2.heap.push {cls:=.type "list",data:=.seq ([]:List Value).toArray}:=by rw[←hS3]
 rw[←hh3]at st3 hD3 up2
 generalize s2.heap.objs.size=D at hD3 hD2 lt2 hDs0 hDL hDC hDp hDf ⊢
 refine WO S.kind fun cenv s4 hce x4=>?_
 subst hce
 rw[Yu S.nofree]
 have lt3:∀b o,s3.heap.get? b=some o→b<s3.heap.objs.size:=fun b o e=>Heap.lt_size e
 have fp3:∀b∈fp,b<s3.heap.objs.size:=fun b hb=>let ⟨o,e⟩:=fpO b hb;lt3 b o (up2 b o e)
 have dl3:D<s3.heap.objs.size:=lt3 D _ hD3
 have DfpN:∀b∈fp,b≠D:=fun b hb=>let ⟨o,e⟩:=fpO b hb;lt2 b o e
 obtain⟨h4,tk4,rfl,hk4⟩:=x4.done
 have bsN:∀b o,X.base.get? b=some o→b∉D::fp:=fun b o e hb=>by
  rcases List.mem_cons.mp hb with rfl|hb
  ·exact absurd (Nat.lt_of_lt_of_le (Heap.lt_size (I2.ok.bs b o e).1) hDs0) (Nat.lt_irrefl _)
  ·obtain⟨_,_,_,f3,_⟩:=f2 b hb
   rcases f3 with z|z
   ·exact I2.ok.noex b o e z
   ·exact absurd (Nat.lt_of_lt_of_le (Heap.lt_size (I2.ok.bs b o e).1) z) (Nat.lt_irrefl _)
 have exF:∀b∈D::fp,b∉frs X.stack:=fun b hb hf=>by
  rcases List.mem_cons.mp hb with rfl|hb
  ·exact hDf hf
  ·obtain⟨_,f1,f2',_⟩:=f2 b hb
   rcases List.mem_cons.mp (I2.Xp b hf)with z|z
   ·exact f1 z
   ·exact f2' z
 have cge:∀y c,(cellsFrom (s3.heap.objs.size+1) scope.names []).lookup y=some c→s3.heap.objs.size<c:=fun y c e=>x4.above y c (PySem.mem_of_lookup e)
 have exLt:∀b∈D::fp,b<s3.heap.objs.size:=fun b hb=>by
  rcases List.mem_cons.mp hb with rfl|hb
  ·exact dl3
  ·exact fp3 b hb
 have okB:(Xf X NB scope s3 H2 (D::fp)).Ok:=by
  refine⟨I3.ok.mod,S.kind,I3.ok.glob,I3.ok.blt,Nat.le_refl _,fun y z c h1 h2=>?_,fun y hy=>?_,fun y c _ h=>Nat.le_of_lt (cge y c h),I3.ok.hd,I3.ok.frames,.inl rfl,fun b hb=>⟨Nat.ne_of_lt (exLt b hb),fun y c e z=>?_⟩,I3.bs,Nat.le_trans I3.ok.bsz I3.sz,bsN,exF,I3.stack,I3.Z8⟩
  ·exact name_of_addr x4.apart (PySem.mem_of_lookup h1) (PySem.mem_of_lookup h2)
  ·have hy:scope.names.lookup y=some .cell∨scope.names.lookup y=some .free:=hy
   rcases hy with hy|hy
   ·exact Vl hy
   ·exact absurd rfl (S.nofree _ (PySem.mem_of_lookup hy))
  ·have:=cge y c e
   rw[z]at this
   exact absurd (Nat.lt_trans this (exLt b hb)) (Nat.lt_irrefl _)
 have rep:∀(j:Nat)(v:V),(List.replicate NB.length (none:Option V))[j]? ≠some (some v):=fun j v z=>by
  rw[List.getElem?_replicate]at z
  split at z<;>cases z
 have IB:Inv (Xf X NB scope s3 H2 (D::fp)) [(D,Z0 [])] (List.replicate NB.length none) H2 {s3 with heap:=h4,toks:=tk4}:=by
  refine⟨okB,rfl,I3.bare,Un.kept hk4,⟨_,x4.toInCall.ns,fun i y v h1 h2 h3=>absurd h2 (rep i v)⟩,fun y c h=>⟨_,x4.cell y c h⟩,I3.hok.fresh (Nat.le_refl _),fun y c h=>I3.hok.fresh (Nat.le_of_lt (cge y c h)),fun p hp=>?_,I3.hok.kept hk4,by rw[List.length_replicate]⟩
  obtain rfl:p=(D,Z0 []):=by simpa using hp
  exact⟨hk4 _ _ hD3,hD2,Nat.ne_of_lt dl3,hDf,fun v z=>nomatch z⟩
 have stat:∀{H':Hp}{ys:List Value},(∀b∈fp,H' b=none)→∀b∈fp,jI (Xf X NB scope s3 H2 (D::fp)) [(D,Z0 ys)] H' b:=fun hn b hb=>
  ⟨hn b hb,Nat.ne_of_lt (fp3 b hb),exF b (List.mem_cons_of_mem _ hb),.inl (List.mem_cons_of_mem _ hb),fun y c e z=>by
   have:=cge y c e
   rw[z]at this
   exact absurd (Nat.lt_trans this (fp3 b hb)) (Nat.lt_irrefl _),fun p hp=>by
    obtain rfl:p=(D,_):=by simpa using hp
    exact(DfpN b hb).symm⟩
 have st4:tn 0 h4:=T.keep _ _ _ st3 fun b _ o e=>hk4 b o e
 have fr4:∀b∈fp,H2 b=none:=fun b hb=>(f2 b hb).1
 have hcB:(Xf X NB scope s3 H2 (D::fp)).calm=true:=hc
 have loop:codeAny (model X.prog X.w) X.A (.compLoop (.ListComp elt [⟨tg,iter,ifs,0⟩] scope pos) 0 (.ref it) (.ref D) (wO scope X.env s3.heap.objs.size))
   (compPost (model X.prog X.w) X.A X.xe none (EP X pins σ Q) (.ref D) s3.heap.objs.size) {s3 with heap:=h4,toks:=tk4}:=by
  refine K3 (fun n s'=>∃i vs ys H',Inv (Xf X NB scope s3 H2 (D::fp)) [(D,Z0 ys)] (List.replicate NB.length none) H' s'∧Vals vs ys∧vs.length≤sizeLine∧tn i s'.heap∧(∀b∈fp,H' b=none)∧W i n vs H') ?_ m0 ⟨0,[],[],H2,IB,.nil,Nat.zero_le _,st4,fr4,w0⟩
  rintro n s5 ⟨i,vs,ys,H5,I5,rv,hvl,st5,fr5,w5⟩
  rcases turn i n vs H5 w5 with⟨stop,qn⟩|⟨go,hlt,N,hN,step⟩
  ·refine wpAny_mono (T.done (Xf X NB scope s3 H2 (D::fp)) rfl rfl rfl hcB i _ s5 _ H5 (fun _ _=>False) I5 (stat fr5) st5 stop) (fun r s6⟨hr,I6⟩=>?_) (fun _ _ z=>z.elim)
   subst hr
   obtain⟨m6,hn6,_⟩:=id I6.loc
   refine⟨m6,hn6,fun h7 sb7=>?_⟩
   have kp7:∀b o,b≠s3.heap.objs.size→s6.heap.get? b=some o→h7.get? b=some o:=fun b o hb e=>(sb7.2 b hb).trans e
   have hC6:H5 s3.heap.objs.size=none:=I6.free
   have un7:Un (frs X.stack) (D::fp) H2 H5 s3.heap h7:=by
    have u:=I6.base
    refine⟨fun b o e n hb hx=>kp7 b o (Nat.ne_of_lt (Heap.lt_size e)) (u.keep b o e n hb hx),fun b o e n hb hx=>?_,u.free,fun b o e hx=>?_,u.Zq,u.frzs,u.tbls⟩
    ·obtain⟨sl,q⟩:=u.slot b o e n hb hx
     exact⟨sl,kp7 b _ (Nat.ne_of_lt (Heap.lt_size e)) q⟩
    ·obtain⟨o',q⟩:=u.there b o e hx
     exact⟨o',kp7 b _ (Nat.ne_of_lt (Heap.lt_size e)) q⟩
   have hok7:HOk X.prog X.w H5 h7:=fun b u e=>(I6.hok b u e).YZ (fun c w' hcc q=>kp7 c w' (by
    rintro rfl
    rcases hcc with rfl|hcc
    ·rw[hC6]at e;cases e
    ·rw[hC6]at hcc;cases hcc) q) (fun _ q=>q) fun _ _ q=>q
   have I7:Inv X pins σ H5 {s6 with heap:=h7}:=I3.jO (s':={s6 with heap:=h7}) I6.os un7 hok7 I6.bare fun b hb=>by
    rcases List.mem_cons.mp hb with rfl|hb
    ·exact⟨.inr hDs0,hDL,hDC,hDp⟩
    ·obtain⟨_,f1,_,f3,f4,f5⟩:=f2 b hb
     exact⟨f3,f1,f4,f5⟩
   obtain⟨eD,nD,_⟩:=I6.pin (D,Z0 ys) (by simp)
   have nD':H5 D=none:=nD
   have eD':h7.get? D=some (Z0 ys):=kp7 D _ (Nat.ne_of_lt dl3) eD
   have hD0:X.s₀.heap.get? D=none:=by
    cases q:X.s₀.heap.get? D with
    |none=>rfl
    |some o=>exact absurd (Nat.lt_of_lt_of_le (Heap.lt_size q) hDs0) (Nat.lt_irrefl _)
   exact⟨.ref D,upd H5 D (.lst vs),I7.kE nD' hD0 hDL hDC hDp ⟨hvl,ys,ys.length,rv,eD'⟩,rfl,qn D nD'⟩
  ·refine wpAny_mono (T.item (Xf X NB scope s3 H2 (D::fp)) rfl rfl rfl hcB i _ s5 _ H5 (fun _ _=>False) I5 (stat fr5) st5 go) (fun r s6⟨u,hr,h6⟩=>?_) (fun _ _ z=>z.elim)
   subst hr
   refine wpAny_mono h6 (fun _ s7⟨x,H7,I7,r7,y7,st7,fr7⟩=>?_) (fun _ _ z=>z.elim)
   have I7':=I7.pinned (stat fr7) (T.obj _ _ st7)
   refine wpAny_mono (hg s3 H2 (D::fp) _ s7 _ H7 x u _ I7' r7 (step x H7 y7)) (fun _ s8⟨σ8,H8,I8,q8⟩=>?_) (fun _ _ z=>z.elim)
   refine wpAny_mono (ht s3 H2 (D::fp) _ s8 σ8 H8 _ I8 q8) (fun ok s9⟨H9,I9,q9⟩=>?_) (fun _ _ z=>z.elim)
   have fpK:∀{σ':St}{H':Hp}{s':Shared},Inv (Xf X NB scope s3 H2 (D::fp)) ([(D,Z0 ys)]++KO fp s7.heap) σ' H' s'→tn (i+1) s'.heap∧∀b∈fp,H' b=none:=fun J=>
    ⟨T.keep _ _ _ st7 fun b hb o e=>(J.pin (b,o) (List.mem_append_right _ (List.mem_append_right _ (Jp hb e)))).1,fun b hb=>by
     obtain⟨o,e,d⟩:=T.obj _ _ st7 b hb
     exact(J.pin (b,o) (List.mem_append_right _ (List.mem_append_right _ (Jp hb e)))).2.1⟩
   have wk:∀{σ':St}{H':Hp}{s':Shared}{pl:List (Addr × Obj)},Inv (Xf X NB scope s3 H2 (D::fp)) pl σ' H' s'→Inv (Xf X NB scope s3 H2 (D::fp)) pl (List.replicate NB.length none) H' s':=fun J=>
    J.weak (by rw[List.length_replicate];exact J.len.symm) fun j v z=>absurd z (rep j v)
   cases ok with
   |false=>
    rw[if_neg (by decide)]at q9
    rw[if_neg (by decide)]
    obtain⟨m',hm,w9⟩:=hN vs H9 q9
    obtain⟨t9,f9⟩:=fpK I9
    exact⟨m',hm,i+1,vs,ys,H9,wk I9.JK,rv,hvl,t9,f9,w9⟩
   |true=>
    rw[if_pos rfl]at q9
    rw[if_pos rfl]
    refine wpAny_mono (he s3 H2 (D::fp) _ s9 σ8 H9 _ I9 q9) (fun y s10⟨v,H10,I10,rv10,q10⟩=>?_) (fun _ _ z=>z.elim)
    obtain⟨eD,nD,_,nf,_⟩:=I10.pin (D,Z0 ys) (by simp)
    have hyl:=rv.length
    refine append_at (hsz:=by show ys.toArray.size≤sizeLine;rw[List.size_toArray, ←hyl];exact hvl) eD fun h11 sb11 hD11=>?_
    obtain⟨m',hm,w11⟩:=hN (vs++[v]) H10 q10
    obtain⟨t10,f10⟩:=fpK I10
    have I10u:=I10.JK
    have k11:∀b o,b≠D→s10.heap.get? b=some o→h11.get? b=some o:=fun b o hb e=>(sb11.2 b hb).trans e
    have IE:Inv (Xf X NB scope s3 H2 (D::fp)) [] σ8 H10 s10:=I10u.Zx fun p hp=>nomatch hp
    have I11:Inv (Xf X NB scope s3 H2 (D::fp)) [] σ8 H10 {s10 with heap:=h11}:=IE.turned (t':=s10.toks) k11 nD (Nat.ne_of_lt dl3) (.inl List.mem_cons_self) (fun y' c e z=>by
     have:=cge y' c e
     rw[z]at this
     exact absurd (Nat.lt_trans this dl3) (Nat.lt_irrefl _)) (fun p hp=>absurd (show p∈([]:List (Addr × Obj))from hp) (by simp))
    have eL:({cls:=.type "list",data:=.seq (ys.toArray.push y) (ys.length+1)}:Obj)=Z0 (ys++[y]):=by
     show({cls:=.type "list",data:=.seq (ys.toArray.push y) (ys.length+1)}:Obj)={cls:=.type "list",data:=.seq (ys++[y]).toArray (ys++[y]).length}
     rw[List.length_append,List.length_singleton,List.push_toArray]
    refine⟨m',hm,i+1,vs++[v],ys++[y],H10,wk (I11.Zx fun p hp=>?_),rv.append (.cons rv10 .nil),by rw[List.length_append,List.length_singleton];exact hlt,T.keep _ _ _ t10 fun b hb o e=>k11 b o (DfpN b hb) e,f10,w11⟩
    obtain rfl:p=(D,Z0 (ys++[y])):=by simpa using hp
    exact⟨by rw[←eL];exact hD11,nD,Nat.ne_of_lt dl3,nf,fun v z=>nomatch z⟩
 exact codeAny_compStart_list loop (T.self _ 0 _ _ _ st4 loop)
end
end L2
set_option Elab.async false
set_option linter.all false
set_option maxRecDepth 100000
namespace L2
open PySem PySem.Spec PyProof.Rows
open Builtin Builtin.Str
section
variable {prog:Program}{w:World}{A:Around}{E:Value→Shared→Prop}{s:Shared}
theorem call_gives{name:Str}{id:String}{B:Builtin}{x:Str}{t:Tok}{rest:List Value}{m:Made}{Q:Value→Shared→Prop}(slot:Slot "str" name id)(entry:entryFor table id=some B)(args:argsOk id ⟨.str x t::rest,[]⟩)
  (g:Gives (B ⟨.str x t::rest,[]⟩) m) (h:m.post Q s):wpAny (model prog w) A (call (.builtin id) (.str x t::rest)) Q E s:=
 wpAny_call (codeAny_call_builtin slot.plain entry (slot.check _ _ _ _ _ _ _ _ (typeIs_str _ _ _) args (g prog w A (wants Q E) s h)))
end
section
variable {X:Cx}
def Qco(C:Str→Str→Prop)(f:Str→Str→V):V→List V→Hp→VK→Prop:=fun x vs H Q=>∃z y,x=.str z∧vs=[.str y]∧C z y∧Q (f z y) H
def Qcp(z _:Str):Prop:=z.length≤sizeLine
theorem kQ:MtR X "str.strip" (Qco Qcp fun z y=>.str (Txt.stripChars z y)):=by
 intro pins s σ H x vs v us Q I rx rv h
 obtain⟨z,y,rfl,rfl,hl,q⟩:=h
 obtain⟨t,rfl⟩:=rx
 obtain⟨u,rfl,t',rfl⟩:=vals1 rv
 exact call_gives F.slot_str_strip F.entry_str_strip (F.args_str_strip_2 _ _) (gives_str_strip_chars z y t t') (post_val_or_made (fun _=>fits_stripped _ _ _ hl) fun t2 k=>⟨.str _,H,I.tok k,⟨t2,rfl⟩,q⟩)
end
end L2
set_option Elab.async false
set_option linter.all false
set_option maxRecDepth 100000
namespace L2
open PySem PySem.Spec PyProof.Rows
open Builtin Builtin.Str
section
variable {prog:Program}{w:World}{A:Around}{E:Value→Shared→Prop}{s:Shared}
variable {I:Addr}{fp wr:List Addr}{G:Array GenState→Array GenState→Prop}{n:Nat}{P:Nat→Value→Prop}{St:Nat→Shared→Prop}
end
end L2
set_option Elab.async false
set_option linter.all false
set_option maxRecDepth 100000
namespace L2
open PySem PySem.Spec PyProof.Rows
open Builtin Builtin.Str
theorem boot_reversed:bootBuiltins "reversed"=some (.type "reversed"):=by boot_by_name
section
variable {X:Cx}
end
end L2
set_option Elab.async false
set_option linter.all false
set_option maxRecDepth 100000
namespace L2
open PySem PySem.Spec PyProof.Rows
open Builtin Builtin.Str
section
variable {X:Cx}
theorem K7:OpR X (binaryOp .Mult) (fun x y H Q=>∃z n,x=.str z∧y=.int n∧ -(2^40)<n∧z.length*n.toNat≤sizeLine∧n<2^40∧Q (.str (V3 z n.toNat)) H):=by
 intro pins s σ H x y v u Q I rx ry h
 obtain⟨z,n,ex,ey,h0,hl,hn,q⟩:=h
 by_cases hz:0≤n
 ·exact qV pins s σ H x y v u Q I rx ry ⟨z,n,ex,ey,hz,hl,hn,q⟩
 ·subst ex ey
  obtain⟨t,rfl⟩:=rx
  obtain⟨t',rfl⟩:=ry
  refine PySem.P.mul_str ?_ ?_ ?_ ?_
  ·rw[decide_eq_false (by omega),decide_eq_false (by omega)];rfl
  ·intro h1 h2 h3
   omega
  ·intro h1 h2
   omega
  ·rw[if_pos (by omega)]
   have e:V3 z n.toNat=Str.empty:=by rw[show n.toNat=0 by omega];rfl
   exact⟨by decide,.str (V3 z n.toNat),H,I.tok _,⟨_,by rw[e]⟩,q⟩
theorem Qap{n:Nat}(hu:X.A.units+1+n<cLine):OpR X (compareOp .NotEq) (fun x y H Q=>∃a b xs ys,x=.ref a∧y=.ref b∧SqL X.K H a xs∧SqL X.K H b ys∧Like X.K H n xs ys∧Q (.bl false) H):=by
 intro pins s σ H x y v u Q I rx ry h
 obtain⟨a,b,xs,ys,rfl,rfl,ha,hb,lk,q⟩:=h
 obtain rfl:v=Value.ref a:=rx
 obtain rfl:u=Value.ref b:=ry
 obtain⟨its,r1,p1,_⟩:=I.list ha
 obtain⟨its2,r2,p2,_⟩:=I.list hb
 have l1:=r1.length
 have l2:=r2.length
 have l3:=lk.len
 refine SeqAt.RcNeAt.lists (e:=fun _=>true) p1.isList p2.isList (by rw[List.size_toArray,List.size_toArray];omega) (by omega) (ZC (pins:=pins) (σ:=σ) (H:=H) (n:=n) r1 r2 fun j x y u v h1 h2 q1 q2=>(lk.at j x y h1 h2).at I (A:=X.A.in1) (by show X.A.units+1+n<cLine;omega) q1 q2) X.prog X.w X.xe _ ?_
 rw[all_true]
 exact⟨.bl false,H,I,rfl,q⟩
end
section
variable {X:Cx}{k k':Nat}{x p1:Str}{sp:Sp}{E:XK}{p pos kpos:Pos}{e:Expr}{te:TE}
end
end L2
set_option Elab.async false
set_option linter.all false
set_option maxRecDepth 100000
namespace L2
open PySem PySem.Spec PyProof.Rows
def Qbw(lo c:Int)(n:Nat):It:=⟨fun i _=>i<n,fun i H x H'=>H'=H∧x=.int (lo+i*c),fun i _=>n≤i⟩
theorem Uh{P:Program}{w:World}{K:PySem.W.Frag}{tg:Expr}(it:Addr)(lo c:Int)(n:Nat):Turn P w K tg (Qbw lo c n) [it] it (fun i h=>IsRangeIter h it (lo+(i:Nat)*c) ((n:Int)-(i:Nat)) c) where
 mem:=by simp
 obj:=fun i h st b hb=>by
  have e:b=it:=by simpa using hb
  subst e
  exact⟨_,st,fun v z=>by
   have z':Data.fields _=Data.cell v:=z
   cases z'⟩
 keep:=fun i h h' st k=>k it (by simp) _ st
 item:=by
  intro X hP hw hK hc i pins s σ H E I hf st hg
  subst hP hw hK
  obtain⟨f0,f1,f2,f3,f4,f5⟩:=hf it (by simp)
  have W:=Walks.range (prog:=X.prog) (w:=X.w) (I.ok.hd hc) it lo c n
  refine W.item i s _ _ hg st fun v h' tk hv st' kk=>?_
  obtain⟨t,rfl⟩:=hv
  have I1:Inv X pins σ H {s with heap:=h',toks:=tk}:=I.turned (fun b o hb e=>kk b o (by simpa using hb) e) f0 f1 f3 f4 f5
  exact⟨_,rfl,jP (s:={s with heap:=h',toks:=tk}) (n:="range_iterator") st' rfl rfl (by decide) ⟨.int (lo+i*c),H,I1,⟨t,rfl⟩,⟨rfl,rfl⟩,st',fun b hb=>(hf b hb).1⟩⟩
 done:=by
  intro X hP hw hK hc i pins s σ H E I hf st hg
  subst hP hw hK
  obtain⟨f0,f1,f2,f3,f4,f5⟩:=hf it (by simp)
  exact wpAny_pyNext_range_end (I.ok.hd hc) st (by have:n≤i:=hg;omega) fun h' eb=>⟨rfl,I.turned (t':=s.toks) (fun b o hb e=>eb b o hb e) f0 f1 f3 f4 f5⟩
 self:=fun _ _ _ _ _ st h=>wpAny_pyIter_rangeiter st h
section
variable {X:Cx}{tg:Expr}
end
end L2
namespace L2
open PySem PySem.Spec PyProof.Rows
structure PAx(X:Cx)(es:List Expr)(t:TA):Prop where
 pa:PA X es t
structure PSy(X:Cx)(st:Stmt)(t:TS):Prop where
 ps:PS X st t
section
variable {X:Cx}
theorem Ql:PAx X [] Kn:=⟨Qb⟩
theorem QV{x:Str}{j:Nat}{p:Pos}{es:List Expr}{t:TA}(hr:PAx X es t):PAx X (.Constant (.str x) j p::es) (Q8 (tC (.str x)) t):=⟨Qa Qq hr.pa rfl⟩
theorem XV{es:List Expr}{t:TA}{pos:Pos}(h:PAx X es t):PEx X (.List es pos) (yE t):=⟨Js h.pa⟩
theorem Qo{st:Stmt}{rest:List Stmt}{t1 t2:TS}(h:PSy X st t1)(hr:PSx X rest t2):PSx X (st::rest) (Zj t1 t2):=⟨Qe h.ps hr.ps⟩
theorem QF{st:Stmt}{t:TS}(h:PSy X st t):PSx X [st] t:=⟨Qm h.ps⟩
end
theorem Qbx{P:Program}{w:World}{K:PySem.W.Frag}{mg:Str→Option Value}{base:Heap}{x qual:Str}{st:Stmt}{f:Addr}{fd:FuncData}{cdv:Value}{N ps:List Str}{k:Nat}{sp:Sp}(F:FunC K x qual st f fd cdv)(S:FnScope N ps (Qd st))(len:∀vs H Q E,sp vs H Q E→vs.length=ps.length)
  (hbody:∀(A:Around)(outer:List Env)(s:Shared)(H:Hp)(vs:List V)(Q:VK)(E:XK),Room k (A.deeper (envOfC qual (Qd st) s.heap.objs.size f cdv))→sp vs H Q E→
   ∃t,PSx (Vk (CXE P w) P w K mg base N qual (Qd st) f cdv A outer s H E).nox (QM st) t∧t {nx:=fun _ H'=>Q .non H',rt:=Q} (start N vs) H):FnOk P w K mg base (CXE P w) (k+1) f fd ps sp:=
 Qcn F S len fun A outer s H vs Q E hr hsp=>by
  obtain⟨t,h,q⟩:=hbody A outer s H vs Q E hr hsp
  exact⟨t,h.ps,q⟩
end L2
set_option Elab.async false
set_option linter.all false
set_option maxRecDepth 100000
namespace L2
open PySem PySem.Spec PyProof.Rows
open Builtin Builtin.Str
section
variable {X:Cx}
end
section
variable {X:Cx}
end
end L2
set_option Elab.async false
set_option linter.all false
set_option maxRecDepth 100000
namespace L2
open PySem PySem.Spec PyProof.Rows
section
variable {X:Cx}{o i:Expr}{td ty:TE}{pos:Pos}{a:Addr}{kvs:List (Key × V)}
end
section
variable {X:Cx}
end
end L2
set_option Elab.async false
set_option linter.all false
set_option maxRecDepth 100000
namespace L2
open PySem PySem.Spec PyProof.Rows
section
variable {X:Cx}
end
end L2
set_option Elab.async false
set_option linter.all false
set_option maxRecDepth 100000
namespace L2
open PySem PySem.Spec PyProof.Rows
open Builtin Builtin.Str
section
variable {X:Cx}
end
structure Bag(K:PySem.W.Frag)(H:Hp)(a t r:Addr)(ns:List Int)(c:Int):Prop where
 sq:SqL K H a (ns.map V.int)
 tw:∃rs,TownAt H t r c rs
 nat:a≠t
 nar:a≠r
 ln:ns.length≤63
section
variable {K:PySem.W.Frag}{H H':Hp}{a t r:Addr}{ns:List Int}{c c':Int}
theorem Bag.drawn(B:Bag K H a t r ns c)(A:Apart t r H H'){rs:List (Key × V)}(T:TownAt H' t r c' rs):Bag K H' a t r ns c':=
 ⟨A.seq B.sq B.nat B.nar,⟨rs,T⟩,B.nat,B.nar,B.ln⟩
theorem Bag.same(B:Bag K H a t r ns c)(e:Qg H H'):Bag K H' a t r ns c:=by
 obtain⟨rs,T⟩:=B.tw
 exact⟨(Apart.of e).seq B.sq B.nat B.nar,⟨rs,T.same e⟩,B.nat,B.nar,B.ln⟩
theorem LawSt.bag{Pa:Addr}{q:Str}(S:LawSt H a t r Pa q ns c):Bag K H a t r ns c:=⟨S.sq,S.tw,S.nat,S.nar,S.ln⟩
theorem Bag.draw{σ:St}{i j:Nat}{n:Int}{tn:TE}{Q:VK}{E:XK}(B:Bag K H a t r ns c)(hi:σ[i]? =some (some (.ref a)))(hj:σ[j]? =some (some (.ref t)))(hn:∀R:VK,R (.int n) H→tn σ H R) (h0:0<n) (h1:n<1000000) (hc:c<100000)
  (k:∀(d:Nat)(H':Hp),(d:Int)<n→Bag K H' a t r ns (c+1)→Apart t r H H'→Q (.int d) H'):V8 (W5 K) [] E (Q8 (WV i) (Q8 (WV j) (Q8 tn Kn))) σ H Q:=by
 obtain⟨rs,T⟩:=B.tw
 refine⟨_,hi,_,hj,hn _ ⟨a,t,r,ns,c,n,rs,rfl,B.sq,T,B.nat,B.nar,B.ln,hc,h0,h1,fun v rs' H' v0 v1 T' A'=>?_⟩⟩
 obtain⟨d,rfl⟩:=Int.eq_ofNat_of_zero_le v0
 exact k d H' v1 (B.drawn A' T') A'
theorem Bag.keep(B:Bag K H a t r ns c)(A:Apart t r H H'){b:Addr}{o:HO}(e:H b=some o)(n:∀kvs,o≠ .dK kvs):H' b=some o:=by
 obtain⟨rs,T⟩:=B.tw
 refine A b o e (fun z=>?_) fun z=>?_
 ·rw[z,T.tw]at e;cases e;exact n _ rfl
 ·rw[z,T.rt]at e;cases e;exact n _ rfl
end
end L2
set_option Elab.async false
set_option linter.all false
set_option maxRecDepth 100000
namespace L2
open PySem PySem.Spec PyProof.Rows
section
variable {X:Cx}
end
end L2
set_option Elab.async false
set_option linter.all false
set_option maxRecDepth 100000
namespace L2
open PySem PySem.Spec PyProof.Rows
open Builtin Builtin.Str
def Its(z:Str):It:=⟨fun i _=>i<z.cps.size,fun i H x H'=>H'=H∧∃c,z.cps[i]? =some c∧x=.str ⟨#[c]⟩,fun i _=>z.cps.size≤i⟩
theorem kR{P:Program}{w:World}{K:PySem.W.Frag}{tg:Expr}(it:Addr)(z:Str)(t:Tok):Turn P w K tg (Its z) [it] it (fun i h=>h.IsStrIter it "str_ascii_iterator" z t i) where
 mem:=by simp
 obj:=fun i h st b hb=>by
  have e:b=it:=by simpa using hb
  subst e
  obtain⟨o,e,c,d⟩:=st
  exact⟨o,e,fun v z=>by rw[d]at z;cases z⟩
 keep:=fun i h h' st k=>by
  obtain⟨o,e,c,d⟩:=st
  exact⟨o,k it (by simp) o e,c,d⟩
 item:=by
  intro X hP hw hK hc i pins s σ H E I hf st hg
  subst hP hw hK
  obtain⟨f0,f1,f2,f3,f4,f5⟩:=hf it (by simp)
  have hg':i<z.cps.size:=hg
  obtain⟨c,hcs⟩:∃c,z.cps[i]? =some c:=⟨z.cps[i],by simp[hg']⟩
  refine wpAny_pyNext_ascii_item st hcs fun h' st' sb=>?_
  have I1:Inv X pins σ H {s with heap:=h',toks:=s.toks+1}:=I.turned (fun b o hb e=>(sb.2 b hb).trans e) f0 f1 f3 f4 f5
  obtain⟨o,e,cc,d⟩:=id st'
  exact⟨_,rfl,jP (s:={s with heap:=h',toks:=s.toks+1}) e cc d (by decide) ⟨.str ⟨#[c]⟩,H,I1,⟨_,rfl⟩,⟨rfl,c,hcs,rfl⟩,st',fun b hb=>(hf b hb).1⟩⟩
 done:=by
  intro X hP hw hK hc i pins s σ H E I hf st hg
  subst hP hw hK
  obtain⟨f0,f1,f2,f3,f4,f5⟩:=hf it (by simp)
  have hg':z.cps.size≤i:=hg
  exact wpAny_pyNext_ascii_end (I.ok.hd hc) st (by simp[hg']) fun h' eb=>⟨rfl,I.turned (t':=s.toks) (fun b o hb e=>eb b o hb e) f0 f1 f3 f4 f5⟩
 self:=fun _ _ _ _ _ st h=>wpAny_pyIter_striter_ascii st h
section
variable {X:Cx}{tg:Expr}
def Qcq(tl:TE):TI:=fun σ H R=>tl σ H fun x H1=>∃z:Str,x=.str z∧z.cps.all (· <128)=true∧R (Its z) H1
theorem Qaq{l:Expr}{tl:TE}(hl:PE X l tl):PI X tg l (Qcq tl):=by
 intro pins s σ H R I h
 refine thn (hl pins s σ H _ I h) fun v s1⟨x,H1,I1,r1,q1⟩=>?_
 obtain⟨z,e,ha,q⟩:=q1
 subst e
 obtain⟨t,rfl⟩:=r1
 refine wpAny_pyIter_ascii ha ?_
 refine⟨s1.heap.objs.size,[s1.heap.objs.size],_,_,H1,rfl,I1.kept (t':=s1.toks) fun b o e=>Heap.get?_push_of_some _ e,kR _ z t,⟨_,Heap.get?_push_size _ rfl,rfl,rfl⟩,fun b hb=>?_,q⟩
 have e:b=s1.heap.objs.size:=by simpa using hb
 subst e
 exact I1.wG (Nat.le_refl _) (I1.hok.fresh (Nat.le_refl _))
end
section
variable {X:Cx}
end
end L2
set_option Elab.async false
set_option linter.all false
set_option maxRecDepth 100000
namespace L2
open PySem PySem.Spec PyProof.Rows
open Builtin Builtin.Str
section
variable {X:Cx}
variable {o e:Expr}{es:List Expr}{to:TE}{t:TA}{name:Str}{apos cpos:Pos}{T id:String}{r:V→List V→Hp→VK→Prop}
end
end L2
set_option Elab.async false
set_option linter.all false
set_option maxRecDepth 100000
namespace L2
open PySem PySem.Spec PyProof.Rows
def Ui(scope:Scope)(env:Env)(C:Addr):Env:=
 {scope:=relabel scope env,locals:=C,globals:=env.globals,cells:=Jf env.cells scope.names [],qual:=env.qual,func:=none,code:=env.code,frame:=env.frame,builtins:=env.builtins}
abbrev QU(X:Cx)(NB:List Str)(scope:Scope)(s:Shared)(H:Hp)(ex:List Addr):Cx:=
 {X with N:=NB,s₀:=s,H₀:=H,env:=Ui scope X.env s.heap.objs.size,outer:=X.stack,ex:=ex,fn:=fun _=>false,pn:=[],xe:=fun _ _=>False}
structure BlkScopeF(NB FR:List Str)(scope:Scope):Prop where
 kind:scope.kind=.function
 nd:(NB++FR).Nodup
 nocell:∀y∈scope.names,y.2≠ .cell
 loc:∀y∈scope.names,y.2=.local→scope.names.lookup y.1=some .local
 nd2:(scope.names.map (·.1)).Nodup
 fr:∀y∈FR,(y,NameKind.free)∈scope.names
def W6(n:Nat)(fi:List Nat)(wi:TI)(g:TG)(tt:TT)(te:TE):TE:=fun σ H Q=>wi σ H fun J H1=>∃fv:List V,fi.map (fun i=>σ[i]?)=fv.map (fun v=>some (some v))∧∃W:Nat→Nat→List V→Hp→Prop,(∃m,W 0 m [] H1)∧∀i m vs H,W i m vs H→
 (J.stop i H∧∀p,H p=none→Q (.ref p) (upd H p (.lst vs)))∨(J.go i H∧vs.length<sizeLine∧∃N:List V→Hp→Prop,(∀vs' H',N vs' H'→∃m',m'<m∧W (i+1) m' vs' H')∧
  ∀x H',J.yld i H x H'→g x (List.replicate n none++fv.map some) H' fun σ2 H2=>σ2.drop n=fv.map some∧tt σ2 H2 fun b H3=>if b=true then te σ2 H3 fun v H4=>N (vs++[v]) H4 else N vs H3)
def reF(env:Env)(x:Str × NameKind):Str × NameKind:=if(x.2==NameKind.free&&env.scope.kind==.function&&env.kindOf x.1==some .cell)then(x.1,NameKind.cell)else(x.1,x.2)
theorem qd(env:Env){x:Str × NameKind}{y:Str}(h:y≠x.1)(l:List (Str × NameKind)):(reF env x::l).lookup y=l.lookup y:=by
 have hb:(y==x.1)=false:=beq_eq_false_iff_ne.mpr h
 unfold reF
 split<;>rw[List.lookup_cons,hb]
theorem Kk{env:Env}{scope:Scope}{y:Str}(nd:(scope.names.map (·.1)).Nodup)(h:(y,NameKind.free)∈scope.names)(hk:(env.scope.kind==.function)=true)(hc:env.scope.names.lookup y=some .cell):(relabel scope env).names.lookup y=some .cell:=by
 have key:∀l:List (Str × NameKind),(l.map (·.1)).Nodup→(y,NameKind.free)∈l→(l.map (reF env)).lookup y=some .cell:=by
  intro l
  induction l with
  |nil=>intro _ h;cases h
  |cons z r ih=>
   intro nd h
   rw[List.map_cons,List.nodup_cons]at nd
   rw[List.map_cons]
   rcases List.mem_cons.mp h with h|h
   ·subst h
    have e:(env.kindOf y==some NameKind.cell)=true:=by rw[show env.kindOf y=env.scope.names.lookup y from rfl,hc];rfl
    have e2:reF env (y,NameKind.free)=(y,NameKind.cell):=by unfold reF;rw[if_pos (by rw[hk,e];rfl)]
    rw[e2,List.lookup_cons,beq_self_eq_true]
   ·have hne:y≠z.1:=fun q=>nd.1 (by rw[←q];exact List.mem_map.mpr ⟨_,h,rfl⟩)
    rw[qd env hne]
    exact ih nd.2 h
 exact key scope.names nd h
theorem Kl{env:Env}{scope:Scope}{y:Str}(nc:∀y∈scope.names,y.2≠ .cell) (h:(relabel scope env).names.lookup y=some .cell∨(relabel scope env).names.lookup y=some .free):(y,NameKind.free)∈scope.names:=by
 have key:∀l:List (Str × NameKind),(∀y∈l,y.2≠ .cell)→((l.map (reF env)).lookup y=some .cell∨(l.map (reF env)).lookup y=some .free)→(y,NameKind.free)∈l:=by
  intro l
  induction l with
  |nil=>intro _ h;rcases h with h|h<;>simp at h
  |cons z r ih=>
   intro nc h
   have hk:z.2≠ .cell:=nc z List.mem_cons_self
   rw[List.map_cons]at h
   by_cases hn:y=z.1
   ·obtain⟨n,k⟩:=z
    have hn:y=n:=hn
    subst hn
    have hf:k=.free:=by
     cases k with
     |cell=>exact absurd rfl hk
     |free=>rfl
     |_=>
      have e2:∀q:NameKind,(q==NameKind.free)=false→reF env (y,q)=(y,q):=fun q hq=>by unfold reF;rw[if_neg (by rw[show((y,q).2==NameKind.free)=false from hq];simp)]
      rw[e2 _ rfl,List.lookup_cons,beq_self_eq_true]at h
      rcases h with h|h<;>cases h
    rw[hf]
    exact List.mem_cons_self
   ·rw[qd env hn]at h
    exact List.mem_cons_of_mem _ (ih (fun y hy=>nc y (List.mem_cons_of_mem _ hy)) h)
 exact key scope.names nc h
theorem Z6:∀(l:List (Str × NameKind))(n:Nat)(acc:List (Str × Addr)),(∀y∈l,y.2≠ .cell)→cellsFrom n l acc=acc
 |[],_,_,_=>rfl
 |(x,k)::r,n,acc,h=>by
  have hk:(k==NameKind.cell)=false:=beq_eq_false_iff_ne.mpr (h (x,k) List.mem_cons_self)
  unfold cellsFrom
  rw[hk]
  exact Z6 r n acc fun y hy=>h y (List.mem_cons_of_mem _ hy)
theorem Z7:∀(l:List (Str × NameKind))(h:Heap),(∀y∈l,y.2≠ .cell)→pushCells h l=h
 |[],_,_=>rfl
 |(x,k)::r,h,hn=>by
  have hk:(k==NameKind.cell)=false:=beq_eq_false_iff_ne.mpr (hn (x,k) List.mem_cons_self)
  unfold pushCells
  rw[hk]
  exact Z7 r h fun y hy=>hn y (List.mem_cons_of_mem _ hy)
theorem ZD{M:Model}{A:Around}{E:Value→Shared→Prop}{s:Shared}{scope:Scope}{globals:Addr}{qual:Str}{env:Env}{cl:List (Str × Addr)}{Q:Env→Shared→Prop}(hk:scope.kind=.function)(hn:∀y∈scope.names,y.2≠ .cell)
  (hQ:∀cenv s',cenv={scope:=scope,locals:=s.heap.objs.size,globals:=globals,cells:=cl,qual:=qual,func:=none,code:=env.code,frame:=env.frame,builtins:=env.builtins}→
   InCall s s.heap.objs.size (fun _=>none) s'→Q cenv s'):
  wpAny M A (newFunctionEnv scope globals cl [] qual none .none (some env)) Q E s:=by
 simp only[newFunctionEnv,Option.isSome_some,if_true]
 refine wpAny_bind (wpAny_alloc ?_)
 refine wpAny_bind (wpAny_layCells _ (fun name kind cells=>by cases hkc:kind==NameKind.cell<;>simp[hkc]) _ _ _ _ ?_)
 rw[Z6 _ _ _ hn,Z7 _ _ hn]
 refine wpAny_bind (wpAny_pure (wpAny_pure (hQ _ _ rfl ?_)))
 exact⟨⟨_,_,rfl⟩,Heap.Ns.new s.heap (.type "dict"),fun b o e=>Heap.get?_push_of_some _ e,Nat.le_refl _⟩
section
variable {X:Cx}
theorem Jt{elt tg iter:Expr}{ifs:List Expr}{scope:Scope}{pos:Pos}{NB FR:List Str}{fi:List Nat}{wi:TI}{g:TG}{tt:TT}{te:TE}(hc:X.calm=true)(S:BlkScopeF NB FR scope)(hfree:qc scope X.env.scope=true)(hfi:fi.map (fun i=>X.N[i]?)=FR.map some) (hi:PI X tg iter wi)
  (hg:∀s H ex,PG (QU X (NB++FR) scope s H ex) tg g) (ht:∀s H ex,PTs (QU X (NB++FR) scope s H ex) ifs tt) (he:∀s H ex,PE (QU X (NB++FR) scope s H ex) elt te)
  (hs:∀x,foldedSetIterable iter X.env x=pure x:=by intro _;rfl):PE X (.ListComp elt [⟨tg,iter,ifs,0⟩] scope pos) (W6 NB.length fi wi g tt te):=by
 intro pins s σ H Q I h
 have hfc:∀y∈scope.names,y.2=.free→X.env.scope.names.lookup y.1=some .cell:=K2 hfree
 have hasF:∀y∈scope.names,y.2=.free→∃c,X.env.cells.lookup y.1=some c:=fun y hy e=>I.ok.has y.1 (.inl (hfc y hy e))
 have clook:∀y c,(Jf X.env.cells scope.names []).lookup y=some c→X.env.cells.lookup y=some c:=fun y c e=>Xx scope.names [] hasF (fun z=>nomatch z) e
 rw[eval_ListComp]
 refine wpAny_comprehension_free (use:=none) (cl:=Jf X.env.cells scope.names []) rfl hs (JL hasF) S.kind S.loc (thn (hi pins s σ H _ I h) fun v s1 h1=>thn h1 fun itv s2 h2=>?_)
 obtain⟨it,fp,tn,J,H2,e,I2,T,st2,f2,fv,hfv,W,⟨m0,w0⟩,turn⟩:=h2
 subst e
 refine wpAny_newObj_type ?_
 have up2:∀b o,s2.heap.get? b=some o→(s2.heap.push {cls:=.type "list",data:=.seq ([]:List Value).toArray}).get? b=some o:=fun b o e=>Heap.get?_push_of_some _ e
 have I3:Inv X pins σ H2 {s2 with heap:=s2.heap.push {cls:=.type "list",data:=.seq ([]:List Value).toArray}}:=I2.kept (t':=s2.toks) up2
 have st3:tn 0 (s2.heap.push {cls:=.type "list",data:=.seq ([]:List Value).toArray}):=T.keep _ _ _ st2 fun b _ o e=>up2 b o e
 have hD3:(s2.heap.push {cls:=.type "list",data:=.seq ([]:List Value).toArray}).get? s2.heap.objs.size=some (Z0 []):=Heap.get?_push_size _ rfl
 have hD2:H2 s2.heap.objs.size=none:=I2.hok.fresh (Nat.le_refl _)
 have lt2:∀b o,s2.heap.get? b=some o→b≠s2.heap.objs.size:=fun b o e=>Nat.ne_of_lt (Heap.lt_size e)
 have fpO:∀b∈fp,∃o,s2.heap.get? b=some o:=fun b hb=>let ⟨o,e,_⟩:=T.obj _ _ st2 b hb;⟨o,e⟩
 have hDs0:X.s₀.heap.objs.size≤s2.heap.objs.size:=I2.sz
 have hDL:s2.heap.objs.size≠X.env.locals:=Nat.ne_of_gt I2.lt
 have hDC:∀x c,X.env.cells.lookup x=some c→c≠s2.heap.objs.size:=fun x c e=>let ⟨v,o,e1,_⟩:=I2.cell x c e;lt2 c o e1
 have hDp:∀p∈X.pn++pins,p.1≠s2.heap.objs.size:=fun p hp=>lt2 p.1 _ (I2.pin p hp).1
 have hDf:s2.heap.objs.size∉frs X.stack:=fun z=>let ⟨o,e,_⟩:=(I2.stack.mem z).2;lt2 _ o e rfl
 generalize hS3:({s2 with heap:=s2.heap.push {cls:=.type "list",data:=.seq ([]:List Value).toArray}}:Shared)=s3 at I3 ⊢
 have hh3:s3.heap=s2.heap.push {cls:=.type "list",data:=.seq ([]:List Value).toArray}:=by rw[←hS3]
 rw[←hh3]at st3 hD3 up2
 generalize s2.heap.objs.size=D at hD3 hD2 lt2 hDs0 hDL hDC hDp hDf ⊢
 refine ZD S.kind S.nocell fun cenv s4 hce x4=>?_
 subst hce
 have lt3:∀b o,s3.heap.get? b=some o→b<s3.heap.objs.size:=fun b o e=>Heap.lt_size e
 have fp3:∀b∈fp,b<s3.heap.objs.size:=fun b hb=>let ⟨o,e⟩:=fpO b hb;lt3 b o (up2 b o e)
 have dl3:D<s3.heap.objs.size:=lt3 D _ hD3
 have DfpN:∀b∈fp,b≠D:=fun b hb=>let ⟨o,e⟩:=fpO b hb;lt2 b o e
 obtain⟨h4,tk4,rfl,hk4⟩:=x4.done
 have bsN:∀b o,X.base.get? b=some o→b∉D::fp:=fun b o e hb=>by
  rcases List.mem_cons.mp hb with rfl|hb
  ·exact absurd (Nat.lt_of_lt_of_le (Heap.lt_size (I2.ok.bs b o e).1) hDs0) (Nat.lt_irrefl _)
  ·obtain⟨_,_,_,f3,_⟩:=f2 b hb
   rcases f3 with z|z
   ·exact I2.ok.noex b o e z
   ·exact absurd (Nat.lt_of_lt_of_le (Heap.lt_size (I2.ok.bs b o e).1) z) (Nat.lt_irrefl _)
 have exF:∀b∈D::fp,b∉frs X.stack:=fun b hb hf=>by
  rcases List.mem_cons.mp hb with rfl|hb
  ·exact hDf hf
  ·obtain⟨_,f1,f2',_⟩:=f2 b hb
   rcases List.mem_cons.mp (I2.Xp b hf)with z|z
   ·exact f1 z
   ·exact f2' z
 have ccl:∀y c,(Jf X.env.cells scope.names []).lookup y=some c→(∃v,s3.heap.IsCell c v)∧H2 c=none∧c≠D∧∀b∈fp,c≠b:=fun y c e=>by
  have e':=clook y c e
  exact⟨I3.cell y c e',I3.freeC y c e',hDC y c e',fun b hb=>(f2 b hb).2.2.2.2.1 y c e'⟩
 have clt:∀y c,(Jf X.env.cells scope.names []).lookup y=some c→c<s3.heap.objs.size:=fun y c e=>let ⟨⟨v,o,ho,_⟩,_⟩:=ccl y c e;lt3 c o ho
 have exLt:∀b∈D::fp,b<s3.heap.objs.size:=fun b hb=>by
  rcases List.mem_cons.mp hb with rfl|hb
  ·exact dl3
  ·exact fp3 b hb
 have okB:(QU X (NB++FR) scope s3 H2 (D::fp)).Ok:=by
  refine⟨I3.ok.mod,S.kind,I3.ok.glob,I3.ok.blt,Nat.le_refl _,fun y z c h1 h2=>?_,fun y hy=>?_,(fun y c z _=>nomatch z),I3.ok.hd,I3.ok.frames,.inl rfl,fun b hb=>⟨Nat.ne_of_lt (exLt b hb),fun y c e z=>?_⟩,I3.bs,Nat.le_trans I3.ok.bsz I3.sz,bsN,exF,I3.stack,I3.Z8⟩
  ·exact I3.ok.inj y z c (clook y c h1) (clook z c h2)
  ·exact Zl scope.names [] (.inr (Kl S.nocell hy))
  ·obtain⟨_,_,n1,n2⟩:=ccl y c e
   rcases List.mem_cons.mp hb with q|q
   ·exact n1 (z.trans q)
   ·exact n2 b q z
 have hlen0:(List.replicate NB.length (none:Option V)++fv.map some).length=(NB++FR).length:=by
  have h1:=congrArg List.length hfv
  have h2:=congrArg List.length hfi
  simp only[List.length_map]at h1 h2
  rw[List.length_append,List.length_append,List.length_replicate,List.length_map]
  omega
 have rep:∀(j:Nat)(v:V),(List.replicate NB.length (none:Option V)++fv.map some)[j]? =some (some v)→∃k,j=NB.length+k∧fv[k]? =some v:=fun j v z=>by
  rw[List.getElem?_append]at z
  split at z
  ·rw[List.getElem?_replicate]at z
   split at z<;>cases z
  ·rename_i hj
   rw[List.length_replicate]at hj z
   refine⟨j-NB.length,by omega,?_⟩
   rw[List.getElem?_map]at z
   cases e:fv[j-NB.length]? with
   |none=>rw[e]at z;cases z
   |some y=>rw[e]at z;exact congrArg some (Option.some.inj (Option.some.inj z))
 have fvAt:∀(k:Nat)(v:V)(y:Str),fv[k]? =some v→FR[k]? =some y→∃i,X.N[i]? =some y∧σ[i]? =some (some v):=fun k v y h1 h2=>by
  have a1:=congrArg (fun l=>l[k]?) hfv
  have a2:=congrArg (fun l=>l[k]?) hfi
  simp only[List.getElem?_map,h1,h2]at a1 a2
  cases e:fi[k]? with
  |none=>rw[e]at a1;cases a1
  |some i=>
   rw[e]at a1 a2
   exact⟨i,Option.some.inj a2,Option.some.inj a1⟩
 have IB:Inv (QU X (NB++FR) scope s3 H2 (D::fp)) [(D,Z0 [])] (List.replicate NB.length none++fv.map some) H2 {s3 with heap:=h4,toks:=tk4}:=by
  refine⟨okB,rfl,I3.bare,Un.kept hk4,⟨_,x4.ns,fun i y v h1 h2 h3=>?_⟩,fun y c h=>let ⟨⟨v,o,ho,hd⟩,_⟩:=ccl y c h;⟨v,o,hk4 _ _ ho,hd⟩,I3.hok.fresh (Nat.le_refl _),fun y c h=>(ccl y c h).2.1,fun p hp=>?_,I3.hok.kept hk4,hlen0⟩
  ·obtain⟨k,rfl,hk⟩:=rep i v h2
   have hy:FR[k]? =some y:=by
    have h1:(NB++FR)[NB.length+k]? =some y:=h1
    rw[List.getElem?_append_right (Nat.le_add_right _ _),Nat.add_sub_cancel_left]at h1
    exact h1
   obtain⟨io,hN,hσ⟩:=fvAt k v y hk hy
   have hfr:(y,NameKind.free)∈scope.names:=S.fr y (List.mem_of_getElem? hy)
   obtain⟨m,_,hl⟩:=I3.loc
   obtain⟨u,r,l⟩:=hl io y v hN hσ (.inr (.inl (hfc _ hfr rfl)))
   refine⟨u,r,.inr ⟨.inl ?_,?_⟩⟩
   ·exact Kk S.nd2 hfr (by show(X.env.scope.kind==.function)=true;rw[I3.ok.kind];rfl) (hfc _ hfr rfl)
   ·obtain⟨c,hc1⟩:=Zl (cells:=X.env.cells) (x:=y) scope.names [] (.inr hfr)
    refine⟨c,hc1,?_⟩
    have hc2:=clook y c hc1
    rcases l with⟨hk,_⟩|⟨_,c',hc',o,ho,hd⟩
    ·have e1:=hfc _ hfr rfl
     rw[show X.env.kindOf y=X.env.scope.names.lookup y from rfl]at hk
     rw[hk]at e1
     cases e1
    ·rw[hc2]at hc'
     cases hc'
     exact⟨o,hk4 _ _ ho,hd⟩
  obtain rfl:p=(D,Z0 []):=by simpa using hp
  exact⟨hk4 _ _ hD3,hD2,Nat.ne_of_lt dl3,hDf,fun v z=>nomatch z⟩
 have stat:∀{H':Hp}{ys:List Value},(∀b∈fp,H' b=none)→∀b∈fp,jI (QU X (NB++FR) scope s3 H2 (D::fp)) [(D,Z0 ys)] H' b:=fun hn b hb=>
  ⟨hn b hb,Nat.ne_of_lt (fp3 b hb),exF b (List.mem_cons_of_mem _ hb),.inl (List.mem_cons_of_mem _ hb),fun y c e z=>(ccl y c e).2.2.2 b hb z,fun p hp=>by
    obtain rfl:p=(D,_):=by simpa using hp
    exact(DfpN b hb).symm⟩
 have st4:tn 0 h4:=T.keep _ _ _ st3 fun b _ o e=>hk4 b o e
 have fr4:∀b∈fp,H2 b=none:=fun b hb=>(f2 b hb).1
 have hcB:(QU X (NB++FR) scope s3 H2 (D::fp)).calm=true:=hc
 have loop:codeAny (model X.prog X.w) X.A (.compLoop (.ListComp elt [⟨tg,iter,ifs,0⟩] scope pos) 0 (.ref it) (.ref D) (Ui scope X.env s3.heap.objs.size))
   (compPost (model X.prog X.w) X.A X.xe none (EP X pins σ Q) (.ref D) s3.heap.objs.size) {s3 with heap:=h4,toks:=tk4}:=by
  refine K3 (fun n s'=>∃i vs ys H',Inv (QU X (NB++FR) scope s3 H2 (D::fp)) [(D,Z0 ys)] (List.replicate NB.length none++fv.map some) H' s'∧Vals vs ys∧vs.length≤sizeLine∧tn i s'.heap∧(∀b∈fp,H' b=none)∧W i n vs H') ?_ m0 ⟨0,[],[],H2,IB,.nil,Nat.zero_le _,st4,fr4,w0⟩
  rintro n s5 ⟨i,vs,ys,H5,I5,rv,hvl,st5,fr5,w5⟩
  rcases turn i n vs H5 w5 with⟨stop,qn⟩|⟨go,hlt,N,hN,step⟩
  ·refine wpAny_mono (T.done (QU X (NB++FR) scope s3 H2 (D::fp)) rfl rfl rfl hcB i _ s5 _ H5 (fun _ _=>False) I5 (stat fr5) st5 stop) (fun r s6⟨hr,I6⟩=>?_) (fun _ _ z=>z.elim)
   subst hr
   obtain⟨m6,hn6,_⟩:=id I6.loc
   refine⟨m6,hn6,fun h7 sb7=>?_⟩
   have kp7:∀b o,b≠s3.heap.objs.size→s6.heap.get? b=some o→h7.get? b=some o:=fun b o hb e=>(sb7.2 b hb).trans e
   have hC6:H5 s3.heap.objs.size=none:=I6.free
   have un7:Un (frs X.stack) (D::fp) H2 H5 s3.heap h7:=by
    have u:=I6.base
    refine⟨fun b o e n hb hx=>kp7 b o (Nat.ne_of_lt (Heap.lt_size e)) (u.keep b o e n hb hx),fun b o e n hb hx=>?_,u.free,fun b o e hx=>?_,u.Zq,u.frzs,u.tbls⟩
    ·obtain⟨sl,q⟩:=u.slot b o e n hb hx
     exact⟨sl,kp7 b _ (Nat.ne_of_lt (Heap.lt_size e)) q⟩
    ·obtain⟨o',q⟩:=u.there b o e hx
     exact⟨o',kp7 b _ (Nat.ne_of_lt (Heap.lt_size e)) q⟩
   have hok7:HOk X.prog X.w H5 h7:=fun b u e=>(I6.hok b u e).YZ (fun c w' hcc q=>kp7 c w' (by
    rintro rfl
    rcases hcc with rfl|hcc
    ·rw[hC6]at e;cases e
    ·rw[hC6]at hcc;cases hcc) q) (fun _ q=>q) fun _ _ q=>q
   have I7:Inv X pins σ H5 {s6 with heap:=h7}:=I3.jO (s':={s6 with heap:=h7}) I6.os un7 hok7 I6.bare fun b hb=>by
    rcases List.mem_cons.mp hb with rfl|hb
    ·exact⟨.inr hDs0,hDL,hDC,hDp⟩
    ·obtain⟨_,f1,_,f3,f4,f5⟩:=f2 b hb
     exact⟨f3,f1,f4,f5⟩
   obtain⟨eD,nD,_⟩:=I6.pin (D,Z0 ys) (by simp)
   have nD':H5 D=none:=nD
   have eD':h7.get? D=some (Z0 ys):=kp7 D _ (Nat.ne_of_lt dl3) eD
   have hD0:X.s₀.heap.get? D=none:=by
    cases q:X.s₀.heap.get? D with
    |none=>rfl
    |some o=>exact absurd (Nat.lt_of_lt_of_le (Heap.lt_size q) hDs0) (Nat.lt_irrefl _)
   exact⟨.ref D,upd H5 D (.lst vs),I7.kE nD' hD0 hDL hDC hDp ⟨hvl,ys,ys.length,rv,eD'⟩,rfl,qn D nD'⟩
  ·refine wpAny_mono (T.item (QU X (NB++FR) scope s3 H2 (D::fp)) rfl rfl rfl hcB i _ s5 _ H5 (fun _ _=>False) I5 (stat fr5) st5 go) (fun r s6⟨u,hr,h6⟩=>?_) (fun _ _ z=>z.elim)
   subst hr
   refine wpAny_mono h6 (fun _ s7⟨x,H7,I7,r7,y7,st7,fr7⟩=>?_) (fun _ _ z=>z.elim)
   have I7':=I7.pinned (stat fr7) (T.obj _ _ st7)
   refine wpAny_mono (hg s3 H2 (D::fp) _ s7 _ H7 x u _ I7' r7 (step x H7 y7)) (fun _ s8⟨σ8,H8,I8,hk8,q8⟩=>?_) (fun _ _ z=>z.elim)
   refine wpAny_mono (ht s3 H2 (D::fp) _ s8 σ8 H8 _ I8 q8) (fun ok s9⟨H9,I9,q9⟩=>?_) (fun _ _ z=>z.elim)
   have fpK:∀{σ':St}{H':Hp}{s':Shared},Inv (QU X (NB++FR) scope s3 H2 (D::fp)) ([(D,Z0 ys)]++KO fp s7.heap) σ' H' s'→tn (i+1) s'.heap∧∀b∈fp,H' b=none:=fun J=>
    ⟨T.keep _ _ _ st7 fun b hb o e=>(J.pin (b,o) (List.mem_append_right _ (List.mem_append_right _ (Jp hb e)))).1,fun b hb=>by
     obtain⟨o,e,d⟩:=T.obj _ _ st7 b hb
     exact(J.pin (b,o) (List.mem_append_right _ (List.mem_append_right _ (Jp hb e)))).2.1⟩
   have wk:∀{H':Hp}{s':Shared}{pl:List (Addr × Obj)},Inv (QU X (NB++FR) scope s3 H2 (D::fp)) pl σ8 H' s'→Inv (QU X (NB++FR) scope s3 H2 (D::fp)) pl (List.replicate NB.length none++fv.map some) H' s':=fun J=>
    J.weak (hlen0.trans J.len.symm) fun j v z=>by
     obtain⟨k,rfl,hk⟩:=rep j v z
     have:=congrArg (fun l=>l[k]?) hk8
     simp only[List.getElem?_drop,List.getElem?_map,hk]at this
     exact this
   cases ok with
   |false=>
    rw[if_neg (by decide)]at q9
    rw[if_neg (by decide)]
    obtain⟨m',hm,w9⟩:=hN vs H9 q9
    obtain⟨t9,f9⟩:=fpK I9
    exact⟨m',hm,i+1,vs,ys,H9,wk I9.JK,rv,hvl,t9,f9,w9⟩
   |true=>
    rw[if_pos rfl]at q9
    rw[if_pos rfl]
    refine wpAny_mono (he s3 H2 (D::fp) _ s9 σ8 H9 _ I9 q9) (fun y s10⟨v,H10,I10,rv10,q10⟩=>?_) (fun _ _ z=>z.elim)
    obtain⟨eD,nD,_,nf,_⟩:=I10.pin (D,Z0 ys) (by simp)
    have hyl:=rv.length
    refine append_at (hsz:=by show ys.toArray.size≤sizeLine;rw[List.size_toArray, ←hyl];exact hvl) eD fun h11 sb11 hD11=>?_
    obtain⟨m',hm,w11⟩:=hN (vs++[v]) H10 q10
    obtain⟨t10,f10⟩:=fpK I10
    have I10u:=I10.JK
    have k11:∀b o,b≠D→s10.heap.get? b=some o→h11.get? b=some o:=fun b o hb e=>(sb11.2 b hb).trans e
    have IE:Inv (QU X (NB++FR) scope s3 H2 (D::fp)) [] σ8 H10 s10:=I10u.Zx fun p hp=>nomatch hp
    have I11:Inv (QU X (NB++FR) scope s3 H2 (D::fp)) [] σ8 H10 {s10 with heap:=h11}:=IE.turned (t':=s10.toks) k11 nD (Nat.ne_of_lt dl3) (.inl List.mem_cons_self) (fun y' c e z=>(ccl y' c e).2.2.1 z) (fun p hp=>absurd (show p∈([]:List (Addr × Obj))from hp) (by simp))
    have eL:({cls:=.type "list",data:=.seq (ys.toArray.push y) (ys.length+1)}:Obj)=Z0 (ys++[y]):=by
     show({cls:=.type "list",data:=.seq (ys.toArray.push y) (ys.length+1)}:Obj)={cls:=.type "list",data:=.seq (ys++[y]).toArray (ys++[y]).length}
     rw[List.length_append,List.length_singleton,List.push_toArray]
    refine⟨m',hm,i+1,vs++[v],ys++[y],H10,wk (I11.Zx fun p hp=>?_),rv.append (.cons rv10 .nil),by rw[List.length_append,List.length_singleton];exact hlt,T.keep _ _ _ t10 fun b hb o e=>k11 b o (DfpN b hb) e,f10,w11⟩
    obtain rfl:p=(D,Z0 (ys++[y])):=by simpa using hp
    exact⟨by rw[←eL];exact hD11,nD,Nat.ne_of_lt dl3,nf,fun v z=>nomatch z⟩
 exact codeAny_compStart_list loop (T.self _ 0 _ _ _ st4 loop)
end
end L2
set_option Elab.async false
set_option linter.all false
set_option maxRecDepth 100000
namespace L2
open PySem PySem.Spec PyProof.Rows
open Builtin Builtin.Str
section
variable {X:Cx}{pins:List (Addr × Obj)}{σ:List (Option V)}{H:Hp}{s:Shared}{h':Heap}
theorem Inv.zv{t':Nat}{ch:List Addr}(I:Inv X pins σ H s)(hf:∀b∈ch,jI X pins H b) (k:∀b o,b∉ch→s.heap.get? b=some o→h'.get? b=some o):Inv X pins σ H {s with heap:=h',toks:=t'}:=by
 have nit:∀b u,H b=some u→b∉ch:=fun b u e z=>by rw[(hf b z).1]at e;cases e
 refine I.step (g':=s.gens) (d':=s.drawn) (ch:=ch) (fun b hb=>?_) (fun b o _ _ hc e _=>k b o hc e) (fun b o _ _ hc e _=>⟨o.slots,k b o hc e⟩) (fun _ _ _ _ n=>n) (fun b o hc e=>⟨o,k b o hc e⟩) (fun _ _ e=>e) (fun _ _ _ e=>e) (fun b ps e=>⟨#[],by rw[e];simp⟩) (fun m hm=>?_) (fun b u e=>?_) I.bare
 ·obtain⟨_,f1,_,f3,f4,f5⟩:=hf b hb
  exact⟨f3,f1,f4,f5⟩
 ·obtain⟨o,es,ep,ho,r⟩:=hm
  exact⟨o,es,ep,k _ o (fun z=>(hf _ z).2.1 rfl) ho,r⟩
 ·refine(I.hok b u e).YZ (fun c v hc q=>k c v ?_ q) (fun _ q=>q) fun _ _ q=>q
  rcases hc with z|z
  ·rw[z];exact nit b u e
  ·exact nit c _ z
theorem Inv.zw{t':Nat}{ch:List Addr}{T:Addr}{xs:List V}(I:Inv X pins σ H s)(hf:∀b∈ch,jI X pins H b) (k:∀b o,b∉ch→s.heap.get? b=some o→h'.get? b=some o) (hT:s.heap.objs.size≤T)
  (new:Q7 X.prog X.w (upd H T (.tup xs)) h' T (.tup xs)):Inv X pins σ (upd H T (.tup xs)) {s with heap:=h',toks:=t'}:=by
 have hn:=I.hok.fresh hT
 have nit:∀b u,H b=some u→b∉ch:=fun b u e z=>by rw[(hf b z).1]at e;cases e
 have nT:∀b o,H b=some o→upd H T (.tup xs) b=some o:=fun b o e=>by rw[Qi (Qr e hn)];exact e
 refine I.step (g':=s.gens) (d':=s.drawn) (ch:=ch) (fun b hb=>?_) (fun b o _ _ hc e _=>k b o hc e) (fun b o _ _ hc e _=>⟨o.slots,k b o hc e⟩) (fun b o _ e n=>?_) (fun b o hc e=>⟨o,k b o hc e⟩) (fun b ys e=>nT b _ e) (fun b o u e=>nT b _ e) (fun b ps e=>⟨#[],by rw[nT b _ e];simp⟩) (fun m hm=>?_) (fun b u e=>?_) I.bare
 ·obtain⟨_,f1,_,f3,f4,f5⟩:=hf b hb
  exact⟨f3,f1,f4,f5⟩
 ·rw[Qi (fun z=>absurd (Heap.lt_size e) (by rw[z];exact Nat.not_lt.mpr hT))]
  exact n
 ·obtain⟨o,es,ep,ho,r⟩:=hm
  exact⟨o,es,ep,k _ o (fun z=>(hf _ z).2.1 rfl) ho,r⟩
 ·by_cases hb:b=T
  ·subst hb;rw[Qc]at e;cases e;exact new
  ·rw[Qi hb]at e
   refine(I.hok b u e).YZ (fun c v hc q=>k c v ?_ q) (fun c q=>nT c _ q) fun c ys q=>nT c _ q
   rcases hc with z|z
   ·rw[z];exact nit b u e
   ·exact nit c _ z
end
section
variable {X:Cx}
end
end L2
set_option Elab.async false
set_option linter.all false
set_option maxRecDepth 100000
namespace L2
open PySem PySem.Spec PyProof.Rows
open Builtin Builtin.Str
section
variable {prog:Program}{w:World}{A:Around}{E:Value→Shared→Prop}{s:Shared}
end
section
variable {X:Cx}
end
section
variable {X:Cx}{o i:Expr}{td ty:TE}{a:Addr}{kvs:List (Key × V)}
end
end L2
set_option Elab.async false
set_option linter.all false
set_option maxRecDepth 100000
namespace L2
open PySem PySem.Spec PyProof.Rows
end L2
set_option Elab.async false
set_option linter.all false
set_option maxRecDepth 100000
namespace L2
open PySem PySem.Spec PyProof.Rows
open Builtin Builtin.Str
abbrev Ap5(z TI TO i1 i2:Addr):Prop:=ZipApart z TI TO i1 i2 TI TI
section
variable {prog:Program}{w:World}{A:Around}{E:Value→Shared→Prop}{s:Shared}{z TI TO i1 i2:Addr}{k n1 n2:Nat}{P1 P2:Nat→Value→Prop}{S1 S2:Nat→Heap→Prop}{a b:Value}
end
section
variable {prog:Program}{w:World}{A:Around}{E:Value→Shared→Prop}{s:Shared}{z TI TO i1 i2:Addr}{k n1 n2:Nat}{P1 P2:Nat→Value→Prop}{S1 S2:Nat→Heap→Prop}{a b:Value}
end
section
variable {X:Cx}
end
end L2
set_option Elab.async false
set_option linter.all false
namespace L2
open PySem PySem.Spec PyProof.Rows
inductive Dv where
 |non|bl (b:Bool)|int (i:Int)|str (x:Str)|tup (ds:List Dv)
mutual
def Dv.depth:Dv→Nat
 | .tup ds=>Dv.Zd ds+1
 |_=>0
def Dv.Zd:List Dv→Nat
 |[]=>0
 |d::ds=>max (Dv.depth d) (Dv.Zd ds)
end
mutual
def Dv.eqb:Dv→Dv→Bool
 | .non,.non=>true
 | .bl a,.bl b=>a==b
 | .bl a,.int b=>(if a then 1 else 0)==b
 | .int a,.bl b=>a==(if b then 1 else 0)
 | .int a,.int b=>a==b
 | .str a,.str b=>a==b
 | .tup xs,.tup ys=>Dv.yF xs ys
 |_,_=>false
def Dv.yF:List Dv→List Dv→Bool
 |[],[]=>true
 |x::xs,y::ys=>Dv.eqb x y&&Dv.yF xs ys
 |_,_=>false
end
mutual
inductive Deep (H:Hp):V→Dv→Prop where
 |non:Deep H .non .non
 |bl {b:Bool}:Deep H (.bl b) (.bl b)
 |int {i:Int}:Deep H (.int i) (.int i)
 |str {x:Str}:Deep H (.str x) (.str x)
 |tup {a:Addr} {xs:List V} {ds:List Dv} (h:H a=some (.tup xs)) (t:Deeps H xs ds):Deep H (.ref a) (.tup ds)
inductive Deeps (H:Hp):List V→List Dv→Prop where
 |nil:Deeps H [] []
 |cons {x:V} {d:Dv} {xs:List V} {ds:List Dv} (h:Deep H x d) (t:Deeps H xs ds):Deeps H (x::xs) (d::ds)
end
theorem Deeps.length{H:Hp}:∀{xs:List V}{ds:List Dv},Deeps H xs ds→xs.length=ds.length
 |_,_,.nil=>rfl
 |_,_,.cons _ t=>congrArg (· +1) t.length
theorem Deeps.get{H:Hp}:∀{xs:List V}{ds:List Dv}{i:Nat}{d:Dv},Deeps H xs ds→ds[i]? =some d→∃x,xs[i]? =some x∧Deep H x d
 |_,_,_,_,.nil,e=>by simp at e
 |_,_,0,_,.cons h _,e=>by
  simp at e
  subst e
  exact⟨_,rfl,h⟩
 |_,_,i+1,d,.cons _ t,e=>by
  obtain⟨x,h1,h2⟩:=Deeps.get (i:=i) (d:=d) t (by simpa using e)
  exact⟨x,by simpa using h1,h2⟩
theorem Deeps.W7{H:Hp}:∀{xs:List V}{ds:List Dv}{i:Nat}{x:V},Deeps H xs ds→xs[i]? =some x→∃d,ds[i]? =some d∧Deep H x d
 |_,_,_,_,.nil,e=>by simp at e
 |_,_,0,_,.cons h _,e=>by
  simp at e
  subst e
  exact⟨_,rfl,h⟩
 |_,_,i+1,x,.cons _ t,e=>by
  obtain⟨d,h1,h2⟩:=Deeps.W7 (i:=i) (x:=x) t (by simpa using e)
  exact⟨d,by simpa using h1,h2⟩
theorem Deeps.append{H:Hp}:∀{xs ys:List V}{ds es:List Dv},Deeps H xs ds→Deeps H ys es→Deeps H (xs++ys) (ds++es)
 |_,_,_,_,.nil,q=>q
 |_,_,_,_,.cons h t,q=>.cons h (Deeps.append t q)
theorem Deeps.take{H:Hp}:∀{xs:List V}{ds:List Dv}(n:Nat),Deeps H xs ds→Deeps H (xs.take n) (ds.take n)
 |_,_,0,_=>.nil
 |_,_,_+1,.nil=>.nil
 |_,_,n+1,.cons h t=>.cons h (Deeps.take n t)
theorem Deeps.drop{H:Hp}:∀{xs:List V}{ds:List Dv}(n:Nat),Deeps H xs ds→Deeps H (xs.drop n) (ds.drop n)
 |_,_,0,t=>t
 |_,_,_+1,.nil=>.nil
 |_,_,n+1,.cons _ t=>Deeps.drop n t
mutual
theorem Deep.keep{H H':Hp}(k:∀b ys,H b=some (.tup ys)→H' b=some (.tup ys)):∀{x:V}{d:Dv},Deep H x d→Deep H' x d
 |_,_,.non=>.non
 |_,_,.bl=>.bl
 |_,_,.int=>.int
 |_,_,.str=>.str
 |_,_,.tup h t=>.tup (k _ _ h) (Deeps.keep k t)
theorem Deeps.keep{H H':Hp}(k:∀b ys,H b=some (.tup ys)→H' b=some (.tup ys)):∀{xs:List V}{ds:List Dv},Deeps H xs ds→Deeps H' xs ds
 |_,_,.nil=>.nil
 |_,_,.cons h t=>.cons (Deep.keep k h) (Deeps.keep k t)
end
theorem Deep.same{H H':Hp}{x:V}{d:Dv}(h:Deep H x d)(S:Qg H H'):Deep H' x d:=h.keep (fun b ys e=>S _ _ e)
theorem Deeps.same{H H':Hp}{xs:List V}{ds:List Dv}(h:Deeps H xs ds)(S:Qg H H'):Deeps H' xs ds:=h.keep (fun b ys e=>S _ _ e)
section
variable {X:Cx}{pins:List (Addr × Obj)}{σ:St}{H:Hp}{s:Shared}
mutual
theorem Deep.inj(I:Inv X pins σ H s):∀{x:V}{d e:Dv},Deep H x d→Deep H x e→d=e
 |_,_,_,.non,.non=>rfl
 |_,_,_,.bl,.bl=>rfl
 |_,_,_,.int,.int=>rfl
 |_,_,_,.str,.str=>rfl
 |_,_,_,.tup h t,.tup h2 t2=>by
  have e:=I.V6 (.inl (.inl h)) (.inl (.inl h2))
  subst e
  rw[Deeps.inj I t t2]
theorem Deeps.inj(I:Inv X pins σ H s):∀{xs:List V}{ds es:List Dv},Deeps H xs ds→Deeps H xs es→ds=es
 |_,_,_,.nil,.nil=>rfl
 |_,_,_,.cons h t,.cons h2 t2=>by rw[Deep.inj I h h2,Deeps.inj I t t2]
end
end
mutual
theorem Dv.JD:∀d:Dv,d.eqb d=true
 | .non=>rfl
 | .bl b=>by cases b<;>rfl
 | .int i=>by unfold Dv.eqb;exact beq_self_eq_true i
 | .str x=>by unfold Dv.eqb;exact beq_self_eq_true x
 | .tup ds=>by unfold Dv.eqb;exact Dv.Yv ds
theorem Dv.Yv:∀ds:List Dv,Dv.yF ds ds=true
 |[]=>rfl
 |d::ds=>by unfold Dv.yF;rw[Dv.JD d,Dv.Yv ds];rfl
end
theorem Dv.ZV:∀(ds es:List Dv),Dv.yF ds es=((List.range (min ds.length es.length)).all (fun j=>((ds[j]?).getD .non).eqb ((es[j]?).getD .non))&&ds.length==es.length)
 |[],[]=>rfl
 |[],e::es=>rfl
 |d::ds,[]=>rfl
 |d::ds,e::es=>by
  unfold Dv.yF
  rw[Dv.ZV ds es,List.length_cons,List.length_cons,show min (ds.length+1) (es.length+1)=min ds.length es.length+1 by omega,List.range_succ_eq_map,List.all_cons,List.all_map,Bool.and_assoc]
  congr 1
  congr 1
  exact Bool.eq_iff_iff.mpr (by simp)
theorem Dv.KB:∀{ds:List Dv}{i:Nat}{d:Dv},ds[i]? =some d→d.depth≤Dv.Zd ds
 |[],_,_,e=>by simp at e
 |x::xs,0,d,e=>by
  simp at e
  subst e
  unfold Dv.Zd
  omega
 |x::xs,i+1,d,e=>by
  have:=Dv.KB (ds:=xs) (i:=i) (d:=d) (by simpa using e)
  unfold Dv.Zd
  omega
section
variable {X:Cx}{pins:List (Addr × Obj)}{σ:St}{H:Hp}{s:Shared}
theorem Deep.at1(I:Inv X pins σ H s){N:Nat}{x y:V}{d e:Dv}(hd:d.depth≤N)(hx:Deep H x d)(hy:Deep H y e){A:Around}{u v:Value}(hu:A.units+N<cLine)(rx:RelV x u)(ry:RelV y v)
  (ih:∀n,N=n+1→∀(d e:Dv)(x y:V),d.depth≤n→Deep H x d→Deep H y e→∀{A:Around}{u v:Value},A.units+n<cLine→RelV x u→RelV y v→SeqAt.EqAt A s u v (d.eqb e)):SeqAt.EqAt A s u v (d.eqb e):=by
 cases hx with
 |non=>
  cases rx
  cases hy with
  |non=>
   cases ry
   exact .same _
  |@bl b2=>
   cases ry
   exact SeqAt.EqAt.none_bool b2
  |@int i2=>
   obtain⟨ty,rfl⟩:=ry
   exact SeqAt.EqAt.none_int i2 ty
  |@str z2=>
   obtain⟨ty,rfl⟩:=ry
   exact SeqAt.EqAt.none_str z2 ty
  |@tup a2 ys es h2 t2=>
   obtain rfl:v=Value.ref a2:=ry
   obtain⟨its2,r2,p2,_⟩:=I.tuple (.inl (.inl h2))
   exact SeqAt.EqAt.none_tuple p2 (by omega)
 |@bl b=>
  cases rx
  cases hy with
  |non=>
   cases ry
   exact SeqAt.EqAt.bool_none b
  |@bl b2=>
   cases ry
   exact SeqAt.EqAt.bool_bool b b2
  |@int i2=>
   obtain⟨ty,rfl⟩:=ry
   exact SeqAt.EqAt.bool_int b i2 ty
  |@str z2=>
   obtain⟨ty,rfl⟩:=ry
   exact SeqAt.EqAt.bool_str b z2 ty
  |@tup a2 ys es h2 t2=>
   obtain rfl:v=Value.ref a2:=ry
   obtain⟨its2,r2,p2,_⟩:=I.tuple (.inl (.inl h2))
   exact SeqAt.EqAt.bool_tuple b p2 (by omega)
 |@int i=>
  obtain⟨tx,rfl⟩:=rx
  cases hy with
  |non=>
   cases ry
   exact SeqAt.EqAt.int_none i tx
  |@bl b2=>
   cases ry
   exact SeqAt.EqAt.int_bool i tx b2
  |@int i2=>
   obtain⟨ty,rfl⟩:=ry
   exact SeqAt.EqAt.int_int i tx i2 ty
  |@str z2=>
   obtain⟨ty,rfl⟩:=ry
   exact SeqAt.EqAt.int_str i tx z2 ty
  |@tup a2 ys es h2 t2=>
   obtain rfl:v=Value.ref a2:=ry
   obtain⟨its2,r2,p2,_⟩:=I.tuple (.inl (.inl h2))
   exact SeqAt.EqAt.int_tuple i tx p2 (by omega)
 |@str z=>
  obtain⟨tx,rfl⟩:=rx
  cases hy with
  |non=>
   cases ry
   exact SeqAt.EqAt.str_none z tx
  |@bl b2=>
   cases ry
   exact SeqAt.EqAt.str_bool z tx b2
  |@int i2=>
   obtain⟨ty,rfl⟩:=ry
   exact SeqAt.EqAt.str_int z tx i2 ty
  |@str z2=>
   obtain⟨ty,rfl⟩:=ry
   exact SeqAt.EqAt.str_str z tx z2 ty
  |@tup a2 ys es h2 t2=>
   obtain rfl:v=Value.ref a2:=ry
   obtain⟨its2,r2,p2,_⟩:=I.tuple (.inl (.inl h2))
   exact SeqAt.EqAt.str_tuple z tx p2 (by omega)
 |@tup a xs ds h t=>
  obtain rfl:u=Value.ref a:=rx
  obtain⟨its,r1,p1,_⟩:=I.tuple (.inl (.inl h))
  cases hy with
  |non=>
   cases ry
   exact SeqAt.EqAt.tuple_none p1 (by omega)
  |@bl b2=>
   cases ry
   exact SeqAt.EqAt.tuple_bool b2 p1 (by omega)
  |@int i2=>
   obtain⟨ty,rfl⟩:=ry
   exact SeqAt.EqAt.tuple_int i2 ty p1 (by omega)
  |@str z2=>
   obtain⟨ty,rfl⟩:=ry
   exact SeqAt.EqAt.tuple_str z2 ty p1 (by omega)
  |@tup a2 ys es h2 t2=>
   obtain rfl:v=Value.ref a2:=ry
   obtain⟨its2,r2,p2,_⟩:=I.tuple (.inl (.inl h2))
   obtain⟨n,rfl⟩:∃n,N=n+1:=⟨N-1,by have:=hd;unfold Dv.depth at this;omega⟩
   have hl1:=t.length
   have hl2:=t2.length
   have q1:=r1.length
   have q2:=r2.length
   have z:=SeqAt.RcAt.tuples (A:=A) (s:=s) (e:=fun j=>((ds[j]?).getD .non).eqb ((es[j]?).getD .non)) p1 p2 (by omega) (ZC (pins:=pins) (σ:=σ) (H:=H) (n:=n) r1 r2 fun j x y u v g1 g2 w1 w2=>?_)
   ·rw[List.size_toArray,List.size_toArray, ←q1, ←q2,hl1,hl2, ←Dv.ZV]at z
    by_cases ne:a=a2
    ·subst ne
     rw[Deep.inj I (.tup h t) (.tup h2 t2),Dv.JD]
     exact .same _
    ·unfold Dv.eqb
     exact .of_refs ne z
   ·obtain⟨d1,k1,k2⟩:=t.W7 g1
    obtain⟨e1,m1,m2⟩:=t2.W7 g2
    show SeqAt.EqAt A.in1 s u v (((ds[j]?).getD .non).eqb ((es[j]?).getD .non))
    rw[k1,m1]
    exact ih n rfl d1 e1 x y (Nat.le_trans (Dv.KB k1) (by have:=hd;unfold Dv.depth at this;omega)) k2 m2 (by show A.units+1+n<cLine;omega) w1 w2
theorem Deep.at(I:Inv X pins σ H s):∀(n:Nat)(d e:Dv)(x y:V),d.depth≤n→Deep H x d→Deep H y e→∀{A:Around}{u v:Value},A.units+n<cLine→RelV x u→RelV y v→SeqAt.EqAt A s u v (d.eqb e):=by
 intro n
 induction n with
 |zero=>
  intro d e x y hd hx hy A u v hu rx ry
  exact Deep.at1 I hd hx hy hu rx ry fun n hn=>absurd hn (by omega)
 |succ n ih=>
  intro d e x y hd hx hy A u v hu rx ry
  refine Deep.at1 I hd hx hy hu rx ry fun m hm=>?_
  obtain rfl:n=m:=by omega
  exact ih
theorem Deep.rc(I:Inv X pins σ H s){n:Nat}{x y:V}{d e:Dv}(hd:d.depth≤n)(hx:Deep H x d)(hy:Deep H y e){u v:Value}(hu:X.A.units+n<cLine)(rx:RelV x u)(ry:RelV y v):SeqAt.RcAt X.A s u v (d.eqb e):=by
 cases hx with
 |non=>
  cases rx
  cases hy with
  |non=>
   cases ry
   exact SeqAt.RcAt.none_none
  |@bl b2=>
   cases ry
   exact SeqAt.RcAt.none_bool b2
  |@int i2=>
   obtain⟨ty,rfl⟩:=ry
   exact SeqAt.RcAt.none_int i2 ty
  |@str z2=>
   obtain⟨ty,rfl⟩:=ry
   exact SeqAt.RcAt.none_str z2 ty
  |@tup a2 ys es h2 t2=>
   obtain rfl:v=Value.ref a2:=ry
   obtain⟨its2,r2,p2,_⟩:=I.tuple (.inl (.inl h2))
   exact SeqAt.RcAt.none_tuple p2 (by omega)
 |@bl b=>
  cases rx
  cases hy with
  |non=>
   cases ry
   exact SeqAt.RcAt.bool_none b
  |@bl b2=>
   cases ry
   exact SeqAt.RcAt.bool_bool b b2
  |@int i2=>
   obtain⟨ty,rfl⟩:=ry
   exact SeqAt.RcAt.bool_int b i2 ty
  |@str z2=>
   obtain⟨ty,rfl⟩:=ry
   exact SeqAt.RcAt.bool_str b z2 ty
  |@tup a2 ys es h2 t2=>
   obtain rfl:v=Value.ref a2:=ry
   obtain⟨its2,r2,p2,_⟩:=I.tuple (.inl (.inl h2))
   exact SeqAt.RcAt.bool_tuple b p2 (by omega)
 |@int i=>
  obtain⟨tx,rfl⟩:=rx
  cases hy with
  |non=>
   cases ry
   exact SeqAt.RcAt.int_none i tx
  |@bl b2=>
   cases ry
   exact SeqAt.RcAt.int_bool i tx b2
  |@int i2=>
   obtain⟨ty,rfl⟩:=ry
   exact SeqAt.RcAt.int_int i tx i2 ty
  |@str z2=>
   obtain⟨ty,rfl⟩:=ry
   exact SeqAt.RcAt.int_str i tx z2 ty
  |@tup a2 ys es h2 t2=>
   obtain rfl:v=Value.ref a2:=ry
   obtain⟨its2,r2,p2,_⟩:=I.tuple (.inl (.inl h2))
   exact SeqAt.RcAt.int_tuple i tx p2 (by omega)
 |@str z=>
  obtain⟨tx,rfl⟩:=rx
  cases hy with
  |non=>
   cases ry
   exact SeqAt.RcAt.str_none z tx
  |@bl b2=>
   cases ry
   exact SeqAt.RcAt.str_bool z tx b2
  |@int i2=>
   obtain⟨ty,rfl⟩:=ry
   exact SeqAt.RcAt.str_int z tx i2 ty
  |@str z2=>
   obtain⟨ty,rfl⟩:=ry
   exact SeqAt.RcAt.str_str z tx z2 ty
  |@tup a2 ys es h2 t2=>
   obtain rfl:v=Value.ref a2:=ry
   obtain⟨its2,r2,p2,_⟩:=I.tuple (.inl (.inl h2))
   exact SeqAt.RcAt.str_tuple z tx p2 (by omega)
 |@tup a xs ds h t=>
  obtain rfl:u=Value.ref a:=rx
  obtain⟨its,r1,p1,_⟩:=I.tuple (.inl (.inl h))
  cases hy with
  |non=>
   cases ry
   exact SeqAt.RcAt.tuple_none p1 (by omega)
  |@bl b2=>
   cases ry
   exact SeqAt.RcAt.tuple_bool b2 p1 (by omega)
  |@int i2=>
   obtain⟨ty,rfl⟩:=ry
   exact SeqAt.RcAt.tuple_int i2 ty p1 (by omega)
  |@str z2=>
   obtain⟨ty,rfl⟩:=ry
   exact SeqAt.RcAt.tuple_str z2 ty p1 (by omega)
  |@tup a2 ys es h2 t2=>
   obtain rfl:v=Value.ref a2:=ry
   obtain⟨its2,r2,p2,_⟩:=I.tuple (.inl (.inl h2))
   have hl1:=t.length
   have hl2:=t2.length
   have q1:=r1.length
   have q2:=r2.length
   have hd':Dv.Zd ds+1≤n:=by have:=hd;unfold Dv.depth at this;exact this
   have z:=SeqAt.RcAt.tuples (A:=X.A) (s:=s) (e:=fun j=>((ds[j]?).getD .non).eqb ((es[j]?).getD .non)) p1 p2 (by omega) (ZC (pins:=pins) (σ:=σ) (H:=H) (n:=n) r1 r2 fun j x y u v g1 g2 w1 w2=>?_)
   ·rw[List.size_toArray,List.size_toArray, ←q1, ←q2,hl1,hl2, ←Dv.ZV]at z
    unfold Dv.eqb
    exact z
   ·obtain⟨d1,k1,k2⟩:=t.W7 g1
    obtain⟨e1,m1,m2⟩:=t2.W7 g2
    show SeqAt.EqAt X.A.in1 s u v (((ds[j]?).getD .non).eqb ((es[j]?).getD .non))
    rw[k1,m1]
    exact Deep.at I (n-1) d1 e1 x y (Nat.le_trans (Dv.KB k1) (by omega)) k2 m2 (by show X.A.units+1+(n-1)<cLine;omega) w1 w2
theorem Deep.Qcr(I:Inv X pins σ H s){n:Nat}{x y:V}{d e:Dv}(hd:d.depth≤n)(hx:Deep H x d)(hy:Deep H y e){u v:Value}(hu:X.A.units+n<cLine)(rx:RelV x u)(ry:RelV y v):SeqAt.RcNeAt X.A s u v (!(d.eqb e)):=by
 cases hx with
 |non=>
  cases rx
  cases hy with
  |non=>
   cases ry
   exact SeqAt.RcNeAt.none_none
  |@bl b2=>
   cases ry
   exact SeqAt.RcNeAt.none_bool b2
  |@int i2=>
   obtain⟨ty,rfl⟩:=ry
   exact SeqAt.RcNeAt.none_int i2 ty
  |@str z2=>
   obtain⟨ty,rfl⟩:=ry
   exact SeqAt.RcNeAt.none_str z2 ty
  |@tup a2 ys es h2 t2=>
   obtain rfl:v=Value.ref a2:=ry
   obtain⟨its2,r2,p2,_⟩:=I.tuple (.inl (.inl h2))
   exact SeqAt.RcNeAt.none_tuple p2 (by omega)
 |@bl b=>
  cases rx
  cases hy with
  |non=>
   cases ry
   exact SeqAt.RcNeAt.bool_none b
  |@bl b2=>
   cases ry
   exact SeqAt.RcNeAt.bool_bool b b2
  |@int i2=>
   obtain⟨ty,rfl⟩:=ry
   exact SeqAt.RcNeAt.bool_int b i2 ty
  |@str z2=>
   obtain⟨ty,rfl⟩:=ry
   exact SeqAt.RcNeAt.bool_str b z2 ty
  |@tup a2 ys es h2 t2=>
   obtain rfl:v=Value.ref a2:=ry
   obtain⟨its2,r2,p2,_⟩:=I.tuple (.inl (.inl h2))
   exact SeqAt.RcNeAt.bool_tuple b p2 (by omega)
 |@int i=>
  obtain⟨tx,rfl⟩:=rx
  cases hy with
  |non=>
   cases ry
   exact SeqAt.RcNeAt.int_none i tx
  |@bl b2=>
   cases ry
   exact SeqAt.RcNeAt.int_bool i tx b2
  |@int i2=>
   obtain⟨ty,rfl⟩:=ry
   exact SeqAt.RcNeAt.int_int i tx i2 ty
  |@str z2=>
   obtain⟨ty,rfl⟩:=ry
   exact SeqAt.RcNeAt.int_str i tx z2 ty
  |@tup a2 ys es h2 t2=>
   obtain rfl:v=Value.ref a2:=ry
   obtain⟨its2,r2,p2,_⟩:=I.tuple (.inl (.inl h2))
   exact SeqAt.RcNeAt.int_tuple i tx p2 (by omega)
 |@str z=>
  obtain⟨tx,rfl⟩:=rx
  cases hy with
  |non=>
   cases ry
   exact SeqAt.RcNeAt.str_none z tx
  |@bl b2=>
   cases ry
   exact SeqAt.RcNeAt.str_bool z tx b2
  |@int i2=>
   obtain⟨ty,rfl⟩:=ry
   exact SeqAt.RcNeAt.str_int z tx i2 ty
  |@str z2=>
   obtain⟨ty,rfl⟩:=ry
   exact SeqAt.RcNeAt.str_str z tx z2 ty
  |@tup a2 ys es h2 t2=>
   obtain rfl:v=Value.ref a2:=ry
   obtain⟨its2,r2,p2,_⟩:=I.tuple (.inl (.inl h2))
   exact SeqAt.RcNeAt.str_tuple z tx p2 (by omega)
 |@tup a xs ds h t=>
  obtain rfl:u=Value.ref a:=rx
  obtain⟨its,r1,p1,_⟩:=I.tuple (.inl (.inl h))
  cases hy with
  |non=>
   cases ry
   exact SeqAt.RcNeAt.tuple_none p1 (by omega)
  |@bl b2=>
   cases ry
   exact SeqAt.RcNeAt.tuple_bool b2 p1 (by omega)
  |@int i2=>
   obtain⟨ty,rfl⟩:=ry
   exact SeqAt.RcNeAt.tuple_int i2 ty p1 (by omega)
  |@str z2=>
   obtain⟨ty,rfl⟩:=ry
   exact SeqAt.RcNeAt.tuple_str z2 ty p1 (by omega)
  |@tup a2 ys es h2 t2=>
   obtain rfl:v=Value.ref a2:=ry
   obtain⟨its2,r2,p2,_⟩:=I.tuple (.inl (.inl h2))
   have hl1:=t.length
   have hl2:=t2.length
   have q1:=r1.length
   have q2:=r2.length
   have hd':Dv.Zd ds+1≤n:=by have:=hd;unfold Dv.depth at this;exact this
   have z:=SeqAt.RcNeAt.tuples (A:=X.A) (s:=s) (e:=fun j=>((ds[j]?).getD .non).eqb ((es[j]?).getD .non)) p1 p2 (by omega) (ZC (pins:=pins) (σ:=σ) (H:=H) (n:=n) r1 r2 fun j x y u v g1 g2 w1 w2=>?_)
   ·rw[List.size_toArray,List.size_toArray, ←q1, ←q2,hl1,hl2, ←Dv.ZV]at z
    unfold Dv.eqb
    exact z
   ·obtain⟨d1,k1,k2⟩:=t.W7 g1
    obtain⟨e1,m1,m2⟩:=t2.W7 g2
    show SeqAt.EqAt X.A.in1 s u v (((ds[j]?).getD .non).eqb ((es[j]?).getD .non))
    rw[k1,m1]
    exact Deep.at I (n-1) d1 e1 x y (Nat.le_trans (Dv.KB k1) (by omega)) k2 m2 (by show X.A.units+1+(n-1)<cLine;omega) w1 w2
def Qar(n:Nat)(neg:Bool):R2:=fun x y H Q=>∃d e,Deep H x d∧Deep H y e∧d.depth≤n∧Q (.bl (if neg then !(d.eqb e)else d.eqb e)) H
theorem Uj{n:Nat}(hu:X.A.units+n<cLine):OpR X (compareOp .Eq) (Qar n false):=by
 intro pins s σ H x y v u Q I rx ry h
 obtain⟨d,e,hx,hy,hd,q⟩:=h
 exact Deep.rc I hd hx hy hu rx ry X.prog X.w X.xe _ ⟨.bl _,H,I,rfl,q⟩
theorem XW{n:Nat}(hu:X.A.units+n<cLine):OpR X (compareOp .NotEq) (Qar n true):=by
 intro pins s σ H x y v u Q I rx ry h
 obtain⟨d,e,hx,hy,hd,q⟩:=h
 exact Deep.Qcr I hd hx hy hu rx ry X.prog X.w X.xe _ ⟨.bl _,H,I,rfl,q⟩
end
end L2
set_option Elab.async false
set_option linter.all false
set_option maxRecDepth 100000
namespace L2
open PySem PySem.Spec PyProof.Rows
open Builtin Builtin.Str
section
variable {prog:Program}{w:World}{A:Around}{E:Value→Shared→Prop}{s:Shared}{j tt:Addr}{n:Nat}{its:Array Value}
theorem Qas{v:Value}{Q:Value→Shared→Prop}(g:s.heap.IsTupleIter j tt n)(gt:s.heap.IsTuple tt its)(gv:its[n]? =some v)
  (k:∀h',h'.IsTupleIter j tt (n+1)→Heap.SameBut j s.heap h'→Q v {s with heap:=h'}):wpAny (model prog w) A (Builtin.SmallTypes.nextOf (.ref j)) Q E s:=by
 obtain⟨o,ho,hc,hd⟩:=id g;obtain⟨ol,hol,_,nl,hdl⟩:=gt
 unfold Builtin.SmallTypes.nextOf;refine wpAny_bind (wpAny_callSpecial?_slot (name:=Str.ofString "__next__") g.typeIs F.slot_tuple_iterator_next (wpAny_call_entry F.slot_tuple_iterator_next g.typeIs F.entry_tuple_iterator_next ?_ (F.args_tuple_iterator_next_1 _)))
 show wpAny _ _ (field (.ref j) 0>>=_) _ _ s;refine wpAny_bind (wpAny_field ho hd (x:=.ref tt) rfl ?_)
 show wpAny _ _ (if(Value.ref tt==Value.none)=true then _ else _) _ _ s;rw[if_neg (show ¬ ((Value.ref tt==Value.none)=true)from Bool.false_ne_true)]
 show wpAny _ _ (field (.ref j) 1>>=_) _ _ s;refine wpAny_bind (wpAny_field ho hd (x:=.int n 0) rfl ?_)
 show wpAny _ _ (seqItems? (.ref tt)>>=_) _ _ s;refine wpAny_bind (wpAny_seqItems hol hdl ?_)
 simp only[Int.toNat_natCast,gv];refine wpAny_bind (wpAny_setField ho hd (by simp) (wpAny_pure ⟨v,rfl,wpAny_pure (k _ ?_ (Heap.SameBut.update ..))⟩))
 exact⟨_,Heap.get?_update_self _ ho (Obj.isFreed_of_fields (Obj.data_mapFields hd _)),(Obj.cls_mapFields ..).trans hc,by rw[Obj.data_mapFields hd];simp[rawInt]⟩
theorem vO{Q:Value→Shared→Prop}(hh:A.handled=none)(g:s.heap.IsTupleIter j tt n)(gt:s.heap.IsTuple tt its)(gv:its[n]? =none)
  (k:∀h' e,Heap.ExtBut j s.heap h'→(∃o,h'.get? e=some o∧o.cls=.type "StopIteration")→E (.ref e) {s with heap:=h'}):wpAny (model prog w) A (Builtin.SmallTypes.nextOf (.ref j)) Q E s:=by
 obtain⟨o,ho,hc,hd⟩:=id g;obtain⟨ol,hol,_,nl,hdl⟩:=gt
 unfold Builtin.SmallTypes.nextOf;refine wpAny_bind (wpAny_callSpecial?_slot (name:=Str.ofString "__next__") g.typeIs F.slot_tuple_iterator_next (wpAny_call_entry F.slot_tuple_iterator_next g.typeIs F.entry_tuple_iterator_next ?_ (F.args_tuple_iterator_next_1 _)))
 show wpAny _ _ (field (.ref j) 0>>=_) _ _ s;refine wpAny_bind (wpAny_field ho hd (x:=.ref tt) rfl ?_)
 show wpAny _ _ (if(Value.ref tt==Value.none)=true then _ else _) _ _ s;rw[if_neg (show ¬ ((Value.ref tt==Value.none)=true)from Bool.false_ne_true)]
 show wpAny _ _ (field (.ref j) 1>>=_) _ _ s;refine wpAny_bind (wpAny_field ho hd (x:=.int n 0) rfl ?_)
 show wpAny _ _ (seqItems? (.ref tt)>>=_) _ _ s;refine wpAny_bind (wpAny_seqItems hol hdl ?_)
 simp only[Int.toNat_natCast,gv];refine wpAny_bind (wpAny_rule (wpAny_bind (wpAny_setField ho hd (by simp) ?_)))
 show wpAny _ _ (newExc (.type "StopIteration") []>>=_) _ _ _;refine wpAny_bind ?_
 simp only[newExc,newTuple];refine wpAny_bind (wpAny_newObj_type ?_ (by size_fits))
 refine wpAny_bind (m:=firstArgMember _ _) (wpAny_of_eq (a:=Value.none) (by first|rfl|(simp only[firstArgMember];rfl)) ?_);refine wpAny_newObj_type ?_ (by size_fits)
 simp only[raiseNew];refine wpAny_bind (wpAny_handled ?_)
 first|rw[show A.in1.handled=none from hh]|rw[hh]
 refine wpAny_bind (wpAny_pure (wpAny_throw ?_));exact k _ _ (((Heap.SameBut.update ..).extBut.push _).push _) ⟨_,Heap.get?_push_size _ rfl,rfl⟩
end
inductive Sk where|tp|ls
def zx(k:Sk)(h:Heap)(it a:Addr)(i:Nat):Prop:=match k with| .tp=>h.IsTupleIter it a i| .ls=>h.IsListIter it a i
def Yw(k:Sk)(h:Heap)(a:Addr)(its:Array Value):Prop:=match k with| .tp=>h.IsTuple a its| .ls=>h.IsList a its
theorem ja{prog:Program}{w:World}{A:Around}(k:Sk)(hh:A.handled=none)(it a:Addr)(ne:a≠it)(its:Array Value):Draws prog w A it [it,a] its.size (fun i v=>its[i]? =some v) (fun i h=>zx k h it a i∧Yw k h a its):=by
 cases k with
 |ls=>exact Draws.list hh it a ne its
 |tp=>
  exact{live:=fun _ _ st=>let ⟨o,ho,_⟩:=st.1;⟨o,ho⟩,frame:=fun _ _ _ st hk=>⟨let ⟨o,ho,r⟩:=st.1;⟨o,hk it (by simp) o ho,r⟩,let ⟨o,ho,r⟩:=st.2;⟨o,hk a (by simp) o ho,r⟩⟩,item:=fun i s Q E hi st hQ=>(by
       refine Qas st.1 st.2 (v:=its[i]) (by simp[hi]) fun h' g hs=>?_
       exact hQ _ h' s.toks (by simp[hi]) ⟨g,let ⟨o,ho,r⟩:=st.2;⟨o,(hs.2 a ne).trans ho,r⟩⟩ hs),done:=fun s Q E st hE=>vO hh st.1 st.2 (by simp) hE}
def SkQ(k:Sk)(K:PySem.W.Frag)(H:Hp)(a:Addr)(xs:List V):Prop:=match k with| .tp=>SqT K H a xs| .ls=>SqL K H a xs
theorem Inv.sk{X:Cx}{pins:List (Addr × Obj)}{σ:St}{H:Hp}{s:Shared}{k:Sk}{a:Addr}{xs:List V}(I:Inv X pins σ H s)(h:SkQ k X.K H a xs):∃its:List Value,Vals xs its∧Yw k s.heap a its.toArray∧xs.length≤sizeLine:=by
 cases k with
 |tp=>
  obtain⟨its,r,p,z⟩:=I.tuple h
  exact⟨its,r,p,z⟩
 |ls=>
  obtain⟨its,r,p,z⟩:=I.list h
  exact⟨its,r,p.isList,z⟩
theorem Inv.zy{X:Cx}{pins:List (Addr × Obj)}{σ:St}{H:Hp}{s:Shared}{k:Sk}{a:Addr}{xs ys:List V}(I:Inv X pins σ H s)(h:SkQ k X.K H a xs)(h':SkQ k X.K H a ys):xs=ys:=by
 obtain⟨its,r,p,_⟩:=I.sk h
 obtain⟨its2,r2,p2,_⟩:=I.sk h'
 have e:its=its2:=by
  cases k with
  |tp=>
   obtain⟨o,ho,_,n,hd⟩:=p
   obtain⟨o2,ho2,_,n2,hd2⟩:=p2
   obtain rfl:=Option.some.inj (ho.symm.trans ho2)
   have:=hd.symm.trans hd2
   injection this with q
   simpa using q
  |ls=>
   obtain⟨o,ho,_,n,hd⟩:=p
   obtain⟨o2,ho2,_,n2,hd2⟩:=p2
   obtain rfl:=Option.some.inj (ho.symm.trans ho2)
   have:=hd.symm.trans hd2
   injection this with q
   simpa using q
 subst e
 exact Vals.inj r r2
theorem kS{a b:String}(h:a≠b):Value.type a≠Value.type b:=fun z=>h (by injection z)
theorem jb{k:Sk}{h:Heap}{it a:Addr}{i:Nat}{its:Array Value}(g:zx k h it a i)(p:Yw k h a its):a≠it:=by
 cases k with
 |tp=>
  obtain⟨o,ho,hc,_⟩:=g
  obtain⟨o2,ho2,hc2,_⟩:=p
  rintro rfl
  obtain rfl:=Option.some.inj (ho.symm.trans ho2)
  exact kS (by decide) (hc.symm.trans hc2)
 |ls=>
  obtain⟨o,ho,hc,_⟩:=g
  obtain⟨o2,ho2,hc2,_⟩:=p
  rintro rfl
  obtain rfl:=Option.some.inj (ho.symm.trans ho2)
  exact kS (by decide) (hc.symm.trans hc2)
theorem W8{k:Sk}{h:Heap}{it a:Addr}{i:Nat}(g:zx k h it a i):∃o,h.get? it=some o∧∀v,o.data≠ .cell v:=by
 cases k with
 |tp=>obtain⟨o,ho,hc,hd⟩:=g;exact⟨o,ho,fun v q=>by rw[hd]at q;cases q⟩
 |ls=>obtain⟨o,ho,hc,hd⟩:=g;exact⟨o,ho,fun v q=>by rw[hd]at q;cases q⟩
theorem XX{k:Sk}{h h':Heap}{it a:Addr}{i:Nat}(g:zx k h it a i)(kk:∀o,h.get? it=some o→h'.get? it=some o):zx k h' it a i:=by
 cases k with
 |tp=>obtain⟨o,ho,r⟩:=g;exact⟨o,kk o ho,r⟩
 |ls=>obtain⟨o,ho,r⟩:=g;exact⟨o,kk o ho,r⟩
theorem Qat{k:Sk}{h:Heap}{a:Addr}{its:Array Value}{o:Obj}(p:Yw k h a its)(e:h.get? a=some o):o.cls=.type "tuple"∨o.cls=.type "list":=by
 cases k with
 |tp=>obtain⟨o2,ho,hc,_⟩:=p;obtain rfl:=Option.some.inj (e.symm.trans ho);exact .inl hc
 |ls=>obtain⟨o2,ho,hc,_⟩:=p;obtain rfl:=Option.some.inj (e.symm.trans ho);exact .inr hc
def ItN(k:Sk)(K:PySem.W.Frag)(a:Addr):It:=⟨fun i H=>∃xs x,SkQ k K H a xs∧xs[i]? =some x,fun i H v H'=>∃p,H p=none∧v=.ref p∧∀xs,SkQ k K H a xs→∃x,xs[i]? =some x∧H'=upd H p (.tup [.int (i:Nat),x]),fun i H=>∃xs,SkQ k K H a xs∧xs.length=i⟩
theorem jc{P:Program}{w:World}{K:PySem.W.Frag}{es:List Expr}{n:Nat}{pos:Pos}(k:Sk)(e it a:Addr)(hei:e≠it):
  Turn P w K (.Tuple es n pos) (ItN k K a) [e,it] e (fun i h=>(∃old,IsEnum h e it (i:Nat) old)∧zx k h it a i) where
 mem:=by simp
 obj:=fun i h st b hb=>by
  obtain⟨⟨old,he⟩,g⟩:=st
  rcases List.mem_cons.mp hb with rfl|hb
  ·exact⟨_,he,fun v q=>nomatch (show Data.fields _=Data.cell v from q)⟩
  ·obtain rfl:b=it:=by simpa using hb
   exact W8 g
 keep:=fun i h h' st kk=>by
  obtain⟨⟨old,he⟩,g⟩:=st
  exact⟨⟨old,kk e (by simp) _ he⟩,XX g fun o=>kk it (by simp) o⟩
 item:=by
  intro X hP hw hK hc i pins s σ H E I hf st hg
  subst hP hw hK
  obtain⟨⟨old,he⟩,g⟩:=st
  obtain⟨xs,x,hq,hx⟩:=hg
  obtain⟨its,rv,p,hz⟩:=I.sk hq
  obtain⟨u,hu,ru⟩:=rv.get hx
  have hlt:i<its.toArray.size:=by
   rw[List.size_toArray]
   exact(List.getElem?_eq_some_iff.mp hu).1
  have hea:e≠a:=fun q=>by
   rcases Qat p (q▸he)with z|z
   ·exact kS (by decide) z
   ·exact kS (by decide) z
  have D:=ja (prog:=X.prog) (w:=X.w) (A:=X.A.in1) k (I.ok.hd hc) it a (jb g p) its.toArray
  refine wpAny_pyNext_enum_itemD D he ⟨g,p⟩ hlt hei (by simp[hei,hea]) fun v h1 tk hv ho st1 hT hsz hk=>⟨_,rfl,?_⟩
  obtain rfl:v=u:=by
   have:its.toArray[i]? =some u:=by simpa using hu
   exact Option.some.inj (hv.symm.trans this)
  refine wpAny_letOwnedTupleGo_enum ho fun h2 he2 hs2=>?_
  have hTe:s.heap.objs.size≠e:=fun q=>absurd (Heap.lt_size he) (by rw[←q];exact Nat.lt_irrefl _)
  refine⟨.ref s.heap.objs.size,upd H s.heap.objs.size (.tup [.int (i:Nat),x]),I.zw (ch:=[e,it]) hf (fun b o hb q=>?_) (Nat.le_refl _) ?_,rfl,⟨_,I.hok.fresh (Nat.le_refl _),rfl,fun ys hy=>⟨x,by rw[I.zy hy hq];exact hx,rfl⟩⟩,⟨⟨_,he2⟩,?_⟩,fun b hb=>?_⟩
  ·simp only[List.mem_cons,List.not_mem_nil,or_false,not_or]at hb
   exact(hs2.2 b hb.1).trans (hk b o hb.1 hb.2 q)
  ·exact⟨by show 2≤sizeLine;decide,[.int (i:Nat) tk,v],.cons ⟨_,rfl⟩ (.cons ru .nil),⟨_,(hs2.2 _ hTe).trans hT,rfl,_,rfl,rfl⟩⟩
  ·exact XX st1.1 fun o q=>(hs2.2 it hei.symm).trans q
  ·have hlt:b<s.heap.objs.size:=by
    rcases List.mem_cons.mp hb with q|q
    ·rw[q];exact Heap.lt_size he
    ·obtain⟨o,ho1,_⟩:=W8 g
     rw[show b=it by simpa using q];exact Heap.lt_size ho1
   rw[Qi (Nat.ne_of_lt hlt)]
   exact(hf b hb).1
 done:=by
  intro X hP hw hK hc i pins s σ H E I hf st hg
  subst hP hw hK
  obtain⟨⟨old,he⟩,g⟩:=st
  obtain⟨xs,hq,hx⟩:=hg
  obtain⟨its,rv,p,hz⟩:=I.sk hq
  have hl:=rv.length
  have D:=ja (prog:=X.prog) (w:=X.w) (A:=X.A.in1) k (I.ok.hd hc) it a (jb g p) its.toArray
  have hst:zx k s.heap it a its.toArray.size∧Yw k s.heap a its.toArray:=⟨by rw[List.size_toArray, ←hl,hx];exact g,p⟩
  exact wpAny_pyNext_enum_endD D he hst fun h1 eb=>⟨rfl,I.zv (t':=s.toks) (ch:=[e,it]) hf fun b o hb q=>eb b o (fun r=>hb (by simp[r])) q⟩
 self:=fun _ _ _ _ _ st h=>let ⟨⟨_,he⟩,_⟩:=st;wpAny_pyIter_enum he h
abbrev eT1(h:Heap)(a:Addr):Heap:=h.push {cls:=.type "tuple_iterator",data:=.fields #[.ref a,.int 0 0]}
abbrev eT2(h:Heap)(a:Addr):Heap:=(eT1 h a).push {cls:=.type "enumerate",data:=.fields #[.none,.bool false,.ref h.objs.size,rawInt 0,.none,.none]}
open AutoSeq1 (wpAny_loadPart')in
set_option maxHeartbeats 1000000 in
theorem zA(a:Addr)(its:Array Value)(n:Nat)(dd:Option Addr)(sl:Array (Option Value)):
  Meets (Builtin.«enumerate.__new__» ⟨[.type "enumerate",.ref a],[]⟩) (fun _ R s=>s.heap.get? a=some ⟨.type "tuple",dd,.seq its n,sl⟩∧R (.ok (.ret (.ref (eT1 s.heap a).objs.size))) {s with heap:=eT2 s.heap a}):=
 .of_wp fun prog w A R s h=>by
  obtain⟨hp,g,d,tk,os⟩:=s;obtain⟨hl,h⟩:=h
  have hsub:=sub_enumerate
  have hT:Heap.IsTuple (Shared.heap ⟨hp,g,d,tk,os⟩) a its:=⟨_,hl,rfl,n,rfl⟩
  wp_walk using wpAny_loadPart' hl
  refine wpAny_stack_any fun st=>wpAny_pure ?_
  split
  ·rename_i c _ _ _ _ _
   cases(c==Value.type "enumerate")<;>(wp_walk using wpAny_loadPart' hl,wpAny_pyIter_tuple hT;exact⟨_,rfl,h⟩)
  ·wp_walk using wpAny_loadPart' hl,wpAny_pyIter_tuple hT
   exact⟨_,rfl,h⟩
theorem kT{prog:Program}{w:World}{A:Around}{E:Value→Shared→Prop}{s:Shared}{a:Addr}{its:Array Value}{Q:Value→Shared→Prop}(hT:s.heap.IsTuple a its)
  (h:∀h',IsEnum h' (s.heap.objs.size+1) s.heap.objs.size 0 .none→h'.IsTupleIter s.heap.objs.size a 0→h'.objs.size=s.heap.objs.size+2→(∀b o,s.heap.get? b=some o→h'.get? b=some o)→Q (.ref (s.heap.objs.size+1)) {s with heap:=h'}):
  wpAny (model prog w) A (call (.type "enumerate") [.ref a]) Q E s:=by
 obtain⟨⟨c,dd,dt,sl⟩,hl,hc,n,hd⟩:=hT
 replace hc:c=.type "tuple":=hc
 replace hd:dt=.seq its n:=hd
 subst hc hd
 refine callType_new F.called_enumerate (by decide) (F.typeCall_enumerate_1 _) (F.newCall_enumerate_1 _) (fun obj=>F.args_object_init_2 obj _) F.entry_enumerate_new (zA a its n dd sl) ⟨hl,?_⟩
 have hz:(eT1 s.heap a).objs.size=s.heap.objs.size+1:=Heap.size_push ..
 have he:IsEnum (eT2 s.heap a) (eT1 s.heap a).objs.size s.heap.objs.size 0 .none:=Heap.get?_push_size _ rfl
 rw[hz]at he
 show _∧_
 rw[hz]
 exact⟨⟨_,he,rfl⟩,h _ he ⟨_,Heap.get?_push_of_some _ (Heap.get?_push_size _ rfl),rfl,rfl⟩ (by rw[Heap.size_push,hz]) fun b o x=>Heap.get?_push_of_some _ (Heap.get?_push_of_some _ x)⟩
theorem kU{prog:Program}{w:World}{A:Around}{E:Value→Shared→Prop}{s:Shared}(k:Sk){a:Addr}{its:Array Value}{Q:Value→Shared→Prop}(p:Yw k s.heap a its)
  (h:∀h',IsEnum h' (s.heap.objs.size+1) s.heap.objs.size 0 .none→zx k h' s.heap.objs.size a 0→(∀b o,s.heap.get? b=some o→h'.get? b=some o)→Q (.ref (s.heap.objs.size+1)) {s with heap:=h'}):
  wpAny (model prog w) A (call (.type "enumerate") [.ref a]) Q E s:=by
 cases k with
 |tp=>exact kT p fun h' h1 h2 _ h4=>h h' h1 h2 h4
 |ls=>exact call_enumerate_list p fun h' h1 h2 _ h4=>h h' h1 h2 h4
section
variable {X:Cx}
def Qau(k:Sk)(K:PySem.W.Frag)(ta:TA):TI:=fun σ H R=>ta σ H fun vs H1=>∃a,vs=[.ref a]∧(∃xs,SkQ k K H1 a xs)∧R (ItN k K a) H1
theorem Vq(k:Sk){es:List Expr}{n:Nat}{tp:Pos}{a:Expr}{ta:TA}{p pos:Pos}(hg:Gl X "enumerate")(hm:X.mg "enumerate"=none)(ha:PA X [a] ta)(hs:starEach [a] X.env=[(false,eval a X.env)]:=by rfl):
  PI X (.Tuple es n tp) (.Call (.Name "enumerate" p) [a] [] pos) (Qau k X.K ta):=by
 intro pins s σ H R I h
 refine Call_ (Kf I hg hm boot_enumerate (PyProof.Rows.callWith_type1 (thn (ha pos pins s σ H _ I h) fun us s1⟨vs,H1,I1,r1,aa,e,⟨xs,hq⟩,q⟩=>?_) hs rfl))
 subst e
 obtain⟨u,rfl,rfl⟩:=vals1 r1
 obtain⟨its,rv,po,hz⟩:=I1.sk hq
 refine kU k po fun h1 he hst hk=>?_
 refine wpAny_pyIter_enum (s:={s1 with heap:=h1}) he ?_
 refine⟨_,[s1.heap.objs.size+1,s1.heap.objs.size],_,_,H1,rfl,I1.kept (t':=s1.toks) hk,jc k _ _ aa (Nat.succ_ne_self _),⟨⟨_,he⟩,hst⟩,fun b hb=>?_,q⟩
 have hb2:s1.heap.objs.size≤b:=by
  simp only[List.mem_cons,List.not_mem_nil,or_false]at hb
  rcases hb with rfl|rfl
  ·exact Nat.le_succ _
  ·exact Nat.le_refl _
 exact I1.wG hb2 (I1.hok.fresh hb2)
end
end L2
set_option Elab.async false
set_option linter.all false
set_option maxRecDepth 100000
namespace L2
open PySem PySem.Spec PyProof.Rows
open Builtin Builtin.Str
structure Off(fp:List Addr)(z TO i:Addr):Prop where
 z:∀b∈fp,b≠z
 o:∀b∈fp,b≠TO
 i:∀b∈fp,b≠i
section
variable {prog:Program}{w:World}{A:Around}{E:Value→Shared→Prop}{s:Shared}{z TI TO i1 i2:Addr}{k n1 n2:Nat}{f1 f2:List Addr}{P1 P2:Nat→Value→Prop}{S1 S2:Nat→Heap→Prop}{a b:Value}
theorem Ze{i c:Addr}{fp:List Addr}{n:Nat}{P:Nat→Value→Prop}{S:Nat→Heap→Prop}{h h':Heap}(D:Draws prog w A i fp n P S)(st:S k h)(e:Heap.ExtBut c h h')(ne:∀b∈fp,b≠c):S k h':=
 D.frame _ _ _ st fun b hb o q=>e _ _ (ne b hb) q
theorem zB{Q:Value→Shared→Prop}(D:Ap5 z TI TO i1 i2)(D1:Draws prog w A i1 f1 n1 P1 S1)(C1:Off f1 z TO i2)(D2:Draws prog w A i2 f2 n2 P2 S2)(C2:Off f2 z TO i1)
  (hz:IsZip s.heap z TI TO .none) (hTI:IsPair s.heap TI (.ref i1) (.ref i2)) (hTO:IsPair s.heap TO a b) (h1:S1 k s.heap) (h2:S2 k s.heap) (hx:k<n1) (hy:k<n2)
  (hQ:∀x y h' tk,P1 k x→P2 k y→IsZip h' z TI TO (rawInt s.heap.objs.size)→IsPair h' TO x y→S1 (k+1) h'→S2 (k+1) h'→IsPair h' s.heap.objs.size x y→(∀c o,c≠z→c≠TO→c≠i1→c≠i2→s.heap.get? c=some o→h'.get? c=some o)→Q (.ref s.heap.objs.size) {s with heap:=h',toks:=tk}):
  wpAny (model prog w) A (Builtin.«zip.__next__» ⟨[.ref z],[]⟩) (fun fin s'=>∃v,fin=.done (.ret v)∧Q v s') E s:=by
 show wpAny _ _ (field (.ref z) 2>>=_) _ _ _;refine wpAny_bind (wpAny_field hz rfl (x:=.bool false) rfl ?_)
 show wpAny _ _ (field (.ref z) 3>>=_) _ _ _;refine wpAny_bind (wpAny_field hz rfl (x:=.ref TI) rfl (wpAny_bind (wpAny_seqItems hTI rfl ?_)))
 show wpAny _ _ (Builtin.SmallTypes.ownedTupleIsFree (.ref z)>>=_) _ _ _;refine wpAny_bind ?_
 unfold Builtin.SmallTypes.ownedTupleIsFree;refine wpAny_bind (wpAny_field hz rfl (x:=.none) rfl (wpAny_pure ?_))
 simp only[if_true];refine wpAny_bind (wpAny_rule (wpAny_bind (wpAny_field hz rfl (x:=.ref TO) rfl (wpAny_bind (wpAny_setField_rec hz (by simp) fun h₁ hz₁ hs₁=>?_)))))
 replace hz₁:IsZip h₁ z TI TO .ellipsis:=hz₁;refine wpAny_bind ?_
 simp only[List.zipIdx_cons,List.zipIdx_nil,List.forIn_cons,List.forIn_nil];refine wpAny_bind (wpAny_bind (wpAny_onRaise ?_))
 show wpAny _ _ (Builtin.SmallTypes.nextOf (.ref i1)>>=_) _ _ _;refine wpAny_bind (D1.item k _ _ _ hx (Ze D1 h1 hs₁.extBut C1.z) fun x h₂ tk2 px h1₂ hs₂=>wpAny_pure ?_)
 have hTO₂:IsPair h₂ TO a b:=hs₂.extBut _ _ D.TOi1 (hs₁.extBut _ _ D.TOz hTO)
 refine wpAny_bind (wpAny_seqItems hTO₂ rfl (wpAny_bind (wpAny_updateSeq_pair hTO₂ fun h₃ hTO₃ hs₃=>?_)))
 replace hTO₃:IsPair h₃ TO x b:=hTO₃;refine wpAny_bind (wpAny_letGo (wpAny_pure (wpAny_bind (wpAny_bind (wpAny_onRaise ?_)))))
 show wpAny _ _ (Builtin.SmallTypes.nextOf (.ref i2)>>=_) _ _ _
 have e2:S2 k h₃:=Ze D2 (Ze D2 (Ze D2 h2 hs₁.extBut C2.z) hs₂.extBut C2.i) hs₃.extBut C2.o
 refine wpAny_bind (D2.item k _ _ _ hy e2 fun y h₄ tk4 py h2₄ hs₄=>wpAny_pure ?_)
 have hTO₄:IsPair h₄ TO x b:=hs₄.extBut _ _ D.TOi2 hTO₃
 refine wpAny_bind (wpAny_seqItems hTO₄ rfl (wpAny_bind (wpAny_updateSeq_pair hTO₄ fun h₅ hTO₅ hs₅=>?_)))
 replace hTO₅:IsPair h₅ TO x y:=hTO₅;refine wpAny_bind (wpAny_letGo (wpAny_pure (wpAny_pure (wpAny_bind (wpAny_seqItems hTO₅ rfl (wpAny_bind (wpAny_newTuple ?_)))))))
 have hs1:=hs₁.1;have hs2:=hs₂.1;have hs3:=hs₃.1;have hs4:=hs₄.1;have hs5:=hs₅.1
 have hsz:h₅.objs.size=s.heap.objs.size:=hs5.trans (hs4.trans (hs3.trans (hs2.trans hs1)))
 have hz₅:IsZip h₅ z TI TO .ellipsis:=hs₅.extBut _ _ D.TOz.symm (hs₄.extBut _ _ D.i2z.symm (hs₃.extBut _ _ D.TOz.symm (hs₂.extBut _ _ D.i1z.symm hz₁)))
 have hk₅:∀c o,c≠z→c≠TO→c≠i1→c≠i2→s.heap.get? c=some o→h₅.get? c=some o:=fun c o c1 c2 c3 c4 e=>hs₅.extBut _ _ c2 (hs₄.extBut _ _ c4 (hs₃.extBut _ _ c2 (hs₂.extBut _ _ c3 (hs₁.extBut _ _ c1 e))))
 have g1:S1 (k+1) h₅:=Ze D1 (Ze D1 (Ze D1 h1₂ hs₃.extBut C1.o) hs₄.extBut C1.i) hs₅.extBut C1.o
 have g2:S2 (k+1) h₅:=Ze D2 h2₄ hs₅.extBut C2.o
 have hzlt:z<h₅.objs.size:=Heap.lt_size hz₅
 show wpAny _ _ (Builtin.SmallTypes.ownedTupleHandOut (.ref z) (.ref h₅.objs.size)>>=_) _ _ _;refine wpAny_bind ?_
 unfold Builtin.SmallTypes.ownedTupleHandOut
 have hz₆:IsZip (h₅.push {cls:=.type "tuple",data:=.seq #[x,y]}) z TI TO .ellipsis:=Heap.get?_push_of_some _ hz₅
 refine wpAny_bind (wpAny_setField_rec hz₆ (by simp) fun h₇ hz₇ hs₇=>?_);replace hz₇:IsZip h₇ z TI TO (rawInt h₅.objs.size):=hz₇
 refine wpAny_setField_rec hz₇ (by simp) fun h₈ hz₈ hs₈=>?_;replace hz₈:IsZip h₈ z TI TO (rawInt h₅.objs.size):=hz₈
 have up:∀c o,c≠z→h₅.get? c=some o→h₈.get? c=some o:=fun c o c1 e=>hs₈.extBut _ _ c1 (hs₇.extBut _ _ c1 (Heap.get?_push_of_some _ e))
 have hT₈:IsPair h₈ h₅.objs.size x y:=hs₈.extBut _ _ (Nat.ne_of_gt hzlt) (hs₇.extBut _ _ (Nat.ne_of_gt hzlt) (Heap.get?_push_size _ rfl))
 rw[hsz]at hz₈ hT₈;refine wpAny_pure ⟨_,rfl,?_⟩
 show Q (.ref h₅.objs.size) _;rw[hsz]
 exact hQ x y h₈ _ px py hz₈ (up _ _ D.TOz hTO₅) (D1.frame _ _ _ g1 fun b hb o q=>up _ _ (C1.z b hb) q) (D2.frame _ _ _ g2 fun b hb o q=>up _ _ (C2.z b hb) q) hT₈ fun c o c1 c2 c3 c4 e=>up c o c1 (hk₅ c o c1 c2 c3 c4 e)
theorem kW{Q:Fin→Shared→Prop}(D:Ap5 z TI TO i1 i2)(D1:Draws prog w A i1 f1 n1 P1 S1)(C1:Off f1 z TO i2)(D2:Draws prog w A i2 f2 n2 P2 S2)(C2:Off f2 z TO i1)
  (hz:IsZip s.heap z TI TO .none) (hTI:IsPair s.heap TI (.ref i1) (.ref i2)) (hTO:IsPair s.heap TO a b) (h1:S1 k s.heap) (h2:S2 k s.heap) (hx:k=n1∨(k<n1∧k=n2))
  (hE:∀h' e tk,(∀c o,c≠z→c≠TO→c≠i1→c≠i2→s.heap.get? c=some o→h'.get? c=some o)→(∃o,h'.get? e=some o∧o.cls=.type "StopIteration")→E (.ref e) {s with heap:=h',toks:=tk}):
  wpAny (model prog w) A (Builtin.«zip.__next__» ⟨[.ref z],[]⟩) Q E s:=by
 show wpAny _ _ (field (.ref z) 2>>=_) _ _ _;refine wpAny_bind (wpAny_field hz rfl (x:=.bool false) rfl ?_)
 show wpAny _ _ (field (.ref z) 3>>=_) _ _ _;refine wpAny_bind (wpAny_field hz rfl (x:=.ref TI) rfl (wpAny_bind (wpAny_seqItems hTI rfl ?_)))
 show wpAny _ _ (Builtin.SmallTypes.ownedTupleIsFree (.ref z)>>=_) _ _ _;refine wpAny_bind ?_
 unfold Builtin.SmallTypes.ownedTupleIsFree;refine wpAny_bind (wpAny_field hz rfl (x:=.none) rfl (wpAny_pure ?_))
 simp only[if_true];refine wpAny_bind (wpAny_rule (wpAny_bind (wpAny_field hz rfl (x:=.ref TO) rfl (wpAny_bind (wpAny_setField_rec hz (by simp) fun h₁ hz₁ hs₁=>?_)))))
 replace hz₁:IsZip h₁ z TI TO .ellipsis:=hz₁;refine wpAny_bind ?_
 simp only[List.zipIdx_cons,List.zipIdx_nil,List.forIn_cons,List.forIn_nil];refine wpAny_bind (wpAny_bind (wpAny_onRaise ?_))
 show wpAny _ _ (Builtin.SmallTypes.nextOf (.ref i1)>>=_) _ _ _
 rcases hx with e|⟨hx,e⟩
 ·refine wpAny_bind (D1.done _ _ _ (by rw[←e];exact Ze D1 h1 hs₁.extBut C1.z) fun h₂ e hs₂ he=>?_);obtain⟨oe,hoe,hce⟩:=he
  have hz₂:IsZip h₂ z TI TO .ellipsis:=hs₂ _ _ D.i1z.symm hz₁
  have hez:e≠z:=fun x=>by subst x;rw[hz₂]at hoe;cases hoe;simp at hce
  exact wpAny_setField_rec hz₂ (by simp) fun h₃ _ hs₃=>hE h₃ e _ (fun c o c1 _ c3 _ x=>hs₃.extBut _ _ c1 (hs₂ _ _ c3 (hs₁.extBut _ _ c1 x))) ⟨oe,hs₃.extBut _ _ hez hoe,hce⟩
 ·refine wpAny_bind (D1.item k _ _ _ hx (Ze D1 h1 hs₁.extBut C1.z) fun x h₂ tk2 px h1₂ hs₂=>wpAny_pure ?_)
  have hTO₂:IsPair h₂ TO a b:=hs₂.extBut _ _ D.TOi1 (hs₁.extBut _ _ D.TOz hTO)
  refine wpAny_bind (wpAny_seqItems hTO₂ rfl (wpAny_bind (wpAny_updateSeq_pair hTO₂ fun h₃ hTO₃ hs₃=>wpAny_bind (wpAny_letGo (wpAny_pure (wpAny_bind (wpAny_bind (wpAny_onRaise ?_))))))))
  show wpAny _ _ (Builtin.SmallTypes.nextOf (.ref i2)>>=_) _ _ _
  have e2:S2 k h₃:=Ze D2 (Ze D2 (Ze D2 h2 hs₁.extBut C2.z) hs₂.extBut C2.i) hs₃.extBut C2.o
  refine wpAny_bind (D2.done _ _ _ (by rw[←e];exact e2) fun h₄ e hs₄ he=>?_);obtain⟨oe,hoe,hce⟩:=he
  have hz₄:IsZip h₄ z TI TO .ellipsis:=hs₄ _ _ D.i2z.symm (hs₃.extBut _ _ D.TOz.symm (hs₂.extBut _ _ D.i1z.symm hz₁))
  have hez:e≠z:=fun x=>by subst x;rw[hz₄]at hoe;cases hoe;simp at hce
  exact wpAny_setField_rec hz₄ (by simp) fun h₅ _ hs₅=>hE h₅ e _ (fun c o c1 c2 c3 c4 x=>hs₅.extBut _ _ c1 (hs₄ _ _ c4 (hs₃.extBut _ _ c2 (hs₂.extBut _ _ c3 (hs₁.extBut _ _ c1 x))))) ⟨oe,hs₅.extBut _ _ hez hoe,hce⟩
theorem zC{Q:Option Value→Shared→Prop}(D:Ap5 z TI TO i1 i2)(D1:Draws prog w A.in1 i1 f1 n1 P1 S1)(C1:Off f1 z TO i2)(D2:Draws prog w A.in1 i2 f2 n2 P2 S2)(C2:Off f2 z TO i1)
  (hz:IsZip s.heap z TI TO .none) (hTI:IsPair s.heap TI (.ref i1) (.ref i2)) (hTO:IsPair s.heap TO a b) (h1:S1 k s.heap) (h2:S2 k s.heap) (hx:k<n1) (hy:k<n2)
  (hQ:∀x y h' tk,P1 k x→P2 k y→IsZip h' z TI TO (rawInt s.heap.objs.size)→IsPair h' TO x y→S1 (k+1) h'→S2 (k+1) h'→IsPair h' s.heap.objs.size x y→(∀c o,c≠z→c≠TO→c≠i1→c≠i2→s.heap.get? c=some o→h'.get? c=some o)→Q (some (.ref s.heap.objs.size)) {s with heap:=h',toks:=tk}):
  wpAny (model prog w) A (pyNext (.ref z)) Q E s:=by
 have hT:s.TypeIs (.ref z) "zip":=⟨_,hz,rfl⟩
 unfold pyNext;exact wpAny_bind (wpAny_attempt (wpAny_callSpecial?_slot (name:=Str.ofString "__next__") hT F.slot_zip_next (wpAny_call_entry F.slot_zip_next hT F.entry_zip_next (zB D D1 C1 D2 C2 hz hTI hTO h1 h2 hx hy fun x y h' tk a1 a2 a3 a4 a5 a6 a7 a8=>wpAny_pure (hQ x y h' tk a1 a2 a3 a4 a5 a6 a7 a8)) (F.args_zip_next_1 _))))
theorem kX{Q:Option Value→Shared→Prop}(D:Ap5 z TI TO i1 i2)(D1:Draws prog w A.in1 i1 f1 n1 P1 S1)(C1:Off f1 z TO i2)(D2:Draws prog w A.in1 i2 f2 n2 P2 S2)(C2:Off f2 z TO i1)
  (hz:IsZip s.heap z TI TO .none) (hTI:IsPair s.heap TI (.ref i1) (.ref i2)) (hTO:IsPair s.heap TO a b) (h1:S1 k s.heap) (h2:S2 k s.heap) (hx:k=n1∨(k<n1∧k=n2))
  (hQ:∀h' tk,(∀c o,c≠z→c≠TO→c≠i1→c≠i2→s.heap.get? c=some o→h'.get? c=some o)→Q none {s with heap:=h',toks:=tk}):
  wpAny (model prog w) A (pyNext (.ref z)) Q E s:=by
 have hT:s.TypeIs (.ref z) "zip":=⟨_,hz,rfl⟩
 unfold pyNext;refine wpAny_bind (wpAny_attempt (wpAny_callSpecial?_slot (name:=Str.ofString "__next__") hT F.slot_zip_next (wpAny_call_entry F.slot_zip_next hT F.entry_zip_next (kW D D1 C1 D2 C2 hz hTI hTO h1 h2 hx fun h' e tk hk he=>?_) (F.args_zip_next_1 _))))
 obtain⟨o,ho,hc⟩:=he
 refine wpAny_bind (wpAny_isInstance (T:="StopIteration") (b:=true) ⟨o,ho,hc⟩ isSubtype_stop ?_);exact wpAny_pure (hQ _ _ hk)
end
def skT:Sk→String| .tp=>"tuple_iterator"| .ls=>"list_iterator"
abbrev skO(k:Sk)(a:Addr):Obj:={cls:=.type (skT k),data:=.fields #[.ref a,.int 0 0]}
theorem wP{k:Sk}{h:Heap}{it a:Addr}(e:h.get? it=some (skO k a)):zx k h it a 0:=by
 cases k with
 |tp=>exact⟨_,e,rfl,rfl⟩
 |ls=>exact⟨_,e,rfl,rfl⟩
theorem Yw.push{k:Sk}{h:Heap}{a:Addr}{its:Array Value}(p:Yw k h a its)(o:Obj):Yw k (h.push o) a its:=by
 cases k with
 |tp=>exact Heap.IsTuple.push p o
 |ls=>exact Heap.IsList.push p o
theorem zD{prog:Program}{w:World}{A:Around}{E:Value→Shared→Prop}{s:Shared}(k:Sk){a:Addr}{its:Array Value}{Q:Value→Shared→Prop}(p:Yw k s.heap a its)(q:Q (.ref s.heap.objs.size) {s with heap:=s.heap.push (skO k a)}):wpAny (model prog w) A (pyIter (.ref a)) Q E s:=by
 cases k with
 |tp=>exact wpAny_pyIter_tuple p q
 |ls=>exact wpAny_pyIter_list p q
abbrev zK1(h:Heap)(k:Sk)(a:Addr):Heap:=h.push (skO k a)
abbrev zK3(h:Heap)(k1 k2:Sk)(a1 a2:Addr):Heap:=(zK1 (zK1 h k1 a1) k2 a2).push {cls:=.type "tuple",data:=.seq #[.ref h.objs.size,.ref (zK1 h k1 a1).objs.size]}
abbrev zK4(h:Heap)(k1 k2:Sk)(a1 a2:Addr):Heap:=(zK3 h k1 k2 a1 a2).push {cls:=.type "tuple",data:=.seq #[.none,.none]}
abbrev zK5(h:Heap)(k1 k2:Sk)(a1 a2:Addr):Heap:=(zK4 h k1 k2 a1 a2).push {cls:=.type "zip",data:=.fields #[.none,.bool false,.bool false,.ref (zK1 (zK1 h k1 a1) k2 a2).objs.size,.ref (zK3 h k1 k2 a1 a2).objs.size]}
set_option maxHeartbeats 4000000 in
theorem jd(k1 k2:Sk)(a1 a2:Addr)(xs ys:Array Value):Meets (Builtin.«zip.__new__» ⟨[.type "zip",.ref a1,.ref a2],[]⟩) (fun _ R s=>Yw k1 s.heap a1 xs∧Yw k2 s.heap a2 ys∧R (.ok (.ret (.ref (zK4 s.heap k1 k2 a1 a2).objs.size))) {s with heap:=zK5 s.heap k1 k2 a1 a2}):=
 .of_wp fun prog w A R s h=>by
  obtain⟨hp,g,d,tk,os⟩:=s;obtain⟨h1,h2,h⟩:=h
  have hsub:=sub_zip
  have p1:Yw k1 (Shared.heap ⟨hp,g,d,tk,os⟩) a1 xs:=h1
  have p2:Yw k2 (Shared.heap ⟨hp.push (skO k1 a1),g,d,tk,os⟩) a2 ys:=Yw.push h2 _
  wp_walk using zD k1 p1,zD k2 p2
  exact⟨_,rfl,h⟩
def SkR(k:Sk)(H:Hp)(a:Addr)(xs:List V):Prop:=match k with| .tp=>Rd H a (.tup xs)| .ls=>Rd H a (.lst xs)
theorem SkR.q{k:Sk}{K:PySem.W.Frag}{H:Hp}{a:Addr}{xs:List V}(h:SkR k H a xs):SkQ k K H a xs:=by
 cases k with
 |tp=>exact .inl h
 |ls=>exact .inl h
theorem SkR.some{k:Sk}{H:Hp}{a:Addr}{xs:List V}(h:SkR k H a xs):H a≠none:=by
 cases k with
 |tp=>rcases h with h|⟨o,h⟩<;>rw[h]<;>exact fun z=>nomatch z
 |ls=>rcases h with h|⟨o,h⟩<;>rw[h]<;>exact fun z=>nomatch z
def ItZ(k1 k2:Sk)(a1 a2:Addr):It:=⟨fun i H=>∃xs ys x y,SkR k1 H a1 xs∧SkR k2 H a2 ys∧xs[i]? =some x∧ys[i]? =some y,
 fun i H v H'=>∃p,H p=none∧v=.ref p∧∀xs ys,SkR k1 H a1 xs→SkR k2 H a2 ys→∃x y,xs[i]? =some x∧ys[i]? =some y∧H'=upd H p (.tup [x,y]),fun i H=>∃xs ys,SkR k1 H a1 xs∧SkR k2 H a2 ys∧i=min xs.length ys.length⟩
def tnK(k1 k2:Sk)(z TI TO i1 i2 a1 a2:Addr)(i:Nat)(h:Heap):Prop:=IsZip h z TI TO .none∧IsPair h TI (.ref i1) (.ref i2)∧(∃a b,IsPair h TO a b)∧zx k1 h i1 a1 i∧zx k2 h i2 a2 i
theorem qe{z TI TO i1 i2 a:Addr}{H:Hp}(n1:H a≠none)(hz:H z=none)(hO:H TO=none)(hi:H i2=none)(e1:i1≠z)(e2:i1≠TO)(e3:i1≠i2):Off [i1,a] z TO i2:=by
 constructor<;>(intro b hb;simp only[List.mem_cons,List.not_mem_nil,or_false]at hb;rcases hb with rfl|rfl)
 ·exact e1
 ·exact fun q=>n1 (q▸hz)
 ·exact e2
 ·exact fun q=>n1 (q▸hO)
 ·exact e3
 ·exact fun q=>n1 (q▸hi)
theorem zE{P:Program}{w:World}{K:PySem.W.Frag}{es:List Expr}{n:Nat}{pos:Pos}{z TI TO i1 i2:Addr}(D:Ap5 z TI TO i1 i2)(k1 k2:Sk)(a1 a2:Addr):
  Turn P w K (.Tuple es n pos) (ItZ k1 k2 a1 a2) [z,TI,TO,i1,i2] z (tnK k1 k2 z TI TO i1 i2 a1 a2) where
 mem:=by simp
 obj:=fun i h st b hb=>by
  obtain⟨hz,hI,⟨a,c,hO⟩,g1,g2⟩:=st
  simp only[List.mem_cons,List.not_mem_nil,or_false]at hb
  rcases hb with rfl|rfl|rfl|rfl|rfl
  ·exact⟨_,hz,fun v q=>nomatch (show Data.fields _=Data.cell v from q)⟩
  ·exact⟨_,hI,fun v q=>nomatch (show Data.seq _ _=Data.cell v from q)⟩
  ·exact⟨_,hO,fun v q=>nomatch (show Data.seq _ _=Data.cell v from q)⟩
  ·exact W8 g1
  ·exact W8 g2
 keep:=fun i h h' st kk=>by
  obtain⟨hz,hI,⟨a,c,hO⟩,g1,g2⟩:=st
  exact⟨kk _ (by simp) _ hz,kk _ (by simp) _ hI,⟨a,c,kk _ (by simp) _ hO⟩,XX g1 fun o=>kk _ (by simp) o,XX g2 fun o=>kk _ (by simp) o⟩
 item:=by
  intro X hP hw hK hc i pins s σ H E I hf st hg
  subst hP hw hK
  obtain⟨hz,hI,⟨a,c,hO⟩,g1,g2⟩:=st
  obtain⟨xs,ys,x,y,hq1,hq2,hx,hy⟩:=hg
  obtain⟨its1,rv1,o1,_⟩:=I.sk (hq1.q (K:=X.K))
  obtain⟨its2,rv2,o2,_⟩:=I.sk (hq2.q (K:=X.K))
  obtain⟨u1,hu1,ru1⟩:=rv1.get hx
  obtain⟨u2,hu2,ru2⟩:=rv2.get hy
  have l1:i<its1.toArray.size:=by rw[List.size_toArray];exact(List.getElem?_eq_some_iff.mp hu1).1
  have l2:i<its2.toArray.size:=by rw[List.size_toArray];exact(List.getElem?_eq_some_iff.mp hu2).1
  have Hz:=(hf z (by simp)).1
  have HO:=(hf TO (by simp)).1
  have H1:=(hf i1 (by simp)).1
  have H2:=(hf i2 (by simp)).1
  have D1:=ja (prog:=X.prog) (w:=X.w) (A:=X.A.in1) k1 (I.ok.hd hc) i1 a1 (jb g1 o1) its1.toArray
  have D2:=ja (prog:=X.prog) (w:=X.w) (A:=X.A.in1) k2 (I.ok.hd hc) i2 a2 (jb g2 o2) its2.toArray
  refine zC D D1 (qe (TI:=TI) hq1.some Hz HO H2 D.i1z D.TOi1.symm D.i12) D2 (qe (TI:=TI) hq2.some Hz HO H1 D.i2z D.TOi2.symm D.i12.symm) hz hI hO ⟨g1,o1⟩ ⟨g2,o2⟩ l1 l2 fun v1 v2 h1 tk p1 p2 hz1 hO1 q1 q2 hT hk=>⟨_,rfl,?_⟩
  obtain rfl:v1=u1:=Option.some.inj (p1.symm.trans (by simpa using hu1))
  obtain rfl:v2=u2:=Option.some.inj (p2.symm.trans (by simpa using hu2))
  refine wpAny_letOwnedTupleGo_zip hz1 fun h2 hz2 hs2=>?_
  have up:∀b o,b≠z→h1.get? b=some o→h2.get? b=some o:=fun b o hb q=>(hs2.2 b hb).trans q
  have hlt:∀b∈[z,TI,TO,i1,i2],b<s.heap.objs.size:=fun b hb=>by
   simp only[List.mem_cons,List.not_mem_nil,or_false]at hb
   rcases hb with rfl|rfl|rfl|rfl|rfl
   ·exact Heap.lt_size hz
   ·exact Heap.lt_size hI
   ·exact Heap.lt_size hO
   ·obtain⟨o,g,_⟩:=W8 g1;exact Heap.lt_size g
   ·obtain⟨o,g,_⟩:=W8 g2;exact Heap.lt_size g
  refine⟨.ref s.heap.objs.size,upd H s.heap.objs.size (.tup [x,y]),I.zw (ch:=[z,TI,TO,i1,i2]) hf (fun b o hb q=>?_) (Nat.le_refl _) ?_,rfl,⟨_,I.hok.fresh (Nat.le_refl _),rfl,fun xs' ys' e1 e2=>⟨x,y,by rw[I.zy (e1.q (K:=X.K)) hq1.q];exact hx,by rw[I.zy (e2.q (K:=X.K)) hq2.q];exact hy,rfl⟩⟩,⟨hz2,up _ _ D.TIz (hk _ _ D.TIz D.TITO D.TIi1 D.TIi2 hI),⟨_,_,up _ _ D.TOz hO1⟩,XX q1.1 fun o g=>up _ _ D.i1z g,XX q2.1 fun o g=>up _ _ D.i2z g⟩,fun b hb=>?_⟩
  ·simp only[List.mem_cons,List.not_mem_nil,or_false,not_or]at hb
   exact up b o hb.1 (hk b o hb.1 hb.2.2.1 hb.2.2.2.1 hb.2.2.2.2 q)
  ·exact⟨by show 2≤sizeLine;decide,[v1,v2],.cons ru1 (.cons ru2 .nil),⟨_,up _ _ (Nat.ne_of_gt (hlt z (by simp))) hT,rfl,_,rfl,rfl⟩⟩
  ·rw[Qi (Nat.ne_of_lt (hlt b hb))];exact(hf b hb).1
 done:=by
  intro X hP hw hK hc i pins s σ H E I hf st hg
  subst hP hw hK
  obtain⟨hz,hI,⟨a,c,hO⟩,g1,g2⟩:=st
  obtain⟨xs,ys,hq1,hq2,hi⟩:=hg
  obtain⟨its1,rv1,o1,_⟩:=I.sk (hq1.q (K:=X.K))
  obtain⟨its2,rv2,o2,_⟩:=I.sk (hq2.q (K:=X.K))
  have e1:=rv1.length
  have e2:=rv2.length
  have Hz:=(hf z (by simp)).1
  have HO:=(hf TO (by simp)).1
  have H1:=(hf i1 (by simp)).1
  have H2:=(hf i2 (by simp)).1
  have D1:=ja (prog:=X.prog) (w:=X.w) (A:=X.A.in1) k1 (I.ok.hd hc) i1 a1 (jb g1 o1) its1.toArray
  have D2:=ja (prog:=X.prog) (w:=X.w) (A:=X.A.in1) k2 (I.ok.hd hc) i2 a2 (jb g2 o2) its2.toArray
  refine kX D D1 (qe (TI:=TI) hq1.some Hz HO H2 D.i1z D.TOi1.symm D.i12) D2 (qe (TI:=TI) hq2.some Hz HO H1 D.i2z D.TOi2.symm D.i12.symm) hz hI hO (k:=i) ⟨g1,o1⟩ ⟨g2,o2⟩ (by rw[List.size_toArray,List.size_toArray];omega) fun h' tk hk=>⟨rfl,I.zv (ch:=[z,TI,TO,i1,i2]) hf fun b o hb q=>?_⟩
  simp only[List.mem_cons,List.not_mem_nil,or_false,not_or]at hb
  exact hk b o hb.1 hb.2.2.1 hb.2.2.2.1 hb.2.2.2.2 q
 self:=fun _ _ _ _ _ st h=>wpAny_pyIter_zip st.1 h
theorem zF{prog:Program}{w:World}{A:Around}{E:Value→Shared→Prop}{s:Shared}{k1 k2:Sk}{a1 a2:Addr}{xs ys:Array Value}{Q:Value→Shared→Prop}(h1:Yw k1 s.heap a1 xs)(h2:Yw k2 s.heap a2 ys)
  (h:∀h' z TI TO i1 i2,Ap5 z TI TO i1 i2→tnK k1 k2 z TI TO i1 i2 a1 a2 0 h'→(∀b∈[z,TI,TO,i1,i2],s.heap.objs.size≤b)→(∀c o,s.heap.get? c=some o→h'.get? c=some o)→Q (.ref z) {s with heap:=h'}):
  wpAny (model prog w) A (call (.type "zip") [.ref a1,.ref a2]) Q E s:=by
 refine callType_new F.called_zip (by decide) (F.typeCall_zip_2 _ _) (F.newCall_zip_2 _ _) (fun obj=>F.args_object_init_3 obj _ _) F.entry_zip_new (jd k1 k2 a1 a2 xs ys) ⟨h1,h2,?_⟩
 have z1:(zK1 s.heap k1 a1).objs.size=s.heap.objs.size+1:=Heap.size_push ..
 have z2:(zK1 (zK1 s.heap k1 a1) k2 a2).objs.size=s.heap.objs.size+2:=(Heap.size_push ..).trans (by rw[z1])
 have z3:(zK3 s.heap k1 k2 a1 a2).objs.size=s.heap.objs.size+3:=(Heap.size_push ..).trans (by rw[z2])
 have z4:(zK4 s.heap k1 k2 a1 a2).objs.size=s.heap.objs.size+4:=(Heap.size_push ..).trans (by rw[z3])
 have g5:(zK5 s.heap k1 k2 a1 a2).get? (zK4 s.heap k1 k2 a1 a2).objs.size=some _:=Heap.get?_push_size _ rfl
 have g4:(zK5 s.heap k1 k2 a1 a2).get? (zK3 s.heap k1 k2 a1 a2).objs.size=some _:=Heap.get?_push_of_some _ (Heap.get?_push_size _ rfl)
 have g3:(zK5 s.heap k1 k2 a1 a2).get? (zK1 (zK1 s.heap k1 a1) k2 a2).objs.size=some _:=Heap.get?_push_of_some _ (Heap.get?_push_of_some _ (Heap.get?_push_size _ rfl))
 have g2:(zK5 s.heap k1 k2 a1 a2).get? (zK1 s.heap k1 a1).objs.size=some _:=Heap.get?_push_of_some _ (Heap.get?_push_of_some _ (Heap.get?_push_of_some _ (Heap.get?_push_size _ rfl)))
 have g1:(zK5 s.heap k1 k2 a1 a2).get? s.heap.objs.size=some _:=Heap.get?_push_of_some _ (Heap.get?_push_of_some _ (Heap.get?_push_of_some _ (Heap.get?_push_of_some _ (Heap.get?_push_size _ rfl))))
 have D:Ap5 (zK4 s.heap k1 k2 a1 a2).objs.size (zK1 (zK1 s.heap k1 a1) k2 a2).objs.size (zK3 s.heap k1 k2 a1 a2).objs.size s.heap.objs.size (zK1 s.heap k1 a1).objs.size:=by
  generalize (zK4 s.heap k1 k2 a1 a2).objs.size=e4 at z4 ⊢;generalize (zK3 s.heap k1 k2 a1 a2).objs.size=e3 at z3 ⊢;generalize (zK1 (zK1 s.heap k1 a1) k2 a2).objs.size=e2 at z2 ⊢;generalize (zK1 s.heap k1 a1).objs.size=e1 at z1 ⊢;generalize s.heap.objs.size=e0 at*
  constructor<;>(intro q;replace q:@Eq Nat _ _:=q;omega)
 refine⟨⟨_,g5,rfl⟩,h _ _ _ _ _ _ D ⟨g5,g3,⟨_,_,g4⟩,?_,?_⟩ ?_ fun c o q=>Heap.get?_push_of_some _ (Heap.get?_push_of_some _ (Heap.get?_push_of_some _ (Heap.get?_push_of_some _ (Heap.get?_push_of_some _ q))))⟩
 ·exact wP g1
 ·exact wP g2
 ·intro b hb
  simp only[List.mem_cons,List.not_mem_nil,or_false]at hb
  rcases hb with q|q|q|q|q
  ·exact Nat.le_trans (Nat.le_add_right _ 4) (Nat.le_of_eq (z4.symm.trans q.symm))
  ·exact Nat.le_trans (Nat.le_add_right _ 2) (Nat.le_of_eq (z2.symm.trans q.symm))
  ·exact Nat.le_trans (Nat.le_add_right _ 3) (Nat.le_of_eq (z3.symm.trans q.symm))
  ·exact Nat.le_of_eq q.symm
  ·exact Nat.le_trans (Nat.le_add_right _ 1) (Nat.le_of_eq (z1.symm.trans q.symm))
section
variable {X:Cx}
def Qby(k1 k2:Sk)(ta:TA):TI:=fun σ H R=>ta σ H fun vs H1=>∃a1 a2,vs=[.ref a1,.ref a2]∧(∃xs,SkR k1 H1 a1 xs)∧(∃ys,SkR k2 H1 a2 ys)∧R (ItZ k1 k2 a1 a2) H1
theorem Vr(k1 k2:Sk){es:List Expr}{n:Nat}{tp:Pos}{a b:Expr}{ta:TA}{p pos:Pos}(hg:Gl X "zip")(hm:X.mg "zip"=none)(ha:PA X [a,b] ta)(hs:starEach [a,b] X.env=[(false,eval a X.env),(false,eval b X.env)]:=by rfl)(hs2:starEach [b] X.env=[(false,eval b X.env)]:=by rfl):
  PI X (.Tuple es n tp) (.Call (.Name "zip" p) [a,b] [] pos) (Qby k1 k2 ta):=by
 intro pins s σ H R I h
 refine Call_ (Kf I hg hm boot_zip (PyProof.Rows.callWith_type1 (thn (ha pos pins s σ H _ I h) fun us s1⟨vs,H1,I1,r1,a1,a2,e,⟨xs,hq1⟩,⟨ys,hq2⟩,q⟩=>?_) (by rw[hs,hs2]) (by rw[hs2];rfl)))
 subst e
 obtain⟨v,w,rfl,rfl,rfl⟩:=vals2 r1
 obtain⟨its1,rv1,o1,_⟩:=I1.sk (hq1.q (K:=X.K))
 obtain⟨its2,rv2,o2,_⟩:=I1.sk (hq2.q (K:=X.K))
 refine zF o1 o2 fun h1 z TI TO i1 i2 D st nw hk=>?_
 refine wpAny_pyIter_zip (s:={s1 with heap:=h1}) st.1 ?_
 exact⟨_,[z,TI,TO,i1,i2],_,_,H1,rfl,I1.kept (t':=s1.toks) hk,zE D k1 k2 a1 a2,st,fun b hb=>I1.wG (nw b hb) (I1.hok.fresh (nw b hb)),q⟩
end
end L2
set_option Elab.async false
set_option linter.all false
set_option maxRecDepth 100000
namespace L2
open PySem PySem.Spec PyProof.Rows
end L2
set_option Elab.async false
set_option linter.all false
set_option maxRecDepth 100000
namespace L2
open PySem PySem.Spec PyProof.Rows
structure Fix(J:It)(n:Nat)(Ok:Hp→Prop)(item:Nat→Hp→V→Hp→Prop):Prop where
 go:∀i H,Ok H→i<n→J.go i H
 stop:∀H,Ok H→J.stop n H
 yld:∀i H v H',Ok H→i<n→J.yld i H v H'→item i H v H'
section
variable {J:It}{n:Nat}{Ok:Hp→Prop}{item:Nat→Hp→V→Hp→Prop}
theorem Zm{g:TG}{tb:TS}{D:Ends}{σ:St}{H:Hp}(F:Fix J n Ok item)(Pv:Nat→St→Hp→Prop)(h0:Pv 0 σ H)(ho:∀i σ H,i≤n→Pv i σ H→Ok H)
  (hs:∀i v σ H H',i<n→Pv i σ H→item i H v H'→g v σ H' fun σ2 H2=>tb {D with nx:=Pv (i+1),ct:=Pv (i+1),bk:=D.nx} σ2 H2) (hd:∀σ H,Pv n σ H→D.nx σ H):
  ∃W:Nat→Nat→St→Hp→Prop,(∃m,W 0 m σ H)∧∀i m σ H,W i m σ H→
   (J.stop i H∧D.nx σ H)∨(J.go i H∧∃N:St→Hp→Prop,(∀σ' H',N σ' H'→∃m',m'<m∧W (i+1) m' σ' H')∧∀x H',J.yld i H x H'→g x σ H' fun σ2 H2=>tb {D with nx:=N,ct:=N,bk:=D.nx} σ2 H2):=by
 refine⟨fun i m σ H=>m=n-i∧i≤n∧Pv i σ H,⟨n,by simp,Nat.zero_le _,h0⟩,?_⟩
 rintro i m σ H ⟨rfl,hi,p⟩
 have ok:=ho i σ H hi p
 by_cases hlt:i<n
 ·exact .inr ⟨F.go i H ok hlt,Pv (i+1),fun σ' H' p'=>⟨n-(i+1),by omega,rfl,hlt,p'⟩,fun x H' y=>hs i x σ H H' hlt p (F.yld i H x H' ok hlt y)⟩
 ·have e:i=n:=by omega
  subst e
  exact .inl ⟨F.stop H ok,hd σ H p⟩
theorem Vs{NB:List Str}{wi:TI}{g:TG}{tt:TT}{te:TE}{Q:VK}{σ:St}{H:Hp}(F:Fix J n Ok item)(Pv:Nat→List V→Hp→Prop)(h:∀R:It→Hp→Prop,(∀H1,Pv 0 [] H1→R J H1)→wi σ H R) (ho:∀i vs H,i≤n→Pv i vs H→Ok H∧vs.length≤i)
  (hs:∀i v vs H H',i<n→Pv i vs H→item i H v H'→g v (List.replicate NB.length none) H' fun σ2 H2=>tt σ2 H2 fun b H3=>if b=true then te σ2 H3 fun v H4=>Pv (i+1) (vs++[v]) H4 else Pv (i+1) vs H3)
  (hd:∀vs H,Pv n vs H→∀p,H p=none→Q (.ref p) (upd H p (.lst vs))) (hz:n<sizeLine):vN NB wi g tt te σ H Q:=by
 refine h _ fun H1 h0=>⟨fun i m vs H=>m=n-i∧i≤n∧Pv i vs H,⟨n,by simp,Nat.zero_le _,h0⟩,?_⟩
 rintro i m vs H ⟨rfl,hi,p⟩
 obtain⟨ok,hv⟩:=ho i vs H hi p
 by_cases hlt:i<n
 ·exact .inr ⟨F.go i H ok hlt,by omega,Pv (i+1),fun vs' H' p'=>⟨n-(i+1),by omega,rfl,hlt,p'⟩,fun x H' y=>hs i x vs H H' hlt p (F.yld i H x H' ok hlt y)⟩
 ·have e:i=n:=by omega
  subst e
  exact .inl ⟨F.stop H ok,hd vs H p⟩
theorem K8{nn:Nat}{fi:List Nat}{fv:List V}{wi:TI}{g:TG}{tt:TT}{te:TE}{Q:VK}{σ:St}{H:Hp}(F:Fix J n Ok item)(Pv:Nat→List V→Hp→Prop)(h:∀R:It→Hp→Prop,(∀H1,Pv 0 [] H1→R J H1)→wi σ H R) (hfv:fi.map (fun i=>σ[i]?)=fv.map (fun v=>some (some v))) (ho:∀i vs H,i≤n→Pv i vs H→Ok H∧vs.length≤i)
  (hs:∀i v vs H H',i<n→Pv i vs H→item i H v H'→g v (List.replicate nn none++fv.map some) H' fun σ2 H2=>σ2.drop nn=fv.map some∧tt σ2 H2 fun b H3=>if b=true then te σ2 H3 fun v H4=>Pv (i+1) (vs++[v]) H4 else Pv (i+1) vs H3)
  (hd:∀vs H,Pv n vs H→∀p,H p=none→Q (.ref p) (upd H p (.lst vs))) (hz:n<sizeLine):W6 nn fi wi g tt te σ H Q:=by
 refine h _ fun H1 h0=>⟨fv,hfv,fun i m vs H=>m=n-i∧i≤n∧Pv i vs H,⟨n,by simp,Nat.zero_le _,h0⟩,?_⟩
 rintro i m vs H ⟨rfl,hi,p⟩
 obtain⟨ok,hv⟩:=ho i vs H hi p
 by_cases hlt:i<n
 ·exact .inr ⟨F.go i H ok hlt,by omega,Pv (i+1),fun vs' H' p'=>⟨n-(i+1),by omega,rfl,hlt,p'⟩,fun x H' y=>hs i x vs H H' hlt p (F.yld i H x H' ok hlt y)⟩
 ·have e:i=n:=by omega
  subst e
  exact .inl ⟨F.stop H ok,hd vs H p⟩
end
theorem zG{xs:List V}{i:Nat}(h:i<xs.length):∃x,xs[i]? =some x:=⟨_,List.getElem?_eq_getElem h⟩
theorem x6{K:PySem.W.Frag}{a:Addr}{xs:List V}:Fix (Itt K a) xs.length (fun H=>SqT K H a xs) (fun i H v H'=>H'=H∧xs[i]? =some v):=
 ⟨fun i H ok h=>let ⟨x,e⟩:=zG h;⟨xs,x,ok,e⟩,fun H ok=>⟨xs,ok,Nat.le_refl _⟩,fun i H v H' ok _ y=>⟨y.1,y.2 _ ok⟩⟩
theorem yG{K:PySem.W.Frag}{a:Addr}{xs:List V}:Fix (Itl K a) xs.length (fun H=>SqL K H a xs) (fun i H v H'=>H'=H∧xs[i]? =some v):=
 ⟨fun i H ok h=>let ⟨x,e⟩:=zG h;⟨xs,x,ok,e⟩,fun H ok=>⟨xs,ok,Nat.le_refl _⟩,fun i H v H' ok _ y=>⟨y.1,y.2 _ ok⟩⟩
theorem Qcs{lo:Int}{n:Nat}:Fix (Itr lo n) n (fun _=>True) (fun i H v H'=>H'=H∧v=.int (lo+i)):=⟨fun i H _ h=>h,fun H _=>Nat.le_refl _,fun i H v H' _ _ y=>y⟩
theorem Qbz{k:Sk}{K:PySem.W.Frag}{a:Addr}{xs:List V}:Fix (ItN k K a) xs.length (fun H=>SkQ k K H a xs) (fun i H v H'=>∃p x,H p=none∧v=.ref p∧xs[i]? =some x∧H'=upd H p (.tup [.int (i:Nat),x])):=
 ⟨fun i H ok h=>let ⟨x,e⟩:=zG h;⟨xs,x,ok,e⟩,fun H ok=>⟨xs,ok,rfl⟩,fun i H v H' ok _⟨p,hp,e,y⟩=>let ⟨x,h1,h2⟩:=y xs ok;⟨p,x,hp,e,h1,h2⟩⟩
theorem Qa1{k1 k2:Sk}{a1 a2:Addr}{xs ys:List V}:Fix (ItZ k1 k2 a1 a2) (min xs.length ys.length) (fun H=>SkR k1 H a1 xs∧SkR k2 H a2 ys) (fun i H v H'=>∃p x y,H p=none∧v=.ref p∧xs[i]? =some x∧ys[i]? =some y∧H'=upd H p (.tup [x,y])):=
 ⟨fun i H ok h=>let ⟨x,e⟩:=zG (xs:=xs) (by omega);let ⟨y,e2⟩:=zG (xs:=ys) (by omega);⟨xs,ys,x,y,ok.1,ok.2,e,e2⟩,fun H ok=>⟨xs,ys,ok.1,ok.2,rfl⟩,fun i H v H' ok _⟨p,hp,e,q⟩=>let ⟨x,y,h1,h2,h3⟩:=q xs ys ok.1 ok.2;⟨p,x,y,hp,e,h1,h2,h3⟩⟩
end L2
set_option Elab.async false
set_option linter.all false
set_option maxRecDepth 100000
namespace L2
open PySem PySem.Spec PyProof.Rows
section
variable {X:Cx}
theorem kY{bs:List Bool}{us:List Value}(r:Vals (bs.map V.bl) us):∀i v,us.toArray[i]? =some v→v=Value.bool (bs.getD i true):=fun i v hv=>by
 have h1:us[i]? =some v:=by simpa using hv
 have hlt:=(List.getElem?_eq_some_iff.mp h1).1
 have hl:=r.length
 rw[List.length_map]at hl
 have h2:(bs.map V.bl)[i]? =some (V.bl (bs.getD i true)):=by
  rw[List.getElem?_map,List.getElem?_eq_getElem (by omega)]
  simp[List.getD,List.getElem?_eq_getElem (show i<bs.length by omega)]
 obtain⟨u,e1,q⟩:=r.get h2
 rw[h1]at e1
 obtain rfl:=Option.some.inj e1
 exact q
theorem range_all{bs:List Bool}:(List.range bs.length).all (fun i=>bs.getD i true)=bs.all id:=by
 have h:(List.range bs.length).map (fun i=>bs.getD i true)=bs:=by
  apply List.ext_getElem (by simp)
  intro i h1 h2
  simp[List.getD,List.getElem?_eq_getElem h2]
 have h2:(List.range bs.length).all (fun i=>bs.getD i true)=((List.range bs.length).map (fun i=>bs.getD i true)).all id:=by rw[List.all_map];rfl
 rw[h2,h]
theorem KC(hc:X.calm=true):Xb X (.builtin "all") (fun xs H Q=>∃(p:Addr)(bs:List Bool),xs=[.ref p]∧SqL X.K H p (bs.map V.bl)∧Q (.bl (bs.all id)) H):=by
 intro pins s σ H xs us Q I r h
 obtain⟨p,bs,rfl,hq,q⟩:=h
 obtain⟨u,rfl,ru⟩:=vals1 r
 obtain rfl:u=Value.ref p:=ru
 obtain⟨its,rv,pl,hl⟩:=I.list hq
 have hil:=pl.isList
 have hlt:p<s.heap.objs.size:=by obtain⟨o,e,_⟩:=hil;exact Heap.lt_size e
 have hlen:=rv.length
 rw[List.length_map]at hlen
 have I2:Inv X pins σ H {s with heap:=s.heap.push {cls:=.type "list_iterator",data:=.fields #[.ref p,.int 0 0]}}:=I.kept (t':=s.toks) fun b o e=>Heap.get?_push_of_some _ e
 refine call_all_walk (wpAny_pyIter_list hil ⟨s.heap.objs.size,_,_,_,_,_,fun i=>bs.getD i true,rfl,Walks.list (A:=X.A.in1) (I.ok.hd hc) _ p (Nat.ne_of_lt hlt) its.toArray,⟨⟨_,Heap.get?_push_size _ rfl,rfl,rfl⟩,hil.push _⟩,fun i v s Q E hv hQ=>?_,fun h' tk hk=>?_⟩)
 ·rw[kY rv i v hv]
  exact wpAny_truthy_bool hQ
 ·obtain⟨f0,f1,f2,f3,f4,f5⟩:=I.wG (Nat.le_refl _) (I.hok.fresh (Nat.le_refl _))
  have e:(List.range its.toArray.size).all (fun i=>bs.getD i true)=bs.all id:=by rw[List.size_toArray, ←hlen,range_all]
  rw[e]
  refine⟨.bl (bs.all id),H,?_,rfl,q⟩
  exact(I2.turned (h':=h') (t':=tk) (it:=s.heap.objs.size) (fun b o hb eo=>hk b o (by simpa using hb) eo) f0 f1 f3 f4 f5:)
end
def Uk(l:List Str)(x:Str):List Str:=if l.any (· ==x)then l else l++[x]
def met(f:Nat→Str):Nat→List Str
 |0=>[]
 |i+1=>Uk (met f i) (f i)
theorem qf(l:List Str)(x k:Str):(Uk l x).any (· ==k)=(l.any (· ==k)||decide (k=x)):=by
 unfold Uk
 by_cases h:l.any (· ==x)=true
 ·rw[if_pos h]
  by_cases e:k=x
  ·subst e;rw[h];simp
  ·simp[e]
 ·rw[if_neg h,List.any_append]
  by_cases e:k=x
  ·subst e;simp
  ·have hb:(x==k)=false:=by simpa[beq_iff_eq]using(fun q:x=k=>e q.symm)
   simp[hb,e]
theorem Vt(l:List Str)(x:Str):(Uk l x).length=if l.any (· ==x)then l.length else l.length+1:=by unfold Uk;split<;>simp
theorem zH(f:Nat→Str):∀i,(met f i).length≤i
 |0=>Nat.le_refl _
 |i+1=>by
  have:=zH f i
  show(Uk (met f i) (f i)).length≤i+1
  rw[Vt]
  split<;>omega
section
variable {prog:Program}{w:World}{A:Around}{R:Result→Shared→Prop}{J:Addr}{fp wr:List Addr}{G:Array GenState→Array GenState→Prop}{n:Nat}{P:Nat→Value→Prop}{St:Nat→Shared→Prop}
theorem zI(W:WalksS prog w A.in1 J fp wr G n P St)(S:Addr)(hS0:S∉fp)(f:Nat→Str)(hf:∀i v,P i v→∃t,v=.str (f i) t) (hb:n+1<scanBound):
  ∀(m i:Nat)(s:Shared),n-i=m→i≤n→St i s→s.heap.SetOf (strKind prog w) S (fun q=>(met f i).any (· ==q)) (met f i).length→
   (∀s',Moved (S::wr) G s s'→s'.heap.SetOf (strKind prog w) S (fun q=>(met f n).any (· ==q)) (met f n).length→R (.ok (.ret .none)) s')→codeAny (model prog w) A (.builtin "set.update.loop" ⟨[.ref S,.ref J],[]⟩) R s:=by
 have hSw:S∉wr:=fun h=>hS0 (W.sub _ h)
 have hsub:∀b∈wr,b∈S::wr:=fun b hb=>List.mem_cons_of_mem _ hb
 intro m
 induction m with
 |zero=>
  intro i s hk hi hst hS hR
  obtain rfl:i=n:=by omega
  refine codeAny_builtin F.entry_set_update_loop ?_;rw[Around.under_plainId F.plain_set_update_loop _]
  show wpAny _ A.in1 (pyNext (.ref J)>>=_) _ _ s;refine wpAny_bind (W.done s _ _ hst fun s' hm=>?_)
  show wpAny _ A.in1 (ret Value.none) _ _ s';exact wpAny_pure (hR s' (hm.mono hsub) (by obtain⟨o,es,ep,t,ho,rest⟩:=hS;exact⟨o,es,ep,t,hm.heap S _ hSw ho,rest⟩))
 |succ m ih=>
  intro i s hk hi hst hS hR
  have hlt:i<n:=by omega
  refine codeAny_builtin F.entry_set_update_loop ?_;rw[Around.under_plainId F.plain_set_update_loop _]
  show wpAny _ A.in1 (pyNext (.ref J)>>=_) _ _ s;refine wpAny_bind (W.item i s _ _ hlt hst fun v s' hP hst' hm=>?_)
  obtain⟨t,rfl⟩:=hf i v hP
  have hS':s'.heap.SetOf (strKind prog w) S (fun q=>(met f i).any (· ==q)) (met f i).length:=by obtain⟨o,es,ep,tb,ho,rest⟩:=hS;exact⟨o,es,ep,tb,hm.heap S _ hSw ho,rest⟩
  show wpAny _ A.in1 (holding [Value.str (f i) t] (setAdd S (.str (f i) t))>>=_) _ _ s';refine wpAny_bind (wpAny_holding ?_)
  unfold setAdd;refine wpAny_holding ?_;refine wpAny_bind ((strKind prog w).pyHash (k:=f i) (strKind_is _ _ _ _) ?_)
  have hroom:(met f i).length+1<scanBound:=by have:=zH f i;omega
  refine wpAny_setAddHashed_of (knd:=strKind prog w) (s:={s' with toks:=s'.toks+1}) (strKind_is _ _ _ _) rfl hS' hroom fun h' hsb hS2=>?_
  have hSi:h'.SetOf (strKind prog w) S (fun q=>(met f (i+1)).any (· ==q)) (met f (i+1)).length:=SetOf_congr hS2 (fun q=>by show _=(Uk (met f i) (f i)).any (· ==q);rw[qf]) (by show _=(Uk (met f i) (f i)).length;rw[Vt])
  refine wpAny_pure ⟨plainId_quiet F.plain_set_update_loop _,ih (i+1) _ (by omega) hlt (W.frame _ s' _ _ hst' (Nat.le_succ _) fun b hb o e=>?_) hSi fun s'' hm'' hS''=>?_⟩
  ·rw[hsb.2 b (fun h:b=S=>hS0 (by rw[←h];exact hb))];exact e
  ·refine hR s'' (Moved.trans W.gtrans ((hm.mono hsub).then_heap (Nat.le_succ _) fun b o hb e=>?_) hm'') hS'';rw[hsb.2 b (fun h:b=S=>hb (by rw[h];exact List.mem_cons_self))];exact e
end
theorem Ul:isSubtype (.type "tuple") (.type "set")=pure false:=by rw[isSubtype_type];kernel_rfl
theorem XY:isSubtype (.type "tuple") (.type "frozenset")=pure false:=by rw[isSubtype_type];kernel_rfl
abbrev zJ(led:Bool):Obj:={cls:=.type "set",dict:=none,data:=.set #[] 0 (.fresh 0 0 led)}
set_option maxHeartbeats 6400000 in
theorem zK{prog:Program}{w:World}{A:Around}{E:Value→Shared→Prop}{s:Shared}{a:Addr}{its:Array Value}{f:Nat→Str}{Q:Value→Shared→Prop}(hh:A.handled=none)(hT0:s.heap.IsTuple a its)(hf:∀(i:Nat)(v:Value),its[i]? =some v→∃t:Tok,v=Value.str (f i) t) (hb:its.size+1<scanBound)
  (h:∀(h':Heap)(tk:Nat),h'.SetOf (strKind prog w) s.heap.objs.size (fun q=>(met f its.size).any (· ==q)) (met f its.size).length→(∀b o,b<s.heap.objs.size→s.heap.get? b=some o→h'.get? b=some o)→Q (.ref s.heap.objs.size) {s with heap:=h',toks:=tk}):
  wpAny (model prog w) A (call (.type "set") [.ref a]) Q E s:=by
 obtain⟨c,tl,hmro⟩:=F.called_set.mro
 have hmade:=F.called_set.made
 have hsub:=F.called_set.sub
 refine wpAny_call (codeAny_of_tree ?_);show wpAny _ _ (callAny (.type "set") _) _ _ _
 refine wpAny_pure ⟨Code.quiet_builtin _ (by decide+kernel),codeAny_builtin F.entry_type_call ?_⟩;rw[Around.under_plain (weight_type_call_type "set" [.ref a] []) rfl]
 have h1:=F.called_set.notType
 have h2:=F.called_set.canCreate
 have hct:=F.typeCall_set_1 (.ref a)
 repeat (any_goals (first|assumption|wp_step))
 refine codeAny_mono (code_set_new_1 (.ref a) (E:=E) (Q₁:=fun obj s₁=>∃led:Bool,obj=.ref s.heap.objs.size∧s₁={s with heap:=s.heap.push (zJ led)}) fun led=>⟨led,rfl,rfl⟩) fun r s₁ hr=>?_
 cases r with
 |error e=>exact hr
 |ok fl=>
  cases fl with
  |ret obj=>
   obtain⟨led,rfl,rfl⟩:=hr
   have hS:(s.heap.push (zJ led)).get? s.heap.objs.size=some (zJ led):=Heap.get?_push_size _ rfl
   have hT:Shared.TypeIs {s with heap:=s.heap.push (zJ led)} (.ref s.heap.objs.size) "set":=⟨_,hS,rfl⟩
   have hli:=F.called_set.init.lookup
   have hbi:=F.called_set.init.bind (.ref s.heap.objs.size)
   repeat (any_goals (first|assumption|wp_step))
   refine codeAny_mono (codeAny_call_builtin (R:=wants (fun r s₂=>r=.none∧∃h' tk,s₂={s with heap:=h',toks:=tk}∧h'.SetOf (strKind prog w) s.heap.objs.size (fun q=>(met f its.size).any (· ==q)) (met f its.size).length∧(∀b o,b<s.heap.objs.size→s.heap.get? b=some o→h'.get? b=some o)) E) F.called_set.init.plain F.entry_set_init (check_set_init_1 hT ?_)) fun r₂ s₂ hr₂=>?_
   ·obtain⟨⟨ocls,odict,odata,oslots⟩,hol,hcl,nl,hdl⟩:=hT0
    simp only at hcl hdl
    subst hcl;subst hdl
    have hol':(s.heap.push (zJ led)).get? a=some {cls:=.type "tuple",dict:=odict,data:=.seq its nl,slots:=oslots}:=Heap.get?_push_of_some _ hol
    have hsls:=Ul
    have hslf:=XY
    have hne:(Value.type "tuple"==Value.type "dict")=false:=by decide
    have hl1:(s.heap.push (zJ led)).IsTuple a its:=⟨_,hol',rfl,nl,rfl⟩
    unfold Builtin.«set.__init__» noKeywords Builtin.Frozenset.updateFrom
    generalize hPI:pyIter=PI
    wp_walk
    subst hPI
    refine wpAny_pyIter_tuple hl1 ?_;refine wpAny_bind (wpAny_runValue ?_)
    have hlS:a<s.heap.objs.size:=Heap.lt_size hol
    have hh3:A.in1.in1.in1.handled=none:=by simp[hh]
    have hneI:a≠(s.heap.push (zJ led)).objs.size:=by rw[Heap.size_push];exact Nat.ne_of_lt (Nat.lt_succ_of_lt hlS)
    have hSf:s.heap.objs.size∉[(s.heap.push (zJ led)).objs.size,a]:=by rw[Heap.size_push];simp only[List.mem_cons,List.mem_singleton,List.not_mem_nil,or_false,not_or];exact⟨Nat.ne_of_lt (Nat.lt_succ_self _),Nat.ne_of_gt hlS⟩
    refine zI ((Walks.tuple hh3 _ a hneI its).toS) s.heap.objs.size hSf f hf hb (its.size-0) 0 _ (by omega) (Nat.zero_le _) ⟨⟨_,Heap.get?_push_size _ rfl,rfl,rfl⟩,(hl1.push _)⟩ ?hS0 ?hR
    case hS0=>
     have hget:((s.heap.push (zJ led)).push {cls:=.type "tuple_iterator",data:=.fields #[.ref a,.int 0 0]}).get? s.heap.objs.size=some (zJ led):=Heap.get?_push_of_some _ hS
     exact SetOf_congr ((setObjOf_fresh (knd:=strKind prog w) led).setOf hget (by unfold scanBound;omega)) (fun _=>rfl) rfl
    case hR=>
     intro s' hm hS'
     obtain⟨h',g',d',tk',os'⟩:=s'
     obtain rfl:g'=s.gens:=hm.gens
     obtain rfl:d'=s.drawn:=hm.drawn
     obtain rfl:os'=s.os:=hm.os
     show wpAny _ _ _ _ _ _
     refine wpAny_pure ?_;show wpAny _ _ (ret Value.none) _ _ _;refine wpAny_pure ⟨rfl,h',tk',rfl,hS',fun b o hb e=>?_⟩
     have hb1:b≠s.heap.objs.size:=Nat.ne_of_lt hb
     have hb2:b≠(s.heap.push (zJ led)).objs.size:=by rw[Heap.size_push];exact Nat.ne_of_lt (Nat.lt_succ_of_lt hb)
     exact hm.heap b o (by simp only[List.mem_cons,List.mem_singleton,List.not_mem_nil,or_false,not_or];exact⟨hb1,hb2⟩) (Heap.get?_push_of_some _ (Heap.get?_push_of_some _ e))
   ·cases r₂ with
    |error e=>exact hr₂
    |ok fl₂=>
     cases fl₂ with
     |ret r=>
      obtain⟨rfl,h',tk,rfl,hS',hk'⟩:=hr₂
      repeat (any_goals (first|assumption|wp_step))
      exact h _ _ hS' hk'
     |_=>exact hr₂.elim
  |_=>exact hr.elim
end L2
set_option Elab.async false
set_option linter.all false
set_option maxRecDepth 100000
namespace L2
open PySem PySem.Spec PyProof.Rows
section
variable {X:Cx}{pins:List (Addr × Obj)}{σ:List (Option V)}{H:Hp}{s:Shared}{h':Heap}
theorem Inv.vP{t':Nat}{ch:List Addr}{T:Addr}{nw:HO}(I:Inv X pins σ H s)(hf:∀b∈ch,jI X pins H b) (k:∀b o,b∉ch→s.heap.get? b=some o→h'.get? b=some o) (hT:s.heap.objs.size≤T)
  (new:Q7 X.prog X.w (upd H T nw) h' T nw):Inv X pins σ (upd H T nw) {s with heap:=h',toks:=t'}:=by
 have hn:=I.hok.fresh hT
 have nit:∀b u,H b=some u→b∉ch:=fun b u e z=>by rw[(hf b z).1]at e;cases e
 have nT:∀b o,H b=some o→upd H T nw b=some o:=fun b o e=>by rw[Qi (Qr e hn)];exact e
 refine I.step (g':=s.gens) (d':=s.drawn) (ch:=ch) (fun b hb=>?_) (fun b o _ _ hc e _=>k b o hc e) (fun b o _ _ hc e _=>⟨o.slots,k b o hc e⟩) (fun b o _ e n=>?_) (fun b o hc e=>⟨o,k b o hc e⟩) (fun b ys e=>nT b _ e) (fun b o u e=>nT b _ e) (fun b ps e=>⟨#[],by rw[nT b _ e];simp⟩) (fun m hm=>?_) (fun b u e=>?_) I.bare
 ·obtain⟨_,f1,_,f3,f4,f5⟩:=hf b hb
  exact⟨f3,f1,f4,f5⟩
 ·rw[Qi (fun z=>absurd (Heap.lt_size e) (by rw[z];exact Nat.not_lt.mpr hT))]
  exact n
 ·obtain⟨o,es,ep,ho,r⟩:=hm
  exact⟨o,es,ep,k _ o (fun z=>(hf _ z).2.1 rfl) ho,r⟩
 ·by_cases hb:b=T
  ·subst hb;rw[Qc]at e;cases e;exact new
  ·rw[Qi hb]at e
   refine(I.hok b u e).YZ (fun c v hc q=>k c v ?_ q) (fun c q=>nT c _ q) fun c ys q=>nT c _ q
   rcases hc with z|z
   ·rw[z];exact nit b u e
   ·exact nit c _ z
end
theorem vQ{ys:List Str}{us:List Value}(r:Vals (ys.map V.str) us):∀(i:Nat)(v:Value),us.toArray[i]? =some v→∃t:Tok,v=Value.str (ys.getD i "") t:=fun i v hv=>by
 have h1:us[i]? =some v:=by simpa using hv
 have hlt:=(List.getElem?_eq_some_iff.mp h1).1
 have hl:=r.length
 rw[List.length_map]at hl
 have h2:(ys.map V.str)[i]? =some (V.str (ys.getD i "")):=by
  rw[List.getElem?_map,List.getElem?_eq_getElem (by omega)]
  simp[List.getD,List.getElem?_eq_getElem (show i<ys.length by omega)]
 obtain⟨u,e1,q⟩:=r.get h2
 rw[h1]at e1
 obtain rfl:=Option.some.inj e1
 exact q
def Qa2(P:Program)(w:World)(a:Addr)(n:Nat):HO:=.ext fun h=>∃S:Str→Bool,h.SetOf (strKind P w) a S n
def many(ys:List Str):Nat:=(met (fun i=>ys.getD i "") ys.length).length
section
variable {X:Cx}
theorem qg(hc:X.calm=true):Xb X (.type "set") (fun xs H Q=>∃(p:Addr)(ys:List Str),xs=[.ref p]∧SqT X.K H p (ys.map V.str)∧ys.length<1000∧∀q,H q=none→Q (.ref q) (upd H q (Qa2 X.prog X.w q (many ys)))):=by
 intro pins s σ H xs us Q I r h
 obtain⟨p,ys,rfl,hq,hy,q⟩:=h
 obtain⟨u,rfl,ru⟩:=vals1 r
 obtain rfl:u=Value.ref p:=ru
 obtain⟨its,rv,pl,hl⟩:=I.tuple hq
 have hlen:=rv.length
 rw[List.length_map]at hlen
 refine zK (f:=fun i=>ys.getD i "") (I.ok.hd hc) pl (vQ rv) (by rw[List.size_toArray, ←hlen];unfold scanBound;omega) fun h' tk hS hk=>?_
 have esz:its.toArray.size=ys.length:=by rw[List.size_toArray,hlen]
 rw[esz]at hS
 have hn:=I.hok.fresh (Nat.le_refl s.heap.objs.size)
 refine⟨.ref s.heap.objs.size,upd H s.heap.objs.size (Qa2 X.prog X.w s.heap.objs.size (many ys)),?_,rfl,q _ hn⟩
 refine I.vP (ch:=[]) (fun b hb=>by cases hb) (fun b o _ e=>hk b o (Heap.lt_size e) e) (Nat.le_refl _) ?_
 refine⟨⟨_,hS⟩,?_,fun h1 h2⟨S,z⟩ kk=>⟨S,?_⟩⟩
 ·obtain⟨o,es,ep,t,ho,_⟩:=hS
  exact⟨o,ho⟩
 ·obtain⟨o,es,ep,t,ho,rest⟩:=z
  exact⟨o,es,ep,t,kk o ho,rest⟩
theorem K9:Xb X (.builtin "len") (fun xs H Q=>∃(p:Addr)(n:Nat),xs=[.ref p]∧H p=some (Qa2 X.prog X.w p n)∧Q (.int n) H):=by
 intro pins s σ H xs us Q I r h
 obtain⟨p,n,rfl,hp,q⟩:=h
 obtain⟨u,rfl,ru⟩:=vals1 r
 obtain rfl:u=Value.ref p:=ru
 obtain⟨⟨S,o,es,ep,t,ho,hex,hd,_,_,hsz,hf,rfl⟩,_⟩:=I.hok p _ hp
 exact call_len_set ho hex hd hf (by unfold scanBound at hsz;omega) ⟨.int _,H,I.tok _,⟨_,rfl⟩,q⟩
end
end L2
set_option Elab.async false
set_option linter.all false
set_option maxRecDepth 100000
namespace L2
open PySem PySem.Spec PyProof.Rows
open AutoSeq1 (wpAny_loadPart')
theorem Um(l:Addr)(its:Array Value)(n:Nat)(dd:Option Addr)(sl:Array (Option Value))(x:Value)(e:Value→Bool)(j:Nat)(hj:j<its.size)(hit:e its[j]=true)(hno:∀m(hm:m<its.size),m<j→e its[m]=false):
  Meets (Builtin.«tuple.index» ⟨[.ref l,x],[]⟩) (fun A R s=>s.heap.get? l=some ⟨.type "tuple",dd,.seq its n,sl⟩∧(∀y,y∈its→SeqAt.EqAt A.in1 s y x (e y))∧R (.ok (.ret (.int j s.toks))) {s with toks:=s.toks+1}):=
 .of_wp fun prog w A R s h=>by
  obtain⟨hp,g,d,tk,os⟩:=s;obtain⟨hl,he,h⟩:=h
  unfold Builtin.«tuple.index»
  simp only[Std.Legacy.Range.forIn_eq_forIn_range']
  wp_walk using wpAny_loadPart' hl,wpAny_forIn_list _ (fun rest b s'=>b=(none,())∧s'=⟨hp,g,d,tk,os⟩∧∃i,i≤j∧rest=(List.range' 0 its.size).drop i) _
  case turn=>
   rintro y rest b s' ⟨rfl,rfl,i,hij,hz⟩
   have hlt:i<(List.range' 0 its.size).length:=by rw[List.length_range'];omega
   rw[List.drop_eq_getElem_cons hlt]at hz
   injection hz with hy hrest
   obtain rfl:y=i:=by rw[hy,List.getElem_range'];omega
   have hy2:y<its.size:=by omega
   rw[Array.getElem?_eq_getElem hy2]
   refine wpAny_bind (he its[y] (Array.getElem_mem hy2) prog w _ _ ?_)
   by_cases hyj:y=j
   ·subst hyj
    rw[hit]
    wp_walk
    exact⟨_,rfl,h⟩
   ·rw[hno y hy2 (by omega)]
    wp_walk
    exact⟨rfl,rfl,y+1,by omega,hrest⟩
  case fin=>
   rintro b s' ⟨rfl,rfl,i,hij,hz⟩
   have hlt:i<(List.range' 0 its.size).length:=by rw[List.length_range'];omega
   rw[List.drop_eq_getElem_cons hlt]at hz
   cases hz
  case h=>
   refine⟨rfl,rfl,0,Nat.zero_le _,?_⟩
   rw[List.drop_zero]
   congr 1
   simp
theorem Wa(ys:List Str):(ys.map V.str).all ZB=true:=by
 rw[List.all_eq_true]
 intro x hx
 obtain⟨y,_,rfl⟩:=List.mem_map.mp hx
 rfl
section
variable {X:Cx}
theorem zL:MtR X "tuple.index" (fun x vs H Q=>∃(l:Addr)(ys:List Str)(y:Str)(j:Nat),x=.ref l∧vs=[.str y]∧SqT X.K H l (ys.map V.str)∧ys[j]? =some y∧(∀i,i<j→ys[i]? ≠some y)∧Q (.int (j:Nat)) H):=by
 intro pins s σ H x vs v us Q I rx rv h
 obtain⟨l,ys,y,j,rfl,rfl,hq,hj,hno,q⟩:=h
 obtain rfl:v=Value.ref l:=rx
 obtain⟨u,rfl,ru⟩:=vals1 rv
 obtain⟨its,r,p,hl⟩:=I.tuple hq
 obtain⟨⟨c,dd,dt,sl⟩,e,hc,n,hd⟩:=p
 replace hc:c=.type "tuple":=hc
 replace hd:dt=.seq its.toArray n:=hd
 subst hc hd
 have fs:=Wa ys
 have hlen:=r.length
 rw[List.length_map]at hlen
 have hj2:j<ys.length:=(List.getElem?_eq_some_iff.mp hj).1
 have at_:∀(i:Nat)(hi:i<its.toArray.size)(w:Str),ys[i]? =some w→eqU (.str y) its.toArray[i]=eqV (.str w) (.str y):=fun i hi w hw=>by
  obtain⟨w',e1,q1⟩:=r.get (i:=i) (x:=.str w) (by rw[List.getElem?_map,hw];rfl)
  have hi':i<its.length:=by simpa using hi
  rw[List.getElem?_eq_getElem hi']at e1
  have z1:its.toArray[i]=w':=by simpa using Option.some.inj e1
  rw[z1]
  exact Yf q1 rfl
 have hsz:its.toArray.size=ys.length:=by rw[List.size_toArray];exact hlen.symm
 refine call_meets PySem.F.slot_tuple_index ⟨_,e,rfl⟩ PySem.F.entry_tuple_index (PySem.F.args_tuple_index_2 _ _) (Um l its.toArray n dd sl u (eqU (.str y)) j (by omega) ?_ ?_) ⟨e,fun w hw=>J1 ru rfl r fs w (by simpa using hw),⟨.int _,H,I.tok _,⟨_,rfl⟩,q⟩⟩
 ·rw[at_ j (by omega) y hj]
  show eqV (.str y) (.str y)=true
  simp[eqV]
 ·intro m hm hlt
  have h1:ys[m]? =some ys[m]:=List.getElem?_eq_getElem (by omega)
  rw[at_ m hm _ h1]
  have:ys[m]≠y:=fun z=>hno m hlt (by rw[h1,z])
  show eqV (.str ys[m]) (.str y)=false
  simp[eqV,this]
end
end L2
set_option Elab.async false
set_option linter.all false
set_option maxRecDepth 100000
namespace L2
open PySem PySem.Spec PyProof.Rows
theorem QbA{lo c:Int}{n:Nat}:Fix (Qbw lo c n) n (fun _=>True) (fun i H v H'=>H'=H∧v=.int (lo+i*c)):=⟨fun i H _ h=>h,fun H _=>Nat.le_refl _,fun i H v H' _ _ y=>y⟩
section
variable {X:Cx}{tg:Expr}
end
section
variable {prog:Program}{w:World}{A:Around}{E:Value→Shared→Prop}{s:Shared}
theorem Wb:isSubtype (.type "range_iterator") (.type "reversed")=pure false:=by rw[isSubtype_type];kernel_rfl
abbrev rvO(i j:Int):Obj:={cls:=.type "range_iterator",data:=.fields #[rawInt (i+(Builtin.Range.rangeSize i j 1-1)*1),rawInt (Builtin.Range.rangeSize i j 1),rawInt (-1)]}
theorem vR{r:Addr}{i j:Int}{t u v:Tok}{Q:Value→Shared→Prop}(hr:IsRange s.heap r i j 1 t u v)(b: -(2^40)≤i∧i<2^40∧ -(2^40)≤j∧j<2^40)
  (q:Q (.ref s.heap.objs.size) {s with heap:=s.heap.push (rvO i j)}):wpAny (model prog w) A (call (.builtin "range.__reversed__") [.ref r]) Q E s:=by
 have hT:s.TypeIs (.ref r) "range":=⟨_,hr,rfl⟩
 refine wpAny_call_entry F.slot_range_reversed hT F.entry_range_reversed ?_ (F.args_range_reversed_1 _)
 have hf:∀x:Int, -(2^41)≤x→x≤2^41→Builtin.Range.rangeFitsLong x=true:=fun x h1 h2=>by
  unfold Builtin.Range.rangeFitsLong
  rw[decide_eq_true (show-(2^63)≤x by omega),decide_eq_true (show x<2^63 by omega)]
  rfl
 have hn:0≤Builtin.Range.rangeSize i j 1∧Builtin.Range.rangeSize i j 1≤2^41:=by
  unfold Builtin.Range.rangeSize
  rw[if_pos (by decide)]
  split
  ·rw[Int.ediv_one];omega
  ·omega
 unfold Builtin.«range.__reversed__»
 refine wpAny_bind (wpAny_of_eq (a:=Value.ref r) rfl ?_)
 unfold Builtin.Range.rangeFields
 refine wpAny_bind (wpAny_bind (wpAny_field hr rfl (x:=.int i t) rfl ?_));refine wpAny_bind (wpAny_of_eq (a:=some i) rfl ?_)
 refine wpAny_bind (wpAny_field hr rfl (x:=.int j u) rfl ?_);refine wpAny_bind (wpAny_of_eq (a:=some j) rfl ?_)
 refine wpAny_bind (wpAny_field hr rfl (x:=.int 1 v) rfl ?_);refine wpAny_bind (wpAny_of_eq (a:=some 1) rfl (wpAny_pure ?_))
 dsimp only
 rw[hf i (by omega) (by omega),hf j (by omega) (by omega),hf 1 (by decide) (by decide),hf (-1) (by decide) (by decide),hf (i-1) (by omega) (by omega),hf (Builtin.Range.rangeSize i j 1) (by omega) (by omega)]
 exact wpAny_bind (wpAny_newObj_type (wpAny_pure ⟨_,rfl,q⟩))
theorem Yx{r:Addr}{i j:Int}{t u v:Tok}{Q₁:Value→Shared→Prop}(hr:IsRange s.heap r i j 1 t u v)(b: -(2^40)≤i∧i<2^40∧ -(2^40)≤j∧j<2^40)
  (q:Q₁ (.ref s.heap.objs.size) {s with heap:=s.heap.push (rvO i j)}):codeAny (model prog w) A (.call (.builtin "reversed.__new__") ⟨[.type "reversed",.ref r],[]⟩) (wants Q₁ E) s:=by
 have hT:s.TypeIs (.ref r) "range":=⟨_,hr,rfl⟩
 refine codeAny_of_tree ?_
 show wpAny _ A.in1 (do checkBuiltinCall "reversed.__new__" ⟨[.type "reversed",.ref r],[]⟩;again (.builtin "reversed.__new__" ⟨[.type "reversed",.ref r],[]⟩)) _ _ s
 refine wpAny_bind (wpAny_of_eq (F.newCall_reversed_1 _) (wpAny_pure ⟨plainId_quiet F.plain_reversed_new _,codeAny_builtin F.entry_reversed_new ?_⟩));rw[Around.under_plainId F.plain_reversed_new _]
 unfold Builtin.«reversed.__new__»;refine wpAny_bind (wpAny_of_eq (newClass_reversed _) ?_)
 try dsimp only
 refine wpAny_bind (wpAny_of_eq (a:=()) (by first|rfl|kernel_rfl) ?_);refine wpAny_bind (wpAny_of_eq (a:=()) (by first|rfl|kernel_rfl) ?_)
 try dsimp only
 refine wpAny_bind (wpAny_specialOf hT F.slot_range_reversed.lookup ?_)
 try dsimp only
 refine wpAny_bind (wpAny_of_eq (F.slot_range_reversed.bind _) ?_)
 try dsimp only
 first
 |rw[if_neg (show ¬ ((Value.builtin "range.__reversed__"==Value.none)=true)from Bool.false_ne_true)]
 |(show wpAny _ _ (if(Value.builtin "range.__reversed__"==Value.none)=true then _ else _) _ _ _;rw[if_neg (show ¬ ((Value.builtin "range.__reversed__"==Value.none)=true)from Bool.false_ne_true)])
 refine wpAny_bind (wpAny_rule ?_)
 refine wpAny_bind (m:=runValue (.call (.builtin "range.__reversed__") ⟨[.ref r],[]⟩)) (show wpAny _ _ (call (.builtin "range.__reversed__") [.ref r]) _ _ _ from vR hr b ?_)
 first
 |exact wpAny_pure q
 |exact wpAny_bind (wpAny_pure (wpAny_pure q))
theorem Yy{r:Addr}{i j:Int}{t u v:Tok}{Q:Value→Shared→Prop}(hr:IsRange s.heap r i j 1 t u v)(b: -(2^40)≤i∧i<2^40∧ -(2^40)≤j∧j<2^40)
  (q:Q (.ref s.heap.objs.size) {s with heap:=s.heap.push (rvO i j)}):wpAny (model prog w) A (call (.type "reversed") [.ref r]) Q E s:=by
 refine callType_other (U:="range_iterator") (Q₁:=fun obj s₁=>obj=.ref s.heap.objs.size∧s₁={s with heap:=s.heap.push (rvO i j)}) (by decide+kernel) F.create_reversed ⟨_,_,F.mro_reversed⟩ F.made_reversed Wb (F.typeCall_reversed_1 _) (Yx hr b ⟨rfl,rfl⟩) ?_
 rintro obj s₁ ⟨rfl,rfl⟩
 exact⟨⟨_,Heap.get?_push_size _ rfl,rfl⟩,q⟩
end
section
variable {X:Cx}{tg:Expr}
def Qct(ta:TA):TI:=fun σ H R=>ta σ H fun vs H1=>∃i j:Int,vs=[.int i,.int j]∧(-(2^40)≤i∧i<2^40∧ -(2^40)≤j∧j<2^40)∧R (Qbw (i+((j-i).toNat:Nat)-1) (-1) (j-i).toNat) H1
theorem zM(i j:Int):Builtin.Range.rangeSize i j 1=(((j-i).toNat:Nat):Int):=by
 unfold Builtin.Range.rangeSize
 rw[if_pos (by decide)]
 split<;>simp<;>omega
theorem Qav{a b:Expr}{ta:TA}{p p2 pos pos2:Pos}(hc:X.calm=true)(hg:Gl X "reversed")(hm:X.mg "reversed"=none)(hg2:Gl X "range")(hm2:X.mg "range"=none)(ha:PA X [a,b] ta)(hs:starEach [a,b] X.env=[(false,eval a X.env),(false,eval b X.env)]:=by rfl)(hs2:starEach [b] X.env=[(false,eval b X.env)]:=by rfl)
  (hs3:starEach [.Call (.Name "range" p2) [a,b] [] pos2] X.env=[(false,eval (.Call (.Name "range" p2) [a,b] [] pos2) X.env)]:=by rfl):PI X tg (.Call (.Name "reversed" p) [.Call (.Name "range" p2) [a,b] [] pos2] [] pos) (Qct ta):=by
 intro pins s σ H R I h
 refine Call_ (Kf I hg hm boot_reversed (PyProof.Rows.callWith_type1 ?_ hs3 rfl))
 rw[hs3]
 show wpAny _ _ (spliced ((false,eval (.Call (.Name "range" p2) [a,b] [] pos2) X.env)::[])) _ _ s
 refine Calls.spliced_cons ?_
 refine Call_ (Kf I hg2 hm2 boot_range (PyProof.Rows.callWith_type1 (thn (ha pos2 pins s σ H _ I h) fun us s1⟨vs,H1,I1,r1,i,j,e,bd,q⟩=>?_) (by rw[hs,hs2]) (by rw[hs2];rfl)))
 subst e
 obtain⟨v1,v2,rfl,⟨t,rfl⟩,u,rfl⟩:=vals2 r1
 refine call_range_2 (Calls.spliced_nil ?_)
 have I2:Inv X pins σ H1 {s1 with heap:=s1.heap.push {cls:=.type "range",data:=.fields #[.int i t,.int j u,.int 1 s1.toks]},toks:=s1.toks+1}:=I1.kept fun b o e=>Heap.get?_push_of_some _ e
 refine Yy (s:={s1 with heap:=s1.heap.push {cls:=.type "range",data:=.fields #[.int i t,.int j u,.int 1 s1.toks]},toks:=s1.toks+1}) (IsRange.new ..) bd ?_
 generalize hS2:({s1 with heap:=s1.heap.push {cls:=.type "range",data:=.fields #[.int i t,.int j u,.int 1 s1.toks]},toks:=s1.toks+1}:Shared)=s2 at I2
 have hit:IsRangeIter (s2.heap.push (rvO i j)) s2.heap.objs.size (i+((j-i).toNat:Nat)-1+((0:Nat):Int)*(-1)) ((((j-i).toNat:Nat):Int)-((0:Nat):Int)) (-1):=by
  have e1:i+((j-i).toNat:Nat)-1+((0:Nat):Int)*(-1)=i+(Builtin.Range.rangeSize i j 1-1)*1:=by rw[zM];simp;omega
  have e2:(((j-i).toNat:Nat):Int)-((0:Nat):Int)=Builtin.Range.rangeSize i j 1:=by rw[zM];simp
  rw[e1,e2]
  exact Heap.get?_push_size _ rfl
 refine wpAny_pyIter_rangeiter (s:={s2 with heap:=s2.heap.push (rvO i j)}) hit ?_
 refine⟨s2.heap.objs.size,[s2.heap.objs.size],_,_,H1,rfl,I2.kept (t':=s2.toks) fun b o e=>Heap.get?_push_of_some _ e,Uh _ _ (-1) _,hit,fun b hb=>?_,q⟩
 obtain rfl:b=s2.heap.objs.size:=by simpa using hb
 exact I2.wG (Nat.le_refl _) (I2.hok.fresh (Nat.le_refl _))
end
end L2
set_option Elab.async false
set_option linter.all false
set_option maxRecDepth 100000
namespace L2
open PySem PySem.Spec PyProof.Rows
section
variable {prog:Program}{w:World}{A:Around}{E:Value→Shared→Prop}{s:Shared}
theorem Uo{a c n:Nat}(hac:a≤c)(hc:c=n):sliceBounds (some (a:Int)) none none n=((a:Int),(c:Int),1):=by
 subst hc
 simp only[sliceBounds,Option.getD_none]
 have h1:¬ ((a:Int)<0):=by omega
 simp only[h1,if_false,show(1:Int)>0 by decide,if_true]
 congr 1
 omega
set_option maxRecDepth 100000 in
theorem Yz{l b sl:Addr}{items new:Array Value}{n n2:Nat}{vl vu:Value}{a c:Nat}{Q:Unit→Shared→Prop}
  (e:s.heap.get? l=some {cls:=.type "list",data:=.seq items n}) (e2:s.heap.get? b=some {cls:=.type "list",data:=.seq new n2}) (hne:l≠b)
  (hs:s.heap.IsSliceOf sl vl vu .none) (pl:IsPart vl (some (a:Int))) (pu:IsPart vu none) (hac:a≤c) (hc:c=items.size)
  (hsz:items.size+new.size≤sizeLine) (h:Q () {s with heap:=s.heap.update l (Obj.mapSeq fun xs=>xs.extract 0 a++new++xs.extract c xs.size)}):
  wpAny (model prog w) A (setItem (.ref l) (.ref sl) (.ref b)) Q E s:=by
 have hl:s.heap.IsList l items:=PySem.IsL.isList e
 have hb:s.heap.IsList b new:=PySem.IsL.isList e2
 obtain⟨os,hos,hcs,hds⟩:=id hs
 have hTs:s.TypeIs (.ref sl) "slice":=⟨os,hos,hcs⟩
 have hstep:¬ ((rawPart none==rawInt 0)=true):=Bool.false_ne_true
 have hsame:Builtin.List.listSameRef (.ref l) (.ref b)=false:=by
  unfold Builtin.List.listSameRef
  exact beq_eq_false_iff_ne.mpr hne
 have hmax:(max (a:Int) (c:Int)).toNat=c:=by omega
 have hz':((fun xs:Array Value=>xs.extract 0 a++new++xs.extract c xs.size) items).size≤sizeLine+1:=by
  simp only[Array.size_append,Array.size_extract]
  omega
 unfold setItem
 try with_reducible refine wpAny_holding ?_
 first|refine wpAny_bind (wpAny_pure ?_)|skip
 refine wpAny_bind (wpAny_sequenceKey hl.typeIs (by decide) ?_)
 refine wpAny_bind (wpAny_callSpecial?_slot (name:=Str.ofString "__setitem__") hl.typeIs slot_list_setitem
  (wpAny_call_entry slot_list_setitem hl.typeIs entry_list_setitem ?_ (args_list_setitem _ _ _)))
 show wpAny _ _ (Builtin.List.listSubscript? (.ref sl)>>=_) _ _ s
 refine wpAny_bind ?_
 unfold Builtin.List.listSubscript?
 refine wpAny_bind (wpAny_specialOf hTs slice_no_index ?_)
 simp only[Option.isNone_none,if_true]
 refine wpAny_pure ?_
 show wpAny _ _ (typeOf (.ref sl)>>=_) _ _ s
 refine wpAny_bind (wpAny_typeOf hTs ?_)
 first
  |rw[if_neg (by decide)]
  |refine PySem.W.KFB.if_not (by decide) ?_
 rw[listSliceParts_eq]
 refine wpAny_bind (wpAny_bind (wpAny_field hos hds (x:=.none) rfl (wpAny_bind (wpAny_listPart .none ?_))))
 rw[if_neg hstep]
 refine wpAny_bind (wpAny_field hos hds (x:=vl) rfl (wpAny_bind (wpAny_listPart pl ?_)))
 refine wpAny_bind (wpAny_field hos hds (x:=vu) rfl (wpAny_bind (wpAny_listPart pu (wpAny_pure ?_))))
 first
  |simp only[hsame,Bool.false_eq_true,if_false]
  |refine PySem.W.KFB.if_not hsame ?_
  |(dsimp only
    rw[if_neg (by rw[hsame];exact Bool.false_ne_true)])
 refine wpAny_bind (m:=Builtin.List.listAllItems (.ref b) "must assign iterable to extended slice") ?_
 unfold Builtin.List.listAllItems
 refine wpAny_bind (wpAny_typeOf hb.typeIs ?_)
 first
  |refine PySem.W.KFB.if_so (by decide) ?_
  |rw[if_pos (by decide)]
  |simp only[beq_self_eq_true,Bool.true_or,if_true]
 unfold Builtin.List.listItems
 refine wpAny_bind (wpAny_seqItems e2 rfl (wpAny_pure ?_))
 refine wpAny_bind (wpAny_bind (wpAny_seqItems e rfl (wpAny_pure ?_)))
 refine wpAny_bind (wpAny_of_eq ((sliceIndices_raw (some (a:Int)) none none items.size (by simp)).trans (congrArg (pure:Int × Int × Int→Sem (Int × Int × Int)) (Uo hac hc))) ?_)
 show wpAny _ _ (if((1:Int)==1)=true then _ else _) _ _ s
 rw[if_pos (by decide)]
 refine wpAny_bind (wpAny_rule ?_)
 first
  |simp only[Ky hsz,Bool.false_eq_true,if_false]
  |refine PySem.W.KFB.if_not (Ky hsz) ?_
 first|refine wpAny_bind (wpAny_pure ?_)|skip
 show wpAny _ _ (updateSeq l (fun xs=>xs.extract 0 ((a:Int)).toNat++new++xs.extract (max (a:Int) (c:Int)).toNat xs.size)>>=_) _ _ s
 rw[hmax,Int.toNat_natCast]
 refine wpAny_bind (wpAny_updateSeq (hz:=Nat.le_trans (Nat.le_add_right _ _) hsz) (_hz':=hz') e rfl ?_)
 refine wpAny_bind (wpAny_letGo ?_)
 first
  |exact wpAny_bind (wpAny_pure (wpAny_pure ⟨.none,rfl,wpAny_pure h⟩))
  |exact wpAny_pure ⟨.none,rfl,wpAny_pure h⟩
end
section
variable {X:Cx}
theorem kZ{pins:List (Addr × Obj)}{s:Shared}{σ:St}{H:Hp}{l b sl:Addr}{xs ys:List V}{a:Nat}{vl vu:Value}{Q:Unit→Shared→Prop}(I:Inv X pins σ H s)
  (hH:H l=some (.lst xs)) (hB:H b=some (.lst ys)) (hne:l≠b) (hs:s.heap.IsSliceOf sl vl vu .none) (pl:IsPart vl (some (a:Int))) (pu:IsPart vu none) (hac:a≤xs.length) (hz:xs.length+ys.length≤sizeLine) (h:∀s',Inv X pins σ (upd H l (.lst (xs.take a++ys))) s'→Q () s'):
  wpAny (model X.prog X.w) X.A (setItem (.ref l) (.ref sl) (.ref b)) Q X.xe s:=by
 obtain⟨z,its,n,r,hl,e⟩:=I.x3 hH
 obtain⟨z2,its2,n2,r2,hl2,e2⟩:=I.x3 hB
 refine Yz (a:=a) (c:=its.length) e e2 hne hs pl pu (by omega) (by rw[List.size_toArray]) (by rw[List.size_toArray,List.size_toArray];omega) (h _ ?_)
 refine I.Qbk (its':=its.take a++its2++its.drop its.length) (t':=s.toks) hH e ?_ ?_ ?_
 ·exact za its its2 a its.length
 ·rw[List.drop_length,List.append_nil]
  exact Vals.append (r.take _) r2
 ·rw[List.length_append,List.length_take]
  omega
def QbB(to:TE)(tl:TO)(tv:TE):TS:=fun D σ H=>tv σ H fun v H1=>to σ H1 fun x H2=>tl σ H2 fun y H3=>∃(l b:Addr)(xs ys:List V)(a:Nat),x=.ref l∧v=.ref b∧y=some ((a:Nat):Int)∧H3 l=some (.lst xs)∧H3 b=some (.lst ys)∧l≠b∧a≤xs.length∧xs.length+ys.length≤sizeLine∧D.nx σ (upd H3 l (.lst (xs.take a++ys)))
theorem vS{o value:Expr}{lo:Option Expr}{to tv:TE}{tl:TO}{p2 pos' pos:Pos}(ho:PE X o to)(hl:PO X lo tl)(hv:PE X value tv)(hs:swapsWith value (some (.Subscript o (.Slice lo none none p2) pos')) pos.line X.env=pure false):
  PS X (.Assign [.Subscript o (.Slice lo none none p2) pos'] value pos) (QbB to tl tv):=by
 intro pins s σ H D I h
 refine wpAny_Assign_Subscript (thn (hv pins s σ H _ I h) fun r s1⟨v,H1,I1,rv,q1⟩=>thn (ho pins s1 σ H1 _ I1 q1) fun u s2⟨x,H2,I2,rx,q2⟩=>?_) hs
 refine wpAny_Slice (thn (hl pins s2 σ H2 _ I2 q2) fun vl s3⟨lo,H3,I3,pl,l,b,xs,ys,a,ex,ev,elo,hL,hB,ne,hac,hz,q3⟩=>?_)
 subst ex ev elo
 obtain rfl:u=Value.ref l:=rx
 obtain rfl:r=Value.ref b:=rv
 rw[evalPart_none]
 refine wpAny_pure (wpAny_pure ?_)
 have I4:Inv X pins σ H3 {s3 with heap:=s3.heap.push {cls:=.type "slice",data:=.fields #[vl,.none,.none]}}:=I3.kept (t':=s3.toks) fun b ob q=>Heap.get?_push_of_some _ q
 exact kZ I4 hL hB ne (Heap.IsSliceOf.new ..) pl .none hac hz fun s5 I5=>⟨σ,_,I5,q3⟩
theorem YA:OpR X (compareOp .LtE) (fun x y H Q=>∃i j,x=.str i∧y=.str j∧Q (.bl (!decide (j.cps.toList<i.cps.toList))) H):=by
 intro pins s σ H x y v u Q I rx ry h
 obtain⟨i,j,rfl,rfl,q⟩:=h
 obtain⟨t,rfl⟩:=rx
 obtain⟨t',rfl⟩:=ry
 exact PySem.P.le_str (QS I q rfl)
def QbC:QaX:=fun o i v H Q=>∃a H4,o=.ref a∧zf H a i v H4∧Q H4
theorem set_dict(hu:X.A.units+1<cLine):QbR X QbC:=by
 intro pins s σ H o i v ov iv u Q I ro ri rv h
 obtain⟨a,H4,rfl,g,q⟩:=h
 cases ro
 exact Yl hu I g ri rv fun s4 I4=>⟨H4,I4,q⟩
end
theorem Deep.jJ{H:Hp}{l:Addr}{o o':HO}{v:V}{d:Dv}(h:Deep H v d)(e:H l=some o)(n1:∀ys,o≠ .tup ys):Deep (upd H l o') v d:=
 h.keep (fun b ys q=>by rw[Qi (vi q e fun z=>n1 ys z.symm)];exact q)
theorem Deeps.jJ{H:Hp}{l:Addr}{o o':HO}{v:List V}{d:List Dv}(h:Deeps H v d)(e:H l=some o)(n1:∀ys,o≠ .tup ys):Deeps (upd H l o') v d:=
 h.keep (fun b ys q=>by rw[Qi (vi q e fun z=>n1 ys z.symm)];exact q)
theorem Deep.Qa3{H:Hp}{v:V}{x:Str}(h:Deep H v (.str x)):v=.str x:=by cases h;rfl
theorem Deep.vT{H:Hp}{v:V}{i:Int}(h:Deep H v (.int i)):v=.int i:=by cases h;rfl
theorem Deep.Xy{H:Hp}{v:V}{ds:List Dv}(h:Deep H v (.tup ds)):∃a xs,v=.ref a∧H a=some (.tup xs)∧Deeps H xs ds:=by cases h with|tup h t=>exact⟨_,_,rfl,h,t⟩
def txD(ys:List Str):List Dv:=ys.map Dv.str
theorem Deeps.strs{H:Hp}:∀{xs:List V}{ys:List Str},Deeps H xs (txD ys)→xs=ys.map V.str
 |_,[],.nil=>rfl
 |_,y::ys,.cons h t=>by
  obtain rfl:=h.Qa3
  rw[Deeps.strs (ys:=ys) t]
  rfl
theorem Deeps.XZ{H:Hp}:∀(ys:List Str),Deeps H (ys.map V.str) (txD ys)
 |[]=>.nil
 |y::ys=>.cons .str (Deeps.XZ ys)
theorem Vu{A:Around}{k:Nat}(hr:Room k A):A.units+8<cLine:=Nat.lt_of_le_of_lt (by omega:A.units+8≤A.units+64) hr.units
section
variable {X:Cx}{K0:PySem.W.Frag}
end
end L2
set_option Elab.async false
set_option linter.all false
set_option maxRecDepth 100000
namespace L2
open PySem PySem.Spec PyProof.Rows
open AutoSeq1 (wpAny_loadPart')
section
variable {prog:Program}{w:World}{A:Around}{E:Value→Shared→Prop}{s:Shared}
theorem k4(t b:Addr)(ys:Array Value)(n n2:Nat)(dd dd2:Option Addr)(sl sl2:Array (Option Value)):
  Meets (Builtin.«tuple.__add__» ⟨[.ref t,.ref b],[]⟩) (fun _ R s=>s.heap.get? t=some ⟨.type "tuple",dd,.seq #[] n,sl⟩∧s.heap.get? b=some ⟨.type "tuple",dd2,.seq ys n2,sl2⟩∧R (.ok (.ret (.ref b))) s):=
 .of_wp fun prog w A R s h=>by
  obtain⟨hp,g,d,tk,os⟩:=s;obtain⟨hl,hb,h⟩:=h
  have f2:=AutoSeq1.sub_tuple_tuple
  wp_walk using wpAny_loadPart' hl,wpAny_loadPart' hb
  exact⟨_,rfl,h⟩
theorem k8{t b:Addr}{ws:List Value}{Q:Value→Shared→Prop}(ht:IsTup s.heap t #[])(hb:IsTup s.heap b ws.toArray)(q:Q (.ref b) s):wpAny (model prog w) A (binaryOp .Add (.ref t) (.ref b)) Q E s:=by
 obtain⟨⟨cls,dd,data,sl⟩,ho,hc,n,hd⟩:=id ht
 obtain⟨⟨cls2,dd2,data2,sl2⟩,ho2,hc2,n2,hd2⟩:=id hb
 simp only at hc hd hc2 hd2
 subst hc hd hc2 hd2
 exact concat_meets ⟨_,ho,rfl⟩ ⟨_,ho2,rfl⟩ noFill_tuple_add seq_tuple_add PySem.F.slot_tuple_add PySem.F.entry_tuple_add (PySem.F.args_tuple_add_2 _ _) (k4 t b ws.toArray n n2 dd dd2 sl sl2) ⟨ho,ho2,q⟩
open HT in
theorem zN{t sl:Addr}{its:Array Value}{vl vu:Value}{lo hi:Option Int}{Q:Value→Shared→Prop}(ht:IsTup s.heap t its)(hs:s.heap.IsSliceOf sl vl vu .none)(pl:IsPart vl lo)(pu:IsPart vu hi)(hw:sIx its.size 0 lo=0∧sIx its.size its.size hi=its.size)(q:Q (.ref t) s):
  wpAny (model prog w) A (getItem (.ref t) (.ref sl)) Q E s:=by
 obtain⟨os,hos,hcs,hds⟩:=id hs
 have hTs:s.TypeIs (.ref sl) "slice":=⟨os,hos,hcs⟩
 unfold getItem
 try with_reducible refine wpAny_holding ?_
 first|refine wpAny_bind (wpAny_pure ?_)|skip
 refine wpAny_bind (wpAny_sequenceKey ht.typeIs (by decide) ?_)
 refine wpAny_bind (wpAny_callSpecial?_slot (name:=Str.ofString "__getitem__") ht.typeIs PyProof.Rows.slot_tuple_getitem (wpAny_call_entry PyProof.Rows.slot_tuple_getitem ht.typeIs entry_tuple_getitem ?_ (args_tuple_getitem _ _)))
 show wpAny _ _ (Builtin.Tuple.tupleItemsOf (.ref t)>>=_) _ _ s;refine wpAny_bind (tupleItemsOf_ ht ?_)
 refine wpAny_bind (wpAny_typeOf hTs ?_);rw[if_pos (by decide)];refine wpAny_bind (Zu hs pl pu ?_)
 rw[hw.1,hw.2]
 show wpAny _ _ (if(((0:Nat):Int)==0&&(1:Int)==1&&(its.size-0)==its.size)=true then _ else _) _ _ s;rw[if_pos (by simp)]
 obtain⟨⟨cls,dd,data,sl'⟩,ho,hc,n,hd⟩:=id ht
 simp only at hc hd
 subst hc hd
 wp_walk using wpAny_loadPart' ho
 exact⟨_,rfl,wpAny_pure q⟩
end
section
variable {X:Cx}
theorem k9:OpR X (binaryOp .Add) (fun x y H Q=>∃a b ys,x=.ref a∧y=.ref b∧Rd H a (.tup [])∧Rd H b (.tup ys)∧Q (.ref b) H):=by
 intro pins s σ H x y v u Q I rx ry h
 obtain⟨a,b,ys,rfl,rfl,ha,hb,q⟩:=h
 cases rx
 cases ry
 obtain⟨its,r1,p1,_⟩:=I.tuple (.inl ha)
 obtain⟨its2,r2,p2,_⟩:=I.tuple (.inl hb)
 obtain rfl:its=[]:=r1.Vm.mpr rfl
 exact k8 p1 p2 ⟨.ref b,H,I,rfl,q⟩
def We:R2:=fun x y H Q=>∃a b xs ys,x=.ref a∧y=.ref b∧Rd H a (.tup xs)∧Rd H b (.tup ys)∧xs.length+ys.length≤sizeLine∧(xs=[]→Q (.ref b) H)∧(xs≠[]→ys=[]→Q (.ref a) H)∧(xs≠[]→ys≠[]→∀p,H p=none→Q (.ref p) (upd H p (.tup (xs++ys))))
theorem J4:OpR X (binaryOp .Add) We:=by
 intro pins s σ H x y v u Q I rx ry h
 obtain⟨a,b,xs,ys,rfl,rfl,ha,hb,hz,q0,q1,q2⟩:=h
 by_cases hx:xs=[]
 ·subst hx
  exact k9 pins s σ H _ _ v u Q I rx ry ⟨a,b,ys,rfl,rfl,ha,hb,q0 rfl⟩
 ·exact vD pins s σ H _ _ v u Q I rx ry ⟨a,b,xs,ys,rfl,rfl,.inl ha,.inl hb,hx,hz,q1 hx,q2 hx⟩
theorem We.deep{x y:V}{H:Hp}{Q:VK}{ds es:List Dv}(hx:Deep H x (.tup ds))(hy:Deep H y (.tup es))(hz:ds.length+es.length≤sizeLine)(k:∀v H',Qg H H'→Deep H' v (.tup (ds++es))→Q v H'):We x y H Q:=by
 obtain⟨a,xs,rfl,h1,t1⟩:=hx.Xy
 obtain⟨b,ys,rfl,h2,t2⟩:=hy.Xy
 have l1:=t1.length
 have l2:=t2.length
 refine⟨a,b,xs,ys,rfl,rfl,.inl h1,.inl h2,by omega,fun z=>?_,fun _ z=>?_,fun _ _ p hp=>?_⟩
 ·subst z
  obtain rfl:ds=[]:=List.length_eq_zero_iff.mp l1.symm
  exact k _ _ (Qg.refl _) hy
 ·subst z
  obtain rfl:es=[]:=List.length_eq_zero_iff.mp l2.symm
  rw[List.append_nil]at k
  exact k _ _ (Qg.refl _) hx
 ·have S:=Qg.new (o:=.tup (xs++ys)) hp
  exact k _ _ S (.tup Qc ((t1.same S).append (t2.same S)))
theorem Qt:IxR X (fun x y H Q=>∃p xs i v,x=.ref p∧y=.int i∧Rd H p (.tup xs)∧atI xs i=some v∧Q v H):=fun value slice pins s σ H x y v u Q I rx ry⟨p,xs,i,z,e1,e2,hq,he,q⟩ hs=>Ye value slice pins s σ H x y v u Q I rx ry ⟨p,xs,i,z,e1,e2,.inl hq,he,q⟩ hs
theorem KD:IxR X (fun x y H Q=>∃p xs i v,x=.ref p∧y=.int i∧Rd H p (.lst xs)∧atI xs i=some v∧Q v H):=fun value slice pins s σ H x y v u Q I rx ry⟨p,xs,i,z,e1,e2,hq,he,q⟩ hs=>Y7 value slice pins s σ H x y v u Q I rx ry ⟨p,xs,i,z,e1,e2,.inl hq,he,q⟩ hs
def zO:V→Option Int→Option Int→Hp→VK→Prop:=fun x lo hi H Q=>∃a xs,x=.ref a∧Rd H a (.tup xs)∧((HT.sIx xs.length 0 lo=0∧HT.sIx xs.length xs.length hi=xs.length)→Q (.ref a) H)∧(¬ (HT.sIx xs.length 0 lo=0∧HT.sIx xs.length xs.length hi=xs.length)→∀p,H p=none→Q (.ref p) (upd H p (.tup (YT xs lo hi))))
theorem X0:SlR X zO:=by
 intro pins s σ H x v vl vu lo hi sl Q I rx hs pl pu h
 obtain⟨a,xs,rfl,hx,q1,q2⟩:=h
 by_cases hw:HT.sIx xs.length 0 lo=0∧HT.sIx xs.length xs.length hi=xs.length
 ·cases rx
  obtain⟨its,r,ht,hz⟩:=I.tuple (.inl hx)
  have hlen:its.toArray.size=xs.length:=by rw[List.size_toArray];exact r.length.symm
  exact⟨"tuple",_,PyProof.Rows.slot_tuple_getitem.lookup,ht.typeIs,zN ht hs pl pu (by rw[hlen];exact hw) ⟨.ref a,H,I,rfl,q1 hw⟩⟩
 ·exact yY pins s σ H (.ref a) v vl vu lo hi sl Q I rx hs pl pu ⟨a,xs,rfl,.inl hx,hw,q2 hw⟩
theorem qh(xs:List V)(a c:Nat):YT xs (some (a:Int)) (some (c:Int))=(xs.take c).drop a:=by
 unfold YT
 rw[HT.Zk,HT.Zk,List.drop_take]
 by_cases h:a≤xs.length
 ·rw[show min a xs.length=a by omega]
  apply List.ext_getElem?
  intro i
  rw[List.getElem?_take,List.getElem?_take]
  by_cases h1:i<min c xs.length-a
  ·rw[if_pos h1,if_pos (by omega)]
  ·rw[if_neg h1]
   by_cases h2:i<c-a
   ·rw[if_pos h2,List.getElem?_drop,List.getElem?_eq_none (by omega)]
   ·rw[if_neg h2]
 ·rw[show min a xs.length=xs.length by omega,List.drop_length,List.take_nil,List.drop_of_length_le (by omega),List.take_nil]
theorem zO.deep{x:V}{lo:Nat}{hi:Nat}{H:Hp}{Q:VK}{ds:List Dv}(hx:Deep H x (.tup ds))(k:∀v H',Qg H H'→Deep H' v (.tup ((ds.take hi).drop lo))→Q v H'):zO x (some (lo:Int)) (some (hi:Int)) H Q:=by
 obtain⟨a,xs,rfl,h1,t1⟩:=hx.Xy
 have l1:=t1.length
 refine⟨a,xs,rfl,.inl h1,fun z=>?_,fun _ p hp=>?_⟩
 ·rw[HT.Zk,HT.Zk]at z
  refine k _ _ (Qg.refl _) ?_
  have e:(ds.take hi).drop lo=ds:=by
   by_cases h0:ds=[]
   ·rw[h0];simp
   ·have:0<ds.length:=List.length_pos_iff.mpr h0
    rw[List.take_of_length_le (by omega),show lo=0 by omega,List.drop_zero]
  rw[e]
  exact hx
 ·have S:=Qg.new (o:=.tup (YT xs (some (lo:Int)) (some (hi:Int)))) hp
  have t2:Deeps H (YT xs (some (lo:Int)) (some (hi:Int))) ((ds.take hi).drop lo):=by
   rw[qh]
   exact(t1.take hi).drop lo
  exact k _ _ S (.tup Qc (t2.same S))
theorem qi(z:Str)(ys:List Str):inV (.str z) (ys.map V.str)=ys.contains z:=by
 unfold inV
 rw[List.any_map,List.contains_eq_any_beq]
 congr 1
 funext y
 show(y==z)=(z==y)
 by_cases e:y=z
 ·subst e;rfl
 ·rw[beq_eq_false_iff_ne.mpr e,beq_eq_false_iff_ne.mpr (fun q=>e q.symm)]
theorem wQ:OpR X (compareOp .In) (fun x y H Q=>∃(p:Addr)(ys:List Str)(z:Str),x=.str z∧y=.ref p∧Rd H p (.tup (ys.map V.str))∧Q (.bl (ys.contains z)) H):=fun pins s σ H x y v u Q I rx ry⟨p,ys,z,e1,e2,hq,q⟩=>j9 pins s σ H x y v u Q I rx ry ⟨p,_,e2,.inr (.inl hq),by rw[e1];rfl,Wa ys,by rw[e1,if_neg (by decide),qi];exact q⟩
theorem YB:OpR X (compareOp .NotIn) (fun x y H Q=>∃(p:Addr)(ys:List Str)(z:Str),x=.str z∧y=.ref p∧Rd H p (.tup (ys.map V.str))∧Q (.bl (!ys.contains z)) H):=fun pins s σ H x y v u Q I rx ry⟨p,ys,z,e1,e2,hq,q⟩=>Yh pins s σ H x y v u Q I rx ry ⟨p,_,e2,.inr (.inl hq),by rw[e1];rfl,Wa ys,by rw[e1,if_pos rfl,qi];exact q⟩
theorem W9:MtR X "tuple.index" (fun x vs H Q=>∃(l:Addr)(ys:List Str)(y:Str)(j:Nat),x=.ref l∧vs=[.str y]∧Rd H l (.tup (ys.map V.str))∧ys[j]? =some y∧(∀i,i<j→ys[i]? ≠some y)∧Q (.int (j:Nat)) H):=fun pins s σ H x vs v us Q I rx rv⟨l,ys,y,j,e1,e2,hq,hj,hno,q⟩=>zL pins s σ H x vs v us Q I rx rv ⟨l,ys,y,j,e1,e2,.inl hq,hj,hno,q⟩
def tyD:Dv→String
 | .non=>"NoneType"
 | .bl _=>"bool"
 | .int _=>"int"
 | .str _=>"str"
 | .tup _=>"tuple"
end
theorem Deep.ty{K:PySem.W.Frag}{H:Hp}{v:V}{d:Dv}(h:Deep H v d):TyOf K H v (.type (tyD d)):=by
 cases h with
 |non=>exact .non
 |bl=>exact .bl _
 |int=>exact .int _
 |str=>exact .str _
 |tup h t=>exact .tup h
end L2
set_option linter.all false
namespace K01
def ten(m:Int):Int:=10^m.toNat
def YU(i:Int):Int:=if i<0 then-i else i
def wR(a b:Int):Int:=if decide (a<0) !=decide (b<0)then-(YU a/YU b)else YU a/YU b
def Qaw(u o p:Int):Int:=wR (u*ten (p-o)) (ten (o-p))
theorem ZE(m:Int):0<ten m:=Int.pow_pos (by decide)
theorem zP{m:Int}(h:m≤0):ten m=1:=by
 unfold ten
 rw[Int.toNat_of_nonpos h]
 rfl
theorem zQ{a b:Int}(ha:0≤a)(hb:0≤b):ten (a+b)=ten a*ten b:=by
 unfold ten
 rw[Int.toNat_add ha hb,Int.pow_add]
theorem wa{i t:Int}(ht:0<t):YU (i*t)=YU i*t:=by
 unfold YU
 by_cases h:i<0
 ·rw[if_pos h,if_pos (Int.mul_neg_of_neg_of_pos h ht),Int.neg_mul]
 ·rw[if_neg h,if_neg (Int.not_lt.mpr (Int.mul_nonneg (Int.not_lt.mp h) (Int.le_of_lt ht)))]
theorem Up{t:Int}(ht:0<t):YU t=t:=by unfold YU;rw[if_neg (by omega)]
theorem lt_mul{i t:Int}(ht:0<t):decide (i*t<0)=decide (i<0):=by
 by_cases h:i<0
 ·rw[decide_eq_true h,decide_eq_true (Int.mul_neg_of_neg_of_pos h ht)]
 ·rw[decide_eq_false h,decide_eq_false (Int.not_lt.mpr (Int.mul_nonneg (Int.not_lt.mp h) (Int.le_of_lt ht)))]
theorem wb{u t b:Int}(ht:0<t)(hb:0<b):wR (u*t) b=if u<0 then-(YU u*t/b)else YU u*t/b:=by
 unfold wR
 rw[lt_mul ht,wa ht,Up hb,decide_eq_false (Int.not_lt.mpr (Int.le_of_lt hb))]
 by_cases h:u<0
 ·rw[decide_eq_true h,if_pos h];rfl
 ·rw[decide_eq_false h,if_neg h];rfl
theorem wS{u o p:Int}(h:o≤p):Qaw u o p=u*ten (p-o):=by
 unfold Qaw
 rw[zP (show o-p≤0 by omega),wb (ZE _) (by decide),Int.ediv_one]
 unfold YU
 split
 ·rw[Int.neg_mul];omega
 ·rfl
theorem qj{u o p:Int}(h1:o≤p)(h2:p≤18):u*ten (p-o)*ten (18-p)=u*ten (18-o):=by
 rw[Int.mul_assoc, ←zQ (by omega) (by omega),show p-o+(18-p)=18-o by omega]
theorem wc{a b t:Int}(ht:0<t):(a*t=b*t)↔a=b:=⟨fun h=>Int.eq_of_mul_eq_mul_right (Int.ne_of_gt ht) h,fun h=>by rw[h]⟩
theorem Qax{a b:Int}(h:a≤b)(hb:0≤b):ten a≤ten b:=by
 by_cases ha:0≤a
 ·rw[show b=a+(b-a) by omega,zQ ha (by omega)]
  have:=ZE (b-a)
  have h2:=ZE a
  calc ten a=ten a*1:=(Int.mul_one _).symm
   _≤ten a*ten (b-a):=Int.mul_le_mul_of_nonneg_left (by omega) (Int.le_of_lt h2)
 ·rw[zP (by omega)]
  have:=ZE b
  omega
end K01
set_option Elab.async false
set_option linter.all false
set_option maxRecDepth 100000
namespace Lw
open PySem PySem.Spec PyProof.Rows L2
def top(i:Nat):Stmt:=PySem.Challenge.pw_boxmoves_k38_plans_and_rows.main.body.getD i (.Pass ⟨0,0,0,0⟩)
abbrev Vv:Stmt:=top 17
theorem Xz:FnScope ["many","power","turn"] ["many"] (Qd Vv):=⟨rfl,rfl,rfl,by decide+kernel,rfl,by decide+kernel,by decide+kernel⟩
abbrev s_same:Stmt:=top 20
theorem Vw:FnScope ["one","other","first","second","places"] ["one","other"] (Qd s_same):=⟨rfl,rfl,rfl,by decide+kernel,rfl,by decide+kernel,by decide+kernel⟩
abbrev Uq:Stmt:=top 21
theorem KE:FnScope ["one","other","first","second","places"] ["one","other"] (Qd Uq):=⟨rfl,rfl,rfl,by decide+kernel,rfl,by decide+kernel,by decide+kernel⟩
abbrev vU:Stmt:=top 22
theorem zR:FnScope ["amount","places","units","own"] ["amount","places"] (Qd vU):=⟨rfl,rfl,rfl,by decide+kernel,rfl,by decide+kernel,by decide+kernel⟩
abbrev X1:Stmt:=top 23
theorem Wf:FnScope ["one","other","places"] ["one","other"] (Qd X1):=⟨rfl,rfl,rfl,by decide+kernel,rfl,by decide+kernel,by decide+kernel⟩
abbrev J5:Stmt:=top 24
theorem ZF:FnScope ["number","by","quotient"] ["number","by"] (Qd J5):=⟨rfl,rfl,rfl,by decide+kernel,rfl,by decide+kernel,by decide+kernel⟩
abbrev Wg:Stmt:=top 28
theorem je:FnScope ["thing"] ["thing"] (Qd Wg):=⟨rfl,rfl,rfl,by decide+kernel,rfl,by decide+kernel,by decide+kernel⟩
abbrev X2:Stmt:=top 29
theorem Ur:FnScope ["thing"] ["thing"] (Qd X2):=⟨rfl,rfl,rfl,by decide+kernel,rfl,by decide+kernel,by decide+kernel⟩
abbrev JB:Stmt:=inClass (top 34) 0
theorem XA:FnScope ["self","plan"] ["self","plan"] (Qd JB):=⟨rfl,rfl,rfl,by decide+kernel,rfl,by decide+kernel,by decide+kernel⟩
abbrev JH:Stmt:=inClass (top 34) 1
theorem X3:FnScope ["self"] ["self"] (Qd JH):=⟨rfl,rfl,rfl,by decide+kernel,rfl,by decide+kernel,by decide+kernel⟩
abbrev J2:Stmt:=inClass (top 34) 2
theorem Vx:FnScope ["self","row"] ["self","row"] (Qd J2):=⟨rfl,rfl,rfl,by decide+kernel,rfl,by decide+kernel,by decide+kernel⟩
abbrev JE:Stmt:=inClass (top 34) 3
theorem ZG:FnScope ["self","pages"] ["self"] (Qd JE):=⟨rfl,rfl,rfl,by decide+kernel,rfl,by decide+kernel,by decide+kernel⟩
abbrev JU:Stmt:=inClass (top 34) 4
theorem Kq:FnScope ["self"] ["self"] (Qd JU):=⟨rfl,rfl,rfl,by decide+kernel,rfl,by decide+kernel,by decide+kernel⟩
abbrev Q1:Stmt:=inClass (top 34) 5
theorem Z1:FnScope ["self"] ["self"] (Qd Q1):=⟨rfl,rfl,rfl,by decide+kernel,rfl,by decide+kernel,by decide+kernel⟩
abbrev Wh:Stmt:=top 35
theorem JO:FnScope ["thing","columns","keys","sums","long","used"] ["thing"] (Qd Wh):=⟨rfl,rfl,rfl,by decide+kernel,rfl,by decide+kernel,by decide+kernel⟩
abbrev Vy:Stmt:=top 36
theorem ZH:FnScope ["plan","thing","columns","keys","sums","long"] ["plan","thing"] (Qd Vy):=⟨rfl,rfl,rfl,by decide+kernel,rfl,by decide+kernel,by decide+kernel⟩
abbrev Vz:Stmt:=top 37
theorem JF:FnScope ["plan","rows","keys","lines","since","at","row","first"] ["plan","rows"] (Qd Vz):=⟨rfl,rfl,rfl,by decide+kernel,rfl,by decide+kernel,by decide+kernel⟩
abbrev VA:Stmt:=top 38
theorem Jg:FnScope ["plan","rows","lines","pages","amounts","start","top","end","body","line"] ["plan","rows"] (Qd VA):=⟨rfl,rfl,rfl,by decide+kernel,rfl,by decide+kernel,by decide+kernel⟩
abbrev Xg:Stmt:=top 39
theorem YC:FnScope ["thing"] ["thing"] (Qd Xg):=⟨rfl,rfl,rfl,by decide+kernel,rfl,by decide+kernel,by decide+kernel⟩
abbrev Xh:Stmt:=top 40
theorem YE:FnScope ["thing"] ["thing"] (Qd Xh):=⟨rfl,rfl,rfl,by decide+kernel,rfl,by decide+kernel,by decide+kernel⟩
abbrev Wi:Stmt:=top 41
theorem jf:FnScope ["thing"] ["thing"] (Qd Wi):=⟨rfl,rfl,rfl,by decide+kernel,rfl,by decide+kernel,by decide+kernel⟩
abbrev Wj:Stmt:=top 42
theorem jg:FnScope ["value"] ["value"] (Qd Wj):=⟨rfl,rfl,rfl,by decide+kernel,rfl,by decide+kernel,by decide+kernel⟩
abbrev X4:Stmt:=top 43
theorem Wl:FnScope ["plan","names","columns"] ["plan","names"] (Qd X4):=⟨rfl,rfl,rfl,by decide+kernel,rfl,by decide+kernel,by decide+kernel⟩
abbrev Wm:Stmt:=top 44
theorem jh:FnScope ["plan"] ["plan"] (Qd Wm):=⟨rfl,rfl,rfl,by decide+kernel,rfl,by decide+kernel,by decide+kernel⟩
abbrev X5:Stmt:=top 45
theorem Us:FnScope ["plan","amounts","row"] ["plan","amounts","row"] (Qd X5):=⟨rfl,rfl,rfl,by decide+kernel,rfl,by decide+kernel,by decide+kernel⟩
abbrev XB:Stmt:=top 46
theorem Jq:FnScope ["plan","rows","amounts","row"] ["plan","rows"] (Qd XB):=⟨rfl,rfl,rfl,by decide+kernel,rfl,by decide+kernel,by decide+kernel⟩
abbrev Zn:Stmt:=top 47
theorem J6:FnScope ["plan","one","other","level","at"] ["plan","one","other"] (Qd Zn):=⟨rfl,rfl,rfl,by decide+kernel,rfl,by decide+kernel,by decide+kernel⟩
abbrev X6:Stmt:=top 48
theorem Ut:FnScope ["one","other"] ["one","other"] (Qd X6):=⟨rfl,rfl,rfl,by decide+kernel,rfl,by decide+kernel,by decide+kernel⟩
abbrev zS:Stmt:=top 49
theorem Uu:FnScope ["plan","row","since","first","keys","values"] ["plan","row","since","first"] (Qd zS):=⟨rfl,rfl,rfl,by decide+kernel,rfl,by decide+kernel,by decide+kernel⟩
abbrev X7:Stmt:=top 50
theorem Wn:FnScope ["plan","page","amounts","head"] ["plan","page","amounts"] (Qd X7):=⟨rfl,rfl,rfl,by decide+kernel,rfl,by decide+kernel,by decide+kernel⟩
abbrev Zo:Stmt:=top 51
theorem WP:FnScope ["plan","is_last","amounts"] ["plan","is_last","amounts"] (Qd Zo):=⟨rfl,rfl,rfl,by decide+kernel,rfl,by decide+kernel,by decide+kernel⟩
abbrev JV:Stmt:=top 52
theorem Q4:FnScope ["plan","ahead","left","columns","keys","sums","long"] ["plan","ahead","left"] (Qd JV):=⟨rfl,rfl,rfl,by decide+kernel,rfl,by decide+kernel,by decide+kernel⟩
abbrev Uv:Stmt:=top 53
theorem KF:FnScope ["plan","lines","told","at","line"] ["plan","lines"] (Qd Uv):=⟨rfl,rfl,rfl,by decide+kernel,rfl,by decide+kernel,by decide+kernel⟩
abbrev J7:Stmt:=top 54
theorem Wo:FnScope ["plan","row"] ["plan","row"] (Qd J7):=⟨rfl,rfl,rfl,by decide+kernel,rfl,by decide+kernel,by decide+kernel⟩
abbrev Xi:Stmt:=top 56
theorem JG:FnScope ["_law_script","_law_town","_law_many","_law_at","_law_rest","_law_number"] ["_law_script","_law_town","_law_many"] (Qd Xi):=⟨rfl,rfl,rfl,by decide+kernel,rfl,by decide+kernel,by decide+kernel⟩
abbrev ZI:Stmt:=top 57
theorem VB:FnScope [] [] (Qd ZI):=⟨rfl,rfl,rfl,by decide+kernel,rfl,by decide+kernel,by decide+kernel⟩
abbrev Wp:Stmt:=top 58
theorem ji:FnScope ["_law_told","_law_due"] ["_law_told","_law_due"] (Qd Wp):=⟨rfl,rfl,rfl,by decide+kernel,rfl,by decide+kernel,by decide+kernel⟩
abbrev ZJ:Stmt:=top 59
theorem Q2:FnScope ["_law_kept","_law_kinds","_law_found"] ["_law_kept"] (Qd ZJ):=⟨rfl,rfl,rfl,by decide+kernel,rfl,by decide+kernel,by decide+kernel⟩
abbrev QZ:Stmt:=top 60
theorem Jk:FnScope ["_law_deed","_law_kept","_law_found","e"] ["_law_deed"] (Qd QZ):=⟨rfl,rfl,rfl,by decide+kernel,rfl,by decide+kernel,by decide+kernel⟩
abbrev Zp:Stmt:=top 61
theorem QR:FnScope ["_law_script","_law_town","_law_keys","_law_sums","_law_columns","_law_rows","_law_k","_law_row"] ["_law_script","_law_town"] (Qd Zp):=⟨rfl,rfl,rfl,by decide+kernel,rfl,by decide+kernel,by decide+kernel⟩
abbrev Xj:Stmt:=top 62
theorem Jh:FnScope ["_law_one","_law_two","_law_found","_law_first","_law_second","_law_far","_law_units"] ["_law_one","_law_two"] (Qd Xj):=⟨rfl,rfl,rfl,by decide+kernel,rfl,by decide+kernel,by decide+kernel⟩
abbrev JW:Stmt:=top 63
theorem QE:FnScope ["_law_plan","_law_columns","_law_keys","_law_sums","_law_size","_law_bad"] ["_law_plan"] (Qd JW):=⟨rfl,rfl,rfl,by decide+kernel,rfl,by decide+kernel,by decide+kernel⟩
abbrev Kr:Stmt:=top 64
theorem Ji:FnScope ["_law_script","_law_town","_law_plan","_law_columns","_law_keys","_law_sums","_law_size","_law_bad","_law_good","_law_row","_law_at","_law_odd","_law_other","_law_due","_law_pick","_law_fine","_law_total","_law_desk","_law_rows","_law_some"] ["_law_script"] (Qd Kr):=⟨rfl,rfl,rfl,by decide+kernel,rfl,by decide+kernel,by decide+kernel⟩
section
variable {P:Program}{w:World}{K:PySem.W.Frag}{mg:Str→Option Value}{base:Heap}{f:Addr}{fd:FuncData}
def vV:Sp:=fun vs H Q _=>∃m:Int,vs=[.int m]∧ -(2^62)≤m∧m<2^62∧Q (.int (K01.ten m)) H
theorem zT(F:Fun K "ten_to" "ten_to" Vv f fd)(O:Own mg):FnOk P w K mg base (CXE P w) 1 f fd ["many"] vV:=by
 refine okN F Xz (fun vs H Q E h=>?_) (fun cdv A outer s H vs Q E hr h=>?_)
 ·obtain⟨m,rfl,_⟩:=h
  rfl
 ·obtain⟨m,rfl,h1,h2,k⟩:=h
  refine⟨_,(Qe (Qu (i:=1) Xz.nd rfl (Or.inl rfl) Qf)
   (Qe (Xq PassesOwn.never rfl (V7 rfl O.range (Qa (pv 0) Qb)) (Qj (i:=2) Xz.nd rfl (Or.inl rfl)) (Qm (Qu (i:=1) Xz.nd rfl (Or.inl rfl) (QA jT (pv 1) Qf))))
   (Qm (QD (pv 1))))),?_⟩
  refine⟨_,rfl,m,rfl,h1,h2,jS (n:=m.toNat) (fun i σ H2=>∃v,σ=[some (.int m),some (.int (10^i)),v]∧H2=H) ⟨none,rfl,rfl⟩ ?_ ?_⟩
  ·rintro i σ H2 hi ⟨v,rfl,rfl⟩
   refine⟨_,rfl,_,_,rfl,rfl,.inr ⟨by decide,by decide⟩,?_⟩
   exact⟨_,by rw[Int.pow_succ];rfl,rfl⟩
  ·rintro σ H2 ⟨v,rfl,rfl⟩
   exact⟨_,rfl,k⟩
def zU:Sp:=fun vs H Q _=>∃a b:Int,vs=[.int a,.int b]∧b≠0∧b.natAbs<2^2000∧Q (.int (K01.wR a b)) H
theorem zV{b:Int}{n:Nat}(h:b.natAbs<n):(if b<0 then-b else b).natAbs<n:=by split<;>omega
theorem vW{b:Int}(h:b≠0):0<(if b<0 then-b else b):=by split<;>omega
theorem Wq(F:Fun K "quotient_cut" "quotient_cut" J5 f fd)(O:Own mg):FnOk P w K mg base (CXE P w) 1 f fd ["number","by"] zU:=by
 refine okN F ZF (fun vs H Q E h=>?_) (fun cdv A outer s H vs Q E hr h=>?_)
 ·obtain⟨a,b,rfl,_⟩:=h
  rfl
 ·obtain⟨a,b,rfl,h1,h2,k⟩:=h
  refine⟨_,(Qe (Qu (i:=2) ZF.nd rfl (Or.inl rfl) (QA kI (Qh U0 rfl O.abs PyProof.Rows.boot_abs (Qa (pv 0) Qb)) (Qh U0 rfl O.abs PyProof.Rows.boot_abs (Qa (pv 1) Qb))))
   (Qm (QD (J0 (QB Y4 (Jl vp (pv 0) Qf (Qz _)) (Jl vp (pv 1) Qf (Qz _)) (Qz _)) (vo jU (pv 2)) (pv 2))))),?_⟩
  refine⟨_,rfl,a,rfl,_,rfl,b,rfl,_,_,rfl,rfl,⟨vW h1,zV h2⟩,?_⟩
  refine⟨_,rfl,_,_,rfl,rfl,_,rfl,_,_,rfl,rfl,rfl,_,rfl,?_⟩
  refine ifB (fun z=>?_) (fun z=>?_)
  ·refine⟨_,rfl,_,rfl,?_⟩
   have e:K01.wR a b= -(K01.YU a/K01.YU b):=by unfold K01.wR;rw[if_pos (by rw[←Qan];exact z)]
   rw[e]at k
   exact k
  ·refine⟨_,rfl,?_⟩
   have e:K01.wR a b=K01.YU a/K01.YU b:=by unfold K01.wR;rw[if_neg (by rw[←Qan];exact fun q=>Bool.noConfusion (z.symm.trans q))]
   rw[e]at k
   exact k
structure Amt(K:PySem.W.Frag)(H:Hp)(a:Addr)(u o:Int):Prop where
 sq:SqT K H a [.int u,.int o]
 bd:u.natAbs<2^200
 lo:0≤o
 hi:o≤18
theorem Amt.same{H H':Hp}{a:Addr}{u o:Int}(A:Amt K H a u o)(e:Qg H H'):Amt K H' a u o:=⟨A.sq.same e,A.bd,A.lo,A.hi⟩
theorem XC{m:Int}(h:m≤40):(K01.ten m).natAbs<2^200:=by
 have h1:=K01.Qax (a:=m) (b:=40) h (by decide)
 have h2:=K01.ZE m
 have h3:K01.ten 40<2^200:=by decide
 omega
theorem big{a:Int}(h:a.natAbs<2^200):a.natAbs<2^2000:=Nat.lt_of_lt_of_le h (by decide)
def vX(K:PySem.W.Frag):Sp:=fun vs H Q _=>∃(a:Addr)(u o p:Int),vs=[.ref a,.int p]∧Amt K H a u o∧0≤p∧p≤18∧∀q,H q=none→Q (.ref q) (upd H q (.tup [.int (K01.Qaw u o p),.int p]))
theorem Qay(F:Fun K "cut" "cut" vU f fd)(O:Own mg)(D_ten_to:Def P w K mg base 1 "ten_to" ["many"] vV)(D_quotient_cut:Def P w K mg base 1 "quotient_cut" ["number","by"] zU):FnOk P w K mg base (CXE P w) 2 f fd ["amount","places"] (vX K):=by
 refine okN F zR (fun vs H Q E h=>?_) (fun cdv A outer s H vs Q E hr h=>?_)
 ·obtain⟨a,u,o,p,rfl,_⟩:=h
  rfl
 ·obtain⟨a,u,o,p,rfl,M,h1,h2,k⟩:=h
  have b1:=M.lo
  have b2:=M.hi
  refine⟨_,(Qe (Zb (pv 0) (Jy rfl (Qk (Qj (i:=2) zR.nd rfl (Or.inl rfl)) (Qk (Qj (i:=3) zR.nd rfl (Or.inl rfl)) QX))))
   (Qm (QD (Qv (Qa (D_quotient_cut.pe hr (by decide) rfl Qn (Qa (QA Ue (pv 2) (D_ten_to.pe hr (by decide) rfl Qn (Qa (QA Zc (pv 1) (pv 3)) Qb))) (Qa (D_ten_to.pe hr (by decide) rfl Qn (Qa (QA Zc (pv 3) (pv 1)) Qb)) Qb))) (Qa (pv 1) Qb)))))),?_⟩
  refine⟨_,rfl,a,_,rfl,M.sq,rfl,_,_,rfl,_,_,rfl,rfl,?_⟩
  refine⟨_,rfl,_,rfl,_,rfl,_,_,rfl,rfl,_,rfl,by omega,by omega,_,_,rfl,rfl,⟨big M.bd,big (XC (by omega))⟩,?_⟩
  refine⟨_,rfl,_,rfl,_,_,rfl,rfl,_,rfl,by omega,by omega,?_⟩
  refine⟨_,_,rfl,Int.ne_of_gt (K01.ZE _),big (XC (by omega)),?_⟩
  exact⟨_,rfl,by show 2≤sizeLine;decide,k⟩
def mx(o o':Int):Int:=if o'>o then o' else o
theorem Qaz(o o':Int):o≤mx o o':=by unfold mx;split<;>omega
theorem Qa4(o o':Int):o'≤mx o o':=by unfold mx;split<;>omega
theorem zW{o o' n:Int}(h1:o≤n)(h2:o'≤n):mx o o'≤n:=by unfold mx;split<;>omega
def VC(K:PySem.W.Frag):Sp:=fun vs H Q _=>∃(a b:Addr)(u o v o':Int),vs=[.ref a,.ref b]∧Amt K H a u o∧Amt K H b v o'∧
 ∀q H',Qg H H'→H q=none→H' q=some (.tup [.int (u*K01.ten (mx o o'-o)),.int (v*K01.ten (mx o o'-o')),.int (mx o o')])→Q (.ref q) H'
theorem Uw(F:Fun K "lined_up" "lined_up" X1 f fd)(O:Own mg)(D_cut:Def P w K mg base 2 "cut" ["amount","places"] (vX K)):FnOk P w K mg base (CXE P w) 3 f fd ["one","other"] (VC K):=by
 refine okN F Wf (fun vs H Q E h=>?_) (fun cdv A outer s H vs Q E hr h=>?_)
 ·obtain⟨a,b,u,o,v,o',rfl,_⟩:=h
  rfl
 ·obtain⟨a,b,u,o,v,o',rfl,M1,M2,k⟩:=h
  have b1:=M1.lo
  have b2:=Qaz o o'
  have b3:=zW M1.hi M2.hi
  refine⟨_,(Qe (Qu (i:=2) Wf.nd rfl (Or.inl rfl) (Qh (KQ rfl) rfl O.max PyProof.Rows.boot_max (Qa (QT Ye (pv 0) Qf (fun _ _=>rfl)) (Qa (QT Ye (pv 1) Qf (fun _ _=>rfl)) Qb))))
   (Qm (QD (Qv (Qa (QT Ye (D_cut.pe hr (by decide) rfl Qn (Qa (pv 0) (Qa (pv 2) Qb))) Qf (fun _ _=>rfl)) (Qa (QT Ye (D_cut.pe hr (by decide) rfl Qn (Qa (pv 1) (Qa (pv 2) Qb))) Qf (fun _ _=>rfl)) (Qa (pv 2) Qb))))))),?_⟩
  refine⟨_,rfl,a,_,_,_,rfl,rfl,M1.sq,rfl,_,rfl,b,_,_,_,rfl,rfl,M2.sq,rfl,o,o',rfl,?_⟩
  refine⟨_,rfl,_,rfl,a,u,o,mx o o',rfl,M1,by omega,b3,fun q1 h1=>⟨q1,_,_,_,rfl,rfl,SqT.of Qc,rfl,?_⟩⟩
  refine⟨_,rfl,_,rfl,b,v,o',mx o o',rfl,M2.same (Qg.new h1),by omega,b3,fun q2 h2=>⟨q2,_,_,_,rfl,rfl,SqT.of Qc,rfl,?_⟩⟩
  refine⟨_,rfl,by show 3≤sizeLine;decide,fun q3 h3=>?_⟩
  have s12:Qg H (upd (upd H q1 (.tup [.int (K01.Qaw u o (mx o o')),.int (mx o o')])) q2 (.tup [.int (K01.Qaw v o' (mx o o')),.int (mx o o')])):=(Qg.new h1).trans (Qg.new h2)
  refine k q3 _ (s12.trans (Qg.new h3)) (s12.free h3) ?_
  rw[Qc,K01.wS (Qaz o o'),K01.wS (Qa4 o o')]
  rfl
def zX(K:PySem.W.Frag):Sp:=fun vs H Q _=>∃(a b:Addr)(u o v o':Int),vs=[.ref a,.ref b]∧Amt K H a u o∧Amt K H b v o'∧
 ∀H',Qg H H'→Q (.bl (decide (u*K01.ten (18-o)=v*K01.ten (18-o')))) H'
def vY(K:PySem.W.Frag)(g:Int→Int→Int):Sp:=fun vs H Q _=>∃(a b:Addr)(u o v o':Int),vs=[.ref a,.ref b]∧Amt K H a u o∧Amt K H b v o'∧
 ∀q H' z,Qg H H'→H q=none→H' q=some (.tup [.int z,.int (mx o o')])→z=g (u*K01.ten (mx o o'-o)) (v*K01.ten (mx o o'-o'))→Q (.ref q) H'
theorem up_eq{u o v o':Int}(h1:o≤18)(h2:o'≤18):(u*K01.ten (mx o o'-o)=v*K01.ten (mx o o'-o'))↔u*K01.ten (18-o)=v*K01.ten (18-o'):=by
 rw[←K01.qj (u:=u) (Qaz o o') (zW h1 h2), ←K01.qj (u:=v) (Qa4 o o') (zW h1 h2)]
 exact(K01.wc (K01.ZE _)).symm
theorem vZ(F:Fun K "same" "same" s_same f fd)(D_lined_up:Def P w K mg base 3 "lined_up" ["one","other"] (VC K)):FnOk P w K mg base (CXE P w) 4 f fd ["one","other"] (zX K):=by
 refine okN F Vw (fun vs H Q E h=>?_) (fun cdv A outer s H vs Q E hr h=>?_)
 ·obtain⟨a,b,u,o,v,o',rfl,_⟩:=h
  rfl
 ·obtain⟨a,b,u,o,v,o',rfl,M1,M2,k⟩:=h
  refine⟨_,(Qe (Zb (D_lined_up.pe hr (by decide) rfl Qn (Qa (pv 0) (Qa (pv 1) Qb))) (Jy rfl (Qk (Qj (i:=2) Vw.nd rfl (Or.inl rfl)) (Qk (Qj (i:=3) Vw.nd rfl (Or.inl rfl)) (Qk (Qj (i:=4) Vw.nd rfl (Or.inl rfl)) QX)))))
   (Qm (QD (Jl Xr (pv 2) (pv 3) (Qz _))))),?_⟩
  refine⟨_,rfl,_,rfl,a,b,u,o,v,o',rfl,M1,M2,fun q H' e hq ht=>⟨q,_,rfl,SqT.of ht,rfl,_,_,rfl,_,_,rfl,_,_,rfl,rfl,?_⟩⟩
  refine⟨_,rfl,_,rfl,rfl,?_⟩
  have z:=k H' e
  rw[←decide_eq_decide.mpr (up_eq M1.hi M2.hi), ←vM]at z
  exact z
theorem wd(F:Fun K "added" "added" Uq f fd)(D_lined_up:Def P w K mg base 3 "lined_up" ["one","other"] (VC K)):FnOk P w K mg base (CXE P w) 4 f fd ["one","other"] (vY K fun x y=>x+y):=by
 refine okN F KE (fun vs H Q E h=>?_) (fun cdv A outer s H vs Q E hr h=>?_)
 ·obtain⟨a,b,u,o,v,o',rfl,_⟩:=h
  rfl
 ·obtain⟨a,b,u,o,v,o',rfl,M1,M2,k⟩:=h
  refine⟨_,(Qe (Zb (D_lined_up.pe hr (by decide) rfl Qn (Qa (pv 0) (Qa (pv 1) Qb))) (Jy rfl (Qk (Qj (i:=2) KE.nd rfl (Or.inl rfl)) (Qk (Qj (i:=3) KE.nd rfl (Or.inl rfl)) (Qk (Qj (i:=4) KE.nd rfl (Or.inl rfl)) QX)))))
   (Qm (QD (Qv (Qa (QA Z5 (pv 2) (pv 3)) (Qa (pv 4) Qb)))))),?_⟩
  refine⟨_,rfl,_,rfl,a,b,u,o,v,o',rfl,M1,M2,fun q H' e hq ht=>⟨q,_,rfl,SqT.of ht,rfl,_,_,rfl,_,_,rfl,_,_,rfl,rfl,?_⟩⟩
  refine⟨_,rfl,_,rfl,_,_,rfl,rfl,_,rfl,by show 2≤sizeLine;decide,fun q2 h2=>?_⟩
  exact k q2 _ _ (e.trans (Qg.new h2)) (e.free h2) Qc rfl
end
end Lw
set_option Elab.async false
set_option linter.all false
set_option maxRecDepth 100000
namespace L2
open PySem PySem.Spec PyProof.Rows
section
variable {J:It}{n:Nat}{Ok:Hp→Prop}{item:Nat→Hp→V→Hp→Prop}{wi:TI}{g:TG}{te:TE}{Q:VK}{σ:St}{H:Hp}{K:PySem.W.Frag}
end
theorem Qcu{z:Str}:Fix (Its z) z.cps.size (fun _=>True) (fun i H v H'=>H'=H∧∃c,z.cps[i]? =some c∧v=.str ⟨#[c]⟩):=⟨fun i H _ h=>h,fun H _=>Nat.le_refl _,fun i H v H' _ _ y=>y⟩
end L2
set_option Elab.async false
set_option linter.all false
set_option maxRecDepth 100000
namespace Lw
open PySem PySem.Spec PyProof.Rows L2
open Builtin Builtin.Str StrLaws
inductive Cell where
 |txt (x:Str)|amt (u o:Int)
def Cell.dv:Cell→Dv
 | .txt x=>.str x
 | .amt u o=>.tup [.int u,.int o]
structure Kit(K:PySem.W.Frag):Prop where
 st:PySem.W.kitOne K (.type "str") (.type "tuple")=some false
 tt:PySem.W.kitOne K (.type "tuple") (.type "tuple")=some true
structure Txt(K:PySem.W.Frag)(mg:Str→Option Value)(tk:Nat→Tok)(c kr:Nat→Addr):Prop where
 m_BoxError:mg "BoxError"=some (.ref (c 0))
 m_NoPicture:mg "NoPicture"=some (.ref (c 1))
 m_NoRoom:mg "NoRoom"=some (.ref (c 2))
 m_NoQuotient:mg "NoQuotient"=some (.ref (c 3))
 m_NoText:mg "NoText"=some (.ref (c 4))
 m_NoFigures:mg "NoFigures"=some (.ref (c 5))
 m_NoLetters:mg "NoLetters"=some (.ref (c 6))
 m_NoMove:mg "NoMove"=some (.ref (c 7))
 m_NoPath:mg "NoPath"=some (.ref (c 8))
 m_NoAmount:mg "NoAmount"=some (.ref (c 9))
 m_NoGroup:mg "NoGroup"=some (.ref (c 10))
 m_BadSize:mg "BadSize"=some (.ref (c 11))
 m_NoBack:mg "NoBack"=some (.ref (c 12))
 m_BadRow:mg "BadRow"=some (.ref (c 13))
 m_Closed:mg "Closed"=some (.ref (c 14))
 m_MOST_PLACES:mg "MOST_PLACES"=some (.int 18 (tk 0))
 m_SMALL_LETTERS:mg "SMALL_LETTERS"=some (.str "abcdefghijklmnopqrstuvwxyz" (tk 1))
 m_LONGEST_NAME:mg "LONGEST_NAME"=some (.int 12 (tk 2))
 m_SHORTEST_PAGE:mg "SHORTEST_PAGE"=some (.int 6 (tk 3))
 m_FIRST_SIGN:mg "FIRST_SIGN"=some (.str " " (tk 4))
 m_LAST_SIGN:mg "LAST_SIGN"=some (.str "~" (tk 5))
 e_BadRow:Err K (c 13)
 e_Closed:Err K (c 14)
def Zv(x:Str):Bool:=decide (1≤x.length)&&decide (x.length≤12)&&decide (V.str (Txt.stripChars x "abcdefghijklmnopqrstuvwxyz")=V.str "")
theorem wT{r:List V→Hp→VK→Prop}{t:TA}{σ:L2.St}{H:Hp}{Q:Bool→Hp→Prop}(h:tCB r t σ H fun x H1=>∃k,x=.bl k∧Q (!k) H1):Qa8 (tB (tCB r t)) σ H Q:=h
section
variable {P:Program}{w:World}{K:PySem.W.Frag}{mg:Str→Option Value}{base:Heap}{f:Addr}{fd:FuncData}{tk:Nat→Tok}
def Cell.QbD:Cell→Bool
 | .txt _=>false
 | .amt _ _=>true
theorem qk{H:Hp}{v:V}{u o:Int}(h:Deep H v (Cell.amt u o).dv):∃a,v=.ref a∧H a=some (.tup [.int u,.int o]):=by
 obtain⟨a,xs,rfl,h1,t⟩:=Deep.Xy h
 cases t with
 |cons p t=>
  cases t with
  |cons q t=>
   cases t
   obtain rfl:=p.vT
   obtain rfl:=q.vT
   exact⟨a,rfl,h1⟩
def VD:Sp:=fun vs H Q _=>∃(v:V)(c:Cell),vs=[v]∧Deep H v c.dv∧Q (.bl c.QbD) H
theorem jk(F:Fun K "is_pair" "is_pair" Wj f fd)(O:Own mg)(OT:mg "tuple"=none)(KT:Kit K):FnOk P w K mg base (CXE P w) 1 f fd ["value"] VD:=by
 refine okN F jg (fun vs H Q E h=>?_) (fun cdv A outer s H vs Q E hr h=>?_)
 ·obtain⟨v,c,rfl,_⟩:=h
  rfl
 ·obtain⟨v,c,rfl,D,k⟩:=h
  refine⟨_,(Qm (QD (Qh Qx rfl O.isi PyProof.Rows.boot_isinstance (Qa (pv 0) (Qa (JQ (v:=V.ty "tuple") rfl OT PyProof.Rows.boot_tuple rfl) Qb))))),?_⟩
  cases c with
  |txt x=>exact⟨_,rfl,_,_,false,rfl,rfl,.inl ⟨_,D.ty,KT.st⟩,k⟩
  |amt u o=>exact⟨_,rfl,_,_,true,rfl,rfl,.inl ⟨_,D.ty,KT.tt⟩,k⟩
def QbE(c:Nat):Bool:=decide (c<128)&& !decide (([c]:List Nat)<[32])&& !decide (([126]:List Nat)<[c])
def textOk(x:Str):Bool:=x.cps.toList.all QbE&&decide (x.length≤100)
structure Plan where
 cols:List Str
 keys:List Str
 sums:List Str
 size:Int
def JM(π:Plan):Dv:=.tup [.tup (txD π.cols),.tup (txD π.keys),.tup (txD π.sums),.int π.size]
structure PlanOk(π:Plan):Prop where
 nc:π.cols.all Zv=true
 nk:π.keys.all Zv=true
 ns:π.sums.all Zv=true
 mc:many π.cols=π.cols.length
 my:many π.keys=π.keys.length
 ms:many π.sums=π.sums.length
 mu:many (π.keys++π.sums)=(π.keys++π.sums).length
 sub:(π.keys++π.sums).all (fun x=>π.cols.contains x)=true
 pos:π.cols≠[]
 sz:6≤π.size
 lc:π.cols.length≤100
 lu:(π.keys++π.sums).length≤100
structure PlanAt(H:Hp)(v:V)(π:Plan)(a ac ak as:Addr):Prop where
 v:v=.ref a
 a:H a=some (.tup [.ref ac,.ref ak,.ref as,.int π.size])
 c:H ac=some (.tup (π.cols.map V.str))
 k:H ak=some (.tup (π.keys.map V.str))
 s:H as=some (.tup (π.sums.map V.str))
theorem PlanAt.same{H H':Hp}{v:V}{π:Plan}{a ac ak as:Addr}(h:PlanAt H v π a ac ak as)(S:Qg H H'):PlanAt H' v π a ac ak as:=⟨h.v,S _ _ h.a,S _ _ h.c,S _ _ h.k,S _ _ h.s⟩
theorem jl{H:Hp}{v:V}{ys:List Str}(h:Deep H v (.tup (txD ys))):∃a,v=.ref a∧H a=some (.tup (ys.map V.str)):=by
 obtain⟨a,xs,rfl,g,t⟩:=h.Xy
 rw[t.strs]at g
 exact⟨a,rfl,g⟩
theorem Ju{H:Hp}{v:V}{π:Plan}(h:Deep H v (JM π)):∃a ac ak as,PlanAt H v π a ac ak as:=by
 obtain⟨a,xs,rfl,g,t⟩:=Deep.Xy h
 cases t with
 |cons p1 t=>
  cases t with
  |cons p2 t=>
   cases t with
   |cons p3 t=>
    cases t with
    |cons p4 t=>
     cases t
     obtain⟨ac,rfl,g1⟩:=jl p1
     obtain⟨ak,rfl,g2⟩:=jl p2
     obtain⟨as,rfl,g3⟩:=jl p3
     obtain rfl:=p4.vT
     exact⟨a,ac,ak,as,rfl,g,g1,g2,g3⟩
theorem PlanAt.dc{H:Hp}{v:V}{π:Plan}{a ac ak as:Addr}(h:PlanAt H v π a ac ak as):Deep H (.ref ac) (.tup (txD π.cols)):=.tup h.c (Deeps.XZ _)
theorem PlanAt.dk{H:Hp}{v:V}{π:Plan}{a ac ak as:Addr}(h:PlanAt H v π a ac ak as):Deep H (.ref ak) (.tup (txD π.keys)):=.tup h.k (Deeps.XZ _)
theorem PlanAt.ds{H:Hp}{v:V}{π:Plan}{a ac ak as:Addr}(h:PlanAt H v π a ac ak as):Deep H (.ref as) (.tup (txD π.sums)):=.tup h.s (Deeps.XZ _)
theorem Va{ys:List Str}{i:Nat}{v:V}(hv:(ys.map V.str)[i]? =some v):∃y,ys[i]? =some y∧v=.str y:=by
 rw[List.getElem?_map]at hv
 cases e:ys[i]? with
 |none=>rw[e]at hv;cases hv
 |some y=>rw[e]at hv;exact⟨y,rfl,(Option.some.inj hv).symm⟩
end
end Lw
set_option Elab.async false
set_option linter.all false
set_option maxRecDepth 100000
namespace Lw
open PySem PySem.Spec PyProof.Rows L2
open Builtin Builtin.Str StrLaws
theorem Ux{X:Cx}{K0:PySem.W.Frag}{es:List Expr}{k:Nat}{t:TGs}{n:Nat}{pos:Pos}(hK:X.K=K0)(hc:X.calm=true)(h:PGs X es t)
  (hn:(assignEach es X.env).length=n:=by rfl) (hst:(assignEach es X.env).findIdx? (·.1)=none:=by rfl):PG X (.Tuple es k pos) (QbS K0 n t):=by
 subst hK
 exact Jy hc h hn hst
theorem ql{r:List V→Hp→VK→Prop}{t:TA}{D:Ends}{σ:L2.St}{H:Hp}(h:tCB r t σ H D.rt):vn (tCB r t) D σ H:=h
def Xn(row:List Cell):Dv:=.tup (row.map Cell.dv)
def JX:Cell→Prop
 | .txt x=>textOk x=true
 | .amt u o=>0≤o∧o≤2∧(u*K01.ten (2-o)).natAbs≤10^4
structure RowOk(π:Plan)(row:List Cell):Prop where
 len:row.length=π.cols.length
 ok:∀c∈row,JX c
 sm:∀(i:Nat)(x:Str),π.cols[i]? =some x→π.sums.contains x=true→∃u o:Int,row[i]? =some (Cell.amt u o)
theorem QbF{row:List Cell}{i:Nat}{d:Dv}(h:(row.map Cell.dv)[i]? =some d):∃c,row[i]? =some c∧d=c.dv:=by
 rw[List.getElem?_map]at h
 cases e:row[i]? with
 |none=>rw[e]at h;cases h
 |some c=>rw[e]at h;exact⟨c,rfl,(Option.some.inj h).symm⟩
section
variable {P:Program}{w:World}{K:PySem.W.Frag}{mg:Str→Option Value}{base:Heap}{f:Addr}{fd:FuncData}{tk:Nat→Tok}
end
end Lw
set_option Elab.async false
set_option linter.all false
set_option maxRecDepth 100000
namespace L2
open PySem PySem.Spec PyProof.Rows
section
variable {J:It}{n:Nat}{Ok:Hp→Prop}{item:Nat→Hp→V→Hp→Prop}{wi:TI}{g:TG}{te:TE}{Q:VK}{σ:St}{H:Hp}
theorem Vb{H H':Hp}{vs:List V}{u:V}{ds:List Dv}{i:Nat}{d:Dv}(h:Deeps H vs (ds.take i))(S:Qg H H')(e:ds[i]? =some d)(hu:Deep H' u d):Deeps H' (vs++[u]) (ds.take (i+1)):=by
 rw[List.take_add_one,e]
 exact(h.same S).append (.cons hu .nil)
theorem XD{NB:List Str}(F:Fix J n Ok item)(ds:List Dv)(hn:ds.length=n)(h:∀R:It→Hp→Prop,(∀H1,Qg H H1→R J H1)→wi σ H R) (ho:∀H1,Qg H H1→Ok H1)
  (hs:∀i v H1 H2 d(R:V→Hp→Prop),ds[i]? =some d→Qg H H1→item i H1 v H2→(∀u H4,Qg H1 H4→Deep H4 u d→R u H4)→g v (List.replicate NB.length none) H2 fun σ2 H3=>te σ2 H3 R)
  (hd:∀xs H1 p,Qg H H1→Deeps H1 xs ds→H1 p=none→Q (.ref p) (upd H1 p (.lst xs))) (hz:n<sizeLine):vN NB wi g Qbv te σ H Q:=by
 refine Vs F (fun i vs H1=>Qg H H1∧Deeps H1 vs (ds.take i)) (fun R k=>h R fun H1 S=>k H1 ⟨S,.nil⟩) (fun i vs H1 hi⟨S,t⟩=>⟨ho H1 S,by rw[t.length,List.length_take];omega⟩) ?_ ?_ hz
 ·rintro i v vs H1 H2 hi ⟨S,t⟩ it
  have e:ds[i]? =some ds[i]:=List.getElem?_eq_getElem (by omega)
  exact hs i v H1 H2 _ (fun u H4=>Qg H H4∧Deeps H4 (vs++[u]) (ds.take (i+1))) e S it fun u H4 S4 du=>⟨S.trans S4,Vb t S4 e du⟩
 ·rintro vs H1 ⟨S,t⟩ p hp
  rw[List.take_of_length_le (by omega)]at t
  exact hd vs H1 p S t hp
theorem Jr{nn:Nat}{fi:List Nat}{fv:List V}(F:Fix J n Ok item)(ds:List Dv)(hn:ds.length=n)(h:∀R:It→Hp→Prop,(∀H1,Qg H H1→R J H1)→wi σ H R) (hfv:fi.map (fun i=>σ[i]?)=fv.map (fun v=>some (some v))) (ho:∀H1,Qg H H1→Ok H1)
  (hs:∀i v H1 H2 d(R:V→Hp→Prop),ds[i]? =some d→Qg H H1→item i H1 v H2→(∀u H4,Qg H1 H4→Deep H4 u d→R u H4)→g v (List.replicate nn none++fv.map some) H2 fun σ2 H3=>σ2.drop nn=fv.map some∧te σ2 H3 R)
  (hd:∀xs H1 p,Qg H H1→Deeps H1 xs ds→H1 p=none→Q (.ref p) (upd H1 p (.lst xs))) (hz:n<sizeLine):W6 nn fi wi g Qbv te σ H Q:=by
 refine K8 F (fun i vs H1=>Qg H H1∧Deeps H1 vs (ds.take i)) (fun R k=>h R fun H1 S=>k H1 ⟨S,.nil⟩) hfv (fun i vs H1 hi⟨S,t⟩=>⟨ho H1 S,by rw[t.length,List.length_take];omega⟩) ?_ ?_ hz
 ·rintro i v vs H1 H2 hi ⟨S,t⟩ it
  have e:ds[i]? =some ds[i]:=List.getElem?_eq_getElem (by omega)
  exact hs i v H1 H2 _ (fun u H4=>Qg H H4∧Deeps H4 (vs++[u]) (ds.take (i+1))) e S it fun u H4 S4 du=>⟨S.trans S4,Vb t S4 e du⟩
 ·rintro vs H1 ⟨S,t⟩ p hp
  rw[List.take_of_length_le (by omega)]at t
  exact hd vs H1 p S t hp
theorem Jc{H:Hp}{xs:List V}{ds:List Dv}(t:Deeps H xs ds){p:Addr}(hp:H p=none):Deep (upd H p (.tup xs)) (.ref p) (.tup ds):=.tup Qc (t.same (Qg.new hp))
theorem Vc{H:Hp}:∀{xs:List V}{ns:List Int},Deeps H xs (ns.map Dv.int)→xs=ns.map V.int
 |_,[],.nil=>rfl
 |_,n::ns,.cons h t=>by
  obtain rfl:=h.vT
  rw[Vc (ns:=ns) t]
  rfl
end
section
variable {X:Cx}{K0:PySem.W.Frag}{o e:Expr}{es:List Expr}{to:TE}{t:TA}{name:Str}{apos cpos:Pos}{T id:String}{r:V→List V→Hp→VK→Prop}
theorem wU(hK:X.K=K0)(pa:PlainAttrs T)(slot:Slot T name id)(hty:typeOf (.builtin id)=pure (.type "method_descriptor"))(hm:MtR X id r)(ho:PE X o to)(ha:PA X (e::es) t)
  (hbase:attributeBase o name X.env (eval o X.env)=eval o X.env:=by rfl)
  (hfew:((backTo cpos (starEach (e::es) X.env)).all (fun x=> !x.1)&&(backToKw cpos (keywordEach [] X.env)).all (fun x=>x.1.isSome)&&decide ((e::es).length+([]:List Keyword).length+(if([]:List Keyword).isEmpty then 0 else 1)<30))=true:=by rfl)
  (hline:(apos.endLine==cpos.line)=true:=by rfl) (hs:starEach (e::es) X.env=(false,eval e X.env)::starEach es X.env:=by rfl) (hplain:(backTo cpos (starEach es X.env)).any (·.1)=false:=by rfl):
  PE X (.Call (.Attribute o name apos) (e::es) [] cpos) (tBM K0 T r to t):=by
 subst hK
 exact XT pa slot hty hm ho ha hbase hfew hline hs hplain
end
theorem cb1{r:List V→Hp→VK→Prop}{te:TE}{σ:St}{H:Hp}{Q:VK}(h:te σ H fun v H1=>r [v] H1 Q):tCB r (Q8 te Kn) σ H Q:=h
theorem wV{te:TE}{D:Ends}{σ:St}{H:Hp}(h:te σ H D.rt):vn te D σ H:=h
theorem zO.v3{x:V}{hi:Nat}{H:Hp}{Q:VK}{ds:List Dv}(hx:Deep H x (.tup ds))(k:∀v H',Qg H H'→Deep H' v (.tup (ds.take hi))→Q v H'):zO x none (some (hi:Int)) H Q:=by
 have h:=zO.deep (lo:=0) (hi:=hi) (Q:=Q) hx (by simpa using k)
 obtain⟨a,xs,e,h1,h2,h3⟩:=h
 refine⟨a,xs,e,h1,fun z=>h2 ?_,fun z p hp=>?_⟩
 ·rw[HT.Zk,Nat.zero_min];exact⟨rfl,z.2⟩
 ·have e2:YT xs none (some (hi:Int))=YT xs (some ((0:Nat):Int)) (some (hi:Int)):=by unfold YT;rw[HT.U3,show HT.sIx xs.length 0 (some ((0:Nat):Int))=0 by rw[HT.Zk,Nat.zero_min]]
  rw[e2]
  exact h3 (fun y=>z ⟨rfl,y.2⟩) p hp
end L2
set_option Elab.async false
set_option linter.all false
set_option maxRecDepth 100000
namespace L2
open PySem PySem.Spec PyProof.Rows
theorem Zf{n:Nat}{fi:List Nat}{wi:TI}{g:TG}{tt:TT}{te:TE}{Q:VK}{σ:St}{H:Hp}(h:wi σ H fun J H1=>W6 n fi (fun _ H R=>R J H) g tt te σ H1 Q):W6 n fi wi g tt te σ H Q:=h
end L2
set_option Elab.async false
set_option linter.all false
set_option maxRecDepth 100000
namespace L2
open PySem PySem.Spec PyProof.Rows
section
variable {X:Cx}
theorem zY{elt tg iter:Expr}{ifs:List Expr}{scope:Scope}{pos spos py:Pos}{NB FR:List Str}{fi:List Nat}{wi:TI}{g:TG}{tt:TT}{te:TE}{iy:Nat}{y:Str}(hc:X.calm=true)(S:BlkScopeF NB FR scope)(hfree:qc scope X.env.scope=true)(hfi:fi.map (fun i=>X.N[i]?)=FR.map some) (hi:PI X tg iter wi)
  (hg:∀s H ex,PG (QU X (NB++FR) scope s H ex) tg g) (ht:∀s H ex,PTs (QU X (NB++FR) scope s H ex) ifs tt) (he:∀s H ex,PE (QU X (NB++FR) scope s H ex) elt te)
  (hN:X.N.Nodup) (hiy:X.N[iy]? =some y) (hy:Loc X.env.scope y) (hsw:swapsWith (.ListComp elt [⟨tg,iter,ifs,0⟩] scope pos) (some (.Name y py)) spos.line X.env=pure true)
  (hs:∀x,foldedSetIterable iter X.env x=pure x:=by intro _;rfl) (hf:X.fn y=true∨X.env.scope.names.lookup y=some .local:=by first|exact .inl rfl|exact .inr rfl|assumption):
  PS X (.Assign [.Name y py] (.ListComp elt [⟨tg,iter,ifs,0⟩] scope pos) spos) (JI (W6 NB.length fi wi g tt te) (QL iy)):=by
 intro pins s σ H Dn I h
 have hfc:∀y∈scope.names,y.2=.free→X.env.scope.names.lookup y.1=some .cell:=K2 hfree
 have hasF:∀y∈scope.names,y.2=.free→∃c,X.env.cells.lookup y.1=some c:=fun y hy e=>I.ok.has y.1 (.inl (hfc y hy e))
 have clook:∀y c,(Jf X.env.cells scope.names []).lookup y=some c→X.env.cells.lookup y=some c:=fun y c e=>Xx scope.names [] hasF (fun z=>nomatch z) e
 rw[exec_Assign_Name_used _ _ _ _ hsw]
 refine wpAny_bind (wpAny_standAt (wpAny_bind ?_))
 show wpAny _ X.A (do let _←comprehension (.ListComp elt [⟨tg,iter,ifs,0⟩] scope pos) scope X.env _ (newList []) false (eval iter X.env) (some (assign (.Name y py) X.env))) _ _ s
 refine wpAny_bind (wpAny_mono (wpAny_comprehension_free (use:=some (assign (.Name y py) X.env)) (Q:=fun _ s'=>SP X pins Dn .next s') (cl:=Jf X.env.cells scope.names []) rfl hs (JL hasF) S.kind S.loc (thn (hi pins s σ H _ I h) fun v s1 h1=>thn h1 fun itv s2 h2=>?_)) (fun _ s' hq=>wpAny_pure (wpAny_pure hq)) fun _ _ e=>e)
 obtain⟨it,fp,tn,J,H2,e,I2,T,st2,f2,fv,hfv,W,⟨m0,w0⟩,turn⟩:=h2
 subst e
 refine wpAny_newObj_type ?_
 have up2:∀b o,s2.heap.get? b=some o→(s2.heap.push {cls:=.type "list",data:=.seq ([]:List Value).toArray}).get? b=some o:=fun b o e=>Heap.get?_push_of_some _ e
 have I3:Inv X pins σ H2 {s2 with heap:=s2.heap.push {cls:=.type "list",data:=.seq ([]:List Value).toArray}}:=I2.kept (t':=s2.toks) up2
 have st3:tn 0 (s2.heap.push {cls:=.type "list",data:=.seq ([]:List Value).toArray}):=T.keep _ _ _ st2 fun b _ o e=>up2 b o e
 have hD3:(s2.heap.push {cls:=.type "list",data:=.seq ([]:List Value).toArray}).get? s2.heap.objs.size=some (Z0 []):=Heap.get?_push_size _ rfl
 have hD2:H2 s2.heap.objs.size=none:=I2.hok.fresh (Nat.le_refl _)
 have lt2:∀b o,s2.heap.get? b=some o→b≠s2.heap.objs.size:=fun b o e=>Nat.ne_of_lt (Heap.lt_size e)
 have fpO:∀b∈fp,∃o,s2.heap.get? b=some o:=fun b hb=>let ⟨o,e,_⟩:=T.obj _ _ st2 b hb;⟨o,e⟩
 have hDs0:X.s₀.heap.objs.size≤s2.heap.objs.size:=I2.sz
 have hDL:s2.heap.objs.size≠X.env.locals:=Nat.ne_of_gt I2.lt
 have hDC:∀x c,X.env.cells.lookup x=some c→c≠s2.heap.objs.size:=fun x c e=>let ⟨v,o,e1,_⟩:=I2.cell x c e;lt2 c o e1
 have hDp:∀p∈X.pn++pins,p.1≠s2.heap.objs.size:=fun p hp=>lt2 p.1 _ (I2.pin p hp).1
 have hDf:s2.heap.objs.size∉frs X.stack:=fun z=>let ⟨o,e,_⟩:=(I2.stack.mem z).2;lt2 _ o e rfl
 generalize hS3:({s2 with heap:=s2.heap.push {cls:=.type "list",data:=.seq ([]:List Value).toArray}}:Shared)=s3 at I3 ⊢
 have hh3:s3.heap=s2.heap.push {cls:=.type "list",data:=.seq ([]:List Value).toArray}:=by rw[←hS3]
 rw[←hh3]at st3 hD3 up2
 generalize s2.heap.objs.size=D at hD3 hD2 lt2 hDs0 hDL hDC hDp hDf ⊢
 refine ZD S.kind S.nocell fun cenv s4 hce x4=>?_
 subst hce
 have lt3:∀b o,s3.heap.get? b=some o→b<s3.heap.objs.size:=fun b o e=>Heap.lt_size e
 have fp3:∀b∈fp,b<s3.heap.objs.size:=fun b hb=>let ⟨o,e⟩:=fpO b hb;lt3 b o (up2 b o e)
 have dl3:D<s3.heap.objs.size:=lt3 D _ hD3
 have DfpN:∀b∈fp,b≠D:=fun b hb=>let ⟨o,e⟩:=fpO b hb;lt2 b o e
 obtain⟨h4,tk4,rfl,hk4⟩:=x4.done
 have bsN:∀b o,X.base.get? b=some o→b∉D::fp:=fun b o e hb=>by
  rcases List.mem_cons.mp hb with rfl|hb
  ·exact absurd (Nat.lt_of_lt_of_le (Heap.lt_size (I2.ok.bs b o e).1) hDs0) (Nat.lt_irrefl _)
  ·obtain⟨_,_,_,f3,_⟩:=f2 b hb
   rcases f3 with z|z
   ·exact I2.ok.noex b o e z
   ·exact absurd (Nat.lt_of_lt_of_le (Heap.lt_size (I2.ok.bs b o e).1) z) (Nat.lt_irrefl _)
 have exF:∀b∈D::fp,b∉frs X.stack:=fun b hb hf=>by
  rcases List.mem_cons.mp hb with rfl|hb
  ·exact hDf hf
  ·obtain⟨_,f1,f2',_⟩:=f2 b hb
   rcases List.mem_cons.mp (I2.Xp b hf)with z|z
   ·exact f1 z
   ·exact f2' z
 have ccl:∀y c,(Jf X.env.cells scope.names []).lookup y=some c→(∃v,s3.heap.IsCell c v)∧H2 c=none∧c≠D∧∀b∈fp,c≠b:=fun y c e=>by
  have e':=clook y c e
  exact⟨I3.cell y c e',I3.freeC y c e',hDC y c e',fun b hb=>(f2 b hb).2.2.2.2.1 y c e'⟩
 have clt:∀y c,(Jf X.env.cells scope.names []).lookup y=some c→c<s3.heap.objs.size:=fun y c e=>let ⟨⟨v,o,ho,_⟩,_⟩:=ccl y c e;lt3 c o ho
 have exLt:∀b∈D::fp,b<s3.heap.objs.size:=fun b hb=>by
  rcases List.mem_cons.mp hb with rfl|hb
  ·exact dl3
  ·exact fp3 b hb
 have okB:(QU X (NB++FR) scope s3 H2 (D::fp)).Ok:=by
  refine⟨I3.ok.mod,S.kind,I3.ok.glob,I3.ok.blt,Nat.le_refl _,fun y z c h1 h2=>?_,fun y hy=>?_,(fun y c z _=>nomatch z),I3.ok.hd,I3.ok.frames,.inl rfl,fun b hb=>⟨Nat.ne_of_lt (exLt b hb),fun y c e z=>?_⟩,I3.bs,Nat.le_trans I3.ok.bsz I3.sz,bsN,exF,I3.stack,I3.Z8⟩
  ·exact I3.ok.inj y z c (clook y c h1) (clook z c h2)
  ·exact Zl scope.names [] (.inr (Kl S.nocell hy))
  ·obtain⟨_,_,n1,n2⟩:=ccl y c e
   rcases List.mem_cons.mp hb with q|q
   ·exact n1 (z.trans q)
   ·exact n2 b q z
 have hlen0:(List.replicate NB.length (none:Option V)++fv.map some).length=(NB++FR).length:=by
  have h1:=congrArg List.length hfv
  have h2:=congrArg List.length hfi
  simp only[List.length_map]at h1 h2
  rw[List.length_append,List.length_append,List.length_replicate,List.length_map]
  omega
 have rep:∀(j:Nat)(v:V),(List.replicate NB.length (none:Option V)++fv.map some)[j]? =some (some v)→∃k,j=NB.length+k∧fv[k]? =some v:=fun j v z=>by
  rw[List.getElem?_append]at z
  split at z
  ·rw[List.getElem?_replicate]at z
   split at z<;>cases z
  ·rename_i hj
   rw[List.length_replicate]at hj z
   refine⟨j-NB.length,by omega,?_⟩
   rw[List.getElem?_map]at z
   cases e:fv[j-NB.length]? with
   |none=>rw[e]at z;cases z
   |some y=>rw[e]at z;exact congrArg some (Option.some.inj (Option.some.inj z))
 have fvAt:∀(k:Nat)(v:V)(y:Str),fv[k]? =some v→FR[k]? =some y→∃i,X.N[i]? =some y∧σ[i]? =some (some v):=fun k v y h1 h2=>by
  have a1:=congrArg (fun l=>l[k]?) hfv
  have a2:=congrArg (fun l=>l[k]?) hfi
  simp only[List.getElem?_map,h1,h2]at a1 a2
  cases e:fi[k]? with
  |none=>rw[e]at a1;cases a1
  |some i=>
   rw[e]at a1 a2
   exact⟨i,Option.some.inj a2,Option.some.inj a1⟩
 have IB:Inv (QU X (NB++FR) scope s3 H2 (D::fp)) [(D,Z0 [])] (List.replicate NB.length none++fv.map some) H2 {s3 with heap:=h4,toks:=tk4}:=by
  refine⟨okB,rfl,I3.bare,Un.kept hk4,⟨_,x4.ns,fun i y v h1 h2 h3=>?_⟩,fun y c h=>let ⟨⟨v,o,ho,hd⟩,_⟩:=ccl y c h;⟨v,o,hk4 _ _ ho,hd⟩,I3.hok.fresh (Nat.le_refl _),fun y c h=>(ccl y c h).2.1,fun p hp=>?_,I3.hok.kept hk4,hlen0⟩
  ·obtain⟨k,rfl,hk⟩:=rep i v h2
   have hy:FR[k]? =some y:=by
    have h1:(NB++FR)[NB.length+k]? =some y:=h1
    rw[List.getElem?_append_right (Nat.le_add_right _ _),Nat.add_sub_cancel_left]at h1
    exact h1
   obtain⟨io,hN,hσ⟩:=fvAt k v y hk hy
   have hfr:(y,NameKind.free)∈scope.names:=S.fr y (List.mem_of_getElem? hy)
   obtain⟨m,_,hl⟩:=I3.loc
   obtain⟨u,r,l⟩:=hl io y v hN hσ (.inr (.inl (hfc _ hfr rfl)))
   refine⟨u,r,.inr ⟨.inl ?_,?_⟩⟩
   ·exact Kk S.nd2 hfr (by show(X.env.scope.kind==.function)=true;rw[I3.ok.kind];rfl) (hfc _ hfr rfl)
   ·obtain⟨c,hc1⟩:=Zl (cells:=X.env.cells) (x:=y) scope.names [] (.inr hfr)
    refine⟨c,hc1,?_⟩
    have hc2:=clook y c hc1
    rcases l with⟨hk,_⟩|⟨_,c',hc',o,ho,hd⟩
    ·have e1:=hfc _ hfr rfl
     rw[show X.env.kindOf y=X.env.scope.names.lookup y from rfl]at hk
     rw[hk]at e1
     cases e1
    ·rw[hc2]at hc'
     cases hc'
     exact⟨o,hk4 _ _ ho,hd⟩
  obtain rfl:p=(D,Z0 []):=by simpa using hp
  exact⟨hk4 _ _ hD3,hD2,Nat.ne_of_lt dl3,hDf,fun v z=>nomatch z⟩
 have stat:∀{H':Hp}{ys:List Value},(∀b∈fp,H' b=none)→∀b∈fp,jI (QU X (NB++FR) scope s3 H2 (D::fp)) [(D,Z0 ys)] H' b:=fun hn b hb=>
  ⟨hn b hb,Nat.ne_of_lt (fp3 b hb),exF b (List.mem_cons_of_mem _ hb),.inl (List.mem_cons_of_mem _ hb),fun y c e z=>(ccl y c e).2.2.2 b hb z,fun p hp=>by
    obtain rfl:p=(D,_):=by simpa using hp
    exact(DfpN b hb).symm⟩
 have st4:tn 0 h4:=T.keep _ _ _ st3 fun b _ o e=>hk4 b o e
 have fr4:∀b∈fp,H2 b=none:=fun b hb=>(f2 b hb).1
 have hcB:(QU X (NB++FR) scope s3 H2 (D::fp)).calm=true:=hc
 have loop:codeAny (model X.prog X.w) X.A (.compLoop (.ListComp elt [⟨tg,iter,ifs,0⟩] scope pos) 0 (.ref it) (.ref D) (Ui scope X.env s3.heap.objs.size))
   (compPost (model X.prog X.w) X.A X.xe (some (assign (.Name y py) X.env)) (fun _ s'=>SP X pins Dn .next s') (.ref D) s3.heap.objs.size) {s3 with heap:=h4,toks:=tk4}:=by
  refine K3 (fun n s'=>∃i vs ys H',Inv (QU X (NB++FR) scope s3 H2 (D::fp)) [(D,Z0 ys)] (List.replicate NB.length none++fv.map some) H' s'∧Vals vs ys∧vs.length≤sizeLine∧tn i s'.heap∧(∀b∈fp,H' b=none)∧W i n vs H') ?_ m0 ⟨0,[],[],H2,IB,.nil,Nat.zero_le _,st4,fr4,w0⟩
  rintro n s5 ⟨i,vs,ys,H5,I5,rv,hvl,st5,fr5,w5⟩
  rcases turn i n vs H5 w5 with⟨stop,qn⟩|⟨go,hlt,N,hN,step⟩
  ·refine wpAny_mono (T.done (QU X (NB++FR) scope s3 H2 (D::fp)) rfl rfl rfl hcB i _ s5 _ H5 (fun _ _=>False) I5 (stat fr5) st5 stop) (fun r s6⟨hr,I6⟩=>?_) (fun _ _ z=>z.elim)
   subst hr
   obtain⟨m6,hn6,_⟩:=id I6.loc
   have hC6:H5 s3.heap.objs.size=none:=I6.free
   have un7:Un (frs X.stack) (D::fp) H2 H5 s3.heap s6.heap:=I6.base
   have I7:Inv X pins σ H5 s6:=I3.jO (s':=s6) I6.os un7 I6.hok I6.bare fun b hb=>by
    rcases List.mem_cons.mp hb with rfl|hb
    ·exact⟨.inr hDs0,hDL,hDC,hDp⟩
    ·obtain⟨_,f1,_,f3,f4,f5⟩:=f2 b hb
     exact⟨f3,f1,f4,f5⟩
   obtain⟨eD,nD,_⟩:=I6.pin (D,Z0 ys) (by simp)
   have nD':H5 D=none:=nD
   have eD':s6.heap.get? D=some (Z0 ys):=eD
   have hD0:X.s₀.heap.get? D=none:=by
    cases q:X.s₀.heap.get? D with
    |none=>rfl
    |some o=>exact absurd (Nat.lt_of_lt_of_le (Heap.lt_size q) hDs0) (Nat.lt_irrefl _)
   have I8:Inv X pins σ (upd H5 D (.lst vs)) s6:=I7.kE nD' hD0 hDL hDC hDp ⟨hvl,ys,ys.length,rv,eD'⟩
   have hq:=qn D nD'
   have s03:X.s₀.heap.objs.size≤s3.heap.objs.size:=I3.sz
   have cL:s3.heap.objs.size≠X.env.locals:=Nat.ne_of_gt I3.lt
   have cC:∀x c,X.env.cells.lookup x=some c→c≠s3.heap.objs.size:=fun x c e=>let ⟨v,o,e1,_⟩:=I3.cell x c e;Nat.ne_of_lt (lt3 c o e1)
   have cP:∀p∈X.pn++pins,p.1≠s3.heap.objs.size:=fun p hp=>Nat.ne_of_lt (lt3 p.1 _ (I3.pin p hp).1)
   show wpAny (model X.prog X.w) X.A (assign (.Name y py) X.env (.ref D)) _ X.xe s6
   refine wpAny_assign_Name (KN (v:=.ref D) I8 hN hiy hy rfl (fun s9 I9⟨a9,sb9,ha9⟩=>?_) hf)
   have na:s3.heap.objs.size≠a9:=by
    rcases ha9 with rfl|z
    ·exact cL
    ·exact(cC y a9 z).symm
   refine⟨m6,hn6.sameBut sb9 na,fun h10 sb10=>⟨_,_,?_,hq⟩⟩
   have hD3':upd H5 D (.lst vs) s3.heap.objs.size=none:=by rw[Qi (Nat.ne_of_gt dl3)];exact hC6
   exact(I9.turned (h':=h10) (t':=s9.toks) (it:=s3.heap.objs.size) (fun b o hb e=>(sb10.2 b hb).trans e) hD3' cL (.inr s03) cC cP:)
  ·refine wpAny_mono (T.item (QU X (NB++FR) scope s3 H2 (D::fp)) rfl rfl rfl hcB i _ s5 _ H5 (fun _ _=>False) I5 (stat fr5) st5 go) (fun r s6⟨u,hr,h6⟩=>?_) (fun _ _ z=>z.elim)
   subst hr
   refine wpAny_mono h6 (fun _ s7⟨x,H7,I7,r7,y7,st7,fr7⟩=>?_) (fun _ _ z=>z.elim)
   have I7':=I7.pinned (stat fr7) (T.obj _ _ st7)
   refine wpAny_mono (hg s3 H2 (D::fp) _ s7 _ H7 x u _ I7' r7 (step x H7 y7)) (fun _ s8⟨σ8,H8,I8,hk8,q8⟩=>?_) (fun _ _ z=>z.elim)
   refine wpAny_mono (ht s3 H2 (D::fp) _ s8 σ8 H8 _ I8 q8) (fun ok s9⟨H9,I9,q9⟩=>?_) (fun _ _ z=>z.elim)
   have fpK:∀{σ':St}{H':Hp}{s':Shared},Inv (QU X (NB++FR) scope s3 H2 (D::fp)) ([(D,Z0 ys)]++KO fp s7.heap) σ' H' s'→tn (i+1) s'.heap∧∀b∈fp,H' b=none:=fun J=>
    ⟨T.keep _ _ _ st7 fun b hb o e=>(J.pin (b,o) (List.mem_append_right _ (List.mem_append_right _ (Jp hb e)))).1,fun b hb=>by
     obtain⟨o,e,d⟩:=T.obj _ _ st7 b hb
     exact(J.pin (b,o) (List.mem_append_right _ (List.mem_append_right _ (Jp hb e)))).2.1⟩
   have wk:∀{H':Hp}{s':Shared}{pl:List (Addr × Obj)},Inv (QU X (NB++FR) scope s3 H2 (D::fp)) pl σ8 H' s'→Inv (QU X (NB++FR) scope s3 H2 (D::fp)) pl (List.replicate NB.length none++fv.map some) H' s':=fun J=>
    J.weak (hlen0.trans J.len.symm) fun j v z=>by
     obtain⟨k,rfl,hk⟩:=rep j v z
     have:=congrArg (fun l=>l[k]?) hk8
     simp only[List.getElem?_drop,List.getElem?_map,hk]at this
     exact this
   cases ok with
   |false=>
    rw[if_neg (by decide)]at q9
    rw[if_neg (by decide)]
    obtain⟨m',hm,w9⟩:=hN vs H9 q9
    obtain⟨t9,f9⟩:=fpK I9
    exact⟨m',hm,i+1,vs,ys,H9,wk I9.JK,rv,hvl,t9,f9,w9⟩
   |true=>
    rw[if_pos rfl]at q9
    rw[if_pos rfl]
    refine wpAny_mono (he s3 H2 (D::fp) _ s9 σ8 H9 _ I9 q9) (fun y s10⟨v,H10,I10,rv10,q10⟩=>?_) (fun _ _ z=>z.elim)
    obtain⟨eD,nD,_,nf,_⟩:=I10.pin (D,Z0 ys) (by simp)
    have hyl:=rv.length
    refine append_at (hsz:=by show ys.toArray.size≤sizeLine;rw[List.size_toArray, ←hyl];exact hvl) eD fun h11 sb11 hD11=>?_
    obtain⟨m',hm,w11⟩:=hN (vs++[v]) H10 q10
    obtain⟨t10,f10⟩:=fpK I10
    have I10u:=I10.JK
    have k11:∀b o,b≠D→s10.heap.get? b=some o→h11.get? b=some o:=fun b o hb e=>(sb11.2 b hb).trans e
    have IE:Inv (QU X (NB++FR) scope s3 H2 (D::fp)) [] σ8 H10 s10:=I10u.Zx fun p hp=>nomatch hp
    have I11:Inv (QU X (NB++FR) scope s3 H2 (D::fp)) [] σ8 H10 {s10 with heap:=h11}:=IE.turned (t':=s10.toks) k11 nD (Nat.ne_of_lt dl3) (.inl List.mem_cons_self) (fun y' c e z=>(ccl y' c e).2.2.1 z) (fun p hp=>absurd (show p∈([]:List (Addr × Obj))from hp) (by simp))
    have eL:({cls:=.type "list",data:=.seq (ys.toArray.push y) (ys.length+1)}:Obj)=Z0 (ys++[y]):=by
     show({cls:=.type "list",data:=.seq (ys.toArray.push y) (ys.length+1)}:Obj)={cls:=.type "list",data:=.seq (ys++[y]).toArray (ys++[y]).length}
     rw[List.length_append,List.length_singleton,List.push_toArray]
    refine⟨m',hm,i+1,vs++[v],ys++[y],H10,wk (I11.Zx fun p hp=>?_),rv.append (.cons rv10 .nil),by rw[List.length_append,List.length_singleton];exact hlt,T.keep _ _ _ t10 fun b hb o e=>k11 b o (DfpN b hb) e,f10,w11⟩
    obtain rfl:p=(D,Z0 (ys++[y])):=by simpa using hp
    exact⟨by rw[←eL];exact hD11,nD,Nat.ne_of_lt dl3,nf,fun v z=>nomatch z⟩
 exact codeAny_compStart_list loop (T.self _ 0 _ _ _ st4 loop)
end
end L2
set_option Elab.async false
set_option linter.all false
set_option maxRecDepth 100000
namespace L2
open PySem PySem.Spec PyProof.Rows
section
variable {X:Cx}
theorem ZK{i:Int}{j:Nat}{p:Pos}{es:List Expr}{t:TA}(hr:PAx X es t):PAx X (.Constant (.int i) j p::es) (Q8 (tC (.int i)) t):=⟨Qa Qf hr.pa rfl⟩
theorem Jv{es':List Expr}{t1:TA}{k:Nat}{p:Pos}{es:List Expr}{t:TA}(h:PAx X es' t1)(hr:PAx X es t):PAx X (.Tuple es' k p::es) (Q8 (wJ t1) t):=⟨Qa (Qv h.pa) hr.pa rfl⟩
def QaA:R2:=fun x y H Q=>∃p xs i v,x=.ref p∧y=.int i∧Rd H p (.lst xs)∧atI xs i=some v∧Q v H
theorem XE{es:List Expr}{t:TA}{b:Expr}{tb:TE}{p pos:Pos}(h:PAx X es t)(hb:PEx X b tb)(hs:j8 b):PEx X (.Subscript (.List es p) b pos) (tOp QaA (yE t) tb):=⟨QT KD (Js h.pa) hb.pe hs⟩
theorem zZ{k v:Expr}{tk tv:TE}{pos:Pos}(hk:PEx X k tk)(hv:PEx X v tv):PEx X (.Dict [some k] [v] pos) (kC [(tk,tv)]):=⟨zk (Vn hk.pe hv.pe zi) rfl rfl (List.cons_ne_nil _ _) (Nat.le_of_ble_eq_true rfl)⟩
theorem QY{i:Nat}{x:Str}{e:Expr}{te:TE}{pos pos':Pos}(hN:X.N.Nodup)(hi:X.N[i]? =some x)(hx:Loc X.env.scope x)(he:PEx X e te)(hs:swapsWith e (some (.Name x pos')) pos.line X.env=pure false)(hf:X.fn x=true):PSy X (.Assign [.Name x pos'] e pos) (JI te (QL i)):=⟨Qu hN hi hx he.pe hs (.inl hf)⟩
theorem qm{o i value:Expr}{td ty tv:TE}{pos pos':Pos}(hu:X.A.units+1<cLine)(ho:PEx X o td)(hi:PEx X i ty)(hv:PEx X value tv)(hs:swapsWith value (some (.Subscript o i pos')) pos.line X.env=pure false):PSy X (.Assign [.Subscript o i pos'] value pos) (Qab td ty tv):=⟨Ub hu ho.pe hi.pe hv.pe hs⟩
theorem Uy{tg iter:Expr}{body:List Stmt}{wi:TI}{g:TG}{tb:TS}{pos:Pos}(hp:PassesOwn (model X.prog X.w) X.A X.env X.xe)(hc:X.calm=true)(hi:PI X tg iter wi)(hg:PG X tg g)(hb:PSx X body tb)(hs:∀x,foldedSetIterable iter X.env x=pure x):PSy X (.For tg iter body [] pos) (QbT wi g tb):=⟨Xq hp hc hi hg hb.ps hs⟩
theorem QJ{e:Expr}{te:TE}{pos:Pos}(he:PEx X e te):PSy X (.Return (some e) pos) (vn te):=⟨QD he.pe⟩
end
def TaD(ta:TA)(ds:List Dv):Prop:=∀(σ:St)(H:Hp)(R:List V→Hp→Prop),(∀xs H1,Qg H H1→Deeps H1 xs ds→R xs H1)→ta σ H R
theorem QN:TaD Kn []:=fun σ H R h=>h [] H (Qg.refl _) .nil
theorem QO{x:Str}{t:TA}{ds:List Dv}(h:TaD t ds):TaD (Q8 (tC (.str x)) t) (.str x::ds):=fun σ H R k=>h σ H _ fun xs H1 S t=>k _ _ S (.cons .str t)
theorem Jn{i:Int}{t:TA}{ds:List Dv}(h:TaD t ds):TaD (Q8 (tC (.int i)) t) (.int i::ds):=fun σ H R k=>h σ H _ fun xs H1 S t=>k _ _ S (.cons .int t)
theorem Ja{t1 t:TA}{es ds:List Dv}(h1:TaD t1 es)(hl:es.length≤sizeLine)(h:TaD t ds):TaD (Q8 (wJ t1) t) (.tup es::ds):=fun σ H R k=>h1 σ H _ fun xs H1 S t1=>⟨by rw[t1.length];exact hl,fun p hp=>h σ _ _ fun ys H2 S2 t2=>k _ _ ((S.trans (Qg.new hp)).trans S2) (.cons ((Jc t1 hp).same S2) t2)⟩
section
variable {K:PySem.W.Frag}
section
variable {H H':Hp}{a t r:Addr}{ns:List Int}{c c':Int}
theorem Bag.Zq(B:Bag K H a t r ns c)(A:Apart t r H H'):∀b ys,H b=some (.tup ys)→H' b=some (.tup ys):=fun b ys e=>B.keep A e fun _ z=>nomatch z
theorem Bag.jm{σ:St}{i j:Nat}{n:Int}{ta:TA}{ds:List Dv}{Q:VK}{E:XK}(B:Bag K H a t r ns c)(hi:σ[i]? =some (some (.ref a)))(hj:σ[j]? =some (some (.ref t)))(hta:TaD ta ds)(hn:n=(ds.length:Int))(h0:0<n)(h1:n<1000)(hc:c<100000)
  (k:∀(d:Nat)(x:V)(dv:Dv)(H':Hp),ds[d]? =some dv→Deep H' x dv→Bag K H' a t r ns (c+1)→Apart t r H H'→Q x H'):tOp QaA (yE ta) (V8 (W5 K) [] E (Q8 (WV i) (Q8 (WV j) (Q8 (tC (.int n)) Kn)))) σ H Q:=by
 have hz:1000≤sizeLine:=by decide
 refine hta _ _ _ fun xs H1 S1 T1=>⟨by have:=T1.length;omega,fun p hp=>?_⟩
 have S:=Qg.new (o:=.lst xs) hp
 have B1:=B.same (S1.trans S)
 refine B1.draw hi hj (fun R h=>h) h0 (by omega) hc fun d H' hd B' A'=>?_
 have hl:=T1.length
 obtain⟨x,hx⟩:∃x,xs[d]? =some x:=⟨_,List.getElem?_eq_getElem (by omega)⟩
 have hpp:H' p=some (.lst xs):=B1.keep A' Qc fun _ z=>nomatch z
 obtain⟨dv,hdv,ddv⟩:=T1.W7 hx
 exact⟨p,xs,d,x,rfl,rfl,.inl hpp,Q9 hx,k d x dv H' hdv ((ddv.same S).keep (B1.Zq A')) B' (fun b o e n1 n2=>A' b o ((S1.trans S) _ _ e) n1 n2)⟩
theorem we{p:Addr}{kvs:List (Key × V)}{o:HO}{xs:List V}(h:SqL K H a xs)(e:H p=some (.dK kvs)):SqL K (upd H p o) a xs:=by
 rcases h with(h|⟨o',h⟩)|h
 ·exact .inl (.inl (by rw[Qi (fun z=>by rw[z,e]at h;cases h)];exact h))
 ·exact .inl (.inr ⟨o',by rw[Qi (fun z=>by rw[z,e]at h;cases h)];exact h⟩)
 ·exact .inr h
theorem Bag.Qcv{p:Addr}{kvs:List (Key × V)}{o:HO}(B:Bag K H a t r ns c)(e:H p=some (.dK kvs))(n1:p≠t)(n2:p≠r):Bag K (upd H p o) a t r ns c:=by
 obtain⟨rs,T⟩:=B.tw
 exact⟨we B.sq e,⟨rs,by rw[Qi n1.symm];exact T.tw,by rw[Qi n2.symm];exact T.rt,T.vs,T.c0,T.ln,T.ne⟩,B.nat,B.nar,B.ln⟩
end
end
end L2
set_option Elab.async false
set_option linter.all false
set_option maxRecDepth 100000
namespace L2
open PySem PySem.Spec PyProof.Rows
def isStar:Expr→Bool
 | .Starred .. =>true
 |_=>false
theorem Wr{e:Expr}{es:List Expr}{env:Env}(h:isStar e=false):starEach (e::es) env=(false,eval e env)::starEach es env:=by
 cases e<;>first|rfl|cases h
section
variable {X:Cx}{K0:PySem.W.Frag}{o e e1:Expr}{es:List Expr}{to te te1:TE}{t:TA}{name:Str}{apos cpos:Pos}{T id:String}{r:V→List V→Hp→VK→Prop}
theorem QC(ha:PE X e te)(hr:PA X es t)(h:isStar e=false:=by rfl):PA X (e::es) (Q8 te t):=Qa ha hr (Wr h)
theorem XF{a b:Expr}{ta tb:TE}{pos:Pos}{op:Operator}{r:R2}(hr:OpR X (binaryOp op) r)(ha:PEx X a ta)(hb:PEx X b tb):PEx X (.BinOp a op b pos) (tOp r ta tb):=⟨QA hr ha.pe hb.pe⟩
theorem Qs(ha:PEx X e te)(hr:PAx X es t)(h:isStar e=false):PAx X (e::es) (Q8 te t):=⟨Qa ha.pe hr.pa (Wr h)⟩
theorem QaB{c a b:Expr}{tA:TT}{ta tb:TE}{pos:Pos}(hc:PT X c tA)(ha:PEx X a ta)(hb:PEx X b tb):PEx X (.IfExp c a b pos) (tIf tA ta tb):=⟨J0 hc ha.pe hb.pe⟩
theorem QI{k:Nat}{pos:Pos}(h:PAx X es t):PEx X (.Tuple es k pos) (wJ t):=⟨Qv h.pa⟩
theorem Vd{c:Expr}{a b:List Stmt}{tc:TT}{t1 u:TS}{pos:Pos}(hc:PT X c tc)(ha:PSx X a t1)(hb:PSx X b u):PSy X (.If c a b pos) (yD tc t1 u):=⟨Xa hc ha.ps hb.ps⟩
theorem Jw:PSx X [] QK:=⟨JA⟩
end
end L2
set_option Elab.async false
set_option linter.all false
set_option maxRecDepth 100000
namespace L2
open PySem PySem.Spec PyProof.Rows
open Builtin Builtin.Str
section
variable {prog:Program}{w:World}{A:Around}{E:Value→Shared→Prop}{s:Shared}{z TI TO i1 i2 i3:Addr}{k n1 n2 n3:Nat}{f1 f2 f3:List Addr}{P1 P2 P3:Nat→Value→Prop}{S1 S2 S3:Nat→Heap→Prop}{a b c:Value}
end
section
variable {X:Cx}
end
end L2
set_option Elab.async false
set_option linter.all false
set_option maxRecDepth 100000
namespace L2
open PySem PySem.Spec PyProof.Rows
open Builtin Builtin.Str
section
variable {prog:Program}{w:World}{A:Around}{E:Value→Shared→Prop}{s:Shared}
end
section
variable {X:Cx}
end
end L2
set_option Elab.async false
set_option linter.all false
set_option maxRecDepth 100000
namespace L2
open PySem PySem.Spec PyProof.Rows
section
variable {X:Cx}
open Classical in
end
end L2
set_option Elab.async false
set_option linter.all false
set_option maxRecDepth 100000
namespace L2
open PySem PySem.Spec PyProof.Rows
section
variable {X:Cx}
theorem Uz{f:Nat→Str}:∀{n:Nat}{x:Str},(met f n).any (· ==x)=true↔∃i,i<n∧f i=x
 |0,x=>⟨fun h=>by simp[met]at h,fun⟨i,h,_⟩=>absurd h (Nat.not_lt_zero _)⟩
 |n+1,x=>by
  show(Uk (met f n) (f n)).any (· ==x)=true↔_
  rw[qf,Bool.or_eq_true,Uz (n:=n),decide_eq_true_iff]
  constructor
  ·rintro(⟨i,hi,e⟩|e)
   ·exact⟨i,by omega,e⟩
   ·exact⟨n,by omega,e.symm⟩
  ·rintro⟨i,hi,e⟩
   by_cases h:i=n
   ·subst h;exact .inr e.symm
   ·exact .inl ⟨i,by omega,e⟩
theorem VE{f:Nat→Str}:∀{n:Nat},(met f n).length=n↔∀i j,i<j→j<n→f i≠f j
 |0=>⟨fun _ i j _ h=>absurd h (Nat.not_lt_zero _),fun _=>rfl⟩
 |n+1=>by
  have hle:=zH f n
  have ih:=VE (f:=f) (n:=n)
  show(Uk (met f n) (f n)).length=n+1↔_
  rw[Vt]
  by_cases ha:(met f n).any (· ==f n)=true
  ·rw[if_pos ha]
   obtain⟨i,hi,e⟩:=Uz.mp ha
   exact⟨fun z=>by omega,fun z=>absurd e (z i n hi (by omega))⟩
  ·rw[if_neg ha]
   constructor
   ·intro z i j hij hj
    by_cases h:j=n
    ·subst h
     exact fun e=>ha (Uz.mpr ⟨i,hij,e⟩)
    ·exact ih.mp (by omega) i j hij (by omega)
   ·intro z
    rw[ih.mpr fun i j hij hj=>z i j hij (by omega)]
def unlike:List Str→Bool
 |[]=>true
 |y::ys=> !(ys.any (· ==y))&&unlike ys
theorem X8:∀{ys:List Str},unlike ys=true↔∀i j,i<j→j<ys.length→ys.getD i ""≠ys.getD j ""
 |[]=>⟨fun _ i j _ h=>absurd h (Nat.not_lt_zero _),fun _=>rfl⟩
 |y::ys=>by
  have ih:=X8 (ys:=ys)
  rw[unlike,Bool.and_eq_true,ih]
  constructor
  ·rintro⟨h1,h2⟩ i j hij hj
   obtain⟨j',rfl⟩:∃j',j=j'+1:=⟨j-1,by omega⟩
   cases i with
   |zero=>
    intro e
    have hj':j'<ys.length:=by simpa using hj
    have:ys.any (· ==y)=true:=List.any_eq_true.mpr ⟨ys.getD j' "",by rw[List.getD_eq_getElem?_getD,List.getElem?_eq_getElem hj'];exact List.getElem_mem hj',by simpa using e.symm⟩
    rw[this]at h1
    cases h1
   |succ i=>exact h2 i j' (by omega) (by simpa using hj)
  ·intro h
   refine⟨?_,fun i j hij hj=>h (i+1) (j+1) (by omega) (by simpa using hj)⟩
   cases e:ys.any (· ==y)with
   |false=>rfl
   |true=>
    obtain⟨x,hx,hxy⟩:=List.any_eq_true.mp e
    obtain⟨j,hj,rfl⟩:=List.mem_iff_getElem.mp hx
    exact absurd (show(y::ys).getD 0 ""=(y::ys).getD (j+1) "" by simp[List.getD,hj];exact(beq_iff_eq.mp hxy).symm) (h 0 (j+1) (by omega) (by simpa using hj))
theorem VF(ys:List Str):decide (many ys=ys.length)=unlike ys:=by
 by_cases h:unlike ys=true
 ·rw[h];exact decide_eq_true (VE.mpr (X8.mp h))
 ·rw[(Bool.not_eq_true _).mp h];exact decide_eq_false fun z=>h (X8.mpr (VE.mp z))
end
end L2
set_option Elab.async false
set_option linter.all false
set_option maxRecDepth 100000
namespace L2
open PySem PySem.Spec PyProof.Rows
inductive Wx where
 |non|bl (b:Bool)|int (i:Int)|str (x:Str)|tup (ds:List Wx)|lst
mutual
inductive Ws (H:Hp):V→Wx→Prop where
 |non:Ws H .non .non
 |bl {b:Bool}:Ws H (.bl b) (.bl b)
 |int {i:Int}:Ws H (.int i) (.int i)
 |str {x:Str}:Ws H (.str x) (.str x)
 |tup {a:Addr} {xs:List V} {ds:List Wx} (h:H a=some (.tup xs)) (t:Wss H xs ds):Ws H (.ref a) (.tup ds)
 |lst {a:Addr} {xs:List V} (h:H a=some (.lst xs)):Ws H (.ref a) .lst
inductive Wss (H:Hp):List V→List Wx→Prop where
 |nil:Wss H [] []
 |cons {x:V} {d:Wx} {xs:List V} {ds:List Wx} (h:Ws H x d) (t:Wss H xs ds):Wss H (x::xs) (d::ds)
end
theorem Wss.length{H:Hp}:∀{xs:List V}{ds:List Wx},Wss H xs ds→xs.length=ds.length
 |_,_,.nil=>rfl
 |_,_,.cons _ t=>congrArg (· +1) t.length
theorem Wss.W7{H:Hp}:∀{xs:List V}{ds:List Wx}{i:Nat}{x:V},Wss H xs ds→xs[i]? =some x→∃d,ds[i]? =some d∧Ws H x d
 |_,_,_,_,.nil,e=>by simp at e
 |_,_,0,_,.cons h _,e=>by
  simp at e
  subst e
  exact⟨_,rfl,h⟩
 |_,_,i+1,d,.cons _ t,e=>by
  obtain⟨x,h1,h2⟩:=Wss.W7 (i:=i) t (by simpa using e)
  exact⟨x,by simpa using h1,h2⟩
theorem Wss.append{H:Hp}:∀{xs ys:List V}{ds es:List Wx},Wss H xs ds→Wss H ys es→Wss H (xs++ys) (ds++es)
 |_,_,_,_,.nil,t=>t
 |_,_,_,_,.cons h t,u=>.cons h (t.append u)
mutual
theorem Ws.keep{H H':Hp}(k:∀b ys,H b=some (.tup ys)→H' b=some (.tup ys)) (kl:∀b ys,H b=some (.lst ys)→∃zs,H' b=some (.lst zs)):∀{x:V}{d:Wx},Ws H x d→Ws H' x d
 |_,_,.non=>.non
 |_,_,.bl=>.bl
 |_,_,.int=>.int
 |_,_,.str=>.str
 |_,_,.tup h t=>.tup (k _ _ h) (Wss.keep k kl t)
 |_,_,.lst h=>let ⟨_,e⟩:=kl _ _ h; .lst e
theorem Wss.keep{H H':Hp}(k:∀b ys,H b=some (.tup ys)→H' b=some (.tup ys)) (kl:∀b ys,H b=some (.lst ys)→∃zs,H' b=some (.lst zs)):∀{xs:List V}{ds:List Wx},Wss H xs ds→Wss H' xs ds
 |_,_,.nil=>.nil
 |_,_,.cons h t=>.cons (h.keep k kl) (Wss.keep k kl t)
end
theorem Ws.same{H H':Hp}{x:V}{d:Wx}(h:Ws H x d)(S:Qg H H'):Ws H' x d:=h.keep (fun b ys e=>S _ _ e) (fun b ys e=>⟨ys,S _ _ e⟩)
theorem Wss.same{H H':Hp}{xs:List V}{ds:List Wx}(h:Wss H xs ds)(S:Qg H H'):Wss H' xs ds:=h.keep (fun b ys e=>S _ _ e) (fun b ys e=>⟨ys,S _ _ e⟩)
mutual
def toW:Dv→Wx
 | .non=>.non
 | .bl b=>.bl b
 | .int i=>.int i
 | .str x=>.str x
 | .tup ds=>.tup (z0 ds)
def z0:List Dv→List Wx
 |[]=>[]
 |d::ds=>toW d::z0 ds
end
theorem ZW:∀ds,z0 ds=ds.map toW
 |[]=>rfl
 |d::ds=>by rw[z0,ZW ds];rfl
mutual
theorem Deep.ws{H:Hp}:∀{v:V}{d:Dv},Deep H v d→Ws H v (toW d)
 |_,_,.non=>by rw[toW];exact .non
 |_,_,.bl=>by rw[toW];exact .bl
 |_,_,.int=>by rw[toW];exact .int
 |_,_,.str=>by rw[toW];exact .str
 |_,_,.tup h t=>by rw[toW];exact .tup h (Deeps.ws t)
theorem Deeps.ws{H:Hp}:∀{xs:List V}{ds:List Dv},Deeps H xs ds→Wss H xs (z0 ds)
 |_,_,.nil=>by rw[z0];exact .nil
 |_,_,.cons h t=>by rw[z0];exact .cons (Deep.ws h) (Deeps.ws t)
end
mutual
theorem Ws.deep{H:Hp}:∀{d:Dv}{v:V},Ws H v (toW d)→Deep H v d
 | .non,_,h=>by rw[toW]at h;cases h;exact .non
 | .bl b,_,h=>by rw[toW]at h;cases h;exact .bl
 | .int i,_,h=>by rw[toW]at h;cases h;exact .int
 | .str x,_,h=>by rw[toW]at h;cases h;exact .str
 | .tup ds,_,h=>by
  rw[toW]at h
  cases h with
  |tup h t=>exact .tup h (Wss.deep t)
theorem Wss.deep{H:Hp}:∀{ds:List Dv}{xs:List V},Wss H xs (z0 ds)→Deeps H xs ds
 |[],_,h=>by rw[z0]at h;cases h;exact .nil
 |d::ds,_,h=>by
  rw[z0]at h
  cases h with
  |cons h t=>exact .cons (Ws.deep h) (Wss.deep t)
end
def tyW:Wx→String
 | .non=>"NoneType"
 | .bl _=>"bool"
 | .int _=>"int"
 | .str _=>"str"
 | .tup _=>"tuple"
 | .lst=>"list"
theorem Ws.ty{K:PySem.W.Frag}{H:Hp}{v:V}{d:Wx}(h:Ws H v d):TyOf K H v (.type (tyW d)):=by
 cases h with
 |non=>exact .non
 |bl=>exact .bl _
 |int=>exact .int _
 |str=>exact .str _
 |tup h t=>exact .tup h
 |lst h=>exact .lst h
theorem Ws.Qa3{H:Hp}{v:V}{x:Str}(h:Ws H v (.str x)):v=.str x:=by cases h;rfl
theorem Ws.vT{H:Hp}{v:V}{x:Int}(h:Ws H v (.int x)):v=.int x:=by cases h;rfl
theorem QaC{H:Hp}{xs:List V}{ds:List Wx}(t:Wss H xs ds){p:Addr}(hp:H p=none):Ws (upd H p (.tup xs)) (.ref p) (.tup ds):=.tup Qc (t.same (Qg.new hp))
def TaW(σ:St)(H0:Hp)(ta:TA)(ds:List Wx):Prop:=∀(H:Hp)(R:List V→Hp→Prop),Qg H0 H→(∀xs H1,Qg H H1→Wss H1 xs ds→R xs H1)→ta σ H R
section
variable {σ:St}{H0:Hp}{t:TA}{ds:List Wx}
theorem QG:TaW σ H0 Kn []:=fun H R _ h=>h [] H (Qg.refl _) .nil
theorem ZL{x:Str}(h:TaW σ H0 t ds):TaW σ H0 (Q8 (tC (.str x)) t) (.str x::ds):=fun H R S0 k=>h H _ S0 fun xs H1 S t=>k _ _ S (.cons .str t)
theorem Zr{i:Int}(h:TaW σ H0 t ds):TaW σ H0 (Q8 (tC (.int i)) t) (.int i::ds):=fun H R S0 k=>h H _ S0 fun xs H1 S t=>k _ _ S (.cons .int t)
theorem QaD{b:Bool}(h:TaW σ H0 t ds):TaW σ H0 (Q8 (tC (.bl b)) t) (.bl b::ds):=fun H R S0 k=>h H _ S0 fun xs H1 S t=>k _ _ S (.cons .bl t)
theorem v4(h:TaW σ H0 t ds):TaW σ H0 (Q8 (tC .non) t) (.non::ds):=fun H R S0 k=>h H _ S0 fun xs H1 S t=>k _ _ S (.cons .non t)
theorem Jj{i:Nat}{v:V}{d:Wx}(hv:σ[i]? =some (some v))(D:Ws H0 v d)(h:TaW σ H0 t ds):TaW σ H0 (Q8 (WV i) t) (d::ds):=fun H R S0 k=>⟨v,hv,h H _ S0 fun xs H1 S t=>k _ _ S (.cons ((D.same S0).same S) t)⟩
theorem QP{t1:TA}{es:List Wx}(h1:TaW σ H0 t1 es)(hl:es.length≤sizeLine)(h:TaW σ H0 t ds):TaW σ H0 (Q8 (wJ t1) t) (.tup es::ds):=fun H R S0 k=>h1 H _ S0 fun xs H1 S t1=>⟨by rw[t1.length];exact hl,fun p hp=>h _ _ ((S0.trans S).trans (Qg.new hp)) fun ys H2 S2 t2=>k _ _ ((S.trans (Qg.new hp)).trans S2) (.cons ((QaC t1 hp).same S2) t2)⟩
theorem QaE{te:TA}{Q:VK}{H:Hp}(h:TaW σ H0 te ds)(S0:Qg H0 H)(hl:ds.length≤sizeLine)(k:∀q xs H',Qg H H'→H q=none→H' q=some (.lst xs)→Wss H' xs ds→Q (.ref q) H'):yE te σ H Q:=h H _ S0 fun xs H1 S t=>⟨by rw[t.length];exact hl,fun p hp=>k p xs _ (S.trans (Qg.new hp)) (by
 cases e:H p with
 |none=>rfl
 |some o=>rw[S _ _ e]at hp;cases hp) Qc (t.same (Qg.new hp))⟩
end
end L2
set_option Elab.async false
set_option linter.all false
set_option maxRecDepth 100000
namespace L2
open PySem PySem.Spec PyProof.Rows
structure PTx(X:Cx)(e:Expr)(t:TT):Prop where
 pt:PT X e t
structure PWx(X:Cx)(e:Expr)(t:TT):Prop where
 pw:PW X e t
section
variable {X:Cx}{E:XK}{o e f a b c:Expr}{es rest:List Expr}{ks:List Keyword}{pos p apos cpos:Pos}{te ta tb to:TE}{t1 t2:TT}{t:TA}{k k':Nat}{x:Str}{ps:List Str}{sp:Sp}{T id:String}{name:Str}{r:V→List V→Hp→VK→Prop}
theorem KG(h:PEx X (.Call f es ks pos) te):PTx X (.Call f es ks pos) (tB te):=⟨JR h.pe⟩
theorem UA(h:PTx X a t1):PTx X (.UnaryOp .Not a pos) (Qa8 t1):=⟨Za h.pt⟩
theorem z5(h:PTx X a t1):PWx X (.BoolOp .Or [a] pos) t1:=⟨Z3 h.pt⟩
theorem z7(h:PTx X a t1)(hb:PWx X (.BoolOp .Or (b::rest) pos) t2):PWx X (.BoolOp .Or (a::b::rest) pos) (tOr t1 t2):=⟨Km h.pt hb.pw⟩
theorem wW(h:PWx X e t1):PTx X e t1:=⟨h.pw.pt⟩
theorem ZM{s1 s2:List Stmt}{u1 u2:TS}(hc:PTx X c t1)(ha:PSx X s1 u1)(hb:PSx X s2 u2):PSy X (.If c s1 s2 pos) (yD t1 u1 u2):=⟨Xa hc.pt ha.ps hb.ps⟩
theorem YF(D:Def X.prog X.w X.K X.mg X.base k x ps sp)(hr:Room k' X.A)(hk:k≤k')(hg:Gl X x)(hx:Passes (CXE X.prog X.w) X E)(ha:PAx X [e] t)(h:isStar e=false)(hdb:(x==("__debug__":Str))=false):PEx X (.Call (.Name x p) [e] [] pos) (V8 sp [] E t):=⟨D.pe hr hk hg hx ha.pa hdb (Wr h) rfl⟩
theorem JY(D:Def X.prog X.w X.K X.mg X.base k x ps sp)(hr:Room k' X.A)(hk:k≤k')(hg:Gl X x)(hx:Passes (CXE X.prog X.w) X E)(ha:PAx X [e,f] t)(h:isStar e=false)(h2:isStar f=false)(hdb:(x==("__debug__":Str))=false):PEx X (.Call (.Name x p) [e,f] [] pos) (V8 sp [] E t):=⟨D.pe hr hk hg hx ha.pa hdb (Wr h) (by rw[Wr h2];rfl)⟩
theorem wf(ha:PEx X a ta)(hb:PEx X b tb):PEx X (.BoolOp .And [a,b] pos) (vm ta tb):=⟨Zz ha.pe (Zy hb.pe)⟩
end
end L2
set_option Elab.async false
set_option linter.all false
set_option maxRecDepth 100000
namespace Lw
open PySem PySem.Spec PyProof.Rows L2
open Builtin Builtin.Str StrLaws
def isT:Wx→Bool
 | .tup _=>true
 |_=>false
def isS:Wx→Bool
 | .str _=>true
 |_=>false
structure KitL(K:PySem.W.Frag):Prop where
 t:∀d:Wx,PySem.W.kitOne K (.type (tyW d)) (.type "tuple")=some (isT d)
 s:∀d:Wx,PySem.W.kitOne K (.type (tyW d)) (.type "str")=some (isS d)
 ii:PySem.W.kitOne K (.type "int") (.type "int")=some true
 bi:PySem.W.kitOne K (.type "bool") (.type "int")=some true
 ib:PySem.W.kitOne K (.type "int") (.type "bool")=some false
 bb:PySem.W.kitOne K (.type "bool") (.type "bool")=some true
def nmW:Wx→Bool
 | .str z=>Zv z
 |_=>false
section
variable {P:Program}{w:World}{K:PySem.W.Frag}{mg:Str→Option Value}{base:Heap}{f:Addr}{fd:FuncData}{tk:Nat→Tok}{c kr:Nat→Addr}
def z8:Sp:=fun vs H Q _=>∃(v:V)(d:Wx),vs=[v]∧Ws H v d∧(∀z,d=.str z→z.length≤1000)∧Q (.bl (nmW d)) H
theorem jn(F:Fun K "is_name" "is_name" Wg f fd)(O:Own mg)(T:Txt K mg tk c kr)(KT:KitL K):FnOk P w K mg base (CXE P w) 1 f fd ["thing"] z8:=by
 refine zq F je (fun vs H Q E h=>?_) (fun cdv A outer s H vs Q E hr h=>?_)
 ·obtain⟨v,d,rfl,_⟩:=h
  rfl
 ·obtain⟨v,d,rfl,D,hl,k⟩:=h
  have hz:1000≤sizeLine:=by decide
  refine⟨_,(QF (QJ (PEx.mk (Zz (Qh Qx rfl O.isi PyProof.Rows.boot_isinstance (QC (pv 0) (QC (JQ (v:=V.ty "str") rfl O.str PyProof.Rows.boot_str rfl) Qb))) (Zz (Vj jY jY Qf (Qh Yi rfl O.len PySem.boot_len (QC (pv 0) Qb)) (QW (v:=V.int 12) rfl T.m_LONGEST_NAME ⟨_,rfl⟩)) (Zy (Jl Xr (XT PySem.F.plainAttrs_str PySem.F.slot_str_strip PySem.F.type_str_strip kQ (pv 0) (QC (QW (v:=V.str "abcdefghijklmnopqrstuvwxyz") rfl T.m_SMALL_LETTERS ⟨_,rfl⟩) Qb)) Qq (Qz _)))))))),?_⟩
  refine⟨_,rfl,_,_,isS d,rfl,rfl,.inl ⟨_,D.ty,KT.s d⟩,isS d,rfl,?_⟩
  cases D with
  |non=>exact Jx k
  |bl=>exact Jx k
  |int=>exact Jx k
  |lst g=>exact Jx k
  |tup g t=>exact Jx k
  |@str z=>
   have hl:=hl z rfl
   have k:Q (.bl (Zv z)) H:=k
   unfold Zv at k
   refine Q3 ⟨_,rfl,z,rfl,by omega,_,_,rfl,rfl,_,rfl,?_⟩
   refine ifB (fun h1=>?_) (fun h1=>?_)
   ·have h1:decide ((1:Int)≤(z.length:Nat))=true:=h1
    have h1':decide (1≤z.length)=true:=decide_eq_true (by have:=of_decide_eq_true h1;omega)
    rw[h1',Bool.true_and]at k
    refine⟨_,_,rfl,rfl,_,rfl,?_⟩
    refine ifB (fun h2=>?_) (fun h2=>?_)
    ·have h2':decide (z.length≤12)=true:=decide_eq_true (by have:=of_decide_eq_true h2;omega)
     rw[h2',Bool.true_and]at k
     exact⟨_,rfl,rfl,z,_,rfl,rfl,Nat.le_trans hl hz,rfl,k⟩
    ·have h2':decide (z.length≤12)=false:=decide_eq_false (by have:=of_decide_eq_false h2;omega)
     rw[h2',Bool.false_and]at k
     exact k
   ·have h1':decide (1≤z.length)=false:=decide_eq_false (by have:=of_decide_eq_false h1;omega)
    rw[h1',Bool.false_and,Bool.false_and]at k
    exact⟨_,rfl,Jx k⟩
def isW:Wx→Bool
 | .int _=>true
 |_=>false
def KH:Sp:=fun vs H Q _=>∃(v:V)(d:Wx),vs=[v]∧Ws H v d∧((∃i,d=.int i)∨∃b,d=.bl b)∧Q (.bl (isW d)) H
theorem UB(F:Fun K "is_whole" "is_whole" X2 f fd)(O:Own mg)(KT:KitL K):FnOk P w K mg base (CXE P w) 1 f fd ["thing"] KH:=by
 refine zq F Ur (fun vs H Q E h=>?_) (fun cdv A outer s H vs Q E hr h=>?_)
 ·obtain⟨v,d,rfl,_⟩:=h
  rfl
 ·obtain⟨v,d,rfl,D,hd,k⟩:=h
  refine⟨_,(QF (QJ (PEx.mk (Zz (Qh Qx rfl O.isi PyProof.Rows.boot_isinstance (QC (pv 0) (QC (JQ (v:=V.ty "int") rfl O.int PyProof.Rows.boot_int rfl) Qb))) (Zy (yQ (Qh Qx rfl O.isi PyProof.Rows.boot_isinstance (QC (pv 0) (QC (JQ (v:=V.ty "bool") rfl O.bool PyProof.Rows.boot_bool rfl) Qb))))))))),?_⟩
  rcases hd with⟨i,rfl⟩|⟨b,rfl⟩
  ·cases D
   refine⟨_,rfl,_,_,true,rfl,rfl,.inl ⟨_,.int _,KT.ii⟩,true,rfl,Q3 ?_⟩
   exact⟨_,rfl,_,_,false,rfl,rfl,.inl ⟨_,.int _,KT.ib⟩,_,rfl,k⟩
  ·cases D
   refine⟨_,rfl,_,_,true,rfl,rfl,.inl ⟨_,.bl _,KT.bi⟩,true,rfl,Q3 ?_⟩
   exact⟨_,rfl,_,_,true,rfl,rfl,.inl ⟨_,.bl _,KT.bb⟩,_,rfl,k⟩
def UC:Wx→Str
 | .str z=>z
 |_=>""
def anW:Wx→Bool
 | .tup ds=>ds.all nmW&&L2.unlike (ds.map UC)
 |_=>false
def VG:Wx→Prop
 | .tup ds=>ds.length<400∧∀x∈ds,∀z,x=.str z→z.length≤1000
 |_=>True
theorem Wt{H:Hp}:∀{xs:List V}{ds:List Wx},Wss H xs ds→ds.all nmW=true→xs=(ds.map UC).map V.str
 |_,_,.nil,_=>rfl
 |_,_,.cons (d:=d) h t,ha=>by
  rw[List.all_cons,Bool.and_eq_true]at ha
  cases d with
  |str z=>
   rw[h.Qa3,List.map_cons,List.map_cons, ←Wt t ha.2]
   rfl
  |_=>cases ha.1
theorem ta1{te:TE}{σ:L2.St}{H:Hp}{R:List V→Hp→Prop}(h:te σ H fun v H1=>R [v] H1):Q8 te Kn σ H R:=h
def z9:Sp:=fun vs H Q _=>∃(v:V)(d:Wx),vs=[v]∧Ws H v d∧VG d∧∀H',Qg H H'→Q (.bl (anW d)) H'
theorem YG(F:Fun K "are_names" "are_names" Xg f fd)(O:Own mg)(OT:mg "tuple"=none)(OA:mg "all"=none)(OS:mg "set"=none)(KT:KitL K)(D_is_name:Def P w K mg base 1 "is_name" ["thing"] z8):FnOk P w K mg base (CXE P w) 2 f fd ["thing"] z9:=by
 refine zq F YC (fun vs H Q E h=>?_) (fun cdv A outer s H vs Q E hr h=>?_)
 ·obtain⟨v,d,rfl,_⟩:=h
  rfl
 ·obtain⟨v,d,rfl,D,hA,k⟩:=h
  have hz:1000≤sizeLine:=by decide
  refine⟨_,(Qo (Vd (PW.pt (Km (Za (JR (Qh Qx rfl O.isi PyProof.Rows.boot_isinstance (QC (pv 0) (QC (JQ (v:=V.ty "tuple") rfl OT PyProof.Rows.boot_tuple rfl) Qb))))) (Z3 (Za (JR (Qh (KC rfl) rfl OA PyProof.Rows.boot_all (QC (ZU (NB:=[".0","name"]) rfl ⟨rfl,by decide+kernel,by decide+kernel,by decide+kernel⟩ (Z4 (pv 0)) (fun _ _ _=>(Qj (i:=1) (show([".0","name"]:List Str).Nodup by decide+kernel) rfl (Or.inl rfl))) (fun _ _ _=>Jm) (fun _ _ _=>(D_is_name.pe hr (by decide) rfl Qn (QC (pv 1) Qb)))) Qb))))))) (QF (QJ (PEx.mk JP))) Jw)
   (QF (QJ (PEx.mk (Jl Xr (Qh K9 rfl O.len PySem.boot_len (QC (QH (qg rfl) rfl OS PyProof.Rows.boot_set (QC (pv 0) Qb)) Qb)) (Qh Qp rfl O.len PySem.boot_len (QC (pv 0) Qb)) (Qz _)))))),?_⟩
  dsimp only[QL,JI,Zj,QK]
  refine⟨_,rfl,_,_,isT d,rfl,rfl,.inl ⟨_,D.ty,KT.t d⟩,isT d,rfl,?_⟩
  cases D with
  |non=>exact Q3 (Q3 (k _ (Qg.refl _)))
  |bl=>exact Q3 (Q3 (k _ (Qg.refl _)))
  |int=>exact Q3 (Q3 (k _ (Qg.refl _)))
  |str=>exact Q3 (Q3 (k _ (Qg.refl _)))
  |lst g=>exact Q3 (Q3 (k _ (Qg.refl _)))
  |@tup a xs ds g t=>
   obtain⟨hA1,hA2⟩:=hA
   have lx:=t.length
   have k:∀H',Qg H H'→Q (.bl (ds.all nmW&&L2.unlike (ds.map UC))) H':=k
   refine Jx (wT (cb1 ?_))
   refine Vs (x6 (K:=K) (a:=a) (xs:=xs)) (fun i vs H1=>Qg H H1∧vs=((ds.take i).map nmW).map V.bl) (fun R h=>⟨_,rfl,a,rfl,⟨_,.inl (.inl g)⟩,h _ ⟨Qg.refl _,rfl⟩⟩) ?_ ?_ ?_ (by omega)
   ·rintro i vs H1 hi ⟨S,rfl⟩
    refine⟨.inl (.inl (S _ _ g)),?_⟩
    rw[List.length_map,List.length_map,List.length_take]
    omega
   ·rintro i v vs H1 H2 hi ⟨S,rfl⟩ ⟨rfl,hv⟩
    obtain⟨d,hd,Dd⟩:=t.W7 hv
    refine⟨_,rfl,v,d,rfl,Dd.same S,fun z e=>hA2 d (List.mem_of_getElem? hd) z e,S,?_⟩
    rw[List.take_add_one,hd]
    simp
   rintro vs H1 ⟨S1,rfl⟩ p hp
   rw[List.take_of_length_le (by omega)]
   have S2:=S1.trans (Qg.new (o:=.lst ((ds.map nmW).map V.bl)) hp)
   refine⟨p,_,rfl,.inl (.inl Qc),_,rfl,?_⟩
   generalize upd H1 p (.lst ((ds.map nmW).map V.bl))=H2 at S2
   have ea:(ds.map nmW).all id=ds.all nmW:=by rw[List.all_map];rfl
   rw[ea]
   cases hall:ds.all nmW with
   |false=>
    rw[hall,Bool.false_and]at k
    exact Q3 (k _ S2)
   |true=>
    rw[hall,Bool.true_and]at k
    obtain rfl:=Wt t hall
    have hlm:((ds.map UC).map V.str).length=(ds.map UC).length:=List.length_map ..
    refine Jx ?_
    have g2:=S2 _ _ g
    refine⟨_,rfl,a,ds.map UC,rfl,.inl (.inl g2),by rw[List.length_map];omega,fun q hq=>⟨q,_,rfl,Qc,_,rfl,a,_,rfl,.inr (.inl (.inl (Qg.new hq _ _ g2))),rfl,?_⟩⟩
    have e:decide (V.int ((many (ds.map UC):Nat):Int)=V.int (((ds.map UC).map V.str).length:Nat))=L2.unlike (ds.map UC):=by
     rw[←VF,hlm]
     refine decide_eq_decide.mpr ⟨fun z=>?_,fun z=>by rw[z]⟩
     injection z with z
     omega
    rw[←e]at k
    exact k _ (S2.trans (Qg.new hq))
def x8:Wx→Bool
 | .tup [.int _,.int o]=>decide (0≤o)&&decide (o≤18)
 |_=>false
def v5(d:Wx):Prop:=(∃i,d=.int i)∨∃b,d=.bl b
def Qa5:Wx→Prop
 | .tup [a,b]=>v5 a∧v5 b
 |_=>True
def xf:Sp:=fun vs H Q _=>∃(v:V)(d:Wx),vs=[v]∧Ws H v d∧Qa5 d∧Q (.bl (x8 d)) H
theorem YH(F:Fun K "is_amount" "is_amount" Xh f fd)(O:Own mg)(OT:mg "tuple"=none)(T:Txt K mg tk c kr)(KT:KitL K)(D_is_whole:Def P w K mg base 1 "is_whole" ["thing"] KH):FnOk P w K mg base (CXE P w) 2 f fd ["thing"] xf:=by
 refine zq F YE (fun vs H Q E h=>?_) (fun cdv A outer s H vs Q E hr h=>?_)
 ·obtain⟨v,d,rfl,_⟩:=h
  rfl
 ·obtain⟨v,d,rfl,D,hA,k⟩:=h
  refine⟨_,(Qo (Vd (PW.pt (Km (Za (JR (Qh Qx rfl O.isi PyProof.Rows.boot_isinstance (QC (pv 0) (QC (JQ (v:=V.ty "tuple") rfl OT PyProof.Rows.boot_tuple rfl) Qb))))) (Z3 (QB Y4 (Qh Qp rfl O.len PySem.boot_len (QC (pv 0) Qb)) Qf (Qz _))))) (QF (QJ (PEx.mk JP))) Jw)
   (QF (QJ (PEx.mk (Zz (D_is_whole.pe hr (by decide) rfl Qn (QC (QT Qt (pv 0) Qf (fun _ _=>rfl)) Qb)) (Zz (D_is_whole.pe hr (by decide) rfl Qn (QC (QT Qt (pv 0) Qf (fun _ _=>rfl)) Qb)) (Zy (Vj jY jY Qf (QT Qt (pv 0) Qf (fun _ _=>rfl)) (QW (v:=V.int 18) rfl T.m_MOST_PLACES ⟨_,rfl⟩))))))))),?_⟩
  dsimp only[QL,JI,Zj,QK]
  refine⟨_,rfl,_,_,isT d,rfl,rfl,.inl ⟨_,D.ty,KT.t d⟩,isT d,rfl,?_⟩
  cases D with
  |non=>exact Q3 (Q3 k)
  |bl=>exact Q3 (Q3 k)
  |int=>exact Q3 (Q3 k)
  |str=>exact Q3 (Q3 k)
  |lst g=>exact Q3 (Q3 k)
  |@tup a xs ds g t=>
   refine Jx ⟨_,rfl,a,xs,rfl,.inr (.inl (.inl g)),rfl,?_⟩
   have lx:=t.length
   rcases ds with _|⟨d0,_|⟨d1,_|⟨d2,ds⟩⟩⟩
   ·cases t
    exact⟨true,rfl,Q3 k⟩
   ·cases t with
    |cons h0 t=>
     cases t
     have e:x8 (.tup [d0])=false:=by cases d0<;>rfl
     rw[e]at k
     exact⟨true,rfl,Q3 k⟩
   ·cases t with
    |@cons x0 _ xs _ h0 t=>cases t with
     |@cons x1 _ xs _ h1 t=>
      cases t
      obtain⟨hi0,hi1⟩:v5 d0∧v5 d1:=hA
      refine⟨false,rfl,Jx ?_⟩
      refine⟨_,rfl,a,_,0,_,rfl,rfl,.inl g,rfl,x0,d0,rfl,h0,hi0,isW d0,rfl,?_⟩
      rcases hi0 with⟨u,rfl⟩|⟨b,rfl⟩
      ·refine Q3 ⟨_,rfl,a,_,1,_,rfl,rfl,.inl g,rfl,x1,d1,rfl,h1,hi1,isW d1,rfl,?_⟩
       rcases hi1 with⟨o,rfl⟩|⟨b,rfl⟩
       ·obtain rfl:=h1.vT
        have k:Q (.bl (decide (0≤o)&&decide (o≤18))) H:=k
        refine Q3 ⟨_,rfl,a,_,1,_,rfl,rfl,.inl g,rfl,_,_,rfl,rfl,_,rfl,?_⟩
        refine ifB (fun h1=>?_) (fun h1=>?_)
        ·rw[show decide (0≤o)=true from h1,Bool.true_and]at k
         exact⟨_,_,rfl,rfl,k⟩
        ·rw[show decide (0≤o)=false from h1,Bool.false_and]at k
         exact k
       ·exact Jx k
      ·exact Jx k
   ·have e:x8 (.tup (d0::d1::d2::ds))=false:=by cases d0<;>cases d1<;>rfl
    rw[e]at k
    refine⟨true,congrArg V.bl ?_,Q3 k⟩
    have:¬ V.int ((xs.length:Nat):Int)=V.int 2:=fun z=>by
     injection z with z
     rw[lx]at z
     simp only[List.length_cons]at z
     omega
    rw[decide_eq_false this]
    rfl
def sg1(c:Nat):Bool:= !decide (([c]:List Nat)<[32])&& !decide (([126]:List Nat)<[c])
def yH:Wx→Bool
 | .str z=>z.cps.toList.all sg1
 |_=>false
def Qa6:Wx→Prop
 | .str z=>z.cps.all (· <128)=true∧z.cps.size≤1000
 |_=>True
def UD:Sp:=fun vs H Q _=>∃(v:V)(d:Wx),vs=[v]∧Ws H v d∧Qa6 d∧∀H',Qg H H'→Q (.bl (yH d)) H'
theorem jp(F:Fun K "is_text" "is_text" Wi f fd)(O:Own mg)(OA:mg "all"=none)(T:Txt K mg tk c kr)(KT:KitL K):FnOk P w K mg base (CXE P w) 1 f fd ["thing"] UD:=by
 refine zq F jf (fun vs H Q E h=>?_) (fun cdv A outer s H vs Q E hr h=>?_)
 ·obtain⟨v,d,rfl,_⟩:=h
  rfl
 ·obtain⟨v,d,rfl,D,hA,k⟩:=h
  have hz:10000≤sizeLine:=by rw[sizeLine_eq];decide
  refine⟨_,(QF (QJ (PEx.mk (Zz (Qh Qx rfl O.isi PyProof.Rows.boot_isinstance (QC (pv 0) (QC (JQ (v:=V.ty "str") rfl O.str PyProof.Rows.boot_str rfl) Qb))) (Zy (Qh (KC rfl) rfl OA PyProof.Rows.boot_all (QC (ZU (NB:=[".0","sign"]) rfl ⟨rfl,by decide+kernel,by decide+kernel,by decide+kernel⟩ (Qaq (pv 0)) (fun _ _ _=>(Qj (i:=1) (show([".0","sign"]:List Str).Nodup by decide+kernel) rfl (Or.inl rfl))) (fun _ _ _=>Jm) (fun _ _ _=>(Vj YA YA (QW (v:=V.str " ") rfl T.m_FIRST_SIGN ⟨_,rfl⟩) (pv 1) (QW (v:=V.str "~") rfl T.m_LAST_SIGN ⟨_,rfl⟩)))) Qb))))))),?_⟩
  refine⟨_,rfl,_,_,isS d,rfl,rfl,.inl ⟨_,D.ty,KT.s d⟩,isS d,rfl,?_⟩
  cases D with
  |non=>exact Jx (k _ (Qg.refl _))
  |bl=>exact Jx (k _ (Qg.refl _))
  |int=>exact Jx (k _ (Qg.refl _))
  |lst g=>exact Jx (k _ (Qg.refl _))
  |tup g t=>exact Jx (k _ (Qg.refl _))
  |@str z=>
   obtain⟨h1,h2⟩:=hA
   have k:∀H',Qg H H'→Q (.bl (z.cps.toList.all sg1)) H':=k
   refine Q3 (cb1 ?_)
   refine Vs (Qcu (z:=z)) (fun i vs H1=>H1=H∧vs=((z.cps.toList.take i).map sg1).map V.bl) (fun R h=>⟨_,rfl,z,rfl,h1,h H ⟨rfl,rfl⟩⟩) ?_ ?_ ?_ (by omega)
   ·rintro i vs H1 hi ⟨rfl,rfl⟩
    refine⟨trivial,?_⟩
    rw[List.length_map,List.length_map,List.length_take]
    omega
   ·rintro i v vs H1 H2 hi ⟨rfl,rfl⟩ ⟨rfl,ch,hc,rfl⟩
    have hc2:z.cps.toList[i]? =some ch:=by simpa using hc
    refine⟨_,rfl," ",⟨#[ch]⟩,rfl,rfl,_,rfl,?_⟩
    have e1:(!decide ((⟨#[ch]⟩:Str).cps.toList<(" ":Str).cps.toList))= !decide (([ch]:List Nat)<[32]):=rfl
    rw[List.take_add_one,hc2,e1]
    cases hb: !decide (([ch]:List Nat)<[32])with
    |true=>
     refine Q3 ⟨⟨#[ch]⟩,"~",rfl,rfl,rfl,?_⟩
     have e2:(!decide (("~":Str).cps.toList<(⟨#[ch]⟩:Str).cps.toList))=sg1 ch:=by
      show(!decide (([126]:List Nat)<[ch]))=(!decide (([ch]:List Nat)<[32])&& !decide (([126]:List Nat)<[ch]))
      rw[hb,Bool.true_and]
     rw[e2]
     simp
    |false=>
     have e2:sg1 ch=false:=by unfold sg1;rw[hb,Bool.false_and]
     refine Jx ⟨rfl,?_⟩
     simp[e2]
   rintro vs H1 ⟨rfl,rfl⟩ p hp
   rw[List.take_of_length_le (by simp)]
   refine⟨p,_,rfl,.inl (.inl Qc),?_⟩
   have ea:(z.cps.toList.map sg1).all id=z.cps.toList.all sg1:=by rw[List.all_map];rfl
   rw[ea]
   exact k _ (Qg.new hp)
end
end Lw
set_option Elab.async false
set_option linter.all false
set_option maxRecDepth 100000
namespace Lw
open PySem PySem.Spec PyProof.Rows L2
open Builtin Builtin.Str StrLaws
def XG(sums:List Str)(x:Str × Wx):Bool:=x8 x.2||(!(sums.contains x.1)&&yH x.2)
def xg(π:Plan):Wx→Bool
 | .tup ds=>decide (ds.length=π.cols.length)&&(π.cols.zip ds).all (XG π.sums)
 |_=>false
def UE:Wx→Prop
 | .tup ds=>ds.length<900∧∀x∈ds,Qa5 x∧Qa6 x
 |_=>True
section
variable {P:Program}{w:World}{K:PySem.W.Frag}{mg:Str→Option Value}{base:Heap}{f:Addr}{fd:FuncData}{tk:Nat→Tok}{c kr:Nat→Addr}
theorem wX{α β:Type}{xs:List α}{ys:List β}{i:Nat}{x:α}{y:β}(hx:xs[i]? =some x)(hy:ys[i]? =some y):(xs.zip ys)[i]? =some (x,y):=by
 rw[List.getElem?_zip_eq_some]
 exact⟨hx,hy⟩
def qo:Sp:=fun vs H Q _=>∃(v r:V)(π:Plan)(d:Wx),vs=[v,r]∧Deep H v (JM π)∧PlanOk π∧Ws H r d∧UE d∧∀H',Qg H H'→Q (.bl (xg π d)) H'
set_option maxHeartbeats 1000000 in
theorem xh(F:Fun K "is_row" "is_row" Vy f fd)(O:Own mg)(OT:mg "tuple"=none)(OA:mg "all"=none)(OZ:mg "zip"=none)(KT:KitL K)(D_is_amount:Def P w K mg base 2 "is_amount" ["thing"] xf)(D_is_text:Def P w K mg base 1 "is_text" ["thing"] UD):FnOk P w K mg base (CXE P w) 3 f fd ["plan","thing"] qo:=by
 refine zq F ZH (fun vs H Q E h=>?_) (fun cdv A outer s H vs Q E hr h=>?_)
 ·obtain⟨v,r,π,d,rfl,_⟩:=h
  rfl
 ·obtain⟨v,r,π,d,rfl,D,Z,DR,hA,k⟩:=h
  have hz:1000≤sizeLine:=by decide
  have z1:=Z.lc
  refine⟨_,(Qo (PSy.mk (Zb (pv 0) (Jy rfl (Qk (Qj (i:=2) ZH.nd rfl (Or.inl rfl)) (Qk (Qj (i:=3) ZH.nd rfl (Or.inl rfl)) (Qk (Qj (i:=4) ZH.nd rfl (Or.inr rfl)) (Qk (Qj (i:=5) ZH.nd rfl (Or.inl rfl)) QX)))))))
   (Qo (Vd (PW.pt (Km (Za (JR (Qh Qx rfl O.isi PyProof.Rows.boot_isinstance (QC (pv 1) (QC (JQ (v:=V.ty "tuple") rfl OT PyProof.Rows.boot_tuple rfl) Qb))))) (Z3 (QB Y4 (Qh Qp rfl O.len PySem.boot_len (QC (pv 1) Qb)) (Qh Qp rfl O.len PySem.boot_len (QC (pv 2) Qb)) (Qz _))))) (QF (QJ (PEx.mk JP))) Jw)
   (QF (QJ (PEx.mk (Qh (KC rfl) rfl OA PyProof.Rows.boot_all (QC (Jt (NB:=[".0","name","value"]) (FR:=["sums"]) (fi:=[4]) rfl ⟨rfl,by decide+kernel,by decide+kernel,by decide+kernel,by decide+kernel,by decide+kernel⟩ rfl rfl (Vr .tp .tp rfl OZ (QC (pv 2) (QC (pv 1) Qb))) (fun _ _ _=>(Ux (K0:=K) (n:=2) rfl rfl (Qk (Qj (i:=1) (show([".0","name","value","sums"]:List Str).Nodup by decide+kernel) rfl (Or.inl rfl) (Or.inr rfl)) (Qk (Qj (i:=2) (show([".0","name","value","sums"]:List Str).Nodup by decide+kernel) rfl (Or.inl rfl) (Or.inr rfl)) QX)))) (fun _ _ _=>Jm) (fun _ _ _=>(yP (D_is_amount.pe hr (by decide) rfl Qn (QC (pv 2) Qb)) (Zy (Zz (Jl YB (pv 1) (pv 3) (by with_unfolding_all rfl)) (Zy (D_is_text.pe hr (by decide) rfl Qn (QC (pv 2) Qb)))))))) Qb))))))),?_⟩
  obtain⟨a,ac,ak,as,L⟩:=Ju D
  obtain rfl:=L.v
  have hlc:(π.cols.map V.str).length=π.cols.length:=List.length_map ..
  refine⟨_,rfl,a,_,rfl,.inl (.inl L.a),rfl,_,_,rfl,_,_,rfl,_,_,rfl,_,_,rfl,rfl,?_⟩
  dsimp only[QL,JI,Zj,QK]
  refine⟨_,rfl,_,_,isT d,rfl,rfl,.inl ⟨_,DR.ty,KT.t d⟩,isT d,rfl,?_⟩
  cases DR with
  |non=>exact Q3 (Q3 (k _ (Qg.refl _)))
  |bl=>exact Q3 (Q3 (k _ (Qg.refl _)))
  |int=>exact Q3 (Q3 (k _ (Qg.refl _)))
  |str=>exact Q3 (Q3 (k _ (Qg.refl _)))
  |lst g=>exact Q3 (Q3 (k _ (Qg.refl _)))
  |@tup rr xs ds gr tr=>
   obtain⟨hA1,hA2⟩:=hA
   have lx:=tr.length
   have k:∀H',Qg H H'→Q (.bl (decide (ds.length=π.cols.length)&&(π.cols.zip ds).all (XG π.sums))) H':=k
   refine Jx ⟨_,rfl,rr,xs,rfl,.inr (.inl (.inl gr)),_,rfl,ac,_,rfl,.inr (.inl (.inl L.c)),rfl,_,rfl,?_⟩
   by_cases hlen:ds.length=π.cols.length
   ·rw[decide_eq_true hlen,Bool.true_and]at k
    have e:(!decide (V.int ((xs.length:Nat):Int)=V.int (((π.cols.map V.str).length:Nat):Int)))=false:=by rw[lx,hlc,hlen];simp
    rw[e]
    refine Jx ?_
    dsimp only[QK]
    refine ql (cb1 ?_)
    refine K8 (fv:=[.ref as]) (Qa1 (k1:=.tp) (k2:=.tp) (a1:=ac) (a2:=rr) (xs:=π.cols.map V.str) (ys:=xs)) (fun i vs H1=>Qg H H1∧vs=(((π.cols.zip ds).take i).map (XG π.sums)).map V.bl) (fun R h=>⟨_,rfl,_,rfl,ac,rr,rfl,⟨_,.inl L.c⟩,⟨_,.inl gr⟩,h _ ⟨Qg.refl _,rfl⟩⟩) rfl ?_ ?_ ?_ (by rw[hlc];omega)
    ·rintro i vs H1 hi ⟨S,rfl⟩
     refine⟨⟨.inl (S _ _ L.c),.inl (S _ _ gr)⟩,?_⟩
     rw[List.length_map,List.length_map,List.length_take]
     omega
    ·rintro i v vs H1 H2 hi ⟨S,rfl⟩ ⟨p,x,y,hp,rfl,hx,hy2,rfl⟩
     obtain⟨nm,hn,rfl⟩:=Va hx
     obtain⟨dy,hd,Dd⟩:=tr.W7 hy2
     have hzip:=wX hn hd
     obtain⟨ha1,ha2⟩:=hA2 dy (List.mem_of_getElem? hd)
     have Sp:=S.trans (Qg.new (o:=.tup [.str nm,y]) hp)
     have Dd:=Dd.same Sp
     rw[List.take_add_one,hzip]
     have fin:∀H3,Qg H H3→∀b:Bool,b=XG π.sums (nm,dy)→Qg H H3∧(((π.cols.zip ds).take i).map (XG π.sums)).map V.bl++[.bl b]=((((π.cols.zip ds).take i)++(some (nm,dy)).toList).map (XG π.sums)).map V.bl:=by
      rintro H3 S3 b rfl
      refine⟨S3,?_⟩
      simp
     refine⟨p,_,rfl,.inl (.inl Qc),rfl,_,_,rfl,_,_,rfl,rfl,rfl,?_⟩
     refine⟨_,rfl,y,dy,rfl,Dd,ha1,x8 dy,rfl,?_⟩
     cases hb:x8 dy with
     |true=>exact Q3 (fin _ Sp true (by unfold XG;rw[hb];rfl))
     |false=>
      refine Jx ⟨_,rfl,_,rfl,as,π.sums,nm,rfl,rfl,.inl (Sp _ _ L.s),_,rfl,?_⟩
      cases hs:π.sums.contains nm with
      |true=>exact Jx (fin _ Sp false (by unfold XG;rw[hb,hs];rfl))
      |false=>exact Q3 ⟨_,rfl,y,dy,rfl,Dd,ha2,fun H3 S3=>fin _ (Sp.trans S3) _ (by unfold XG;rw[hb,hs];simp)⟩
    rintro vs H1 ⟨S1,rfl⟩ q hq
    rw[List.take_of_length_le (by rw[List.length_zip];omega)]
    refine⟨q,_,rfl,.inl (.inl Qc),?_⟩
    have ea:((π.cols.zip ds).map (XG π.sums)).all id=(π.cols.zip ds).all (XG π.sums):=by rw[List.all_map];rfl
    rw[ea]
    exact k _ (S1.trans (Qg.new hq))
   ·rw[decide_eq_false hlen,Bool.false_and]at k
    have e:(!decide (V.int ((xs.length:Nat):Int)=V.int (((π.cols.map V.str).length:Nat):Int)))=true:=by
     rw[decide_eq_false (fun z=>by injection z with z;rw[lx,hlc]at z;exact hlen (by omega))]
     rfl
    rw[e]
    exact Q3 (k _ (Qg.refl _))
end
end Lw
set_option Elab.async false
set_option linter.all false
set_option maxRecDepth 100000
namespace Lw
open PySem PySem.Spec PyProof.Rows L2
open Builtin Builtin.Str StrLaws
def YV:Wx→List Str
 | .tup ds=>ds.map UC
 |_=>[]
def wh6:Wx→Bool
 | .int i=>decide (6≤i)
 |_=>false
def ZN(c k s l:Wx):Bool:=anW c&&(anW k&&(anW s&&(!(YV c).isEmpty&&((L2.unlike (YV k++YV s)&&(YV k++YV s).all fun x=>(YV c).contains x)&&wh6 l))))
def jq:Wx→Bool
 | .tup [c,k,s,l]=>ZN c k s l
 |_=>false
def QbG:Wx→Prop
 | .tup [c,k,s,l]=>VG c∧VG k∧VG s∧v5 l
 |_=>True
section
variable {P:Program}{w:World}{K:PySem.W.Frag}{mg:Str→Option Value}{base:Heap}{f:Addr}{fd:FuncData}{tk:Nat→Tok}{c kr:Nat→Addr}
theorem v6{H:Hp}{v:V}{d:Wx}(D:Ws H v d)(h:anW d=true):∃a,v=.ref a∧H a=some (.tup ((YV d).map V.str))∧YV d=YV d:=by
 cases D with
 |@tup a xs ds g t=>
  have h:(ds.all nmW&&L2.unlike (ds.map UC))=true:=h
  rw[Bool.and_eq_true]at h
  have e:=Wt t h.1
  subst e
  exact⟨a,rfl,g,rfl⟩
 |_=>cases h
def UF:Sp:=fun vs H Q _=>∃(v:V)(d:Wx),vs=[v]∧Ws H v d∧QbG d∧∀H',Qg H H'→Q (.bl (jq d)) H'
theorem UG{d:Wx}(h:VG d):(YV d).length<400:=by
 cases d with
 |tup ds=>show(ds.map UC).length<400;rw[List.length_map];exact h.1
 |_=>show 0<400;decide
set_option maxHeartbeats 1000000 in
theorem jr(F:Fun K "is_plan" "is_plan" Wh f fd)(O:Own mg)(OT:mg "tuple"=none)(OA:mg "all"=none)(OS:mg "set"=none)(T:Txt K mg tk c kr)(KT:KitL K)(D_is_whole:Def P w K mg base 1 "is_whole" ["thing"] KH)(D_are_names:Def P w K mg base 2 "are_names" ["thing"] z9):FnOk P w K mg base (CXE P w) 3 f fd ["thing"] UF:=by
 refine zq F JO (fun vs H Q E h=>?_) (fun cdv A outer s H vs Q E hr h=>?_)
 ·obtain⟨v,d,rfl,_⟩:=h
  rfl
 ·obtain⟨v,d,rfl,D,hA,k⟩:=h
  have hz:10000≤sizeLine:=by rw[sizeLine_eq];decide
  refine⟨_,(Qo (Vd (PW.pt (Km (Za (JR (Qh Qx rfl O.isi PyProof.Rows.boot_isinstance (QC (pv 0) (QC (JQ (v:=V.ty "tuple") rfl OT PyProof.Rows.boot_tuple rfl) Qb))))) (Z3 (QB Y4 (Qh Qp rfl O.len PySem.boot_len (QC (pv 0) Qb)) Qf (Qz _))))) (QF (QJ (PEx.mk JP))) Jw)
   (Qo (PSy.mk (Zb (pv 0) (Jy rfl (Qk (Qj (i:=1) JO.nd rfl (Or.inr rfl)) (Qk (Qj (i:=2) JO.nd rfl (Or.inl rfl)) (Qk (Qj (i:=3) JO.nd rfl (Or.inl rfl)) (Qk (Qj (i:=4) JO.nd rfl (Or.inl rfl)) QX)))))))
   (Qo (Vd (PW.pt (Km (Za (JR (D_are_names.pe hr (by decide) rfl Qn (QC (pv 1) Qb)))) (Km (Za (JR (D_are_names.pe hr (by decide) rfl Qn (QC (pv 2) Qb)))) (Km (Za (JR (D_are_names.pe hr (by decide) rfl Qn (QC (pv 3) Qb)))) (Z3 (QB Xr (Qh Qp rfl O.len PySem.boot_len (QC (pv 1) Qb)) Qf (Qz _))))))) (QF (QJ (PEx.mk JP))) Jw)
   (Qo (QY (i:=5) JO.nd rfl (Or.inl rfl) (XF J4 (PEx.mk (pv 2)) (PEx.mk (pv 3))) rfl rfl)
   (Qo (Vd (PW.pt (Km (QB Y4 (Qh K9 rfl O.len PySem.boot_len (QC (QH (qg rfl) rfl OS PyProof.Rows.boot_set (QC (pv 5) Qb)) Qb)) (Qh Qp rfl O.len PySem.boot_len (QC (pv 5) Qb)) (Qz _)) (Z3 (Za (JR (Qh (KC rfl) rfl OA PyProof.Rows.boot_all (QC (Jt (NB:=[".0","name"]) (FR:=["columns"]) (fi:=[1]) rfl ⟨rfl,by decide+kernel,by decide+kernel,by decide+kernel,by decide+kernel,by decide+kernel⟩ rfl rfl (Z4 (pv 5)) (fun _ _ _=>(Qj (i:=1) (show([".0","name","columns"]:List Str).Nodup by decide+kernel) rfl (Or.inl rfl))) (fun _ _ _=>Jm) (fun _ _ _=>(Jl wQ (pv 1) (pv 2) (by with_unfolding_all rfl)))) Qb))))))) (QF (QJ (PEx.mk JP))) Jw)
   (QF (QJ (PEx.mk (Zz (D_is_whole.pe hr (by decide) rfl Qn (QC (pv 4) Qb)) (Zy (Jl yR (pv 4) (QW (v:=V.int 6) rfl T.m_SHORTEST_PAGE ⟨_,rfl⟩) (Qz _)))))))))))),?_⟩
  dsimp only[QL,JI,Zj,QK]
  refine⟨_,rfl,_,_,isT d,rfl,rfl,.inl ⟨_,D.ty,KT.t d⟩,isT d,rfl,?_⟩
  cases D with
  |non=>exact Q3 (Q3 (k _ (Qg.refl _)))
  |bl=>exact Q3 (Q3 (k _ (Qg.refl _)))
  |int=>exact Q3 (Q3 (k _ (Qg.refl _)))
  |str=>exact Q3 (Q3 (k _ (Qg.refl _)))
  |lst g=>exact Q3 (Q3 (k _ (Qg.refl _)))
  |@tup a xs ds g t=>
   refine Jx ⟨_,rfl,a,xs,rfl,.inr (.inl (.inl g)),rfl,?_⟩
   have lx:=t.length
   by_cases h4:ds.length=4
   rotate_left
   ·have e:jq (.tup ds)=false:=by
     rcases ds with _|⟨d0,_|⟨d1,_|⟨d2,_|⟨d3,_|⟨d4,ds⟩⟩⟩⟩⟩
     ·rfl
     ·rfl
     ·rfl
     ·rfl
     ·exact absurd rfl h4
     ·rfl
    rw[e]at k
    refine⟨true,congrArg V.bl ?_,Q3 (k _ (Qg.refl _))⟩
    rw[decide_eq_false (fun z=>by injection z with z;rw[lx]at z;exact h4 (by omega))]
    rfl
   obtain⟨dc,dk,ds2,dl,rfl⟩:∃dc dk ds2 dl,ds=[dc,dk,ds2,dl]:=by
    rcases ds with _|⟨d0,_|⟨d1,_|⟨d2,_|⟨d3,_|⟨d4,ds⟩⟩⟩⟩⟩
    ·cases h4
    ·cases h4
    ·cases h4
    ·cases h4
    ·exact⟨_,_,_,_,rfl⟩
    ·simp at h4
   obtain⟨vc,vk,vs,vl,rfl,Dc,Dk,Ds,Dl⟩:∃vc vk vs vl,xs=[vc,vk,vs,vl]∧Ws H vc dc∧Ws H vk dk∧Ws H vs ds2∧Ws H vl dl:=by
    cases t with
    |cons h1 t=>cases t with
     |cons h2 t=>cases t with
      |cons h3 t=>cases t with
       |cons h4 t=>cases t;exact⟨_,_,_,_,rfl,h1,h2,h3,h4⟩
   obtain⟨hAc,hAk,hAs,hAl⟩:VG dc∧VG dk∧VG ds2∧v5 dl:=hA
   have k:∀H',Qg H H'→Q (.bl (ZN dc dk ds2 dl)) H':=k
   unfold ZN at k
   refine⟨false,rfl,Jx ?_⟩
   refine⟨_,rfl,a,_,rfl,.inl (.inl g),rfl,_,_,rfl,_,_,rfl,_,_,rfl,_,_,rfl,rfl,?_⟩
   dsimp only[QL,JI,Zj,QK]
   refine⟨_,rfl,vc,dc,rfl,Dc,hAc,fun H1 S1=>⟨_,rfl,?_⟩⟩
   cases hc:anW dc with
   |false=>
    rw[hc,Bool.false_and]at k
    exact Q3 (Q3 (k _ S1))
   |true=>
    rw[hc,Bool.true_and]at k
    refine Jx ⟨_,rfl,vk,dk,rfl,Dk.same S1,hAk,fun H2 S2=>⟨_,rfl,?_⟩⟩
    have S02:=S1.trans S2
    cases hk:anW dk with
    |false=>
     rw[hk,Bool.false_and]at k
     exact Q3 (Q3 (k _ S02))
    |true=>
     rw[hk,Bool.true_and]at k
     refine Jx ⟨_,rfl,vs,ds2,rfl,Ds.same S02,hAs,fun H3 S3=>⟨_,rfl,?_⟩⟩
     have S03:=S02.trans S3
     cases hs:anW ds2 with
     |false=>
      rw[hs,Bool.false_and]at k
      exact Q3 (Q3 (k _ S03))
     |true=>
      rw[hs,Bool.true_and]at k
      obtain⟨ac,rfl,gc,_⟩:=v6 Dc hc
      obtain⟨ak,rfl,gk,_⟩:=v6 Dk hk
      obtain⟨as,rfl,gs,_⟩:=v6 Ds hs
      have lc:=UG hAc
      have lk:=UG hAk
      have ls:=UG hAs
      generalize YV dc=cs at gc k lc
      generalize YV dk=ks at gk k lk
      generalize YV ds2=ss at gs k ls
      refine Jx ⟨_,rfl,ac,_,rfl,.inr (.inl (.inl (S03 _ _ gc))),rfl,?_⟩
      cases cs with
      |nil=>exact⟨true,rfl,Q3 (k _ S03)⟩
      |cons c0 cs0=>
       generalize hcs:c0::cs0=cs at gc k lc
       have hne:cs.length≠0:=by rw[←hcs,List.length_cons];omega
       have hem:cs.isEmpty=false:=by rw[←hcs];rfl
       rw[hem,Bool.not_false,Bool.true_and]at k
       clear hcs hem
       refine⟨false,congrArg V.bl (decide_eq_false fun z=>by injection z with z;rw[List.length_map]at z;exact hne (by omega)),Jx ?_⟩
       refine⟨_,rfl,_,rfl,We.deep (.tup (S03 _ _ gk) (Deeps.XZ _)) (.tup (S03 _ _ gs) (Deeps.XZ _)) (by unfold txD;rw[List.length_map,List.length_map];omega) fun u H4 S4 D4=>?_⟩
       rw[show txD ks++txD ss=txD (ks++ss)from(List.map_append ..).symm]at D4
       obtain⟨au,rfl,gu⟩:=jl D4
       have S04:=S03.trans S4
       have lu:(ks++ss).length<900:=by rw[List.length_append];omega
       generalize ks++ss=us at gu k lu
       have hlm:(us.map V.str).length=us.length:=List.length_map ..
       dsimp only[QL,JI,Zj,QK]
       refine⟨_,rfl,au,us,rfl,.inl (.inl gu),by omega,fun q hq=>⟨q,_,rfl,Qc,_,rfl,au,_,rfl,.inr (.inl (.inl (Qg.new hq _ _ gu))),rfl,_,rfl,?_⟩⟩
       have S5:=Qg.new (o:=Qa2 P w q (many us)) hq
       have gu5:=S5 _ _ gu
       have gc5:=S5 _ _ (S04 _ _ gc)
       have S05:=S04.trans S5
       have eu:(!decide (V.int ((many us:Nat):Int)=V.int (((us.map V.str).length:Nat):Int)))= !L2.unlike us:=by
        rw[←VF,hlm]
        congr 1
        refine decide_eq_decide.mpr ⟨fun z=>?_,fun z=>by rw[z]⟩
        injection z with z
        omega
       rw[eu]
       cases hu:L2.unlike us with
       |false=>
        rw[hu,Bool.false_and,Bool.false_and]at k
        exact Q3 (Q3 (k _ S05))
       |true=>
        rw[hu,Bool.true_and]at k
        refine Jx (wT (cb1 ?_))
        refine K8 (fv:=[.ref ac]) (x6 (K:=K) (a:=au) (xs:=us.map V.str)) (fun i vs H6=>Qg H H6∧H6 au=some (.tup (us.map V.str))∧H6 ac=some (.tup (cs.map V.str))∧vs=((us.take i).map fun x=>cs.contains x).map V.bl) (fun R h=>⟨_,rfl,au,rfl,⟨_,.inl (.inl gu5)⟩,h _ ⟨S05,gu5,gc5,rfl⟩⟩) rfl ?_ ?_ ?_ (by omega)
        ·rintro i vs H6 hi ⟨S,g1,_,rfl⟩
         refine⟨.inl (.inl g1),?_⟩
         rw[List.length_map,List.length_map,List.length_take]
         omega
        ·rintro i v vs H6 H7 hi ⟨S,g1,g2,rfl⟩ ⟨rfl,hv⟩
         obtain⟨y,hy,rfl⟩:=Va hv
         refine⟨rfl,_,rfl,_,rfl,ac,cs,y,rfl,rfl,.inl g2,S,g1,g2,?_⟩
         rw[List.take_add_one,hy]
         simp
        rintro vs H6 ⟨S6,_,_,rfl⟩ p hp
        rw[List.take_of_length_le (by omega)]
        refine⟨p,_,rfl,.inl (.inl Qc),_,rfl,?_⟩
        have ea:(us.map fun x=>cs.contains x).all id=us.all fun x=>cs.contains x:=by rw[List.all_map];rfl
        rw[ea]
        have S7:=S6.trans (Qg.new (o:=.lst ((us.map fun x=>cs.contains x).map V.bl)) hp)
        generalize upd H6 p (.lst ((us.map fun x=>cs.contains x).map V.bl))=H7 at S7
        cases hall:us.all fun x=>cs.contains x with
        |false=>
         rw[hall,Bool.false_and]at k
         exact Q3 (k _ S7)
        |true=>
         rw[hall,Bool.true_and]at k
         refine Jx ⟨_,rfl,vl,dl,rfl,Dl.same S7,hAl,isW dl,rfl,?_⟩
         rcases hAl with⟨i,rfl⟩|⟨b,rfl⟩
         ·obtain rfl:=Dl.vT
          exact Q3 ⟨_,rfl,_,_,rfl,rfl,k _ S7⟩
         ·exact Jx (k _ S7)
end
end Lw
set_option Elab.async false
set_option linter.all false
set_option maxRecDepth 100000
namespace K34
open L2 PySem
def V4(cols:List Str)(x:Str):Nat:=cols.findIdx (· ==x)
def QQ(cols names:List Str):List Nat:=names.map (V4 cols)
theorem Wu{cols:List Str}{x:Str}(h:cols.contains x=true):cols[V4 cols x]? =some x∧∀i,i<V4 cols x→cols[i]? ≠some x:=by
 have hm:x∈cols:=List.contains_iff_mem.mp h
 have hlt:V4 cols x<cols.length:=List.findIdx_lt_length_of_exists ⟨x,hm,by simp⟩
 have hg:(cols[V4 cols x]==x)=true:=List.findIdx_getElem (p:=(· ==x)) (w:=hlt)
 refine⟨by rw[List.getElem?_eq_getElem hlt,eq_of_beq hg],fun i hi e=>?_⟩
 have hi2:i<cols.length:=by omega
 rw[List.getElem?_eq_getElem hi2]at e
 have:=List.not_of_lt_findIdx (p:=(· ==x)) hi
 rw[Option.some.inj e]at this
 simp at this
end K34
namespace Lw
open PySem PySem.Spec PyProof.Rows L2 K34
open Builtin Builtin.Str StrLaws
def V5(p:Int × Int):Dv:=.tup [.int p.1,.int p.2]
def Jo(l:List (Int × Int)):Dv:=.tup (l.map V5)
section
variable {P:Program}{w:World}{K:PySem.W.Frag}{mg:Str→Option Value}{base:Heap}{f:Addr}{fd:FuncData}{tk:Nat→Tok}
def Wv:Sp:=fun vs H Q _=>∃(v n:V)(π:Plan)(ys:List Str),vs=[v,n]∧Deep H v (JM π)∧Deep H n (.tup (txD ys))∧(∀y∈ys,π.cols.contains y=true)∧ys.length≤100∧∀q H',Qg H H'→H' q=some (.lst ((QQ π.cols ys).map fun i=>V.int (i:Nat)))→Q (.ref q) H'
theorem UH(F:Fun K "spots_of" "spots_of" X4 f fd):FnOk P w K mg base (CXE P w) 1 f fd ["plan","names"] Wv:=by
 refine okN F Wl (fun vs H Q E h=>?_) (fun cdv A outer s H vs Q E hr h=>?_)
 ·obtain⟨v,n,π,ys,rfl,_⟩:=h
  rfl
 ·obtain⟨v,n,π,ys,rfl,D,DN,hc,hl,k⟩:=h
  have hz:1000≤sizeLine:=by decide
  refine⟨_,(Qe (Qu (i:=2) Wl.nd rfl (Or.inr rfl) (QT Qt (pv 0) Qf (fun _ _=>rfl)))
   (Qm (QD (Jt (NB:=[".0","name"]) (FR:=["columns"]) (fi:=[2]) rfl ⟨rfl,by decide+kernel,by decide+kernel,by decide+kernel,by decide+kernel,by decide+kernel⟩ rfl rfl (Z4 (pv 1)) (fun _ _ _=>(Qj (i:=1) (show([".0","name","columns"]:List Str).Nodup by decide+kernel) rfl (Or.inl rfl))) (fun _ _ _=>Jm) (fun _ _ _=>(wU (K0:=K) rfl PySem.F.plainAttrs_tuple PySem.F.slot_tuple_index PySem.F.type_tuple_index W9 (pv 2) (Qa (pv 1) Qb))))))),?_⟩
  obtain⟨a,ac,ak,as,L⟩:=Ju D
  obtain rfl:=L.v
  obtain⟨an,rfl,gn⟩:=jl DN
  have hlm:(ys.map V.str).length=ys.length:=List.length_map ..
  refine⟨_,rfl,a,_,0,_,rfl,rfl,.inl L.a,rfl,?_⟩
  dsimp only[QL,JI,Zj,QK]
  refine wV ?_
  refine Jr (fv:=[.ref ac]) (x6 (K:=K) (a:=an) (xs:=ys.map V.str)) ((QQ π.cols ys).map fun i=>Dv.int (i:Nat)) (by unfold QQ;simp) (fun R h=>⟨_,rfl,an,rfl,⟨_,.inl (.inl gn)⟩,h H (Qg.refl _)⟩) rfl (fun H1 S=>.inl (.inl (S _ _ gn))) ?_ ?_ (by omega)
  ·rintro i v H1 H2 d R hd S ⟨rfl,hv⟩ kk
   obtain⟨y,hy,rfl⟩:=Va hv
   obtain⟨e1,e2⟩:=Wu (hc y (List.mem_of_getElem? hy))
   refine⟨rfl,_,rfl,(.inr (.inr (.inr (.inr ⟨rfl,_,S _ _ L.c⟩)))),_,rfl,ac,π.cols,y,_,rfl,rfl,.inl (S _ _ L.c),e1,e2,?_⟩
   refine kk _ _ (Qg.refl _) ?_
   have:d=.int ((V4 π.cols y:Nat):Int):=by
    unfold QQ at hd
    rw[List.getElem?_map,List.getElem?_map,hy]at hd
    exact(Option.some.inj hd).symm
   rw[this]
   exact .int
  ·rintro xs H1 p S t hp
   have e:xs=(QQ π.cols ys).map fun i=>V.int (i:Nat):=by
    have:=Vc (ns:=(QQ π.cols ys).map fun i=>((i:Nat):Int)) (by rw[List.map_map];exact t)
    rw[this,List.map_map]
    rfl
   subst e
   exact k _ _ (S.trans (Qg.new hp)) Qc
def js:Sp:=fun vs H Q _=>∃(v:V)(π:Plan),vs=[v]∧Deep H v (JM π)∧π.sums.length≤100∧∀u H',Qg H H'→Deep H' u (Jo (π.sums.map fun _=>(0,0)))→Q u H'
theorem jt(F:Fun K "no_sums" "no_sums" Wm f fd)(OT:mg "tuple"=none):FnOk P w K mg base (CXE P w) 1 f fd ["plan"] js:=by
 refine okN F jh (fun vs H Q E h=>?_) (fun cdv A outer s H vs Q E hr h=>?_)
 ·obtain⟨v,π,rfl,_⟩:=h
  rfl
 ·obtain⟨v,π,rfl,D,hl,k⟩:=h
  have hz:1000≤sizeLine:=by decide
  refine⟨_,(Qm (QD (QH Qw rfl OT PyProof.Rows.boot_tuple (Qa (ZU (NB:=[".0","name"]) rfl ⟨rfl,by decide+kernel,by decide+kernel,by decide+kernel⟩ (Z4 (QT Qt (pv 0) Qf (fun _ _=>rfl))) (fun _ _ _=>(Qj (i:=1) (show([".0","name"]:List Str).Nodup by decide+kernel) rfl (Or.inl rfl))) (fun _ _ _=>Jm) (fun _ _ _=>(Qv (Qa Qf (Qa Qf Qb))))) Qb)))),?_⟩
  obtain⟨a,ac,ak,as,L⟩:=Ju D
  obtain rfl:=L.v
  have hlm:(π.sums.map V.str).length=π.sums.length:=List.length_map ..
  refine ql (cb1 ?_)
  refine XD (x6 (K:=K) (a:=as) (xs:=π.sums.map V.str)) ((π.sums.map fun _=>((0:Int),(0:Int))).map V5) (by simp) (fun R h=>⟨_,rfl,a,_,2,_,rfl,rfl,.inl L.a,rfl,as,rfl,⟨_,.inl (.inl L.s)⟩,h H (Qg.refl _)⟩) (fun H1 S=>.inl (.inl (S _ _ L.s))) ?_ ?_ (by omega)
  ·rintro i v H1 H2 d R hd S ⟨rfl,hv⟩ kk
   refine⟨by show 2≤sizeLine;omega,fun p hp=>kk _ _ (Qg.new hp) ?_⟩
   have:d=V5 (0,0):=by
    rw[List.getElem?_map,List.getElem?_map]at hd
    cases e:π.sums[i]? with
    |none=>rw[e]at hd;cases hd
    |some y=>rw[e]at hd;exact(Option.some.inj hd).symm
   rw[this]
   exact .tup Qc (.cons .int (.cons .int .nil))
  ·rintro xs H1 p S t hp
   have S2:=Qg.new (o:=.lst xs) hp
   refine⟨p,xs,rfl,.inl ⟨.inl (.inl Qc),fun l hl=>?_⟩⟩
   exact k _ _ ((S.trans S2).trans (Qg.new hl)) (Jc (t.same S2) hl)
theorem xi{H:Hp}{v:V}{l:List (Int × Int)}(h:Deep H v (Jo l)):∃a xs,v=.ref a∧H a=some (.tup xs)∧Deeps H xs (l.map V5):=Deep.Xy h
theorem wY{H:Hp}{v:V}{p:Int × Int}(h:Deep H v (V5 p)):∃a,v=.ref a∧H a=some (.tup [.int p.1,.int p.2]):=qk (u:=p.1) (o:=p.2) h
def Ks(row:List Cell)(i:Nat):Int × Int:=match row[i]? with
 |some (.amt u o)=>(u,o)
 |_=>(0,0)
def x9(p q:Int × Int):Int × Int:=(p.1*K01.ten (mx p.2 q.2-p.2)+q.1*K01.ten (mx p.2 q.2-q.2),mx p.2 q.2)
def Xo(sp:List Nat)(row:List Cell)(l:List (Int × Int)):List (Int × Int):=List.zipWith (fun p i=>x9 p (Ks row i)) l sp
def AOk(n:Nat)(p:Int × Int):Prop:=0≤p.2∧p.2≤2∧(p.1*K01.ten (2-p.2)).natAbs≤n*10^4
theorem AOk.amt{n:Nat}{p:Int × Int}(h:AOk n p)(hn:n≤100){H:Hp}{a:Addr}(g:H a=some (.tup [.int p.1,.int p.2])):Amt K H a p.1 p.2:=by
 obtain⟨h1,h2,h3⟩:=h
 refine⟨.inl (.inl g),?_,h1,by omega⟩
 have ht:=K01.ZE (2-p.2)
 have h4:p.1.natAbs≤(p.1*K01.ten (2-p.2)).natAbs:=by
  rw[Int.natAbs_mul]
  exact Nat.le_mul_of_pos_right _ (by omega)
 have h5:n*10^4≤100*10^4:=Nat.mul_le_mul_right _ hn
 have h6:(100*10^4:Nat)<2^200:=by decide
 omega
theorem xj{a b:Int}(ha:0≤a)(hb:0≤b):K01.ten a*K01.ten b=K01.ten (a+b):=by
 unfold K01.ten
 rw[←Int.pow_add, ←Int.toNat_add ha hb]
theorem v7{n:Nat}{p q:Int × Int}(hp:AOk n p)(hq:AOk 1 q):AOk (n+1) (x9 p q):=by
 obtain⟨a1,a2,a3⟩:=hp
 obtain⟨b1,b2,b3⟩:=hq
 have m1:=Qaz p.2 q.2
 have m2:=Qa4 p.2 q.2
 have m3:=zW a2 b2
 refine⟨by show 0≤mx p.2 q.2;omega,m3,?_⟩
 show((p.1*K01.ten (mx p.2 q.2-p.2)+q.1*K01.ten (mx p.2 q.2-q.2))*K01.ten (2-mx p.2 q.2)).natAbs≤_
 rw[Int.add_mul,Int.mul_assoc,Int.mul_assoc,xj (by omega) (by omega),xj (by omega) (by omega),show mx p.2 q.2-p.2+(2-mx p.2 q.2)=2-p.2 by omega,show mx p.2 q.2-q.2+(2-mx p.2 q.2)=2-q.2 by omega]
 omega
def Ve(K:PySem.W.Frag):Sp:=fun vs H Q _=>∃(v av rv:V)(π:Plan)(l:List (Int × Int))(row:List Cell)(n:Nat),vs=[v,av,rv]∧Deep H v (JM π)∧PlanOk π∧Deep H av (Jo l)∧l.length=π.sums.length∧(∀p∈l,AOk n p)∧n≤50∧Deep H rv (Xn row)∧RowOk π row∧∀u H',Qg H H'→Deep H' u (Jo (Xo (QQ π.cols π.sums) row l))→Q u H'
theorem sum_in{π:Plan}(Z:PlanOk π){x:Str}(h:x∈π.sums):π.cols.contains x=true:=List.all_eq_true.mp Z.sub x (List.mem_append_right _ h)
theorem xm{π:Plan}(Z:PlanOk π){x:Str}(h:x∈π.keys):π.cols.contains x=true:=List.all_eq_true.mp Z.sub x (List.mem_append_left _ h)
set_option maxHeartbeats 1000000 in
theorem UI(F:Fun K "with_row" "with_row" X5 f fd)(OT:mg "tuple"=none)(OZ:mg "zip"=none)(D_spots_of:Def P w K mg base 1 "spots_of" ["plan","names"] Wv)(D_added:Def P w K mg base 4 "added" ["one","other"] (vY K fun x y=>x+y)):FnOk P w K mg base (CXE P w) 5 f fd ["plan","amounts","row"] (Ve K):=by
 refine okN F Us (fun vs H Q E h=>?_) (fun cdv A outer s H vs Q E hr h=>?_)
 ·obtain⟨v,av,rv,π,l,row,n,rfl,_⟩:=h
  rfl
 ·obtain⟨v,av,rv,π,l,row,n,rfl,D,Z,DA,hl,ha,hn,DR,Y,k⟩:=h
  have hz:1000≤sizeLine:=by decide
  have z2:=Z.lu
  have z3:π.keys.length+π.sums.length=(π.keys++π.sums).length:=(List.length_append ..).symm
  refine⟨_,(Qm (QD (QH Qw rfl OT PyProof.Rows.boot_tuple (Qa (Jt (NB:=[".0","amount","at"]) (FR:=["row"]) (fi:=[2]) rfl ⟨rfl,by decide+kernel,by decide+kernel,by decide+kernel,by decide+kernel,by decide+kernel⟩ rfl rfl (Vr .tp .ls rfl OZ (Qa (pv 1) (Qa (D_spots_of.pe hr (by decide) rfl Qn (Qa (pv 0) (Qa (QT Qt (pv 0) Qf (fun _ _=>rfl)) Qb))) Qb))) (fun _ _ _=>(Ux (K0:=K) (n:=2) rfl rfl (Qk (Qj (i:=1) (show([".0","amount","at","row"]:List Str).Nodup by decide+kernel) rfl (Or.inl rfl) (Or.inr rfl)) (Qk (Qj (i:=2) (show([".0","amount","at","row"]:List Str).Nodup by decide+kernel) rfl (Or.inl rfl) (Or.inr rfl)) QX)))) (fun _ _ _=>Jm) (fun _ _ _=>(D_added.pe hr (by decide) rfl Qn (Qa (pv 1) (Qa (QT Qt (pv 3) (pv 2) (fun _ _=>rfl)) Qb))))) Qb)))),?_⟩
  obtain⟨a,ac,ak,as,L⟩:=Ju D
  obtain rfl:=L.v
  obtain⟨aa,xa,rfl,ga,ta⟩:=xi DA
  obtain⟨rr,xs,rfl,gr,tr⟩:=Deep.Xy DR
  have la:=ta.length
  rw[List.length_map]at la
  refine ql (cb1 ?_)
  have lsp:(QQ π.cols π.sums).length=π.sums.length:=by unfold QQ;rw[List.length_map]
  refine Zf ?_
  refine⟨_,rfl,_,rfl,_,rfl,a,_,2,_,rfl,rfl,.inl L.a,rfl,.ref a,.ref as,π,π.sums,rfl,D,L.ds,(fun y hy=>sum_in Z hy),by omega,fun q H1 S1 gq=>⟨aa,q,rfl,⟨_,.inl (S1 _ _ ga)⟩,⟨_,.inl gq⟩,?_⟩⟩
  have hmin:min xa.length ((QQ π.cols π.sums).map fun i=>V.int (i:Nat)).length=(Xo (QQ π.cols π.sums) row l).length:=by
   unfold Xo
   rw[List.length_map,List.length_zipWith]
   omega
  have hwl:(Xo (QQ π.cols π.sums) row l).length=π.sums.length:=by
   unfold Xo
   rw[List.length_zipWith]
   omega
  refine Jr (fv:=[.ref rr]) (Qa1 (k1:=.tp) (k2:=.ls) (a1:=aa) (a2:=q) (xs:=xa) (ys:=(QQ π.cols π.sums).map fun i=>V.int (i:Nat))) ((Xo (QQ π.cols π.sums) row l).map V5) (by rw[List.length_map,hmin]) (fun R h=>h H1 (Qg.refl _)) rfl (fun H2 S2=>⟨.inl (S2 _ _ (S1 _ _ ga)),.inl (S2 _ _ gq)⟩) ?_ ?_ (by omega)
  ·rintro i v H2 H3 d R hd S2 ⟨p,x,y,hp,rfl,hx,hy,rfl⟩ kk
   have Sp:=Qg.new (o:=.tup [x,y]) hp
   obtain⟨dx,hdx,ddx⟩:=ta.W7 hx
   rw[List.getElem?_map]at hdx
   cases el:l[i]? with
   |none=>rw[el]at hdx;cases hdx
   |some pp=>
    rw[el]at hdx
    obtain rfl:=Option.some.inj hdx
    rw[List.getElem?_map]at hy
    cases es:(QQ π.cols π.sums)[i]? with
    |none=>rw[es]at hy;cases hy
    |some at_=>
     rw[es]at hy
     obtain rfl:=Option.some.inj hy
     obtain⟨nm,hnm,rfl⟩:∃nm,π.sums[i]? =some nm∧at_=V4 π.cols nm:=by
      unfold QQ at es
      rw[List.getElem?_map]at es
      cases e:π.sums[i]? with
      |none=>rw[e]at es;cases es
      |some nm=>rw[e]at es;exact⟨nm,rfl,(Option.some.inj es).symm⟩
     obtain⟨c1,_⟩:=Wu (sum_in Z (List.mem_of_getElem? hnm))
     obtain⟨u,o,hrow⟩:=Y.sm _ nm c1 (List.contains_iff_mem.mpr (List.mem_of_getElem? hnm))
     have okc:=Y.ok _ (List.mem_of_getElem? hrow)
     obtain⟨cv,hcv,dcv⟩:=tr.get (i:=V4 π.cols nm) (d:=(Cell.amt u o).dv) (by rw[List.getElem?_map,hrow];rfl)
     have S13:=(S1.trans S2).trans Sp
     obtain⟨a1,rfl,g1⟩:=wY (ddx.same S13)
     obtain⟨a2,rfl,g2⟩:=qk (dcv.same S13)
     have A1:=(ha pp (List.mem_of_getElem? el)).amt (K:=K) (by omega) g1
     have A2:Amt K (upd H2 p (.tup [.ref a1,.int ((V4 π.cols nm:Nat):Int)])) a2 u o:=AOk.amt (K:=K) (n:=1) (p:=(u,o)) ⟨okc.1,okc.2.1,by simpa using okc.2.2⟩ (by omega) g2
     refine⟨p,_,rfl,.inl (.inl Qc),rfl,_,_,rfl,_,_,rfl,rfl,rfl,?_⟩
     refine⟨_,rfl,_,rfl,_,rfl,rr,xs,((V4 π.cols nm:Nat):Int),_,rfl,rfl,.inl (S13 _ _ gr),Q9 hcv,a1,a2,pp.1,pp.2,u,o,rfl,A1,A2,fun qq H4 z S4 _ gz hzz=>kk _ _ (Sp.trans S4) ?_⟩
     have ed:d=V5 (x9 pp (u,o)):=by
      have e3:(Xo (QQ π.cols π.sums) row l)[i]? =some (x9 pp (Ks row (V4 π.cols nm))):=by
       unfold Xo
       rw[List.getElem?_zipWith,el,es]
      have e4:Ks row (V4 π.cols nm)=(u,o):=by unfold Ks;rw[hrow]
      rw[List.getElem?_map,e3,e4]at hd
      exact(Option.some.inj hd).symm
     rw[ed]
     refine .tup gz ?_
     rw[hzz]
     exact .cons .int (.cons .int .nil)
  ·rintro ys H2 p S2 t hp
   have S3:=Qg.new (o:=.lst ys) hp
   refine⟨p,ys,rfl,.inl ⟨.inl (.inl Qc),fun l2 hl2=>?_⟩⟩
   exact k _ _ (((S1.trans S2).trans S3).trans (Qg.new hl2)) (Jc (t.same S3) hl2)
end
end Lw
set_option Elab.async false
set_option linter.all false
set_option maxRecDepth 100000
namespace Lw
open PySem PySem.Spec PyProof.Rows L2 K34
open Builtin Builtin.Str StrLaws
def zeros(π:Plan):List (Int × Int):=π.sums.map fun _=>(0,0)
def total(π:Plan)(rows:List (List Cell)):List (Int × Int):=rows.foldl (fun l r=>Xo (QQ π.cols π.sums) r l) (zeros π)
theorem VH{π:Plan}{row:List Cell}{l:List (Int × Int)}(h:l.length=π.sums.length):(Xo (QQ π.cols π.sums) row l).length=π.sums.length:=by
 unfold Xo QQ
 rw[List.length_zipWith,List.length_map]
 omega
theorem xn{π:Plan}(Z:PlanOk π){row:List Cell}(Y:RowOk π row){i:Nat}(h:i∈QQ π.cols π.sums):AOk 1 (Ks row i):=by
 unfold QQ at h
 obtain⟨nm,hnm,rfl⟩:=List.mem_map.mp h
 obtain⟨c1,_⟩:=Wu (sum_in Z hnm)
 obtain⟨u,o,hrow⟩:=Y.sm _ nm c1 (List.contains_iff_mem.mpr hnm)
 have okc:=Y.ok _ (List.mem_of_getElem? hrow)
 unfold Ks
 rw[hrow]
 exact⟨okc.1,okc.2.1,by simpa using okc.2.2⟩
theorem xp{α β γ:Type}{f:α→β→γ}:∀{l:List α}{m:List β}{z:γ},z∈List.zipWith f l m→∃x∈l,∃y∈m,z=f x y
 |[],_,_,h=>by simp at h
 |_::_,[],_,h=>by simp at h
 |x::l,y::m,z,h=>by
  rw[List.zipWith_cons_cons]at h
  rcases List.mem_cons.mp h with rfl|h
  ·exact⟨x,List.mem_cons_self,y,List.mem_cons_self,rfl⟩
  ·obtain⟨a,ha,b,hb,e⟩:=xp h
   exact⟨a,List.mem_cons_of_mem _ ha,b,List.mem_cons_of_mem _ hb,e⟩
theorem UJ{π:Plan}(Z:PlanOk π){row:List Cell}(Y:RowOk π row){l:List (Int × Int)}{n:Nat}(h:∀p∈l,AOk n p):∀p∈Xo (QQ π.cols π.sums) row l,AOk (n+1) p:=by
 intro p hp
 obtain⟨x,hx,i,hi,rfl⟩:=xp hp
 exact v7 (h x hx) (xn Z Y hi)
theorem KI(π:Plan):∀p∈zeros π,AOk 0 p:=by
 intro p hp
 obtain⟨_,_,rfl⟩:=List.mem_map.mp hp
 exact⟨by decide,by decide,by decide⟩
theorem XH(π:Plan):(zeros π).length=π.sums.length:=List.length_map ..
theorem Ww(π:Plan)(rows:List (List Cell)):(total π rows).length=π.sums.length:=by
 have:∀(rows:List (List Cell))(l:List (Int × Int)),l.length=π.sums.length→(rows.foldl (fun l r=>Xo (QQ π.cols π.sums) r l) l).length=π.sums.length:=by
  intro rows
  induction rows with
  |nil=>intro l h;exact h
  |cons r rs ih=>intro l h;exact ih _ (VH h)
 exact this rows _ (XH π)
theorem VI{π:Plan}(Z:PlanOk π):∀(rows:List (List Cell)),(∀r∈rows,RowOk π r)→∀p∈total π rows,AOk rows.length p:=by
 have:∀(rows:List (List Cell))(l:List (Int × Int))(n:Nat),(∀p∈l,AOk n p)→(∀r∈rows,RowOk π r)→∀p∈rows.foldl (fun l r=>Xo (QQ π.cols π.sums) r l) l,AOk (n+rows.length) p:=by
  intro rows
  induction rows with
  |nil=>intro l n h _;exact h
  |cons r rs ih=>
   intro l n h hr p hp
   have:=ih (Xo (QQ π.cols π.sums) r l) (n+1) (UJ Z (hr r List.mem_cons_self) h) (fun q hq=>hr q (List.mem_cons_of_mem _ hq)) p hp
   rw[List.length_cons,show n+(rs.length+1)=n+1+rs.length by omega]
   exact this
 intro rows hr p hp
 have:=this rows (zeros π) 0 (KI π) hr p hp
 rwa[Nat.zero_add]at this
theorem X9(π:Plan)(rows:List (List Cell))(r:List Cell):total π (rows++[r])=Xo (QQ π.cols π.sums) r (total π rows):=by unfold total;rw[List.foldl_append];rfl
def UK(rows:List (List Cell)):Dv:=.tup (rows.map Xn)
section
variable {P:Program}{w:World}{K:PySem.W.Frag}{mg:Str→Option Value}{base:Heap}{f:Addr}{fd:FuncData}{tk:Nat→Tok}
theorem Zs{H:Hp}{xs:List V}{rows:List (List Cell)}(t:Deeps H xs (rows.map Xn)){i:Nat}{x:V}(h:xs[i]? =some x):∃r,rows[i]? =some r∧Deep H x (Xn r):=by
 obtain⟨d,hd,dd⟩:=t.W7 h
 rw[List.getElem?_map]at hd
 cases e:rows[i]? with
 |none=>rw[e]at hd;cases hd
 |some r=>rw[e]at hd;obtain rfl:=Option.some.inj hd;exact⟨r,rfl,dd⟩
def xq:Sp:=fun vs H Q _=>∃(v rv:V)(π:Plan)(rows:List (List Cell)),vs=[v,rv]∧Deep H v (JM π)∧PlanOk π∧Deep H rv (UK rows)∧(∀r∈rows,RowOk π r)∧rows.length≤40∧∀u H',Qg H H'→Deep H' u (Jo (total π rows))→Q u H'
theorem ju(F:Fun K "sums_of" "sums_of" XB f fd)(D_no_sums:Def P w K mg base 1 "no_sums" ["plan"] js)(D_with_row:Def P w K mg base 5 "with_row" ["plan","amounts","row"] (Ve K)):FnOk P w K mg base (CXE P w) 6 f fd ["plan","rows"] xq:=by
 refine okN F Jq (fun vs H Q E h=>?_) (fun cdv A outer s H vs Q E hr h=>?_)
 ·obtain⟨v,rv,π,rows,rfl,_⟩:=h
  rfl
 ·obtain⟨v,rv,π,rows,rfl,D,Z,DR,Y,hl,k⟩:=h
  have z2:=Z.lu
  have z3:π.keys.length+π.sums.length=(π.keys++π.sums).length:=(List.length_append ..).symm
  refine⟨_,(Qe (Qu (i:=2) Jq.nd rfl (Or.inl rfl) (D_no_sums.pe hr (by decide) rfl Qn (Qa (pv 0) Qb)))
   (Qe (Xq PassesOwn.never rfl (Z4 (pv 1)) (Qj (i:=3) Jq.nd rfl (Or.inl rfl)) (Qm (Qu (i:=2) Jq.nd rfl (Or.inl rfl) (D_with_row.pe hr (by decide) rfl Qn (Qa (pv 0) (Qa (pv 2) (Qa (pv 3) Qb)))))))
   (Qm (QD (pv 2))))),?_⟩
  obtain⟨R,xs,rfl,gr,tr⟩:=Deep.Xy DR
  have lx:=tr.length
  rw[List.length_map]at lx
  refine⟨_,rfl,v,π,rfl,D,by omega,fun u0 H1 S1 D1=>?_⟩
  dsimp only[QL,JI,Zj,QK]
  refine⟨_,rfl,R,rfl,⟨_,.inl (.inl (S1 _ _ gr))⟩,?_⟩
  refine Zm (x6 (K:=K) (a:=R) (xs:=xs)) (fun i σ H2=>∃u x,σ=[some v,some (.ref R),some u,x]∧Qg H H2∧Deep H2 u (Jo (total π (rows.take i)))) ⟨u0,none,rfl,S1,D1⟩ ?_ ?_ ?_
  ·rintro i σ H2 _ ⟨u,x,rfl,S,_⟩
   exact .inl (.inl (S _ _ gr))
  ·rintro i x σ H2 H3 hi ⟨u,x0,rfl,S,DU⟩ ⟨rfl,hx⟩
   obtain⟨r,hr2,dr⟩:=Zs tr hx
   have hrm:=List.mem_of_getElem? hr2
   refine⟨_,rfl,_,rfl,_,rfl,v,u,x,π,total π (rows.take i),r,(rows.take i).length,rfl,D.same S,Z,DU,Ww _ _,VI Z _ (fun q hq=>Y q (List.mem_of_mem_take hq)),by rw[List.length_take];omega,dr.same S,Y r hrm,fun u2 H4 S4 D4=>?_⟩
   refine⟨u2,_,rfl,S.trans S4,?_⟩
   rw[List.take_add_one,hr2]
   show Deep H4 u2 (Jo (total π (rows.take i++[r])))
   rw[X9]
   exact D4
  ·rintro σ H2 ⟨u,x,rfl,S,DU⟩
   rw[List.take_of_length_le (by omega)]at DU
   exact⟨_,rfl,k _ _ S DU⟩
def qp:Cell→Cell→Bool
 | .amt u o,.amt v p=>decide (u*K01.ten (18-o)=v*K01.ten (18-p))
 | .txt x,.txt y=>x==y
 |_,_=>false
theorem JX.aok{u o:Int}(h:JX (.amt u o)):AOk 1 (u,o):=⟨h.1,h.2.1,by simpa using h.2.2⟩
def UL:Sp:=fun vs H Q _=>∃(v1 v2:V)(c1 c2:Cell),vs=[v1,v2]∧Deep H v1 c1.dv∧Deep H v2 c2.dv∧JX c1∧JX c2∧∀H',Qg H H'→Q (.bl (qp c1 c2)) H'
theorem UM(F:Fun K "is_alike" "is_alike" X6 f fd)(D_is_pair:Def P w K mg base 1 "is_pair" ["value"] VD)(D_same:Def P w K mg base 4 "same" ["one","other"] (zX K)):FnOk P w K mg base (CXE P w) 5 f fd ["one","other"] UL:=by
 refine okN F Ut (fun vs H Q E h=>?_) (fun cdv A outer s H vs Q E hr h=>?_)
 ·obtain⟨v1,v2,c1,c2,rfl,_⟩:=h
  rfl
 ·obtain⟨v1,v2,c1,c2,rfl,D1,D2,o1,o2,k⟩:=h
  refine⟨_,(Qe (Xa (PW.pt (UZ (JR (D_is_pair.pe hr (by decide) rfl Qn (Qa (pv 0) Qb))) (Y3 (JR (D_is_pair.pe hr (by decide) rfl Qn (Qa (pv 1) Qb)))))) (Qm (QD (D_same.pe hr (by decide) rfl Qn (Qa (pv 0) (Qa (pv 1) Qb))))) JA)
   (Qm (QD (Jl (Uj (n:=8) (Vu hr)) (pv 0) (pv 1) (Qz _))))),?_⟩
  have dd:∀c:Cell,c.dv.depth≤8:=fun c=>by cases c<;>simp[Cell.dv,Dv.depth,Dv.Zd]
  refine⟨_,rfl,v1,c1,rfl,D1,_,rfl,?_⟩
  cases c1 with
  |txt x=>
   refine Jx (Jx ⟨_,rfl,_,rfl,_,_,D1,D2,dd _,?_⟩)
   have:=k H (Qg.refl _)
   cases c2 with
   |txt y=>exact this
   |amt u o=>exact this
  |amt u o=>
   refine Q3 ⟨_,rfl,v2,c2,rfl,D2,_,rfl,?_⟩
   cases c2 with
   |txt y=>exact Jx ⟨_,rfl,_,rfl,_,_,D1,D2,dd _,k H (Qg.refl _)⟩
   |amt v p=>
    obtain⟨a1,rfl,g1⟩:=qk D1
    obtain⟨a2,rfl,g2⟩:=qk D2
    exact Q3 ⟨_,rfl,_,rfl,a1,a2,u,o,v,p,rfl,o1.aok.amt (K:=K) (by decide) g1,o2.aok.amt (K:=K) (by decide) g2,fun H' S=>k H' S⟩
end
end Lw
set_option Elab.async false
set_option linter.all false
set_option maxRecDepth 100000
namespace Lw
open PySem PySem.Spec PyProof.Rows L2 K34
open Builtin Builtin.Str StrLaws
def Xk(r1 r2:List Cell)(i:Nat):Bool:=match r1[i]?,r2[i]? with
 |some a,some b=>qp a b
 |_,_=>true
def unlike(sk:List Nat)(r1 r2:List Cell):Nat:=sk.findIdx fun i=> !Xk r1 r2 i
theorem xt{sk:List Nat}{r1 r2:List Cell}{i j:Nat}(hi:sk[i]? =some j)(hb:∀m x,m<i→sk[m]? =some x→Xk r1 r2 x=true) (hn:Xk r1 r2 j=false):unlike sk r1 r2=i:=by
 have hlt:i<sk.length:=(List.getElem?_eq_some_iff.mp hi).1
 have e:sk[i]=j:=(List.getElem?_eq_some_iff.mp hi).2
 unfold unlike
 rw[List.findIdx_eq hlt]
 refine⟨by rw[e,hn];rfl,fun m hm=>?_⟩
 have:=hb m sk[m] hm (List.getElem?_eq_getElem (by omega))
 rw[this]
 rfl
theorem UN{sk:List Nat}{r1 r2:List Cell}(hb:∀m x,m<sk.length→sk[m]? =some x→Xk r1 r2 x=true):unlike sk r1 r2=sk.length:=by
 unfold unlike
 refine List.findIdx_eq_length.mpr fun x hx=>?_
 obtain⟨m,hm,e⟩:=List.getElem_of_mem hx
 rw[hb m x hm (by rw[List.getElem?_eq_getElem hm,e])]
 rfl
theorem xv(sk:List Nat)(r1 r2:List Cell):unlike sk r1 r2≤sk.length:=List.findIdx_le_length
theorem VJ{π:Plan}(Z:PlanOk π){row:List Cell}(Y:RowOk π row){i at_:Nat}(h:(QQ π.cols π.keys)[i]? =some at_):∃c,row[at_]? =some c∧JX c:=by
 unfold QQ at h
 rw[List.getElem?_map]at h
 cases e:π.keys[i]? with
 |none=>rw[e]at h;cases h
 |some nm=>
  rw[e]at h
  obtain rfl:=Option.some.inj h
  obtain⟨c1,_⟩:=Wu (xm Z (List.mem_of_getElem? e))
  have hlt:=(List.getElem?_eq_some_iff.mp c1).1
  have hy:=Y.len
  have e2:row[V4 π.cols nm]? =some (row[V4 π.cols nm]'(by omega)):=List.getElem?_eq_getElem (by omega)
  exact⟨_,e2,Y.ok _ (List.mem_of_getElem? e2)⟩
section
variable {P:Program}{w:World}{K:PySem.W.Frag}{mg:Str→Option Value}{base:Heap}{f:Addr}{fd:FuncData}{tk:Nat→Tok}
def VL:Sp:=fun vs H Q _=>∃(v x1 x2:V)(π:Plan)(r1 r2:List Cell),vs=[v,x1,x2]∧Deep H v (JM π)∧PlanOk π∧Deep H x1 (Xn r1)∧RowOk π r1∧Deep H x2 (Xn r2)∧RowOk π r2∧∀H',Qg H H'→Q (.int ((unlike (QQ π.cols π.keys) r1 r2:Nat):Int)) H'
set_option maxHeartbeats 1000000 in
theorem WQ(F:Fun K "unlike_from" "unlike_from" Zn f fd)(O:Own mg)(OE:mg "enumerate"=none)(D_spots_of:Def P w K mg base 1 "spots_of" ["plan","names"] Wv)(D_is_alike:Def P w K mg base 5 "is_alike" ["one","other"] UL):FnOk P w K mg base (CXE P w) 6 f fd ["plan","one","other"] VL:=by
 refine okN F J6 (fun vs H Q E h=>?_) (fun cdv A outer s H vs Q E hr h=>?_)
 ·obtain⟨v,x1,x2,π,r1,r2,rfl,_⟩:=h
  rfl
 ·obtain⟨v,x1,x2,π,r1,r2,rfl,D,Z,D1,Y1,D2,Y2,k⟩:=h
  have z2:=Z.lu
  have z3:π.keys.length+π.sums.length=(π.keys++π.sums).length:=(List.length_append ..).symm
  refine⟨_,(Qe (Xq PassesOwn.never rfl (Vq .ls rfl OE (Qa (D_spots_of.pe hr (by decide) rfl Qn (Qa (pv 0) (Qa (QT Qt (pv 0) Qf (fun _ _=>rfl)) Qb))) Qb)) (Jy rfl (Qk (Qj (i:=3) J6.nd rfl (Or.inl rfl)) (Qk (Qj (i:=4) J6.nd rfl (Or.inl rfl)) QX))) (Qm (Xa (Za (JR (D_is_alike.pe hr (by decide) rfl Qn (Qa (QT Qt (pv 1) (pv 4) (fun _ _=>rfl)) (Qa (QT Qt (pv 2) (pv 4) (fun _ _=>rfl)) Qb))))) (Qm (QD (pv 3))) JA)))
   (Qm (QD (Qh Qp rfl O.len PySem.boot_len (Qa (QT Qt (pv 0) Qf (fun _ _=>rfl)) Qb))))),?_⟩
  obtain⟨a,ac,ak,as,L⟩:=Ju D
  obtain rfl:=L.v
  obtain⟨q1,xs1,rfl,g1,t1⟩:=Deep.Xy D1
  obtain⟨q2,xs2,rfl,g2,t2⟩:=Deep.Xy D2
  have lsk:(QQ π.cols π.keys).length=π.keys.length:=by unfold QQ;rw[List.length_map]
  refine⟨_,rfl,_,rfl,a,_,1,_,rfl,rfl,.inl L.a,rfl,.ref a,.ref ak,π,π.keys,rfl,D,L.dk,(fun y hy=>xm Z hy),by omega,fun q H1 S1 gq=>⟨q,rfl,⟨_,.inl (.inl gq)⟩,?_⟩⟩
  refine Zm (Qbz (k:=.ls) (K:=K) (a:=q) (xs:=(QQ π.cols π.keys).map fun i=>V.int (i:Nat))) (fun i σ H2=>∃y3 y4,σ=[some (.ref a),some (.ref q1),some (.ref q2),y3,y4]∧Qg H1 H2∧∀m x,m<i→(QQ π.cols π.keys)[m]? =some x→Xk r1 r2 x=true) ⟨none,none,rfl,Qg.refl _,fun m x hm=>absurd hm (by omega)⟩ ?_ ?_ ?_
  ·rintro i σ H2 _ ⟨y3,y4,rfl,S,_⟩
   exact .inl (.inl (S _ _ gq))
  ·rintro i x σ H2 H3 hi ⟨y3,y4,rfl,S,hb⟩ ⟨p,x,hp,rfl,hx,rfl⟩
   rw[List.getElem?_map]at hx
   cases es:(QQ π.cols π.keys)[i]? with
   |none=>rw[es]at hx;cases hx
   |some at_=>
    rw[es]at hx
    obtain rfl:=Option.some.inj hx
    have Sp:=Qg.new (o:=.tup [.int ((i:Nat):Int),.int ((at_:Nat):Int)]) hp
    have S03:=(S1.trans S).trans Sp
    obtain⟨c1,hc1,ok1⟩:=VJ Z Y1 es
    obtain⟨c2,hc2,ok2⟩:=VJ Z Y2 es
    obtain⟨w1,hw1,dw1⟩:=t1.get (i:=at_) (d:=c1.dv) (by rw[List.getElem?_map,hc1];rfl)
    obtain⟨w2,hw2,dw2⟩:=t2.get (i:=at_) (d:=c2.dv) (by rw[List.getElem?_map,hc2];rfl)
    refine⟨p,_,rfl,.inl (.inl Qc),rfl,_,_,rfl,_,_,rfl,rfl,?_⟩
    refine⟨_,rfl,_,rfl,q1,xs1,_,_,rfl,rfl,.inl (S03 _ _ g1),Q9 hw1,_,rfl,_,rfl,q2,xs2,_,_,rfl,rfl,.inl (S03 _ _ g2),Q9 hw2,w1,w2,c1,c2,rfl,dw1.same S03,dw2.same S03,ok1,ok2,fun H4 S4=>⟨_,rfl,?_⟩⟩
    have ea:Xk r1 r2 at_=qp c1 c2:=by unfold Xk;rw[hc1,hc2]
    cases hal:qp c1 c2 with
    |false=>
     refine Q3 ⟨_,rfl,?_⟩
     have:=k H4 (S03.trans S4)
     rw[xt es hb (by rw[ea,hal])]at this
     exact this
    |true=>
     refine Jx ⟨_,_,rfl,(S.trans Sp).trans S4,fun m x hm hx=>?_⟩
     rcases Nat.lt_or_ge m i with h|h
     ·exact hb m x h hx
     ·obtain rfl:m=i:=by omega
      rw[es]at hx
      obtain rfl:=Option.some.inj hx
      rw[ea,hal]
  ·rintro σ H2 ⟨y3,y4,rfl,S,hb⟩
   rw[List.length_map]at hb
   refine⟨_,rfl,a,_,1,_,rfl,rfl,.inl ((S1.trans S) _ _ L.a),rfl,ak,_,rfl,.inr (.inl (.inl ((S1.trans S) _ _ L.k))),?_⟩
   have:=k H2 (S1.trans S)
   rw[UN hb,lsk, ←List.length_map (as:=π.keys) V.str]at this
   exact this
end
end Lw
set_option Elab.async false
set_option linter.all false
set_option maxRecDepth 100000
namespace Lw
open PySem PySem.Spec PyProof.Rows L2 K34
open Builtin Builtin.Str StrLaws
def wg(row:List Cell)(i:Nat):Dv:=match row[i]? with
 |some c=>c.dv
 |none=>.non
def jv(π:Plan)(row:List Cell):List Dv:=(QQ π.cols π.keys).map (wg row)
def v8(π:Plan)(row:List Cell)(since:List (List (Int × Int)))(level:Nat):Dv:=.tup [.str "foot",.str (π.keys.getD level ""),.tup ((jv π row).take (level+1)),Jo (since.getD level [])]
def J3(π:Plan)(row:List Cell)(since:List (List (Int × Int)))(first:Nat):List Dv:=(List.range (π.keys.length-first)).map fun i=>v8 π row since (π.keys.length-1-i)
section
variable {P:Program}{w:World}{K:PySem.W.Frag}{mg:Str→Option Value}{base:Heap}{f:Addr}{fd:FuncData}{tk:Nat→Tok}
def xw:Sp:=fun vs H Q _=>∃(v rv:V)(sl:Addr)(xs:List V)(π:Plan)(row:List Cell)(since:List (List (Int × Int)))(first:Nat),vs=[v,rv,.ref sl,.int (first:Nat)]∧Deep H v (JM π)∧PlanOk π∧Deep H rv (Xn row)∧RowOk π row∧H sl=some (.lst xs)∧Deeps H xs (since.map Jo)∧since.length=π.keys.length∧first≤π.keys.length∧
 ∀q H' ys,Qg H H'→H q=none→H' q=some (.lst ys)→Deeps H' ys (J3 π row since first)→Q (.ref q) H'
set_option maxHeartbeats 1000000 in
theorem v9(F:Fun K "feet" "feet" zS f fd)(O:Own mg)(OT:mg "tuple"=none)(D_spots_of:Def P w K mg base 1 "spots_of" ["plan","names"] Wv):FnOk P w K mg base (CXE P w) 2 f fd ["plan","row","since","first"] xw:=by
 refine okN F Uu (fun vs H Q E h=>?_) (fun cdv A outer s H vs Q E hr h=>?_)
 ·obtain⟨v,rv,sl,xs,π,row,since,first,rfl,_⟩:=h
  rfl
 ·obtain⟨v,rv,sl,xs,π,row,since,first,rfl,D,Z,DR,Y,gs,ts,hsl,hf,k⟩:=h
  have hz:1000≤sizeLine:=by decide
  have z2:=Z.lu
  have z3:π.keys.length+π.sums.length=(π.keys++π.sums).length:=(List.length_append ..).symm
  refine⟨_,(Qe (Qu (i:=4) Uu.nd rfl (Or.inr rfl) (QT Qt (pv 0) Qf (fun _ _=>rfl)))
   (Qe (Qu (i:=5) Uu.nd rfl (Or.inr rfl) (QH Qw rfl OT PyProof.Rows.boot_tuple (Qa (Jt (NB:=[".0","at"]) (FR:=["row"]) (fi:=[1]) rfl ⟨rfl,by decide+kernel,by decide+kernel,by decide+kernel,by decide+kernel,by decide+kernel⟩ rfl rfl (XR (D_spots_of.pe hr (by decide) rfl Qn (Qa (pv 0) (Qa (pv 4) Qb)))) (fun _ _ _=>(Qj (i:=1) (show([".0","at","row"]:List Str).Nodup by decide+kernel) rfl (Or.inl rfl))) (fun _ _ _=>Jm) (fun _ _ _=>(QT Qt (pv 2) (pv 1) (fun _ _=>rfl)))) Qb)))
   (Qm (QD (Jt (NB:=[".0","level"]) (FR:=["keys","since","values"]) (fi:=[4,2,5]) rfl ⟨rfl,by decide+kernel,by decide+kernel,by decide+kernel,by decide+kernel,by decide+kernel⟩ rfl rfl (Qav rfl rfl O.reversed rfl O.range (Qa (pv 3) (Qa (Qh Qp rfl O.len PySem.boot_len (Qa (pv 4) Qb)) Qb))) (fun _ _ _=>(Qj (i:=1) (show([".0","level","keys","since","values"]:List Str).Nodup by decide+kernel) rfl (Or.inl rfl))) (fun _ _ _=>Jm) (fun _ _ _=>(Qv (Qa Qq (Qa (QT Qt (pv 2) (pv 1) (fun _ _=>rfl)) (Qa (ZR X0 (pv 4) KU (ZA (QA Z5 (pv 1) Qf))) (Qa (QT KD (pv 3) (pv 1) (fun _ _=>rfl)) Qb))))))))))),?_⟩
  obtain⟨a,ac,ak,as,L⟩:=Ju D
  obtain rfl:=L.v
  obtain⟨rr,rx,rfl,gr,tr⟩:=Deep.Xy DR
  have lsk:(QQ π.cols π.keys).length=π.keys.length:=by unfold QQ;rw[List.length_map]
  have lxs:=ts.length
  rw[List.length_map]at lxs
  refine⟨_,rfl,a,_,1,_,rfl,rfl,.inl L.a,rfl,?_⟩
  dsimp only[QL,JI,Zj,QK]
  refine cb1 (Zf ?_)
  refine⟨_,rfl,_,rfl,.ref a,.ref ak,π,π.keys,rfl,D,L.dk,(fun y hy=>xm Z hy),by omega,fun q H1 S1 gq=>⟨q,rfl,⟨_,.inl (.inl gq)⟩,?_⟩⟩
  refine Jr (fv:=[.ref rr]) (yG (K:=K) (a:=q) (xs:=(QQ π.cols π.keys).map fun i=>V.int (i:Nat))) (jv π row) (by unfold jv;rw[List.length_map,List.length_map]) (fun R h=>h H1 (Qg.refl _)) rfl (fun H2 S2=>.inl (.inl (S2 _ _ gq))) ?_ ?_ (by rw[List.length_map];omega)
  ·rintro i v H2 H3 d R hd S2 ⟨rfl,hv⟩ kk
   rw[List.getElem?_map]at hv
   unfold jv at hd
   rw[List.getElem?_map]at hd
   cases es:(QQ π.cols π.keys)[i]? with
   |none=>rw[es]at hv;cases hv
   |some at_=>
    rw[es]at hv hd
    obtain rfl:=Option.some.inj hv
    obtain⟨c1,hc1,ok1⟩:=VJ Z Y es
    obtain⟨w1,hw1,dw1⟩:=tr.get (i:=at_) (d:=c1.dv) (by rw[List.getElem?_map,hc1];rfl)
    refine⟨rfl,_,rfl,_,rfl,rr,rx,_,_,rfl,rfl,.inl ((S1.trans S2) _ _ gr),Q9 hw1,kk _ _ (Qg.refl _) ?_⟩
    have:d=c1.dv:=by
     have e2:=Option.some.inj hd
     rw[←e2]
     show wg row at_=_
     unfold wg
     rw[hc1]
    rw[this]
    exact dw1.same (S1.trans S2)
  ·rintro vx H2 p S2 tv hp
   have S3:=Qg.new (o:=.lst vx) hp
   refine⟨p,vx,rfl,.inl ⟨.inl (.inl Qc),fun l2 hl2=>?_⟩⟩
   have S4:=Qg.new (o:=.tup vx) hl2
   have DV:Deep (upd (upd H2 p (.lst vx)) l2 (.tup vx)) (.ref l2) (.tup (jv π row)):=Jc (tv.same S3) hl2
   have S04:=((S1.trans S2).trans S3).trans S4
   generalize upd (upd H2 p (.lst vx)) l2 (.tup vx)=H4 at DV S04 S4
   dsimp only[QL,JI,Zj,QK]
   refine wV (Zf ?_)
   have L4:=L.same S04
   have hkl:(π.keys.map V.str).length=π.keys.length:=List.length_map ..
   refine⟨_,rfl,_,rfl,ak,_,rfl,.inr (.inl (.inl L4.k)),((first:Nat):Int),(((π.keys.map V.str).length:Nat):Int),rfl,⟨by omega,by omega,by omega,by omega⟩,?_⟩
   have en:((((π.keys.map V.str).length:Nat):Int)-((first:Nat):Int)).toNat=π.keys.length-first:=by omega
   rw[en]
   refine Jr (fv:=[.ref ak,.ref sl,.ref l2]) (QbA (lo:=((first:Nat):Int)+((π.keys.length-first:Nat):Int)-1) (c:= -1) (n:=π.keys.length-first)) (J3 π row since first) (by unfold J3;rw[List.length_map,List.length_range]) (fun R h=>h H4 (Qg.refl _)) rfl (fun H5 S5=>trivial) ?_ ?_ (by omega)
   ·rintro i v H5 H6 d R hd S5 ⟨rfl,rfl⟩ kk
    unfold J3 at hd
    rw[List.getElem?_map]at hd
    have hi:i<π.keys.length-first:=by
     rcases Nat.lt_or_ge i (π.keys.length-first)with h|h
     ·exact h
     ·rw[List.getElem?_eq_none (by rw[List.length_range];exact h)]at hd
      cases hd
    rw[List.getElem?_range hi]at hd
    obtain rfl:d=v8 π row since (π.keys.length-1-i):=(Option.some.inj hd).symm
    have elv:((first:Nat):Int)+((π.keys.length-first:Nat):Int)-1+((i:Nat):Int)*(-1)=((π.keys.length-1-i:Nat):Int):=by omega
    rw[elv]
    generalize hlv:π.keys.length-1-i=lv at kk ⊢
    have hlt:lv<π.keys.length:=by omega
    have ek:π.keys[lv]? =some (π.keys.getD lv ""):=by
     rw[List.getD_eq_getElem?_getD,List.getElem?_eq_getElem hlt]
     rfl
    have esn:since[lv]? =some (since.getD lv []):=by
     rw[List.getD_eq_getElem?_getD,List.getElem?_eq_getElem (by omega)]
     rfl
    obtain⟨sv,hsv,dsv⟩:=ts.get (i:=lv) (d:=Jo (since.getD lv [])) (by rw[List.getElem?_map,esn];rfl)
    have S06:=S04.trans S5
    refine⟨rfl,?_⟩
    refine⟨_,rfl,_,rfl,ak,_,_,_,rfl,rfl,.inl (S06 _ _ L.k),Q9 (v:=.str (π.keys.getD lv "")) (by rw[List.getElem?_map,ek];rfl),?_⟩
    refine⟨_,rfl,_,rfl,_,_,rfl,rfl,_,rfl,?_⟩
    have e1:((lv:Nat):Int)+1=((lv+1:Nat):Int):=by omega
    rw[e1]
    refine zO.v3 (DV.same S5) fun u H7 S7 DU=>?_
    refine⟨_,rfl,_,rfl,sl,xs,_,sv,rfl,rfl,.inl (S7 _ _ (S06 _ _ gs)),Q9 hsv,?_⟩
    refine⟨by show 4≤sizeLine;omega,fun p8 hp8=>kk _ _ (S7.trans (Qg.new hp8)) ?_⟩
    have S8:=Qg.new (o:=.tup [.str "foot",.str (π.keys.getD lv ""),u,sv]) hp8
    exact .tup Qc (.cons .str (.cons .str (.cons (DU.same S8) (.cons (dsv.same ((S06.trans S7).trans S8)) .nil))))
   ·rintro ys H5 p8 S5 t8 hp8
    have S8:=Qg.new (o:=.lst ys) hp8
    refine k p8 _ ys ((S04.trans S5).trans S8) ?_ Qc (t8.same S8)
    cases e:H p8 with
    |none=>rfl
    |some o=>rw[(S04.trans S5) _ _ e]at hp8;cases hp8
end
end Lw
set_option Elab.async false
set_option linter.all false
set_option maxRecDepth 100000
namespace Lw
open PySem PySem.Spec PyProof.Rows L2 K34
open Builtin Builtin.Str StrLaws
theorem qt{c:TT}{t u:TS}{D:Ends}{σ:L2.St}{H:Hp}(Good:L2.St→Hp→Prop)(rest:∀σ' H',Good σ' H'→u D σ' H') (h:(∀σ' H',Good σ' H'→u D σ' H')→c σ H fun b H1=>if b=true then t {D with nx:=u D} σ H1 else u D σ H1):Zj (yD c t QK) u D σ H:=h rest
def jK(r:List Cell):Dv:=.tup [.str "row",Xn r]
def QbZ(l:List (Int × Int)):Dv:=.tup [.str "final",Jo l]
abbrev sks(π:Plan):List Nat:=QQ π.cols π.keys
abbrev sps(π:Plan):List Nat:=QQ π.cols π.sums
def prog(π:Plan):List (List Cell)→Option (List Cell)→List (List (Int × Int))→List Dv
 |[],none,_=>[]
 |[],some p,since=>J3 π p since 0
 |r::rs,none,since=>jK r::prog π rs (some r) (since.map (Xo (sps π) r))
 |r::rs,some p,since=>J3 π p since (unlike (sks π) p r)++jK r::prog π rs (some r) ((since.take (unlike (sks π) p r)++List.replicate (π.keys.length-unlike (sks π) p r) (zeros π)).map (Xo (sps π) r))
def Zg(π:Plan):List (List (Int × Int)):=List.replicate π.keys.length (zeros π)
def xx(π:Plan)(rows:List (List Cell)):List Dv:=prog π rows none (Zg π)++[QbZ (total π rows)]
theorem Zt{H H2:Hp}{l:Addr}{o:HO}(S:Qg H H2)(h:H l=none):Qg H (upd H2 l o):=fun b o' e=>by rw[Qi (Qr e h)];exact S _ _ e
theorem Wy{H:Hp}{v:V}{d:Dv}(h:Deep H v d):∀n:Nat,Deeps H (List.replicate n v) (List.replicate n d)
 |0=>.nil
 |n+1=>.cons h (Wy h n)
theorem qu{α:Type}(x:α)(n:Nat):(List.replicate n [x]).flatten=List.replicate n x:=by
 induction n with
 |zero=>rfl
 |succ n ih=>rw[List.replicate_succ,List.flatten_cons,ih];rfl
theorem QaF{α:Type}{xs:List α}{n:Nat}{v:α}(h:xs[n]? =some v)(e:xs.length=n+1):atI xs (-1)=some v:=by
 rcases List.eq_nil_or_concat xs with rfl|⟨ys,y,rfl⟩
 ·cases e
 ·rw[List.concat_eq_append]at h e ⊢
  rw[List.length_append,List.length_singleton]at e
  rw[List.getElem?_append_right (by omega),show n-ys.length=0 by omega]at h
  obtain rfl:=Option.some.inj h
  exact kA ys _
theorem XI(π:Plan)(r:List Cell)(s:List (List (Int × Int)))(first:Nat):(J3 π r s first).length=π.keys.length-first:=by unfold J3;rw[List.length_map,List.length_range]
theorem KJ(π:Plan):∀(rows:List (List Cell))(p:Option (List Cell))(since:List (List (Int × Int))),(prog π rows p since).length≤π.keys.length+rows.length*(π.keys.length+1)
 |[],none,_=>by simp[prog]
 |[],some p,since=>by rw[prog,XI];omega
 |r::rs,none,since=>by
  have:=KJ π rs (some r) (since.map (Xo (sps π) r))
  rw[prog,List.length_cons,List.length_cons,Nat.add_mul]
  omega
 |r::rs,some p,since=>by
  have:=KJ π rs (some r) ((since.take (unlike (sks π) p r)++List.replicate (π.keys.length-unlike (sks π) p r) (zeros π)).map (Xo (sps π) r))
  rw[prog,List.length_append,List.length_cons,XI,List.length_cons,Nat.add_mul]
  omega
section
variable {P:Program}{w:World}{K:PySem.W.Frag}{mg:Str→Option Value}{base:Heap}{f:Addr}{fd:FuncData}{tk:Nat→Tok}
structure BrSt(π:Plan)(rows:List (List Cell))(H0 H:Hp)(ln sl:Addr)(xl xs:List V)(acc:List Dv)(since:List (List (Int × Int)))(i m:Nat):Prop where
 S:Qg H0 H
 gl:H ln=some (.lst xl)
 gs:H sl=some (.lst xs)
 ne:ln≠sl
 fl:H0 ln=none
 fs:H0 sl=none
 tl:Deeps H xl acc
 ts:Deeps H xs (since.map Jo)
 ls:since.length=π.keys.length
 lz:∀l∈since,l.length=π.sums.length
 ok:∀l∈since,∀p∈l,AOk i p
 la:acc.length≤m
theorem BrSt.same{π:Plan}{rows:List (List Cell)}{H0 H H':Hp}{ln sl:Addr}{xl xs:List V}{acc:List Dv}{since:List (List (Int × Int))}{i m:Nat}(B:BrSt π rows H0 H ln sl xl xs acc since i m)(S:Qg H H'):BrSt π rows H0 H' ln sl xl xs acc since i m:=
 ⟨B.S.trans S,S _ _ B.gl,S _ _ B.gs,B.ne,B.fl,B.fs,B.tl.same S,B.ts.same S,B.ls,B.lz,B.ok,B.la⟩
def VM:Sp:=fun vs H Q _=>∃(v rv:V)(π:Plan)(rows:List (List Cell)),vs=[v,rv]∧Deep H v (JM π)∧PlanOk π∧π.keys.length≤10∧Deep H rv (UK rows)∧(∀r∈rows,RowOk π r)∧rows.length≤20∧∀u H',Qg H H'→Deep H' u (.tup (xx π rows))→Q u H'
def wj(rows:List (List Cell)):Nat→Option (List Cell)
 |0=>none
 |i+1=>rows[i]?
set_option maxHeartbeats 2000000 in
theorem xy(F:Fun K "breaks" "breaks" Vz f fd)(O:Own mg)(OT:mg "tuple"=none)(OE:mg "enumerate"=none)(D_no_sums:Def P w K mg base 1 "no_sums" ["plan"] js)(D_with_row:Def P w K mg base 5 "with_row" ["plan","amounts","row"] (Ve K))(D_sums_of:Def P w K mg base 6 "sums_of" ["plan","rows"] xq)
  (D_unlike_from:Def P w K mg base 6 "unlike_from" ["plan","one","other"] VL) (D_feet:Def P w K mg base 2 "feet" ["plan","row","since","first"] xw):FnOk P w K mg base (CXE P w) 7 f fd ["plan","rows"] VM:=by
 refine okN F JF (fun vs H Q E h=>?_) (fun cdv A outer s H vs Q E hr h=>?_)
 ·obtain⟨v,rv,π,rows,rfl,_⟩:=h
  rfl
 ·obtain⟨v,rv,π,rows,rfl,D,Z,hk10,DR,Y,hl,k⟩:=h
  have hz:100000≤sizeLine:=by rw[sizeLine_eq];decide
  have z2:=Z.lu
  have z3:π.keys.length+π.sums.length=(π.keys++π.sums).length:=(List.length_append ..).symm
  refine⟨_,(Qe (Qu (i:=2) JF.nd rfl (Or.inl rfl) (QT Qt (pv 0) Qf (fun _ _=>rfl)))
   (Qe (Qu (i:=3) JF.nd rfl (Or.inl rfl) (Js Qb))
   (Qe (Qu (i:=4) JF.nd rfl (Or.inl rfl) (QA wL (Js (Qa (D_no_sums.pe hr (by decide) rfl Qn (Qa (pv 0) Qb)) Qb)) (Qh Qp rfl O.len PySem.boot_len (Qa (pv 2) Qb))))
   (Qe (Xq PassesOwn.never rfl (Vq .tp rfl OE (Qa (pv 1) Qb)) (Jy rfl (Qk (Qj (i:=5) JF.nd rfl (Or.inl rfl)) (Qk (Qj (i:=6) JF.nd rfl (Or.inr rfl)) QX))) (Qe (Xa (QB kn (pv 5) Qf (Qz _)) (Qe (Qu (i:=7) JF.nd rfl (Or.inl rfl) (D_unlike_from.pe hr (by decide) rfl Qn (Qa (pv 0) (Qa (QT Qt (pv 1) (QA Zc (pv 5) Qf) (fun _ _=>rfl)) (Qa (pv 6) Qb)))))
   (Qe (JS (XT PySem.F.plainAttrs_list PySem.F.slot_list_extend PySem.F.type_list_extend Yj (pv 3) (Qa (D_feet.pe hr (by decide) rfl Qn (Qa (pv 0) (Qa (QT Qt (pv 1) (QA Zc (pv 5) Qf) (fun _ _=>rfl)) (Qa (pv 4) (Qa (pv 7) Qb))))) Qb)))
   (Qm (vS (pv 4) (ZA (pv 7)) (QA wL (Js (Qa (D_no_sums.pe hr (by decide) rfl Qn (Qa (pv 0) Qb)) Qb)) (QA Zc (Qh Qp rfl O.len PySem.boot_len (Qa (pv 2) Qb)) (pv 7))) rfl)))) JA)
   (Qe (JS (XT PySem.F.plainAttrs_list PySem.F.slot_list_append PySem.F.type_list_append JT (pv 3) (Qa (Qv (Qa Qq (Qa (pv 6) Qb))) Qb)))
   (Qm (zY (NB:=[".0","amounts"]) (FR:=["plan","row"]) (fi:=[0,6]) (iy:=4) rfl ⟨rfl,by decide+kernel,by decide+kernel,by decide+kernel,by decide+kernel,by decide+kernel⟩ rfl rfl (XR (pv 4)) (fun _ _ _=>(Qj (i:=1) (show([".0","amounts","plan","row"]:List Str).Nodup by decide+kernel) rfl (Or.inl rfl))) (fun _ _ _=>Jm) (fun _ _ _=>(D_with_row.pe hr (by decide) rfl Qn (Qa (pv 2) (Qa (pv 1) (Qa (pv 3) Qb))))) JF.nd rfl (Or.inl rfl) rfl)))))
   (Qe (Xa (QB kn (Qh Qp rfl O.len PySem.boot_len (Qa (pv 1) Qb)) Qf (Qz _)) (Qm (JS (XT PySem.F.plainAttrs_list PySem.F.slot_list_extend PySem.F.type_list_extend Yj (pv 3) (Qa (D_feet.pe hr (by decide) rfl Qn (Qa (pv 0) (Qa (QT Qt (pv 1) (vo jU Qf) (fun _ _=>rfl)) (Qa (pv 4) (Qa Qf Qb))))) Qb)))) JA)
   (Qe (JS (XT PySem.F.plainAttrs_list PySem.F.slot_list_append PySem.F.type_list_append JT (pv 3) (Qa (Qv (Qa Qq (Qa (D_sums_of.pe hr (by decide) rfl Qn (Qa (pv 0) (Qa (pv 1) Qb))) Qb))) Qb)))
   (Qm (QD (QH Qw rfl OT PyProof.Rows.boot_tuple (Qa (pv 3) Qb)))))))))),?_⟩
  obtain⟨a,ac,ak,as,L⟩:=Ju D
  obtain rfl:=L.v
  obtain⟨R,xr,rfl,gr,tr⟩:=Deep.Xy DR
  have lx:=tr.length
  rw[List.length_map]at lx
  have hkl:(π.keys.map V.str).length=π.keys.length:=List.length_map ..
  refine⟨_,rfl,a,_,1,_,rfl,rfl,.inl L.a,rfl,?_⟩
  dsimp only[QL,JI,Zj,QK]
  refine⟨by show 0≤sizeLine;omega,fun ln hln=>?_⟩
  have S1:=Qg.new (o:=.lst []) hln
  have g1:upd H ln (.lst []) ln=some (.lst []):=Qc
  generalize upd H ln (.lst [])=H1 at S1 g1
  refine⟨_,rfl,.ref a,π,rfl,D.same S1,by omega,fun u0 H2 S2 D2=>?_⟩
  refine⟨by show 1≤sizeLine;omega,fun l1 hl1=>?_⟩
  have S3:=Qg.new (o:=.lst [u0]) hl1
  refine⟨_,rfl,ak,_,rfl,.inr (.inl (.inl (S3 _ _ (S2 _ _ (S1 _ _ L.k))))),l1,(((π.keys.map V.str).length:Nat):Int),[u0],rfl,rfl,Qc,by omega,by omega,by rw[Int.toNat_natCast];simp;omega,fun sl hsl=>?_⟩
  rw[Int.toNat_natCast,qu,hkl]
  have S4:=Qg.new (o:=.lst (List.replicate π.keys.length u0)) hsl
  have gs4:upd (upd H2 l1 (.lst [u0])) sl (.lst (List.replicate π.keys.length u0)) sl=some (.lst (List.replicate π.keys.length u0)):=Qc
  have S02:=(S1.trans S2).trans S3
  have fsl:H sl=none:=by
   cases e:H sl with
   |none=>rfl
   |some o=>rw[S02 _ _ e]at hsl;cases hsl
  have ne0:ln≠sl:=fun z=>by
   rw[←z,S3 _ _ (S2 _ _ g1)]at hsl
   cases hsl
  have D0:Deep H2 u0 (Jo (zeros π)):=D2
  dsimp only
  generalize upd (upd H2 l1 (.lst [u0])) sl (.lst (List.replicate π.keys.length u0))=H4 at S4 gs4
  have B0:BrSt π rows H H4 ln sl [] (List.replicate π.keys.length u0) [] (Zg π) 0 0:=by
   refine⟨S02.trans S4,S4 _ _ (S3 _ _ (S2 _ _ g1)),gs4,ne0,hln,fsl,.nil,?_,List.length_replicate ..,fun l hl=>?_,fun l hl p hp=>?_,Nat.le_refl _⟩
   ·unfold Zg
    rw[List.map_replicate]
    exact Wy (D0.same (S3.trans S4)) _
   ·rw[List.eq_of_mem_replicate hl];exact XH π
   ·rw[List.eq_of_mem_replicate hl]at hp;exact KI π p hp
  clear S1 S2 S3 S4 S02 gs4 fsl ne0 D0 D2 g1 hsl hl1 hln
  refine⟨_,rfl,R,rfl,⟨_,.inl (.inl (B0.S _ _ gr))⟩,?_⟩
  refine Zm (Qbz (k:=.tp) (K:=K) (a:=R) (xs:=xr)) (fun i σ H5=>∃ln sl xl xs acc since y5 y6 y7,σ=[some (.ref a),some (.ref R),some (.ref ak),some (.ref ln),some (.ref sl),y5,y6,y7]∧BrSt π rows H H5 ln sl xl xs acc since i (i*20)∧acc++prog π (rows.drop i) (wj rows i) since=prog π rows none (Zg π)) ⟨ln,sl,_,_,_,_,none,none,none,rfl,B0,rfl⟩ ?_ ?_ ?_
  ·rintro i σ H5 _ ⟨ln,sl,xl,xs,acc,since,y5,y6,y7,rfl,B,_⟩
   exact .inl (.inl (B.S _ _ gr))
  ·rintro i x σ H5 H6 hi ⟨ln,sl,xl,xs,acc,since,y5,y6,y7,rfl,B,hacc⟩ ⟨p,x,hp,rfl,hx,rfl⟩
   obtain⟨r,hr2,dr⟩:=Zs tr hx
   have hrm:=List.mem_of_getElem? hr2
   have hri:i<rows.length:=(List.getElem?_eq_some_iff.mp hr2).1
   have Sp:=Qg.new (o:=.tup [.int ((i:Nat):Int),x]) hp
   have B6:=B.same Sp
   refine⟨p,_,rfl,.inl (.inl Qc),rfl,_,_,rfl,_,_,rfl,rfl,?_⟩
   generalize upd H5 p (.tup [.int ((i:Nat):Int),x])=H6 at B6
   clear B Sp hp
   have hdr:rows.drop i=r::rows.drop (i+1):=by
    rw[List.drop_eq_getElem_cons hri]
    congr 1
    exact(List.getElem?_eq_some_iff.mp hr2).2
   rw[hdr]at hacc
   dsimp only[QL,JI,QK]
   refine qt (fun σ' H7=>∃xl' xs' acc' since' y7',σ'=[some (.ref a),some (.ref R),some (.ref ak),some (.ref ln),some (.ref sl),some (.int ((i:Nat):Int)),some x,y7']∧BrSt π rows H H7 ln sl xl' xs' acc' since' i (i*20+10)∧acc'++jK r::prog π (rows.drop (i+1)) (some r) (since'.map (Xo (sps π) r))=prog π rows none (Zg π)) ?_ (fun rest=>?_)
   rotate_left
   ·refine⟨_,rfl,_,_,rfl,rfl,_,rfl,?_⟩
    refine ifB (fun z=>?_) (fun z=>?_)
    ·have z:=of_decide_eq_true z
     obtain⟨i',rfl⟩:∃i',i=i'+1:=⟨i-1,by omega⟩
     obtain⟨x0,hx0⟩:∃x0,xr[i']? =some x0:=⟨_,List.getElem?_eq_getElem (by omega)⟩
     obtain⟨r0,hr0,dr0⟩:=Zs tr hx0
     have hrm0:=List.mem_of_getElem? hr0
     have eix:(((i'+1:Nat):Nat):Int)-1=((i':Nat):Int):=by omega
     have hat:atI xr ((((i'+1:Nat):Nat):Int)-1)=some x0:=by rw[eix];exact Q9 hx0
     have hacc2:acc++(J3 π r0 since (unlike (sks π) r0 r)++jK r::prog π (rows.drop (i'+1+1)) (some r) ((since.take (unlike (sks π) r0 r)++List.replicate (π.keys.length-unlike (sks π) r0 r) (zeros π)).map (Xo (sps π) r)))=prog π rows none (Zg π):=by
      have e1:wj rows (i'+1)=some r0:=hr0
      rw[e1]at hacc
      exact hacc
     refine⟨_,rfl,_,rfl,_,rfl,_,_,rfl,rfl,R,xr,_,x0,rfl,rfl,.inl (B6.S _ _ gr),hat,_,rfl,.ref a,x0,x,π,r0,r,rfl,D.same B6.S,Z,dr0.same B6.S,Y r0 hrm0,dr.same B6.S,Y r hrm,fun H8 S8=>?_⟩
     have B8:=B6.same S8
     have hun:=xv (sks π) r0 r
     have lsk:(sks π).length=π.keys.length:=by unfold sks QQ;rw[List.length_map]
     generalize unlike (sks π) r0 r=u at hacc2 hun ⊢
     dsimp only[QL,JI,Zj,QK]
     refine⟨_,rfl,.inl ⟨rfl,_,.inl (.inl B8.gl)⟩,?_⟩
     refine⟨_,rfl,_,rfl,_,rfl,_,_,rfl,rfl,R,xr,_,x0,rfl,rfl,.inl (B8.S _ _ gr),hat,_,rfl,_,rfl,.ref a,x0,sl,xs,π,r0,since,u,rfl,D.same B8.S,Z,dr0.same B8.S,Y r0 hrm0,B8.gs,B8.ts,B8.ls,by omega,fun q H9 ys S9 hq gq ty=>?_⟩
     have B9:=B8.same S9
     have lty:=ty.length
     rw[XI]at lty
     have ltl:=B9.tl.length
     have hla:=B9.la
     have nq:ln≠q:=fun z=>by rw[←z,B8.gl]at hq;cases hq
     have nsq:sl≠q:=fun z=>by rw[←z,B8.gs]at hq;cases hq
     refine⟨ln,q,xl,ys,rfl,rfl,B9.gl,gq,by omega,?_⟩
     have e1:∀zs:List V,(HO.lst xl)≠ .tup zs:=fun zs z=>nomatch z
     have B10:BrSt π rows H (upd H9 ln (.lst (xl++ys))) ln sl (xl++ys) xs (acc++J3 π r0 since u) since (i'+1) ((i'+1)*20+10):=by
      refine⟨Zt B9.S B9.fl,Qc,by rw[Qi B9.ne.symm];exact B9.gs,B9.ne,B9.fl,B9.fs,(B9.tl.append ty).jJ B9.gl e1,B9.ts.jJ B9.gl e1,B9.ls,B9.lz,B9.ok,?_⟩
      rw[List.length_append,XI]
      omega
     generalize upd H9 ln (.lst (xl++ys))=H10 at B10
     dsimp only[QL,JI,Zj,QK]
     refine⟨_,rfl,.ref a,π,rfl,D.same B10.S,by omega,fun u1 H11 S11 D11=>⟨by show 1≤sizeLine;omega,fun l1 hl1=>?_⟩⟩
     have S12:=Qg.new (o:=.lst [u1]) hl1
     have S112:=S11.trans S12
     have B12:=B10.same S112
     have hrl:([u1]:List V).length*((((π.keys.map V.str).length:Nat):Int)-((u:Nat):Int)).toNat≤sizeLine:=by
      have:((((π.keys.map V.str).length:Nat):Int)-((u:Nat):Int)).toNat≤10:=by omega
      rw[List.length_singleton]
      omega
     refine⟨_,rfl,ak,_,rfl,.inr (.inl (.inl (B12.S _ _ L.k))),_,rfl,_,_,rfl,rfl,l1,(((π.keys.map V.str).length:Nat):Int)-((u:Nat):Int),[u1],rfl,rfl,Qc,by omega,by omega,hrl,fun b hb=>?_⟩
     have en:((((π.keys.map V.str).length:Nat):Int)-((u:Nat):Int)).toNat=π.keys.length-u:=by omega
     rw[en,qu]
     have S13:=Qg.new (o:=.lst (List.replicate (π.keys.length-u) u1)) hb
     have B13:=B12.same S13
     have D13:Deep (upd (upd H11 l1 (.lst [u1])) b (.lst (List.replicate (π.keys.length-u) u1))) u1 (Jo (zeros π)):=D11.same (S12.trans S13)
     have gb:upd (upd H11 l1 (.lst [u1])) b (.lst (List.replicate (π.keys.length-u) u1)) b=some (.lst (List.replicate (π.keys.length-u) u1)):=Qc
     have nb:sl≠b:=fun z=>by rw[←z,B12.gs]at hb;cases hb
     generalize upd (upd H11 l1 (.lst [u1])) b (.lst (List.replicate (π.keys.length-u) u1))=H13 at B13 D13 gb
     have lts:=B13.ts.length
     rw[List.length_map]at lts
     have hls:=B13.ls
     refine⟨_,rfl,_,rfl,_,rfl,sl,b,xs,List.replicate (π.keys.length-u) u1,u,rfl,rfl,rfl,B13.gs,gb,nb,by omega,by rw[List.length_replicate];omega,?_⟩
     have e2:∀zs:List V,(HO.lst xs)≠ .tup zs:=fun zs z=>nomatch z
     refine rest _ _ ⟨xl++ys,xs.take u++List.replicate (π.keys.length-u) u1,acc++J3 π r0 since u,since.take u++List.replicate (π.keys.length-u) (zeros π),_,rfl,?_,by rw[List.append_assoc];exact hacc2⟩
     refine⟨Zt B13.S B13.fs,by rw[Qi B13.ne];exact B13.gl,Qc,B13.ne,B13.fl,B13.fs,B13.tl.jJ B13.gs e2,?_,?_,?_,?_,B13.la⟩
     ·rw[List.map_append,List.map_take,List.map_replicate]
      exact((B13.ts.take u).append (Wy D13 _)).jJ B13.gs e2
     ·rw[List.length_append,List.length_take,List.length_replicate];omega
     ·intro l hl
      rcases List.mem_append.mp hl with hl|hl
      ·exact B13.lz l (List.mem_of_mem_take hl)
      ·rw[List.eq_of_mem_replicate hl];exact XH π
     ·intro l hl p hp
      rcases List.mem_append.mp hl with hl|hl
      ·exact B13.ok l (List.mem_of_mem_take hl) p hp
      ·rw[List.eq_of_mem_replicate hl]at hp
       obtain⟨q1,q2,q3⟩:=KI π p hp
       exact⟨q1,q2,by omega⟩
    ·have z:=of_decide_eq_false z
     obtain rfl:i=0:=by omega
     have hla:=B6.la
     exact rest _ _ ⟨xl,xs,acc,since,_,rfl,⟨B6.S,B6.gl,B6.gs,B6.ne,B6.fl,B6.fs,B6.tl,B6.ts,B6.ls,B6.lz,B6.ok,by omega⟩,hacc⟩
   rintro σ' H7 ⟨xl,xs,acc,since,y7,rfl,B7,hacc7⟩
   clear hacc B6
   have ltl:=B7.tl.length
   have hla:=B7.la
   dsimp only[QL,JI,Zj,QK]
   refine⟨_,rfl,.inl ⟨rfl,_,.inl (.inl B7.gl)⟩,?_⟩
   refine⟨_,rfl,by show 2≤sizeLine;omega,fun p8 hp8=>?_⟩
   have S8:=Qg.new (o:=.tup [.str "row",x]) hp8
   have B8:=B7.same S8
   have DL:Deep (upd H7 p8 (.tup [.str "row",x])) (.ref p8) (jK r):=.tup Qc (.cons .str (.cons (dr.same B8.S) .nil))
   generalize upd H7 p8 (.tup [.str "row",x])=H8 at B8 DL
   refine⟨ln,xl,.ref p8,rfl,rfl,B8.gl,by omega,?_⟩
   have e1:∀zs:List V,(HO.lst xl)≠ .tup zs:=fun zs z=>nomatch z
   have B9:BrSt π rows H (upd H8 ln (.lst (xl++[.ref p8]))) ln sl (xl++[.ref p8]) xs (acc++[jK r]) since i ((i+1)*20):=by
    refine⟨Zt B8.S B8.fl,Qc,by rw[Qi B8.ne.symm];exact B8.gs,B8.ne,B8.fl,B8.fs,(B8.tl.append (.cons DL .nil)).jJ B8.gl e1,B8.ts.jJ B8.gl e1,B8.ls,B8.lz,B8.ok,?_⟩
    rw[List.length_append]
    simp
    omega
   generalize upd H8 ln (.lst (xl++[.ref p8]))=H9 at B9
   dsimp only[QL,JI,Zj,QK]
   refine Zf ?_
   refine⟨_,rfl,sl,rfl,⟨_,.inl (.inl B9.gs)⟩,?_⟩
   have lts:=B9.ts.length
   rw[List.length_map]at lts
   have hls:=B9.ls
   refine Jr (fv:=[.ref a,x]) (yG (K:=K) (a:=sl) (xs:=xs)) ((since.map (Xo (sps π) r)).map Jo) (by rw[List.length_map,List.length_map];omega) (fun R h=>h H9 (Qg.refl _)) rfl (fun H10 S10=>.inl (.inl (S10 _ _ B9.gs))) ?_ ?_ (by omega)
   ·rintro j v H10 H11 d R2 hd S10 ⟨rfl,hv⟩ kk
    obtain⟨dv2,hdv,ddv⟩:=B9.ts.W7 hv
    rw[List.getElem?_map]at hdv
    cases el:since[j]? with
    |none=>rw[el]at hdv;cases hdv
    |some l=>
     rw[el]at hdv
     obtain rfl:=Option.some.inj hdv
     rw[List.getElem?_map,List.getElem?_map,el]at hd
     have hlm:=List.mem_of_getElem? el
     have S010:=B9.S.trans S10
     refine⟨rfl,_,rfl,_,rfl,_,rfl,.ref a,v,x,π,l,r,i,rfl,D.same S010,Z,ddv.same S10,B9.lz l hlm,B9.ok l hlm,by omega,dr.same S010,Y r hrm,fun u2 H12 S12 D12=>kk _ _ S12 ?_⟩
     have:d=Jo (Xo (sps π) r l):=(Option.some.inj hd).symm
     rw[this]
     exact D12
   ·rintro ys H10 p10 S10 t10 hp10
    have S11:=Qg.new (o:=.lst ys) hp10
    have B11:=(B9.same S10).same S11
    have np:ln≠p10:=fun z=>by rw[←z,S10 _ _ B9.gl]at hp10;cases hp10
    refine⟨ln,p10,xl++[.ref p8],ys,acc++[jK r],since.map (Xo (sps π) r),_,_,_,rfl,⟨B11.S,B11.gl,Qc,np,B11.fl,?_,B11.tl,t10.same S11,by rw[List.length_map];exact B11.ls,?_,?_,B11.la⟩,?_⟩
    ·cases e:H p10 with
     |none=>rfl
     |some o=>rw[(B9.S.trans S10) _ _ e]at hp10;cases hp10
    ·intro l hl
     obtain⟨l0,hl0,rfl⟩:=List.mem_map.mp hl
     exact VH (B9.lz l0 hl0)
    ·intro l hl
     obtain⟨l0,hl0,rfl⟩:=List.mem_map.mp hl
     exact UJ Z (Y r hrm) (B9.ok l0 hl0)
    ·rw[List.append_assoc]
     have e2:wj rows (i+1)=some r:=hr2
     rw[e2]
     exact hacc7
  ·rintro σ H5 ⟨ln,sl,xl,xs,acc,since,y5,y6,y7,rfl,B,hacc⟩
   have hla:=B.la
   have lnl:xr.length=rows.length:=lx
   have hdn:rows.drop xr.length=[]:=List.drop_eq_nil_of_le (by omega)
   rw[hdn]at hacc
   have gr5:=B.S _ _ gr
   dsimp only[QL,JI,Zj,QK]
   refine qt (fun σ' H7=>∃xl',σ'=[some (.ref a),some (.ref R),some (.ref ak),some (.ref ln),some (.ref sl),y5,y6,y7]∧Qg H H7∧H7 ln=some (.lst xl')∧Deeps H7 xl' (prog π rows none (Zg π))) ?_ (fun rest=>?_)
   rotate_left
   ·refine⟨_,rfl,R,_,rfl,.inr (.inl (.inl gr5)),_,_,rfl,rfl,_,rfl,?_⟩
    refine ifB (fun z=>?_) (fun z=>?_)
    ·have z:=of_decide_eq_true z
     obtain⟨n,en⟩:∃n,xr.length=n+1:=⟨xr.length-1,by omega⟩
     obtain⟨x0,hx0⟩:∃x0,xr[n]? =some x0:=⟨_,List.getElem?_eq_getElem (by omega)⟩
     obtain⟨r0,hr0,dr0⟩:=Zs tr hx0
     have hrm0:=List.mem_of_getElem? hr0
     rw[en]at hacc
     have e1:wj rows (n+1)=some r0:=hr0
     rw[e1]at hacc
     have hacc2:acc++J3 π r0 since 0=prog π rows none (Zg π):=hacc
     dsimp only[QL,JI,Zj,QK]
     refine⟨_,rfl,.inl ⟨rfl,_,.inl (.inl B.gl)⟩,?_⟩
     refine⟨_,rfl,_,rfl,_,rfl,R,xr,_,x0,rfl,rfl,.inl gr5,QaF hx0 en,_,rfl,.ref a,x0,sl,xs,π,r0,since,0,rfl,D.same B.S,Z,dr0.same B.S,Y r0 hrm0,B.gs,B.ts,B.ls,by omega,fun q H9 ys S9 hq gq ty=>?_⟩
     have B9:=B.same S9
     have lty:=ty.length
     rw[XI]at lty
     have ltl:=B9.tl.length
     refine⟨ln,q,xl,ys,rfl,rfl,B9.gl,gq,by omega,?_⟩
     have e1:∀zs:List V,(HO.lst xl)≠ .tup zs:=fun zs z=>nomatch z
     refine rest _ _ ⟨xl++ys,rfl,Zt B9.S B9.fl,Qc,?_⟩
     rw[←hacc2]
     exact(B9.tl.append ty).jJ B9.gl e1
    ·have z:=of_decide_eq_false z
     have en:xr.length=0:=by omega
     rw[en]at hacc
     have hacc2:acc++[]=prog π rows none (Zg π):=hacc
     rw[List.append_nil]at hacc2
     refine rest _ _ ⟨xl,rfl,B.S,B.gl,?_⟩
     rw[←hacc2]
     exact B.tl
   rintro σ' H7 ⟨xl',rfl,S7,g7,t7⟩
   have fl:=B.fl
   have lp:(prog π rows none (Zg π)).length≤1000:=by
    have h2:=KJ π rows none (Zg π)
    have h3:rows.length*(π.keys.length+1)≤20*11:=Nat.mul_le_mul (by omega) (by omega)
    omega
   have ltl:=t7.length
   dsimp only[QL,JI,Zj,QK]
   refine⟨_,rfl,.inl ⟨rfl,_,.inl (.inl g7)⟩,?_⟩
   refine⟨_,rfl,_,rfl,.ref a,.ref R,π,rows,rfl,D.same S7,Z,DR.same S7,Y,by omega,fun u H8 S8 D8=>?_⟩
   refine⟨by show 2≤sizeLine;omega,fun p9 hp9=>?_⟩
   have S9:=Qg.new (o:=.tup [.str "final",u]) hp9
   have D9:Deep (upd H8 p9 (.tup [.str "final",u])) (.ref p9) (QbZ (total π rows)):=.tup Qc (.cons .str (.cons (D8.same S9) .nil))
   have S79:=S8.trans S9
   have g9:=S79 _ _ g7
   have t9:=(t7.same S79).append (.cons D9 .nil)
   have S09:=S7.trans S79
   generalize upd H8 p9 (.tup [.str "final",u])=H9 at S79 g9 t9 S09
   refine⟨ln,xl',.ref p9,rfl,rfl,g9,by omega,?_⟩
   have e1:∀zs:List V,(HO.lst xl')≠ .tup zs:=fun zs z=>nomatch z
   have t10:=t9.jJ (o':=.lst (xl'++[.ref p9])) g9 e1
   have S10:Qg H (upd H9 ln (.lst (xl'++[.ref p9]))):=Zt S09 fl
   have g10:upd H9 ln (.lst (xl'++[.ref p9])) ln=some (.lst (xl'++[.ref p9])):=Qc
   generalize upd H9 ln (.lst (xl'++[.ref p9]))=H10 at t10 S10 g10
   refine⟨_,rfl,ln,_,rfl,.inl ⟨.inl (.inl g10),fun l hl=>?_⟩⟩
   have S11:=Qg.new (o:=.tup (xl'++[.ref p9])) hl
   exact k _ _ (S10.trans S11) (.tup Qc (t10.same S11))
end
end Lw
set_option Elab.async false
set_option linter.all false
set_option maxRecDepth 100000
namespace Lw
open PySem PySem.Spec PyProof.Rows L2 K34
open Builtin Builtin.Str StrLaws
section
variable {P:Program}{w:World}{K:PySem.W.Frag}{mg:Str→Option Value}{base:Heap}{f:Addr}{fd:FuncData}{tk:Nat→Tok}
theorem VN{H:Hp}{a:Addr}{ns:List Int}(h:SqL K H a (ns.map V.int)):Qbg K (.ref a) H (!ns.isEmpty):=.inl ⟨_,h,by cases ns<;>rfl⟩
theorem YI(F:Fun K "_law_draw" "_law_draw" Xi f fd)(O:Own mg):FnOk P w K mg base (CXE P w) 1 f fd ["_law_script","_law_town","_law_many"] (W5 K):=by
 refine okN F JG (fun vs H Q E h=>?_) (fun cdv A outer s H vs Q E hr h=>?_)
 ·obtain⟨a,t,r,ns,c,many,rs,rfl,_⟩:=h
  rfl
 ·obtain⟨a,t,r,ns,c,many,rs,rfl,hS,T,nat,nar,hl,hc,hm0,hm1,k⟩:=h
  have hu:=Qaf hr
  have T1:TownAt (upd H t (.dK [(Sum.inr "count",.int (c+1)),(Sum.inr "rests",.ref r)])) t r (c+1) rs:=⟨Qc,by rw[Qi T.ne.symm];exact T.rt,T.vs,by have:=T.c0;omega,by have:=T.ln;omega,T.ne⟩
  have hS1:=hS.upd (o:=.dK [(Sum.inr "count",.int (c+1)),(Sum.inr "rests",.ref r)]) nat
  have A1:Apart t r H (upd H t (.dK [(Sum.inr "count",.int (c+1)),(Sum.inr "rests",.ref r)])):=fun b o e n1 n2=>by rw[Qi n1];exact e
  refine⟨_,(Qe (Ub hu (pv 1) Qq (QA Z5 (XU hu (pv 1) Qq (fun _ _=>rfl)) Qf) rfl)
   (Qe (Qu (i:=3) JG.nd rfl (Or.inl rfl) (J0 (ZQ (pv 0) (fun _=>rfl)) (QA WX (XU hu (pv 1) Qq (fun _ _=>rfl)) (Qh Qp rfl O.len PySem.boot_len (Qa (pv 0) Qb))) Qf))
   (Qe (Qu (i:=4) JG.nd rfl (Or.inl rfl) (kD hu (XU hu (pv 1) Qq (fun _ _=>rfl)) (pv 3) (J0 (ZQ (pv 0) (fun _=>rfl)) (QT Y7 (pv 0) (pv 3) (fun _ _=>rfl)) Qf) ⟨rfl,rfl,rfl,rfl⟩))
   (Qe (Xa (QB yR (pv 4) (QA wH Qf Qf) (Qz _)) (Qe (Ub hu (XU hu (pv 1) Qq (fun _ _=>rfl)) (pv 3) (QA Vi (pv 4) (pv 2)) rfl)
   (Qm (QD (QA WX (pv 4) (pv 2))))) JA)
   (Qe (Qu (i:=5) JG.nd rfl (Or.inl rfl) (QA WX (QA Z5 (pv 4) (QA jT Qf (XU hu (pv 1) Qq (fun _ _=>rfl)))) Qf))
   (Qe (Qu (i:=5) JG.nd rfl (Or.inl rfl) (QA WX (QA wH (pv 5) Qf) Qf))
   (Qm (QD (QA WX (QA Vi (QA WX (QA Z5 (QA jT (QA Vi (pv 5) Qf) Qf) (pv 5)) Qf) Qf) (pv 2)))))))))),?_⟩
  refine⟨_,rfl,t,_,rfl,ZS T.tw,_,_,rfl,rfl,_,rfl,t,_,rfl,qY _ T.tw,?_⟩
  refine⟨_,rfl,_,VN hS1,?_⟩
  refine ifB (fun hz=>?_) (fun hz=>?_)
  ·have hp:0<ns.length:=by cases ns with|nil=>cases hz|cons a r=>exact Nat.succ_pos _
   have hp':(0:Int)<((ns.map V.int).length:Int):=by rw[List.length_map];omega
   refine⟨_,rfl,t,_,rfl,ZS T1.tw,_,rfl,a,_,rfl,.inl hS1,_,_,rfl,rfl,hp',?_⟩
   have m1:=Int.emod_nonneg (c+1) (Int.ne_of_gt hp')
   have m2:=Int.emod_lt_of_pos (c+1) hp'
   obtain⟨j,hj⟩:=Int.eq_ofNat_of_zero_le m1
   have hjl:j<ns.length:=by rw[hj,List.length_map]at m2;omega
   refine⟨_,rfl,t,_,rfl,ZT T1.tw,r,rfl,.inl ⟨rs,.inl T1.rt⟩,_,rfl,_,rfl,_,VN hS1,?_⟩
   rw[hz]
   refine Q3 ⟨_,rfl,_,rfl,a,_,_,V.int ns[j],rfl,rfl,hS1,?_,_,U6.k (k:=Sum.inl ((c+1) % ((ns.map V.int).length:Int))) T1.rt,?_⟩
   ·show atI (ns.map V.int) ((c+1) % ((ns.map V.int).length:Int))=_
    rw[hj]
    refine Q9 ?_
    rw[List.getElem?_map,List.getElem?_eq_getElem hjl]
    rfl
   obtain⟨z,hz⟩:=Ys T1.vs ((c+1) % ((ns.map V.int).length:Int)) (ns[j])
   rw[hz]
   refine⟨_,rfl,_,_,rfl,rfl,⟨by decide,by decide,by decide⟩,_,_,rfl,rfl,_,rfl,?_⟩
   refine ifB (fun g=>?_) (fun g=>?_)
   ·have P2:=Yt T1.vs ((c+1) % ((ns.map V.int).length:Int)) (z/many)
    refine⟨_,rfl,_,rfl,_,_,rfl,rfl,⟨hm0,by omega⟩,_,rfl,t,_,rfl,ZT T1.tw,_,rfl,r,_,rfl,zf.k (k:=Sum.inl ((c+1) % ((ns.map V.int).length:Int))) T1.rt (Nat.lt_of_lt_of_le (m:=100001) (by have:=T.ln;omega) (by decide)),?_⟩
    refine⟨_,rfl,_,rfl,_,_,rfl,rfl,hm0,?_⟩
    refine k _ (putK rs (Sum.inl ((c+1) % ((ns.map V.int).length:Int))) (.int (z/many))) _ (Int.emod_nonneg _ (Int.ne_of_gt hm0)) (Int.emod_lt_of_pos _ hm0) ⟨?_,Qc,P2.1,T1.c0,?_,T.ne⟩ (A1.trans fun b o e n1 n2=>by rw[Qi n2];exact e)
    ·rw[Qi T.ne];exact T1.tw
    ·have:=P2.2
     have:=T.ln
     omega
   ·refine⟨_,rfl,_,rfl,t,_,rfl,ZS T1.tw,_,_,rfl,rfl,.inl ⟨by decide,by decide⟩,_,_,rfl,rfl,_,_,rfl,rfl,(show(0:Int)<4294967291 by decide),?_⟩
    have n1:=Int.emod_nonneg (z+104729*(c+1)) (show(4294967291:Int)≠0 by decide)
    have n2:=Int.emod_lt_of_pos (z+104729*(c+1)) (show(0:Int)<4294967291 by decide)
    refine⟨_,rfl,_,_,rfl,rfl,⟨by decide,by decide,by show Int.natAbs _<2^64;omega⟩,_,_,rfl,rfl,(show(0:Int)<4294967279 by decide),?_⟩
    refine⟨_,rfl,_,_,rfl,rfl,⟨by decide,by decide⟩,_,_,rfl,rfl,.inr ⟨by decide,by decide⟩,_,rfl,_,_,rfl,rfl,_,_,rfl,rfl,(show(0:Int)<4294967231 by decide),_,_,rfl,rfl,⟨by decide,by decide⟩,_,rfl,_,_,rfl,rfl,hm0,?_⟩
    exact k _ rs _ (Int.emod_nonneg _ (Int.ne_of_gt hm0)) (Int.emod_lt_of_pos _ hm0) T1 A1
  ·refine⟨_,rfl,t,_,rfl,ZT T1.tw,r,rfl,.inl ⟨rs,.inl T1.rt⟩,_,rfl,_,rfl,_,VN hS1,?_⟩
   rw[hz]
   refine Jx ⟨_,U6.k (k:=Sum.inl (0:Int)) T1.rt,?_⟩
   obtain⟨z,hz⟩:=Ys T1.vs ((0:Int)) (0)
   rw[hz]
   refine⟨_,rfl,_,_,rfl,rfl,⟨by decide,by decide,by decide⟩,_,_,rfl,rfl,_,rfl,?_⟩
   refine ifB (fun g=>?_) (fun g=>?_)
   ·have P2:=Yt T1.vs ((0:Int)) (z/many)
    refine⟨_,rfl,_,rfl,_,_,rfl,rfl,⟨hm0,by omega⟩,_,rfl,t,_,rfl,ZT T1.tw,_,rfl,r,_,rfl,zf.k (k:=Sum.inl ((0:Int))) T1.rt (Nat.lt_of_lt_of_le (m:=100001) (by have:=T.ln;omega) (by decide)),?_⟩
    refine⟨_,rfl,_,rfl,_,_,rfl,rfl,hm0,?_⟩
    refine k _ (putK rs (Sum.inl ((0:Int))) (.int (z/many))) _ (Int.emod_nonneg _ (Int.ne_of_gt hm0)) (Int.emod_lt_of_pos _ hm0) ⟨?_,Qc,P2.1,T1.c0,?_,T.ne⟩ (A1.trans fun b o e n1 n2=>by rw[Qi n2];exact e)
    ·rw[Qi T.ne];exact T1.tw
    ·have:=P2.2
     have:=T.ln
     omega
   ·refine⟨_,rfl,_,rfl,t,_,rfl,ZS T1.tw,_,_,rfl,rfl,.inl ⟨by decide,by decide⟩,_,_,rfl,rfl,_,_,rfl,rfl,(show(0:Int)<4294967291 by decide),?_⟩
    have n1:=Int.emod_nonneg (z+104729*(c+1)) (show(4294967291:Int)≠0 by decide)
    have n2:=Int.emod_lt_of_pos (z+104729*(c+1)) (show(0:Int)<4294967291 by decide)
    refine⟨_,rfl,_,_,rfl,rfl,⟨by decide,by decide,by show Int.natAbs _<2^64;omega⟩,_,_,rfl,rfl,(show(0:Int)<4294967279 by decide),?_⟩
    refine⟨_,rfl,_,_,rfl,rfl,⟨by decide,by decide⟩,_,_,rfl,rfl,.inr ⟨by decide,by decide⟩,_,rfl,_,_,rfl,rfl,_,_,rfl,rfl,(show(0:Int)<4294967231 by decide),_,_,rfl,rfl,⟨by decide,by decide⟩,_,rfl,_,_,rfl,rfl,hm0,?_⟩
    exact k _ rs _ (Int.emod_nonneg _ (Int.ne_of_gt hm0)) (Int.emod_lt_of_pos _ hm0) T1 A1
theorem VO(F:Fun K "_law_begun" "_law_begun" ZI f fd):FnOk P w K mg base (CXE P w) 1 f fd [] Ug:=by
 refine zq F VB (fun vs H Q E h=>?_) (fun cdv A outer s H vs Q E hr h=>?_)
 ·obtain⟨rfl,_⟩:=h
  rfl
 ·obtain⟨rfl,k⟩:=h
  refine⟨_,qX,?_⟩
  intro p hp d hd
  have npd:d≠p:=fun z=>by rw[z,Qc]at hd;cases hd
  have hd0:H d=none:=by rw[Qi npd]at hd;exact hd
  refine⟨by rw[Qi npd.symm,Qc],[(Sum.inr "count",.int 0),(Sum.inr "rests",.ref d)],rfl,Nat.le_of_ble_eq_true rfl,?_⟩
  have e:Kj [] [((Sum.inr "count":Key),V.int 0),((Sum.inr "rests":Key),V.ref d)]=[((Sum.inr "count":Key),V.int 0),((Sum.inr "rests":Key),V.ref d)]:=by
   have h:¬ ((Sum.inr "count":Key)=(Sum.inr "rests":Key)):=zr
   unfold Kj putK
   simp[h]
  rw[e]
  refine k p d _ hp hd0 ⟨Qc,by rw[Qi npd,Qc],(fun kv hm=>nomatch hm),by decide,by decide,npd.symm⟩ fun b o z=>?_
  rw[Qi (Qr z hp),Qi (Qr z hd0),Qi (Qr z hp)]
  exact z
theorem qv:∀k:Nat,k<19→PySem.intText? (("1":Str)++V3 "0" k)=some (10^k)∧(("1":Str)++V3 "0" k).length≤640∧("1":Str).length+(V3 "0" k).length≤sizeLine∧("0":Str).length*k≤sizeLine:=by decide+kernel
def xz:Sp:=fun vs H Q _=>∃(a b:Addr)(xs ys:List V)(l m:List (Int × Int))(n:Nat),vs=[.ref a,.ref b]∧H a=some (.tup xs)∧Deeps H xs (l.map V5)∧H b=some (.lst ys)∧Deeps H ys (m.map V5)∧l.length=m.length∧(∀p∈l,AOk n p)∧(∀p∈m,AOk 1 p)∧n≤50∧l.length≤100∧∀u H',Qg H H'→Deep H' u (Jo (List.zipWith x9 l m))→Q u H'
theorem qw{H:Hp}{xs:List V}{l:List (Int × Int)}(t:Deeps H xs (l.map V5)){i:Nat}{x:V}(h:xs[i]? =some x):∃p a,l[i]? =some p∧x=.ref a∧H a=some (.tup [.int p.1,.int p.2]):=by
 obtain⟨d,hd,dd⟩:=t.W7 h
 rw[List.getElem?_map]at hd
 cases e:l[i]? with
 |none=>rw[e]at hd;cases hd
 |some p=>
  rw[e]at hd
  obtain rfl:=Option.some.inj hd
  obtain⟨a,rfl,g⟩:=wY dd
  exact⟨p,a,rfl,rfl,g⟩
theorem AOk.bnd{n:Nat}{p:Int × Int}(h:AOk n p)(hn:n≤100):p.1.natAbs<2^200:=(h.amt (K:=default) hn (H:=fun _=>some (.tup [.int p.1,.int p.2])) (a:=default) rfl).bd
set_option maxHeartbeats 1000000 in
theorem YJ(F:Fun K "_law_plus" "_law_plus" Xj f fd)(O:Own mg)(OT:mg "tuple"=none)(OZ:mg "zip"=none):FnOk P w K mg base (CXE P w) 1 f fd ["_law_one","_law_two"] xz:=by
 refine okN F Jh (fun vs H Q E h=>?_) (fun cdv A outer s H vs Q E hr h=>?_)
 ·obtain⟨a,b,xs,ys,l,m,n,rfl,_⟩:=h
  rfl
 ·obtain⟨a,b,xs,ys,l,m,n,rfl,ga,ta,gb,tb,hlm,ol,om,hn,hl,k⟩:=h
  have hz:1000≤sizeLine:=by decide
  have l1:=ta.length
  have l2:=tb.length
  rw[List.length_map]at l1 l2
  refine⟨_,(Qe (Qu (i:=2) Jh.nd rfl (Or.inl rfl) (Js Qb))
   (Qe (Xq PassesOwn.never rfl (Vr .tp .ls rfl OZ (Qa (pv 0) (Qa (pv 1) Qb))) (Jy rfl (Qk (Qj (i:=3) Jh.nd rfl (Or.inl rfl)) (Qk (Qj (i:=4) Jh.nd rfl (Or.inl rfl)) QX))) (Qe (Qu (i:=5) Jh.nd rfl (Or.inl rfl) (Qh (KQ rfl) rfl O.max PyProof.Rows.boot_max (Qa (QT Qt (pv 3) Qf (fun _ _=>rfl)) (Qa (QT Qt (pv 4) Qf (fun _ _=>rfl)) Qb))))
   (Qe (Qu (i:=6) Jh.nd rfl (Or.inl rfl) (QA Ue (QT Qt (pv 3) Qf (fun _ _=>rfl)) (QH Xw rfl O.int PyProof.Rows.boot_int (Qa (QA WZ Qq (QA K7 Qq (QA Zc (pv 5) (QT Qt (pv 3) Qf (fun _ _=>rfl))))) Qb))))
   (Qe (Qu (i:=6) Jh.nd rfl (Or.inl rfl) (QA Z5 (pv 6) (QA Ue (QT Qt (pv 4) Qf (fun _ _=>rfl)) (QH Xw rfl O.int PyProof.Rows.boot_int (Qa (QA WZ Qq (QA K7 Qq (QA Zc (pv 5) (QT Qt (pv 4) Qf (fun _ _=>rfl))))) Qb)))))
   (Qm (JS (XT PySem.F.plainAttrs_list PySem.F.slot_list_append PySem.F.type_list_append JT (pv 2) (Qa (Qv (Qa (pv 6) (Qa (pv 5) Qb))) Qb))))))))
   (Qm (QD (QH Qw rfl OT PyProof.Rows.boot_tuple (Qa (pv 2) Qb)))))),?_⟩
  refine⟨by show 0≤sizeLine;omega,fun q hq=>?_⟩
  have S1:=Qg.new (o:=.lst []) hq
  have g1:upd H q (.lst []) q=some (.lst []):=Qc
  generalize upd H q (.lst [])=H1 at S1 g1
  dsimp only[QL,JI,Zj,QK]
  refine⟨_,rfl,_,rfl,a,b,rfl,⟨_,.inl (S1 _ _ ga)⟩,⟨_,.inl (S1 _ _ gb)⟩,?_⟩
  refine Zm (Qa1 (k1:=.tp) (k2:=.ls) (a1:=a) (a2:=b) (xs:=xs) (ys:=ys)) (fun i σ H2=>∃zs y3 y4 y5 y6,σ=[some (.ref a),some (.ref b),some (.ref q),y3,y4,y5,y6]∧Qg H H2∧H2 q=some (.lst zs)∧Deeps H2 zs (((List.zipWith x9 l m).take i).map V5)) ⟨[],none,none,none,none,rfl,S1,g1,.nil⟩ ?_ ?_ ?_
  ·rintro i σ H2 _ ⟨zs,y3,y4,y5,y6,rfl,S,_⟩
   exact⟨.inl (S _ _ ga),.inl (S _ _ gb)⟩
  ·rintro i v σ H2 H3 hi ⟨zs,y3,y4,y5,y6,rfl,S,gq,tq⟩ ⟨p,x,y,hp,rfl,hx,hy,rfl⟩
   have Sp:=Qg.new (o:=.tup [x,y]) hp
   obtain⟨pp,a1,hpp,rfl,g1⟩:=qw ta hx
   obtain⟨qq,a2,hqq,rfl,g2⟩:=qw tb hy
   have o1:=ol _ (List.mem_of_getElem? hpp)
   have o2:=om _ (List.mem_of_getElem? hqq)
   have b1:=o1.bnd (by omega)
   have b2:=o2.bnd (by omega)
   refine⟨p,_,rfl,.inl (.inl Qc),rfl,_,_,rfl,_,_,rfl,rfl,?_⟩
   have S3:=S.trans Sp
   have gq3:=Sp _ _ gq
   have tq3:=tq.same Sp
   generalize upd H2 p (.tup [.ref a1,.ref a2])=H3 at Sp S3 gq3 tq3
   have h1:=S3 _ _ g1
   have h2:=S3 _ _ g2
   obtain⟨p1,p2⟩:=pp
   obtain⟨q1,q2⟩:=qq
   obtain⟨c1,c2,c3⟩:=o1
   obtain⟨d1,d2,d3⟩:=o2
   have m1:=Qaz p2 q2
   have m2:=Qa4 p2 q2
   have m3:=zW c2 d2
   dsimp only[QL,JI,Zj,QK]
   refine⟨_,rfl,a1,_,1,_,rfl,rfl,.inl h1,rfl,_,rfl,a2,_,1,_,rfl,rfl,.inl h2,rfl,p2,q2,rfl,?_⟩
   have em:(if q2>p2 then q2 else p2)=mx p2 q2:=rfl
   rw[em]
   obtain⟨e1,e2,e3,e4⟩:=qv (mx p2 q2-p2).toNat (by omega)
   obtain⟨f1,f2,f3,f4⟩:=qv (mx p2 q2-q2).toNat (by omega)
   have t1:((10:Int)^(mx p2 q2-p2).toNat).natAbs<2^2000:=big (XC (m:=mx p2 q2-p2) (by omega))
   have t2:((10:Int)^(mx p2 q2-q2).toNat).natAbs<2^2000:=big (XC (m:=mx p2 q2-q2) (by omega))
   refine⟨_,rfl,a1,_,0,_,rfl,rfl,.inl h1,rfl,_,rfl,_,rfl,a1,_,1,_,rfl,rfl,.inl h1,rfl,_,_,rfl,rfl,_,_,rfl,rfl,by omega,e4,by omega,_,_,rfl,rfl,e3,_,_,rfl,e1,e2,_,_,rfl,rfl,⟨big b1,t1⟩,?_⟩
   refine⟨_,rfl,_,rfl,a2,_,0,_,rfl,rfl,.inl h2,rfl,_,rfl,_,rfl,a2,_,1,_,rfl,rfl,.inl h2,rfl,_,_,rfl,rfl,_,_,rfl,rfl,by omega,f4,by omega,_,_,rfl,rfl,f3,_,_,rfl,f1,f2,_,_,rfl,rfl,⟨big b2,t2⟩,_,_,rfl,rfl,?_⟩
   refine⟨_,rfl,.inl ⟨rfl,_,.inl (.inl gq3)⟩,?_⟩
   refine⟨_,rfl,_,rfl,by show 2≤sizeLine;omega,fun p8 hp8=>?_⟩
   have S8:=Qg.new (o:=.tup [.int (p1*10^(mx p2 q2-p2).toNat+q1*10^(mx p2 q2-q2).toNat),.int (mx p2 q2)]) hp8
   have D8:Deep (upd H3 p8 (.tup [.int (p1*10^(mx p2 q2-p2).toNat+q1*10^(mx p2 q2-q2).toNat),.int (mx p2 q2)])) (.ref p8) (V5 (x9 (p1,p2) (q1,q2))):=.tup Qc (.cons .int (.cons .int .nil))
   generalize upd H3 p8 (.tup [.int (p1*10^(mx p2 q2-p2).toNat+q1*10^(mx p2 q2-q2).toNat),.int (mx p2 q2)])=H8 at S8 D8
   have lz:=tq3.length
   rw[List.length_map,List.length_take,List.length_zipWith]at lz
   refine⟨q,zs,.ref p8,rfl,rfl,S8 _ _ gq3,by omega,?_⟩
   have e9:∀zz:List V,(HO.lst zs)≠ .tup zz:=fun zz z=>nomatch z
   refine⟨zs++[.ref p8],_,_,_,_,rfl,Zt (S3.trans S8) hq,Qc,?_⟩
   have ez:(List.zipWith x9 l m)[i]? =some (x9 (p1,p2) (q1,q2)):=by rw[List.getElem?_zipWith,hpp,hqq]
   rw[List.take_add_one,ez,List.map_append]
   exact((tq3.same S8).append (.cons D8 .nil)).jJ (S8 _ _ gq3) e9
  ·rintro σ H2 ⟨zs,y3,y4,y5,y6,rfl,S,gq,tq⟩
   rw[List.take_of_length_le (by rw[List.length_zipWith];omega)]at tq
   refine⟨_,rfl,q,_,rfl,.inl ⟨.inl (.inl gq),fun l9 hl9=>?_⟩⟩
   exact k _ _ (S.trans (Qg.new hl9)) (Jc tq hl9)
end
end Lw
set_option Elab.async false
set_option linter.all false
set_option maxRecDepth 100000
namespace Lw
open PySem PySem.Spec PyProof.Rows L2 K34
open Builtin Builtin.Str StrLaws
section
variable {P:Program}{w:World}{K:PySem.W.Frag}{mg:Str→Option Value}{base:Heap}{f:Addr}{fd:FuncData}{tk:Nat→Tok}
def wl:List (List Str):=[[],["a"],["a","b"],["b","a"]]
def jw:List (List Str):=[[],["x"],["x","y"],["y"]]
def WR:List (List Str):=[["a","b","x","y","z"],["x","a","z","b","y"]]
theorem ya{ks ss cs:List Str}{n:Int}(h1:ks∈wl)(h2:ss∈jw)(h3:cs∈WR)(h4:6≤n):PlanOk ⟨cs,ks,ss,n⟩:=by
 have key:(wl.all fun ks=>jw.all fun ss=>WR.all fun cs=>cs.all Zv&&ks.all Zv&&ss.all Zv&&decide (many cs=cs.length)&&decide (many ks=ks.length)&&decide (many ss=ss.length)&&decide (many (ks++ss)=(ks++ss).length)&&(ks++ss).all (fun x=>cs.contains x)&& !cs.isEmpty&&decide (cs.length≤100)&&decide ((ks++ss).length≤100))=true:=by decide+kernel
 have k1:=List.all_eq_true.mp key ks h1
 have k2:=List.all_eq_true.mp k1 ss h2
 have k3:=List.all_eq_true.mp k2 cs h3
 simp only[Bool.and_eq_true,decide_eq_true_eq]at k3
 obtain⟨⟨⟨⟨⟨⟨⟨⟨⟨⟨a1,a2⟩,a3⟩,a4⟩,a5⟩,a6⟩,a7⟩,a8⟩,a9⟩,a10⟩,a11⟩:=k3
 exact⟨a1,a2,a3,a4,a5,a6,a7,a8,(fun z=>by simp only[]at z;rw[z]at a9;cases a9),h4,a10,a11⟩
def cellOf(A B X Y:Cell)(nm:Str):Cell:=if nm="a" then A else if nm="b" then B else if nm="x" then X else if nm="y" then Y else .txt "t"
def QbH:List Cell:=[.txt "p",.txt "q",.amt 1 0]
def QbI:List Cell:=[.amt 1 0,.amt 10 1,.txt "r",.amt 2 0]
theorem yb:∀c∈QbH,JX c:=by
 intro c hc
 simp only[QbH,List.mem_cons,List.not_mem_nil,or_false]at hc
 rcases hc with rfl|rfl|rfl
 ·show textOk "p"=true;decide+kernel
 ·show textOk "q"=true;decide+kernel
 ·exact⟨by decide,by decide,by decide⟩
theorem yc:∀c∈QbI,JX c:=by
 intro c hc
 simp only[QbI,List.mem_cons,List.not_mem_nil,or_false]at hc
 rcases hc with rfl|rfl|rfl|rfl
 ·exact⟨by decide,by decide,by decide⟩
 ·exact⟨by decide,by decide,by decide⟩
 ·show textOk "r"=true;decide+kernel
 ·exact⟨by decide,by decide,by decide⟩
theorem wZ{u o:Int}(h0:0≤o)(h2:o≤2)(hu:u.natAbs≤100):JX (.amt u o):=by
 refine⟨h0,h2,?_⟩
 rw[Int.natAbs_mul]
 have:(K01.ten (2-o)).natAbs≤100:=by
  obtain rfl|rfl|rfl:o=0∨o=1∨o=2:=by omega
  ·decide
  ·decide
  ·decide
 calc u.natAbs*(K01.ten (2-o)).natAbs≤100*100:=Nat.mul_le_mul hu this
  _=10^4:=by decide
theorem QaG{ks ss cs:List Str}{n:Int}{A B:Cell}{xu xo yu yo:Int}(h2:ss∈jw)(hA:JX A)(hB:JX B)(hX:JX (.amt xu xo))(hY:JX (.amt yu yo)):RowOk ⟨cs,ks,ss,n⟩ (cs.map (cellOf A B (.amt xu xo) (.amt yu yo))):=by
 refine⟨List.length_map ..,fun c hc=>?_,fun i x hx hs=>?_⟩
 ·obtain⟨nm,_,rfl⟩:=List.mem_map.mp hc
  unfold cellOf
  split
  ·exact hA
  ·split
   ·exact hB
   ·split
    ·exact hX
    ·split
     ·exact hY
     ·show textOk "t"=true;decide+kernel
 ·have key:∀ss∈jw,∀x∈ss,x="x"∨x="y":=by
   intro ss hss x hx
   have h:=List.all_eq_true.mp (show(jw.all fun ss=>ss.all fun x=>decide (x=("x":Str))||decide (x=("y":Str)))=true by decide+kernel) ss hss
   have h:=List.all_eq_true.mp h x hx
   simpa using h
  have hxs:=key ss h2 x (List.contains_iff_mem.mp hs)
  have hx2:cs[i]? =some x:=hx
  rw[List.getElem?_map,hx2]
  have n1:¬ (("x":Str)="a"):=by decide+kernel
  have n2:¬ (("x":Str)="b"):=by decide+kernel
  have n3:¬ (("y":Str)="a"):=by decide+kernel
  have n4:¬ (("y":Str)="b"):=by decide+kernel
  have n5:¬ (("y":Str)="x"):=by decide+kernel
  rcases hxs with rfl|rfl
  ·refine⟨xu,xo,?_⟩
   show some (cellOf _ _ _ _ _)=_
   unfold cellOf
   rw[if_neg n1,if_neg n2,if_pos rfl]
  ·refine⟨yu,yo,?_⟩
   show some (cellOf _ _ _ _ _)=_
   unfold cellOf
   rw[if_neg n3,if_neg n4,if_neg n5,if_pos rfl]
def UO(K:PySem.W.Frag):Sp:=fun vs H Q _=>∃(a t r:Addr)(ns:List Int)(c:Int),vs=[.ref a,.ref t]∧Bag K H a t r ns c∧c<90000∧∀(v:V)(H':Hp)(π:Plan)(rows:List (List Cell))(c':Int),Bag K H' a t r ns c'→c'≤c+1000→Apart t r H H'→Deep H' v (.tup [JM π,UK rows])→PlanOk π→π.cols∈WR→π.keys.length≤10→rows.length≤12→(∀r∈rows,RowOk π r)→Q v H'
theorem wm:∀cs∈WR,cs.length≤10:=by decide+kernel
theorem wn:∀ks∈wl,ks.length≤10:=by decide+kernel
theorem VP{L:List (List Str)}{d:Nat}{dv:Dv}(h:(L.map fun ys=>Dv.tup (txD ys))[d]? =some dv):∃ys∈L,dv=.tup (txD ys):=by
 rw[List.getElem?_map]at h
 cases e:L[d]? with
 |none=>rw[e]at h;cases h
 |some ys=>rw[e]at h;exact⟨ys,List.mem_of_getElem? e,(Option.some.inj h).symm⟩
theorem yd{r:List V→Hp→VK→Prop}{te:TE}{σ:L2.St}{H:Hp}{Q:VK}(h:te σ H fun v H1=>r [v] H1 fun x H2=>([x]:List V).length≤sizeLine∧∀l,H2 l=none→Q (.ref l) (upd H2 l (.tup [x]))):wJ (Q8 (tCB r (Q8 te Kn)) Kn) σ H Q:=h
theorem wo{kvs:List (Key × V)}{k:Key}{v:V}(h:∀kv∈kvs,kv.1≠k):putK kvs k v=kvs++[(k,v)]:=by
 unfold putK
 rw[if_neg]
 intro z
 obtain⟨kv,h1,h2⟩:=List.any_eq_true.mp z
 exact h kv h1 (of_decide_eq_true h2)
def ye(va vb vx vy:V):List (Key × V):=[(Sum.inr "a",va),(Sum.inr "b",vb),(Sum.inr "x",vx),(Sum.inr "y",vy),(Sum.inr "z",.str "t")]
theorem QaH:((Sum.inr ("a":Str):Key)≠Sum.inr ("b":Str))∧((Sum.inr ("a":Str):Key)≠Sum.inr ("x":Str))∧((Sum.inr ("a":Str):Key)≠Sum.inr ("y":Str))∧((Sum.inr ("a":Str):Key)≠Sum.inr ("z":Str))∧((Sum.inr ("b":Str):Key)≠Sum.inr ("x":Str))∧((Sum.inr ("b":Str):Key)≠Sum.inr ("y":Str))∧((Sum.inr ("b":Str):Key)≠Sum.inr ("z":Str))∧((Sum.inr ("x":Str):Key)≠Sum.inr ("y":Str))∧((Sum.inr ("x":Str):Key)≠Sum.inr ("z":Str))∧((Sum.inr ("y":Str):Key)≠Sum.inr ("z":Str)):=by decide+kernel
theorem yf{H:Hp}{va vb vx vy:V}{A B X Y:Cell}{nm:Str}{cs:List Str}(hc:cs∈WR)(hn:nm∈cs)(da:Deep H va A.dv)(db:Deep H vb B.dv)(dx:Deep H vx X.dv)(dy:Deep H vy Y.dv):∃v,Y8 (ye va vb vx vy) (Sum.inr nm:Key)=some v∧Deep H v (cellOf A B X Y nm).dv:=by
 have key:=List.all_eq_true.mp (List.all_eq_true.mp (show(WR.all fun cs=>cs.all fun x=>decide (x=("a":Str))||decide (x=("b":Str))||decide (x=("x":Str))||decide (x=("y":Str))||decide (x=("z":Str)))=true by decide+kernel) cs hc) nm hn
 simp only[Bool.or_eq_true,decide_eq_true_eq]at key
 obtain⟨e1,e2,e3,e4,e5,e6,e7,e8,e9,e10⟩:=QaH
 have f:∀{x y:Str},(Sum.inr x:Key)≠Sum.inr y→x≠y:=fun h z=>h (by rw[z])
 unfold ye cellOf
 rcases key with(((rfl|rfl)|rfl)|rfl)|rfl
 ·exact⟨va,JC rfl,by rw[if_pos rfl];exact da⟩
 ·exact⟨vb,by rw[Jb e1];exact JC rfl,by rw[if_neg (f e1).symm,if_pos rfl];exact db⟩
 ·exact⟨vx,by rw[Jb e2,Jb e5];exact JC rfl,by rw[if_neg (f e2).symm,if_neg (f e5).symm,if_pos rfl];exact dx⟩
 ·exact⟨vy,by rw[Jb e3,Jb e6,Jb e8];exact JC rfl,by rw[if_neg (f e3).symm,if_neg (f e6).symm,if_neg (f e8).symm,if_pos rfl];exact dy⟩
 ·exact⟨.str "t",by rw[Jb e4,Jb e7,Jb e9,Jb e10];exact JC rfl,by rw[if_neg (f e4).symm,if_neg (f e7).symm,if_neg (f e9).symm,if_neg (f e10).symm];exact .str⟩
structure DAt(H:Hp)(t r p:Addr)(kvs:List (Key × V)):Prop where
 h:H p=some (.dK kvs)
 nt:p≠t
 nr:p≠r
theorem DAt.same{H H':Hp}{t r p:Addr}{kvs:List (Key × V)}(D:DAt H t r p kvs)(S:Qg H H'):DAt H' t r p kvs:=⟨S _ _ D.h,D.nt,D.nr⟩
theorem DAt.apart{H H':Hp}{t r p:Addr}{kvs:List (Key × V)}(D:DAt H t r p kvs)(A:L2.Apart t r H H'):DAt H' t r p kvs:=⟨A _ _ D.h D.nt D.nr,D.nt,D.nr⟩
theorem DAt.put{H:Hp}{t r p:Addr}{kvs:List (Key × V)}(D:DAt H t r p kvs)(more:List (Key × V)):DAt (upd H p (.dK more)) t r p more:=⟨Qc,D.nt,D.nr⟩
theorem DAt.Zq{H:Hp}{t r p:Addr}{kvs:List (Key × V)}{o:HO}(D:DAt H t r p kvs):∀b ys,H b=some (.tup ys)→upd H p o b=some (.tup ys):=fun b ys e=>by rw[Qi (fun z=>by rw[z,D.h]at e;cases e)];exact e
theorem DAt.Uk{H:Hp}{t r p:Addr}{kvs:List (Key × V)}(D:DAt H t r p kvs)(x:Str)(v:V)(hl:kvs.length<100)(h:∀kv∈kvs,kv.1≠Sum.inr x):zf H p (.str x) v (upd H p (.dK (kvs++[(Sum.inr x,v)]))):=by
 have hz:1000≤sizeLine:=by decide
 have e:=zf.k (k:=(Sum.inr x:Key)) (v:=v) D.h (by omega)
 rw[wo h]at e
 exact e
structure Mid(K:PySem.W.Frag)(H0 H:Hp)(a t r:Addr)(ns:List Int)(c:Int)(xk xs xc xr:V)(ks ss cs:List Str)(rows:List (List Cell)):Prop where
 B:Bag K H a t r ns c
 A:L2.Apart t r H0 H
 dk:Deep H xk (.tup (txD ks))
 ds:Deep H xs (.tup (txD ss))
 dc:Deep H xc (.tup (txD cs))
 dr:Deep H xr (UK rows)
theorem Mid.same{H0 H H':Hp}{a t r:Addr}{ns:List Int}{c:Int}{xk xs xc xr:V}{ks ss cs:List Str}{rows:List (List Cell)}(M:Mid K H0 H a t r ns c xk xs xc xr ks ss cs rows)(S:Qg H H'):Mid K H0 H' a t r ns c xk xs xc xr ks ss cs rows:=⟨M.B.same S,M.A.trans (Apart.of S),M.dk.same S,M.ds.same S,M.dc.same S,M.dr.same S⟩
theorem Mid.drawn{H0 H H':Hp}{a t r:Addr}{ns:List Int}{c c':Int}{xk xs xc xr:V}{ks ss cs:List Str}{rows:List (List Cell)}(M:Mid K H0 H a t r ns c xk xs xc xr ks ss cs rows)(A:L2.Apart t r H H')(B':Bag K H' a t r ns c'):Mid K H0 H' a t r ns c' xk xs xc xr ks ss cs rows:=⟨B',M.A.trans A,M.dk.keep (M.B.Zq A),M.ds.keep (M.B.Zq A),M.dc.keep (M.B.Zq A),M.dr.keep (M.B.Zq A)⟩
theorem Mid.put{H0 H:Hp}{a t r p:Addr}{ns:List Int}{c:Int}{xk xs xc xr:V}{ks ss cs:List Str}{rows:List (List Cell)}{kvs:List (Key × V)}(M:Mid K H0 H a t r ns c xk xs xc xr ks ss cs rows)(D:DAt H t r p kvs)(f:H0 p=none)(o:HO):Mid K H0 (upd H p o) a t r ns c xk xs xc xr ks ss cs rows:=⟨M.B.Qcv D.h D.nt D.nr,fun b o' e n1 n2=>by rw[Qi (Qr e f)];exact M.A b o' e n1 n2,M.dk.keep D.Zq,M.ds.keep D.Zq,M.dc.keep D.Zq,M.dr.keep D.Zq⟩
theorem Mid.free{H0 H:Hp}{a t r p:Addr}{ns:List Int}{c:Int}{xk xs xc xr:V}{ks ss cs:List Str}{rows:List (List Cell)}(M:Mid K H0 H a t r ns c xk xs xc xr ks ss cs rows)(h:H p=none):H0 p=none∧p≠t∧p≠r:=by
 obtain⟨rs,T⟩:=M.B.tw
 have n1:p≠t:=fun z=>by rw[z,T.tw]at h;cases h
 have n2:p≠r:=fun z=>by rw[z,T.rt]at h;cases h
 refine⟨?_,n1,n2⟩
 cases e:H0 p with
 |none=>rfl
 |some o=>rw[M.A p o e n1 n2]at h;cases h
theorem YK{L:List Cell}{d:Nat}{dv:Dv}(h:(L.map Cell.dv)[d]? =some dv):∃c∈L,dv=c.dv:=by
 rw[List.getElem?_map]at h
 cases e:L[d]? with
 |none=>rw[e]at h;cases h
 |some c=>rw[e]at h;exact⟨c,List.mem_of_getElem? e,(Option.some.inj h).symm⟩
set_option maxHeartbeats 2000000 in
theorem WS(F:Fun K "_law_a_plan" "_law_a_plan" Zp f fd)(O:Own mg)(OT:mg "tuple"=none)(D__law_draw:Def P w K mg base 1 "_law_draw" ["_law_script","_law_town","_law_many"] (W5 K)):FnOk P w K mg base (CXE P w) 2 f fd ["_law_script","_law_town"] (UO K):=by
 refine zq F QR (fun vs H Q E h=>?_) (fun cdv A outer s H vs Q E hr h=>?_)
 ·obtain⟨a,t,r,ns,c,rfl,_⟩:=h
  rfl
 ·obtain⟨a,t,r,ns,c,rfl,B,hc,k⟩:=h
  have hu:=Qaf hr
  have hz:100000≤sizeLine:=by rw[sizeLine_eq];decide
  refine⟨_,(Qo (QY (i:=2) QR.nd rfl (Or.inl rfl) (XE (Jv Ql (Jv (QV Ql) (Jv (QV (QV Ql)) (Jv (QV (QV Ql)) Ql)))) (PEx.mk (D__law_draw.pe hr (by decide) rfl Qn (Qa (pv 0) (Qa (pv 1) (Qa Qf Qb))))) (fun _ _=>rfl)) rfl rfl)
   (Qo (QY (i:=3) QR.nd rfl (Or.inl rfl) (XE (Jv Ql (Jv (QV Ql) (Jv (QV (QV Ql)) (Jv (QV Ql) Ql)))) (PEx.mk (D__law_draw.pe hr (by decide) rfl Qn (Qa (pv 0) (Qa (pv 1) (Qa Qf Qb))))) (fun _ _=>rfl)) rfl rfl)
   (Qo (QY (i:=4) QR.nd rfl (Or.inl rfl) (XE (Jv (QV (QV (QV (QV (QV Ql))))) (Jv (QV (QV (QV (QV (QV Ql))))) Ql)) (PEx.mk (D__law_draw.pe hr (by decide) rfl Qn (Qa (pv 0) (Qa (pv 1) (Qa Qf Qb))))) (fun _ _=>rfl)) rfl rfl)
   (Qo (QY (i:=5) QR.nd rfl (Or.inl rfl) (PEx.mk (Qv Qb)) rfl rfl)
   (Qo (Uy PassesOwn.never rfl (V7 rfl O.range (Qa (D__law_draw.pe hr (by decide) rfl Qn (Qa (pv 0) (Qa (pv 1) (Qa Qf Qb)))) Qb)) (Qj (i:=6) QR.nd rfl (Or.inl rfl)) (Qo (QY (i:=7) QR.nd rfl (Or.inr rfl) (zZ (PEx.mk Qq) (XE (QV (QV (Jv (ZK (ZK Ql)) Ql))) (PEx.mk (D__law_draw.pe hr (by decide) rfl Qn (Qa (pv 0) (Qa (pv 1) (Qa Qf Qb))))) (fun _ _=>rfl))) rfl rfl)
   (Qo (qm hu (PEx.mk (pv 7)) (PEx.mk Qq) (XE (Jv (ZK (ZK Ql)) (Jv (ZK (ZK Ql)) (QV (Jv (ZK (ZK Ql)) Ql)))) (PEx.mk (D__law_draw.pe hr (by decide) rfl Qn (Qa (pv 0) (Qa (pv 1) (Qa Qf Qb))))) (fun _ _=>rfl)) rfl)
   (Qo (qm hu (PEx.mk (pv 7)) (PEx.mk Qq) (PEx.mk (Qv (Qa (QA Zc (D__law_draw.pe hr (by decide) rfl Qn (Qa (pv 0) (Qa (pv 1) (Qa Qf Qb)))) Qf) (Qa (D__law_draw.pe hr (by decide) rfl Qn (Qa (pv 0) (Qa (pv 1) (Qa Qf Qb)))) Qb)))) rfl)
   (Qo (PSy.mk (Zb (Qv (Qa (Qv (Qa (D__law_draw.pe hr (by decide) rfl Qn (Qa (pv 0) (Qa (pv 1) (Qa Qf Qb)))) (Qa (D__law_draw.pe hr (by decide) rfl Qn (Qa (pv 0) (Qa (pv 1) (Qa Qf Qb)))) Qb))) (Qa Qq Qb))) (Jy rfl (Qk (wE (pv 7) Qq (set_dict hu)) (Qk (wE (pv 7) Qq (set_dict hu)) QX)))))
   (QF (QY (i:=5) QR.nd rfl (Or.inl rfl) (PEx.mk (QA J4 (pv 5) (Qv (Qa (QH Qw rfl OT PyProof.Rows.boot_tuple (Qa (Jt (NB:=[".0","_law_name"]) (FR:=["_law_row"]) (fi:=[7]) rfl ⟨rfl,by decide+kernel,by decide+kernel,by decide+kernel,by decide+kernel,by decide+kernel⟩ rfl rfl (Z4 (pv 4)) (fun _ _ _=>(Qj (i:=1) (show([".0","_law_name","_law_row"]:List Str).Nodup by decide+kernel) rfl (Or.inl rfl))) (fun _ _ _=>Jm) (fun _ _ _=>(XU hu (pv 2) (pv 1) (fun _ _=>rfl)))) Qb)) Qb)))) rfl rfl)))))) (fun _=>rfl))
   (QF (QJ (PEx.mk (Qv (Qa (Qv (Qa (pv 4) (Qa (pv 2) (Qa (pv 3) (Qa (QA Z5 Qf (D__law_draw.pe hr (by decide) rfl Qn (Qa (pv 0) (Qa (pv 1) (Qa Qf Qb))))) Qb))))) (Qa (pv 5) Qb))))))))))),?_⟩
  refine B.jm (ds:=wl.map fun ys=>.tup (txD ys)) rfl rfl (Ja QN (by decide) (Ja (QO QN) (by decide) (Ja (QO (QO QN)) (by decide) (Ja (QO (QO QN)) (by decide) QN)))) rfl (by decide) (by decide) (by omega) fun d1 xk dk H1 hd1 Dk B1 A1=>?_
  obtain⟨ks,hks,rfl⟩:=VP hd1
  try dsimp only[QL,JI,Zj,QK]
  refine B1.jm (ds:=jw.map fun ys=>.tup (txD ys)) rfl rfl (Ja QN (by decide) (Ja (QO QN) (by decide) (Ja (QO (QO QN)) (by decide) (Ja (QO QN) (by decide) QN)))) rfl (by decide) (by decide) (by omega) fun d2 xs ds H2 hd2 Ds B2 A2=>?_
  obtain⟨ss,hss,rfl⟩:=VP hd2
  try dsimp only[QL,JI,Zj,QK]
  refine B2.jm (ds:=WR.map fun ys=>.tup (txD ys)) rfl rfl (Ja (QO (QO (QO (QO (QO QN))))) (by decide) (Ja (QO (QO (QO (QO (QO QN))))) (by decide) QN)) rfl (by decide) (by decide) (by omega) fun d3 xc dc H3 hd3 Dc B3 A3=>?_
  obtain⟨cs,hcs,rfl⟩:=VP hd3
  try dsimp only[QL,JI,Zj,QK]
  have T12:=B1.Zq A2
  have T23:=B2.Zq A3
  have Dk3:=(Dk.keep T12).keep T23
  have Ds3:=Ds.keep T23
  have A03:=(A1.trans A2).trans A3
  clear T12 T23 A1 A2 A3 B1 B2 B Dk Ds hd1 hd2 hd3
  refine⟨by show 0≤sizeLine;omega,fun R0 hR0=>?_⟩
  have S4:=Qg.new (o:=.tup []) hR0
  have B4:=B3.same S4
  have D4:Deep (upd H3 R0 (.tup [])) (.ref R0) (UK []):=.tup Qc .nil
  have Dk4:=Dk3.same S4
  have Ds4:=Ds3.same S4
  have Dc4:=Dc.same S4
  have A04:=A03.trans (Apart.of S4)
  generalize upd H3 R0 (.tup [])=H4 at S4 B4 D4 Dk4 Ds4 Dc4 A04
  clear S4 B3 Dk3 Ds3 Dc A03
  have M4:Mid K H H4 a t r ns (c+1+1+1) xk xs xc (.ref R0) ks ss cs []:=⟨B4,A04,Dk4,Ds4,Dc4,D4⟩
  clear B4 D4 Dk4 Ds4 Dc4 A04
  refine M4.B.draw rfl rfl (fun R h=>h) (by decide) (by decide) (by omega) fun n H5 hn B5 A5=>?_
  have M5:=M4.drawn A5 B5
  clear M4 A5 B5
  refine⟨_,rfl,by omega,by omega,?_⟩
  rw[Int.toNat_natCast]
  refine Zm (Qcs (lo:=0) (n:=n)) (fun i σ H6=>∃R y6 y7 rows c6,σ=[some (.ref a),some (.ref t),some xk,some xs,some xc,some (.ref R),y6,y7]∧Mid K H H6 a t r ns c6 xk xs xc (.ref R) ks ss cs rows∧c6≤c+4+6*i∧rows.length=i∧∀π:Plan,π.cols=cs→π.sums=ss→∀r∈rows,RowOk π r) ⟨R0,none,none,[],_,rfl,M5,by omega,rfl,fun _ _ _ r hr=>nomatch hr⟩ ?_ ?_ ?_
  ·intro i σ H6 _ _
   trivial
  ·rintro i v σ H6 H6' hi ⟨R,y6,y7,rows,c6,rfl,M6,hc6,hlr,hok⟩ ⟨rfl,rfl⟩
   dsimp only[QL,JI,Zj,QK]
   intro p hp
   obtain⟨fp,npt,npr⟩:=M6.free hp
   have M7:=M6.same (Qg.new (o:=.dK []) hp)
   have D7:DAt (upd H6' p (.dK [])) t r p []:=⟨Qc,npt,npr⟩
   generalize upd H6' p (.dK [])=H7 at M7 D7
   refine M7.B.jm (ds:=QbH.map Cell.dv) rfl rfl (QO (QO (Ja (Jn (Jn QN)) (by decide) QN))) rfl (by decide) (by decide) (by omega) fun d1 va da H8 hd1 Da B8 A8=>?_
   have M8:=M7.drawn A8 B8
   have D8:=D7.apart A8
   obtain⟨cA,hcA,rfl⟩:=YK hd1
   refine⟨D8.h,[(Sum.inr "a",va)],rfl,by show 1≤15;decide,?_⟩
   have e8:Kj [] [((Sum.inr "a":Key),va)]=[((Sum.inr "a":Key),va)]:=rfl
   rw[e8]
   have Da9:=Da.keep (D8.Zq (o:=.dK [((Sum.inr "a":Key),va)]))
   have M9:=M8.put D8 fp (.dK [((Sum.inr "a":Key),va)])
   have D9:=D8.put [((Sum.inr "a":Key),va)]
   generalize upd H8 p (.dK [((Sum.inr "a":Key),va)])=H9 at M9 D9 Da9
   clear M6 M7 M8 D7 D8 A8 B8 Da e8 hd1 hp
   dsimp only[QL,JI,Zj,QK]
   refine M9.B.jm (ds:=QbI.map Cell.dv) rfl rfl (Ja (Jn (Jn QN)) (by decide) (Ja (Jn (Jn QN)) (by decide) (QO (Ja (Jn (Jn QN)) (by decide) QN)))) rfl (by decide) (by decide) (by omega) fun d2 vb db H10 hd2 Db B10 A10=>?_
   have M10:=M9.drawn A10 B10
   have D10:=D9.apart A10
   have Da10:=Da9.keep (M9.B.Zq A10)
   obtain⟨cB,hcB,rfl⟩:=YK hd2
   obtain⟨e1,e2,e3,e4,e5,e6,e7,e8,e9,e10⟩:=QaH
   refine⟨_,rfl,p,_,rfl,D10.Uk "b" vb (by show 1<100;decide) (List.forall_mem_cons.mpr ⟨e1,fun _ h=>nomatch h⟩),?_⟩
   have kp:=D10.Zq (o:=.dK ([((Sum.inr "a":Key),va)]++[((Sum.inr "b":Key),vb)]))
   have Da11:=Da10.keep kp
   have Db11:=Db.keep kp
   have M11:=M10.put D10 fp (.dK ([((Sum.inr "a":Key),va)]++[((Sum.inr "b":Key),vb)]))
   have D11:=D10.put ([((Sum.inr "a":Key),va)]++[((Sum.inr "b":Key),vb)])
   generalize upd H10 p (.dK ([((Sum.inr "a":Key),va)]++[((Sum.inr "b":Key),vb)]))=H11 at M11 D11 Da11 Db11
   replace D11:DAt H11 t r p [((Sum.inr "a":Key),va),((Sum.inr "b":Key),vb)]:=D11
   clear M9 M10 D9 D10 A10 B10 Da9 Da10 Db kp hd2
   refine M11.B.draw rfl rfl (fun R h=>h) (by decide) (by decide) (by omega) fun x1 H12 hx1 B12 A12=>?_
   have M12:=M11.drawn A12 B12
   have D12:=D11.apart A12
   have Da12:=Da11.keep (M11.B.Zq A12)
   have Db12:=Db11.keep (M11.B.Zq A12)
   clear M11 D11 Da11 Db11 A12 B12
   refine⟨_,_,rfl,rfl,?_⟩
   refine M12.B.draw rfl rfl (fun R h=>h) (by decide) (by decide) (by omega) fun x2 H13 hx2 B13 A13=>?_
   have M13:=M12.drawn A13 B13
   have D13:=D12.apart A13
   have Da13:=Da12.keep (M12.B.Zq A13)
   have Db13:=Db12.keep (M12.B.Zq A13)
   clear M12 D12 Da12 Db12 A13 B13
   refine⟨by show 2≤sizeLine;omega,fun px hpx=>?_⟩
   have Sx:=Qg.new (o:=.tup [.int ((x1:Nat)-100),.int (x2:Nat)]) hpx
   have Dx14:Deep (upd H13 px (.tup [.int ((x1:Nat)-100),.int (x2:Nat)])) (.ref px) (Cell.amt ((x1:Nat)-100) (x2:Nat)).dv:=.tup Qc (.cons .int (.cons .int .nil))
   have M14:=M13.same Sx
   have D14:=D13.same Sx
   have Da14:=Da13.same Sx
   have Db14:=Db13.same Sx
   generalize upd H13 px (.tup [.int ((x1:Nat)-100),.int (x2:Nat)])=H14 at M14 D14 Da14 Db14 Dx14
   clear M13 D13 Da13 Db13 Sx hpx
   refine⟨_,rfl,p,_,rfl,D14.Uk "x" (.ref px) (by show 2<100;decide) (List.forall_mem_cons.mpr ⟨e2,List.forall_mem_cons.mpr ⟨e5,fun _ h=>nomatch h⟩⟩),?_⟩
   have kp:=D14.Zq (o:=.dK ([((Sum.inr "a":Key),va),((Sum.inr "b":Key),vb)]++[((Sum.inr "x":Key),.ref px)]))
   have Da15:=Da14.keep kp
   have Db15:=Db14.keep kp
   have Dx15:=Dx14.keep kp
   have M15:=M14.put D14 fp (.dK ([((Sum.inr "a":Key),va),((Sum.inr "b":Key),vb)]++[((Sum.inr "x":Key),.ref px)]))
   have D15:=D14.put ([((Sum.inr "a":Key),va),((Sum.inr "b":Key),vb)]++[((Sum.inr "x":Key),.ref px)])
   generalize upd H14 p (.dK ([((Sum.inr "a":Key),va),((Sum.inr "b":Key),vb)]++[((Sum.inr "x":Key),.ref px)]))=H15 at M15 D15 Da15 Db15 Dx15
   replace D15:DAt H15 t r p [((Sum.inr "a":Key),va),((Sum.inr "b":Key),vb),((Sum.inr "x":Key),V.ref px)]:=D15
   clear M14 D14 Da14 Db14 Dx14 kp
   try dsimp only[QL,JI,Zj,QK]
   refine M15.B.draw rfl rfl (fun R h=>h) (by decide) (by decide) (by omega) fun y1 H16 hy1 B16 A16=>?_
   have M16:=M15.drawn A16 B16
   have D16:=D15.apart A16
   have kp:=M15.B.Zq A16
   have Da16:=Da15.keep kp
   have Db16:=Db15.keep kp
   have Dx16:=Dx15.keep kp
   clear M15 D15 Da15 Db15 Dx15 A16 B16 kp
   refine M16.B.draw rfl rfl (fun R h=>h) (by decide) (by decide) (by omega) fun y2 H17 hy2 B17 A17=>?_
   have M17:=M16.drawn A17 B17
   have D17:=D16.apart A17
   have kp:=M16.B.Zq A17
   have Da17:=Da16.keep kp
   have Db17:=Db16.keep kp
   have Dx17:=Dx16.keep kp
   clear M16 D16 Da16 Db16 Dx16 A17 B17 kp
   refine⟨by show 2≤sizeLine;omega,fun py hpy=>?_⟩
   have Sy:=Qg.new (o:=.tup [.int (y1:Nat),.int (y2:Nat)]) hpy
   have Dy18:Deep (upd H17 py (.tup [.int (y1:Nat),.int (y2:Nat)])) (.ref py) (Cell.amt (y1:Nat) (y2:Nat)).dv:=.tup Qc (.cons .int (.cons .int .nil))
   have M18:=M17.same Sy
   have D18:=D17.same Sy
   have Da18:=Da17.same Sy
   have Db18:=Db17.same Sy
   have Dx18:=Dx17.same Sy
   generalize upd H17 py (.tup [.int (y1:Nat),.int (y2:Nat)])=H18 at M18 D18 Da18 Db18 Dx18 Dy18
   clear M17 D17 Da17 Db17 Dx17 Sy hpy
   refine⟨by show 2≤sizeLine;omega,fun pt hpt=>?_⟩
   have St:=Qg.new (o:=.tup [.ref py,.str "t"]) hpt
   have g19:upd H18 pt (.tup [.ref py,.str "t"]) pt=some (.tup [.ref py,.str "t"]):=Qc
   have M19:=M18.same St
   have D19:=D18.same St
   have Da19:=Da18.same St
   have Db19:=Db18.same St
   have Dx19:=Dx18.same St
   have Dy19:=Dy18.same St
   generalize upd H18 pt (.tup [.ref py,.str "t"])=H19 at M19 D19 Da19 Db19 Dx19 Dy19 g19
   clear M18 D18 Da18 Db18 Dx18 Dy18 St hpt
   refine⟨pt,_,rfl,.inl (.inl g19),rfl,_,_,rfl,_,rfl,p,_,rfl,D19.Uk "y" (.ref py) (by show 3<100;decide) (List.forall_mem_cons.mpr ⟨e3,List.forall_mem_cons.mpr ⟨e6,List.forall_mem_cons.mpr ⟨e8,fun _ h=>nomatch h⟩⟩⟩),?_⟩
   have kp:=D19.Zq (o:=.dK ([((Sum.inr "a":Key),va),((Sum.inr "b":Key),vb),((Sum.inr "x":Key),.ref px)]++[((Sum.inr "y":Key),.ref py)]))
   have Da20:=Da19.keep kp
   have Db20:=Db19.keep kp
   have Dx20:=Dx19.keep kp
   have Dy20:=Dy19.keep kp
   have M20:=M19.put D19 fp (.dK ([((Sum.inr "a":Key),va),((Sum.inr "b":Key),vb),((Sum.inr "x":Key),.ref px)]++[((Sum.inr "y":Key),.ref py)]))
   have D20:=D19.put ([((Sum.inr "a":Key),va),((Sum.inr "b":Key),vb),((Sum.inr "x":Key),.ref px)]++[((Sum.inr "y":Key),.ref py)])
   generalize upd H19 p (.dK ([((Sum.inr "a":Key),va),((Sum.inr "b":Key),vb),((Sum.inr "x":Key),.ref px)]++[((Sum.inr "y":Key),.ref py)]))=H20 at M20 D20 Da20 Db20 Dx20 Dy20
   replace D20:DAt H20 t r p [((Sum.inr "a":Key),va),((Sum.inr "b":Key),vb),((Sum.inr "x":Key),V.ref px),((Sum.inr "y":Key),V.ref py)]:=D20
   clear M19 D19 Da19 Db19 Dx19 Dy19 kp g19
   refine⟨_,_,rfl,_,rfl,p,_,rfl,D20.Uk "z" (.str "t") (by show 4<100;decide) (List.forall_mem_cons.mpr ⟨e4,List.forall_mem_cons.mpr ⟨e7,List.forall_mem_cons.mpr ⟨e9,List.forall_mem_cons.mpr ⟨e10,fun _ h=>nomatch h⟩⟩⟩⟩),rfl,?_⟩
   have kp:=D20.Zq (o:=.dK (ye va vb (.ref px) (.ref py)))
   have Da21:=Da20.keep kp
   have Db21:=Db20.keep kp
   have Dx21:=Dx20.keep kp
   have Dy21:=Dy20.keep kp
   have M21:=M20.put D20 fp (.dK (ye va vb (.ref px) (.ref py)))
   have D21:=D20.put (ye va vb (.ref px) (.ref py))
   have e21:[((Sum.inr "a":Key),va),((Sum.inr "b":Key),vb),((Sum.inr "x":Key),V.ref px),((Sum.inr "y":Key),V.ref py)]++[((Sum.inr "z":Key),V.str "t")]=ye va vb (.ref px) (.ref py):=rfl
   rw[e21]
   generalize upd H20 p (.dK (ye va vb (.ref px) (.ref py)))=H21 at M21 D21 Da21 Db21 Dx21 Dy21
   clear M20 D20 Da20 Db20 Dx20 Dy20 kp e21
   obtain⟨ac,rfl,gc⟩:=jl M21.dc
   refine⟨_,rfl,?_⟩
   refine yd (Zf ?_)
   refine⟨_,rfl,ac,rfl,⟨_,.inl (.inl gc)⟩,?_⟩
   have hlc:(cs.map V.str).length=cs.length:=List.length_map ..
   have lcs:cs.length≤10:=wm cs hcs
   refine Jr (fv:=[.ref p]) (x6 (K:=K) (a:=ac) (xs:=cs.map V.str)) ((cs.map (cellOf cA cB (.amt ((x1:Nat)-100) (x2:Nat)) (.amt (y1:Nat) (y2:Nat)))).map Cell.dv) (by rw[List.length_map,List.length_map,hlc]) (fun R h=>h H21 (Qg.refl _)) rfl (fun H1 S=>.inl (.inl (S _ _ gc))) ?_ ?_ (by omega)
   ·rintro i v H22 H23 d R2 hd S22 ⟨rfl,hv⟩ kk
    obtain⟨nm,hnm,rfl⟩:=Va hv
    obtain⟨vv,hvv,dvv⟩:=yf hcs (List.mem_of_getElem? hnm) Da21 Db21 Dx21 Dy21
    have hget:=U6.k (k:=(Sum.inr nm:Key)) (S22 _ _ D21.h)
    rw[hvv]at hget
    refine⟨rfl,_,rfl,_,rfl,p,vv,rfl,hget,kk _ _ (Qg.refl _) ?_⟩
    rw[List.getElem?_map,List.getElem?_map,hnm]at hd
    obtain rfl:=Option.some.inj hd
    exact dvv.same S22
   ·rintro ys H22 q S22 tq hq
    have Sq:=Qg.new (o:=.lst ys) hq
    refine⟨q,ys,rfl,.inl ⟨.inl (.inl Qc),fun l hl=>?_⟩⟩
    have D23:=Jc (tq.same Sq) hl
    have S23:=(S22.trans Sq).trans (Qg.new (o:=.tup ys) hl)
    generalize upd (upd H22 q (.lst ys)) l (.tup ys)=H23 at D23 S23
    refine⟨by show 1≤sizeLine;omega,fun l2 hl2=>?_⟩
    have S24:=Qg.new (o:=.tup [.ref l]) hl2
    have D24:Deep (upd H23 l2 (.tup [.ref l])) (.ref l2) (.tup [Xn (cs.map (cellOf cA cB (.amt ((x1:Nat)-100) (x2:Nat)) (.amt (y1:Nat) (y2:Nat))))]):=.tup Qc (.cons (D23.same S24) .nil)
    have M24:=M21.same (S23.trans S24)
    generalize upd H23 l2 (.tup [.ref l])=H24 at M24 D24
    refine We.deep (ds:=rows.map Xn) M24.dr D24 (by rw[List.length_map];show rows.length+1≤sizeLine;omega) fun v H25 S25 D25=>?_
    have M25:=M24.same S25
    obtain⟨R3,xr3,rfl,_,_⟩:=Deep.Xy D25
    refine⟨R3,_,_,rows++[cs.map (cellOf cA cB (.amt ((x1:Nat)-100) (x2:Nat)) (.amt (y1:Nat) (y2:Nat)))],_,rfl,⟨M25.B,M25.A,M25.dk,M25.ds,M25.dc,?_⟩,by omega,by rw[List.length_append];show rows.length+1=i+1;omega,fun π hc hs r hr=>?_⟩
    ·unfold UK
     rw[List.map_append]
     exact D25
    ·rcases List.mem_append.mp hr with hr|hr
     ·exact hok π hc hs r hr
     ·obtain rfl:=List.mem_singleton.mp hr
      obtain⟨pc,pk,ps,pz⟩:=π
      obtain rfl:pc=cs:=hc
      obtain rfl:ps=ss:=hs
      exact QaG hss (yb _ hcA) (yc _ hcB) (wZ (by omega) (by omega) (by omega)) (wZ (by omega) (by omega) (by omega))
  ·rintro σ H6 ⟨R,y6,y7,rows,c6,rfl,M6,hc6,hlr,hok⟩
   refine⟨_,rfl,_,rfl,_,rfl,?_⟩
   refine M6.B.draw rfl rfl (fun R h=>h) (by decide) (by decide) (by omega) fun z H7 hz7 B7 A7=>?_
   have M7:=M6.drawn A7 B7
   refine⟨_,_,rfl,rfl,by show 4≤sizeLine;omega,fun l hl=>?_⟩
   have S8:=Qg.new (o:=.tup [xc,xk,xs,.int (6+(z:Nat))]) hl
   have M8:=M7.same S8
   have D8:Deep (upd H7 l (.tup [xc,xk,xs,.int (6+(z:Nat))])) (.ref l) (JM ⟨cs,ks,ss,6+(z:Nat)⟩):=.tup Qc (.cons M8.dc (.cons M8.dk (.cons M8.ds (.cons .int .nil))))
   generalize upd H7 l (.tup [xc,xk,xs,.int (6+(z:Nat))])=H8 at M8 D8
   refine⟨_,rfl,by show 2≤sizeLine;omega,fun l2 hl2=>?_⟩
   have S9:=Qg.new (o:=.tup [.ref l,.ref R]) hl2
   have M9:=M8.same S9
   exact k _ _ ⟨cs,ks,ss,6+(z:Nat)⟩ rows _ M9.B (by omega) M9.A (.tup Qc (.cons (D8.same S9) (.cons M9.dr .nil))) (ya hks hss hcs (by omega)) hcs (wn ks hks) (by omega) (hok _ rfl rfl)
end
end Lw
set_option Elab.async false
set_option linter.all false
set_option maxRecDepth 100000
namespace Lw
open PySem PySem.Spec PyProof.Rows L2 K34
open Builtin Builtin.Str StrLaws
inductive Ln where
 |row (r:List Cell)|oth (k:Str) (ds:List Dv)
def Ln.dv:Ln→Dv
 | .row r=>jK r
 | .oth k ds=>.tup (.str k::ds)
def Ln.ok(π:Plan):Ln→Prop
 | .row r=>RowOk π r
 | .oth k _=>decide (V.str k=V.str "row")=false
def Ln.WT:Ln→Bool
 | .row _=>true
 | .oth _ _=>false
def Ln.key:Ln→Str
 | .row _=>"row"
 | .oth k _=>k
def Ln.rest:Ln→List Dv
 | .row r=>[Xn r]
 | .oth _ ds=>ds
theorem Ln.QbJ(x:Ln):x.dv=.tup (.str x.key::x.rest):=by cases x<;>rfl
theorem Ln.UP{π:Plan}{x:Ln}(h:x.ok π):decide (V.str x.key=V.str "row")=x.WT:=by
 cases x with
 |row r=>exact decide_eq_true rfl
 |oth k ds=>exact h
def dfl:Ln:=.oth "" []
def YM(π:Plan)(r:List Cell):List Dv:=List.zipWith (fun nm c=>if π.keys.contains nm=true then Dv.non else Cell.dv c) π.cols r
def QaI(π:Plan)(r:List Cell):Dv:=.tup [.str "row",.tup (YM π r)]
def qx(π:Plan)(b:Bool):Ln→Dv
 | .row r=>if b=true then QaI π r else jK r
 | .oth k ds=>.tup (.str k::ds)
def J8(ls:List Ln):Nat→Bool
 |0=>false
 |n+1=>(ls.getD n dfl).WT
def shN(π:Plan)(ls:List Ln):Nat→List Dv
 |0=>[]
 |n+1=>shN π ls n++[qx π (J8 ls n) (ls.getD n dfl)]
def Qcw(π:Plan)(l:List (Int × Int)):Ln→List (Int × Int)
 | .row r=>Xo (sps π) r l
 | .oth _ _=>l
def smN(π:Plan)(ls:List Ln)(l:List (Int × Int)):Nat→List (Int × Int)
 |0=>l
 |n+1=>Qcw π (smN π ls l n) (ls.getD n dfl)
def headD(n:Nat):Dv:=.tup [.str "head",.int (n:Nat)]
def VQ(l:List (Int × Int)):Dv:=.tup [.str "brought",Jo l]
def qy(l:List (Int × Int)):Dv:=.tup [.str "carried",Jo l]
def jx(π:Plan)(n:Nat)(l:List (Int × Int)):List Dv:=headD n::(if n=1∨π.sums=[]then[]else[VQ l])
def ka(π:Plan)(last:Bool)(l:List (Int × Int)):List Dv:=if last=true∨π.sums=[]then[]else[qy l]
def YN(π:Plan):Nat:=if π.sums=[]then 0 else 1
def w6(π:Plan)(t left:Nat):Nat:=if left+t≤π.size.toNat then left else π.size.toNat-t-YN π
def JZ(π:Plan)(n:Nat)(l:List (Int × Int))(ls:List Ln):Nat:=w6 π (jx π n l).length ls.length
def xA(π:Plan)(n:Nat)(l:List (Int × Int))(ls:List Ln):Dv:=.tup (jx π n l++shN π ls (JZ π n l ls)++ka π (decide (JZ π n l ls=ls.length)) (smN π ls l (JZ π n l ls)))
def ZO(π:Plan):Nat→Nat→List (Int × Int)→List Ln→List Dv
 |0,_,_,_=>[]
 |f+1,n,l,ls=>if ls=[]then[]else xA π n l ls::ZO π f (n+1) (smN π ls l (JZ π n l ls)) (ls.drop (JZ π n l ls))
theorem jy(π:Plan)(f n:Nat)(l:List (Int × Int)):ZO π f n l []=[]:=by cases f<;>simp[ZO]
theorem qz(π:Plan)(n:Nat)(l:List (Int × Int)):(jx π n l).length=1∨(jx π n l).length=2:=by
 unfold jx
 split
 ·exact .inl rfl
 ·exact .inr rfl
theorem wp(π:Plan)(b:Bool)(l:List (Int × Int)):(ka π b l).length≤1:=by
 unfold ka
 split<;>simp
theorem qA(π:Plan):YN π≤1:=by unfold YN;split<;>omega
theorem jz{π:Plan}(Z:6≤π.size){n:Nat}{l:List (Int × Int)}{ls:List Ln}(h:ls≠[]):1≤JZ π n l ls∧JZ π n l ls≤ls.length:=by
 have h1:=qz π n l
 have h2:=qA π
 have h3:1≤ls.length:=by
  cases ls with
  |nil=>exact absurd rfl h
  |cons x xs=>simp
 unfold JZ w6
 split<;>omega
theorem VR(π:Plan)(ls:List Ln):∀n,(shN π ls n).length=n
 |0=>rfl
 |n+1=>by rw[shN,List.length_append,VR π ls n];rfl
theorem Wz{ls:List Ln}{m i:Nat}(h:i<m):(ls.take m).getD i dfl=ls.getD i dfl:=by
 rw[List.getD_eq_getElem?_getD,List.getD_eq_getElem?_getD,List.getElem?_take,if_pos h]
theorem qB(π:Plan)(ls:List Ln)(m:Nat):∀n,n≤m→shN π (ls.take m) n=shN π ls n
 |0,_=>rfl
 |n+1,h=>by
  have e:J8 (ls.take m) n=J8 ls n:=by
   cases n with
   |zero=>rfl
   |succ k=>
    show((ls.take m).getD k dfl).WT=(ls.getD k dfl).WT
    rw[Wz (by omega)]
  rw[shN,shN,qB π ls m n (by omega),Wz (by omega),e]
def Jz:List Ln→Nat
 |[]=>0
 |x::xs=>(if x.WT=true then 1 else 0)+Jz xs
theorem drop_getD{ls:List Ln}{n:Nat}(h:n<ls.length):ls.drop n=ls.getD n dfl::ls.drop (n+1):=by
 rw[List.drop_eq_getElem_cons h,List.getD_eq_getElem?_getD,List.getElem?_eq_getElem h]
 rfl
theorem getD_mem{ls:List Ln}{n:Nat}(h:n<ls.length):ls.getD n dfl∈ls:=by
 rw[List.getD_eq_getElem?_getD,List.getElem?_eq_getElem h]
 exact List.getElem_mem h
structure SmOk(π:Plan)(ls:List Ln)(l:List (Int × Int))(c:Nat):Prop where
 ok:∃n,n+Jz ls≤c∧∀p∈l,AOk n p
 len:l.length=π.sums.length
theorem xB{π:Plan}(Z:PlanOk π){ls:List Ln}(Y:∀x∈ls,x.ok π) {l:List (Int × Int)} {c:Nat} (h:SmOk π ls l c):∀n,n≤ls.length→SmOk π (ls.drop n) (smN π ls l n) c
 |0,_=>h
 |n+1,hn=>by
  obtain⟨⟨k,h1,h2⟩,h3⟩:=xB Z Y h n (by omega)
  rw[drop_getD (by omega:n<ls.length)]at h1
  have hx:=Y _ (getD_mem (by omega:n<ls.length))
  cases e:ls.getD n dfl with
  |row r=>
   rw[e]at h1 hx
   refine⟨⟨k+1,?_,?_⟩,?_⟩
   ·have:Jz (Ln.row r::ls.drop (n+1))=1+Jz (ls.drop (n+1)):=rfl
    omega
   ·rw[smN,e]
    exact UJ Z hx h2
   ·rw[smN,e]
    exact VH h3
  |oth k2 ds=>
   rw[e]at h1
   refine⟨⟨k,?_,?_⟩,?_⟩
   ·have:Jz (Ln.oth k2 ds::ls.drop (n+1))=0+Jz (ls.drop (n+1)):=rfl
    omega
   ·rw[smN,e]
    exact h2
   ·rw[smN,e]
    exact h3
theorem UQ{H:Hp}{xs:List V}{ls:List Ln}(t:Deeps H xs (ls.map Ln.dv)){i:Nat}{x:V}(h:xs[i]? =some x):i<ls.length∧Deep H x (ls.getD i dfl).dv:=by
 obtain⟨d,hd,dd⟩:=t.W7 h
 rw[List.getElem?_map]at hd
 cases e:ls[i]? with
 |none=>rw[e]at hd;cases hd
 |some r=>
  rw[e]at hd
  obtain rfl:=Option.some.inj hd
  refine⟨(List.getElem?_eq_some_iff.mp e).1,?_⟩
  rw[List.getD_eq_getElem?_getD,e]
  exact dd
theorem yg{H:Hp}{v:V}{x:Ln}(h:Deep H v x.dv):∃a xs,v=.ref a∧H a=some (.tup (.str x.key::xs))∧Deeps H xs x.rest:=by
 rw[Ln.QbJ]at h
 obtain⟨a,xs,rfl,g,t⟩:=Deep.Xy h
 cases t with
 |cons p t=>
  obtain rfl:=p.Qa3
  exact⟨a,_,rfl,g,t⟩
theorem w8{H:Hp}{xs:List V}{r:List Cell}(t:Deeps H xs (Ln.row r).rest):∃v,xs=[v]∧Deep H v (Xn r):=by
 cases t with
 |cons p t=>
  cases t
  exact⟨_,rfl,p⟩
theorem yh{a b:Addr}{xs ys:List V}{ds es:List Dv}{H:Hp}{Q:VK}(ga:H a=some (.tup xs))(gb:H b=some (.tup ys))(ta:Deeps H xs ds)(tb:Deeps H ys es)(hl:xs.length+ys.length≤sizeLine)(k:∀u H',Qg H H'→Deep H' u (.tup (ds++es))→Q u H'):We (.ref a) (.ref b) H Q:=by
 refine⟨a,b,xs,ys,rfl,rfl,.inl ga,.inl gb,hl,fun z=>?_,fun _ z=>?_,fun _ _ p hp=>?_⟩
 ·subst z
  cases ta
  exact k _ _ (Qg.refl _) (.tup gb tb)
 ·subst z
  cases tb
  rw[List.append_nil]at k
  exact k _ _ (Qg.refl _) (.tup ga ta)
 ·exact k _ _ (Qg.new hp) (Jc (ta.append tb) hp)
theorem QbK{a:Addr}{xs:List V}{ds:List Dv}{H:Hp}{Q:VK}{i j:Nat}(ga:H a=some (.tup xs))(ta:Deeps H xs ds)(hj:j≤xs.length)(k:∀u H',Qg H H'→Deep H' u (.tup ((ds.take j).drop i))→Q u H'):zO (.ref a) (some ((i:Nat):Int)) (some ((j:Nat):Int)) H Q:=by
 refine⟨a,xs,rfl,.inl ga,fun⟨h1,h2⟩=>?_,fun _ p hp=>?_⟩
 ·rw[HT.Zk]at h1 h2
  have hl:=ta.length
  have e:(ds.take j).drop i=ds:=by
   rw[List.take_of_length_le (by omega)]
   by_cases hi:i=0
   ·subst hi;rfl
   ·have:xs.length=0:=by omega
    rw[List.eq_nil_of_length_eq_zero (by omega:ds.length=0)]
    simp
  rw[e]at k
  exact k _ _ (Qg.refl _) (.tup ga ta)
 ·rw[qh]
  exact k _ _ (Qg.new hp) (Jc ((ta.take j).drop i) hp)
section
variable {P:Program}{w:World}{K:PySem.W.Frag}{mg:Str→Option Value}{base:Heap}{f:Addr}{fd:FuncData}{tk:Nat→Tok}
def yi:Sp:=fun vs H Q _=>∃(v av:V)(π:Plan)(n:Nat)(l:List (Int × Int)),vs=[v,.int (n:Nat),av]∧Deep H v (JM π)∧Deep H av (Jo l)∧∀u H',Qg H H'→Deep H' u (.tup (jx π n l))→Q u H'
theorem UR(F:Fun K "page_top" "page_top" X7 f fd)(O:Own mg):FnOk P w K mg base (CXE P w) 1 f fd ["plan","page","amounts"] yi:=by
 refine okN F Wn (fun vs H Q E h=>?_) (fun cdv A outer s H vs Q E hr h=>?_)
 ·obtain⟨v,av,π,n,l,rfl,_⟩:=h
  rfl
 ·obtain⟨v,av,π,n,l,rfl,D,DA,k⟩:=h
  have hz:1000≤sizeLine:=by decide
  refine⟨_,(Qe (Qu (i:=3) Wn.nd rfl (Or.inl rfl) (Qv (Qa (Qv (Qa Qq (Qa (pv 1) Qb))) Qb)))
   (Qe (Xa (PW.pt (Km (QB Xr (pv 1) Qf (Qz _)) (Z3 (QB Xr (Qh Qp rfl O.len PySem.boot_len (Qa (QT Qt (pv 0) Qf (fun _ _=>rfl)) Qb)) Qf (Qz _))))) (Qm (QD (pv 3))) JA)
   (Qm (QD (QA J4 (pv 3) (Qv (Qa (Qv (Qa Qq (Qa (pv 2) Qb))) Qb))))))),?_⟩
  obtain⟨a,ac,ak,as,L⟩:=Ju D
  obtain rfl:=L.v
  refine⟨_,rfl,by show 2≤sizeLine;omega,fun p hp=>⟨by show 1≤sizeLine;omega,fun q hq=>?_⟩⟩
  have S1:=Qg.new (o:=.tup [.str "head",.int (n:Nat)]) hp
  have S2:=Qg.new (o:=.tup [.ref p]) hq
  have S:=S1.trans S2
  have D1:Deep (upd (upd H p (.tup [.str "head",.int (n:Nat)])) q (.tup [.ref p])) (.ref p) (headD n):=(Deep.tup Qc (.cons .str (.cons .int .nil))).same S2
  have g:upd (upd H p (.tup [.str "head",.int (n:Nat)])) q (.tup [.ref p]) q=some (.tup [.ref p]):=Qc
  generalize upd (upd H p (.tup [.str "head",.int (n:Nat)])) q (.tup [.ref p])=H2 at S D1 g
  clear S1 S2
  have hlm:(π.sums.map V.str).length=π.sums.length:=List.length_map ..
  have e1:n=1∨π.sums=[]→jx π n l=[headD n]:=fun h=>by unfold jx;rw[if_pos h]
  have e2:¬ (n=1∨π.sums=[])→jx π n l=[headD n,VQ l]:=fun h=>by unfold jx;rw[if_neg h]
  dsimp only[QL,JI,Zj,QK]
  refine⟨_,rfl,rfl,_,rfl,?_⟩
  refine ifB (fun z=>?_) (fun z=>?_)
  ·refine⟨_,rfl,k _ _ S ?_⟩
   rw[e1 (.inl (by have:=of_decide_eq_true z;injection this;omega))]
   exact .tup g (.cons D1 .nil)
  ·have z1:n≠1:=fun y=>by subst y;exact absurd z (by decide)
   refine⟨_,rfl,a,_,2,_,rfl,rfl,.inl (S _ _ L.a),rfl,as,_,rfl,.inr (.inl (.inl (S _ _ L.s))),rfl,_,rfl,?_⟩
   refine ifB (fun z=>?_) (fun z=>?_)
   ·refine⟨_,rfl,k _ _ S ?_⟩
    rw[e1 (.inr (by have:=of_decide_eq_true z;injection this with this;exact List.eq_nil_of_length_eq_zero (by omega)))]
    exact .tup g (.cons D1 .nil)
   ·have z2:π.sums≠[]:=fun y=>by rw[y]at z;exact absurd z (by decide)
    refine⟨_,rfl,_,rfl,by show 2≤sizeLine;omega,fun p3 hp3=>⟨by show 1≤sizeLine;omega,fun q4 hq4=>?_⟩⟩
    have S3:=Qg.new (o:=.tup [.str "brought",av]) hp3
    have S4:=Qg.new (o:=.tup [.ref p3]) hq4
    have S34:=S3.trans S4
    have D3:Deep (upd (upd H2 p3 (.tup [.str "brought",av])) q4 (.tup [.ref p3])) (.ref p3) (VQ l):=(Deep.tup Qc (.cons .str (.cons (DA.same (S.trans S3)) .nil))).same S4
    have g4:upd (upd H2 p3 (.tup [.str "brought",av])) q4 (.tup [.ref p3]) q4=some (.tup [.ref p3]):=Qc
    generalize upd (upd H2 p3 (.tup [.str "brought",av])) q4 (.tup [.ref p3])=H4 at S34 D3 g4
    refine yh (S34 _ _ g) g4 (.cons (D1.same S34) .nil) (.cons D3 .nil) (by show 2≤sizeLine;omega) fun u H5 S5 D5=>k _ _ ((S.trans S34).trans S5) ?_
    rw[e2 (fun y=>y.elim z1 z2)]
    exact D5
def yj:Sp:=fun vs H Q _=>∃(v av:V)(π:Plan)(b:Bool)(l:List (Int × Int)),vs=[v,.bl b,av]∧Deep H v (JM π)∧Deep H av (Jo l)∧∀u H',Qg H H'→Deep H' u (.tup (ka π b l))→Q u H'
theorem WU(F:Fun K "page_bottom" "page_bottom" Zo f fd)(O:Own mg):FnOk P w K mg base (CXE P w) 1 f fd ["plan","is_last","amounts"] yj:=by
 refine okN F WP (fun vs H Q E h=>?_) (fun cdv A outer s H vs Q E hr h=>?_)
 ·obtain⟨v,av,π,b,l,rfl,_⟩:=h
  rfl
 ·obtain⟨v,av,π,b,l,rfl,D,DA,k⟩:=h
  have hz:1000≤sizeLine:=by decide
  refine⟨_,(Qe (Xa (PW.pt (Km (ZQ (pv 1) (fun _=>rfl)) (Z3 (QB Xr (Qh Qp rfl O.len PySem.boot_len (Qa (QT Qt (pv 0) Qf (fun _ _=>rfl)) Qb)) Qf (Qz _))))) (Qm (QD (Qv Qb))) JA)
   (Qm (QD (Qv (Qa (Qv (Qa Qq (Qa (pv 2) Qb))) Qb))))),?_⟩
  obtain⟨a,ac,ak,as,L⟩:=Ju D
  obtain rfl:=L.v
  have hlm:(π.sums.map V.str).length=π.sums.length:=List.length_map ..
  have e1:b=true∨π.sums=[]→ka π b l=[]:=fun h=>by unfold ka;rw[if_pos h]
  have e2:¬ (b=true∨π.sums=[])→ka π b l=[qy l]:=fun h=>by unfold ka;rw[if_neg h]
  have nil:b=true∨π.sums=[]→∀p,H p=none→Q (.ref p) (upd H p (.tup [])):=fun h p hp=>k _ _ (Qg.new hp) (by rw[e1 h];exact .tup Qc .nil)
  refine⟨_,rfl,b,rfl,?_⟩
  refine ifB (fun z=>?_) (fun z=>?_)
  ·exact⟨by show 0≤sizeLine;omega,fun p hp=>nil (.inl z) p hp⟩
  ·refine⟨_,rfl,a,_,2,_,rfl,rfl,.inl L.a,rfl,as,_,rfl,.inr (.inl (.inl L.s)),rfl,_,rfl,?_⟩
   refine ifB (fun z=>?_) (fun z2=>?_)
   ·exact⟨by show 0≤sizeLine;omega,fun p hp=>nil (.inr (by have:=of_decide_eq_true z;injection this with this;exact List.eq_nil_of_length_eq_zero (by omega))) p hp⟩
   ·have z2:π.sums≠[]:=fun y=>by rw[y]at z2;exact absurd z2 (by decide)
    refine⟨_,rfl,by show 2≤sizeLine;omega,fun p3 hp3=>⟨by show 1≤sizeLine;omega,fun q4 hq4=>?_⟩⟩
    have S3:=Qg.new (o:=.tup [.str "carried",av]) hp3
    have S4:=Qg.new (o:=.tup [.ref p3]) hq4
    refine k _ _ (S3.trans S4) ?_
    rw[e2 (fun y=>y.elim (fun y=>by rw[z]at y;cases y) z2)]
    exact .tup Qc (.cons ((Deep.tup Qc (.cons .str (.cons (DA.same S3) .nil))).same S4) .nil)
def yk:Sp:=fun vs H Q _=>∃(v:V)(π:Plan)(t left:Nat),vs=[v,.int (t:Nat),.int (left:Nat)]∧Deep H v (JM π)∧6≤π.size∧t≤2∧Q (.int (w6 π t left:Nat)) H
theorem Ku(F:Fun K "lines_on_page" "lines_on_page" JV f fd)(O:Own mg):FnOk P w K mg base (CXE P w) 1 f fd ["plan","ahead","left"] yk:=by
 refine okN F Q4 (fun vs H Q E h=>?_) (fun cdv A outer s H vs Q E hr h=>?_)
 ·obtain⟨v,π,t,left,rfl,_⟩:=h
  rfl
 ·obtain⟨v,π,t,left,rfl,D,z6,ht,k⟩:=h
  refine⟨_,(Qe (Zb (pv 0) (Jy rfl (Qk (Qj (i:=3) Q4.nd rfl (Or.inl rfl)) (Qk (Qj (i:=4) Q4.nd rfl (Or.inl rfl)) (Qk (Qj (i:=5) Q4.nd rfl (Or.inl rfl)) (Qk (Qj (i:=6) Q4.nd rfl (Or.inl rfl)) QX))))))
   (Qe (Xa (QB jY (pv 2) (QA Zc (pv 6) (pv 1)) (Qz _)) (Qm (QD (pv 2))) JA)
   (Qm (QD (Qh (KQ rfl) rfl O.max PyProof.Rows.boot_max (Qa (QA Zc (QA Zc (pv 6) (pv 1)) (J0 (QB kn (Qh Qp rfl O.len PySem.boot_len (Qa (pv 5) Qb)) Qf (Qz _)) Qf Qf)) (Qa Qf Qb))))))),?_⟩
  obtain⟨a,ac,ak,as,L⟩:=Ju D
  obtain rfl:=L.v
  have hlm:(π.sums.map V.str).length=π.sums.length:=List.length_map ..
  refine⟨_,rfl,a,_,rfl,.inl (.inl L.a),rfl,_,_,rfl,_,_,rfl,_,_,rfl,_,_,rfl,rfl,?_⟩
  try dsimp only[QL,JI,Zj,QK]
  refine⟨_,rfl,_,rfl,_,rfl,_,_,rfl,rfl,_,_,rfl,rfl,_,rfl,?_⟩
  refine ifB (fun z=>?_) (fun z=>?_)
  ·have z:=of_decide_eq_true z
   have e:w6 π t left=left:=by unfold w6;rw[if_pos (by omega)]
   rw[e]at k
   exact⟨_,rfl,k⟩
  ·have z:=of_decide_eq_false z
   have e:w6 π t left=π.size.toNat-t-YN π:=by unfold w6;rw[if_neg (by omega)]
   rw[e]at k
   have h1:=qA π
   refine⟨_,rfl,_,rfl,_,_,rfl,rfl,_,rfl,as,_,rfl,.inr (.inl (.inl L.s)),_,_,rfl,rfl,_,rfl,?_⟩
   refine ifB (fun y=>?_) (fun y=>?_)
   ·have y:=of_decide_eq_true y
    have e2:YN π=1:=by
     unfold YN
     rw[if_neg (fun z=>by rw[z]at y;exact absurd y (by decide))]
    rw[e2]at k
    refine⟨_,_,rfl,rfl,_,_,rfl,?_⟩
    have e3:(if(1:Int)>π.size-(t:Int)-1 then(1:Int)else π.size-(t:Int)-1)=((π.size.toNat-t-1:Nat):Int):=by rw[if_neg (by omega)];omega
    rw[e3]
    exact k
   ·have y:=of_decide_eq_false y
    have e2:YN π=0:=by
     unfold YN
     rw[if_pos (List.eq_nil_of_length_eq_zero (by omega))]
    rw[e2]at k
    refine⟨_,_,rfl,rfl,_,_,rfl,?_⟩
    have e3:(if(1:Int)>π.size-(t:Int)-0 then(1:Int)else π.size-(t:Int)-0)=((π.size.toNat-t-0:Nat):Int):=by rw[if_neg (by omega)];omega
    rw[e3]
    exact k
def xC:Sp:=fun vs H Q _=>∃(v rv:V)(π:Plan)(r:List Cell),vs=[v,rv]∧Deep H v (JM π)∧PlanOk π∧Deep H rv (Xn r)∧RowOk π r∧∀u H',Qg H H'→Deep H' u (.tup (YM π r))→Q u H'
theorem wq{π:Plan}{r:List Cell}(Y:RowOk π r):(YM π r).length=π.cols.length:=by
 unfold YM
 rw[List.length_zipWith,Y.len,Nat.min_self]
theorem yl{π:Plan}{r:List Cell}{i:Nat}{nm:Str}{c:Cell}{d:Dv}(h1:π.cols[i]? =some nm)(h2:r[i]? =some c)(h:(YM π r)[i]? =some d):d=if π.keys.contains nm=true then Dv.non else c.dv:=by
 unfold YM at h
 rw[List.getElem?_zipWith,h1,h2]at h
 exact(Option.some.inj h).symm
theorem WA(F:Fun K "without_keys" "without_keys" J7 f fd)(OT:mg "tuple"=none)(OZ:mg "zip"=none):FnOk P w K mg base (CXE P w) 1 f fd ["plan","row"] xC:=by
 refine okN F Wo (fun vs H Q E h=>?_) (fun cdv A outer s H vs Q E hr h=>?_)
 ·obtain⟨v,rv,π,r,rfl,_⟩:=h
  rfl
 ·obtain⟨v,rv,π,r,rfl,D,Z,DR,Y,k⟩:=h
  have hz:1000≤sizeLine:=by decide
  refine⟨_,(Qm (QD (QH Qw rfl OT PyProof.Rows.boot_tuple (Qa (Jt (NB:=[".0","name","value"]) (FR:=["plan"]) (fi:=[0]) rfl ⟨rfl,by decide+kernel,by decide+kernel,by decide+kernel,by decide+kernel,by decide+kernel⟩ rfl rfl (Vr .tp .tp rfl OZ (Qa (QT Qt (pv 0) Qf (fun _ _=>rfl)) (Qa (pv 1) Qb))) (fun _ _ _=>(Ux (K0:=K) (n:=2) rfl rfl (Qk (Qj (i:=1) (show([".0","name","value","plan"]:List Str).Nodup by decide+kernel) rfl (Or.inl rfl) (Or.inr rfl)) (Qk (Qj (i:=2) (show([".0","name","value","plan"]:List Str).Nodup by decide+kernel) rfl (Or.inl rfl) (Or.inr rfl)) QX)))) (fun _ _ _=>Jm) (fun _ _ _=>(J0 (QB wQ (pv 1) (QT Qt (pv 3) Qf (fun _ _=>rfl)) (by with_unfolding_all rfl)) WW (pv 2)))) Qb)))),?_⟩
  obtain⟨a,ac,ak,as,L⟩:=Ju D
  obtain rfl:=L.v
  obtain⟨rr,xs,rfl,gr,tr⟩:=Deep.Xy DR
  have lx:=tr.length
  rw[List.length_map]at lx
  have hlc:(π.cols.map V.str).length=π.cols.length:=List.length_map ..
  have hy:=Y.len
  have z1:=Z.lc
  refine ql (cb1 ?_)
  refine Zf ?_
  refine⟨_,rfl,a,_,0,_,rfl,rfl,.inl L.a,rfl,_,rfl,ac,rr,rfl,⟨_,.inl L.c⟩,⟨_,.inl gr⟩,?_⟩
  refine Jr (fv:=[.ref a]) (Qa1 (k1:=.tp) (k2:=.tp) (a1:=ac) (a2:=rr) (xs:=π.cols.map V.str) (ys:=xs)) (YM π r) (by rw[wq Y,hlc];omega) (fun R h=>h H (Qg.refl _)) rfl (fun H1 S=>⟨.inl (S _ _ L.c),.inl (S _ _ gr)⟩) ?_ ?_ (by rw[hlc];omega)
  ·rintro i v H1 H2 d R hd S ⟨p,x,y,hp,rfl,hx,hy2,rfl⟩ kk
   obtain⟨nm,hn,rfl⟩:=Va hx
   obtain⟨dd,hdd,ddd⟩:=tr.W7 hy2
   obtain⟨c,hc,rfl⟩:=QbF hdd
   have e:=yl hn hc hd
   have Sp:=Qg.new (o:=.tup [.str nm,y]) hp
   refine⟨p,_,rfl,.inl (.inl Qc),rfl,_,_,rfl,_,_,rfl,rfl,rfl,?_⟩
   refine⟨_,rfl,_,rfl,a,_,1,_,rfl,rfl,.inl ((S.trans Sp) _ _ L.a),rfl,ak,π.keys,nm,rfl,rfl,.inl ((S.trans Sp) _ _ L.k),_,rfl,?_⟩
   refine ifB (fun z=>?_) (fun z=>?_)
   ·refine kk _ _ Sp ?_
    rw[e,if_pos z]
    exact .non
   ·refine⟨_,rfl,kk _ _ Sp ?_⟩
    rw[e,if_neg (by rw[z];decide)]
    exact ddd.same (S.trans Sp)
  ·rintro xs H1 p S t hp
   have S2:=Qg.new (o:=.lst xs) hp
   refine⟨p,xs,rfl,.inl ⟨.inl (.inl Qc),fun l hl=>?_⟩⟩
   exact k _ _ ((S.trans S2).trans (Qg.new hl)) (Jc (t.same S2) hl)
structure LsSt(Hb H:Hp)(q:Addr)(xs:List V)(acc:List Dv):Prop where
 S:Qg Hb H
 f:Hb q=none
 g:H q=some (.lst xs)
 t:Deeps H xs acc
theorem LsSt.same{Hb H H':Hp}{q:Addr}{xs:List V}{acc:List Dv}(B:LsSt Hb H q xs acc)(S:Qg H H'):LsSt Hb H' q xs acc:=⟨B.S.trans S,B.f,S _ _ B.g,B.t.same S⟩
theorem LsSt.snoc{Hb H:Hp}{q:Addr}{xs:List V}{acc:List Dv}(B:LsSt Hb H q xs acc){v:V}{d:Dv}(h:Deep H v d):LsSt Hb (upd H q (.lst (xs++[v]))) q (xs++[v]) (acc++[d]):=
 ⟨Zt B.S B.f,B.f,Qc,(B.t.append (.cons h .nil)).jJ B.g (fun zs z=>nomatch z)⟩
def US:Sp:=fun vs H Q _=>∃(v bv:V)(π:Plan)(ls:List Ln),vs=[v,bv]∧Deep H v (JM π)∧PlanOk π∧Deep H bv (.tup (ls.map Ln.dv))∧(∀x∈ls,x.ok π)∧ls.length≤1000∧∀u H',Qg H H'→Deep H' u (.tup (shN π ls ls.length))→Q u H'
set_option maxHeartbeats 1000000 in
theorem wt(F:Fun K "shown" "shown" Uv f fd)(OT:mg "tuple"=none)(OE:mg "enumerate"=none)(D_without_keys:Def P w K mg base 1 "without_keys" ["plan","row"] xC):FnOk P w K mg base (CXE P w) 2 f fd ["plan","lines"] US:=by
 refine okN F KF (fun vs H Q E h=>?_) (fun cdv A outer s H vs Q E hr h=>?_)
 ·obtain⟨v,bv,π,ls,rfl,_⟩:=h
  rfl
 ·obtain⟨v,bv,π,ls,rfl,D,Z,DB,Y,hl,k⟩:=h
  have hz:100000≤sizeLine:=by rw[sizeLine_eq];decide
  refine⟨_,(Qe (Qu (i:=2) KF.nd rfl (Or.inl rfl) (Js Qb))
   (Qe (Xq PassesOwn.never rfl (Vq .tp rfl OE (Qa (pv 1) Qb)) (Jy rfl (Qk (Qj (i:=3) KF.nd rfl (Or.inl rfl)) (Qk (Qj (i:=4) KF.nd rfl (Or.inl rfl)) QX))) (Qm (Xa (PW.pt (UZ (QB kn (pv 3) Qf (Qz _)) (UZ (QB Xr (QT Qt (pv 4) Qf (fun _ _=>rfl)) Qq (Qz _)) (Y3 (QB Xr (QT Qt (QT Qt (pv 1) (QA Zc (pv 3) Qf) (fun _ _=>rfl)) Qf (fun _ _=>rfl)) Qq (Qz _)))))) (Qm (JS (XT PySem.F.plainAttrs_list PySem.F.slot_list_append PySem.F.type_list_append JT (pv 2) (Qa (Qv (Qa Qq (Qa (D_without_keys.pe hr (by decide) rfl Qn (Qa (pv 0) (Qa (QT Qt (pv 4) Qf (fun _ _=>rfl)) Qb))) Qb))) Qb)))) (Qm (JS (XT PySem.F.plainAttrs_list PySem.F.slot_list_append PySem.F.type_list_append JT (pv 2) (Qa (pv 4) Qb)))))))
   (Qm (QD (QH Qw rfl OT PyProof.Rows.boot_tuple (Qa (pv 2) Qb)))))),?_⟩
  obtain⟨a,ac,ak,as,L⟩:=Ju D
  obtain rfl:=L.v
  obtain⟨R,xr,rfl,gr,tr⟩:=Deep.Xy DB
  have lx:=tr.length
  rw[List.length_map]at lx
  refine⟨by show 0≤sizeLine;omega,fun q hq=>?_⟩
  have B0:LsSt H (upd H q (.lst [])) q [] (shN π ls 0):=⟨Qg.new hq,hq,Qc,.nil⟩
  generalize upd H q (.lst [])=H5 at B0
  dsimp only[QL,JI,Zj,QK]
  refine⟨_,rfl,R,rfl,⟨_,.inl (.inl (B0.S _ _ gr))⟩,?_⟩
  refine Zm (Qbz (k:=.tp) (K:=K) (a:=R) (xs:=xr)) (fun i σ H6=>∃xs y3 y4,σ=[some (.ref a),some (.ref R),some (.ref q),y3,y4]∧LsSt H H6 q xs (shN π ls i)) ⟨[],none,none,rfl,B0⟩ ?_ ?_ ?_
  ·rintro i σ H6 _ ⟨xs,y3,y4,rfl,B⟩
   exact .inl (.inl (B.S _ _ gr))
  ·rintro i x σ H6 H7 hi ⟨xs,y3,y4,rfl,B⟩ ⟨p,x,hp,rfl,hx,rfl⟩
   obtain⟨hil,Dx⟩:=UQ tr hx
   have okx:=Y _ (getD_mem hil)
   have B7:=B.same (Qg.new (o:=.tup [.int ((i:Nat):Int),x]) hp)
   refine⟨p,_,rfl,.inl (.inl Qc),rfl,_,_,rfl,_,_,rfl,rfl,?_⟩
   generalize upd H6 p (.tup [.int ((i:Nat):Int),x])=H7 at B7
   clear B hp
   obtain⟨xa,ys,rfl,gx,tx⟩:=yg Dx
   have gx7:=B7.S _ _ gx
   have lxs:=B7.t.length
   rw[VR]at lxs
   have put:∀(H8:Hp)(u:V),Qg H7 H8→Deep H8 u (qx π (J8 ls i) (ls.getD i dfl))→∃l xs' y,V.ref q=.ref l∧[u]=[y]∧H8 l=some (.lst xs')∧xs'.length<sizeLine∧∃xs2 y3 y4,([some (V.ref a),some (V.ref R),some (V.ref q),some (V.int ((i:Nat):Int)),some (V.ref xa)]:L2.St)=[some (V.ref a),some (V.ref R),some (V.ref q),y3,y4]∧LsSt H (upd H8 l (.lst (xs'++[y]))) q xs2 (shN π ls (i+1)):=
    fun H8 u S8 D8=>⟨q,xs,u,rfl,rfl,(B7.same S8).g,by omega,_,_,_,rfl,(B7.same S8).snoc D8⟩
   have plain:J8 ls i=false∨(ls.getD i dfl).WT=false→Deep H7 (.ref xa) (qx π (J8 ls i) (ls.getD i dfl)):=by
    intro h
    have e:qx π (J8 ls i) (ls.getD i dfl)=(ls.getD i dfl).dv:=by
     cases e2:ls.getD i dfl with
     |oth k2 ds=>rfl
     |row r=>
      rw[e2]at h
      rcases h with h|h
      ·rw[h];rfl
      ·cases h
    rw[e]
    exact Dx.same B7.S
   dsimp only[QL,JI,Zj,QK]
   refine⟨_,rfl,_,_,rfl,rfl,_,rfl,?_⟩
   refine ifB (fun z=>?_) (fun z=>?_)
   rotate_left
   ·have z:=of_decide_eq_false z
    obtain rfl:i=0:=by omega
    refine⟨_,rfl,.inl ⟨rfl,_,.inl (.inl B7.g)⟩,?_⟩
    exact⟨_,rfl,put H7 _ (Qg.refl _) (plain (.inl rfl))⟩
   have z:=of_decide_eq_true z
   obtain⟨i',rfl⟩:∃i',i=i'+1:=⟨i-1,by omega⟩
   refine⟨_,rfl,xa,_,0,_,rfl,rfl,.inl gx7,Q9 (j:=0) rfl,rfl,_,rfl,?_⟩
   rw[Ln.UP okx]
   refine ifB (fun z2=>?_) (fun z2=>?_)
   rotate_left
   ·refine⟨_,rfl,.inl ⟨rfl,_,.inl (.inl B7.g)⟩,?_⟩
    exact⟨_,rfl,put H7 _ (Qg.refl _) (plain (.inr z2))⟩
   obtain⟨x0,hx0⟩:∃x0,xr[i']? =some x0:=⟨_,List.getElem?_eq_getElem (by omega)⟩
   obtain⟨hil0,Dx0⟩:=UQ tr hx0
   have okx0:=Y _ (getD_mem hil0)
   obtain⟨xa0,ys0,rfl,gx0,tx0⟩:=yg Dx0
   have hat:atI xr ((((i'+1:Nat):Nat):Int)-1)=some (.ref xa0):=by
    rw[show(((i'+1:Nat):Nat):Int)-1=((i':Nat):Int) by omega]
    exact Q9 hx0
   refine⟨_,rfl,_,rfl,_,_,rfl,rfl,R,xr,_,_,rfl,rfl,.inl (B7.S _ _ gr),hat,xa0,_,0,_,rfl,rfl,.inl (B7.S _ _ gx0),Q9 (j:=0) rfl,rfl,_,rfl,?_⟩
   rw[Ln.UP okx0]
   refine ifB (fun z3=>?_) (fun z3=>?_)
   rotate_left
   ·refine⟨_,rfl,.inl ⟨rfl,_,.inl (.inl B7.g)⟩,?_⟩
    exact⟨_,rfl,put H7 _ (Qg.refl _) (plain (.inl z3))⟩
   cases er:ls.getD (i'+1) dfl with
   |oth k2 ds=>rw[er]at z2;cases z2
   |row r=>
    rw[er]at tx okx
    obtain⟨rv,rfl,DR⟩:=w8 tx
    have gx8:H7 xa=some (.tup [.str "row",rv]):=by rw[gx7,er];rfl
    refine⟨_,rfl,.inl ⟨rfl,_,.inl (.inl B7.g)⟩,?_⟩
    refine⟨_,rfl,_,rfl,xa,_,1,_,rfl,rfl,.inl gx8,rfl,.ref a,rv,π,r,rfl,D.same B7.S,Z,DR.same B7.S,okx,fun u H8 S8 D8=>?_⟩
    refine⟨by show 2≤sizeLine;omega,fun p9 hp9=>?_⟩
    have S9:=Qg.new (o:=.tup [.str "row",u]) hp9
    have D9:Deep (upd H8 p9 (.tup [.str "row",u])) (.ref p9) (QaI π r):=.tup Qc (.cons .str (.cons (D8.same S9) .nil))
    refine put _ _ (S8.trans S9) ?_
    rw[er]
    show Deep _ _ (if J8 ls (i'+1)=true then QaI π r else jK r)
    rw[show J8 ls (i'+1)=true from z3]
    exact D9
  ·rintro σ H6 ⟨xs,y3,y4,rfl,B⟩
   have lxr:xr.length=ls.length:=lx
   rw[lxr]at B
   refine⟨_,rfl,q,xs,rfl,.inl ⟨.inl (.inl B.g),fun l hl=>?_⟩⟩
   exact k _ _ (B.S.trans (Qg.new hl)) (Jc B.t hl)
end
end Lw
set_option Elab.async false
set_option linter.all false
set_option maxRecDepth 100000
namespace Lw
open PySem PySem.Spec PyProof.Rows L2 K34
open Builtin Builtin.Str StrLaws
def vd(π:Plan)(row:List Cell)(since:List (List (Int × Int)))(level:Nat):Ln:=.oth "foot" [.str (π.keys.getD level ""),.tup ((jv π row).take (level+1)),Jo (since.getD level [])]
def YO(π:Plan)(row:List Cell)(since:List (List (Int × Int)))(first:Nat):List Ln:=(List.range (π.keys.length-first)).map fun i=>vd π row since (π.keys.length-1-i)
def JJ(π:Plan):List (List Cell)→Option (List Cell)→List (List (Int × Int))→List Ln
 |[],none,_=>[]
 |[],some p,since=>YO π p since 0
 |r::rs,none,since=>.row r::JJ π rs (some r) (since.map (Xo (sps π) r))
 |r::rs,some p,since=>YO π p since (unlike (sks π) p r)++ .row r::JJ π rs (some r) ((since.take (unlike (sks π) p r)++List.replicate (π.keys.length-unlike (sks π) p r) (zeros π)).map (Xo (sps π) r))
def Zw(π:Plan)(rows:List (List Cell)):List Ln:=JJ π rows none (Zg π)++[.oth "final" [Jo (total π rows)]]
theorem YQ(π:Plan)(row:List Cell)(since:List (List (Int × Int)))(first:Nat):(YO π row since first).map Ln.dv=J3 π row since first:=by
 unfold YO J3
 rw[List.map_map]
 rfl
theorem WB(π:Plan):∀(rows:List (List Cell))(p:Option (List Cell))(since:List (List (Int × Int))),(JJ π rows p since).map Ln.dv=prog π rows p since
 |[],none,_=>rfl
 |[],some p,since=>by rw[JJ,prog,YQ]
 |r::rs,none,since=>by rw[JJ,prog,List.map_cons,WB π rs];rfl
 |r::rs,some p,since=>by rw[JJ,prog,List.map_append,List.map_cons,WB π rs,YQ];rfl
theorem qC(π:Plan)(rows:List (List Cell)):(Zw π rows).map Ln.dv=xx π rows:=by
 unfold Zw xx
 rw[List.map_append,WB]
 rfl
theorem VS{π:Plan}{row:List Cell}{since:List (List (Int × Int))}{first:Nat}:∀x∈YO π row since first,x.ok π∧x.WT=false:=by
 intro x hx
 obtain⟨i,_,rfl⟩:=List.mem_map.mp hx
 exact⟨by show decide (V.str "foot"=V.str "row")=false;decide+kernel,rfl⟩
theorem WC{π:Plan}:∀(rows:List (List Cell))(p:Option (List Cell))(since:List (List (Int × Int))),(∀r∈rows,RowOk π r)→∀x∈JJ π rows p since,x.ok π
 |[],none,_,_=>fun x hx=>nomatch hx
 |[],some p,since,_=>fun x hx=>(VS x hx).1
 |r::rs,none,since,Y=>by
  intro x hx
  rw[JJ]at hx
  rcases List.mem_cons.mp hx with rfl|hx
  ·exact Y r List.mem_cons_self
  ·exact WC rs _ _ (fun r hr=>Y r (List.mem_cons_of_mem _ hr)) x hx
 |r::rs,some p,since,Y=>by
  intro x hx
  rw[JJ]at hx
  rcases List.mem_append.mp hx with hx|hx
  ·exact(VS x hx).1
  rcases List.mem_cons.mp hx with rfl|hx
  ·exact Y r List.mem_cons_self
  ·exact WC rs _ _ (fun r hr=>Y r (List.mem_cons_of_mem _ hr)) x hx
theorem wu{π:Plan}{rows:List (List Cell)}(Y:∀r∈rows,RowOk π r):∀x∈Zw π rows,x.ok π:=by
 intro x hx
 rcases List.mem_append.mp hx with hx|hx
 ·exact WC _ _ _ Y x hx
 ·obtain rfl:=List.mem_singleton.mp hx
  show decide (V.str "final"=V.str "row")=false
  decide+kernel
theorem XJ(a b:List Ln):Jz (a++b)=Jz a+Jz b:=by
 induction a with
 |nil=>simp[Jz]
 |cons x xs ih=>rw[List.cons_append,Jz,Jz,ih];omega
theorem WD{a:List Ln}(h:∀x∈a,x.WT=false):Jz a=0:=by
 induction a with
 |nil=>rfl
 |cons x xs ih=>
  rw[Jz,h x List.mem_cons_self,ih fun y hy=>h y (List.mem_cons_of_mem _ hy)]
  rfl
theorem Xl(π:Plan):∀(rows:List (List Cell))(p:Option (List Cell))(since:List (List (Int × Int))),Jz (JJ π rows p since)=rows.length
 |[],none,_=>rfl
 |[],some p,since=>WD fun x hx=>(VS x hx).2
 |r::rs,none,since=>by rw[JJ,Jz,Xl π rs,List.length_cons,show(Ln.row r).WT=true from rfl,if_pos rfl,Nat.add_comm]
 |r::rs,some p,since=>by rw[JJ,XJ,WD fun x hx=>(VS x hx).2,Jz,Xl π rs,List.length_cons,show(Ln.row r).WT=true from rfl,if_pos rfl];omega
theorem jA(π:Plan)(rows:List (List Cell)):Jz (Zw π rows)=rows.length:=by
 unfold Zw
 rw[XJ,Xl]
 rfl
theorem ym{π:Plan}{rows:List (List Cell)}(h1:π.keys.length≤10)(h2:rows.length≤20):(Zw π rows).length≤300:=by
 have e:(Zw π rows).length=(xx π rows).length:=by rw[←qC,List.length_map]
 rw[e]
 unfold xx
 rw[List.length_append]
 have:=KJ π rows none (Zg π)
 have h3:rows.length*(π.keys.length+1)≤20*11:=Nat.mul_le_mul (by omega) (by omega)
 simp
 omega
def ZX(π:Plan)(ls:List Ln):List Dv:=ZO π ls.length 1 (zeros π) ls
theorem UT{π:Plan}{f n:Nat}{l:List (Int × Int)}{ls:List Ln}(h:ls≠[]):ZO π (f+1) n l ls=xA π n l ls::ZO π f (n+1) (smN π ls l (JZ π n l ls)) (ls.drop (JZ π n l ls)):=by rw[ZO,if_neg h]
section
variable {P:Program}{w:World}{K:PySem.W.Frag}{mg:Str→Option Value}{base:Heap}{f:Addr}{fd:FuncData}{tk:Nat→Tok}
def KK:Sp:=fun vs H Q _=>∃(v rv:V)(π:Plan)(rows:List (List Cell)),vs=[v,rv]∧Deep H v (JM π)∧PlanOk π∧π.keys.length≤10∧Deep H rv (UK rows)∧(∀r∈rows,RowOk π r)∧rows.length≤20∧∀u H',Qg H H'→Deep H' u (.tup (ZX π (Zw π rows)))→Q u H'
set_option maxHeartbeats 2000000 in
theorem xD(F:Fun K "report" "report" VA f fd)(O:Own mg)(OT:mg "tuple"=none)(D_breaks:Def P w K mg base 7 "breaks" ["plan","rows"] VM)(D_no_sums:Def P w K mg base 1 "no_sums" ["plan"] js)(D_with_row:Def P w K mg base 5 "with_row" ["plan","amounts","row"] (Ve K))(D_page_top:Def P w K mg base 1 "page_top" ["plan","page","amounts"] yi)(D_page_bottom:Def P w K mg base 1 "page_bottom" ["plan","is_last","amounts"] yj)
  (D_lines_on_page:Def P w K mg base 1 "lines_on_page" ["plan","ahead","left"] yk) (D_shown:Def P w K mg base 2 "shown" ["plan","lines"] US):FnOk P w K mg base (CXE P w) 8 f fd ["plan","rows"] KK:=by
 refine okN F Jg (fun vs H Q E h=>?_) (fun cdv A outer s H vs Q E hr h=>?_)
 ·obtain⟨v,rv,π,rows,rfl,_⟩:=h
  rfl
 ·obtain⟨v,rv,π,rows,rfl,D,Z,hk,DR,Y,hl,k⟩:=h
  have hz:100000≤sizeLine:=by rw[sizeLine_eq];decide
  have z6:=Z.sz
  have z2:=Z.lu
  have z3:π.keys.length+π.sums.length=(π.keys++π.sums).length:=(List.length_append ..).symm
  have YL:=wu Y
  have rl:=jA π rows
  have ll:=ym hk hl
  refine⟨_,(Qe (Qu (i:=2) Jg.nd rfl (Or.inl rfl) (D_breaks.pe hr (by decide) rfl Qn (Qa (pv 0) (Qa (pv 1) Qb))))
   (Qe (Qu (i:=3) Jg.nd rfl (Or.inl rfl) (Js Qb))
   (Qe (Qu (i:=4) Jg.nd rfl (Or.inl rfl) (D_no_sums.pe hr (by decide) rfl Qn (Qa (pv 0) Qb)))
   (Qe (Qu (i:=5) Jg.nd rfl (Or.inl rfl) Qf)
   (Qe (kh PassesOwn.never (QB vp (pv 5) (Qh Qp rfl O.len PySem.boot_len (Qa (pv 2) Qb)) (Qz _)) (Qe (Qu (i:=6) Jg.nd rfl (Or.inl rfl) (D_page_top.pe hr (by decide) rfl Qn (Qa (pv 0) (Qa (QA Z5 (Qh Qp rfl O.len PySem.boot_len (Qa (pv 3) Qb)) Qf) (Qa (pv 4) Qb)))))
   (Qe (Qu (i:=7) Jg.nd rfl (Or.inl rfl) (QA Z5 (pv 5) (D_lines_on_page.pe hr (by decide) rfl Qn (Qa (pv 0) (Qa (Qh Qp rfl O.len PySem.boot_len (Qa (pv 6) Qb)) (Qa (QA Zc (Qh Qp rfl O.len PySem.boot_len (Qa (pv 2) Qb)) (pv 5)) Qb))))))
   (Qe (Qu (i:=8) Jg.nd rfl (Or.inl rfl) (ZR X0 (pv 2) (ZA (pv 5)) (ZA (pv 7))))
   (Qe (Xq PassesOwn.never rfl (Z4 (pv 8)) (Qj (i:=9) Jg.nd rfl (Or.inl rfl)) (Qm (Xa (QB Xr (QT Qt (pv 9) Qf (fun _ _=>rfl)) Qq (Qz _)) (Qm (Qu (i:=4) Jg.nd rfl (Or.inl rfl) (D_with_row.pe hr (by decide) rfl Qn (Qa (pv 0) (Qa (pv 4) (Qa (QT Qt (pv 9) Qf (fun _ _=>rfl)) Qb)))))) JA)))
   (Qe (JS (XT PySem.F.plainAttrs_list PySem.F.slot_list_append PySem.F.type_list_append JT (pv 3) (Qa (QA J4 (QA J4 (pv 6) (D_shown.pe hr (by decide) rfl Qn (Qa (pv 0) (Qa (pv 8) Qb)))) (D_page_bottom.pe hr (by decide) rfl Qn (Qa (pv 0) (Qa (Jl Xr (pv 7) (Qh Qp rfl O.len PySem.boot_len (Qa (pv 2) Qb)) (Qz _)) (Qa (pv 4) Qb))))) Qb)))
   (Qm (Qu (i:=5) Jg.nd rfl (Or.inl rfl) (pv 7)))))))))
   (Qm (QD (QH Qw rfl OT PyProof.Rows.boot_tuple (Qa (pv 3) Qb))))))))),?_⟩
  refine⟨_,rfl,_,rfl,v,rv,π,rows,rfl,D,Z,hk,DR,Y,hl,fun u H1 S1 D1=>?_⟩
  rw[←qC]at D1
  obtain⟨R,xr,rfl,gr,tr⟩:=Deep.Xy D1
  have lx:=tr.length
  rw[List.length_map]at lx
  clear D1
  dsimp only[QL,JI,Zj,QK]
  refine⟨by show 0≤sizeLine;omega,fun q hq=>?_⟩
  have B0:LsSt H1 (upd H1 q (.lst [])) q [] []:=⟨Qg.new hq,hq,Qc,.nil⟩
  generalize upd H1 q (.lst [])=H2 at B0
  refine⟨_,rfl,v,π,rfl,D.same (S1.trans B0.S),by omega,fun av H3 S3 DA=>?_⟩
  have B3:=B0.same S3
  clear B0 S3
  have all:ZX π (Zw π rows)=ZO π (Zw π rows).length 1 (zeros π) (Zw π rows):=rfl
  generalize eA:ZX π (Zw π rows)=A at k all
  clear eA
  have zok:SmOk π (Zw π rows) (zeros π) 20:=⟨⟨0,by omega,KI π⟩,XH π⟩
  generalize Zw π rows=ls at YL ll all zok tr lx
  clear rl
  refine km (fun σ H5=>∃(i:Nat)(av:V)(xs:List V)(acc:List Dv)(l:List (Int × Int))(fu:Nat)(y6 y7 y8 y9:Option V),σ=[some v,some rv,some (.ref R),some (.ref q),some av,some (.int (i:Nat)),y6,y7,y8,y9]∧i≤ls.length∧LsSt H1 H5 q xs acc∧Deep H5 av (Jo l)∧SmOk π (ls.drop i) l 20∧acc.length≤i∧(ls.drop i).length≤fu∧A=acc++ZO π fu (acc.length+1) l (ls.drop i))
   (fun σ _=>match(σ:List (Option V))[5]? with|some (some (V.int i))=>ls.length-i.toNat|_=>0)
   ⟨0,av,[],[],zeros π,ls.length,none,none,none,none,rfl,Nat.zero_le _,B3,DA,zok,Nat.le_refl _,Nat.le_refl _,all⟩ ?_ (fun σ H Q Q' hQ⟨x,e,y,e2,p,ys,e3,h,i,j,e4,e5,b,e6,q⟩=>⟨x,e,y,e2,p,ys,e3,h,i,j,e4,e5,b,e6,hQ _ _ q⟩)
  rintro σ H5 ⟨i,av,xs,acc,l,fu,y6,y7,y8,y9,rfl,hi,B,DA,zok,hacc,hfu,hA⟩
  refine⟨_,rfl,_,rfl,R,xr,rfl,.inr (.inl (.inl (B.S _ _ gr))),_,_,rfl,rfl,_,rfl,?_⟩
  have ldr:(ls.drop i).length=ls.length-i:=List.length_drop ..
  have lxs:=B.t.length
  refine ifB (fun z=>?_) (fun z=>?_)
  rotate_left
  ·have z:=of_decide_eq_false z
   have e:ls.drop i=[]:=List.drop_eq_nil_of_le (by omega)
   rw[e,jy,List.append_nil]at hA
   refine⟨_,rfl,q,xs,rfl,.inl ⟨.inl (.inl B.g),fun l hl=>?_⟩⟩
   rw[hA]at k
   exact k _ _ ((S1.trans B.S).trans (Qg.new hl)) (Jc B.t hl)
  have z:=of_decide_eq_true z
  have hne:ls.drop i≠[]:=fun e=>by rw[e]at ldr;simp at ldr;omega
  obtain⟨fu',rfl⟩:∃fu',fu=fu'+1:=⟨fu-1,by omega⟩
  rw[UT hne]at hA
  obtain⟨m1,m2⟩:=jz z6 (n:=acc.length+1) (l:=l) hne
  have em:JZ π (acc.length+1) l (ls.drop i)=w6 π (jx π (acc.length+1) l).length (ls.drop i).length:=rfl
  have pg:xA π (acc.length+1) l (ls.drop i)=.tup (jx π (acc.length+1) l++shN π (ls.drop i) (JZ π (acc.length+1) l (ls.drop i))++ka π (decide (JZ π (acc.length+1) l (ls.drop i)=(ls.drop i).length)) (smN π (ls.drop i) l (JZ π (acc.length+1) l (ls.drop i)))):=rfl
  have tl:=qz π (acc.length+1) l
  generalize JZ π (acc.length+1) l (ls.drop i)=m at hA m1 m2 em pg
  dsimp only[QL,JI,Zj,QK]
  have DP5:=D.same (S1.trans B.S)
  refine⟨_,rfl,_,rfl,q,xs,rfl,.inl (.inl (.inl B.g)),_,_,rfl,rfl,_,rfl,v,av,π,acc.length+1,l,by rw[lxs];rfl,DP5,DA,fun u6 H6 S6 D6=>?_⟩
  obtain⟨ta,tx,rfl,gt,tt⟩:=Deep.Xy D6
  have lt:=tt.length
  have B6:=B.same S6
  have DP6:=DP5.same S6
  have DA6:=DA.same S6
  clear B DP5 DA D6
  refine⟨_,rfl,_,rfl,_,rfl,ta,tx,rfl,.inr (.inl (.inl gt)),_,rfl,R,xr,rfl,.inr (.inl (.inl (B6.S _ _ gr))),_,rfl,_,_,rfl,rfl,v,π,tx.length,(ls.drop i).length,?_,DP6,z6,by omega,_,_,rfl,rfl,?_⟩
  ·show[v,V.int ((tx.length:Nat):Int),V.int ((xr.length:Nat)-(i:Nat):Int)]=_
   rw[show((xr.length:Nat):Int)-((i:Nat):Int)=(((ls.drop i).length:Nat):Int) by omega]
  rw[lt, ←em]
  have eim:((i:Nat):Int)+((m:Nat):Int)=(((i+m:Nat):Nat):Int):=by omega
  dsimp only
  rw[eim]
  refine⟨_,rfl,_,rfl,_,rfl,_,rfl,_,rfl,?_⟩
  refine QbK (B6.S _ _ gr) (tr.same B6.S) (by omega) fun u7 H7 S7 D7=>?_
  have eb:((ls.map Ln.dv).take (i+m)).drop i=((ls.drop i).take m).map Ln.dv:=by
   rw[←List.map_take, ←List.map_drop,List.drop_take,Nat.add_sub_cancel_left]
  rw[eb]at D7
  obtain⟨b,bx,rfl,gb,tb⟩:=Deep.Xy D7
  have B7:=B6.same S7
  have DP7:=DP6.same S7
  have DA7:=DA6.same S7
  have gt7:=S7 _ _ gt
  have tt7:=tt.same S7
  clear B6 DP6 DA6 gt tt
  have lbx:=tb.length
  rw[List.length_map,List.length_take]at lbx
  refine⟨_,rfl,b,rfl,⟨_,.inl (.inl gb)⟩,?_⟩
  have YD:∀x∈ls.drop i,x.ok π:=fun x hx=>YL x (List.mem_of_mem_drop hx)
  refine Zm (x6 (K:=K) (a:=b) (xs:=bx)) (fun j σ H8=>∃av y9,σ=[some v,some rv,some (.ref R),some (.ref q),some av,some (.int (i:Nat)),some (.ref ta),some (.int ((i+m:Nat):Nat)),some (.ref b),y9]∧Qg H7 H8∧Deep H8 av (Jo (smN π (ls.drop i) l j))) ⟨av,y9,rfl,Qg.refl _,DA7⟩ ?_ ?_ ?_
  ·rintro j σ H8 _ ⟨av,y9,rfl,S8,_⟩
   exact .inl (.inl (S8 _ _ gb))
  ·rintro j x σ H80 H8 hj ⟨av,y9,rfl,S8,DA8⟩ ⟨rfl,hx⟩
   obtain⟨hjl,Dx⟩:=UQ tb hx
   rw[List.length_take]at hjl
   have hjm:j<m:=by omega
   rw[Wz hjm]at Dx
   have hjd:j<(ls.drop i).length:=by omega
   have okx:=YD _ (getD_mem hjd)
   obtain⟨xa,ys,rfl,gx,tx2⟩:=yg Dx
   dsimp only[QL,JI,Zj,QK]
   refine⟨_,rfl,xa,_,0,_,rfl,rfl,.inl (S8 _ _ gx),Q9 (j:=0) rfl,rfl,_,rfl,?_⟩
   rw[Ln.UP okx]
   obtain⟨⟨cn,hc1,hc2⟩,hc3⟩:=xB Z YD zok j (by omega)
   refine ifB (fun z2=>?_) (fun z2=>?_)
   ·cases er:(ls.drop i).getD j dfl with
    |oth k2 ds=>rw[er]at z2;cases z2
    |row r=>
     rw[er]at tx2 okx
     obtain⟨rv2,rfl,DR2⟩:=w8 tx2
     have gx8:H8 xa=some (.tup [.str "row",rv2]):=by rw[S8 _ _ gx,er];rfl
     refine⟨_,rfl,_,rfl,_,rfl,xa,_,1,_,rfl,rfl,.inl gx8,rfl,v,av,rv2,π,smN π (ls.drop i) l j,r,cn,rfl,DP7.same S8,Z,DA8,hc3,hc2,by omega,DR2.same S8,okx,fun u9 H9 S9 D9=>?_⟩
     refine⟨u9,_,rfl,S8.trans S9,?_⟩
     rw[smN,er]
     exact D9
   ·refine⟨av,_,rfl,S8,?_⟩
    cases er:(ls.drop i).getD j dfl with
    |row r=>rw[er]at z2;cases z2
    |oth k2 ds=>
     rw[smN,er]
     exact DA8
  rintro σ H8 ⟨av,y9,rfl,S8,DA8⟩
  have ebx:bx.length=m:=by omega
  rw[ebx]at DA8
  have B8:=B7.same S8
  have DP8:=DP7.same S8
  dsimp only[QL,JI,Zj,QK]
  refine⟨_,rfl,.inl ⟨rfl,_,.inl (.inl B8.g)⟩,?_⟩
  refine⟨_,rfl,_,rfl,_,rfl,v,.ref b,π,(ls.drop i).take m,rfl,DP8,Z,(Deep.tup gb tb).same S8,(fun x hx=>YD x (List.mem_of_mem_take hx)),by rw[List.length_take];omega,fun u9 H9 S9 D9=>?_⟩
  rw[show((ls.drop i).take m).length=m by rw[List.length_take];omega,qB π _ m m (Nat.le_refl _)]at D9
  obtain⟨sa,sx,rfl,gs,ts⟩:=Deep.Xy D9
  have lsx:=ts.length
  rw[VR]at lsx
  refine yh (S9 _ _ (S8 _ _ gt7)) gs (tt7.same (S8.trans S9)) ts (by omega) fun u10 H10 S10 D10=>?_
  obtain⟨ca,cx,rfl,gc,tc⟩:=Deep.Xy D10
  have lcx:=tc.length
  rw[List.length_append,VR]at lcx
  have B10:=(B8.same S9).same S10
  refine⟨_,rfl,_,rfl,_,rfl,R,xr,rfl,.inr (.inl (.inl (B10.S _ _ gr))),rfl,_,rfl,v,av,π,decide (m=(ls.drop i).length),_,?_,DP8.same (S9.trans S10),DA8.same (S9.trans S10),fun u11 H11 S11 D11=>?_⟩
  ·have:decide (V.int (((i+m:Nat):Nat):Int)=V.int ((xr.length:Nat):Int))=decide (m=(ls.drop i).length):=by
    rw[decide_eq_decide]
    constructor
    ·intro h;injection h;omega
    ·intro h;congr 1;omega
   rw[this]
   all_goals rfl
  obtain⟨ba,bx2,rfl,gb2,tb2⟩:=Deep.Xy D11
  have lb2:=tb2.length
  have lb3:=wp π (decide (m=(ls.drop i).length)) (smN π (ls.drop i) l m)
  refine yh (S11 _ _ gc) gb2 (tc.same S11) tb2 (by omega) fun u12 H12 S12 D12=>?_
  have B12:=(B10.same S11).same S12
  refine⟨q,xs,u12,rfl,rfl,B12.g,by omega,?_⟩
  have D13:Deep H12 u12 (xA π (acc.length+1) l (ls.drop i)):=by rw[pg];exact D12
  have B13:=B12.snoc D13
  have DA13:Deep (upd H12 q (.lst (xs++[u12]))) av (Jo (smN π (ls.drop i) l m)):=(DA8.same (((S9.trans S10).trans S11).trans S12)).jJ B12.g (fun zs z=>nomatch z)
  generalize upd H12 q (.lst (xs++[u12]))=H13 at B13 DA13
  refine⟨_,rfl,⟨i+m,av,_,_,smN π (ls.drop i) l m,fu',_,_,_,_,rfl,by omega,B13,DA13,?_,?_,?_,?_⟩,?_⟩
  ·have:=xB Z YD zok m (by omega)
   rw[List.drop_drop]at this
   exact this
  ·rw[List.length_append,List.length_singleton];omega
  ·rw[List.length_drop];omega
  ·rw[List.drop_drop]at hA
   rw[hA,List.append_assoc,List.length_append,List.length_singleton]
   rfl
  ·show ls.length-((((i+m:Nat):Nat):Int)).toNat<ls.length-(((i:Nat):Int)).toNat
   omega
end
end Lw
set_option Elab.async false
set_option linter.all false
set_option maxRecDepth 100000
namespace L2
open PySem PySem.Spec PyProof.Rows
section
variable {X:Cx}
end
end L2
set_option Elab.async false
set_option linter.all false
set_option maxRecDepth 100000
namespace L2
open PySem PySem.Spec PyProof.Rows
structure DefM(P:Program)(w:World)(K:PySem.W.Frag)(mg:Str→Option Value)(base:Heap)(C:Addr)(k:Nat)(m:Str)(ps:List Str)(sp:Sp):Prop where
 cl:Cls K C
 ex:∃f fd,Meth K C m f∧Binds K fd ps []∧FnOk P w K mg base (CXE P w) k f fd ps sp
structure DefC(P:Program)(w:World)(K:PySem.W.Frag)(mg:Str→Option Value)(base:Heap)(C:Addr)(k:Nat)(x:Str)(ps:List Str)(sp:Sp):Prop where
 mgC:mg x=some (.ref C)
 ex:∃f fd,Mk K C f∧Binds K fd ps []∧FnOk P w K mg base (CXE P w) k f fd ps sp
section
variable {X:Cx}{E:XK}{o e:Expr}{es:List Expr}{ta:TE}{t:TA}{k k':Nat}{x m:Str}{ps:List Str}{sp:Sp}{C:Addr}{pl:Sem Bool}{p pos apos:Pos}
theorem DefM.pe(D:DefM X.prog X.w X.K X.mg X.base C k m ps sp)(hr:Room k' X.A)(hk:k≤k')(hx:Passes (CXE X.prog X.w) X E)(he:PE X o ta)(ha:PA X (e::es) t)
  (hst:starEach (e::es) X.env=(false,eval e X.env)::starEach es X.env:=by rfl) (hpl:(backTo pos (starEach es X.env)).any (·.1)=false:=by rfl)
  (ht:eval (.Call (.Attribute o m apos) (e::es) [] pos) X.env=(do
   let ov←eval o X.env
   standAt apos.atName
   let (f,first)←holding [ov] (getMethod ov m pl)
   callWith pos f first (backTo pos (starEach (e::es) X.env)) (backToKw pos (keywordEach [] X.env))):=by rfl):PE X (.Call (.Attribute o m apos) (e::es) [] pos) (Ko C m sp [] E ta t):=by
 obtain⟨f,fd,hm,hb,F⟩:=D.ex
 exact vA he D.cl hm F (hr.mono hk) hb .nil hx ha hst hpl ht
theorem DefM.pe0(D:DefM X.prog X.w X.K X.mg X.base C k m ps sp)(hr:Room k' X.A)(hk:k≤k')(hx:Passes (CXE X.prog X.w) X E)(he:PE X o ta)
  (ht:eval (.Call (.Attribute o m apos) [] [] pos) X.env=(do
   let ov←eval o X.env
   standAt apos.atName
   let (f,first)←holding [ov] (getMethod ov m pl)
   callWith pos f first (backTo pos (starEach [] X.env)) (backToKw pos (keywordEach [] X.env))):=by rfl):PE X (.Call (.Attribute o m apos) [] [] pos) (Ko C m sp [] E ta Kn):=by
 obtain⟨f,fd,hm,hb,F⟩:=D.ex
 exact kx he D.cl hm F (hr.mono hk) hb .nil hx ht
theorem DefC.pe(D:DefC X.prog X.w X.K X.mg X.base C k x ps sp)(hr:Room k' X.A)(hk:k+1≤k')(hg:Gl X x)(hx:Passes (CXE X.prog X.w) X E)(ha:PA X (e::es) t)(hdb:(x==("__debug__":Str))=false:=by decide)
  (he:starEach (e::es) X.env=(false,eval e X.env)::starEach es X.env:=by rfl) (hpl:(backTo pos (starEach es X.env)).any (·.1)=false:=by rfl):PE X (.Call (.Name x p) (e::es) [] pos) (yV C sp [] E t):=by
 obtain⟨f,fd,M,hb,F⟩:=D.ex
 exact vB M F (hr.mono hk) hg D.mgC hb .nil hx ha hdb he hpl
end
end L2
set_option Elab.async false
set_option linter.all false
set_option maxRecDepth 100000
namespace Lw
open PySem PySem.Spec PyProof.Rows L2
open Builtin Builtin.Str StrLaws
theorem Qcx:¬ (("plan":Str)="rows"):=by decide+kernel
theorem Qb0:¬ (("plan":Str)="is_closed"):=by decide+kernel
theorem Qb1:¬ (("rows":Str)="is_closed"):=by decide+kernel
structure Fd(fs:List (Str × V))(pp:V)(q:Addr)(b:Bool)(n:Nat):Prop where
 pl:fs.lookup ("plan":Str)=some pp
 rs:fs.lookup ("rows":Str)=some (.ref q)
 cl:fs.lookup ("is_closed":Str)=some (.bl b)
 no:∀m:Str,m≠"plan"→m≠"rows"→m≠"is_closed"→fs.lookup m=none
 ln:fs.length≤n
theorem Fd.mk0(pp:V)(q:Addr):Fd (XQ "is_closed" (.bl false) (XQ "rows" (.ref q) (XQ "plan" pp []))) pp q false 3:=by
 refine⟨?_,?_,?_,fun m h1 h2 h3=>?_,?_⟩
 ·rw[Qy,if_neg Qb0,Qy,if_neg Qcx,Qy,if_pos rfl]
 ·rw[Qy,if_neg Qb1,Qy,if_pos rfl]
 ·rw[Qy,if_pos rfl]
 ·rw[Qy,if_neg h3,Qy,if_neg h2,Qy,if_neg h1]
  rfl
 ·have a:=Jd "is_closed" (.bl false) (XQ "rows" (.ref q) (XQ "plan" pp []))
  have b:=Jd "rows" (.ref q) (XQ "plan" pp [])
  have c:=Jd "plan" pp []
  simp only[List.length_nil]at c
  omega
theorem Fd.close{fs:List (Str × V)}{pp:V}{q:Addr}{b:Bool}{n:Nat}(h:Fd fs pp q b n):Fd (XQ "is_closed" (.bl true) fs) pp q true (n+1):=by
 refine⟨?_,?_,?_,fun m h1 h2 h3=>?_,?_⟩
 ·rw[Qy,if_neg Qb0];exact h.pl
 ·rw[Qy,if_neg Qb1];exact h.rs
 ·rw[Qy,if_pos rfl]
 ·rw[Qy,if_neg h3];exact h.no m h1 h2 h3
 ·have a:=Jd "is_closed" (.bl true) fs
  have:=h.ln
  omega
structure ClsR(K:PySem.W.Frag)(C:Addr):Prop where
 cl:Cls K C
 np:Xt K C "plan"
 nr:Xt K C "rows"
 nc:Xt K C "is_closed"
structure RepAt(C:Addr)(H:Hp)(x:Addr)(pp:V)(q:Addr)(b:Bool)(xs:List V)(n:Nat):Prop where
 ob:∃dx fs,H x=some (.ins C dx fs)∧Fd fs pp q b n
 rs:H q=some (.lst xs)
theorem RepAt.same{C:Addr}{H H':Hp}{x:Addr}{pp:V}{q:Addr}{b:Bool}{xs:List V}{n:Nat}(R:RepAt C H x pp q b xs n)(S:Qg H H'):RepAt C H' x pp q b xs n:=by
 obtain⟨⟨dx,fs,h,F⟩,g⟩:=R
 exact⟨⟨dx,fs,S _ _ h,F⟩,S _ _ g⟩
section
variable {P:Program}{w:World}{K:PySem.W.Frag}{mg:Str→Option Value}{base:Heap}{f:Addr}{fd:FuncData}{tk:Nat→Tok}{c kr:Nat→Addr}{C:Addr}
def xE(C:Addr):Sp:=fun vs H Q _=>∃(x dx:Addr)(pp:V),vs=[.ref x,pp]∧H x=some (.ins C dx [])∧∀(q:Addr)(H':Hp),H q=none→RepAt C H' x pp q false [] 3→(∀b o,H b=some o→b≠x→H' b=some o)→Q .non H'
theorem XL(F:Fun K "__init__" "Report.__init__" JB f fd)(R:ClsR K C):FnOk P w K mg base (CXE P w) 1 f fd ["self","plan"] (xE C):=by
 refine okN F XA (fun vs H Q E h=>?_) (fun cdv A outer s H vs Q E hr h=>?_)
 ·obtain⟨x,dx,pp,rfl,_⟩:=h
  rfl
 ·obtain⟨x,dx,pp,rfl,hx,k⟩:=h
  refine⟨_,(Qe (U1 (pv 0) (pv 1) rfl)
   (Qe (U1 (pv 0) (Js Qb) rfl)
   (Qm (U1 (pv 0) JP rfl)))),?_⟩
  refine⟨_,rfl,_,rfl,x,C,dx,_,rfl,hx,R.cl,R.np,by show 0<1000;decide,?_⟩
  refine⟨by show 0≤sizeLine;exact Nat.zero_le _,fun q hq=>?_⟩
  have nx:x≠q:=fun z=>by rw[←z,Qc]at hq;cases hq
  have hq0:H q=none:=by rw[Qi nx.symm]at hq;exact hq
  have l1:(XQ "plan" pp []).length≤1:=by
   have:=Jd "plan" pp []
   simpa using this
  have l2:=Jd "rows" (.ref q) (XQ "plan" pp [])
  refine⟨_,rfl,x,C,dx,XQ "plan" pp [],rfl,by rw[Qi nx,Qc],R.cl,R.nr,by omega,?_⟩
  refine⟨_,rfl,x,C,dx,XQ "rows" (.ref q) (XQ "plan" pp []),rfl,Qc,R.cl,R.nc,by omega,?_⟩
  refine k q _ hq0 ⟨⟨dx,_,Qc,Fd.mk0 pp q⟩,by rw[Qi nx.symm,Qi nx.symm,Qc]⟩ fun b o e n=>?_
  rw[Qi n,Qi n,Qi (Qr e hq0),Qi n]
  exact e
def VT(C:Addr)(c:Nat→Addr):Sp:=fun vs H Q E=>∃(x:Addr)(pp:V)(q:Addr)(b:Bool)(xs:List V)(n:Nat),vs=[.ref x]∧RepAt C H x pp q b xs n∧((b=false∧Q .non H)∨(b=true∧∀H',Qg H H'→E (.ref (c 14)) none H'))
theorem Z2(F:Fun K "check_open" "Report.check_open" Q1 f fd)(R:ClsR K C)(T:Txt K mg tk c kr):FnOk P w K mg base (CXE P w) 1 f fd ["self"] (VT C c):=by
 refine okE F Z1 (fun vs H Q E h=>?_) (fun cdv A outer s H vs Q E hr h=>?_)
 ·obtain⟨x,pp,q,b,xs,n,rfl,_⟩:=h
  rfl
 ·obtain⟨x,pp,q,b,xs,n,rfl,⟨⟨dx,fs,hx,F1⟩,g⟩,hk⟩:=h
  have fr:=Ud (P:=P) (w:=w) (K:=K) (mg:=mg) (base:=base) (N:=["self"]) (qual:="Report.check_open") (scope:=Qd Q1) (f:=f) (cd:=cdv) (A:=A) (outer:=outer) (s:=s) (H:=H) (E:=E)
  have ht:=Yo fr
  have hz:1000≤sizeLine:=by decide
  refine⟨_,(Qm (Xa (ZQ (Kh (pv 0) rfl) (fun _=>rfl)) (Qm (U8 ht rfl rfl T.m_Closed T.e_Closed (QC Qq Qb))) JA)),?_⟩
  refine⟨_,rfl,x,C,dx,fs,_,rfl,hx,R.cl,R.nc,F1.cl,b,?_⟩
  rcases hk with⟨rfl,k⟩|⟨rfl,k⟩
  ·exact⟨rfl,Jx k⟩
  ·exact⟨rfl,Q3 ⟨by show 1≤sizeLine;omega,k _ (Qg.refl _)⟩⟩
def WE(C:Addr)(c:Nat→Addr):Sp:=fun vs H Q E=>∃(x:Addr)(rv pp:V)(q:Addr)(b:Bool)(xs:List V)(n:Nat)(π:Plan)(d:Wx),vs=[.ref x,rv]∧RepAt C H x pp q b xs n∧Deep H pp (JM π)∧PlanOk π∧Ws H rv d∧UE d∧xs.length<1000∧
 ((xg π d=false∧∀H',Qg H H'→E (.ref (c 13)) none H')∨(xg π d=true∧b=true∧∀H',Qg H H'→E (.ref (c 14)) none H')∨(xg π d=true∧b=false∧∀H1,Qg H H1→Q .non (upd H1 q (.lst (xs++[rv])))))
theorem yI:("check_open":Str)≠"plan"∧("check_open":Str)≠"rows"∧("check_open":Str)≠"is_closed":=by decide+kernel
theorem VU(F:Fun K "put" "Report.put" J2 f fd)(R:ClsR K C)(T:Txt K mg tk c kr)(D_is_row:Def P w K mg base 3 "is_row" ["plan","thing"] qo)(M_Report_check_open:DefM P w K mg base C 1 "check_open" ["self"] (VT C c)):FnOk P w K mg base (CXE P w) 4 f fd ["self","row"] (WE C c):=by
 refine okE F Vx (fun vs H Q E h=>?_) (fun cdv A outer s H vs Q E hr h=>?_)
 ·obtain⟨x,rv,pp,q,b,xs,n,π,d,rfl,_⟩:=h
  rfl
 ·obtain⟨x,rv,pp,q,b,xs,n,π,d,rfl,RA,D,Z,W,hA,hl,hk⟩:=h
  have fr:=Ud (P:=P) (w:=w) (K:=K) (mg:=mg) (base:=base) (N:=["self","row"]) (qual:="Report.put") (scope:=Qd J2) (f:=f) (cd:=cdv) (A:=A) (outer:=outer) (s:=s) (H:=H) (E:=E)
  have ht:=Yo fr
  have hx:=JN fr
  have hz:10000≤sizeLine:=by rw[sizeLine_eq];decide
  refine⟨_,(Qe (Xa (Za (JR (D_is_row.pe hr (by decide) rfl hx (QC (Kh (pv 0) rfl) (QC (pv 1) Qb))))) (Qm (U8 ht rfl rfl T.m_BadRow T.e_BadRow (QC Qq Qb))) JA)
   (Qe (JS (M_Report_check_open.pe0 hr (by decide) hx (pv 0)))
   (Qm (JS (XT PySem.F.plainAttrs_list PySem.F.slot_list_append PySem.F.type_list_append JT (Kh (pv 0) rfl) (QC (pv 1) Qb)))))),?_⟩
  obtain⟨⟨dx,fs,h0,F1⟩,g⟩:=id RA
  refine⟨_,rfl,x,C,dx,fs,_,rfl,h0,R.cl,R.np,F1.pl,_,rfl,pp,rv,π,d,rfl,D,Z,W,hA,fun H1 S1=>⟨_,rfl,?_⟩⟩
  have no:=F1.no _ yI.1 yI.2.1 yI.2.2
  rcases hk with⟨hr0,k⟩|⟨hr0,rfl,k⟩|⟨hr0,rfl,k⟩
  ·rw[hr0]
   exact Q3 ⟨by show 1≤sizeLine;omega,k _ S1⟩
  ·rw[hr0]
   exact Jx ⟨_,rfl,x,dx,fs,rfl,S1 _ _ h0,no,x,pp,q,true,xs,n,rfl,RA.same S1,.inr ⟨rfl,fun H2 S2=>k _ (S1.trans S2)⟩⟩
  ·rw[hr0]
   refine Jx ⟨_,rfl,x,dx,fs,rfl,S1 _ _ h0,no,x,pp,q,false,xs,n,rfl,RA.same S1,.inl ⟨rfl,?_⟩⟩
   exact⟨_,rfl,x,C,dx,fs,_,rfl,S1 _ _ h0,R.cl,R.nr,F1.rs,.inl ⟨rfl,_,.inl (.inl (S1 _ _ g))⟩,_,rfl,q,xs,rv,rfl,rfl,S1 _ _ g,by omega,k _ S1⟩
def Xm(C:Addr)(c:Nat→Addr):Sp:=fun vs H Q E=>∃(x:Addr)(pp:V)(q:Addr)(b:Bool)(xs:List V)(n:Nat)(π:Plan)(rows:List (List Cell)),vs=[.ref x]∧RepAt C H x pp q b xs n∧n≤100∧Deep H pp (JM π)∧PlanOk π∧π.keys.length≤10∧Deeps H xs (rows.map Xn)∧(∀r∈rows,RowOk π r)∧rows.length≤20∧
 ((b=true∧∀H',Qg H H'→E (.ref (c 14)) none H')∨(b=false∧∀(u:V)(H1:Hp)(dx:Addr)(fs:List (Str × V)),Qg H H1→Deep H1 u (.tup (ZX π (Zw π rows)))→Fd fs pp q true (n+1)→Q u (upd H1 x (.ins C dx fs))))
theorem WF(F:Fun K "close" "Report.close" JE f fd)(R:ClsR K C)(OT:mg "tuple"=none)(D_report:Def P w K mg base 8 "report" ["plan","rows"] KK)(M_Report_check_open:DefM P w K mg base C 1 "check_open" ["self"] (VT C c)):FnOk P w K mg base (CXE P w) 9 f fd ["self"] (Xm C c):=by
 refine okE F ZG (fun vs H Q E h=>?_) (fun cdv A outer s H vs Q E hr h=>?_)
 ·obtain⟨x,pp,q,b,xs,n,π,rows,rfl,_⟩:=h
  rfl
 ·obtain⟨x,pp,q,b,xs,n,π,rows,rfl,RA,hn,D,Z,hk10,tr,Y,hl,hk⟩:=h
  have fr:=Ud (P:=P) (w:=w) (K:=K) (mg:=mg) (base:=base) (N:=["self","pages"]) (qual:="Report.close") (scope:=Qd JE) (f:=f) (cd:=cdv) (A:=A) (outer:=outer) (s:=s) (H:=H) (E:=E)
  have hx:=JN fr
  have hz:10000≤sizeLine:=by rw[sizeLine_eq];decide
  refine⟨_,(Qe (JS (M_Report_check_open.pe0 hr (by decide) hx (pv 0)))
   (Qe (Qu (i:=1) ZG.nd rfl (Or.inl rfl) (D_report.pe hr (by decide) rfl hx (QC (Kh (pv 0) rfl) (QC (QH Qw rfl OT PyProof.Rows.boot_tuple (QC (Kh (pv 0) rfl) Qb)) Qb))))
   (Qe (U1 (pv 0) JP rfl)
   (Qm (QD (pv 1)))))),?_⟩
  obtain⟨⟨dx,fs,h0,F1⟩,g⟩:=id RA
  have no:=F1.no _ yI.1 yI.2.1 yI.2.2
  have lf:=F1.ln
  refine⟨_,rfl,x,dx,fs,rfl,h0,no,x,pp,q,b,xs,n,rfl,RA,?_⟩
  rcases hk with⟨rfl,k⟩|⟨rfl,k⟩
  ·exact .inr ⟨rfl,k⟩
  refine .inl ⟨rfl,?_⟩
  refine⟨_,rfl,x,C,dx,fs,_,rfl,h0,R.cl,R.np,F1.pl,_,rfl,x,C,dx,fs,_,rfl,h0,R.cl,R.nr,F1.rs,q,xs,rfl,.inl ⟨.inl (.inl g),fun l hl0=>?_⟩⟩
  have S1:=Qg.new (o:=.tup xs) hl0
  refine⟨pp,.ref l,π,rows,rfl,D.same S1,Z,hk10,Jc tr hl0,Y,hl,fun u H2 S2 D2=>?_⟩
  have S12:=S1.trans S2
  refine⟨_,rfl,x,C,dx,fs,rfl,S12 _ _ h0,R.cl,R.nc,by omega,?_⟩
  exact⟨_,rfl,k u H2 dx _ S12 D2 F1.close⟩
def xF(C:Addr):Sp:=fun vs H Q _=>∃(x:Addr)(pp:V)(q:Addr)(b:Bool)(xs:List V)(n:Nat),vs=[.ref x]∧RepAt C H x pp q b xs n∧Q (.int (xs.length:Nat)) H
theorem Ka(F:Fun K "__len__" "Report.__len__" JH f fd)(R:ClsR K C)(O:Own mg):FnOk P w K mg base (CXE P w) 1 f fd ["self"] (xF C):=by
 refine okN F X3 (fun vs H Q E h=>?_) (fun cdv A outer s H vs Q E hr h=>?_)
 ·obtain⟨x,pp,q,b,xs,n,rfl,_⟩:=h
  rfl
 ·obtain⟨x,pp,q,b,xs,n,rfl,⟨⟨dx,fs,h0,F1⟩,g⟩,k⟩:=h
  refine⟨_,(Qm (QD (Qh Qp rfl O.len PySem.boot_len (QC (Kh (pv 0) rfl) Qb)))),?_⟩
  exact⟨_,rfl,x,C,dx,fs,_,rfl,h0,R.cl,R.nr,F1.rs,q,xs,rfl,.inl (.inl (.inl g)),k⟩
end
end Lw
set_option Elab.async false
set_option linter.all false
set_option maxRecDepth 100000
namespace Lw
open PySem PySem.Spec PyProof.Rows L2
open Builtin Builtin.Str StrLaws
section
variable {P:Program}{w:World}{K:PySem.W.Frag}{mg:Str→Option Value}{base:Heap}{f:Addr}{fd:FuncData}{tk:Nat→Tok}{c kr:Nat→Addr}{C:Addr}
def UU:Sp:=fun vs H Q _=>∃(v:V)(R:Addr)(xs:List V)(π:Plan)(rows:List (List Cell)),vs=[v,.ref R]∧Deep H v (JM π)∧PlanOk π∧H R=some (.lst xs)∧Deeps H xs (rows.map Xn)∧(∀r∈rows,RowOk π r)∧rows.length≤40∧∀u H',Qg H H'→Deep H' u (Jo (total π rows))→Q u H'
theorem UV(F:Fun K "sums_of" "sums_of" XB f fd)(D_no_sums:Def P w K mg base 1 "no_sums" ["plan"] js)(D_with_row:Def P w K mg base 5 "with_row" ["plan","amounts","row"] (Ve K)):FnOk P w K mg base (CXE P w) 6 f fd ["plan","rows"] UU:=by
 refine okN F Jq (fun vs H Q E h=>?_) (fun cdv A outer s H vs Q E hr h=>?_)
 ·obtain⟨v,R,xs,π,rows,rfl,_⟩:=h
  rfl
 ·obtain⟨v,R,xs,π,rows,rfl,D,Z,gr,tr,Y,hl,k⟩:=h
  have z2:=Z.lu
  have z3:π.keys.length+π.sums.length=(π.keys++π.sums).length:=(List.length_append ..).symm
  refine⟨_,(Qe (Qu (i:=2) Jq.nd rfl (Or.inl rfl) (D_no_sums.pe hr (by decide) rfl Qn (Qa (pv 0) Qb)))
   (Qe (Xq PassesOwn.never rfl (XR (pv 1)) (Qj (i:=3) Jq.nd rfl (Or.inl rfl)) (Qm (Qu (i:=2) Jq.nd rfl (Or.inl rfl) (D_with_row.pe hr (by decide) rfl Qn (Qa (pv 0) (Qa (pv 2) (Qa (pv 3) Qb)))))))
   (Qm (QD (pv 2))))),?_⟩
  have lx:=tr.length
  rw[List.length_map]at lx
  refine⟨_,rfl,v,π,rfl,D,by omega,fun u0 H1 S1 D1=>?_⟩
  dsimp only[QL,JI,Zj,QK]
  refine⟨_,rfl,R,rfl,⟨_,.inl (.inl (S1 _ _ gr))⟩,?_⟩
  refine Zm (yG (K:=K) (a:=R) (xs:=xs)) (fun i σ H2=>∃u x,σ=[some v,some (.ref R),some u,x]∧Qg H H2∧Deep H2 u (Jo (total π (rows.take i)))) ⟨u0,none,rfl,S1,D1⟩ ?_ ?_ ?_
  ·rintro i σ H2 _ ⟨u,x,rfl,S,_⟩
   exact .inl (.inl (S _ _ gr))
  ·rintro i x σ H2 H3 hi ⟨u,x0,rfl,S,DU⟩ ⟨rfl,hx⟩
   obtain⟨r,hr2,dr⟩:=Zs tr hx
   have hrm:=List.mem_of_getElem? hr2
   refine⟨_,rfl,_,rfl,_,rfl,v,u,x,π,total π (rows.take i),r,(rows.take i).length,rfl,D.same S,Z,DU,Ww _ _,VI Z _ (fun q hq=>Y q (List.mem_of_mem_take hq)),by rw[List.length_take];omega,dr.same S,Y r hrm,fun u2 H4 S4 D4=>?_⟩
   refine⟨u2,_,rfl,S.trans S4,?_⟩
   rw[List.take_add_one,hr2]
   show Deep H4 u2 (Jo (total π (rows.take i++[r])))
   rw[X9]
   exact D4
  ·rintro σ H2 ⟨u,x,rfl,S,DU⟩
   rw[List.take_of_length_le (by omega)]at DU
   exact⟨_,rfl,k _ _ S DU⟩
def UW(C:Addr):Sp:=fun vs H Q _=>∃(x:Addr)(pp:V)(q:Addr)(b:Bool)(xs:List V)(n:Nat)(π:Plan)(rows:List (List Cell)),vs=[.ref x]∧RepAt C H x pp q b xs n∧Deep H pp (JM π)∧PlanOk π∧Deeps H xs (rows.map Xn)∧(∀r∈rows,RowOk π r)∧rows.length≤40∧∀u H',Qg H H'→Deep H' u (Jo (total π rows))→Q u H'
theorem Kv(F:Fun K "so_far" "Report.so_far" JU f fd)(R:ClsR K C)(D_sums_of:Def P w K mg base 6 "sums_of" ["plan","rows"] UU):FnOk P w K mg base (CXE P w) 7 f fd ["self"] (UW C):=by
 refine okN F Kq (fun vs H Q E h=>?_) (fun cdv A outer s H vs Q E hr h=>?_)
 ·obtain⟨x,pp,q,b,xs,n,π,rows,rfl,_⟩:=h
  rfl
 ·obtain⟨x,pp,q,b,xs,n,π,rows,rfl,⟨⟨dx,fs,h0,F1⟩,g⟩,D,Z,t,Y,hl,k⟩:=h
  refine⟨_,(Qm (QD (D_sums_of.pe hr (by decide) rfl Qn (QC (Kh (pv 0) rfl) (QC (Kh (pv 0) rfl) Qb))))),?_⟩
  exact⟨_,rfl,x,C,dx,fs,_,rfl,h0,R.cl,R.np,F1.pl,_,rfl,x,C,dx,fs,_,rfl,h0,R.cl,R.nr,F1.rs,pp,q,xs,π,rows,rfl,D,Z,g,t,Y,hl,k⟩
end
end Lw
set_option Elab.async false
set_option linter.all false
set_option maxRecDepth 100000
namespace L2
open PySem PySem.Spec PyProof.Rows
open Builtin in
theorem wv{prog:Program}{w:World}{A:Around}{E:Value→Shared→Prop}{s:Shared}{K:PySem.W.Frag}{x C f:Addr}{ox:Obj}{od:Option Obj}{Q:Value→Shared→Prop}(X:K.In s.heap)(I:PySem.W.InstAt s.heap x ox C od)(hs:PySem.W.findIn K (.ref C) "__len__"=some (some (.ref f)))(hf:PySem.W.isFn K (.ref f)=true)
  (hcall:wpAny (model prog w) A.in1 (call (.ref f) [.ref x]) (fun r s'=>∃n u,r=.int n u∧0≤n∧n<2^63∧Q (.int n s'.toks) {s' with toks:=s'.toks+1}) E s):
  wpAny (model prog w) A (call (.builtin "len") [.ref x]) Q E s:=by
 refine Calls.call_function_entry kind_len plain_len entry_len (args_len1 _) ?_
 unfold Builtin.«len»
 refine wpAny_bind (m:=oneArg "len" _) (wpAny_pure ?_)
 refine wpAny_bind (m:=callSpecial? (.ref x) (Str.ofString "__len__")) (PySem.W.special_fn X I hs (beq_iff_eq.mp hf) (wpAny_mono hcall (fun r s' hr=>?_) fun _ _ y=>y))
 obtain⟨n,u,rfl,h0,h1,hq⟩:=hr
 refine wpAny_bind (wpAny_holding (wpAny_pure ?_))
 refine wpAny_bind (wpAny_letGo ?_)
 show wpAny _ _ (if n<0 then _ else _) _ _ _
 rw[if_neg (by omega)]
 show wpAny _ _ (if n≥2^63 then _ else _) _ _ _
 rw[if_neg (by omega)]
 exact wpAny_bind (wpAny_mkInt (wpAny_pure ⟨_,rfl,hq⟩))
section
variable {X:Cx}{E:XK}{o:Expr}{ta:TE}{k k':Nat}{ps:List Str}{sp:Sp}{C:Addr}{p pos:Pos}
def QbL(C:Addr)(sp:Sp)(E:XK):List V→Hp→VK→Prop:=fun xs H Q=>∃a dx fs,xs=[.ref a]∧H a=some (.ins C dx fs)∧sp [.ref a] H (fun v H2=>∃n:Nat,v=.int (n:Nat)∧(n:Int)<2^62∧Q v H2) E
theorem xG(D:DefM X.prog X.w X.K X.mg X.base C k "__len__" ps sp)(hr:Room k' X.A)(hk:k+1≤k')(hx:Passes (CXE X.prog X.w) X E):Xb X (.builtin "len") (QbL C sp E):=by
 intro pins s σ H xs us Q I rv h
 obtain⟨a,dx,fs,rfl,e,h⟩:=h
 obtain⟨u,rfl,ru⟩:=vals1 rv
 obtain rfl:u=Value.ref a:=ru
 obtain⟨f,fd,hm,hb,F⟩:=D.ex
 obtain⟨mA,O,_,_,_,_⟩:=KS I.hok e
 obtain⟨od,_,_,hod,_⟩:=O.ns
 have IA:PySem.W.InstAt s.heap a (PySem.W.instObj C dx) C (some od):=⟨O.obj,rfl,rfl,hod⟩
 refine wv I.kIn IA hm.at_ hm.fn ?_
 have r2:Vals ([V.ref a]:List V) [Value.ref a]:=.cons rfl .nil
 have hl:([Value.ref a]++[]:List Value).length=ps.length:=by
  have:=F.len _ _ _ _ h
  simpa using this
 refine wpAny_call (codeAny_mono (F.run X.A.in1 X.stack s H ⟨[Value.ref a],[]⟩ ([Value.ref a]++[]) [V.ref a] _ E (hr.mono hk).in1 I.QaZ.in1 (hb s [Value.ref a] I.kIn hl) r2 h) fun r s' hq=>?_)
 cases r with
 |error e=>exact hx pins σ H s e s' I hq
 |ok fl=>
  cases fl with
  |ret u=>
   obtain⟨v,H',I',rv',n,rfl,hn,q⟩:=I.after hq
   obtain⟨t,rfl⟩:=(show ∃t,u=Value.int ((n:Nat):Int) t from rv')
   exact⟨(n:Int),t,rfl,by omega,by omega,.int (n:Nat),H',I'.tok _,⟨_,rfl⟩,q⟩
  |next=>exact False.elim hq
  |brk=>exact False.elim hq
  |cont=>exact False.elim hq
end
end L2
set_option Elab.async false
set_option linter.all false
set_option maxRecDepth 100000
namespace Lw
open PySem PySem.Spec PyProof.Rows L2
open Builtin Builtin.Str StrLaws
structure Kind(K:PySem.W.Frag)(c:Nat→Addr)(i:Nat):Prop where
 lo:1≤i
 hi:i≤14
 er:ErrK K (c i)
 ki:∀j,j<14→PySem.W.kitOne K (.ref (c i)) (.ref (c (j+1)))=some (decide (j+1=i))
 va:PySem.W.kitOne K (.ref (c i)) (.type "ValueError")=some true
 bo:PySem.W.exmOne K (.ref (c i)) (.ref (c 0))=some true
def ww(i:Nat):Str:=(["no picture","no room","no quotient","no text","no figures","no letters","no move","no path","no amount","no group","bad size","no back","bad row","closed"]:List Str).getD (i-1) ""
def kinds(i:Nat):List V:=[.bl (decide (0+1=i)),.bl (decide (1+1=i)),.bl (decide (2+1=i)),.bl (decide (3+1=i)),.bl (decide (4+1=i)),.bl (decide (5+1=i)),.bl (decide (6+1=i)),.bl (decide (7+1=i)),.bl (decide (8+1=i)),.bl (decide (9+1=i)),.bl (decide (10+1=i)),.bl (decide (11+1=i)),.bl (decide (12+1=i)),.bl (decide (13+1=i))]
theorem UX:∀i,i<15→1≤i→(kinds i).countP (fun z=>eqV z (.bl true))=1:=by decide
theorem wx:∀i,i<15→1≤i→(kinds i)[i-1]? =some (.bl true):=by decide
theorem wy:∀i,i<15→1≤i→∀j,j<i-1→(kinds i)[j]? =some (.bl false):=by decide
theorem Vf(i:Nat):(kinds i).all ZB=true:=rfl
def nms:List V:=[.str "no picture",.str "no room",.str "no quotient",.str "no text",.str "no figures",.str "no letters",.str "no move",.str "no path",.str "no amount",.str "no group",.str "bad size",.str "no back",.str "bad row",.str "closed"]
theorem QaJ:∀i,i<15→1≤i→nms[i-1]? =some (.str (ww i)):=by decide
def WG(K:PySem.W.Frag)(c:Nat→Addr):Sp:=fun vs H Q _=>∃(a:Addr)(i:Nat),vs=[.ref a]∧H a=some (x5 a (.ref (c i)))∧Kind K c i∧∀H',Qg H H'→Q (.str (ww i)) H'
section
variable {P:Program}{w:World}{K:PySem.W.Frag}{mg:Str→Option Value}{base:Heap}{f:Addr}{fd:FuncData}{tk:Nat→Tok}{c kr:Nat→Addr}
set_option maxHeartbeats 8000000 in
theorem VW(F:Fun K "_law_class" "_law_class" ZJ f fd)(O:Own mg)(T:Txt K mg tk c kr):FnOk P w K mg base (CXE P w) 1 f fd ["_law_kept"] (WG K c):=by
 refine okN F Q2 (fun vs H Q E h=>?_) (fun cdv A outer s H vs Q E hr h=>?_)
 ·obtain⟨a,i,rfl,_⟩:=h
  rfl
 ·obtain⟨a,i,rfl,hH,G,k⟩:=h
  have isi:∀(H1:Hp)(j:Nat),Qg H H1→j<14→(∃t,TyOf K H1 (.ref a) t∧PySem.W.kitOne K t (Qam (.ref (c (j+1))))=some (decide (j+1=i)))∨∃b C,V.ref a=.ref b∧H1 b=some (x5 b (.ref C))∧ErrK K C∧PySem.W.kitOne K (.ref C) (Qam (.ref (c (j+1))))=some (decide (j+1=i)):=
   fun H1 j e hj=>.inr ⟨a,c i,rfl,e _ _ hH,G.er,G.ki j hj⟩
  refine⟨_,(Qe (Qu (i:=1) Q2.nd rfl (Or.inl rfl) (Js (Qa (Qh Qx rfl O.isi PyProof.Rows.boot_isinstance (Qa (pv 0) (Qa (QW (v:=V.ref (c 1)) rfl T.m_NoPicture rfl) Qb))) (Qa (Qh Qx rfl O.isi PyProof.Rows.boot_isinstance (Qa (pv 0) (Qa (QW (v:=V.ref (c 2)) rfl T.m_NoRoom rfl) Qb))) (Qa (Qh Qx rfl O.isi PyProof.Rows.boot_isinstance (Qa (pv 0) (Qa (QW (v:=V.ref (c 3)) rfl T.m_NoQuotient rfl) Qb))) Qb)))))
   (Qe (Qu (i:=1) Q2.nd rfl (Or.inl rfl) (QA Xu (pv 1) (Js (Qa (Qh Qx rfl O.isi PyProof.Rows.boot_isinstance (Qa (pv 0) (Qa (QW (v:=V.ref (c 4)) rfl T.m_NoText rfl) Qb))) (Qa (Qh Qx rfl O.isi PyProof.Rows.boot_isinstance (Qa (pv 0) (Qa (QW (v:=V.ref (c 5)) rfl T.m_NoFigures rfl) Qb))) (Qa (Qh Qx rfl O.isi PyProof.Rows.boot_isinstance (Qa (pv 0) (Qa (QW (v:=V.ref (c 6)) rfl T.m_NoLetters rfl) Qb))) Qb))))))
   (Qe (Qu (i:=1) Q2.nd rfl (Or.inl rfl) (QA Xu (pv 1) (Js (Qa (Qh Qx rfl O.isi PyProof.Rows.boot_isinstance (Qa (pv 0) (Qa (QW (v:=V.ref (c 7)) rfl T.m_NoMove rfl) Qb))) (Qa (Qh Qx rfl O.isi PyProof.Rows.boot_isinstance (Qa (pv 0) (Qa (QW (v:=V.ref (c 8)) rfl T.m_NoPath rfl) Qb))) (Qa (Qh Qx rfl O.isi PyProof.Rows.boot_isinstance (Qa (pv 0) (Qa (QW (v:=V.ref (c 9)) rfl T.m_NoAmount rfl) Qb))) Qb))))))
   (Qe (Qu (i:=1) Q2.nd rfl (Or.inl rfl) (QA Xu (pv 1) (Js (Qa (Qh Qx rfl O.isi PyProof.Rows.boot_isinstance (Qa (pv 0) (Qa (QW (v:=V.ref (c 10)) rfl T.m_NoGroup rfl) Qb))) (Qa (Qh Qx rfl O.isi PyProof.Rows.boot_isinstance (Qa (pv 0) (Qa (QW (v:=V.ref (c 11)) rfl T.m_BadSize rfl) Qb))) (Qa (Qh Qx rfl O.isi PyProof.Rows.boot_isinstance (Qa (pv 0) (Qa (QW (v:=V.ref (c 12)) rfl T.m_NoBack rfl) Qb))) Qb))))))
   (Qe (Qu (i:=1) Q2.nd rfl (Or.inl rfl) (QA Xu (pv 1) (Js (Qa (Qh Qx rfl O.isi PyProof.Rows.boot_isinstance (Qa (pv 0) (Qa (QW (v:=V.ref (c 13)) rfl T.m_BadRow rfl) Qb))) (Qa (Qh Qx rfl O.isi PyProof.Rows.boot_isinstance (Qa (pv 0) (Qa (QW (v:=V.ref (c 14)) rfl T.m_Closed rfl) Qb))) Qb)))))
   (Qe (Xa (PW.pt (Km (QB Y4 (XT PySem.F.plainAttrs_list PySem.F.slot_list_count PySem.F.type_list_count kJ (pv 1) (Qa JP Qb)) Qf (Qz _)) (Z3 (Za (JR (Qh Qx rfl O.isi PyProof.Rows.boot_isinstance (Qa (pv 0) (Qa (JQ (v:=V.ty "ValueError") rfl O.val PyProof.Rows.Boot.«ValueError» rfl) Qb)))))))) (Qm (QD Qq)) JA)
   (Qe (Qu (i:=2) Q2.nd rfl (Or.inl rfl) (Js (Qa Qq (Qa Qq (Qa Qq (Qa Qq (Qa Qq (Qa Qq (Qa Qq (Qa Qq Qb))))))))))
   (Qm (QD (QT Y7 (QA Xu (pv 2) (Js (Qa Qq (Qa Qq (Qa Qq (Qa Qq (Qa Qq (Qa Qq Qb)))))))) (XT PySem.F.plainAttrs_list PySem.F.slot_list_index PySem.F.type_list_index kK (pv 1) (Qa JP Qb)) (fun _ _=>rfl))))))))))),?_⟩
  have e0:=Qg.refl H
  refine⟨_,rfl,_,_,_,rfl,rfl,isi _ 0 e0 (by decide),_,rfl,_,_,_,rfl,rfl,isi _ 1 e0 (by decide),_,rfl,_,_,_,rfl,rfl,isi _ 2 e0 (by decide),by show 3≤sizeLine;decide,fun p1 h1=>?_⟩
  generalize hG:upd H p1 _=H1
  have e1:Qg H H1:=by rw[←hG];exact Qg.new h1
  have g1:H1 p1=some (.lst [.bl (decide (0+1=i)),.bl (decide (1+1=i)),.bl (decide (2+1=i))]):=by rw[←hG];exact Qc
  clear hG h1
  refine⟨_,rfl,_,rfl,_,_,_,rfl,rfl,isi _ 3 e1 (by decide),_,rfl,_,_,_,rfl,rfl,isi _ 4 e1 (by decide),_,rfl,_,_,_,rfl,rfl,isi _ 5 e1 (by decide),by show 3≤sizeLine;decide,fun q2 h2=>⟨p1,q2,_,_,rfl,rfl,by rw[Qi (Qr g1 h2)];exact g1,Qc,by show 6≤sizeLine;decide,fun p2 h3=>?_⟩⟩
  generalize hG:upd (upd H1 q2 _) p2 _=H2
  have e2:Qg H H2:=by rw[←hG];exact(e1.trans (Qg.new h2)).trans (Qg.new h3)
  have g2:H2 p2=some (.lst [.bl (decide (0+1=i)),.bl (decide (1+1=i)),.bl (decide (2+1=i)),.bl (decide (3+1=i)),.bl (decide (4+1=i)),.bl (decide (5+1=i))]):=by rw[←hG];exact Qc
  clear hG h2 h3
  refine⟨_,rfl,_,rfl,_,_,_,rfl,rfl,isi _ 6 e2 (by decide),_,rfl,_,_,_,rfl,rfl,isi _ 7 e2 (by decide),_,rfl,_,_,_,rfl,rfl,isi _ 8 e2 (by decide),by show 3≤sizeLine;decide,fun q3 h2=>⟨p2,q3,_,_,rfl,rfl,by rw[Qi (Qr g2 h2)];exact g2,Qc,by show 9≤sizeLine;decide,fun p3 h3=>?_⟩⟩
  generalize hG:upd (upd H2 q3 _) p3 _=H3
  have e3:Qg H H3:=by rw[←hG];exact(e2.trans (Qg.new h2)).trans (Qg.new h3)
  have g3:H3 p3=some (.lst [.bl (decide (0+1=i)),.bl (decide (1+1=i)),.bl (decide (2+1=i)),.bl (decide (3+1=i)),.bl (decide (4+1=i)),.bl (decide (5+1=i)),.bl (decide (6+1=i)),.bl (decide (7+1=i)),.bl (decide (8+1=i))]):=by rw[←hG];exact Qc
  clear hG h2 h3
  refine⟨_,rfl,_,rfl,_,_,_,rfl,rfl,isi _ 9 e3 (by decide),_,rfl,_,_,_,rfl,rfl,isi _ 10 e3 (by decide),_,rfl,_,_,_,rfl,rfl,isi _ 11 e3 (by decide),by show 3≤sizeLine;decide,fun q4 h2=>⟨p3,q4,_,_,rfl,rfl,by rw[Qi (Qr g3 h2)];exact g3,Qc,by show 12≤sizeLine;decide,fun p4 h3=>?_⟩⟩
  generalize hG:upd (upd H3 q4 _) p4 _=H4
  have e4:Qg H H4:=by rw[←hG];exact(e3.trans (Qg.new h2)).trans (Qg.new h3)
  have g4:H4 p4=some (.lst [.bl (decide (0+1=i)),.bl (decide (1+1=i)),.bl (decide (2+1=i)),.bl (decide (3+1=i)),.bl (decide (4+1=i)),.bl (decide (5+1=i)),.bl (decide (6+1=i)),.bl (decide (7+1=i)),.bl (decide (8+1=i)),.bl (decide (9+1=i)),.bl (decide (10+1=i)),.bl (decide (11+1=i))]):=by rw[←hG];exact Qc
  clear hG h2 h3
  refine⟨_,rfl,_,rfl,_,_,_,rfl,rfl,isi _ 12 e4 (by decide),_,rfl,_,_,_,rfl,rfl,isi _ 13 e4 (by decide),by show 2≤sizeLine;decide,fun q5 h2=>⟨p4,q5,_,_,rfl,rfl,by rw[Qi (Qr g4 h2)];exact g4,Qc,by show 14≤sizeLine;decide,fun p5 h3=>?_⟩⟩
  generalize hG:upd (upd H4 q5 _) p5 _=H5
  have e5:Qg H H5:=by rw[←hG];exact(e4.trans (Qg.new h2)).trans (Qg.new h3)
  have g5:H5 p5=some (.lst [.bl (decide (0+1=i)),.bl (decide (1+1=i)),.bl (decide (2+1=i)),.bl (decide (3+1=i)),.bl (decide (4+1=i)),.bl (decide (5+1=i)),.bl (decide (6+1=i)),.bl (decide (7+1=i)),.bl (decide (8+1=i)),.bl (decide (9+1=i)),.bl (decide (10+1=i)),.bl (decide (11+1=i)),.bl (decide (12+1=i)),.bl (decide (13+1=i))]):=by rw[←hG];exact Qc
  clear hG h2 h3
  have hi:i<15:=by have:=G.hi;omega
  have g6:H5 p5=some (.lst (kinds i)):=g5
  clear g5
  have ty5:∀H':Hp,H' p5=some (.lst (kinds i))→tyV K "list" (V.ref p5) H':=fun H' g=>.inl ⟨rfl,_,.inl (.inl g)⟩
  refine⟨_,rfl,ty5 _ g6,p5,kinds i,_,rfl,rfl,g6,rfl,Vf i,?_⟩
  rw[UX i hi G.lo]
  refine⟨rfl,_,rfl,?_⟩
  refine ifB (fun z=>absurd z (by decide)) (fun _=>?_)
  refine⟨_,rfl,_,_,_,rfl,rfl,.inr ⟨a,c i,rfl,e5 _ _ hH,G.er,G.va⟩,_,rfl,?_⟩
  refine ifB (fun z=>absurd z (by decide)) (fun _=>?_)
  refine⟨by show 8≤sizeLine;decide,fun p6 h6=>?_⟩
  generalize hG:upd H5 p6 _=H6
  have e6:Qg H H6:=by rw[←hG];exact e5.trans (Qg.new h6)
  have k6:H6 p5=some (.lst (kinds i)):=by rw[←hG,Qi (Qr g6 h6)];exact g6
  have g7:H6 p6=some (.lst [.str "no picture",.str "no room",.str "no quotient",.str "no text",.str "no figures",.str "no letters",.str "no move",.str "no path"]):=by rw[←hG];exact Qc
  clear hG h6 g6
  refine⟨_,rfl,by show 6≤sizeLine;decide,fun q6 h7=>⟨p6,q6,_,_,rfl,rfl,by rw[Qi (Qr g7 h7)];exact g7,Qc,by show 14≤sizeLine;decide,fun p7 h8=>?_⟩⟩
  generalize hG:upd (upd H6 q6 _) p7 _=H7
  have e7:Qg H H7:=by rw[←hG];exact(e6.trans (Qg.new h7)).trans (Qg.new h8)
  have k7:H7 p5=some (.lst (kinds i)):=by
   have z:Qg H6 H7:=by rw[←hG];exact(Qg.new h7).trans (Qg.new h8)
   exact z _ _ k6
  have g8:H7 p7=some (.lst nms):=by rw[←hG];exact Qc
  clear hG h7 h8
  refine⟨_,rfl,ty5 _ k7,p5,kinds i,_,i-1,rfl,rfl,k7,rfl,Vf i,⟨_,wx i hi G.lo,rfl⟩,fun j z hj hz=>?_,p7,nms,_,.str (ww i),rfl,rfl,.inl (.inl g8),Q9 (QaJ i hi G.lo),k _ e7⟩
  rw[wy i hi G.lo j hj]at hz
  cases hz
  rfl
end
def tHd(K:PySem.W.Frag)(c:Nat→Addr)(te:XK→TE):L2.St→Hp→VK→Prop:=fun σ H1 Q=>∀H0,Qg H1 H0→
 te (fun cls _ H2=>∃i,cls=.ref (c i)∧Kind K c i∧∀a p H3,H2 a=none→Qg (upd H2 a (x5 a cls)) H3→H3 p=none→Q (.ref p) (upd H3 p (.tup [.str (ww i)]))) σ H0
  (fun v H2=>∀p,H2 p=none→Q (.ref p) (upd H2 p (.tup [.str "told",v])))
theorem xH{P:Program}{w:World}{X:Cx}:Passes (CXE P w) X E00:=fun _ _ _ _ _ _ _⟨_,_,_,_,_,_,_,_,_,_,_,_,_,_,h⟩=>False.elim h
theorem jB{P:Program}{w:World}{K:PySem.W.Frag}{mg:Str→Option Value}{base:Heap}{k:Nat}{fa:Addr}{q:Str}{params:Arguments}{body:Expr}{scope:Scope}{tk:Nat→Tok}{c kr:Nat→Addr}{te:XK→TE}{A:Around}{outer:List Env}{cdv:Value}{N:List Str}{σ:L2.St}{f c':Addr}{cl:List (Str × Addr)}{pm ctv:Value}{s1:Shared}{H1:Hp}{Q:VK}
  (T:Txt K mg tk c kr) (D__law_class:Def P w K mg base 1 "_law_class" ["_law_kept"] (WG K c))
  (LA:LamAt (Vk (CXE P w) P w K mg base ["_law_deed","_law_kept","_law_found","e"] "_law_heard" (Qd QZ) fa cdv A outer s1 H1 E00) N σ q params body scope f c' cl pm ctv)
  (hlo:∀x c,cl.lookup x=some c→c<s1.heap.objs.size) (hr1:Room (k+1) (A.deeper (envOfC "_law_heard" (Qd QZ) s1.heap.objs.size fa cdv)))
  (hlam:∀(f c':Addr)(cl:List (Str × Addr))(A:Around)(outer:List Env)(s:Shared)(H:Hp)(E:XK),Room k (A.deeper (PySem.W.envX q scope s.heap.objs.size f (.ref c') cl))→PE (qU P w K mg base N q scope f c' cl A outer s H E) body (te E))
  (hmono:∀(σ:L2.St)(H:Hp)(Q Q':VK)(E E':XK),(∀cls x H,E cls x H→E' cls x H)→(∀v H,Q v H→Q' v H)→te E σ H Q→te E' σ H Q')
  (hcd:H1 c'=some (Xe c' q)) (h:tHd K c te σ H1 Q):
  ∃t,PSs (Vk (CXE P w) P w K mg base ["_law_deed","_law_kept","_law_found","e"] "_law_heard" (Qd QZ) fa cdv A outer s1 H1 E00) (QM QZ) t∧t {nx:=fun _ H'=>Q .non H',rt:=Q} (start ["_law_deed","_law_kept","_law_found","e"] [.ref f]) H1:=by
 refine⟨_,(Qe (Zb (Qv (Qa WW (Qa WW Qb))) (Jy rfl (Qk (Qj (i:=1) Jk.nd rfl (Or.inl rfl)) (Qk (Qj (i:=2) Jk.nd rfl (Or.inl rfl)) QX))))
   (Qe (Qai (i:=3) (tb:=fun E=>_) rfl rfl rfl rfl rfl T.m_BoxError Jk.nd rfl rfl (fun E pn xe hx=>Qm (Qu (i:=2) Jk.nd rfl (Or.inl rfl) (vK (i:=0) (te:=te E) LA.alt rfl rfl rfl (Or.inl rfl) hr1 hx hlo (fun s H hr2=>hlam f c' cl _ _ s H E hr2)))) (fun v=>Qm (Qu (i:=1) Jk.nd rfl (Or.inl rfl) (pv 3))))
   (Qm (QD (J0 (yO (yN (pv 1))) (Qv (Qa Qq (Qa (pv 2) Qb))) (Qv (Qa (D__law_class.pe hr1 (Nat.succ_le_succ (Nat.zero_le k)) rfl xH (Qa (pv 1) Qb)) Qb))))))),?_⟩
 refine⟨by show 2≤sizeLine;decide,fun p0 h0=>⟨p0,_,rfl,SqT.of Qc,rfl,_,_,rfl,_,_,rfl,rfl,?_⟩⟩
 have S0:=Qg.new (o:=.tup [.non,.non]) h0
 refine⟨rfl,S0 _ _ hcd,hmono σ _ _ _ _ _ (fun cls x H2 hE=>?_) (fun v H2 hQ=>?_) (h _ S0)⟩
 ·obtain⟨i,rfl,G,hE⟩:=hE
  refine⟨G.bo,fun a ha=>⟨_,rfl,?_⟩⟩
  refine⟨_,rfl,_,rfl,?_⟩
  refine ifB (fun z=>nomatch (of_decide_eq_true z)) (fun _=>?_)
  exact⟨_,rfl,a,i,rfl,Qc,G,fun H3 e3=>⟨by show 1≤sizeLine;decide,fun p hp=>hE a p H3 ha e3 hp⟩⟩
 ·refine⟨_,rfl,_,rfl,?_⟩
  refine ifB (fun _=>?_) (fun z=>absurd z (by decide))
  exact⟨_,rfl,by show 2≤sizeLine;decide,fun p hp=>hQ p hp⟩
section
variable {X:Cx}{k:Nat}{fa:Addr}{fd:FuncData}{ca Pa:Addr}{q:Str}{params:Arguments}{body:Expr}{scope:Scope}{p lpos cpos:Pos}{tk:Nat→Tok}{c kr:Nat→Addr}{te:XK→TE}
theorem KL{K0:PySem.W.Frag}(hK:X.K=K0)(F:Fun X.K "_law_heard" "_law_heard" QZ fa fd)(hm:X.mg "_law_heard"=some (.ref fa))(hb:Binds X.K fd ["_law_deed"] [])(T:Txt X.K X.mg tk c kr)(D__law_class:Def X.prog X.w X.K X.mg X.base 1 "_law_class" ["_law_kept"] (WG X.K c))
  (hr:Room (k+2) X.A) (hg:Gl X "_law_heard")
  (L:Lamb X.mg X.base ca Pa) (hcode:X.env.code=.ref ca) (hq:q=X.env.qual++"<lambda>") (hdef:defaultsOf params X.env=([],[])) (hfn:∀y,X.fn y=true)
  (sk:scope.kind=.function) (sco:scope.isCoroutine=false) (sgen:scope.isGenerator=false) (snone:∀y∈scope.names,y.2≠ .local∧y.2≠ .cell) (sfree:qc scope X.env.scope=true)
  (hbind:∀cl pm c' ctv,bindArgs (PySem.W.kla_fn "<lambda>" q params body scope cl pm (.ref c') ctv) ⟨[],[]⟩=pure [])
  (hlam:∀(f c':Addr)(cl:List (Str × Addr))(A:Around)(outer:List Env)(s:Shared)(H:Hp)(E:XK),Room k (A.deeper (PySem.W.envX q scope s.heap.objs.size f (.ref c') cl))→PE (qU X.prog X.w X.K X.mg X.base X.N q scope f c' cl A outer s H E) body (te E))
  (hmono:∀(σ:L2.St)(H:Hp)(Q Q':VK)(E E':XK),(∀cls x H,E cls x H→E' cls x H)→(∀v H,Q v H→Q' v H)→te E σ H Q→te E' σ H Q'):
  PE X (.Call (.Name "_law_heard" p) [.Lambda params body scope lpos] [] cpos) (Qa0 Pa q (fun σ f c' H1 Q=>H1 c'=some (Xe c' q)∧tHd K0 c te σ H1 Q)):=by
 subst hK
 refine qZ F Jk hm hg hb hr xH L hcode hq hdef hfn sk sco sgen snone (K2 sfree) hbind (fun cdv σ f c' cl pm ctv s1 H1 Q LA hlo hr1 h=>?_)
 exact jB T D__law_class LA hlo hr1 hlam hmono h.1 h.2
end
end Lw
set_option Elab.async false
set_option linter.all false
set_option maxRecDepth 100000
namespace Lw
open PySem PySem.Spec PyProof.Rows L2
open Builtin Builtin.Str StrLaws
def tW(ys:List Str):Wx:=.tup (ys.map Wx.str)
def YW(π:Plan):List Wx:=
 [.tup [tW π.cols,tW π.keys,tW π.sums,.int 5],.tup [tW π.cols,tW π.keys,tW π.sums,.bl true],.tup [tW π.cols,tW (π.keys++([("q":Str)]:List Str)),tW π.sums,.int 6]]++
 [.tup [tW (π.cols++π.cols.take 1),tW π.keys,tW π.sums,.int 6],.tup [.tup [],.tup [],.tup [],.int 6],.tup [tW π.cols,tW ["a"],tW ["a"],.int 6],.non,.str "plan"]++
 [.tup [tW π.cols,tW ["a","a"],tW π.sums,.int 6],.tup [tW π.cols,tW ["x"],tW ["x"],.int 6],.tup [tW ["A"],.tup [],.tup [],.int 6]]++
 [.tup [.lst,.tup [],.tup [],.int 6],.tup [tW π.cols,tW π.keys,tW π.sums]]
theorem xI{σ:L2.St}{H0:Hp}{t:TA}{ds:List Wx}{te:TE}{d:Wx}(h1:∀(H:Hp)(R:VK),Qg H0 H→(∀v H1,Qg H H1→Ws H1 v d→R v H1)→te σ H R) (h:TaW σ H0 t ds):TaW σ H0 (Q8 te t) (d::ds):=fun H R S0 k=>h1 H _ S0 fun v H1 S1 W1=>h H1 _ (S0.trans S1) fun xs H2 S2 t2=>k _ _ (S1.trans S2) (.cons (W1.same S2) t2)
theorem QaK(ys:List Str):toW (.tup (txD ys))=tW ys:=by
 rw[toW,ZW]
 unfold txD tW
 rw[List.map_map]
 rfl
theorem xJ{H:Hp}{v:V}{ys:List Str}(D:Deep H v (.tup (txD ys))):Ws H v (tW ys):=by rw[←QaK];exact D.ws
theorem XM(ys:List Str):YV (tW ys)=ys:=by
 show(ys.map Wx.str).map UC=ys
 rw[List.map_map]
 exact List.map_id _
theorem wz(ys:List Str):anW (tW ys)=(ys.all Zv&&L2.unlike ys):=by
 show((ys.map Wx.str).all nmW&&L2.unlike ((ys.map Wx.str).map UC))=_
 rw[List.map_map,List.all_map]
 have:ys.map (UC∘Wx.str)=ys:=List.map_id _
 rw[this]
 rfl
theorem qD{ys:List Str}(h:many ys=ys.length):L2.unlike ys=true:=by rw[←VF];exact decide_eq_true h
theorem QaL{π:Plan}(Z:PlanOk π):jq (.tup [tW π.cols,tW π.keys,tW π.sums,.int π.size])=true:=by
 show ZN _ _ _ _=true
 unfold ZN
 rw[wz,wz,wz,XM,XM,XM,Z.nc,Z.nk,Z.ns,qD Z.mc,qD Z.my,qD Z.ms,qD Z.mu,Z.sub]
 have e1:π.cols.isEmpty=false:=by
  cases h:π.cols with
  |nil=>exact absurd h Z.pos
  |cons a b=>rfl
 have e2:wh6 (.int π.size)=true:=decide_eq_true Z.sz
 rw[e1,e2]
 rfl
theorem xK{x:Str}{xs:List Str}:L2.unlike ((x::xs)++[x])=false:=by
 rw[List.cons_append,L2.unlike,List.any_append]
 simp
theorem QaM{a b:Bool}(h:b=false):(a&&b)=false:=by rw[h,Bool.and_false]
theorem QaN{π:Plan}(hq:π.cols.contains "q"=false):∀d∈YW π,jq d=false:=by
 have h3:∀c k s l:Wx,wh6 l=false→jq (.tup [c,k,s,l])=false:=fun c k s l h=>by
  show ZN c k s l=false
  unfold ZN
  rw[h,Bool.and_false,Bool.and_false,Bool.and_false,Bool.and_false,Bool.and_false]
 have hu:∀c k s l:Wx,L2.unlike (YV k++YV s)=false→jq (.tup [c,k,s,l])=false:=fun c k s l h=>by
  show ZN c k s l=false
  unfold ZN
  rw[h,Bool.false_and,Bool.false_and,Bool.and_false,Bool.and_false,Bool.and_false,Bool.and_false]
 intro d hd
 unfold YW at hd
 simp only[List.mem_append,List.mem_cons,List.not_mem_nil,or_false]at hd
 rcases hd with(((rfl|rfl|rfl)|(rfl|rfl|rfl|rfl|rfl))|(rfl|rfl|rfl))|(rfl|rfl)
 ·exact h3 _ _ _ _ rfl
 ·exact h3 _ _ _ _ rfl
 ·show ZN _ _ _ _=false
  unfold ZN
  rw[XM,XM,XM]
  have:((π.keys++([("q":Str)]:List Str)++π.sums).all fun x=>π.cols.contains x)=false:=by
   rw[List.all_append,List.all_append]
   simp only[List.all_cons,List.all_nil,hq,Bool.false_and,Bool.and_false]
  rw[this,Bool.and_false,Bool.false_and,Bool.and_false,Bool.and_false,Bool.and_false,Bool.and_false]
 ·show ZN _ _ _ _=false
  unfold ZN
  rw[wz]
  cases h:π.cols with
  |nil=>rw[XM];simp
  |cons x xs=>
   have:L2.unlike ((x::xs)++(x::xs).take 1)=false:=xK
   rw[this,Bool.and_false,Bool.false_and]
 ·rfl
 ·exact hu _ _ _ _ (by rw[XM];decide+kernel)
 ·rfl
 ·rfl
 ·show ZN _ _ _ _=false
  unfold ZN
  have:anW (tW ["a","a"])=false:=by decide+kernel
  rw[this,Bool.false_and,Bool.and_false]
 ·exact hu _ _ _ _ (by rw[XM];decide+kernel)
 ·show ZN _ _ _ _=false
  unfold ZN
  have:anW (tW ["A"])=false:=by decide+kernel
  rw[this,Bool.false_and]
 ·rfl
 ·rfl
section
variable {P:Program}{w:World}{K:PySem.W.Frag}{mg:Str→Option Value}{base:Heap}{f:Addr}{fd:FuncData}{tk:Nat→Tok}{c kr:Nat→Addr}
theorem xL{σ:L2.St}{te:TA}{i:Nat}{H0 H:Hp}{q:Addr}{xs:List V}{ds es:List Wx}{Q:VK}(S:Qg H0 H)(hv:σ[i]? =some (some (.ref q)))(g:H q=some (.lst xs))(t:Wss H xs ds)(h:TaW σ H0 te es)(hl:ds.length+es.length≤sizeLine)(k:∀q' xs' H',Qg H H'→H' q'=some (.lst xs')→Wss H' xs' (ds++es)→Q (.ref q') H'):tOp QbX (WV i) (yE te) σ H Q:=by
 refine⟨_,hv,QaE h S (by omega) fun q2 ys H2 S2 _ g2 t2=>?_⟩
 have l1:=t.length
 have l2:=t2.length
 refine⟨q,q2,xs,ys,rfl,rfl,S2 _ _ g,g2,by omega,fun p hp=>?_⟩
 have S3:=Qg.new (o:=.lst (xs++ys)) hp
 exact k _ _ _ (S2.trans S3) Qc (((t.same S2).append t2).same S3)
def xM:Sp:=fun vs H Q _=>∃(v:V)(π:Plan),vs=[v]∧Deep H v (JM π)∧PlanOk π∧∀q xs H',Qg H H'→H' q=some (.lst xs)→Wss H' xs (YW π)→Q (.ref q) H'
set_option maxHeartbeats 1000000 in
theorem Kw(F:Fun K "_law_no_plans" "_law_no_plans" JW f fd)(OL:mg "list"=none):FnOk P w K mg base (CXE P w) 1 f fd ["_law_plan"] xM:=by
 refine zq F QE (fun vs H Q E h=>?_) (fun cdv A outer s H vs Q E hr h=>?_)
 ·obtain⟨v,π,rfl,_⟩:=h
  rfl
 ·obtain⟨v,π,rfl,D,Z,k⟩:=h
  have hz:10000≤sizeLine:=by rw[sizeLine_eq];decide
  have z1:=Z.lc
  have z2:=Z.lu
  have z3:π.keys.length+π.sums.length=(π.keys++π.sums).length:=(List.length_append ..).symm
  refine⟨_,(Qo (PSy.mk (Zb (pv 0) (Jy rfl (Qk (Qj (i:=1) QE.nd rfl (Or.inl rfl)) (Qk (Qj (i:=2) QE.nd rfl (Or.inl rfl)) (Qk (Qj (i:=3) QE.nd rfl (Or.inl rfl)) (Qk (Qj (i:=4) QE.nd rfl (Or.inl rfl)) QX)))))))
   (Qo (QY (i:=5) QE.nd rfl (Or.inl rfl) (XV (Qs (QI (Qs (PEx.mk (pv 1)) (Qs (PEx.mk (pv 2)) (Qs (PEx.mk (pv 3)) (Qs (PEx.mk Qf) Ql rfl) rfl) rfl) rfl)) (Qs (QI (Qs (PEx.mk (pv 1)) (Qs (PEx.mk (pv 2)) (Qs (PEx.mk (pv 3)) (Qs (PEx.mk JP) Ql rfl) rfl) rfl) rfl)) (Qs (QI (Qs (PEx.mk (pv 1)) (Qs (XF J4 (PEx.mk (pv 2)) (QI (Qs (PEx.mk Qq) Ql rfl))) (Qs (PEx.mk (pv 3)) (Qs (PEx.mk Qf) Ql rfl) rfl) rfl) rfl)) Ql rfl) rfl) rfl)) rfl rfl)
   (Qo (QY (i:=5) QE.nd rfl (Or.inl rfl) (XF Xu (PEx.mk (pv 5)) (XV (Qs (QI (Qs (XF J4 (PEx.mk (pv 1)) (PEx.mk (ZR X0 (pv 1) KU (ZA Qf)))) (Qs (PEx.mk (pv 2)) (Qs (PEx.mk (pv 3)) (Qs (PEx.mk Qf) Ql rfl) rfl) rfl) rfl)) (Qs (QI (Qs (QI Ql) (Qs (QI Ql) (Qs (QI Ql) (Qs (PEx.mk Qf) Ql rfl) rfl) rfl) rfl)) (Qs (QI (Qs (PEx.mk (pv 1)) (Qs (QI (Qs (PEx.mk Qq) Ql rfl)) (Qs (QI (Qs (PEx.mk Qq) Ql rfl)) (Qs (PEx.mk Qf) Ql rfl) rfl) rfl) rfl)) (Qs (PEx.mk WW) (Qs (PEx.mk Qq) Ql rfl) rfl) rfl) rfl) rfl))) rfl rfl)
   (Qo (QY (i:=5) QE.nd rfl (Or.inl rfl) (XF Xu (PEx.mk (pv 5)) (XV (Qs (QI (Qs (PEx.mk (pv 1)) (Qs (QI (Qs (PEx.mk Qq) (Qs (PEx.mk Qq) Ql rfl) rfl)) (Qs (PEx.mk (pv 3)) (Qs (PEx.mk Qf) Ql rfl) rfl) rfl) rfl)) (Qs (QI (Qs (PEx.mk (pv 1)) (Qs (QI (Qs (PEx.mk Qq) Ql rfl)) (Qs (QI (Qs (PEx.mk Qq) Ql rfl)) (Qs (PEx.mk Qf) Ql rfl) rfl) rfl) rfl)) (Qs (QI (Qs (QI (Qs (PEx.mk Qq) Ql rfl)) (Qs (QI Ql) (Qs (QI Ql) (Qs (PEx.mk Qf) Ql rfl) rfl) rfl) rfl)) Ql rfl) rfl) rfl))) rfl rfl)
   (QF (QJ (XF Xu (PEx.mk (pv 5)) (XV (Qs (QI (Qs (PEx.mk (QH Ki rfl OL PyProof.Rows.boot_list (QC (pv 1) Qb))) (Qs (QI Ql) (Qs (QI Ql) (Qs (PEx.mk Qf) Ql rfl) rfl) rfl) rfl)) (Qs (QI (Qs (PEx.mk (pv 1)) (Qs (PEx.mk (pv 2)) (Qs (PEx.mk (pv 3)) Ql rfl) rfl) rfl)) Ql rfl) rfl))))))))),?_⟩
  obtain⟨a,ac,ak,as,L⟩:=Ju D
  obtain rfl:=L.v
  refine⟨_,rfl,a,_,rfl,.inl (.inl L.a),rfl,_,_,rfl,_,_,rfl,_,_,rfl,_,_,rfl,rfl,?_⟩
  dsimp only[QL,JI,Zj,QK]
  have Wc:=xJ L.dc
  have Wk:=xJ L.dk
  have Ws_:=xJ L.ds
  have l4:4≤sizeLine:=by omega
  refine QaE (H0:=H) (ds:=[.tup [tW π.cols,tW π.keys,tW π.sums,.int 5],.tup [tW π.cols,tW π.keys,tW π.sums,.bl true],.tup [tW π.cols,tW (π.keys++([("q":Str)]:List Str)),tW π.sums,.int 6]]) (QP (Jj rfl Wc (Jj rfl Wk (Jj rfl Ws_ (Zr QG)))) l4 (QP (Jj rfl Wc (Jj rfl Wk (Jj rfl Ws_ (QaD QG)))) l4 (QP (Jj rfl Wc (xI (fun H' R S' kk=>?_) (Jj rfl Ws_ (Zr QG)))) l4 QG))) (Qg.refl _) (by show 3≤sizeLine;omega) fun q1 xs1 H1 S1 _ g1 t1=>?_
  ·refine⟨_,rfl,by show 1≤sizeLine;omega,fun p hp=>?_⟩
   have S2:=Qg.new (o:=.tup [.str "q"]) hp
   refine We.deep ((L.dk.same S').same S2) (ds:=txD π.keys) (es:=[.str "q"]) (.tup Qc (.cons .str .nil)) (by unfold txD;rw[List.length_map];show _+1≤sizeLine;omega) fun u H4 S4 D4=>kk _ _ (S2.trans S4) ?_
   have e:txD π.keys++[Dv.str "q"]=txD (π.keys++([("q":Str)]:List Str)):=by unfold txD;rw[List.map_append];rfl
   rw[e]at D4
   exact xJ D4
  have l1':1≤sizeLine:=by omega
  have l2':2≤sizeLine:=by omega
  refine xL (H0:=H1) (es:=[.tup [tW (π.cols++π.cols.take 1),tW π.keys,tW π.sums,.int 6],.tup [.tup [],.tup [],.tup [],.int 6],.tup [tW π.cols,tW ["a"],tW ["a"],.int 6],.non,.str "plan"]) (Qg.refl _) rfl g1 t1 (QP (xI (fun H' R S' kk=>?_) (Jj rfl (Wk.same S1) (Jj rfl (Ws_.same S1) (Zr QG)))) l4 (QP (QP QG (Nat.zero_le _) (QP QG (Nat.zero_le _) (QP QG (Nat.zero_le _) (Zr QG)))) l4 (QP (Jj rfl (Wc.same S1) (QP (ZL QG) l1' (QP (ZL QG) l1' (Zr QG)))) l4 (v4 (ZL QG))))) (by show 3+5≤sizeLine;omega) fun q2 xs2 H2 S2 g2 t2=>?_
  ·have Dc:=L.dc.same (S1.trans S')
   refine⟨_,rfl,_,rfl,_,rfl,zO.v3 (hi:=1) Dc fun u H3 S3 D3=>We.deep (Dc.same S3) D3 (by rw[List.length_take];unfold txD;rw[List.length_map];omega) fun u4 H4 S4 D4=>kk _ _ (S3.trans S4) ?_⟩
   have e:txD π.cols++(txD π.cols).take 1=txD (π.cols++π.cols.take 1):=by unfold txD;rw[List.map_append,List.map_take]
   rw[e]at D4
   exact xJ D4
  have S2:=S1.trans S2
  refine xL (H0:=H2) (es:=[.tup [tW π.cols,tW ["a","a"],tW π.sums,.int 6],.tup [tW π.cols,tW ["x"],tW ["x"],.int 6],.tup [tW ["A"],.tup [],.tup [],.int 6]]) (Qg.refl _) rfl g2 t2 (QP (Jj rfl (Wc.same S2) (QP (ZL (ZL QG)) l2' (Jj rfl (Ws_.same S2) (Zr QG)))) l4 (QP (Jj rfl (Wc.same S2) (QP (ZL QG) l1' (QP (ZL QG) l1' (Zr QG)))) l4 (QP (QP (ZL QG) l1' (QP QG (Nat.zero_le _) (QP QG (Nat.zero_le _) (Zr QG)))) l4 QG))) (by show 8+3≤sizeLine;omega) fun q3 xs3 H3 S3 g3 t3=>?_
  have S3:=S2.trans S3
  refine xL (H0:=H3) (es:=[.tup [.lst,.tup [],.tup [],.int 6],.tup [tW π.cols,tW π.keys,tW π.sums]]) (Qg.refl _) rfl g3 t3 (QP (xI (fun H' R S' kk=>?_) (QP QG (Nat.zero_le _) (QP QG (Nat.zero_le _) (Zr QG)))) l4 (QP (Jj rfl (Wc.same S3) (Jj rfl (Wk.same S3) (Jj rfl (Ws_.same S3) QG))) (by show 3≤sizeLine;omega) QG)) (by show 11+2≤sizeLine;omega) fun q4 xs4 H4 S4 g4 t4=>k _ _ _ (S3.trans S4) g4 t4
  obtain⟨ac',xc,e,gc,tc⟩:=Deep.Xy (L.dc.same (S3.trans S'))
  refine⟨_,rfl,ac',xc,by rw[e],.inr (.inl (.inl gc)),fun l hl=>kk _ _ (Qg.new hl) (.lst Qc)⟩
end
end Lw
set_option Elab.async false
set_option linter.all false
set_option maxRecDepth 100000
namespace Lw
open PySem PySem.Spec PyProof.Rows L2 K34
open Builtin Builtin.Str StrLaws
theorem YR{n:Nat}:∀{ds:List Dv},(∀d∈ds,d.depth≤n)→Dv.Zd ds≤n
 |[],_=>by unfold Dv.Zd;omega
 |d::ds,h=>by
  have h1:=h d List.mem_cons_self
  have h2:=YR (ds:=ds) fun x hx=>h x (List.mem_cons_of_mem _ hx)
  unfold Dv.Zd
  omega
theorem Q5{n:Nat}{ds:List Dv}(h:∀d∈ds,d.depth≤n):(Dv.tup ds).depth≤n+1:=by
 have:=YR h
 unfold Dv.depth
 omega
theorem ZY(c:Cell):c.dv.depth≤1:=by cases c<;>simp[Cell.dv,Dv.depth,Dv.Zd]
theorem ZP(x:Str)(n:Nat):(Dv.str x).depth≤n:=by unfold Dv.depth;omega
theorem Zh(l:List (Int × Int)):(Jo l).depth≤2:=Q5 fun d hd=>by
 obtain⟨p,_,rfl⟩:=List.mem_map.mp hd
 simp[V5,Dv.depth,Dv.Zd]
theorem WH(r:List Cell):(jK r).depth≤3:=Q5 fun d hd=>by
 simp only[List.mem_cons,List.not_mem_nil,or_false]at hd
 rcases hd with rfl|rfl
 ·exact ZP _ _
 ·exact Q5 fun d hd=>by
   obtain⟨c,_,rfl⟩:=List.mem_map.mp hd
   exact ZY c
theorem jC(π:Plan)(row:List Cell)(since:List (List (Int × Int)))(lv:Nat):(v8 π row since lv).depth≤3:=Q5 fun d hd=>by
 simp only[List.mem_cons,List.not_mem_nil,or_false]at hd
 rcases hd with rfl|rfl|rfl|rfl
 ·exact ZP _ _
 ·exact ZP _ _
 ·refine Q5 (n:=1) fun d hd=>?_
  obtain⟨i,_,rfl⟩:=List.mem_map.mp (List.mem_of_mem_take hd)
  unfold wg
  split
  ·exact ZY _
  ·simp[Dv.depth]
 ·exact Zh _
theorem WI(π:Plan)(row:List Cell)(since:List (List (Int × Int)))(lv:Nat):(vd π row since lv).dv.depth≤3:=jC π row since lv
theorem Kb(π:Plan):∀(rows:List (List Cell))(p:Option (List Cell))(since:List (List (Int × Int))),∀x∈JJ π rows p since,x.dv.depth≤3
 |[],none,_=>fun x hx=>nomatch hx
 |[],some p,since=>by
  intro x hx
  obtain⟨i,_,rfl⟩:=List.mem_map.mp hx
  exact WI _ _ _ _
 |r::rs,none,since=>by
  intro x hx
  rw[JJ]at hx
  rcases List.mem_cons.mp hx with rfl|hx
  ·exact WH _
  ·exact Kb π rs _ _ x hx
 |r::rs,some p,since=>by
  intro x hx
  rw[JJ]at hx
  rcases List.mem_append.mp hx with hx|hx
  ·obtain⟨i,_,rfl⟩:=List.mem_map.mp hx
   exact WI _ _ _ _
  rcases List.mem_cons.mp hx with rfl|hx
  ·exact WH _
  ·exact Kb π rs _ _ x hx
theorem Zi{x:Str}{d:Dv}{n:Nat}(h:d.depth≤n):(Dv.tup [.str x,d]).depth≤n+1:=Q5 fun e he=>by
 simp only[List.mem_cons,List.not_mem_nil,or_false]at he
 rcases he with rfl|rfl
 ·exact ZP _ _
 ·exact h
theorem xN(π:Plan)(rows:List (List Cell)):∀x∈Zw π rows,x.dv.depth≤3:=by
 intro x hx
 rcases List.mem_append.mp hx with hx|hx
 ·exact Kb _ _ _ _ x hx
 ·obtain rfl:=List.mem_singleton.mp hx
  exact Zi (Zh _)
theorem jD(π:Plan)(r:List Cell):(QaI π r).depth≤3:=Zi (Q5 (n:=1) fun d hd=>by
 unfold YM at hd
 obtain⟨i,hi⟩:=List.mem_iff_getElem?.mp hd
 rw[List.getElem?_zipWith]at hi
 split at hi
 ·rename_i a b _ _
  rw[←Option.some.inj hi]
  split
  ·simp[Dv.depth]
  ·exact ZY _
 ·cases hi)
theorem qE{π:Plan}{L:List Ln}(h:∀x∈L,x.dv.depth≤3):∀n,∀d∈shN π L n,d.depth≤3
 |0,d,hd=>nomatch hd
 |n+1,d,hd=>by
  rcases List.mem_append.mp hd with hd|hd
  ·exact qE h n d hd
  ·obtain rfl:=List.mem_singleton.mp hd
   have hx:(L.getD n dfl).dv.depth≤3:=by
    by_cases hn:n<L.length
    ·exact h _ (getD_mem hn)
    ·rw[List.getD_eq_getElem?_getD,List.getElem?_eq_none (by omega)]
     show(Dv.tup [.str ""]).depth≤3
     have:=Q5 (n:=0) (ds:=[.str ""]) fun d hd=>by
      rw[List.mem_singleton.mp hd];exact ZP _ _
     omega
   cases er:L.getD n dfl with
   |oth k ds=>rw[er]at hx;exact hx
   |row r=>
    show(if J8 L n=true then QaI π r else jK r).depth≤3
    split
    ·exact jD _ _
    ·exact WH _
theorem jE{π:Plan}{L:List Ln}(h:∀x∈L,x.dv.depth≤3) (n:Nat) (l:List (Int × Int)):(xA π n l L).depth≤4:=Q5 fun d hd=>by
 rcases List.mem_append.mp hd with hd|hd
 ·rcases List.mem_append.mp hd with hd|hd
  ·unfold jx at hd
   rcases List.mem_cons.mp hd with rfl|hd
   ·have:(headD n).depth≤0+1:=Zi (by simp[Dv.depth])
    omega
   ·split at hd
    ·cases hd
    ·obtain rfl:=List.mem_singleton.mp hd
     exact Zi (Zh _)
  ·exact qE h _ d hd
 ·unfold ka at hd
  split at hd
  ·cases hd
  ·obtain rfl:=List.mem_singleton.mp hd
   exact Zi (Zh _)
theorem WJ{π:Plan}:∀(f n:Nat)(l:List (Int × Int))(L:List Ln),(∀x∈L,x.dv.depth≤3)→∀d∈ZO π f n l L,d.depth≤4
 |0,_,_,_,_,d,hd=>nomatch hd
 |f+1,n,l,L,h,d,hd=>by
  rw[ZO]at hd
  split at hd
  ·cases hd
  ·rcases List.mem_cons.mp hd with rfl|hd
   ·exact jE h n l
   ·exact WJ f _ _ _ (fun x hx=>h x (List.mem_of_mem_drop hx)) d hd
theorem xO(π:Plan)(rows:List (List Cell)):(Dv.tup (ZX π (Zw π rows))).depth≤8:=by
 have:=Q5 (n:=4) (ds:=ZX π (Zw π rows)) (WJ _ _ _ _ (xN π rows))
 omega
theorem Qcy{cols:List Str}{ds:List Wx}{p:Str × Wx→Bool}(h:∀(i:Nat)(x:Str)(d:Wx),cols[i]? =some x→ds[i]? =some d→p (x,d)=true):(cols.zip ds).all p=true:=by
 rw[List.all_eq_true]
 rintro⟨x,d⟩ hm
 obtain⟨i,hi⟩:=List.mem_iff_getElem?.mp hm
 rw[List.getElem?_zip_eq_some]at hi
 exact h i x d hi.1 hi.2
theorem Qcz{cols:List Str}{ds:List Wx}{p:Str × Wx→Bool}{i:Nat}{x:Str}{d:Wx}(h1:cols[i]? =some x)(h2:ds[i]? =some d)(h:p (x,d)=false):(cols.zip ds).all p=false:=by
 rw[Bool.eq_false_iff]
 intro z
 rw[List.all_eq_true]at z
 have:=z (x,d) (List.mem_iff_getElem?.mpr ⟨i,wX h1 h2⟩)
 rw[h]at this
 cases this
theorem QaO{c:Nat}(h:QbE c=true):sg1 c=true∧c<128:=by
 unfold QbE at h
 rw[Bool.and_assoc,Bool.and_eq_true]at h
 exact⟨h.2,of_decide_eq_true h.1⟩
theorem VX{π:Plan}{ds:List Dv}:xg π (toW (.tup ds))=(decide (ds.length=π.cols.length)&&(π.cols.zip (ds.map toW)).all (XG π.sums)):=by
 rw[toW,ZW]
 show(decide ((ds.map toW).length=π.cols.length)&&_)=_
 rw[List.length_map]
theorem QaP{c:Cell}(h:JX c):(∃u o,c=.amt u o∧x8 (toW c.dv)=true)∨(∃x,c=.txt x∧yH (toW c.dv)=true):=by
 cases c with
 |amt u o=>
  refine .inl ⟨u,o,rfl,?_⟩
  obtain⟨h1,h2,_⟩:=h
  show(decide (0≤o)&&decide (o≤18))=true
  rw[decide_eq_true h1,decide_eq_true (by omega)]
  rfl
 |txt x=>
  refine .inr ⟨x,rfl,?_⟩
  have h:textOk x=true:=h
  unfold textOk at h
  rw[Bool.and_eq_true,List.all_eq_true]at h
  show x.cps.toList.all sg1=true
  rw[List.all_eq_true]
  exact fun c hc=>(QaO (h.1 c hc)).1
theorem VY{π:Plan}{r:List Cell}(Y:RowOk π r):xg π (toW (Xn r))=true:=by
 show xg π (toW (.tup (r.map Cell.dv)))=true
 rw[VX,List.length_map,decide_eq_true Y.len,Bool.true_and]
 refine Qcy fun i x d hx hd=>?_
 rw[List.getElem?_map,List.getElem?_map]at hd
 cases e:r[i]? with
 |none=>rw[e]at hd;cases hd
 |some c=>
  rw[e]at hd
  obtain rfl:=Option.some.inj hd
  show(x8 (toW c.dv)||(!(π.sums.contains x)&&yH (toW c.dv)))=true
  rcases QaP (Y.ok c (List.mem_of_getElem? e))with⟨u,o,rfl,h⟩|⟨z,rfl,h⟩
  ·rw[h,Bool.true_or]
  ·have:π.sums.contains x=false:=by
    rw[Bool.eq_false_iff]
    intro hs
    obtain⟨u,o,he⟩:=Y.sm i x hx hs
    rw[he]at e
    cases e
   rw[this,h,Bool.not_false,Bool.true_and,Bool.or_true]
theorem KM{c:Cell}(h:JX c):Qa5 (toW c.dv)∧Qa6 (toW c.dv):=by
 cases c with
 |amt u o=>exact⟨⟨.inl ⟨u,rfl⟩,.inl ⟨o,rfl⟩⟩,trivial⟩
 |txt x=>
  have h:textOk x=true:=h
  unfold textOk at h
  rw[Bool.and_eq_true,List.all_eq_true]at h
  refine⟨trivial,?_,?_⟩
  ·rw[Array.all_eq_true']
   exact fun c hc=>decide_eq_true (QaO (h.1 c (Array.mem_toList_iff.mpr hc))).2
  ·have:x.length≤100:=of_decide_eq_true h.2
   show x.cps.size≤1000
   have e:x.length=x.cps.size:=rfl
   omega
def wA:List Dv:=[.non,.int 3,.tup [.int 1,.int (-1)],.tup [.int 1,.int 19],.tup [.bl true,.int 0],.str "t\n",.tup [.int 1,.int 2,.int 3],.str "~ "]
def QbM(d:Dv):Prop:=Qa5 (toW d)∧Qa6 (toW d)
theorem yn:∀d∈wA,QbM d:=by
 intro d hd
 simp only[wA,List.mem_cons,List.not_mem_nil,or_false]at hd
 rcases hd with rfl|rfl|rfl|rfl|rfl|rfl|rfl|rfl
 ·exact⟨trivial,trivial⟩
 ·exact⟨trivial,trivial⟩
 ·exact⟨⟨.inl ⟨_,rfl⟩,.inl ⟨_,rfl⟩⟩,trivial⟩
 ·exact⟨⟨.inl ⟨_,rfl⟩,.inl ⟨_,rfl⟩⟩,trivial⟩
 ·exact⟨⟨.inr ⟨_,rfl⟩,.inl ⟨_,rfl⟩⟩,trivial⟩
 ·exact⟨trivial,by decide+kernel,by decide+kernel⟩
 ·exact⟨trivial,trivial⟩
 ·exact⟨trivial,by decide+kernel,by decide+kernel⟩
def ve(d:Dv):Bool:=d.eqb (.str "~ ")
theorem yp{sums:List Str}{col:Str}:∀d∈wA,(ve d&& !(sums.contains col))=false→XG sums (col,toW d)=false:=by
 intro d hd
 simp only[wA,List.mem_cons,List.not_mem_nil,or_false]at hd
 have two:∀d:Wx,x8 d=false→yH d=false→XG sums (col,d)=false:=fun d h1 h2=>by
  show(x8 d||(!(sums.contains col)&&yH d))=false
  rw[h1,h2,Bool.and_false,Bool.or_false]
 rcases hd with rfl|rfl|rfl|rfl|rfl|rfl|rfl|rfl<;>intro h
 ·exact two _ rfl rfl
 ·exact two _ rfl rfl
 ·exact two _ (by decide) rfl
 ·exact two _ (by decide) rfl
 ·exact two _ rfl rfl
 ·exact two _ rfl (by decide+kernel)
 ·exact two _ rfl rfl
 ·have:ve (.str "~ ")=true:=Dv.JD _
  rw[this,Bool.true_and]at h
  show(false||(!(sums.contains col)&&_))=false
  rw[h]
  rfl
theorem xP:∀d∈wA,ve d=true→d=.str "~ ":=by
 intro d hd
 simp only[wA,List.mem_cons,List.not_mem_nil,or_false]at hd
 rcases hd with rfl|rfl|rfl|rfl|rfl|rfl|rfl|rfl<;>intro h
 ·exact absurd h (by decide+kernel)
 ·exact absurd h (by decide+kernel)
 ·exact absurd h (by decide+kernel)
 ·exact absurd h (by decide+kernel)
 ·exact absurd h (by decide+kernel)
 ·exact absurd h (by decide+kernel)
 ·exact absurd h (by decide+kernel)
 ·rfl
def qF(r:List Cell)(n:Nat)(d:Dv):List Dv:=(r.map Cell.dv).take n++[d]++(r.map Cell.dv).drop (n+1)
theorem yq{r:List Cell}{n:Nat}{d:Dv}(h:n<r.length):(qF r n d).length=r.length:=by
 unfold qF
 rw[List.length_append,List.length_append,List.length_take,List.length_drop,List.length_map]
 show min n r.length+1+_=_
 omega
theorem QaQ{r:List Cell}{n:Nat}{d:Dv}(h:n<r.length):(qF r n d)[n]? =some d:=by
 unfold qF
 have l:((r.map Cell.dv).take n).length=n:=by rw[List.length_take,List.length_map];omega
 rw[List.append_assoc,List.getElem?_append_right (by omega),l,Nat.sub_self]
 rfl
theorem xQ{r:List Cell}{n:Nat}{c:Cell}(h:n<r.length): .tup (qF r n c.dv)=Xn (r.set n c):=by
 show Dv.tup _=Dv.tup ((r.set n c).map Cell.dv)
 congr 1
 unfold qF
 rw[←List.map_take, ←List.map_drop,List.set_eq_take_append_cons_drop,if_pos h,List.map_append,List.map_cons,List.append_assoc]
 rfl
theorem yr{r:List Cell}{n:Nat}{d e:Dv}(h:e∈qF r n d):e=d∨∃c∈r,e=c.dv:=by
 unfold qF at h
 rw[List.mem_append,List.mem_append]at h
 rcases h with(h|h)|h
 ·obtain⟨c,hc,rfl⟩:=List.mem_map.mp (List.mem_of_mem_take h)
  exact .inr ⟨c,hc,rfl⟩
 ·exact .inl (List.mem_singleton.mp h)
 ·obtain⟨c,hc,rfl⟩:=List.mem_map.mp (List.mem_of_mem_drop h)
  exact .inr ⟨c,hc,rfl⟩
theorem vf{π:Plan}{r:List Cell}(Y:RowOk π r){n:Nat}{x:Str}(hx:π.cols[n]? =some x)(hs:π.sums.contains x=false):RowOk π (r.set n (.txt "~ ")):=by
 refine⟨by rw[List.length_set];exact Y.len,fun c hc=>?_,fun i y hy hc=>?_⟩
 ·rcases List.mem_or_eq_of_mem_set hc with h|rfl
  ·exact Y.ok c h
  ·show textOk "~ "=true
   decide+kernel
 ·have hne:n≠i:=fun z=>by
   rw[←z,hx]at hy
   rw[Option.some.inj hy,hc]at hs
   cases hs
  rw[List.getElem?_set_ne hne]
  exact Y.sm i y hy hc
theorem wB{π:Plan}{r:List Cell}(Y:RowOk π r){n:Nat}{x:Str}{d:Dv}(hx:π.cols[n]? =some x)(hd:d∈wA):xg π (toW (.tup (qF r n d)))=(ve d&& !(π.sums.contains x)):=by
 have hn:n<r.length:=by rw[Y.len];exact(List.getElem?_eq_some_iff.mp hx).1
 cases e:(ve d&& !(π.sums.contains x))with
 |true=>
  rw[Bool.and_eq_true]at e
  obtain rfl:=xP d hd e.1
  have hs:π.sums.contains x=false:=by simpa using e.2
  rw[show(Dv.str "~ ")=(Cell.txt "~ ").dv from rfl,xQ hn]
  exact VY (vf Y hx hs)
 |false=>
  rw[VX]
  refine QaM (Qcz (i:=n) hx ?_ (yp d hd e))
  rw[List.getElem?_map,QaQ hn]
  rfl
theorem UY{π:Plan}(Z:PlanOk π){r:List Cell}(Y:RowOk π r):UE (toW (Xn r)):=by
 show UE (toW (.tup (r.map Cell.dv)))
 rw[toW,ZW]
 have:=Z.lc
 refine⟨by rw[List.length_map,List.length_map,Y.len];omega,fun x hx=>?_⟩
 rw[List.map_map]at hx
 obtain⟨c,hc,rfl⟩:=List.mem_map.mp hx
 exact KM (Y.ok c hc)
theorem yt{π:Plan}(Z:PlanOk π){r:List Cell}(Y:RowOk π r){n:Nat}(hn:n<r.length){d:Dv}(hd:QbM d):UE (toW (.tup (qF r n d))):=by
 rw[toW,ZW]
 have:=Z.lc
 have l:=Y.len
 refine⟨by rw[List.length_map,yq hn];omega,fun x hx=>?_⟩
 obtain⟨e,he,rfl⟩:=List.mem_map.mp hx
 rcases yr he with rfl|⟨c,hc,rfl⟩
 ·exact hd
 ·exact KM (Y.ok c hc)
theorem xR{π:Plan}{ds:List Dv}(h:ds.length≠π.cols.length):xg π (toW (.tup ds))=false:=by
 rw[VX,decide_eq_false h,Bool.false_and]
theorem xS{ds:List Dv}(h:ds.length<900)(k:∀d∈ds,QbM d):UE (toW (.tup ds)):=by
 rw[toW,ZW]
 refine⟨by rw[List.length_map];exact h,fun x hx=>?_⟩
 obtain⟨d,hd,rfl⟩:=List.mem_map.mp hx
 exact k d hd
theorem XN{ys:List Str}(hl:ys.length<400)(h:ys.all (fun x=>decide (x.length≤1000))=true):VG (tW ys):=by
 refine⟨by rw[List.length_map];exact hl,fun x hx z e=>?_⟩
 obtain⟨y,hy,rfl⟩:=List.mem_map.mp hx
 cases e
 exact of_decide_eq_true (List.all_eq_true.mp h _ hy)
theorem ZZ{ys:List Str}(h:ys.all Zv=true):ys.all (fun x=>decide (x.length≤1000))=true:=by
 rw[List.all_eq_true]at h ⊢
 intro x hx
 have:=h x hx
 unfold Zv at this
 simp only[Bool.and_eq_true,decide_eq_true_eq]at this
 exact decide_eq_true (by omega)
theorem vg{xs ys:List Str}(h1:xs.all (fun x=>decide (x.length≤1000))=true) (h2:ys.all (fun x=>decide (x.length≤1000))=true):(xs++ys).all (fun x=>decide (x.length≤1000))=true:=by rw[List.all_append,h1,h2];rfl
theorem yv{xs:List Str}(n:Nat)(h1:xs.all (fun x=>decide (x.length≤1000))=true):(xs.take n).all (fun x=>decide (x.length≤1000))=true:=by
 rw[List.all_eq_true]at h1 ⊢
 exact fun x hx=>h1 x (List.mem_of_mem_take hx)
theorem xT{π:Plan}(Z:PlanOk π):VG (tW π.cols)∧VG (tW π.keys)∧VG (tW π.sums)∧VG (tW (π.keys++([("q":Str)]:List Str)))∧VG (tW (π.cols++π.cols.take 1)):=by
 have z1:=Z.lc
 have z2:=Z.lu
 rw[List.length_append]at z2
 refine⟨XN (by omega) (ZZ Z.nc),XN (by omega) (ZZ Z.nk),XN (by omega) (ZZ Z.ns),XN ?_ (vg (ZZ Z.nk) (by decide+kernel)),XN ?_ (vg (ZZ Z.nc) (yv 1 (ZZ Z.nc)))⟩
 ·rw[List.length_append];show π.keys.length+1<400;omega
 ·rw[List.length_append,List.length_take];omega
theorem kc(i:Int):v5 (.int i):=.inl ⟨i,rfl⟩
theorem wC{π:Plan}(Z:PlanOk π):QbG (.tup [tW π.cols,tW π.keys,tW π.sums,.int π.size]):=
 let ⟨a,b,c,_,_⟩:=xT Z
 ⟨a,b,c,kc _⟩
theorem yw{π:Plan}(Z:PlanOk π):∀d∈YW π,QbG d:=by
 obtain⟨a,b,c,e,f⟩:=xT Z
 have n0:VG (.tup []):=⟨by decide,fun x hx=>nomatch hx⟩
 have n1:VG (tW ["a"]):=XN (by decide) (by decide+kernel)
 have n2:VG (tW ["a","a"]):=XN (by decide) (by decide+kernel)
 have n3:VG (tW ["x"]):=XN (by decide) (by decide+kernel)
 have n4:VG (tW ["A"]):=XN (by decide) (by decide+kernel)
 intro d hd
 unfold YW at hd
 simp only[List.mem_append,List.mem_cons,List.not_mem_nil,or_false]at hd
 rcases hd with(((rfl|rfl|rfl)|(rfl|rfl|rfl|rfl|rfl))|(rfl|rfl|rfl))|(rfl|rfl)
 ·exact⟨a,b,c,kc _⟩
 ·exact⟨a,b,c,.inr ⟨_,rfl⟩⟩
 ·exact⟨a,e,c,kc _⟩
 ·exact⟨f,b,c,kc _⟩
 ·exact⟨n0,n0,n0,kc _⟩
 ·exact⟨a,n1,n1,kc _⟩
 ·trivial
 ·trivial
 ·exact⟨a,n2,c,kc _⟩
 ·exact⟨a,n3,n3,kc _⟩
 ·exact⟨n4,n0,n0,kc _⟩
 ·exact⟨trivial,n0,n0,kc _⟩
 ·trivial
def qq:Str:=(envOfC "law" (Qd Kr) 0 0 .none).qual++"<lambda>"
def yx(Pa:Addr):Sp:=fun vs H Q _=>∃(a:Addr)(ns:List Int),vs=[.ref a]∧ns.length≤63∧kM Pa H∧(∃o,H a=some (.frz o (.lst (ns.map V.int))))∧∀H',Q (.bl true) H'
theorem yy{H:Hp}{P:Addr}{q:Str}(h:H P=some (.tbl #[])):WL H P q:=⟨#[],h,trivial,fun pos cv z=>by cases z⟩
def Kp(H H':Hp):Prop:=∀b o,H b=some o→(∀ps,o≠ .tbl ps)→(∀kvs,o≠ .dK kvs)→H' b=some o
theorem Kp.of{H H1:Hp}(a:Qg H H1):Kp H H1:=fun c o e _ _=>a c o e
theorem Kp.lam{H H1:Hp}(a:∀b o,H b=some o→(∀ps,o≠ .tbl ps)→H1 b=some o):Kp H H1:=fun c o e n _=>a c o e n
theorem Kp.vh{H H1:Hp}{a t r Pa:Addr}{q:Str}{ns:List Int}{c:Int}(St:LawSt H a t r Pa q ns c)(A:Apart t r H H1):Kp H H1:=fun b o e _ n=>St.keep A e n
def Kt(H H':Hp):Prop:=∀b xs,H b=some (.tup xs)→H' b=some (.tup xs)
theorem Kt.trans{H H1 H2:Hp}(a:Kt H H1)(b:Kt H1 H2):Kt H H2:=fun c o e=>b c o (a c o e)
theorem Kp.kt{H H1:Hp}(a:Kp H H1):Kt H H1:=fun b xs e=>a b _ e (fun _ z=>nomatch z) (fun _ z=>nomatch z)
theorem Kt.of{H H1:Hp}(a:Qg H H1):Kt H H1:=(Kp.of a).kt
theorem Kt.upd{H:Hp}{q:Addr}{o o':HO}(h:H q=some o)(n:∀xs,o≠ .tup xs):Kt H (upd H q o'):=fun b xs e=>by
 rw[Qi (fun z=>by rw[z,h]at e;exact n _ (Option.some.inj e))]
 exact e
theorem Kt.deep{H H1:Hp}(a:Kt H H1){x:V}{d:Dv}(D:Deep H x d):Deep H1 x d:=D.keep a
theorem Kt.VZ{H H1:Hp}(a:Kt H H1){xs:List V}{ds:List Dv}(D:Deeps H xs ds):Deeps H1 xs ds:=D.keep a
theorem qG{H:Hp}{a t r Pa:Addr}{q:Str}{ns:List Int}{c:Int}(S:LawSt H a t r Pa q ns c){b:Addr}{o o':HO}(h:H b=some o)(n:(∃xs,o=.lst xs)∨∃C dx fs,o=.ins C dx fs):LawSt (upd H b o') a t r Pa q ns c:=by
 have ne:∀z oz,H z=some oz→(∀xs,oz≠ .lst xs)→(∀C dx fs,oz≠ .ins C dx fs)→upd H b o' z=some oz:=fun z oz e n1 n2=>by
  rw[Qi fun y=>?_]
  ·exact e
  ·rw[y,h]at e
   obtain rfl:=Option.some.inj e
   rcases n with⟨xs,rfl⟩|⟨C,dx,fs,rfl⟩
   ·exact n1 _ rfl
   ·exact n2 _ _ _ rfl
 obtain⟨⟨o1,s1⟩,⟨rs,T⟩,⟨ps,p1,p2,p3⟩,l⟩:=S
 refine⟨⟨o1,ne _ _ s1 (fun _ z=>nomatch z) (fun _ _ _ z=>nomatch z)⟩,⟨rs,?_⟩,⟨ps,ne _ _ p1 (fun _ z=>nomatch z) (fun _ _ _ z=>nomatch z),p2,fun p cv z=>?_⟩,l⟩
 ·exact⟨ne _ _ T.tw (fun _ z=>nomatch z) (fun _ _ _ z=>nomatch z),ne _ _ T.rt (fun _ z=>nomatch z) (fun _ _ _ z=>nomatch z),T.vs,T.c0,T.ln,T.ne⟩
 ·obtain⟨a,z1,z2⟩:=p3 p cv z
  exact⟨a,z1,ne _ _ z2 (fun _ z=>nomatch z) (fun _ _ _ z=>nomatch z)⟩
theorem Kp.ws{H H1:Hp}(a:Kp H H1){x:V}{d:Wx}(D:Ws H x d):Ws H1 x d:=D.keep (fun b ys e=>a.kt b ys e) (fun b ys e=>⟨ys,a b _ e (fun _ z=>nomatch z) (fun _ z=>nomatch z)⟩)
structure DeskSt(C:Addr)(H0 H:Hp)(a t r Pa:Addr)(ns:List Int)(c:Int)(x:Addr)(pp:V)(q g:Addr)(xs ys:List V)(b:Bool)(n:Nat):Prop where
 law:LawSt H a t r Pa qq ns c
 kt:Kt H0 H
 rep:RepAt C H x pp q b xs n
 gd:H g=some (.lst ys)
 ne:g≠q
section
variable {C:Addr}{H0 H H':Hp}{a t r Pa:Addr}{ns:List Int}{c c':Int}{x:Addr}{pp:V}{q g:Addr}{xs ys:List V}{b:Bool}{n:Nat}
theorem DeskSt.keep(S:DeskSt C H0 H a t r Pa ns c x pp q g xs ys b n)(L:LawSt H' a t r Pa qq ns c')(k:Kp H H'):DeskSt C H0 H' a t r Pa ns c' x pp q g xs ys b n:=by
 obtain⟨dx,fs,hx,F⟩:=S.rep.ob
 exact⟨L,S.kt.trans k.kt,⟨⟨dx,fs,k _ _ hx (fun _ z=>nomatch z) (fun _ z=>nomatch z),F⟩,k _ _ S.rep.rs (fun _ z=>nomatch z) (fun _ z=>nomatch z)⟩,k _ _ S.gd (fun _ z=>nomatch z) (fun _ z=>nomatch z),S.ne⟩
theorem DeskSt.same(S:DeskSt C H0 H a t r Pa ns c x pp q g xs ys b n)(e:Qg H H'):DeskSt C H0 H' a t r Pa ns c x pp q g xs ys b n:=S.keep (S.law.same e) (Kp.of e)
theorem DeskSt.vh{K:PySem.W.Frag}(S:DeskSt C H0 H a t r Pa ns c x pp q g xs ys b n)(A:Apart t r H H')(B:Bag K H' a t r ns c'):DeskSt C H0 H' a t r Pa ns c' x pp q g xs ys b n:=by
 obtain⟨rs,T⟩:=B.tw
 exact S.keep (S.law.drawn A T) (Kp.vh S.law A)
theorem DeskSt.put(S:DeskSt C H0 H a t r Pa ns c x pp q g xs ys b n)(zs:List V):DeskSt C H0 (upd H q (.lst zs)) a t r Pa ns c x pp q g zs ys b n:=by
 obtain⟨dx,fs,hx,F⟩:=S.rep.ob
 refine⟨qG S.law S.rep.rs (.inl ⟨_,rfl⟩),S.kt.trans (Kt.upd S.rep.rs fun _ z=>nomatch z),⟨⟨dx,fs,?_,F⟩,Qc⟩,?_,S.ne⟩
 ·rw[Qi fun z=>?_]
  ·exact hx
  ·rw[z,S.rep.rs]at hx;cases hx
 ·rw[Qi S.ne]
  exact S.gd
theorem DeskSt.close(S:DeskSt C H0 H a t r Pa ns c x pp q g xs ys b n){dx:Addr}{fs:List (Str × V)}{b':Bool}{n':Nat}(F:Fd fs pp q b' n'):DeskSt C H0 (upd H x (.ins C dx fs)) a t r Pa ns c x pp q g xs ys b' n':=by
 obtain⟨dx0,fs0,hx,_⟩:=S.rep.ob
 refine⟨qG S.law hx (.inr ⟨_,_,_,rfl⟩),S.kt.trans (Kt.upd hx fun _ z=>nomatch z),⟨⟨dx,fs,Qc,F⟩,?_⟩,?_,S.ne⟩
 ·rw[Qi fun z=>?_]
  ·exact S.rep.rs
  ·rw[←z,S.rep.rs]at hx;cases hx
 ·rw[Qi fun z=>?_]
  ·exact S.gd
  ·rw[←z,S.gd]at hx;cases hx
theorem DeskSt.good(S:DeskSt C H0 H a t r Pa ns c x pp q g xs ys b n)(e:Qg H H'){g':Addr}{zs:List V}(h:H' g'=some (.lst zs))(hn:H g'=none):DeskSt C H0 H' a t r Pa ns c x pp q g' xs zs b n:=
 let S':=S.same e
 ⟨S'.law,S'.kt,S'.rep,h,fun z=>by rw[z,S.rep.rs]at hn;cases hn⟩
theorem XO{K:PySem.W.Frag}{cc:Nat→Addr}{te:XK→TE}{σ:L2.St}{Q:VK}(i:Nat)(St:DeskSt C H0 H a t r Pa ns c x pp q g xs ys b n)(G:Kind K cc i)
  (hte:∀(E:XK)(H1:Hp)(Q':VK),DeskSt C H0 H1 a t r Pa ns c x pp q g xs ys b n→Kp H H1→(∀H',Qg H1 H'→E (.ref (cc i)) none H')→te E σ H1 Q')
  (k:∀v H',DeskSt C H0 H' a t r Pa ns c x pp q g xs ys b n→Kp H H'→Deep H' v (.tup [.str (ww i)])→Q v H'):
  Qa0 Pa qq (fun σ f c' H1 Q=>H1 c'=some (Xe c' qq)∧tHd K cc te σ H1 Q) σ H Q:=by
 refine⟨St.law.tab,fun fl c' H1 un code T1 keep=>⟨code,fun H2 S2=>?_⟩⟩
 have k2:Kp H H2:=Kp.lam fun b o e n=>S2 _ _ (St.law.zt keep e n)
 have St2:=St.keep ((St.law.lam keep T1).same S2) k2
 refine hte _ _ _ St2 k2 fun H3 S3=>⟨i,rfl,G,fun ex pw H4 hex S4 hpw=>?_⟩
 have Sx:=S3.trans ((Qg.new hex).trans S4)
 have Sp:=Qg.new (o:=.tup [.str (ww i)]) hpw
 exact k _ _ ((St2.same Sx).same Sp) (fun b o e n1 n2=>Sp _ _ (Sx _ _ (k2 b o e n1 n2))) (.tup Qc (.cons .str .nil))
theorem jF{K:PySem.W.Frag}{cc:Nat→Addr}{te:XK→TE}{σ:L2.St}{Q:VK}(St:DeskSt C H0 H a t r Pa ns c x pp q g xs ys b n)
  (hte:∀(E:XK)(H1:Hp),DeskSt C H0 H1 a t r Pa ns c x pp q g xs ys b n→Kp H H1→te E σ H1 (fun v H2=>∀p,H2 p=none→Q (.ref p) (upd H2 p (.tup [.str "told",v])))):
  Qa0 Pa qq (fun σ f c' H1 Q=>H1 c'=some (Xe c' qq)∧tHd K cc te σ H1 Q) σ H Q:=by
 refine⟨St.law.tab,fun fl c' H1 un code T1 keep=>⟨code,fun H2 S2=>?_⟩⟩
 have k2:Kp H H2:=Kp.lam fun b o e n=>S2 _ _ (St.law.zt keep e n)
 exact hte _ _ (St.keep ((St.law.lam keep T1).same S2) k2) k2
end
theorem Kc{C:Addr}{c:Nat→Addr}{vs:List V}{H:Hp}{Q Q':VK}{E E':XK}(hE:∀cls x H,E cls x H→E' cls x H) (hQ:∀v H,Q v H→Q' v H) (h:WE C c vs H Q E):WE C c vs H Q' E':=by
 obtain⟨x,rv,pp,q,b,xs,n,π,d,e,RA,D,Z,W,A,l,h⟩:=h
 refine⟨x,rv,pp,q,b,xs,n,π,d,e,RA,D,Z,W,A,l,?_⟩
 rcases h with⟨h1,k⟩|⟨h1,h2,k⟩|⟨h1,h2,k⟩
 ·exact .inl ⟨h1,fun H' S=>hE _ _ _ (k H' S)⟩
 ·exact .inr (.inl ⟨h1,h2,fun H' S=>hE _ _ _ (k H' S)⟩)
 ·exact .inr (.inr ⟨h1,h2,fun H' S=>hQ _ _ (k H' S)⟩)
theorem YS{C:Addr}{c:Nat→Addr}{vs:List V}{H:Hp}{Q Q':VK}{E E':XK}(hE:∀cls x H,E cls x H→E' cls x H) (hQ:∀v H,Q v H→Q' v H) (h:Xm C c vs H Q E):Xm C c vs H Q' E':=by
 obtain⟨x,pp,q,b,xs,n,π,rows,e,RA,hn,D,Z,hk,t,Y,l,h⟩:=h
 refine⟨x,pp,q,b,xs,n,π,rows,e,RA,hn,D,Z,hk,t,Y,l,?_⟩
 rcases h with⟨h1,k⟩|⟨h1,k⟩
 ·exact .inl ⟨h1,fun H' S=>hE _ _ _ (k H' S)⟩
 ·exact .inr ⟨h1,fun u H1 dx fs S D F=>hQ _ _ (k u H1 dx fs S D F)⟩
theorem slN{x:V}{lo:Nat}{H:Hp}{Q:VK}{ds:List Dv}(hx:Deep H x (.tup ds))(k:∀v H',Qg H H'→Deep H' v (.tup (ds.drop lo))→Q v H'):zO x (some (lo:Int)) none H Q:=by
 obtain⟨a,xs,rfl,h1,t1⟩:=hx.Xy
 have l1:=t1.length
 refine⟨a,xs,rfl,.inl h1,fun z=>?_,fun _ p hp=>?_⟩
 ·rw[HT.Zk]at z
  refine k _ _ (Qg.refl _) ?_
  have e:ds.drop lo=ds:=by
   by_cases h0:ds=[]
   ·rw[h0];simp
   ·have:0<ds.length:=List.length_pos_iff.mpr h0
    rw[show lo=0 by omega,List.drop_zero]
  rw[e]
  exact hx
 ·have S:=Qg.new (o:=.tup (YT xs (some (lo:Int)) none)) hp
  have t2:Deeps H (YT xs (some (lo:Int)) none) (ds.drop lo):=by
   have e:YT xs (some (lo:Int)) none=xs.drop lo:=by
    unfold YT
    rw[HT.Zk,HT.U3]
    by_cases h:lo≤xs.length
    ·rw[show min lo xs.length=lo by omega,List.take_of_length_le (by rw[List.length_drop];omega)]
    ·rw[show min lo xs.length=xs.length by omega,List.drop_length,List.take_nil,List.drop_of_length_le (by omega)]
   rw[e]
   exact t1.drop lo
  exact k _ _ S (.tup Qc (t2.same S))
theorem V0{r:R2}{ta tb:TE}{σ:L2.St}{H:Hp}{Q:Bool→Hp→Prop}(h:ta σ H fun x H1=>tb σ H1 fun y H2=>r x y H2 fun b H3=>∃k,b=.bl k∧Q k H3):yS (tOp r ta tb) σ H Q:=h
theorem QaR{r:R2}{ta tb:TE}{D:Ends}{σ:L2.St}{H:Hp}(h:ta σ H fun x H1=>tb σ H1 fun y H2=>r x y H2 D.rt):vn (tOp r ta tb) D σ H:=h
theorem xU{ta tb:TE}{σ:L2.St}{H:Hp}{Q:VK}{b1 b2:Bool}(h1:∀R:VK,R (.bl b1) H→ta σ H R) (h2:b1=true→∀R:VK,R (.bl b2) H→tb σ H R) (k:Q (.bl (b1&&b2)) H):vm ta tb σ H Q:=by
 refine h1 _ ⟨b1,rfl,?_⟩
 cases b1 with
 |true=>exact Q3 (h2 rfl _ k)
 |false=>exact Jx k
theorem QaS{ta tb:TE}{σ:L2.St}{H:Hp}{Q:VK}{b1 b2:Bool}(h1:∀R:VK,R (.bl b1) H→ta σ H R) (h2:b1=false→∀R:VK,R (.bl b2) H→tb σ H R) (k:Q (.bl (b1||b2)) H):QbQ ta tb σ H Q:=by
 refine h1 _ ⟨b1,rfl,?_⟩
 cases b1 with
 |true=>exact Q3 k
 |false=>exact Jx (h2 rfl _ k)
theorem xV:∀d∈wA,d.depth≤8:=by decide+kernel
theorem WK{t u:TS}{D:Ends}{σ:L2.St}{H:Hp}(h:∀N:L2.St→Hp→Prop,(∀σ H,u D σ H→N σ H)→t {D with nx:=N} σ H):Zj t u D σ H:=h _ fun _ _ h=>h
theorem qH{J:It}{n:Nat}{Ok:Hp→Prop}{item:Nat→Hp→V→Hp→Prop}{g:TG}{tb:TS}{D:Ends}{σ:L2.St}{H:Hp}(F:Fix J n Ok item)(Pv:Nat→L2.St→Hp→Prop)(h0:Pv 0 σ H)(ho:∀i σ H,i≤n→Pv i σ H→Ok H)
  (hs:∀(N B:L2.St→Hp→Prop)(R:VK) i v σ H H',(∀σ H,Pv (i+1) σ H→N σ H)→i<n→Pv i σ H→item i H v H'→g v σ H' fun σ2 H2=>tb {nx:=N,ct:=N,bk:=B,rt:=R} σ2 H2) (hd:∀σ H,Pv n σ H→D.nx σ H):
  ∃W:Nat→Nat→L2.St→Hp→Prop,(∃m,W 0 m σ H)∧∀i m σ H,W i m σ H→
   (J.stop i H∧D.nx σ H)∨(J.go i H∧∃N:L2.St→Hp→Prop,(∀σ' H',N σ' H'→∃m',m'<m∧W (i+1) m' σ' H')∧∀x H',J.yld i H x H'→g x σ H' fun σ2 H2=>tb {D with nx:=N,ct:=N,bk:=D.nx} σ2 H2):=
 Zm F Pv h0 ho (fun i v σ H H'=>hs _ _ _ i v σ H H' fun _ _ h=>h) hd
theorem cb2{r:List V→Hp→VK→Prop}{te te2:TE}{σ:L2.St}{H:Hp}{Q:VK}(h:te σ H fun v H1=>te2 σ H1 fun w H2=>r [v,w] H2 Q):tCB r (Q8 te (Q8 te2 Kn)) σ H Q:=h
theorem Kx:("put":Str)≠"plan"∧("put":Str)≠"rows"∧("put":Str)≠"is_closed":=by decide+kernel
theorem Kd:("close":Str)≠"plan"∧("close":Str)≠"rows"∧("close":Str)≠"is_closed":=by decide+kernel
theorem QbN:("so_far":Str)≠"plan"∧("so_far":Str)≠"rows"∧("so_far":Str)≠"is_closed":=by decide+kernel
theorem QbO(sp:List Nat)(r:List Cell)(l:List (Int × Int)):List.zipWith x9 l (sp.map (Ks r))=Xo sp r l:=by
 unfold Xo
 rw[List.zipWith_map_right]
theorem jG(rows:List (List Cell)):(Dv.tup (rows.map Xn)).depth≤8:=by
 have:=Q5 (n:=2) (ds:=rows.map Xn) fun d hd=>by
  obtain⟨r,_,rfl⟩:=List.mem_map.mp hd
  exact Q5 (n:=1) fun d hd=>by
   obtain⟨c,_,rfl⟩:=List.mem_map.mp hd
   exact ZY c
 omega
theorem KitL.of{K:PySem.W.Frag}(t1:PySem.W.kitOne K (.type "NoneType") (.type "tuple")=some false)(t2:PySem.W.kitOne K (.type "bool") (.type "tuple")=some false)(t3:PySem.W.kitOne K (.type "int") (.type "tuple")=some false)(t4:PySem.W.kitOne K (.type "str") (.type "tuple")=some false)(t5:PySem.W.kitOne K (.type "tuple") (.type "tuple")=some true)(t6:PySem.W.kitOne K (.type "list") (.type "tuple")=some false)
  (s1:PySem.W.kitOne K (.type "NoneType") (.type "str")=some false) (s2:PySem.W.kitOne K (.type "bool") (.type "str")=some false) (s3:PySem.W.kitOne K (.type "int") (.type "str")=some false) (s4:PySem.W.kitOne K (.type "str") (.type "str")=some true) (s5:PySem.W.kitOne K (.type "tuple") (.type "str")=some false) (s6:PySem.W.kitOne K (.type "list") (.type "str")=some false)
  (ii:PySem.W.kitOne K (.type "int") (.type "int")=some true) (bi:PySem.W.kitOne K (.type "bool") (.type "int")=some true) (ib:PySem.W.kitOne K (.type "int") (.type "bool")=some false) (bb:PySem.W.kitOne K (.type "bool") (.type "bool")=some true):KitL K:=
 ⟨fun d=>by cases d<;>assumption,fun d=>by cases d<;>assumption,ii,bi,ib,bb⟩
theorem yz(π:Plan):toW (JM π)=.tup [tW π.cols,tW π.keys,tW π.sums,.int π.size]:=by
 unfold JM
 simp only[toW,z0, ←QaK]
theorem yA{t:TA}{ds:List Dv}(h:TaD t ds):TaD (Q8 (tC .non) t) (.non::ds):=fun σ H R k=>h σ H _ fun xs H1 S t=>k _ _ S (.cons .non t)
theorem QaT{b:Bool}{t:TA}{ds:List Dv}(h:TaD t ds):TaD (Q8 (tC (.bl b)) t) (.bl b::ds):=fun σ H R k=>h σ H _ fun xs H1 S t=>k _ _ S (.cons .bl t)
theorem yB{i:Int}{t:TA}{ds:List Dv}(h:TaD t ds):TaD (Q8 (tUn (rU fun i=>.int (-i)) (tC (.int i))) t) (.int (-i)::ds):=fun σ H R k=>⟨i,rfl,h σ H _ fun xs H1 S t=>k _ _ S (.cons .int t)⟩
theorem qI{H:Hp}{bs:List Bool}:∀{xs:List V},Deeps H xs (bs.map Dv.bl)→xs=bs.map V.bl:=by
 induction bs with
 |nil=>intro xs h;cases h;rfl
 |cons b bs ih=>
  intro xs h
  cases h with
  |cons h t=>
   rw[ih t]
   cases h
   rfl
theorem xW{K:PySem.W.Frag}{H:Hp}{n:Nat}:∀(bs:List Bool),Like K H n (bs.map V.bl) (bs.map V.bl)
 |[]=>.nil
 |b::bs=>.cons (by have:=EqD.flat (K:=K) (H:=H) (n:=n) (x:=.bl b) (y:=.bl b) rfl rfl;cases b<;>exact this) (xW bs)
section
variable {P:Program}{w:World}{K:PySem.W.Frag}{mg:Str→Option Value}{base:Heap}{f:Addr}{fd:FuncData}{tk:Nat→Tok}{c kr:Nat→Addr}
def QbP:Sp:=fun vs H Q _=>∃(a b:Bool),vs=[.bl a,.bl b]∧Q (.bl (a==b)) H
theorem jH(F:Fun K "_law_is" "_law_is" Wp f fd)(O:Own mg)(KT:KitL K):FnOk P w K mg base (CXE P w) 1 f fd ["_law_told","_law_due"] QbP:=by
 refine zq F ji (fun vs H Q E h=>?_) (fun cdv A outer s H vs Q E hr h=>?_)
 ·obtain⟨a,b,rfl,_⟩:=h
  rfl
 ·obtain⟨a,b,rfl,k⟩:=h
  refine⟨_,(QF (QJ (PEx.mk (Zz (Qh Qx rfl O.isi PyProof.Rows.boot_isinstance (QC (pv 0) (QC (JQ (v:=V.ty "bool") rfl O.bool PyProof.Rows.boot_bool rfl) Qb))) (Zy (Jl Xr (pv 0) (pv 1) (Qz _))))))),?_⟩
  refine⟨_,rfl,_,_,true,rfl,rfl,.inl ⟨_,.bl _,KT.bb⟩,true,rfl,Q3 ⟨_,rfl,_,rfl,rfl,?_⟩⟩
  have e:decide (V.bl a=V.bl b)=(a==b):=by cases a<;>cases b<;>rfl
  rw[e]
  exact k
end
end Lw
set_option Elab.async false
set_option linter.all false
set_option maxRecDepth 100000
namespace Lw
open PySem PySem.Spec PyProof.Rows L2 K34
open Builtin Builtin.Str StrLaws
def QaU:R2:=fun x y H Q=>∃p xs i v,x=.ref p∧y=.int i∧Rd H p (.tup xs)∧atI xs i=some v∧Q v H
section
variable {P:Program}{w:World}{K:PySem.W.Frag}{mg:Str→Option Value}{base:Heap}{f:Addr}{fd:FuncData}{tk:Nat→Tok}{c kr:Nat→Addr}{ca Pa fh C:Addr}{fdh:FuncData}
set_option maxHeartbeats 8000000 in
theorem QaV(F:FunC K "law" "law" Kr f fd (.ref ca))(O:Own mg)(OT:mg "tuple"=none)(OM:mg "min"=none)(OL:mg "list"=none)(T:Txt K mg tk c kr)(L:Lamb mg base ca Pa)(Fh:Fun K "_law_heard" "_law_heard" QZ fh fdh)(hmh:mg "_law_heard"=some (.ref fh))(hbh:Binds K fdh ["_law_deed"] [])(G13:Kind K c 13)(G14:Kind K c 14)
  (D__law_class:Def P w K mg base 1 "_law_class" ["_law_kept"] (WG K c)) (D__law_begun:Def P w K mg base 1 "_law_begun" [] Ug) (D__law_draw:Def P w K mg base 1 "_law_draw" ["_law_script","_law_town","_law_many"] (W5 K))
  (D__law_a_plan:Def P w K mg base 2 "_law_a_plan" ["_law_script","_law_town"] (UO K)) (D__law_no_plans:Def P w K mg base 1 "_law_no_plans" ["_law_plan"] xM) (D__law_is:Def P w K mg base 1 "_law_is" ["_law_told","_law_due"] QbP) (D__law_plus:Def P w K mg base 1 "_law_plus" ["_law_one","_law_two"] xz)
  (D_is_plan:Def P w K mg base 3 "is_plan" ["thing"] UF) (D_is_row:Def P w K mg base 3 "is_row" ["plan","thing"] qo) (D_report:Def P w K mg base 8 "report" ["plan","rows"] KK)
  (C_Report:DefC P w K mg base C 1 "Report" ["self","plan"] (xE C)) (M_Report_put:DefM P w K mg base C 4 "put" ["self","row"] (WE C c)) (M_Report_close:DefM P w K mg base C 9 "close" ["self"] (Xm C c)) (M_Report_so_far:DefM P w K mg base C 7 "so_far" ["self"] (UW C)) (ML_Report:DefM P w K mg base C 1 "__len__" ["self"] (xF C)):
  FnOk P w K mg base (CXE P w) 12 f fd ["_law_script"] (yx Pa):=by
 refine Qbx F Ji (fun vs H Q E h=>?_) (fun A outer s H vs Q E hr h=>?_)
 ·obtain⟨a,ns,rfl,_⟩:=h
  rfl
 ·obtain⟨a,ns,rfl,hln,hO,hsc,k⟩:=h
  have mono1:∀(σ:L2.St)(H:Hp)(Q Q':VK)(E E':XK),(∀cls x H,E cls x H→E' cls x H)→(∀v H,Q v H→Q' v H)→Ko C "put" (WE C c) [] E (WV 17) (Q8 (WV 19) Kn) σ H Q→Ko C "put" (WE C c) [] E' (WV 17) (Q8 (WV 19) Kn) σ H Q':=by
   rintro σ H Q Q' E E' hE hQ ⟨v1,e1,a1,dx,fs,h1,h2,h3,v2,e2,sp⟩
   exact⟨v1,e1,a1,dx,fs,h1,h2,h3,v2,e2,Kc hE hQ sp⟩
  have mono2:∀(σ:L2.St)(H:Hp)(Q Q':VK)(E E':XK),(∀cls x H,E cls x H→E' cls x H)→(∀v H,Q v H→Q' v H)→Ko C "put" (WE C c) [] E (WV 17) (Q8 (tOp QaU (WV 18) (tC (.int 0))) Kn) σ H Q→Ko C "put" (WE C c) [] E' (WV 17) (Q8 (tOp QaU (WV 18) (tC (.int 0))) Kn) σ H Q':=by
   rintro σ H Q Q' E E' hE hQ ⟨v1,e1,a1,dx,fs,h1,h2,h3,v2,e2,b2,xs2,i2,x2,w1,w2,w3,w4,sp⟩
   exact⟨v1,e1,a1,dx,fs,h1,h2,h3,v2,e2,b2,xs2,i2,x2,w1,w2,w3,w4,Kc hE hQ sp⟩
  have mono3:∀(σ:L2.St)(H:Hp)(Q Q':VK)(E E':XK),(∀cls x H,E cls x H→E' cls x H)→(∀v H,Q v H→Q' v H)→Ko C "close" (Xm C c) [] E (WV 17) Kn σ H Q→Ko C "close" (Xm C c) [] E' (WV 17) Kn σ H Q':=by
   rintro σ H Q Q' E E' hE hQ ⟨v1,e1,a1,dx,fs,h1,h2,h3,sp⟩
   exact⟨v1,e1,a1,dx,fs,h1,h2,h3,YS hE hQ sp⟩
  have mono4:∀(σ:L2.St)(H:Hp)(Q Q':VK)(E E':XK),(∀cls x H,E cls x H→E' cls x H)→(∀v H,Q v H→Q' v H)→Ko C "put" (WE C c) [] E (WV 17) (Q8 (wJ Kn) Kn) σ H Q→Ko C "put" (WE C c) [] E' (WV 17) (Q8 (wJ Kn) Kn) σ H Q':=by
   rintro σ H Q Q' E E' hE hQ ⟨v1,e1,a1,dx,fs,h1,h2,h3,v2,sp⟩
   exact⟨v1,e1,a1,dx,fs,h1,h2,h3,v2,fun p hp=>Kc hE hQ (sp p hp)⟩
  have hz:100000≤sizeLine:=by rw[sizeLine_eq];decide
  refine⟨_,(Qo (QY (i:=1) Ji.nd rfl (Or.inl rfl) (PEx.mk (D__law_begun.pe0 hr (by decide) rfl Qn)) rfl rfl)
   (Qo (PSy.mk (Zb (D__law_a_plan.pe hr (by decide) rfl Qn (QC (pv 0) (QC (pv 1) Qb))) (Jy rfl (Qk (Qj (i:=2) Ji.nd rfl (Or.inl rfl)) (Qk (Qj (i:=18) Ji.nd rfl (Or.inr rfl)) QX)))))
   (Qo (PSy.mk (Zb (pv 2) (Jy rfl (Qk (Qj (i:=3) Ji.nd rfl (Or.inr rfl)) (Qk (Qj (i:=4) Ji.nd rfl (Or.inl rfl)) (Qk (Qj (i:=5) Ji.nd rfl (Or.inl rfl)) (Qk (Qj (i:=6) Ji.nd rfl (Or.inl rfl)) QX)))))))
   (Qo (QY (i:=7) Ji.nd rfl (Or.inl rfl) (YF D__law_no_plans hr (by decide) rfl Qn (Qs (PEx.mk (pv 2)) Ql rfl) rfl rfl) rfl rfl)
   (Qo (ZM (wW (z7 (UA (KG (JY D__law_is hr (by decide) rfl Qn (Qs (YF D_is_plan hr (by decide) rfl Qn (Qs (PEx.mk (pv 2)) Ql rfl) rfl rfl) (Qs (PEx.mk JP) Ql rfl) rfl) rfl rfl rfl))) (z5 (PTx.mk (QB (Qap (n:=1) (Qbu hr)) (ZU (NB:=[".0","_law_thing"]) rfl ⟨rfl,by decide+kernel,by decide+kernel,by decide+kernel⟩ (XR (pv 7)) (fun _ _ _=>(Qj (i:=1) (show([".0","_law_thing"]:List Str).Nodup by decide+kernel) rfl (Or.inl rfl))) (fun _ _ _=>Jm) (fun _ _ _=>(D_is_plan.pe hr (by decide) rfl Qn (QC (pv 1) Qb)))) (ZU (NB:=[".0","_law_thing"]) rfl ⟨rfl,by decide+kernel,by decide+kernel,by decide+kernel⟩ (XR (pv 7)) (fun _ _ _=>(Qj (i:=1) (show([".0","_law_thing"]:List Str).Nodup by decide+kernel) rfl (Or.inl rfl))) (fun _ _ _=>Jm) (fun _ _ _=>JP)) (Qz _)))))) (QF (QJ (PEx.mk JP))) Jw)
   (Qo (PSy.mk (Zb (Qv (QC (C_Report.pe hr (by decide) rfl Qn (QC (pv 2) Qb)) (QC (Js Qb) Qb))) (Jy rfl (Qk (Qj (i:=17) Ji.nd rfl (Or.inr rfl)) (Qk (Qj (i:=8) Ji.nd rfl (Or.inl rfl)) QX)))))
   (Qo (Uy PassesOwn.never rfl (Z4 (pv 18)) (Qj (i:=9) Ji.nd rfl (Or.inr rfl)) (Qo (QY (i:=10) Ji.nd rfl (Or.inl rfl) (PEx.mk (D__law_draw.pe hr (by decide) rfl Qn (QC (pv 0) (QC (pv 1) (QC Qf Qb))))) rfl rfl)
   (Qo (QY (i:=11) Ji.nd rfl (Or.inl rfl) (PEx.mk (QT KD (Js (QC WW (QC Qf (QC (Qv (QC Qf (QC (vo jU Qf) Qb))) (QC (Qv (QC Qf (QC Qf Qb))) (QC (Qv (QC JP (QC Qf Qb))) (QC Qq (QC (Qv (QC Qf (QC Qf (QC Qf Qb)))) (QC Qq Qb))))))))) (D__law_draw.pe hr (by decide) rfl Qn (QC (pv 0) (QC (pv 1) (QC Qf Qb)))) (fun _ _=>rfl))) rfl rfl)
   (Qo (QY (i:=12) Ji.nd rfl (Or.inl rfl) (XF J4 (XF J4 (PEx.mk (ZR X0 (pv 9) KU (ZA (pv 10)))) (QI (Qs (PEx.mk (pv 11)) Ql rfl))) (PEx.mk (ZR X0 (pv 9) (ZA (QA Z5 (pv 10) Qf)) KU))) rfl rfl)
   (Qo (QY (i:=13) Ji.nd rfl (Or.inl rfl) (wf (PEx.mk (Jl (Uj (n:=8) (Vu hr)) (pv 11) Qq (Qz _))) (PEx.mk (Jl YB (QT Qt (pv 3) (pv 10) (fun _ _=>rfl)) (pv 5) (by with_unfolding_all rfl)))) rfl rfl)
   (Qo (ZM (UA (KG (JY D__law_is hr (by decide) rfl Qn (Qs (JY D_is_row hr (by decide) rfl Qn (Qs (PEx.mk (pv 2)) (Qs (PEx.mk (pv 9)) Ql rfl) rfl) rfl rfl rfl) (Qs (PEx.mk JP) Ql rfl) rfl) rfl rfl rfl))) (QF (QJ (PEx.mk JP))) Jw)
   (Qo (ZM (UA (KG (JY D__law_is hr (by decide) rfl Qn (Qs (JY D_is_row hr (by decide) rfl Qn (Qs (PEx.mk (pv 2)) (Qs (PEx.mk (pv 12)) Ql rfl) rfl) rfl rfl rfl) (Qs (PEx.mk (pv 13)) Ql rfl) rfl) rfl rfl rfl))) (QF (QJ (PEx.mk JP))) Jw)
   (Qo (ZM (KG (JY D_is_row hr (by decide) rfl Qn (Qs (PEx.mk (pv 2)) (Qs (PEx.mk (ZR X0 (pv 9) (ZA Qf) KU)) Ql rfl) rfl) rfl rfl rfl)) (QF (QJ (PEx.mk JP))) Jw)
   (Qo (QY (i:=14) Ji.nd rfl (Or.inl rfl) (PEx.mk (Qh (jZ rfl) rfl OM PyProof.Rows.boot_min (QC Qf (QC (QA Vi (D__law_draw.pe hr (by decide) rfl Qn (QC (pv 0) (QC (pv 1) (QC Qf Qb)))) Qf) Qb)))) rfl rfl)
   (Qo (PSy.mk (Zb (Qv (QC (QT KD (Js (QC (pv 9) (QC (pv 12) (QC (QH Ki rfl OL PyProof.Rows.boot_list (QC (pv 9) Qb)) (QC (QA J4 (pv 9) (Qv (QC Qq Qb))) Qb))))) (pv 14) (fun _ _=>rfl)) (QC (yP (Jl Xr (pv 14) Qf (Qz _)) (Zy (Zz (Jl Xr (pv 14) Qf (Qz _)) (Zy (pv 13))))) Qb))) (Jy rfl (Qk (Qj (i:=19) Ji.nd rfl (Or.inr rfl)) (Qk (Qj (i:=15) Ji.nd rfl (Or.inl rfl)) QX)))))
   (Qo (ZM (PTx.mk (QB (XW (n:=8) (Vu hr)) (KL (K0:=K) (q:=qq) rfl Fh hmh hbh T D__law_class hr rfl L rfl rfl rfl (fun _=>rfl) rfl rfl rfl (by decide+kernel) rfl (fun _ _ _ _=>rfl) (fun _ _ _ _ _ _ _ _ hr2=>(M_Report_put.pe hr2 (by decide) (JN KA) (pv 17) (QC (pv 19) Qb))) mono1) (J0 (ZQ (pv 15) (fun _=>rfl)) (Qv (QC Qq (QC WW Qb))) (Qv (QC Qq Qb))) (Qz _))) (QF (QJ (PEx.mk JP))) Jw)
   (QF (QY (i:=8) Ji.nd rfl (Or.inl rfl) (XF Xu (PEx.mk (pv 8)) (QaB (ZQ (pv 15) (fun _=>rfl)) (XV (Qs (PEx.mk (pv 19)) Ql rfl)) (XV Ql))) rfl rfl)))))))))))) (fun _=>rfl))
   (Qo (QY (i:=16) Ji.nd rfl (Or.inl rfl) (PEx.mk (QH Qw rfl OT PyProof.Rows.boot_tuple (QC (ZU (NB:=[".0","_law_name"]) rfl ⟨rfl,by decide+kernel,by decide+kernel,by decide+kernel⟩ (Z4 (pv 5)) (fun _ _ _=>(Qj (i:=1) (show([".0","_law_name"]:List Str).Nodup by decide+kernel) rfl (Or.inl rfl))) (fun _ _ _=>Jm) (fun _ _ _=>(Qv (QC Qf (QC Qf Qb))))) Qb))) rfl rfl)
   (Qo (Uy PassesOwn.never rfl (XR (pv 8)) (Qj (i:=9) Ji.nd rfl (Or.inr rfl)) (QF (QY (i:=16) Ji.nd rfl (Or.inl rfl) (JY D__law_plus hr (by decide) rfl Qn (Qs (PEx.mk (pv 16)) (Qs (PEx.mk (Jt (NB:=[".0","_law_name"]) (FR:=["_law_columns","_law_row"]) (fi:=[3,9]) rfl ⟨rfl,by decide+kernel,by decide+kernel,by decide+kernel,by decide+kernel,by decide+kernel⟩ rfl rfl (Z4 (pv 5)) (fun _ _ _=>(Qj (i:=1) (show([".0","_law_name","_law_columns","_law_row"]:List Str).Nodup by decide+kernel) rfl (Or.inl rfl))) (fun _ _ _=>Jm) (fun _ _ _=>(QT Qt (pv 3) (wU (K0:=K) rfl PySem.F.plainAttrs_tuple PySem.F.slot_tuple_index PySem.F.type_tuple_index W9 (pv 2) (QC (pv 1) Qb)) (fun _ _=>rfl))))) Ql rfl) rfl) rfl rfl rfl) rfl rfl)) (fun _=>rfl))
   (Qo (ZM (wW (z7 (PTx.mk (QB (XW (n:=8) (Vu hr)) (M_Report_so_far.pe0 hr (by decide) Qn (pv 17)) (pv 16) (Qz _))) (z7 (PTx.mk (QB Y4 (Qh (xG ML_Report hr (by decide) Qn) rfl O.len PySem.boot_len (QC (pv 17) Qb)) (Qh Qp rfl O.len PySem.boot_len (QC (pv 8) Qb)) (Qz _))) (z5 (PTx.mk (QB (XW (n:=8) (Vu hr)) (M_Report_close.pe0 hr (by decide) Qn (pv 17)) (D_report.pe hr (by decide) rfl Qn (QC (pv 2) (QC (QH Qw rfl OT PyProof.Rows.boot_tuple (QC (pv 8) Qb)) Qb))) (Qz _))))))) (QF (QJ (PEx.mk JP))) Jw)
   (Qo (ZM (PTx.mk (PW.pt (UZ (QB (XW (n:=8) (Vu hr)) (pv 18) (Qv Qb) (Qz _)) (Y3 (QB (XW (n:=8) (Vu hr)) (KL (K0:=K) (q:=qq) rfl Fh hmh hbh T D__law_class hr rfl L rfl rfl rfl (fun _=>rfl) rfl rfl rfl (by decide+kernel) rfl (fun _ _ _ _=>rfl) (fun _ _ _ _ _ _ _ _ hr2=>(M_Report_put.pe hr2 (by decide) (JN KA) (pv 17) (QC (QT Qt (pv 18) Qf (fun _ _=>rfl)) Qb))) mono2) (Qv (QC Qq Qb)) (Qz _)))))) (QF (QJ (PEx.mk JP))) Jw)
   (Qo (ZM (PTx.mk (QB (XW (n:=8) (Vu hr)) (KL (K0:=K) (q:=qq) rfl Fh hmh hbh T D__law_class hr rfl L rfl rfl rfl (fun _=>rfl) rfl rfl rfl (by decide+kernel) rfl (fun _ _ _ _=>rfl) (fun _ _ _ _ _ _ _ _ hr2=>(M_Report_close.pe0 hr2 (by decide) (JN KA) (pv 17))) mono3) (Qv (QC Qq Qb)) (Qz _))) (QF (QJ (PEx.mk JP))) Jw)
   (QF (QJ (PEx.mk (Jl (Uj (n:=8) (Vu hr)) (KL (K0:=K) (q:=qq) rfl Fh hmh hbh T D__law_class hr rfl L rfl rfl rfl (fun _=>rfl) rfl rfl rfl (by decide+kernel) rfl (fun _ _ _ _=>rfl) (fun _ _ _ _ _ _ _ _ hr2=>(M_Report_put.pe hr2 (by decide) (JN KA) (pv 17) (QC (Qv Qb) Qb))) mono4) (Qv (QC Qq Qb)) (Qz _))))))))))))))))),?_⟩
  refine WK fun N1 n1=>?_
  refine⟨rfl,fun t r H1 ht hr1 T1 S1=>n1 _ _ (WK fun N2 n2=>?_)⟩
  have St1:LawSt H1 a t r Pa qq ns 0:=⟨let ⟨o,h⟩:=hsc;⟨o,S1 _ _ h⟩,⟨[],T1⟩,(yy hO.1).same S1,hln⟩
  clear T1 S1 ht hr1 hsc hO
  try dsimp only[QL,JI,QK]
  refine⟨_,rfl,_,rfl,a,t,r,ns,0,rfl,St1.bag,by omega,fun v H3 π rows c3 B3 hc3 A3 D3 Z hcl hk hrl Y=>?_⟩
  obtain⟨rs3,T3⟩:=B3.tw
  have St3:=St1.drawn A3 T3
  clear St1 B3 A3 T3
  obtain⟨q,xs,rfl,gq,tq⟩:=Deep.Xy D3
  cases tq with
  |@cons pv _ _ _ Dp tq=>
  cases tq with
  |@cons rv _ _ _ DR tq=>
  cases tq
  refine⟨q,_,rfl,.inl (.inl gq),rfl,_,_,rfl,_,_,rfl,rfl,?_⟩
  clear D3 gq
  obtain⟨ap,ac,ak,as,PL⟩:=Ju Dp
  obtain rfl:=PL.v
  refine n2 _ _ (WK fun N3 n3=>?_)
  refine⟨_,rfl,ap,_,rfl,.inl (.inl PL.a),rfl,_,_,rfl,_,_,rfl,_,_,rfl,_,_,rfl,rfl,?_⟩
  refine n3 _ _ (WK fun N4 n4=>?_)
  refine⟨_,rfl,.ref ap,π,rfl,Dp,Z,fun qb xb H4 S4 gb tb=>?_⟩
  refine n4 _ _ (WK fun N5 n5=>?_)
  try dsimp only[QL,JI,QK]
  refine⟨_,rfl,.ref ap,.tup [tW π.cols,tW π.keys,tW π.sums,.int π.size],rfl,?_,wC Z,fun H5 S5=>⟨true,true,?_,?_⟩⟩
  ·rw[←yz]
   exact(Dp.same S4).ws
  ·rw[QaL Z]
   rfl
  refine⟨true,rfl,Jx ?_⟩
  have hq0:π.cols.contains "q"=false:=(by decide+kernel:∀cs∈WR,cs.contains "q"=false) _ hcl
  have S5':=S5
  have S5:=S4.trans S5
  have lb:=tb.length
  have lbp:(YW π).length=13:=rfl
  have gb5:=S5' _ _ gb
  have tb5:=tb.same S5'
  refine V0 ?_
  refine XD (yG (K:=K) (a:=qb) (xs:=xb)) ((YW π).map fun _=>Dv.bl false) (by rw[List.length_map];omega) (fun R h=>⟨_,rfl,qb,rfl,⟨_,.inl (.inl gb5)⟩,h _ (Qg.refl _)⟩) (fun H1 S=>.inl (.inl (S _ _ gb5))) ?_ ?_ (by omega)
  ·rintro i x H7 H8 dd R hd2 S ⟨rfl,hv⟩ kk2
   obtain⟨dv,hdv,ddv⟩:=tb5.W7 hv
   have hm:=List.mem_of_getElem? hdv
   refine⟨_,rfl,x,dv,rfl,ddv.same S,yw Z dv hm,fun H9 S9=>?_⟩
   rw[QaN hq0 dv hm]
   refine kk2 _ _ S9 ?_
   rw[List.getElem?_map,hdv]at hd2
   rw[←Option.some.inj hd2]
   exact .bl
  rintro z1 H6 p6 S6 t6 hp6
  obtain rfl:=qI (bs:=(YW π).map fun _=>false) (by rw[List.map_map];exact t6)
  have S7:=S6.trans (Qg.new (o:=.lst (((YW π).map fun _=>false).map V.bl)) hp6)
  have g7:upd H6 p6 (.lst (((YW π).map fun _=>false).map V.bl)) p6=some (.lst (((YW π).map fun _=>false).map V.bl)):=Qc
  generalize upd H6 p6 (.lst (((YW π).map fun _=>false).map V.bl))=H7 at S7 g7
  have gb7:=S7 _ _ gb5
  have tb7:=tb5.same S7
  clear S6 t6 hp6
  refine XD (yG (K:=K) (a:=qb) (xs:=xb)) ((YW π).map fun _=>Dv.bl false) (by rw[List.length_map];omega) (fun R h=>⟨_,rfl,qb,rfl,⟨_,.inl (.inl gb7)⟩,h _ (Qg.refl _)⟩) (fun H1 S=>.inl (.inl (S _ _ gb7))) ?_ ?_ (by omega)
  ·rintro i x H8 H9 dd R hd2 S ⟨rfl,hv⟩ kk2
   obtain⟨dv,hdv,ddv⟩:=tb7.W7 hv
   refine kk2 _ _ (Qg.refl _) ?_
   rw[List.getElem?_map,hdv]at hd2
   rw[←Option.some.inj hd2]
   exact .bl
  rintro z2 H8 p8 S8 t8 hp8
  obtain rfl:=qI (bs:=(YW π).map fun _=>false) (by rw[List.map_map];exact t8)
  have S9:=S8.trans (Qg.new (o:=.lst (((YW π).map fun _=>false).map V.bl)) hp8)
  refine⟨p6,p8,_,_,rfl,rfl,.inl (.inl (S9 _ _ g7)),.inl (.inl Qc),xW _,false,rfl,Jx ?_⟩
  generalize upd H8 p8 (.lst (((YW π).map fun _=>false).map V.bl))=H9 at S9
  have S39:=S5.trans (S7.trans S9)
  clear S8 t8 hp8 S7 S9 g7 gb7 tb7 gb5 tb5 gb tb S4 S5 S5'
  have St9:=St3.same S39
  clear lb lbp hq0
  refine n5 _ _ (WK fun N6 n6=>?_)
  refine⟨_,rfl,fun xd dx hxd hdx hne=>⟨xd,dx,.ref ap,rfl,Qc,fun qr H10 hqr RA keep=>⟨rfl,?_⟩⟩⟩
  have S10:Qg H9 H10:=fun b o e=>by
   have n1:b≠xd:=fun z=>by rw[z,hxd]at e;cases e
   have n2:b≠dx:=fun z=>by rw[z,hdx]at e;cases e
   refine keep b o ?_ n1
   rw[Qi n1,Qi n2]
   exact e
  clear keep hqr hxd hdx hne
  refine⟨by show 0≤sizeLine;omega,fun g0 hg0=>?_⟩
  have D10:DeskSt C H3 (upd H10 g0 (.lst [])) a t r Pa ns c3 xd (.ref ap) qr g0 [] [] false 3:=by
   have Sn:=Qg.new (o:=.lst []) hg0
   exact⟨(St9.same S10).same Sn,Kt.of (S39.trans (S10.trans Sn)),RA.same Sn,Qc,fun z=>by rw[z,RA.rs]at hg0;cases hg0⟩
  generalize upd H10 g0 (.lst [])=H11 at D10
  clear hg0 S10 S39 St3 St9 RA
  refine⟨by show 2≤sizeLine;omega,fun pt hpt=>⟨pt,_,rfl,.inl (.inl Qc),rfl,_,_,rfl,_,_,rfl,rfl,?_⟩⟩
  have D12:=D10.same (Qg.new (o:=.tup [.ref xd,.ref g0]) hpt)
  generalize upd H11 pt (.tup [.ref xd,.ref g0])=H12 at D12
  clear D10 hpt
  refine n6 _ _ (WK fun N7 n7=>?_)
  obtain⟨ar,xr,rfl,gr,tr⟩:=Deep.Xy DR
  have lr:=tr.length
  rw[List.length_map]at lr
  refine⟨_,rfl,ar,rfl,⟨_,.inl (.inl (D12.kt _ _ gr))⟩,?_⟩
  refine qH (x6 (K:=K) (a:=ar) (xs:=xr)) (fun i σ H13=>∃(y9 y10 y11 y12 y13 y14 y15 y19:Option V)(c13:Int)(g:Addr)(xs:List V)(good:List (List Cell)),σ=[some (.ref a),some (.ref t),some (.ref ap),some (.ref ac),some (.ref ak),some (.ref as),some (.int π.size),some (.ref qb),some (.ref g),y9,y10,y11,y12,y13,y14,y15,none,some (.ref xd),some (.ref ar),y19]∧DeskSt C H3 H13 a t r Pa ns c13 xd (.ref ap) qr g xs xs false 3∧c13≤c3+3*i∧Deeps H13 xs (good.map Xn)∧(∀r∈good,RowOk π r)∧good.length≤i)
   ⟨none,none,none,none,none,none,none,none,c3,g0,[],[],rfl,D12,by omega,.nil,(fun r hr=>nomatch hr),Nat.zero_le _⟩ ?_ ?_ ?_
  ·rintro i σ H13 _ ⟨y9,y10,y11,y12,y13,y14,y15,y19,c13,g,xs,good,rfl,D13,_⟩
   exact .inl (.inl (D13.kt _ _ gr))
  ·rintro N20 Bk Rt i rv0 σ H13 H13' hN20 hi ⟨y9,y10,y11,y12,y13,y14,y15,y19,c13,g,xs,good,rfl,D13,hc13,tg,Yg,lg⟩ ⟨rfl,hv⟩
   obtain⟨row,hrow,Dr⟩:=Zs tr hv
   have Yr:=Y _ (List.mem_of_getElem? hrow)
   have lrow:row.length=5:=by rw[Yr.len];exact(by decide+kernel:∀cs∈WR,cs.length=5) _ hcl
   have lcol:=Yr.len
   refine WK fun N21 n21=>?_
   try dsimp only[QL,JI,QK]
   refine Bag.draw (K:=K) D13.law.bag rfl rfl (fun R h=>h) (by decide) (by decide) (by omega) fun j H14 hj B14 A14=>?_
   have tg14:=(Kp.vh D13.law A14).kt.VZ tg
   have D14:=D13.vh A14 B14
   clear D13 B14 A14 tg
   refine n21 _ _ (WK fun N22 n22=>?_)
   try dsimp only[QL,JI,QK]
   refine Bag.jm (K:=K) (ds:=wA) D14.law.bag rfl rfl (yA (Jn (Ja (Jn (yB QN)) (by decide) (Ja (Jn (Jn QN)) (by decide) (Ja (QaT (Jn QN)) (by decide) (QO (Ja (Jn (Jn (Jn QN))) (by decide) (QO QN)))))))) rfl (by decide) (by decide) (by omega) fun jo ov od H15 hod Do B15 A15=>?_
   have hodm:=List.mem_of_getElem? hod
   have tg15:=(Kp.vh D14.law A15).kt.VZ tg14
   have D15:=D14.vh A15 B15
   clear D14 B15 A15 tg14
   have hj5:j<5:=by omega
   obtain⟨col,hcol⟩:∃col,π.cols[j]? =some col:=⟨_,List.getElem?_eq_getElem (by omega)⟩
   have Dr15:=D15.kt.deep Dr
   have hlm:(row.map Cell.dv).length=5:=by rw[List.length_map];exact lrow
   refine n22 _ _ (WK fun N23 n23=>?_)
   try dsimp only[QL,JI,QK]
   refine⟨_,rfl,_,rfl,_,rfl,zO.v3 (hi:=j) (ds:=row.map Cell.dv) Dr15 fun u1 H16 S16 D1=>⟨_,rfl,by show 1≤sizeLine;omega,fun p1 hp1=>?_⟩⟩
   have Sn:=Qg.new (o:=.tup [ov]) hp1
   refine We.deep (es:=[od]) (D1.same Sn) (.tup Qc (.cons ((Do.same S16).same Sn) .nil)) (by rw[List.length_take];show _+1≤sizeLine;omega) fun u2 H17 S17 D2=>?_
   have S17:=(S16.trans Sn).trans S17
   clear Sn hp1 D1 S16
   refine⟨_,rfl,_,rfl,j,1,rfl,rfl,((j+1:Nat):Int),congrArg V.int (by omega),?_⟩
   dsimp only[Y5]
   refine slN (lo:=j+1) (ds:=row.map Cell.dv) (Dr15.same S17) fun u3 H18 S18 D3=>?_
   refine We.deep (D2.same S18) D3 (by rw[List.length_append,List.length_take,List.length_drop];show _+1+_≤sizeLine;omega) fun uo H19 S19 D4=>?_
   have S19:=(S17.trans S18).trans S19
   have D4:Deep H19 uo (.tup (qF row j od)):=D4
   have D19:=D15.same S19
   have tg19:=tg15.same S19
   have Do19:=Do.same S19
   clear S17 S18 S19 D15 tg15 Do D2 D3 Dr15
   refine n23 _ _ (WK fun N24 n24=>?_)
   try dsimp only[QL,JI,QK]
   have as19:=D19.kt _ _ PL.s
   have ac19:=D19.kt _ _ PL.c
   refine xU (b1:=ve od) (b2:= !(π.sums.contains col)) (fun R h=>⟨_,rfl,od,.str "~ ",Do19,.str,xV od hodm,h⟩) (fun _ R h=>⟨_,rfl,_,rfl,ac,_,(j:Int),.str col,rfl,rfl,.inl ac19,Q9 (by rw[List.getElem?_map,hcol];rfl),_,rfl,as,π.sums,col,rfl,rfl,.inl as19,h⟩) ?_
   have hdue:=wB Yr hcol hodm
   have hset:(ve od&& !(π.sums.contains col))=true→∃r',RowOk π r'∧Dv.tup (qF row j od)=Xn r':=fun h=>by
    rw[Bool.and_eq_true]at h
    obtain rfl:=xP od hodm h.1
    refine⟨row.set j (.txt "~ "),vf Yr hcol (by simpa using h.2),?_⟩
    rw[←xQ (by omega)]
    rfl
   have hargo:=yt Z Yr (n:=j) (by omega) (yn od hodm)
   generalize (ve od&& !(π.sums.contains col))=due at hdue hset
   clear as19 ac19 Do19
   refine n24 _ _ (WK fun N25 n25=>?_)
   have Dp19:=D19.kt.deep Dp
   have Dr19:=D19.kt.deep Dr
   refine⟨_,rfl,_,rfl,.ref ap,rv0,π,toW (Xn row),rfl,Dp19,Z,Dr19.ws,UY Z Yr,fun H20 S20=>?_⟩
   rw[VY Yr]
   refine⟨true,true,rfl,true,rfl,Jx ?_⟩
   refine n25 _ _ (WK fun N26 n26=>?_)
   refine⟨_,rfl,_,rfl,.ref ap,uo,π,toW (.tup (qF row j od)),rfl,Dp19.same S20,Z,(D4.same S20).ws,hargo,fun H21 S21=>⟨_,rfl,?_⟩⟩
   rw[hdue]
   refine⟨due,due,rfl,true,by rw[beq_self_eq_true],Jx ?_⟩
   refine n26 _ _ (WK fun N27 n27=>?_)
   have S21:=S20.trans S21
   have Dp21:=Dp19.same S21
   have Dr21:=Dr19.same S21
   refine⟨_,rfl,_,rfl,_,rfl,?_⟩
   dsimp only[Y5]
   refine slN (lo:=1) (ds:=row.map Cell.dv) Dr21 fun u5 H22 S22 D5=>?_
   refine⟨.ref ap,u5,π,toW (.tup ((row.map Cell.dv).drop 1)),rfl,Dp21.same S22,Z,D5.ws,xS (by rw[List.length_drop];omega) (fun d hd=>?_),fun H23 S23=>?_⟩
   ·obtain⟨cl,hcl2,rfl⟩:=List.mem_map.mp (List.mem_of_mem_drop hd)
    exact KM (Yr.ok cl hcl2)
   rw[xR (by rw[List.length_drop];omega)]
   refine⟨false,rfl,Jx ?_⟩
   have S23:=(S21.trans S22).trans S23
   have D23:=D19.same S23
   have tg23:=tg19.same S23
   have Do23:=D4.same S23
   clear D19 tg19 D4 S22 S21 S20 S23 Dp19 Dr19 Dp21 Dr21 D5
   refine n27 _ _ (WK fun N28 n28=>?_)
   try dsimp only[QL,JI,QK]
   refine cb2 ?_
   dsimp only[tC]
   refine Bag.draw (K:=K) D23.law.bag rfl rfl (fun R h=>h) (by decide) (by decide) (by omega) fun pk H24 hpk B24 A24=>?_
   have K24:=(Kp.vh D23.law A24).kt
   have tg24:=K24.VZ tg23
   have Do24:=K24.deep Do23
   have D24:=D23.vh A24 B24
   clear D23 B24 A24 tg23 Do23 K24
   obtain⟨m,hm,hm4⟩:∃m:Nat,(if((pk:Nat):Int)/2<3 then((pk:Nat):Int)/2 else 3)=(m:Int)∧m<4:=by
    by_cases h:((pk:Nat):Int)/2<3
    ·exact⟨pk/2,by rw[if_pos h];omega,by omega⟩
    ·exact⟨3,by rw[if_neg h];rfl,by omega⟩
   refine⟨_,_,rfl,rfl,⟨by decide,by decide⟩,3,_,rfl,?_⟩
   rw[hm]
   refine n28 _ _ (WK fun N29 n29=>?_)
   have Dr24:=D24.kt.deep Dr
   obtain⟨ra,rx,rfl,gra,tra⟩:=Deep.Xy Dr24
   refine⟨_,rfl,_,rfl,_,rfl,ra,rx,rfl,.inr (.inl (.inl gra)),fun l hl=>?_⟩
   have Sl:=Qg.new (o:=.lst rx) hl
   refine⟨_,rfl,by show 1≤sizeLine;omega,fun p1 hp1=>?_⟩
   have Sp:=Sl.trans (Qg.new (o:=.tup [.str "t"]) hp1)
   refine We.deep (ds:=row.map Cell.dv) (es:=[.str "t"]) (Dr24.same Sp) (.tup Qc (.cons .str .nil)) (by show _+1≤sizeLine;omega) fun uc H25 S25 Dc=>?_
   have gl25:=((Qg.new (o:=.tup [.str "t"]) hp1).trans S25) _ _ (Qc (H:=H24) (a:=l) (o:=.lst rx))
   have S25:=Sp.trans S25
   refine⟨by show 4≤sizeLine;omega,fun p2 hp2=>?_⟩
   have Sn2:=Qg.new (o:=.lst [.ref ra,uo,.ref l,uc]) hp2
   have S26:=S25.trans Sn2
   have gl26:=Sn2 _ _ gl25
   have Dc26:=Dc.same Sn2
   have g26:upd H25 p2 (.lst [.ref ra,uo,.ref l,uc]) p2=some (.lst [.ref ra,uo,.ref l,uc]):=Qc
   generalize upd H25 p2 (.lst [.ref ra,uo,.ref l,uc])=H26 at S26 gl26 Dc26 g26
   obtain⟨sv,d,hsv,Wd,Ad,hrW,hgood⟩:∃sv d,([V.ref ra,uo,V.ref l,uc]:List V)[m]? =some sv∧Ws H26 sv d∧UE d∧xg π d=(decide (m=0)||(decide (m=1)&&due))∧((decide (m=0)||(decide (m=1)&&due))=true→∃r',RowOk π r'∧Deep H26 sv (Xn r')):=by
    obtain rfl|rfl|rfl|rfl:m=0∨m=1∨m=2∨m=3:=by omega
    ·exact⟨.ref ra,toW (Xn row),rfl,(Dr24.same S26).ws,UY Z Yr,VY Yr,fun _=>⟨row,Yr,Dr24.same S26⟩⟩
    ·refine⟨uo,toW (.tup (qF row j od)),rfl,(Do24.same S26).ws,hargo,hdue,fun h=>?_⟩
     obtain⟨r',y1,y2⟩:=hset h
     exact⟨r',y1,by rw[←y2];exact Do24.same S26⟩
    ·exact⟨.ref l,.lst,rfl,.lst gl26,trivial,rfl,fun h=>absurd h (by simp)⟩
    ·refine⟨uc,toW (.tup (row.map Cell.dv++[.str "t"])),rfl,Dc26.ws,xS (by rw[List.length_append];show _+1<900;omega) (fun e he=>?_),xR (by rw[List.length_append];show _+1≠_;omega),fun h=>absurd h (by simp)⟩
     rcases List.mem_append.mp he with he|he
     ·obtain⟨cl,hcl2,rfl⟩:=List.mem_map.mp he
      exact KM (Yr.ok cl hcl2)
     ·rw[List.mem_singleton.mp he]
      exact⟨trivial,by decide+kernel,by decide+kernel⟩
   refine⟨_,rfl,p2,_,(m:Int),sv,rfl,rfl,.inl g26,Q9 hsv,?_⟩
   have e0:decide (V.int (m:Int)=V.int 0)=decide (m=0):=decide_eq_decide.mpr ⟨fun z=>by injection z with z;omega,fun z=>by rw[z];rfl⟩
   have e1:decide (V.int (m:Int)=V.int 1)=decide (m=1):=decide_eq_decide.mpr ⟨fun z=>by injection z with z;omega,fun z=>by rw[z];rfl⟩
   refine ta1 ?_
   refine QaS (b1:=decide (m=0)) (b2:=decide (m=1)&&due) (fun R h=>⟨_,rfl,rfl,by rw[e0];exact h⟩) (fun _ R h=>xU (b1:=decide (m=1)) (b2:=due) (fun R h=>⟨_,rfl,rfl,by rw[e1];exact h⟩) (fun _ R h=>⟨_,rfl,h⟩) h) ?_
   have D26:=D24.same S26
   have tg26:=tg24.same S26
   generalize (decide (m=0)||(decide (m=1)&&due))=fine at hrW hgood
   clear D24 tg24 Do24 Dr24 S25 Sn2 S26 gl25 gl26 Dc Dc26 g26 hp1 hp2 hl Sl Sp e0 e1 gra tra hset hdue hargo
   refine⟨by show 2≤sizeLine;omega,fun p3 hp3=>⟨p3,_,rfl,.inl (.inl Qc),rfl,_,_,rfl,_,_,rfl,rfl,?_⟩⟩
   have Sn3:=Qg.new (o:=.tup [sv,.bl fine]) hp3
   have D27:=D26.same Sn3
   have tg27:=tg26.same Sn3
   have Wd27:=Wd.same Sn3
   have hgood:fine=true→∃r',RowOk π r'∧Deep (upd H26 p3 (.tup [sv,.bl fine])) sv (Xn r'):=fun h=>let ⟨r',y1,y2⟩:=hgood h;⟨r',y1,y2.same Sn3⟩
   generalize upd H26 p3 (.tup [sv,.bl fine])=H27 at D27 tg27 Wd27 hgood
   clear D26 tg26 Wd Sn3 hp3
   have lxs:=tg27.length
   rw[List.length_map]at lxs
   refine n29 _ _ (WK fun N30 n30=>?_)
   dsimp only[yD]
   refine V0 ?_
   cases fine with
   |true=>
    obtain⟨r',Yr',Dr'⟩:=hgood rfl
    refine jF D27 fun E' H28 D28 k28=>?_
    obtain⟨dx',fs',hx',F'⟩:=D28.rep.ob
    refine⟨_,rfl,xd,dx',fs',rfl,hx',F'.no _ Kx.1 Kx.2.1 Kx.2.2,_,rfl,xd,sv,.ref ap,qr,false,xs,3,π,d,rfl,D28.rep,D28.kt.deep Dp,Z,k28.ws Wd27,Ad,by omega,.inr (.inr ⟨hrW,rfl,fun H29 S29 p4 hp4=>?_⟩)⟩
    have K4:=((k28.kt.trans (Kt.of S29)).trans (Kt.upd (o':=.lst (xs++[sv])) (D28.same S29).rep.rs fun _ z=>nomatch z)).trans (Kt.of (Qg.new (o:=.tup [.str "told",.non]) hp4))
    have D30:=((D28.same S29).put (xs++[sv])).same (Qg.new (o:=.tup [.str "told",.non]) hp4)
    have Dt:Deep (upd (upd H29 qr (.lst (xs++[sv]))) p4 (.tup [.str "told",.non])) (.ref p4) (.tup [.str "told",.non]):=.tup Qc (.cons .str (.cons .non .nil))
    generalize upd (upd H29 qr (.lst (xs++[sv]))) p4 (.tup [.str "told",.non])=H30 at K4 D30 Dt
    refine⟨_,rfl,true,rfl,Q3 ⟨by show 2≤sizeLine;omega,fun p5 hp5=>?_⟩⟩
    have Sn5:=Qg.new (o:=.tup [.str "told",.non]) hp5
    refine⟨.tup [.str "told",.non],.tup [.str "told",.non],Dt.same Sn5,.tup Qc (.cons .str (.cons .non .nil)),by decide,false,by rw[Dv.JD];rfl,Jx ?_⟩
    have D31:=D30.same Sn5
    have K5:=K4.trans (Kt.of Sn5)
    generalize upd H30 p5 (.tup [.str "told",.non])=H31 at D31 K5
    refine n30 _ _ ?_
    refine⟨_,rfl,_,rfl,true,rfl,Q3 ⟨_,rfl,by show 1≤sizeLine;omega,fun p6 hp6=>?_⟩⟩
    have Sn6:=Qg.new (o:=.lst [sv]) hp6
    have D32:=D31.same Sn6
    refine⟨g,p6,xs,[sv],rfl,rfl,D32.gd,Qc,by show _+1≤sizeLine;omega,fun g' hg'=>hN20 _ _ ⟨_,_,_,_,_,_,_,_,c13+1+1+1,g',xs++[sv],good++[r'],rfl,D32.good (Qg.new hg') Qc hg',by push_cast;omega,?_,?_,?_⟩⟩
    ·have K6:=(K5.trans (Kt.of Sn6)).trans (Kt.of (Qg.new (o:=.lst (xs++[sv])) hg'))
     rw[List.map_append]
     exact(K6.VZ tg27).append (.cons (K6.deep Dr') .nil)
    ·intro r1 h1
     rcases List.mem_append.mp h1 with h1|h1
     ·exact Yg r1 h1
     ·rw[List.mem_singleton.mp h1];exact Yr'
    ·rw[List.length_append]
     show _+1≤_
     omega
   |false=>
    have e13:ww 13="bad row":=by decide+kernel
    refine XO 13 D27 G13 (fun E' H28 Q' D28 k28 hE=>?_) fun vw H30 D30 k30 Dt=>?_
    ·obtain⟨dx',fs',hx',F'⟩:=D28.rep.ob
     exact⟨_,rfl,xd,dx',fs',rfl,hx',F'.no _ Kx.1 Kx.2.1 Kx.2.2,_,rfl,xd,sv,.ref ap,qr,false,xs,3,π,d,rfl,D28.rep,D28.kt.deep Dp,Z,k28.ws Wd27,Ad,by omega,.inl ⟨hrW,hE⟩⟩
    rw[e13]at Dt
    refine⟨_,rfl,false,rfl,Jx ⟨by show 1≤sizeLine;omega,fun p5 hp5=>?_⟩⟩
    have Sn5:=Qg.new (o:=.tup [.str "bad row"]) hp5
    refine⟨.tup [.str "bad row"],.tup [.str "bad row"],Dt.same Sn5,.tup Qc (.cons .str .nil),by decide,false,by rw[Dv.JD];rfl,Jx ?_⟩
    have D31:=D30.same Sn5
    have K5:=k30.kt.trans (Kt.of Sn5)
    generalize upd H30 p5 (.tup [.str "bad row"])=H31 at D31 K5
    refine n30 _ _ ?_
    refine⟨_,rfl,_,rfl,false,rfl,Jx ⟨by show 0≤sizeLine;omega,fun p6 hp6=>?_⟩⟩
    have Sn6:=Qg.new (o:=.lst []) hp6
    have D32:=D31.same Sn6
    refine⟨g,p6,xs,[],rfl,rfl,D32.gd,Qc,by show _+0≤sizeLine;omega,fun g' hg'=>hN20 _ _ ⟨_,_,_,_,_,_,_,_,c13+1+1+1,g',xs,good,rfl,D32.good (Qg.new hg') (by rw[List.append_nil];exact Qc) hg',by push_cast;omega,?_,Yg,by omega⟩⟩
    have K6:=(K5.trans (Kt.of Sn6)).trans (Kt.of (Qg.new (o:=.lst (xs++[])) hg'))
    exact K6.VZ tg27
  rintro σ H13 ⟨y9,y10,y11,y12,y13,y14,y15,y19,c13,g,xs,good,rfl,D13,hc13,tg,Yg,lg⟩
  have z2:=Z.lu
  have z3:π.keys.length+π.sums.length=(π.keys++π.sums).length:=(List.length_append ..).symm
  have hsl:(π.sums.map V.str).length=π.sums.length:=List.length_map ..
  have lxs:=tg.length
  rw[List.length_map]at lxs
  have lg:good.length≤12:=by omega
  refine n7 _ _ (WK fun N8 n8=>?_)
  try dsimp only[QL,JI,QK]
  refine cb1 ?_
  have as13:=D13.kt _ _ PL.s
  refine XD (x6 (K:=K) (a:=as) (xs:=π.sums.map V.str)) ((zeros π).map V5) (by unfold zeros;simp) (fun R h=>⟨_,rfl,as,rfl,⟨_,.inl (.inl as13)⟩,h _ (Qg.refl _)⟩) (fun H1 S=>.inl (.inl (S _ _ as13))) ?_ ?_ (by omega)
  ·rintro jj v H14 H14' d R3 hd S13 ⟨rfl,hv⟩ kk
   refine⟨by show 2≤sizeLine;omega,fun p hp=>kk _ _ (Qg.new hp) ?_⟩
   have:d=V5 (0,0):=by
    unfold zeros at hd
    rw[List.getElem?_map,List.getElem?_map]at hd
    cases e:π.sums[jj]? with
    |none=>rw[e]at hd;cases hd
    |some y=>rw[e]at hd;exact(Option.some.inj hd).symm
   rw[this]
   exact .tup Qc (.cons .int (.cons .int .nil))
  rintro zs H14 p14 S14 t14 hp14
  have Sn:=Qg.new (o:=.lst zs) hp14
  refine⟨p14,zs,rfl,.inl ⟨.inl (.inl Qc),fun l14 hl14=>?_⟩⟩
  have DT0:=Jc (t14.same Sn) hl14
  have S15:=(S14.trans Sn).trans (Qg.new (o:=.tup zs) hl14)
  generalize upd (upd H14 p14 (.lst zs)) l14 (.tup zs)=H15 at DT0 S15
  have D15:=D13.same S15
  have tg15:=tg.same S15
  clear D13 tg S14 Sn t14 hp14 hl14 S15 as13
  refine n8 _ _ (WK fun N9 n9=>?_)
  refine⟨_,rfl,g,rfl,⟨_,.inl (.inl D15.gd)⟩,?_⟩
  refine qH (yG (K:=K) (a:=g) (xs:=xs)) (fun i σ H16=>∃(y9:Option V)(tv:V),σ=[some (.ref a),some (.ref t),some (.ref ap),some (.ref ac),some (.ref ak),some (.ref as),some (.int π.size),some (.ref qb),some (.ref g),y9,y10,y11,y12,y13,y14,y15,some tv,some (.ref xd),some (.ref ar),y19]∧Qg H15 H16∧Deep H16 tv (Jo (total π (good.take i)))) ⟨y9,.ref l14,rfl,Qg.refl _,by rw[List.take_zero];exact DT0⟩ ?_ ?_ ?_
  ·rintro i σ H16 _ ⟨y9,tv,rfl,S16,_⟩
   exact .inl (.inl (S16 _ _ D15.gd))
  ·rintro N21 Bk Rt i x σ H16' H16 hN21 hi ⟨y9,tv,rfl,S16,DT⟩ ⟨rfl,hx⟩
   obtain⟨r1,hr1,Dr1⟩:=Zs tg15 hx
   have Yr:=Yg r1 (List.mem_of_getElem? hr1)
   obtain⟨rr,cx,rfl,grr,trr⟩:=Deep.Xy (show Deep H16 x (.tup (r1.map Cell.dv))from Dr1.same S16)
   have D16:=D15.same S16
   have as16:=D16.kt _ _ PL.s
   have ac16:=D16.kt _ _ PL.c
   have lsp:(QQ π.cols π.sums).length=π.sums.length:=by unfold QQ;rw[List.length_map]
   have hmem:∀r∈good.take i,RowOk π r:=fun r hr=>Yg r (List.mem_of_mem_take hr)
   have htl:=Ww π (good.take i)
   have hto:=VI Z (good.take i) hmem
   have lti:(good.take i).length≤12:=by rw[List.length_take];omega
   try dsimp only[QL,JI,QK]
   refine⟨_,rfl,?_⟩
   refine Jr (fv:=[.ref ac,.ref rr]) (x6 (K:=K) (a:=as) (xs:=π.sums.map V.str)) (((QQ π.cols π.sums).map (Ks r1)).map V5) (by rw[List.length_map,List.length_map,List.length_map,lsp]) (fun R h=>⟨_,rfl,as,rfl,⟨_,.inl (.inl as16)⟩,h _ (Qg.refl _)⟩) rfl (fun H1 S=>.inl (.inl (S _ _ as16))) ?_ ?_ (by omega)
   ·rintro ii v H17 H18 d R3 hd S17 ⟨rfl,hv⟩ kk
    obtain⟨nm,hnm,rfl⟩:=Va hv
    obtain⟨c1,c2⟩:=Wu (sum_in Z (List.mem_of_getElem? hnm))
    obtain⟨uu,oo,hcell⟩:=Yr.sm _ nm c1 (List.contains_iff_mem.mpr (List.mem_of_getElem? hnm))
    obtain⟨cv,hcv,dcv⟩:=trr.get (i:=V4 π.cols nm) (d:=(Cell.amt uu oo).dv) (by rw[List.getElem?_map,hcell];rfl)
    refine⟨rfl,_,rfl,_,rfl,(.inr (.inr (.inr (.inr ⟨rfl,_,S17 _ _ ac16⟩)))),_,rfl,ac,π.cols,nm,_,rfl,rfl,.inl (S17 _ _ ac16),c1,c2,rr,cx,_,_,rfl,rfl,.inl (S17 _ _ grr),Q9 hcv,kk _ _ (Qg.refl _) ?_⟩
    have:d=V5 (uu,oo):=by
     have es:(QQ π.cols π.sums)[ii]? =some (V4 π.cols nm):=by unfold QQ;rw[List.getElem?_map,hnm];rfl
     rw[List.getElem?_map,List.getElem?_map,es]at hd
     have e4:Ks r1 (V4 π.cols nm)=(uu,oo):=by unfold Ks;rw[hcell]
     rw[←(Option.some.inj hd)]
     show V5 (Ks r1 (V4 π.cols nm))=_
     rw[e4]
    rw[this]
    exact dcv.same S17
   rintro ys H17 p17 S17 t17 hp17
   have S18:=Qg.new (o:=.lst ys) hp17
   obtain⟨ua,ux,rfl,gu,tu⟩:=xi DT
   refine⟨ua,p17,ux,ys,total π (good.take i),(QQ π.cols π.sums).map (Ks r1),(good.take i).length,rfl,(S17.trans S18) _ _ gu,tu.same (S17.trans S18),Qc,t17.same S18,by rw[htl,List.length_map,lsp],hto,fun p hp=>?_,by omega,by rw[htl];omega,fun u2 H19 S19 D19=>?_⟩
   ·obtain⟨i2,hi2,rfl⟩:=List.mem_map.mp hp
    exact xn Z Yr hi2
   refine hN21 _ _ ⟨_,u2,rfl,((S16.trans S17).trans S18).trans S19,?_⟩
   rw[List.take_add_one,hr1]
   show Deep H19 u2 (Jo (total π (good.take i++[r1])))
   rw[X9, ←QbO]
   exact D19
  rintro σ H16 ⟨y9,tv,rfl,S16,DT⟩
  rw[List.take_of_length_le (by omega)]at DT
  have D16:=D15.same S16
  have tg16:=tg15.same S16
  clear D15 tg15 S16 DT0
  refine n9 _ _ (WK fun N10 n10=>?_)
  obtain⟨dx',fs',hx',F'⟩:=D16.rep.ob
  have Dp16:=D16.kt.deep Dp
  refine⟨_,rfl,xd,dx',fs',rfl,hx',F'.no _ QbN.1 QbN.2.1 QbN.2.2,xd,.ref ap,qr,false,xs,3,π,good,rfl,D16.rep,Dp16,Z,tg16,Yg,by omega,fun u17 H17 S17 DU=>?_⟩
  refine⟨_,rfl,_,_,DU,DT.same S17,Nat.le_trans (Zh _) (by decide),false,by rw[Dv.JD];rfl,Jx ?_⟩
  have D17:=D16.same S17
  refine⟨_,rfl,xd,dx',fs',rfl,S17 _ _ hx',xd,.ref ap,qr,false,xs,3,rfl,D17.rep,xs.length,rfl,by omega,_,rfl,g,xs,rfl,.inl (.inl (.inl D17.gd)),rfl,false,by simp,Jx ?_⟩
  refine⟨_,rfl,xd,dx',fs',rfl,S17 _ _ hx',F'.no _ Kd.1 Kd.2.1 Kd.2.2,xd,.ref ap,qr,false,xs,3,π,good,rfl,D17.rep,by omega,Dp16.same S17,Z,hk,tg16.same S17,Yg,by omega,.inr ⟨rfl,fun u18 H18 dx2 fs2 S18 DU2 F2=>?_⟩⟩
  have D18:=(D17.same S18).close (dx:=dx2) F2
  obtain⟨dx3,fs3,hx3,_⟩:=(D17.same S18).rep.ob
  have K18:=Kt.upd (o':=.ins C dx2 fs2) hx3 fun _ z=>nomatch z
  have DU3:=K18.deep DU2
  have tg18:=K18.VZ ((tg16.same S17).same S18)
  generalize upd H18 xd (.ins C dx2 fs2)=H19 at D18 K18 DU3 tg18
  clear D16 D17 tg16 DU DT DU2 hx' F' hx3 F2 Dp16 K18
  refine⟨_,rfl,_,rfl,g,xs,rfl,.inl ⟨.inl (.inl D18.gd),fun l19 hl19=>?_⟩⟩
  have Sn:=Qg.new (o:=.tup xs) hl19
  refine⟨.ref ap,.ref l19,π,good,rfl,(D18.kt.deep Dp).same Sn,Z,hk,Jc tg18 hl19,Yg,by omega,fun u20 H20 S20 DU4=>?_⟩
  have S20:=Sn.trans S20
  refine⟨_,_,DU3.same S20,DU4,xO π good,false,by rw[Dv.JD];rfl,Jx ?_⟩
  have D20:=D18.same S20
  have tg20:=tg18.same S20
  clear D18 DU3 DU4 tg18 hl19 Sn S20
  refine n10 _ _ (WK fun N11 n11=>?_)
  have gr20:=D20.kt _ _ gr
  have tr20:=D20.kt.VZ tr
  have e14:ww 14="closed":=by decide+kernel
  have e13:ww 13="bad row":=by decide+kernel
  have no0:xg π (.tup [])=false:=by
   have hc5:π.cols.length=5:=(by decide+kernel:∀cs∈WR,cs.length=5) _ hcl
   show(decide (([]:List Wx).length=π.cols.length)&&_)=false
   rw[decide_eq_false (by rw[hc5];decide),Bool.false_and]
  have fin:∀H21,DeskSt C H3 H21 a t r Pa ns c13 xd (.ref ap) qr g xs xs true 4→Deeps H21 xs (good.map Xn)→N11 [some (.ref a),some (.ref t),some (.ref ap),some (.ref ac),some (.ref ak),some (.ref as),some (.int π.size),some (.ref qb),some (.ref g),y9,y10,y11,y12,y13,y14,y15,some tv,some (.ref xd),some (.ref ar),y19] H21:=by
   intro H21 D21 tg21
   refine n11 _ _ (WK fun N12 n12=>?_)
   dsimp only[yD]
   refine V0 ?_
   refine XO 14 D21 G14 (fun E' H22 Q' D22 k22 hE=>?_) fun vw H23 D23 k23 Dt=>?_
   ·obtain⟨dx',fs',hx',F'⟩:=D22.rep.ob
    exact⟨_,rfl,xd,dx',fs',rfl,hx',F'.no _ Kd.1 Kd.2.1 Kd.2.2,xd,.ref ap,qr,true,xs,4,π,good,rfl,D22.rep,by omega,D22.kt.deep Dp,Z,hk,k22.kt.VZ tg21,Yg,by omega,.inl ⟨rfl,hE⟩⟩
   rw[e14]at Dt
   refine⟨by show 1≤sizeLine;omega,fun p5 hp5=>?_⟩
   have Sn5:=Qg.new (o:=.tup [.str "closed"]) hp5
   refine⟨.tup [.str "closed"],.tup [.str "closed"],Dt.same Sn5,.tup Qc (.cons .str .nil),by decide,false,by rw[Dv.JD];rfl,Jx ?_⟩
   have D24:=D23.same Sn5
   generalize upd H23 p5 (.tup [.str "closed"])=H24 at D24
   refine n12 _ _ ?_
   refine QaR ?_
   refine XO 13 D24 G13 (fun E' H25 Q' D25 k25 hE=>?_) fun vw2 H26 D26 k26 Dt2=>?_
   ·obtain⟨dx',fs',hx',F'⟩:=D25.rep.ob
    refine⟨_,rfl,xd,dx',fs',rfl,hx',F'.no _ Kx.1 Kx.2.1 Kx.2.2,by show 0≤sizeLine;omega,fun p6 hp6=>?_⟩
    have Sn6:=Qg.new (o:=.tup []) hp6
    have D25':=D25.same Sn6
    exact⟨xd,.ref p6,.ref ap,qr,true,xs,4,π,.tup [],rfl,D25'.rep,D25'.kt.deep Dp,Z,.tup Qc .nil,⟨by decide,fun x hx=>nomatch hx⟩,by omega,.inl ⟨no0,fun H' S=>hE _ (Sn6.trans S)⟩⟩
   rw[e13]at Dt2
   refine⟨by show 1≤sizeLine;omega,fun p7 hp7=>?_⟩
   refine⟨.tup [.str "bad row"],.tup [.str "bad row"],Dt2.same (Qg.new hp7),.tup Qc (.cons .str .nil),by decide,?_⟩
   show Q (.bl (Dv.eqb _ _)) _
   rw[Dv.JD]
   exact k _
  refine⟨_,rfl,by show 0≤sizeLine;omega,fun p21 hp21=>?_⟩
  have Sn21:=Qg.new (o:=.tup []) hp21
  refine⟨.tup (rows.map Xn),.tup [],(Deep.tup gr20 tr20).same Sn21,.tup Qc .nil,jG rows,?_⟩
  have D21:=D20.same Sn21
  have tg21:=tg20.same Sn21
  have tr21:=tr20.same Sn21
  generalize upd H20 p21 (.tup [])=H21 at D21 tg21 tr21
  clear D20 tg20 tr20 gr20 Sn21 hp21
  cases rows with
  |nil=>exact⟨false,rfl,Jx (Jx (fin _ D21 tg21))⟩
  |cons r0 rs=>
   have Y0:=Y r0 List.mem_cons_self
   cases tr21 with
   |@cons v0 _ vs _ Dv0 tr21=>
   refine⟨true,rfl,Q3 ?_⟩
   refine V0 ?_
   have gr21:=D21.kt _ _ gr
   refine XO 14 D21 G14 (fun E' H22 Q' D22 k22 hE=>?_) fun vw H23 D23 k23 Dt=>?_
   ·obtain⟨dx',fs',hx',F'⟩:=D22.rep.ob
    exact⟨_,rfl,xd,dx',fs',rfl,hx',F'.no _ Kx.1 Kx.2.1 Kx.2.2,_,rfl,ar,_,0,v0,rfl,rfl,.inl (k22.kt _ _ gr21),Q9 (j:=0) rfl,xd,v0,.ref ap,qr,true,xs,4,π,toW (Xn r0),rfl,D22.rep,D22.kt.deep Dp,Z,k22.ws Dv0.ws,UY Z Y0,by omega,.inr (.inl ⟨VY Y0,rfl,hE⟩)⟩
   rw[e14]at Dt
   refine⟨by show 1≤sizeLine;omega,fun p5 hp5=>?_⟩
   have Sn5:=Qg.new (o:=.tup [.str "closed"]) hp5
   exact⟨.tup [.str "closed"],.tup [.str "closed"],Dt.same Sn5,.tup Qc (.cons .str .nil),by decide,false,by rw[Dv.JD];rfl,Jx (fin _ (D23.same Sn5) ((k23.kt.VZ tg21).same Sn5))⟩
end
end Lw
set_option Elab.async false
set_option linter.all false
set_option maxRecDepth 100000
namespace L2
open PySem PySem.Spec PyProof.Rows
section
variable {X:Cx}{pins:List (Addr × Obj)}{σ:List (Option V)}{H:Hp}{s:Shared}
end
section
variable {X:Cx}{tg:Expr}
end
end L2
set_option Elab.async false
set_option linter.all false
set_option maxRecDepth 100000
namespace L2
open PySem PySem.Spec PyProof.Rows
end L2
set_option Elab.async false
set_option linter.all false
namespace L2
open PySem PySem.Spec PyProof.Rows
section
variable {P:Program}{w:World}{K:PySem.W.Frag}{mg:Str→Option Value}{base h:Heap}{x:Str}{st:Stmt}{k:Nat}{sp:Sp}{p1 p2 p3 p4:Str}
theorem DefAt.d0(D:DefAt K x st)(X:K.In h)(G:h.Ns mainGlobals mg)(hok:∀f fd,Fun K x x st f fd→FnOk P w K mg base (CXE P w) k f fd [] sp)
  (hb:∀(kV doc pm:Value)(an:Option Addr)(cdv ct:Value),bindArgs (PySem.W.fnOf x x (Je st) (QM st) (Qd st) .none kV doc pm an cdv ct) ⟨[],[]⟩=pure []):Def P w K mg base k x [] sp:=
 D.def X G hok fun kV doc pm an cdv ct us hl=>match us,hl with|[],_=>hb kV doc pm an cdv ct
theorem DefAt.d1(D:DefAt K x st)(X:K.In h)(G:h.Ns mainGlobals mg)(hok:∀f fd,Fun K x x st f fd→FnOk P w K mg base (CXE P w) k f fd [p1] sp)
  (hb:∀(kV doc pm:Value)(an:Option Addr)(cdv ct:Value)(u1:Value),bindArgs (PySem.W.fnOf x x (Je st) (QM st) (Qd st) .none kV doc pm an cdv ct) ⟨[u1],[]⟩=pure [(p1,u1)]):Def P w K mg base k x [p1] sp:=
 D.def X G hok fun kV doc pm an cdv ct us hl=>match us,hl with|[u1],_=>hb kV doc pm an cdv ct u1
theorem DefAt.d2(D:DefAt K x st)(X:K.In h)(G:h.Ns mainGlobals mg)(hok:∀f fd,Fun K x x st f fd→FnOk P w K mg base (CXE P w) k f fd [p1,p2] sp)
  (hb:∀(kV doc pm:Value)(an:Option Addr)(cdv ct:Value)(u1 u2:Value),bindArgs (PySem.W.fnOf x x (Je st) (QM st) (Qd st) .none kV doc pm an cdv ct) ⟨[u1,u2],[]⟩=pure [(p1,u1),(p2,u2)]):Def P w K mg base k x [p1,p2] sp:=
 D.def X G hok fun kV doc pm an cdv ct us hl=>match us,hl with|[u1,u2],_=>hb kV doc pm an cdv ct u1 u2
theorem DefAt.d3(D:DefAt K x st)(X:K.In h)(G:h.Ns mainGlobals mg)(hok:∀f fd,Fun K x x st f fd→FnOk P w K mg base (CXE P w) k f fd [p1,p2,p3] sp)
  (hb:∀(kV doc pm:Value)(an:Option Addr)(cdv ct:Value)(u1 u2 u3:Value),bindArgs (PySem.W.fnOf x x (Je st) (QM st) (Qd st) .none kV doc pm an cdv ct) ⟨[u1,u2,u3],[]⟩=pure [(p1,u1),(p2,u2),(p3,u3)]):Def P w K mg base k x [p1,p2,p3] sp:=
 D.def X G hok fun kV doc pm an cdv ct us hl=>match us,hl with|[u1,u2,u3],_=>hb kV doc pm an cdv ct u1 u2 u3
theorem DefAt.d4(D:DefAt K x st)(X:K.In h)(G:h.Ns mainGlobals mg)(hok:∀f fd,Fun K x x st f fd→FnOk P w K mg base (CXE P w) k f fd [p1,p2,p3,p4] sp)
  (hb:∀(kV doc pm:Value)(an:Option Addr)(cdv ct:Value)(u1 u2 u3 u4:Value),bindArgs (PySem.W.fnOf x x (Je st) (QM st) (Qd st) .none kV doc pm an cdv ct) ⟨[u1,u2,u3,u4],[]⟩=pure [(p1,u1),(p2,u2),(p3,u3),(p4,u4)]):Def P w K mg base k x [p1,p2,p3,p4] sp:=
 D.def X G hok fun kV doc pm an cdv ct us hl=>match us,hl with|[u1,u2,u3,u4],_=>hb kV doc pm an cdv ct u1 u2 u3 u4
end
end L2
set_option Elab.async false
set_option linter.all false
set_option maxRecDepth 100000
namespace L2
open PySem PySem.Spec PyProof.Rows
structure MethAt(K:PySem.W.Frag)(C:Addr)(m q:Str)(st:Stmt):Prop where
 ex:∃f fd,Meth K C m f∧Fun K m q st f fd
theorem xX{K:PySem.W.Frag}{C:Addr}{m q:Str}{st:Stmt}{f:Addr}{oc:Value}{od an:Option Addr}{osl:Array (Option Value)}{kV doc pm cdv ct:Value}(a:PySem.W.findIn K (.ref C) m=some (some (.ref f)))(i:PySem.W.isFn K (.ref f)=true)
  (l:K.lookup f=some ⟨oc,od,.func (PySem.W.fnOf m q (Je st) (QM st) (Qd st) .none kV doc pm an cdv ct),osl⟩) (c:PySem.W.codeIn K cdv q=true) (k:PySem.W.keepIn K (.ref f)=true):MethAt K C m q st:=
 ⟨f,_,⟨a,i,k⟩,⟨⟨oc,od,kV,doc,pm,an,cdv,ct,osl,rfl,l,c⟩,k⟩⟩
section
variable {P:Program}{w:World}{K:PySem.W.Frag}{mg:Str→Option Value}{base:Heap}{C:Addr}{x m q:Str}{st:Stmt}{k:Nat}{p1 p2:Str}{sp:Sp}
theorem MethAt.dm1(D:MethAt K C m q st)(cl:Cls K C)(hok:∀f fd,Fun K m q st f fd→FnOk P w K mg base (CXE P w) k f fd [p1] sp)
  (hb:∀(kV doc pm:Value)(an:Option Addr)(cdv ct:Value)(u1:Value),bindArgs (PySem.W.fnOf m q (Je st) (QM st) (Qd st) .none kV doc pm an cdv ct) ⟨[u1],[]⟩=pure [(p1,u1)]):DefM P w K mg base C k m [p1] sp:=by
 obtain⟨f,fd,M,F⟩:=D.ex
 exact⟨cl,f,fd,M,F.binds (ps:=[p1]) fun kV doc pm an cdv ct us hl=>match us,hl with|[u1],_=>hb kV doc pm an cdv ct u1,hok f fd F⟩
theorem MethAt.dm2(D:MethAt K C m q st)(cl:Cls K C)(hok:∀f fd,Fun K m q st f fd→FnOk P w K mg base (CXE P w) k f fd [p1,p2] sp)
  (hb:∀(kV doc pm:Value)(an:Option Addr)(cdv ct:Value)(u1 u2:Value),bindArgs (PySem.W.fnOf m q (Je st) (QM st) (Qd st) .none kV doc pm an cdv ct) ⟨[u1,u2],[]⟩=pure [(p1,u1),(p2,u2)]):DefM P w K mg base C k m [p1,p2] sp:=by
 obtain⟨f,fd,M,F⟩:=D.ex
 exact⟨cl,f,fd,M,F.binds (ps:=[p1,p2]) fun kV doc pm an cdv ct us hl=>match us,hl with|[u1,u2],_=>hb kV doc pm an cdv ct u1 u2,hok f fd F⟩
theorem MethAt.dc2(D:MethAt K C "__init__" q st)(hx:mg x=some (.ref C))(mk:PySem.W.makesIn K C=true)(kp:PySem.W.keepIn K (.ref C)=true)(hok:∀f fd,Fun K "__init__" q st f fd→FnOk P w K mg base (CXE P w) k f fd [p1,p2] sp)
  (hb:∀(kV doc pm:Value)(an:Option Addr)(cdv ct:Value)(u1 u2:Value),bindArgs (PySem.W.fnOf "__init__" q (Je st) (QM st) (Qd st) .none kV doc pm an cdv ct) ⟨[u1,u2],[]⟩=pure [(p1,u1),(p2,u2)]):DefC P w K mg base C k x [p1,p2] sp:=by
 obtain⟨f,fd,M,F⟩:=D.ex
 exact⟨hx,f,fd,⟨mk,M.at_,M.fn,kp⟩,F.binds (ps:=[p1,p2]) fun kV doc pm an cdv ct us hl=>match us,hl with|[u1,u2],_=>hb kV doc pm an cdv ct u1 u2,hok f fd F⟩
end
end L2
set_option Elab.async false
set_option linter.all false
set_option maxRecDepth 100000
namespace L2
open PySem PySem.Spec PyProof.Rows
end L2
namespace Lw
open PySem PySem.Spec PyProof.Rows L2 K34
set_option maxHeartbeats 8000000 in
theorem all_mk{l:PySem.W.OpenLaw}{w:World}{K:PySem.W.Frag}{h:Heap}{mg:Str→Option Value}{fa fl ca CR C0 C1 C2 C3 C4 C5 C6 C7 C8 C9 C10 C11 C12 C13 C14:Addr}{t0 t1 t2 t3 t4 t5:Tok}{oc kV doc pm ct:Value}{od an:Option Addr}{osl:Array (Option Value)}(X:K.In h)(G:h.Ns mainGlobals mg)(hfa:mg "law"=some (.ref fa))
  (d_ten_to:DefAt K "ten_to" Vv)
  (d_quotient_cut:DefAt K "quotient_cut" J5)
  (d_cut:DefAt K "cut" vU)
  (d_lined_up:DefAt K "lined_up" X1)
  (d_same:DefAt K "same" s_same)
  (d_added:DefAt K "added" Uq)
  (d_is_pair:DefAt K "is_pair" Wj)
  (d_spots_of:DefAt K "spots_of" X4)
  (d_no_sums:DefAt K "no_sums" Wm)
  (d_with_row:DefAt K "with_row" X5)
  (d_sums_of:DefAt K "sums_of" XB)
  (d_is_alike:DefAt K "is_alike" X6)
  (d_unlike_from:DefAt K "unlike_from" Zn)
  (d_feet:DefAt K "feet" zS)
  (d_breaks:DefAt K "breaks" Vz)
  (d__law_draw:DefAt K "_law_draw" Xi)
  (d__law_begun:DefAt K "_law_begun" ZI)
  (d__law_plus:DefAt K "_law_plus" Xj)
  (d__law_a_plan:DefAt K "_law_a_plan" Zp)
  (d_page_top:DefAt K "page_top" X7)
  (d_page_bottom:DefAt K "page_bottom" Zo)
  (d_lines_on_page:DefAt K "lines_on_page" JV)
  (d_without_keys:DefAt K "without_keys" J7)
  (d_shown:DefAt K "shown" Uv)
  (d_report:DefAt K "report" VA)
  (d_is_name:DefAt K "is_name" Wg)
  (d_is_whole:DefAt K "is_whole" X2)
  (d_are_names:DefAt K "are_names" Xg)
  (d_is_amount:DefAt K "is_amount" Xh)
  (d_is_text:DefAt K "is_text" Wi)
  (d_is_row:DefAt K "is_row" Vy)
  (d_is_plan:DefAt K "is_plan" Wh)
  (dm___init__:MethAt K CR "__init__" "Report.__init__" JB)
  (dm_check_open:MethAt K CR "check_open" "Report.check_open" Q1)
  (dm_put:MethAt K CR "put" "Report.put" J2)
  (dm_close:MethAt K CR "close" "Report.close" JE)
  (dm___len__:MethAt K CR "__len__" "Report.__len__" JH)
  (dm_so_far:MethAt K CR "so_far" "Report.so_far" JU)
  (d__law_class:DefAt K "_law_class" ZJ)
  (d__law_no_plans:DefAt K "_law_no_plans" JW)
  (d__law_is:DefAt K "_law_is" Wp)
  (d_heard:DefAt K "_law_heard" QZ)
  (k_0:PySem.W.nsIn K mainGlobals "BoxError"=some (some (.ref C0)))
  (k_1:PySem.W.nsIn K mainGlobals "NoPicture"=some (some (.ref C1)))
  (k_2:PySem.W.nsIn K mainGlobals "NoRoom"=some (some (.ref C2)))
  (k_3:PySem.W.nsIn K mainGlobals "NoQuotient"=some (some (.ref C3)))
  (k_4:PySem.W.nsIn K mainGlobals "NoText"=some (some (.ref C4)))
  (k_5:PySem.W.nsIn K mainGlobals "NoFigures"=some (some (.ref C5)))
  (k_6:PySem.W.nsIn K mainGlobals "NoLetters"=some (some (.ref C6)))
  (k_7:PySem.W.nsIn K mainGlobals "NoMove"=some (some (.ref C7)))
  (k_8:PySem.W.nsIn K mainGlobals "NoPath"=some (some (.ref C8)))
  (k_9:PySem.W.nsIn K mainGlobals "NoAmount"=some (some (.ref C9)))
  (k_10:PySem.W.nsIn K mainGlobals "NoGroup"=some (some (.ref C10)))
  (k_11:PySem.W.nsIn K mainGlobals "BadSize"=some (some (.ref C11)))
  (k_12:PySem.W.nsIn K mainGlobals "NoBack"=some (some (.ref C12)))
  (k_13:PySem.W.nsIn K mainGlobals "BadRow"=some (some (.ref C13)))
  (k_14:PySem.W.nsIn K mainGlobals "Closed"=some (some (.ref C14)))
  (k_R:PySem.W.nsIn K mainGlobals "Report"=some (some (.ref CR)))
  (r_pg:PySem.W.plainGet K CR Str.empty=true)
  (r_hd:PySem.W.hasDictIn K CR=true)
  (r_po:PySem.W.plainOver K CR=true)
  (r_sa:PySem.W.findIn K (.ref CR) "__setattr__"=some (some (.builtin "object.__setattr__")))
  (r_mk:PySem.W.makesIn K CR=true)
  (r_kc:PySem.W.keepIn K (.ref CR)=true)
  (r_n_plan:PySem.W.findIn K (.ref CR) "plan"=some none)
  (r_n_rows:PySem.W.findIn K (.ref CR) "rows"=some none)
  (r_n_is_closed:PySem.W.findIn K (.ref CR) "is_closed"=some none)
  (m_SMALL_LETTERS:PySem.W.nsIn K mainGlobals "SMALL_LETTERS"=some (some (.str "abcdefghijklmnopqrstuvwxyz" t1)))
  (m_FIRST_SIGN:PySem.W.nsIn K mainGlobals "FIRST_SIGN"=some (some (.str " " t4)))
  (m_LAST_SIGN:PySem.W.nsIn K mainGlobals "LAST_SIGN"=some (some (.str "~" t5)))
  (m_MOST_PLACES:PySem.W.nsIn K mainGlobals "MOST_PLACES"=some (some (.int 18 t0)))
  (m_LONGEST_NAME:PySem.W.nsIn K mainGlobals "LONGEST_NAME"=some (some (.int 12 t2)))
  (m_SHORTEST_PAGE:PySem.W.nsIn K mainGlobals "SHORTEST_PAGE"=some (some (.int 6 t3)))
  (z2_tuple:PySem.W.nsIn K mainGlobals "tuple"=some none)
  (z2_all:PySem.W.nsIn K mainGlobals "all"=some none)
  (z2_set:PySem.W.nsIn K mainGlobals "set"=some none)
  (z2_list:PySem.W.nsIn K mainGlobals "list"=some none)
  (z2_zip:PySem.W.nsIn K mainGlobals "zip"=some none)
  (z2_min:PySem.W.nsIn K mainGlobals "min"=some none)
  (z2_enumerate:PySem.W.nsIn K mainGlobals "enumerate"=some none)
  (t_NoneType_tuple:PySem.W.kitOne K (.type "NoneType") (.type "tuple")=some false)
  (t_bool_tuple:PySem.W.kitOne K (.type "bool") (.type "tuple")=some false)
  (t_int_tuple:PySem.W.kitOne K (.type "int") (.type "tuple")=some false)
  (t_str_tuple:PySem.W.kitOne K (.type "str") (.type "tuple")=some false)
  (t_tuple_tuple:PySem.W.kitOne K (.type "tuple") (.type "tuple")=some true)
  (t_list_tuple:PySem.W.kitOne K (.type "list") (.type "tuple")=some false)
  (t_NoneType_str:PySem.W.kitOne K (.type "NoneType") (.type "str")=some false)
  (t_bool_str:PySem.W.kitOne K (.type "bool") (.type "str")=some false)
  (t_int_str:PySem.W.kitOne K (.type "int") (.type "str")=some false)
  (t_str_str:PySem.W.kitOne K (.type "str") (.type "str")=some true)
  (t_tuple_str:PySem.W.kitOne K (.type "tuple") (.type "str")=some false)
  (t_list_str:PySem.W.kitOne K (.type "list") (.type "str")=some false)
  (t_int_int:PySem.W.kitOne K (.type "int") (.type "int")=some true)
  (t_bool_int:PySem.W.kitOne K (.type "bool") (.type "int")=some true)
  (t_int_bool:PySem.W.kitOne K (.type "int") (.type "bool")=some false)
  (t_bool_bool:PySem.W.kitOne K (.type "bool") (.type "bool")=some true)
  (z_len:PySem.W.nsIn K mainGlobals "len"=some none)
  (z_range:PySem.W.nsIn K mainGlobals "range"=some none)
  (z_abs:PySem.W.nsIn K mainGlobals "abs"=some none)
  (z_max:PySem.W.nsIn K mainGlobals "max"=some none)
  (z_int:PySem.W.nsIn K mainGlobals "int"=some none)
  (z_isi:PySem.W.nsIn K mainGlobals "isinstance"=some none)
  (z_bool:PySem.W.nsIn K mainGlobals "bool"=some none)
  (z_val:PySem.W.nsIn K mainGlobals "ValueError"=some none)
  (z_reversed:PySem.W.nsIn K mainGlobals "reversed"=some none)
  (z_divmod:PySem.W.nsIn K mainGlobals "divmod"=some none)
  (z_str:PySem.W.nsIn K mainGlobals "str"=some none)
  (z_sum:PySem.W.nsIn K mainGlobals "sum"=some none)
  (x13_ex:PySem.W.excIn K C13 [.type "ValueError",.type "Exception",.type "BaseException",.type "object"] "ValueError.__new__"=true)
  (x14_ex:PySem.W.excIn K C14 [.type "ValueError",.type "Exception",.type "BaseException",.type "object"] "ValueError.__new__"=true)
  (x13_ga:PySem.W.findIn K (.ref C13) "__getattribute__"=some (some (.builtin "BaseException.__getattribute__")))
  (x13_gn:PySem.W.findIn K (.ref C13) "__getattr__"=some none)
  (x13_cl:PySem.W.findIn K (.ref C13) "__class__"=some (some (.builtin "object.__class__")))
  (x13_k0:PySem.W.kitOne K (.ref C13) (.ref C1)=some false)
  (x13_k1:PySem.W.kitOne K (.ref C13) (.ref C2)=some false)
  (x13_k2:PySem.W.kitOne K (.ref C13) (.ref C3)=some false)
  (x13_k3:PySem.W.kitOne K (.ref C13) (.ref C4)=some false)
  (x13_k4:PySem.W.kitOne K (.ref C13) (.ref C5)=some false)
  (x13_k5:PySem.W.kitOne K (.ref C13) (.ref C6)=some false)
  (x13_k6:PySem.W.kitOne K (.ref C13) (.ref C7)=some false)
  (x13_k7:PySem.W.kitOne K (.ref C13) (.ref C8)=some false)
  (x13_k8:PySem.W.kitOne K (.ref C13) (.ref C9)=some false)
  (x13_k9:PySem.W.kitOne K (.ref C13) (.ref C10)=some false)
  (x13_k10:PySem.W.kitOne K (.ref C13) (.ref C11)=some false)
  (x13_k11:PySem.W.kitOne K (.ref C13) (.ref C12)=some false)
  (x13_k12:PySem.W.kitOne K (.ref C13) (.ref C13)=some true)
  (x13_k13:PySem.W.kitOne K (.ref C13) (.ref C14)=some false)
  (x13_va:PySem.W.kitOne K (.ref C13) (.type "ValueError")=some true)
  (x13_bo:PySem.W.exmOne K (.ref C13) (.ref C0)=some true)
  (x14_ga:PySem.W.findIn K (.ref C14) "__getattribute__"=some (some (.builtin "BaseException.__getattribute__")))
  (x14_gn:PySem.W.findIn K (.ref C14) "__getattr__"=some none)
  (x14_cl:PySem.W.findIn K (.ref C14) "__class__"=some (some (.builtin "object.__class__")))
  (x14_k0:PySem.W.kitOne K (.ref C14) (.ref C1)=some false)
  (x14_k1:PySem.W.kitOne K (.ref C14) (.ref C2)=some false)
  (x14_k2:PySem.W.kitOne K (.ref C14) (.ref C3)=some false)
  (x14_k3:PySem.W.kitOne K (.ref C14) (.ref C4)=some false)
  (x14_k4:PySem.W.kitOne K (.ref C14) (.ref C5)=some false)
  (x14_k5:PySem.W.kitOne K (.ref C14) (.ref C6)=some false)
  (x14_k6:PySem.W.kitOne K (.ref C14) (.ref C7)=some false)
  (x14_k7:PySem.W.kitOne K (.ref C14) (.ref C8)=some false)
  (x14_k8:PySem.W.kitOne K (.ref C14) (.ref C9)=some false)
  (x14_k9:PySem.W.kitOne K (.ref C14) (.ref C10)=some false)
  (x14_k10:PySem.W.kitOne K (.ref C14) (.ref C11)=some false)
  (x14_k11:PySem.W.kitOne K (.ref C14) (.ref C12)=some false)
  (x14_k12:PySem.W.kitOne K (.ref C14) (.ref C13)=some false)
  (x14_k13:PySem.W.kitOne K (.ref C14) (.ref C14)=some true)
  (x14_va:PySem.W.kitOne K (.ref C14) (.type "ValueError")=some true)
  (x14_bo:PySem.W.exmOne K (.ref C14) (.ref C0)=some true)
  (a_law:PySem.W.nsIn K mainGlobals "law"=some (some (.ref fl)))
  (l_law:K.lookup fl=some ⟨oc,od,.func (PySem.W.fnOf "law" "law" (Je Kr) (QM Kr) (Qd Kr) .none kV doc pm an (.ref ca) ct),osl⟩)
  (c_law:PySem.W.codeIn K (.ref ca) "law"=true)
  :∃fd:FuncData,(∀(s:Shared)(v:Value),BindsTo s fd ⟨[v],[]⟩ [("_law_script",v)])∧∀(base:Heap)(c P:Addr),PySem.W.tabIn K "law"=some (c,P)→K.In base→base.Ns mainGlobals mg→Lamb mg base c P→FnOk l.prog w K mg base (CXE l.prog w) 12 fa fd ["_law_script"] (yx P):=by
 have e:=hfa.symm.trans (PySem.W.mg_of X G a_law)
 cases e
 have O:Own mg:=⟨PySem.W.mg_none_of X G z_len,PySem.W.mg_none_of X G z_range,PySem.W.mg_none_of X G z_abs,PySem.W.mg_none_of X G z_max,PySem.W.mg_none_of X G z_int,PySem.W.mg_none_of X G z_isi,PySem.W.mg_none_of X G z_bool,PySem.W.mg_none_of X G z_val,PySem.W.mg_none_of X G z_reversed,PySem.W.mg_none_of X G z_divmod,PySem.W.mg_none_of X G z_str,PySem.W.mg_none_of X G z_sum⟩
 have G13:Kind K (fun i=>([C0,C1,C2,C3,C4,C5,C6,C7,C8,C9,C10,C11,C12,C13,C14]:List Addr).getD i 0) 13:=⟨by decide,by decide,⟨x13_ex,x13_ga,x13_gn,x13_cl⟩,fun j hj=>match j,hj with|0,_=>x13_k0|1,_=>x13_k1|2,_=>x13_k2|3,_=>x13_k3|4,_=>x13_k4|5,_=>x13_k5|6,_=>x13_k6|7,_=>x13_k7|8,_=>x13_k8|9,_=>x13_k9|10,_=>x13_k10|11,_=>x13_k11|12,_=>x13_k12|13,_=>x13_k13|n+14,h=>absurd h (by omega),x13_va,x13_bo⟩
 have G14:Kind K (fun i=>([C0,C1,C2,C3,C4,C5,C6,C7,C8,C9,C10,C11,C12,C13,C14]:List Addr).getD i 0) 14:=⟨by decide,by decide,⟨x14_ex,x14_ga,x14_gn,x14_cl⟩,fun j hj=>match j,hj with|0,_=>x14_k0|1,_=>x14_k1|2,_=>x14_k2|3,_=>x14_k3|4,_=>x14_k4|5,_=>x14_k5|6,_=>x14_k6|7,_=>x14_k7|8,_=>x14_k8|9,_=>x14_k9|10,_=>x14_k10|11,_=>x14_k11|12,_=>x14_k12|13,_=>x14_k13|n+14,h=>absurd h (by omega),x14_va,x14_bo⟩
 have T:Txt K mg (fun i=>([t0,t1,t2,t3,t4,t5]:List Tok).getD i 0) (fun i=>([C0,C1,C2,C3,C4,C5,C6,C7,C8,C9,C10,C11,C12,C13,C14]:List Addr).getD i 0) (fun i=>([]:List Addr).getD i 0):=⟨PySem.W.mg_of X G k_0,PySem.W.mg_of X G k_1,PySem.W.mg_of X G k_2,PySem.W.mg_of X G k_3,PySem.W.mg_of X G k_4,PySem.W.mg_of X G k_5,PySem.W.mg_of X G k_6,PySem.W.mg_of X G k_7,PySem.W.mg_of X G k_8,PySem.W.mg_of X G k_9,PySem.W.mg_of X G k_10,PySem.W.mg_of X G k_11,PySem.W.mg_of X G k_12,PySem.W.mg_of X G k_13,PySem.W.mg_of X G k_14,PySem.W.mg_of X G m_MOST_PLACES,PySem.W.mg_of X G m_SMALL_LETTERS,PySem.W.mg_of X G m_LONGEST_NAME,PySem.W.mg_of X G m_SHORTEST_PAGE,PySem.W.mg_of X G m_FIRST_SIGN,PySem.W.mg_of X G m_LAST_SIGN,⟨x13_ex⟩,⟨x14_ex⟩⟩
 have OT:mg "tuple"=none:=PySem.W.mg_none_of X G z2_tuple
 have OA:mg "all"=none:=PySem.W.mg_none_of X G z2_all
 have OS:mg "set"=none:=PySem.W.mg_none_of X G z2_set
 have OL:mg "list"=none:=PySem.W.mg_none_of X G z2_list
 have OZ:mg "zip"=none:=PySem.W.mg_none_of X G z2_zip
 have OM:mg "min"=none:=PySem.W.mg_none_of X G z2_min
 have OE:mg "enumerate"=none:=PySem.W.mg_none_of X G z2_enumerate
 generalize (fun i=>([C0,C1,C2,C3,C4,C5,C6,C7,C8,C9,C10,C11,C12,C13,C14]:List Addr).getD i 0)=c at G13 G14 T
 generalize (fun i=>([]:List Addr).getD i 0)=kr at T
 generalize (fun i=>([t0,t1,t2,t3,t4,t5]:List Tok).getD i 0)=tk at T
 refine⟨PySem.W.fnOf "law" "law" (Je Kr) (QM Kr) (Qd Kr) .none kV doc pm an (.ref ca) ct,fun s v=>.of_eq rfl,fun base c' P ht kb nb L=>?_⟩
 obtain rfl:c'=ca:=by
  have z:PySem.W.tabIn K "law"=some (c',P):=ht
  unfold PySem.W.tabIn at z
  simp only[a_law,l_law]at z
  split at z
  ·split at z
   ·cases z;rfl
   ·cases z
  ·cases z
 have KT:KitL K:=KitL.of t_NoneType_tuple t_bool_tuple t_int_tuple t_str_tuple t_tuple_tuple t_list_tuple t_NoneType_str t_bool_str t_int_str t_str_str t_tuple_str t_list_str t_int_int t_bool_int t_int_bool t_bool_bool
 have cl:Cls K CR:=⟨r_pg,r_hd,r_po,r_sa⟩
 have R:ClsR K CR:=⟨cl,r_n_plan,r_n_rows,r_n_is_closed⟩
 have KT2:Kit K:=⟨t_str_tuple,t_tuple_tuple⟩
 have D_ten_to:Def l.prog w K mg base 1 "ten_to" ["many"] (vV):=d_ten_to.d1 X G (fun f fd F=>zT F O) fun _ _ _ _ _ _ _=>rfl
 have D_quotient_cut:Def l.prog w K mg base 1 "quotient_cut" ["number","by"] (zU):=d_quotient_cut.d2 X G (fun f fd F=>Wq F O) fun _ _ _ _ _ _ _ _=>rfl
 have D_cut:Def l.prog w K mg base 2 "cut" ["amount","places"] (vX K):=d_cut.d2 X G (fun f fd F=>Qay F O D_ten_to D_quotient_cut) fun _ _ _ _ _ _ _ _=>rfl
 have D_lined_up:Def l.prog w K mg base 3 "lined_up" ["one","other"] (VC K):=d_lined_up.d2 X G (fun f fd F=>Uw F O D_cut) fun _ _ _ _ _ _ _ _=>rfl
 have D_same:Def l.prog w K mg base 4 "same" ["one","other"] (zX K):=d_same.d2 X G (fun f fd F=>vZ F D_lined_up) fun _ _ _ _ _ _ _ _=>rfl
 have D_added:Def l.prog w K mg base 4 "added" ["one","other"] (vY K fun x y=>x+y):=d_added.d2 X G (fun f fd F=>wd F D_lined_up) fun _ _ _ _ _ _ _ _=>rfl
 have D_is_pair:Def l.prog w K mg base 1 "is_pair" ["value"] (VD):=d_is_pair.d1 X G (fun f fd F=>jk F O OT KT2) fun _ _ _ _ _ _ _=>rfl
 have D_spots_of:Def l.prog w K mg base 1 "spots_of" ["plan","names"] (Wv):=d_spots_of.d2 X G (fun f fd F=>UH F) fun _ _ _ _ _ _ _ _=>rfl
 have D_no_sums:Def l.prog w K mg base 1 "no_sums" ["plan"] (js):=d_no_sums.d1 X G (fun f fd F=>jt F OT) fun _ _ _ _ _ _ _=>rfl
 have D_with_row:Def l.prog w K mg base 5 "with_row" ["plan","amounts","row"] (Ve K):=d_with_row.d3 X G (fun f fd F=>UI F OT OZ D_spots_of D_added) fun _ _ _ _ _ _ _ _ _=>rfl
 have D_sums_of:Def l.prog w K mg base 6 "sums_of" ["plan","rows"] (xq):=d_sums_of.d2 X G (fun f fd F=>ju F D_no_sums D_with_row) fun _ _ _ _ _ _ _ _=>rfl
 have D_is_alike:Def l.prog w K mg base 5 "is_alike" ["one","other"] (UL):=d_is_alike.d2 X G (fun f fd F=>UM F D_is_pair D_same) fun _ _ _ _ _ _ _ _=>rfl
 have D_unlike_from:Def l.prog w K mg base 6 "unlike_from" ["plan","one","other"] (VL):=d_unlike_from.d3 X G (fun f fd F=>WQ F O OE D_spots_of D_is_alike) fun _ _ _ _ _ _ _ _ _=>rfl
 have D_feet:Def l.prog w K mg base 2 "feet" ["plan","row","since","first"] (xw):=d_feet.d4 X G (fun f fd F=>v9 F O OT D_spots_of) fun _ _ _ _ _ _ _ _ _ _=>rfl
 have D_breaks:Def l.prog w K mg base 7 "breaks" ["plan","rows"] (VM):=d_breaks.d2 X G (fun f fd F=>xy F O OT OE D_no_sums D_with_row D_sums_of D_unlike_from D_feet) fun _ _ _ _ _ _ _ _=>rfl
 have D__law_draw:Def l.prog w K mg base 1 "_law_draw" ["_law_script","_law_town","_law_many"] (W5 K):=d__law_draw.d3 X G (fun f fd F=>YI F O) fun _ _ _ _ _ _ _ _ _=>rfl
 have D__law_begun:Def l.prog w K mg base 1 "_law_begun" [] (Ug):=d__law_begun.d0 X G (fun f fd F=>VO F) fun _ _ _ _ _ _=>rfl
 have D__law_plus:Def l.prog w K mg base 1 "_law_plus" ["_law_one","_law_two"] (xz):=d__law_plus.d2 X G (fun f fd F=>YJ F O OT OZ) fun _ _ _ _ _ _ _ _=>rfl
 have D__law_a_plan:Def l.prog w K mg base 2 "_law_a_plan" ["_law_script","_law_town"] (UO K):=d__law_a_plan.d2 X G (fun f fd F=>WS F O OT D__law_draw) fun _ _ _ _ _ _ _ _=>rfl
 have D_page_top:Def l.prog w K mg base 1 "page_top" ["plan","page","amounts"] (yi):=d_page_top.d3 X G (fun f fd F=>UR F O) fun _ _ _ _ _ _ _ _ _=>rfl
 have D_page_bottom:Def l.prog w K mg base 1 "page_bottom" ["plan","is_last","amounts"] (yj):=d_page_bottom.d3 X G (fun f fd F=>WU F O) fun _ _ _ _ _ _ _ _ _=>rfl
 have D_lines_on_page:Def l.prog w K mg base 1 "lines_on_page" ["plan","ahead","left"] (yk):=d_lines_on_page.d3 X G (fun f fd F=>Ku F O) fun _ _ _ _ _ _ _ _ _=>rfl
 have D_without_keys:Def l.prog w K mg base 1 "without_keys" ["plan","row"] (xC):=d_without_keys.d2 X G (fun f fd F=>WA F OT OZ) fun _ _ _ _ _ _ _ _=>rfl
 have D_shown:Def l.prog w K mg base 2 "shown" ["plan","lines"] (US):=d_shown.d2 X G (fun f fd F=>wt F OT OE D_without_keys) fun _ _ _ _ _ _ _ _=>rfl
 have D_report:Def l.prog w K mg base 8 "report" ["plan","rows"] (KK):=d_report.d2 X G (fun f fd F=>xD F O OT D_breaks D_no_sums D_with_row D_page_top D_page_bottom D_lines_on_page D_shown) fun _ _ _ _ _ _ _ _=>rfl
 have D_is_name:Def l.prog w K mg base 1 "is_name" ["thing"] (z8):=d_is_name.d1 X G (fun f fd F=>jn F O T KT) fun _ _ _ _ _ _ _=>rfl
 have D_is_whole:Def l.prog w K mg base 1 "is_whole" ["thing"] (KH):=d_is_whole.d1 X G (fun f fd F=>UB F O KT) fun _ _ _ _ _ _ _=>rfl
 have D_are_names:Def l.prog w K mg base 2 "are_names" ["thing"] (z9):=d_are_names.d1 X G (fun f fd F=>YG F O OT OA OS KT D_is_name) fun _ _ _ _ _ _ _=>rfl
 have D_is_amount:Def l.prog w K mg base 2 "is_amount" ["thing"] (xf):=d_is_amount.d1 X G (fun f fd F=>YH F O OT T KT D_is_whole) fun _ _ _ _ _ _ _=>rfl
 have D_is_text:Def l.prog w K mg base 1 "is_text" ["thing"] (UD):=d_is_text.d1 X G (fun f fd F=>jp F O OA T KT) fun _ _ _ _ _ _ _=>rfl
 have D_is_row:Def l.prog w K mg base 3 "is_row" ["plan","thing"] (qo):=d_is_row.d2 X G (fun f fd F=>xh F O OT OA OZ KT D_is_amount D_is_text) fun _ _ _ _ _ _ _ _=>rfl
 have D_is_plan:Def l.prog w K mg base 3 "is_plan" ["thing"] (UF):=d_is_plan.d1 X G (fun f fd F=>jr F O OT OA OS T KT D_is_whole D_are_names) fun _ _ _ _ _ _ _=>rfl
 have C_Report:DefC l.prog w K mg base CR 1 "Report" ["self","plan"] (xE CR):=dm___init__.dc2 (PySem.W.mg_of X G k_R) r_mk r_kc (fun f fd F=>XL F R) fun _ _ _ _ _ _ _ _=>rfl
 have M_Report_check_open:DefM l.prog w K mg base CR 1 "check_open" ["self"] (VT CR c):=dm_check_open.dm1 cl (fun f fd F=>Z2 F R T) fun _ _ _ _ _ _ _=>rfl
 have M_Report_put:DefM l.prog w K mg base CR 4 "put" ["self","row"] (WE CR c):=dm_put.dm2 cl (fun f fd F=>VU F R T D_is_row M_Report_check_open) fun _ _ _ _ _ _ _ _=>rfl
 have M_Report_close:DefM l.prog w K mg base CR 9 "close" ["self"] (Xm CR c):=dm_close.dm1 cl (fun f fd F=>WF F R OT D_report M_Report_check_open) fun _ _ _ _ _ _ _=>rfl
 have ML_Report:DefM l.prog w K mg base CR 1 "__len__" ["self"] (xF CR):=dm___len__.dm1 cl (fun f fd F=>Ka F R O) fun _ _ _ _ _ _ _=>rfl
 have D_sums_ofL:Def l.prog w K mg base 6 "sums_of" ["plan","rows"] (UU):=d_sums_of.d2 X G (fun f fd F=>UV F D_no_sums D_with_row) fun _ _ _ _ _ _ _ _=>rfl
 have M_Report_so_far:DefM l.prog w K mg base CR 7 "so_far" ["self"] (UW CR):=dm_so_far.dm1 cl (fun f fd F=>Kv F R D_sums_ofL) fun _ _ _ _ _ _ _=>rfl
 have D__law_class:Def l.prog w K mg base 1 "_law_class" ["_law_kept"] (WG K c):=d__law_class.d1 X G (fun f fd F=>VW F O T) fun _ _ _ _ _ _ _=>rfl
 have D__law_no_plans:Def l.prog w K mg base 1 "_law_no_plans" ["_law_plan"] (xM):=d__law_no_plans.d1 X G (fun f fd F=>Kw F OL) fun _ _ _ _ _ _ _=>rfl
 have D__law_is:Def l.prog w K mg base 1 "_law_is" ["_law_told","_law_due"] (QbP):=d__law_is.d2 X G (fun f fd F=>jH F O KT) fun _ _ _ _ _ _ _ _=>rfl
 obtain⟨fh,fdh,ah,Fh⟩:=d_heard.ex
 have hbh:Binds K fdh ["_law_deed"] []:=Fh.binds (ps:=["_law_deed"]) fun _ _ _ _ _ _ us hl=>match us,hl with|[_],_=>rfl
 exact QaV (P:=l.prog) (w:=w) (base:=base) ⟨oc,od,kV,doc,pm,an,ct,osl,rfl,l_law,c_law⟩ O OT OM OL T L Fh (PySem.W.mg_of X G ah) hbh G13 G14 D__law_class D__law_begun D__law_draw D__law_a_plan D__law_no_plans D__law_is D__law_plus D_is_plan D_is_row D_report C_Report M_Report_put M_Report_close M_Report_so_far ML_Report
theorem QaW{P:Program}{w:World}{H:Hp}{s:Shared}{e:Value}{s':Shared}(z:CXE P w [] H s (fun _ _ _=>False) e s'):False:=by
 obtain⟨_,_,_,_,_,_,_,_,_,_,_,_,_,_,h⟩:=z
 exact h
theorem yC{K:PySem.W.Frag}{fl c P:Addr}{oc kV doc pm ct oc2:Value}{od an od2:Option Addr}{osl osl2:Array (Option Value)}{vs:Array Value}(a:PySem.W.nsIn K mainGlobals "law"=some (some (.ref fl)))
  (l:K.lookup fl=some ⟨oc,od,.func (PySem.W.fnOf "law" "law" (Je Kr) (QM Kr) (Qd Kr) .none kV doc pm an (.ref c) ct),osl⟩) (lc:K.lookup c=some ⟨oc2,od2,.fields vs,osl2⟩) (hv:(vs[11]? :Option Value)=some (.ref P)):∃c P,PySem.W.tabIn K "law"=some (c,P):=⟨c,P,Qao a l rfl lc hv⟩
end Lw
structure PySem.W.Fast:Prop where
 (tw10157501368900039680 tw11905022524671362176 tw11506439058179444864 tw16217201129379347616 tw10927724820021330144 tw2541430391611244768 tw14733027716213184832 tw13818828733467774336 tw4689050403746395552 tw14905391589284615616 tw10488643562840526304 tw11335048883910494752 tw8370874263939377888 tw7483965848735402752 tw12771825766306698176 tw16227052488651675681 tw1398843494365553697 tw3764540680196856961 tw9988837513093862561 tw7824886664006257857 tw16189483516799682849 tw10359795212204043649 tw4498485058232397217 tw9158285499221806593 tw13756604434171808321 tw7310517887854836321 tw5654682696352298593 tw9893862403726012257 tw11582086940892511073 tw11660558366528098209 tw13807940902241129409 tw14254518984117731297 tw6314156020608441570 tw13127688303973056738 tw9492940061510444322 tw13962333553792105858 tw10573675793125426786 tw1127523467605535458 tw12720049712803566306 tw17512296329964915650 tw4796408539919673314 tw1424149368419216483 tw6926828255943985379 tw7595968199312049507 tw4866278679380615555 tw14421880667372172707 tw12197441603341292099 tw5464374121901609571 tw11497492399735223939 tw9813118805026278051 tw5295698623442004835 tw1417222162153393059 tw3769739677972692899 tw12085799512596585411 tw8537704006793166884 tw10621874996597776580 tw9712446175919026436 tw16384633037326180772 tw1508814149556840004 tw650070833729601124 tw14808895306389269124 tw6194743534408378020 tw9414772751235138244 tw17778219344006749924 tw14358244011034660644 tw1928487525640003364 tw17008772701114167172 tw11555788014489148292 tw12268895430940762020 tw6092020221657153637 tw4958422053939094661 tw15720354091080887493 tw4729078058233727269 tw13717441874531438053 tw658035091437880901 tw3896638967761379941 tw4676366786425893477 tw17216710196712107685 tw3059655146720879269 tw3588474896135358213 tw7168278465264535365 tw12470056775428885381 tw15717200096445042694 tw12380097378724424710 tw7377311417313456326 tw13864131020142191846 tw8786243559217431878 tw10761191419249006918 tw11485696764784389446 tw661928198311031142 tw16269562445112977926 tw11010367754207878726 tw15578420001961898598 tw14958489170120709766 tw17496039533463910022 tw11884809658599994086 tw3195754779634883366 tw17242735081570340646 tw17791409530622656326 tw5197264013972837222 tw15741250333373998950 tw15441689306481038214 tw3303378366575688582 tw10448872826397705126 tw7734039828493306854 tw1339272030248439782 tw2727650753483177991 tw13104791560088068103 tw4979277624136953927 tw12102406413602790535 tw60828994776507655 tw6557307035688524071 tw15380410002040204615 tw17664211929896597831 tw1702511264077538695 tw4875173765022995879 tw713685760732070407 tw15961188961741941255 tw11279772436332810887 tw12744771928105880231 tw15603478609394921127 tw15563998211423779623 tw319811589285599047 tw14499793640422781863 tw5553096356030043176 tw8930713482762640488 tw4423075930774015112 tw552381171010310344 tw17872630247744617704 tw9983557561118922984 tw4313845160434270472 tw17115264721214336328 tw5848910236391501160 tw14069609857375586792 tw2265600373295041000 tw7019274527011924488 tw5075281960868660744 tw6461677181293495848 tw5996296024060038888 tw17840944322306849608 tw9575150933030753224 tw17306193105339738217 tw13409123995212318953 tw12655568504428989673 tw13211957677922947337 tw12499666923730507017 tw9943478299049709833 tw11037889657701770569 tw11276339865799563625 tw18038884252096314761 tw11015887323253510601 tw7092273956350947849 tw14256648506424194569 tw8465145909157443337 tw6978119350996635497 tw17445919200304806761 tw4138840545191426921 tw5180227071332849545 tw5311632757928669290 tw6996737869600907434 tw9547870669647016138 tw2611832968052746474 tw5345927765543008522 tw16500905856325242122 tw5470842107748267306 tw2508630414801346314 tw10998656271931887434 tw9394357138787764170 tw455707222945117162 tw7772202793187965963 tw17633483087175505003 tw18247122457800625291 tw5986246023718291627 tw2776704135723167915 tw4992262487744000235 tw10287681773039444203 tw8902654339406573931 tw4920138638663628171 tw4880586942447737227 tw4290682649813746155 tw14652582302404525643 tw13931662516301421259 tw4855947245517158123 tw13107512304160155435 tw11929925723167458123 tw8814766257708520267 tw14589373181570971467 tw2570035877555770315 tw7652349719466438700 tw12651575636788761772 tw3538942575438863660 tw17801516785862310220 tw2444800095418739020 tw10680948602983219564 tw1062232728951266764 tw12050988994016813548 tw4359252574686366444 tw3753469636240415500 tw3198969435871725388 tw12876698717460941837 tw16726803351492223021 tw3460754262403972205 tw9720897978420711565 tw6338730366439621901 tw8003399134256493837 tw2630490709105227053 tw9707531280845543725 tw211827039945072237 tw13489885262327651949 tw14255258216079932045 tw362817848071609101 tw4934604241761581997 tw11911040930821421005 tw13459194955617549293 tw7844488142253165582 tw8671733836223499278 tw4090118472354499694 tw9285909648342628494 tw10337799262577438958 tw16854137032524579118 tw17003458985556412750 tw1229465542066637198 tw5429926256775283086 tw678406085885670830 tw17883409066401188366 tw5753185323664796238 tw13658804718299087470 tw6288300307168543342 tw14472113711536130702 tw2114751977547869902 tw9696974275456897806 tw17407383219573505838 tw15427358018548390734 tw15833660939284398990 tw16285260796404641807 tw17607830430663668815 tw3439063618459436111 tw12548552572204099823 tw14720797557608412399 tw2090020378812503375 tw13186499608504705519 tw6123847875796040175 tw11697443265072099087 tw13757464869755086703 tw15026298958629159855 tw6164486881933218767 tw15648185386384428015 tw5847330108634158063 tw10523380494755460079 tw2834189660287104144 tw5261167237797680304 tw7357362097372209424 tw3548625053624807696 tw4850877396620398064 tw7051824738549568144 tw3559861961623168784 tw14230381010152346416 tw17408847606940098512 tw3659367582439052240 tw18374237951252101137 tw14366346857791527025 tw17906770861043141745 tw3914559922947923153 tw13833084882254526737 tw8723491373431957841 tw7290044725851174257 tw4881232514636567953 tw17049261384425873041 tw13131138184765728465 tw4467948763077054257 tw12566593435558735697 tw11748828447859137618 tw10444143209169108082 tw4253123405895761042 tw11836191397637174418 tw11729127711349431538 tw11595982240514306322 tw11443995463897933074 tw15585136448923322674 tw15144438083602666802 tw6159977939321391442 tw10583158630177609042 tw4415676248680128850 tw12280534174904889714 tw18153971442071282386 tw10155046469519717074 tw3658833218950682354 tw13557685074157652754 tw14173332713293299506 tw13262150461098939218 tw969648994943923026 tw1749864922117522451 tw6214219070057400339 tw6033541869553647763 tw17632610276651943155 tw15502753918710080819 tw14756271677442024819 tw2636831686614275539 tw3081677998279995891 tw8059611714744161971 tw12584375848826181427 tw389778490118087539 tw7470198674125996915 tw4157048327509616756 tw11867457037470270612 tw9764296742207414708 tw12668545742743163412 tw6298871849707710164 tw9043944508074967796 tw16600133723809791732 tw15264768314515968788 tw10084545694032353044 tw5679796542672757524 tw2721799405130839956 tw14064466134559018932 tw9852287019172012117 tw15502931249981170965 tw5738615494114024757 tw8149029934823897461 tw10421741296598857077 tw3072857784650937781 tw10991729247390967381 tw1099653343744889493 tw16404874509523473045 tw8367008079315293909 tw6862519900496024309 tw7005779994191044726 tw3594419917568141494 tw8140053695393894614 tw10773556178252469462 tw1451925228949116118 tw9059248935812873590 tw13684318980946873878 tw3979015383709838902 tw8089437134430831222 tw8272729931559505686 tw18348437691693515574 tw9933128943582388086 tw5311810299989315446 tw18222967241091761110 tw2991578611692458966 tw17200808462866098295 tw3489366046745243767 tw564462395027818647 tw6314194070893772023 tw15462727485036422455 tw912984667684082007 tw3823337861116375415 tw9109941372738790903 tw14424097678269673975 tw9740274245586504247 tw3314866949069409943 tw14918107354721765047 tw13808587490656932599 tw9078018814457542423 tw15129998065954925399 tw156505133739795287 tw893475523755553751 tw1314846352234994647 tw10789464857203226680 tw12712162234429470840 tw15025685443589712056 tw1980724015818134776 tw15942016452313891096 tw22712458521057592 tw7740705815738361208 tw6069299303289759160 tw13547942507143149016 tw1410247947158107640 tw11382275477414019608 tw17579193505269742104 tw9401401210366087736 tw6825110554095502968 tw9688849954946750072 tw16603388406561020568 tw6807784865887618712 tw314105884877295288 tw1616397212959741624 tw5274147489343529656 tw832383884519642872 tw5438782631890201400 tw2770470707998008216 tw3181068082652995576 tw9670854149046320153 tw7772495661566098585 tw9188307287430376633 tw1034572840303889625 tw1475560645703157017 tw2793927527156972953 tw12366339210476588473 tw10247580701457862105 tw12899110041029530073 tw13135549173353704985 tw2686735835585602105 tw11198685886959893145 tw5174088200102962841 tw17801381618676643801 tw4386218819904816186 tw5658731521724224570 tw944958819330280570 tw12379276213342882042 tw6275916359023091034 tw817013683073146266 tw8197283707620952506 tw17651432337943538106 tw1371608423191296506 tw1162881912712615770 tw2974313221907045242 tw7379307447038679002 tw16825837455464679451 tw2977067444914346043 tw6446234606844568763 tw11342959897321589979 tw17044633268123326683 tw3379318991637841147 tw12388544087137841403 tw974856088824642843 tw11704904346053865819 tw10592481732276207995 tw2378993453691131259 tw16491449877897521659 tw2315740124430545435 tw17569008494971160283 tw18175406998831380187 tw1994141236830335739 tw11684105387175036763 tw5909864323442140027 tw7640400910281655163 tw10734988261952738203 tw1410004937147954107 tw3242416390194292731 tw6075165302961421404 tw5022285581310937308 tw16938870301094890780 tw6299693536758982940 tw2159086640280824124 tw2964894854454367612 tw11170359525639778716 tw17376623920925934044 tw15882997961202724476 tw9945653946438868668 tw9142386856432547580 tw2612324465897279420 tw17881396055347737629 tw10641236447635810365 tw5206134233425764413 tw12352591917863939165 tw6874901105864779901 tw18392132872395139261 tw18123088793110487261 tw4383151506674554205 tw1649508823139250525 tw14097476851321407965 tw10047733549150033405 tw2475165358078610973 tw11098560903335203389 tw2579176629158818397 tw3106564535303513885 tw8472684643625128829 tw8680480938286181277 tw5940582951698254813 tw6255805155084860446 tw17958085143176126558 tw17869823158803951742 tw9116802223580315774 tw1125794257683622110 tw5505930430252171518 tw13424257345685005726 tw956054847525227070 tw13748547649215598174 tw6560159635615282814 tw4036943841195912862 tw15901991882179378942 tw7947578678547115806 tw12333742812399247262 tw9500031138102140830 tw5257868955992679326 tw3577810611108301758 tw10551936472096466878 tw15512751438542463966 tw6779164498879382591 tw15177141941532429407 tw14492073415535040671 tw2632068426722790591 tw17250278683512738047 tw5902756578747564319 tw10041657111996454431 tw10199810766859554431 tw10219776381838037695 tw4108857351182669535 tw5966267778617344831 tw17135727619387167583 tw14666301005059477375 tw17180595399127723935 tw15468681726251457535 tw3318634641617131399:True)
open PySem PySem.W PyProof.Rows
set_option maxRecDepth 100000 in
set_option maxHeartbeats 0 in
theorem PySem.Challenge.cw_boxmoves_k38_plans_and_rows_holds : PySem.Challenge.rw_boxmoves_k38_plans_and_rows.Holds := by
 w_on;o_law;k_head;(case hw=>w_witness2)
 k_fill
 refine L2.kN (l:=PySem.Challenge.rw_boxmoves_k38_plans_and_rows) (n:=63) (k:=12) (x:="_law_script") (CX:=fun w=>L2.CXE PySem.Challenge.rw_boxmoves_k38_plans_and_rows.prog w) (sp:=fun _ P=>Lw.yx P) rfl (by decide) rfl ⟨rfl,by decide,by decide⟩ (fun w h Y=>PySem.W.km_in_of Y) ?nL ?nT rfl ?hT ?F (fun w H a P ns hl hO hS=>⟨a,ns,rfl,hl,hO,hS,fun _=>rfl⟩) (fun w H s e s' z=>Lw.QaW z)
 case nL=>intro w;kernel_rfl
 case nT=>intro w;kernel_rfl
 case hT=>
  intro w
  refine' Lw.yC ?a ?l ?lc ?hv
  (case a=>k_is);(case l=>k_is);(case lc=>k_is);(case hv=>exact rfl)
 case F=>
  intro w mg fa h KX G hmg
  refine' Lw.all_mk KX G hmg ?d_ten_to ?d_quotient_cut ?d_cut ?d_lined_up ?d_same ?d_added ?d_is_pair ?d_spots_of ?d_no_sums ?d_with_row ?d_sums_of ?d_is_alike ?d_unlike_from ?d_feet ?d_breaks ?d__law_draw ?d__law_begun ?d__law_plus ?d__law_a_plan ?d_page_top ?d_page_bottom ?d_lines_on_page ?d_without_keys ?d_shown ?d_report ?d_is_name ?d_is_whole ?d_are_names ?d_is_amount ?d_is_text ?d_is_row ?d_is_plan ?dm___init__ ?dm_check_open ?dm_put ?dm_close ?dm___len__ ?dm_so_far ?d__law_class ?d__law_no_plans ?d__law_is ?d_heard ?k_0 ?k_1 ?k_2 ?k_3 ?k_4 ?k_5 ?k_6 ?k_7 ?k_8 ?k_9 ?k_10 ?k_11 ?k_12 ?k_13 ?k_14 ?k_R ?r_pg ?r_hd ?r_po ?r_sa ?r_mk ?r_kc ?r_n_plan ?r_n_rows ?r_n_is_closed ?m_SMALL_LETTERS ?m_FIRST_SIGN ?m_LAST_SIGN ?m_MOST_PLACES ?m_LONGEST_NAME ?m_SHORTEST_PAGE ?z2_tuple ?z2_all ?z2_set ?z2_list ?z2_zip ?z2_min ?z2_enumerate ?t_NoneType_tuple ?t_bool_tuple ?t_int_tuple ?t_str_tuple ?t_tuple_tuple ?t_list_tuple ?t_NoneType_str ?t_bool_str ?t_int_str ?t_str_str ?t_tuple_str ?t_list_str ?t_int_int ?t_bool_int ?t_int_bool ?t_bool_bool ?z_len ?z_range ?z_abs ?z_max ?z_int ?z_isi ?z_bool ?z_val ?z_reversed ?z_divmod ?z_str ?z_sum ?x13_ex ?x14_ex ?x13_ga ?x13_gn ?x13_cl ?x13_k0 ?x13_k1 ?x13_k2 ?x13_k3 ?x13_k4 ?x13_k5 ?x13_k6 ?x13_k7 ?x13_k8 ?x13_k9 ?x13_k10 ?x13_k11 ?x13_k12 ?x13_k13 ?x13_va ?x13_bo ?x14_ga ?x14_gn ?x14_cl ?x14_k0 ?x14_k1 ?x14_k2 ?x14_k3 ?x14_k4 ?x14_k5 ?x14_k6 ?x14_k7 ?x14_k8 ?x14_k9 ?x14_k10 ?x14_k11 ?x14_k12 ?x14_k13 ?x14_va ?x14_bo ?a_law ?l_law ?c_law
  (case k_R=>k_is)
  (case d_ten_to|d_quotient_cut|d_cut|d_lined_up|d_same|d_added|d_is_pair|d_spots_of|d_no_sums|d_with_row|d_sums_of|d_is_alike|d_unlike_from|d_feet|d_breaks|d__law_draw|d__law_begun|d__law_plus|d__law_a_plan|d_page_top|d_page_bottom|d_lines_on_page|d_without_keys|d_shown|d_report|d_is_name|d_is_whole|d_are_names|d_is_amount|d_is_text|d_is_row|d_is_plan|d__law_class|d__law_no_plans|d__law_is|d_heard=>(refine' L2.kP ?a ?l ?c ?k;(case a=>k_is);(case l=>k_is);(case c=>k_is);(case k=>k_is)))
  (case dm___init__|dm_check_open|dm_put|dm_close|dm___len__|dm_so_far=>(refine' L2.xX ?a ?i ?l ?c ?k;(case a=>k_is);(case i=>k_is);(case l=>k_is);(case c=>k_is);(case k=>k_is)))
  (case k_0|k_1|k_2|k_3|k_4|k_5|k_6|k_7|k_8|k_9|k_10|k_11|k_12|k_13|k_14|r_pg|r_hd|r_po|r_sa|r_mk|r_kc|r_n_plan|r_n_rows|r_n_is_closed|m_SMALL_LETTERS|m_FIRST_SIGN|m_LAST_SIGN|m_MOST_PLACES|m_LONGEST_NAME|m_SHORTEST_PAGE|z2_tuple|z2_all|z2_set|z2_list|z2_zip|z2_min|z2_enumerate|z_len|z_range|z_abs|z_max|z_int|z_isi|z_bool|z_val|z_reversed|z_divmod|z_str|z_sum|x13_ga|x13_gn|x13_cl|x14_ga|x14_gn|x14_cl|a_law|l_law|c_law=>k_is)
  (case t_NoneType_tuple|t_bool_tuple|t_int_tuple|t_str_tuple|t_tuple_tuple|t_list_tuple|t_NoneType_str|t_bool_str|t_int_str|t_str_str|t_tuple_str|t_list_str|t_int_int|t_bool_int|t_int_bool|t_bool_bool|x13_k0|x13_k1|x13_k2|x13_k3|x13_k4|x13_k5|x13_k6|x13_k7|x13_k8|x13_k9|x13_k10|x13_k11|x13_k12|x13_k13|x13_va|x14_k0|x14_k1|x14_k2|x14_k3|x14_k4|x14_k5|x14_k6|x14_k7|x14_k8|x14_k9|x14_k10|x14_k11|x14_k12|x14_k13|x14_va=>kit_is)
  (case x13_ex|x14_ex=>k_exc)
  (case x13_bo|x14_bo=>kts_exm)
