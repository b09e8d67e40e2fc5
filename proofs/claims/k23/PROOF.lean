import PyProof.Rows.All
import Wide.All
import OpenK.AllK
import Wide.FinOn
import Lean
import PyProof.EqAt
import PyProof.EqKinds
import PyProof.TupleCall
import PyProof.NeKinds
import PyProof.WalksMore
import PyProof.Rows.SetFrom
import PyProof.FString5
import PySem.Challenge.RW_boxmoves_k23_layouts
set_option Elab.async false
set_option linter.all false
set_option maxRecDepth 100000
namespace L2
open PySem PySem.Spec PyProof.Rows
abbrev Key:=Sum Int Str
def jA:Key->Value->Bool
 | .inl k,v=>Value.isInt k v
 | .inr x,v=>Value.isStrOf x v
def Qcj(w:World):Key->Int
 | .inl k=>hashInt k
 | .inr x=>hashStr w x
theorem Q3:∀{k:Key}{v:Value},jA k v=true->(∃i t,k=Sum.inl i/\v=Value.int i t)\/(∃x t,k=Sum.inr x/\v=Value.str x t)
 | .inl i,v,h=>by
  obtain⟨t,e⟩:=Value.isInt_shape (k:=i) (v:=v) h;exact .inl ⟨i,t,rfl,e⟩
 | .inr x,v,h=>by
  obtain⟨t,e⟩:=Value.isStrOf_shape (x:=x) (v:=v) h;exact .inr ⟨x,t,rfl,e⟩
theorem zx(i:Int)(t:Tok):jA (.inl i) (.int i t)=true:=by simp[jA,Value.isInt]
theorem zz(x:Str)(t:Tok):jA (.inr x) (.str x t)=true:=by simp[jA,Value.isStrOf]
theorem Qa1(a b:Int):decide ((Sum.inl a:Key)=Sum.inl b)=(a==b):=by
 by_cases e:a=b
 ·subst e;simp
 ·have h:¬ (Sum.inl a:Key)=Sum.inl b:=fun q=>e (Sum.inl.inj q);rw[decide_eq_false h];exact(beq_eq_false_iff_ne.mpr e).symm
theorem Qa2(a b:Str):decide ((Sum.inr a:Key)=Sum.inr b)=decide (a=b):=by
 by_cases e:a=b
 ·subst e;simp
 ·have h:¬ (Sum.inr a:Key)=Sum.inr b:=fun q=>e (Sum.inr.inj q);rw[decide_eq_false h,decide_eq_false e]
theorem Qa3(a:Int)(b:Str):decide ((Sum.inl a:Key)=Sum.inr b)=false:=decide_eq_false (fun q=>nomatch q)
theorem Qa4(a:Str)(b:Int):decide ((Sum.inr a:Key)=Sum.inl b)=false:=decide_eq_false (fun q=>nomatch q)
def Q4(prog:Program)(w:World):PySem.KeyKind prog w Key where
 is:=jA
 hash:=Qcj w
 inj:=fun v a b ha hb=>by
  rcases Q3 ha with⟨i,t,rfl,rfl⟩|⟨x,t,rfl,rfl⟩
  ·rcases Q3 hb with⟨j,u,rfl,e⟩|⟨y,u,rfl,e⟩
   ·injection e with e1 _;rw[e1]
   ·exact nomatch e
  ·rcases Q3 hb with⟨j,u,rfl,e⟩|⟨y,u,rfl,e⟩
   ·exact nomatch e
   ·injection e with e1 _;rw[e1]
 byValue:=fun k v h=>by
  rcases Q3 h with⟨i,t,rfl,rfl⟩|⟨x,t,rfl,rfl⟩<;>rfl
 pyHash:=fun hv h=>by
  rcases Q3 hv with⟨i,t,rfl,rfl⟩|⟨x,t,rfl,rfl⟩
  ·exact wpAny_pyHash_int h
  ·exact wpAny_pyHash_str h
 eqBool:=fun hu hv h=>by
  rcases Q3 hu with⟨i,t,rfl,rfl⟩|⟨x,t,rfl,rfl⟩
  ·rcases Q3 hv with⟨j,u,rfl,rfl⟩|⟨y,u,rfl,rfl⟩
   ·rw[Qa1]at h;exact wpAny_eqBool_int h
   ·rw[Qa3]at h;exact SeqAt.EqAt.int_str i t y u _ _ _ _ h
  ·rcases Q3 hv with⟨j,u,rfl,rfl⟩|⟨y,u,rfl,rfl⟩
   ·rw[Qa4]at h;exact SeqAt.EqAt.str_int x t j u _ _ _ _ h
   ·rw[Qa2]at h;exact wpAny_eqBool_str h
 «strs»:=fun k x t v h=>by
  rcases Q3 h with⟨i,u,rfl,e⟩|⟨y,u,rfl,e⟩
  ·exact nomatch e
  ·injection e with e1 _;subst e1;cases v<;>rfl
theorem UM(prog:Program)(w:World)(i:Int)(t:Tok):(Q4 prog w).is (.inl i) (.int i t)=true:=zx i t
theorem Zh(prog:Program)(w:World)(x:Str)(t:Tok):(Q4 prog w).is (.inr x) (.str x t)=true:=zz x t
inductive V where
 |non|bl (b:Bool)|int (i:Int)|str (x:Str)|byt (b:Array UInt8)|flt (b:UInt64)|ref (a:Addr)|ty (n:String)
 deriving DecidableEq
def RelV:V->Value->Prop
 | .non,u=>u=Value.none
 | .bl b,u=>u=Value.bool b
 | .int i,u=>∃t,u=Value.int i t
 | .str x,u=>∃t,u=Value.str x t
 | .byt b,u=>∃t,u=Value.bytes b t
 | .flt b,u=>∃t,u=Value.float b t
 | .ref a,u=>u=Value.ref a
 | .ty n,u=>u=Value.type n
abbrev Vals:List V->List Value->Prop:=Paired RelV
theorem Vals.length{xs:List V}{us:List Value}(r:Vals xs us):xs.length=us.length:=Paired.length r
theorem Vals.get:∀{xs:List V}{us:List Value}{i:Nat}{x:V},Vals xs us->xs[i]? =some x->∃u,us[i]? =some u/\RelV x u
 |_,_,_,_,.nil,e=>by simp at e
 |_,_,0,_,.cons r _,e=>by simp at e;subst e;exact⟨_,rfl,r⟩
 |_,_,i+1,x,.cons _ t,e=>by
  obtain⟨u,h1,h2⟩:=Vals.get (i:=i) (x:=x) t (by simpa using e);exact⟨u,by simpa using h1,h2⟩
theorem Vals.set{x:V}{u:Value}(r:RelV x u):∀{xs:List V}{us:List Value}(i:Nat),Vals xs us->Vals (xs.set i x) (us.set i u)
 |_,_,_,.nil=>.nil
 |_,_,0,.cons _ t=>.cons r t
 |_,_,i+1,.cons q t=>.cons q (Vals.set r i t)
theorem Vals.append:∀{xs ys:List V}{us ws:List Value},Vals xs us->Vals ys ws->Vals (xs++ys) (us++ws)
 |_,_,_,_,.nil,s=>s
 |_,_,_,_,.cons r t,s=>.cons r (Vals.append t s)
theorem Vals.take:∀{xs:List V}{us:List Value}(n:Nat),Vals xs us->Vals (xs.take n) (us.take n)
 |_,_,0,_=>.nil
 |_,_,_+1,.nil=>.nil
 |_,_,n+1,.cons r t=>.cons r (Vals.take n t)
theorem Vals.drop:∀{xs:List V}{us:List Value}(n:Nat),Vals xs us->Vals (xs.drop n) (us.drop n)
 |_,_,0,r=>r
 |_,_,_+1,.nil=>.nil
 |_,_,n+1,.cons _ t=>Vals.drop n t
def qG:Option V->Option Value->Prop
 |some v,some u=>RelV v u
 |none,none=>True
 |_,_=>False
def KV{κ:Type}:List (κ × V)->List (κ × Value)->Prop:=Paired fun(p:κ × V)(q:κ × Value)=>p.1=q.1/\RelV p.2 q.2
def kV:Key->V
 | .inl i=>.int i
 | .inr x=>.str x
inductive HO where
 |lst (xs:List V)
 |tup (xs:List V)
 |dK (kvs:List (Key × V))|dT (kvs:List (List Key × V))
 |set (S:Int->Bool) (n:Nat)
 |ins (C dx:Addr) (fs:List (Str × V))
 |own (x:Addr)
 |xd (fs:List (Str × V))
 |met (f x:Addr)
 |rng (lo hi:Int)
 |frz (o:Obj) (u:HO)
 |tbl (ps:Array Value)
 |ext (φ:Heap->Prop)
abbrev Hp:=Addr->Option HO
def upd(H:Hp)(a:Addr)(o:HO):Hp:=fun b=>if b=a then some o else H b
theorem Qc{H:Hp}{a:Addr}{o:HO}:upd H a o a=some o:=by unfold upd;rw[if_pos rfl]
theorem Qp{H:Hp}{a b:Addr}{o:HO}(h:b≠a):upd H a o b=H b:=by unfold upd;rw[if_neg h]
theorem yq{H:Hp}{a b:Addr}{o u:HO}(h:H a=some o)(h':H b=some u)(d:o≠u):a≠b:=by
 intro e;subst e;rw[h]at h';exact d (Option.some.inj h')
theorem Qs{H:Hp}{a b:Addr}{o:HO}(h:H a=some o)(h':H b=none):a≠b:=by
 intro e;subst e;rw[h]at h';cases h'
def K5(h:Heap)(a:Addr)(items:Array Value):Prop:=∃o,h.get? a=some o/\o.cls=.type "tuple"/\∃n,o.data=.seq items n/\o.dict=none
theorem K5.tup{h:Heap}{a:Addr}{items:Array Value}(p:K5 h a items):IsTup h a items:=let ⟨o,h1,h2,n,h3,_⟩:=p;⟨o,h1,h2,n,h3⟩
theorem K5.new(h:Heap)(items:Array Value):K5 (h.push {cls:=.type "tuple",data:=.seq items}) h.objs.size items:=⟨_,Heap.get?_push_size _ rfl,rfl,_,rfl,rfl⟩
section
variable (P:Program)(w:World)
def Jd(H:Hp)(h:Heap)(a:Addr):HO->Prop
 | .lst xs=>xs.length<=sizeLine/\∃(its:List Value)(n:Nat),Vals xs its/\h.get? a=some {cls:=.type "list",data:=.seq its.toArray n}
 | .tup xs=>xs.length<=sizeLine/\∃its:List Value,Vals xs its/\K5 h a its.toArray
 | .dK kvs=>kvs.length<=sizeLine/\(a==sysModules)=false/\∃vs,KV kvs vs/\h.DictOf (Q4 P w) a vs
 | .dT kvs=>kvs.length<=sizeLine/\(a==sysModules)=false/\∃xs:List (List Key × Addr × Value),
   Paired (fun(p:List Key × V)(q:List Key × Addr × Value)=>p.1=q.1/\H q.2.1=some (.tup (p.1.map kV))/\RelV p.2 q.2.2) kvs xs/\
   ∃o es ep,h.get? a=some o/\o.ExactDict/\o.data=.dict es ep/\es.toList=xs.map (entryOfKey (tupleKind (Q4 P w)))/\(xs.map (·.1)).Nodup
 | .set S n=>h.SetOf (intKind P w) a S n
 | .ins C dx fs=>H dx=some (.own a)/\fs.length<=1000/\dx≠a/\h.get? a=some (PySem.W.instObj C dx)/\
   ∃mA,h.Ns1 dx mA/\(∀f,qG (fs.lookup f) (mA f))/\PySem.Within mA (fs.map (·.1))
 | .own _=>∃o,h.get? a=some o
 | .xd fs=>∃mA,h.Ns1 a mA/\∀f,qG (fs.lookup f) (mA f)
 | .rng lo hi=>∃t u v,h.get? a=some {cls:=.type "range",data:=.fields #[.int lo t,.int hi u,.int 1 v]}
 | .frz o u=>h.get? a=some o/\Jd H h a u
 | .tbl ps=>h.get? a=some {cls:=.none,data:=.fields ps}
 | .met f x=>h.get? a=some (PySem.W.methodObj (.ref f) (.ref x))
 | .ext φ=>φ h/\(∃o,h.get? a=some o)/\∀h1 h2:Heap,φ h1->(∀o,h1.get? a=some o->h2.get? a=some o)->φ h2
def HOk(H:Hp)(h:Heap):Prop:=∀a o,H a=some o->Jd P w H h a o
end
section
variable {P:Program}{w:World}{H H':Hp}{h h':Heap}{a:Addr}{o:HO}
theorem Jd.lt(x:Jd P w H h a o):a<h.objs.size:=by
 cases o with
 |lst xs=>obtain⟨_,_,_,_,e⟩:=x;exact Heap.lt_size e
 |tup xs=>obtain⟨_,_,_,p⟩:=x;exact p.tup.lt
 |dK kvs=>obtain⟨_,_,_,_,o,_,_,e,_⟩:=x;exact Heap.lt_size e
 |dT kvs=>obtain⟨_,_,_,_,o,_,_,e,_⟩:=x;exact Heap.lt_size e
 |set S n=>obtain⟨o,_,_,_,e,_⟩:=x;exact Heap.lt_size e
 |ins C dx fs=>obtain⟨_,_,_,e,_⟩:=x;exact Heap.lt_size e
 |own y=>obtain⟨_,e⟩:=x;exact Heap.lt_size e
 |xd fs=>obtain⟨_,⟨_,_,_,e,_⟩,_⟩:=x;exact Heap.lt_size e
 |rng lo hi=>obtain⟨_,_,_,e⟩:=x;exact Heap.lt_size e
 |frz ob u=>obtain⟨e,_⟩:=x;exact Heap.lt_size e
 |tbl ps=>exact Heap.lt_size (show h.get? a=some _ from x)
 |met f y=>exact Heap.lt_size (show h.get? a=some _ from x)
 |ext φ=>obtain⟨_,⟨_,e⟩,_⟩:=x;exact Heap.lt_size e
theorem Paired.Qck{α β:Type}{F G:α->β->Prop}:∀{l₁:List α}{l₂:List β},Paired F l₁ l₂->(∀a b,F a b->G a b)->Paired G l₁ l₂
 |_,_,.nil,_=>.nil
 |_,_,.cons r t,f=>.cons (f _ _ r) (Paired.Qck t f)
theorem Jd.UN(x:Jd P w H h a o)(k:∀b u,(b=a\/H b=some (.own a))->h.get? b=some u->h'.get? b=some u)
  (ho:∀b,H b=some (.own a)->H' b=some (.own a)) (ht:∀b xs,H b=some (.tup xs)->H' b=some (.tup xs)):Jd P w H' h' a o:=by
 induction o with
 |lst xs=>obtain⟨z,its,n,r,e⟩:=x;exact⟨z,its,n,r,k _ _ (.inl rfl) e⟩
 |tup xs=>obtain⟨z,its,r,ob,e,c⟩:=x;exact⟨z,its,r,ob,k _ _ (.inl rfl) e,c⟩
 |dK kvs=>obtain⟨z,y,vs,r,ob,es,ep,e,c⟩:=x;exact⟨z,y,vs,r,ob,es,ep,k _ _ (.inl rfl) e,c⟩
 |dT kvs=>
  obtain⟨z,y,xs,r,ob,es,ep,e,c⟩:=x;exact⟨z,y,xs,Paired.Qck r fun p q z=>⟨z.1,ht _ _ z.2.1,z.2.2⟩,ob,es,ep,k _ _ (.inl rfl) e,c⟩
 |set S n=>obtain⟨ob,es,ep,t,e,c⟩:=x;exact⟨ob,es,ep,t,k _ _ (.inl rfl) e,c⟩
 |ins C dx fs=>
  obtain⟨d,z,ne,e,mA,⟨od,es,ep,e2,c⟩,r⟩:=x;exact⟨ho _ d,z,ne,k _ _ (.inl rfl) e,mA,⟨od,es,ep,k _ _ (.inr d) e2,c⟩,r⟩
 |own y=>obtain⟨ob,e⟩:=x;exact⟨ob,k _ _ (.inl rfl) e⟩
 |xd fs=>obtain⟨mA,⟨od,es,ep,e,c⟩,r⟩:=x;exact⟨mA,⟨od,es,ep,k _ _ (.inl rfl) e,c⟩,r⟩
 |rng lo hi=>obtain⟨t,u,v,e⟩:=x;exact⟨t,u,v,k _ _ (.inl rfl) e⟩
 |frz ob u ih=>obtain⟨e,q⟩:=x;exact⟨k _ _ (.inl rfl) e,ih q⟩
 |tbl ps=>
  have e:h.get? a=some {cls:=.none,data:=.fields ps}:=x;show h'.get? a=some {cls:=.none,data:=.fields ps};exact k a _ (.inl rfl) e
 |met f y=>
  have e:h.get? a=some (PySem.W.methodObj (.ref f) (.ref y)):=x;show h'.get? a=some (PySem.W.methodObj (.ref f) (.ref y));exact k a _ (.inl rfl) e
 |ext φ=>obtain⟨p,⟨o,e⟩,st⟩:=x;exact⟨st _ _ p fun o q=>k _ _ (.inl rfl) q,⟨o,k _ _ (.inl rfl) e⟩,st⟩
theorem HOk.lt(x:HOk P w H h)(e:H a=some o):a<h.objs.size:=(x a o e).lt
theorem HOk.fresh(x:HOk P w H h)(e:h.objs.size<=a):H a=none:=by
 cases q:H a with
 |none=>rfl
 |some u=>exact absurd (Nat.lt_of_lt_of_le (x.lt q) e) (Nat.lt_irrefl _)
theorem HOk.kept(x:HOk P w H h)(k:∀b u,h.get? b=some u->h'.get? b=some u):HOk P w H h':=fun a o e=>
 (x a o e).UN (fun b u _ q=>k b u q) (fun _ q=>q) fun _ _ q=>q
theorem HOk.laid(x:HOk P w H h)(k:∀b u,h.get? b=some u->h'.get? b=some u) (hp:h.objs.size<=a) (new:Jd P w (upd H a o) h' a o):HOk P w (upd H a o) h':=fun b u e=>by
 have hn:=x.fresh hp
 by_cases hb:b=a
 ·subst hb;rw[Qc]at e;cases e;exact new
 ·rw[Qp hb]at e;exact(x b u e).UN (fun c v _ q=>k c v q) (fun c q=>by rw[Qp (Qs q hn)];exact q) fun c xs q=>by rw[Qp (Qs q hn)];exact q
end
def Rd(H:Hp)(a:Addr)(u:HO):Prop:=H a=some u\/∃o,H a=some (.frz o u)
theorem Rd.ok{P:Program}{w:World}{H:Hp}{h:Heap}{a:Addr}{u:HO}(r:Rd H a u)(x:HOk P w H h):Jd P w H h a u:=by
 rcases r with r|⟨o,r⟩
 ·exact x a u r
 ·obtain⟨_,q⟩:=x a _ r;exact q
def Mut:Option HO->Prop
 |some (.lst _)=>True
 |some (.dK _)=>True
 |some (.dT _)=>True
 |some (.set _ _)=>True
 |some (.ins _ _ _)=>True
 |some (.ext _)=>True
 |_=>False
section
variable {P:Program}{w:World}{H:Hp}{h h':Heap}{x e:Addr}{o':HO}
theorem HOk.write(ok:HOk P w H h)(mu:Mut (H x))(he:e=x\/H e=some (.own x))(k:∀b u,b≠e->h.get? b=some u->h'.get? b=some u) (heo:∃u,h'.get? e=some u)
  (new:Jd P w (upd H x o') h' x o'):HOk P w (upd H x o') h':=fun b u q=>by
 have nown:∀c y,H c=some (.own y)->c≠x:=fun c y r z=>by subst z;rw[r]at mu;exact mu
 have ntup:∀c xs,H c=some (.tup xs)->c≠x:=fun c xs r z=>by subst z;rw[r]at mu;exact mu
 by_cases hb:b=x
 ·subst hb;rw[Qc]at q;cases q;exact new
 ·rw[Qp hb]at q
  by_cases hbe:b=e
  ·have q':H b=some (.own x):=by
    rcases he with z|z
    ·exact absurd (hbe.trans z) hb
    ·rw[hbe];exact z
   rw[q]at q';cases q';obtain⟨v,hv⟩:=heo;exact⟨v,by rw[hbe];exact hv⟩
  ·refine(ok b u q).UN (fun c v hc r=>k c v ?_ r) (fun c r=>by rw[Qp (nown c b r)];exact r) fun c xs r=>by rw[Qp (ntup c xs r)];exact r
   rcases hc with rfl|hc
   ·exact hbe
   ·rintro rfl;rcases he with z|z
    ·exact nown c b hc z
    ·rw[hc]at z;cases z;exact hb rfl
end
structure Un(fs ex:List Addr)(H H':Hp)(h h':Heap):Prop where
 keep:∀b o,h.get? b=some o->H b=none->b∉fs->b∉ex->h'.get? b=some o
 slot:∀b o,h.get? b=some o->H b=none->b∈fs->b∉ex->∃sl,h'.get? b=some {o with slots:=sl}
 free:∀b o,h.get? b=some o->H b=none->b∉ex->H' b=none
 there:∀b o,h.get? b=some o->b∉ex->∃o',h'.get? b=some o'
 Wz:∀b xs,H b=some (.tup xs)->H' b=some (.tup xs)
 frzs:∀b o u,H b=some (.frz o u)->H' b=some (.frz o u)
 tbls:∀b ps,H b=some (.tbl ps)->∃more,H' b=some (.tbl (ps++more))
section
variable {fs fs' ex ex':List Addr}{H H1 H2:Hp}{h h1 h2 h':Heap}{a x e:Addr}{o:HO}
theorem Un.any(u:Un fs ex H H1 h h1){b:Addr}{ob:Obj}(q:h.get? b=some ob)(n:H b=none)(hx:b∉ex):∃sl,h1.get? b=some {ob with slots:=sl}:=by
 by_cases hb:b∈fs
 ·exact u.slot b ob q n hb hx
 ·exact⟨ob.slots,u.keep b ob q n hb hx⟩
theorem Un.kept(k:∀b u,h.get? b=some u->h'.get? b=some u):Un fs ex H H h h':=
 ⟨fun b ob q _ _ _=>k b ob q,fun b ob q _ _ _=>⟨ob.slots,k b ob q⟩,fun _ _ _ n _=>n,fun b ob q _=>⟨ob,k b ob q⟩,fun _ _ q=>q,fun _ _ _ q=>q,fun _ ps q=>⟨#[],by rw[q];simp⟩⟩
theorem Un.refl:Un fs ex H H h h:=Un.kept fun _ _ q=>q
theorem Un.laid(k:∀b u,h.get? b=some u->h'.get? b=some u) (hp:h.objs.size<=a) (hn:H a=none):Un fs ex H (upd H a o) h h' where
 keep:=fun b u q _ _ _=>k b u q
 slot:=fun b u q _ _ _=>⟨u.slots,k b u q⟩
 free:=fun b u q n _=>by rw[Qp (Nat.ne_of_lt (Nat.lt_of_lt_of_le (Heap.lt_size q) hp))];exact n
 there:=fun b u q _=>⟨u,k b u q⟩
 Wz:=fun b xs q=>by rw[Qp (Qs q hn)];exact q
 frzs:=fun b u xs q=>by rw[Qp (Qs q hn)];exact q
 tbls:=fun b ps q=>⟨#[],by rw[Qp (Qs q hn),q];simp⟩
theorem Un.write(mu:Mut (H x))(he:e=x\/H e=some (.own x))(k:∀b u,b≠e->h.get? b=some u->h'.get? b=some u) (heo:∃u,h'.get? e=some u):Un fs ex H (upd H x o) h h':=by
 have hx:∀b,H b=none->b≠x:=fun b n z=>by subst z;rw[n]at mu;exact mu
 have hb:∀b,H b=none->b≠e:=fun b n z=>by
  subst z;rcases he with r|r
  ·exact hx b n r
  ·rw[n]at r;cases r
 have hm:∀b u,H b=some u->¬ Mut (some u)->b≠x:=fun b u q nm z=>by subst z;rw[q]at mu;exact nm mu
 refine⟨fun b u q n _ _=>k b u (hb b n) q,fun b u q n _ _=>⟨u.slots,k b u (hb b n) q⟩,fun b u q n _=>by rw[Qp (hx b n)];exact n,fun b u q _=>?_,
  fun b xs q=>by rw[Qp (hm b _ q fun z=>z)];exact q,fun b u xs q=>by rw[Qp (hm b _ q fun z=>z)];exact q,fun b ps q=>⟨#[],by rw[Qp (hm b _ q fun z=>z),q];simp⟩⟩
 by_cases hbe:b=e
 ·subst hbe;exact heo
 ·exact⟨u,k b u hbe q⟩
end
def trk(h:Heap)(H:Hp):List Addr:=(List.range h.objs.size).filter fun a=>(H a).isSome
def kY(h:Heap)(H:Hp):Heap:=PySem.W.hideAll h (trk h H)
theorem zA(h:Heap)(H:Hp):(kY h H).objs.size=h.objs.size:=PySem.W.hideAll_size _ _
theorem k8{h:Heap}{H:Hp}{b:Addr}{o:Obj}(e:h.get? b=some o)(n:H b=none):(kY h H).get? b=some o:=
 PySem.W.hideAll_get _ e fun hm=>by
  have q:(H b).isSome=true:=(List.mem_filter.mp hm).2;rw[n]at q;simp at q
theorem yr{h:Heap}{H:Hp}{b:Addr}{o:Obj}(e:(kY h H).get? b=some o):h.get? b=some o/\H b=none:=by
 have e':h.get? b=some o:=PySem.W.of_hideAll (trk h H) e;refine⟨e',?_⟩;cases q:H b with
 |none=>rfl
 |some x=>
  have hm:b∈trk h H:=List.mem_filter.mpr ⟨List.mem_range.mpr (Heap.lt_size e'),by simp[q]⟩;have z:(kY h H).get? b=none:=PySem.W.hideAll_none (trk h H) hm;rw[z]at e;cases e
structure Mod(K:PySem.W.Frag)(mg:Str->Option Value)(base:Heap):Prop where
 kin:K.In base
 glob:base.Ns mainGlobals mg
 blt:∃mb,base.Ns builtinsNs mb/\∀x:Str,x≠"__name__"->mb x=bootBuiltins x
 nolimit:base.NoLimit
structure Cx where
 prog:Program
 w:World
 K:PySem.W.Frag
 mg:Str->Option Value
 base:Heap
 A:Around
 N:List Str
 s₀:Shared
 H₀:Hp
 env:Env
 outer:List Env
 stack:List Env
 ex:List Addr
 fn:Str->Bool
 calm:Bool
 pn:List (Addr × Obj)
 xe:Value->Shared->Prop
def frs(l:List Env):List Addr:=l.filterMap (·.frame)
abbrev Cx.fs(X:Cx):List Addr:=frs X.outer
def Vis(sc:Scope)(x:Str):Prop:=sc.names.lookup x=some .local\/sc.names.lookup x=some .cell\/sc.names.lookup x=some .free
def Loc(sc:Scope)(x:Str):Prop:=sc.names.lookup x=some .local\/sc.names.lookup x=some .cell
def Look(env:Env)(h:Heap)(m:Str->Option Value)(x:Str)(u:Value):Prop:=
 (env.kindOf x=some .local/\m x=some u)\/((env.kindOf x=some .cell\/env.kindOf x=some .free)/\∃c,env.cells.lookup x=some c/\h.IsCell c (some u))
structure Cx.Ok(X:Cx):Prop where
 mod:Mod X.K X.mg X.base
 kind:X.env.scope.kind=.function
 glob:X.env.globals=mainGlobals
 blt:X.env.builtins=builtinsNs
 above:X.s₀.heap.objs.size<=X.env.locals
 inj:∀x y c,X.env.cells.lookup x=some c->X.env.cells.lookup y=some c->x=y
 has:∀x,(X.env.kindOf x=some .cell\/X.env.kindOf x=some .free)->∃c,X.env.cells.lookup x=some c
 cab:∀x c,X.fn x=true->X.env.cells.lookup x=some c->X.s₀.heap.objs.size<=c
 hd:X.calm=true->X.A.handled=none
 frames:X.A.frames=some X.stack
 stk:X.stack=X.outer\/(X.stack=X.env::X.outer/\X.env.frame=some X.env.locals)
 exf:∀b∈X.ex,b≠X.env.locals/\∀x c,X.env.cells.lookup x=some c->c≠b
 bs:∀b o,X.base.get? b=some o->X.s₀.heap.get? b=some o/\X.H₀ b=none
 bsz:X.base.objs.size<=X.s₀.heap.objs.size
 noex:∀b o,X.base.get? b=some o->b∉X.ex
 exfs:∀b∈X.ex,b∉X.fs
 UJ:X.s₀.heap.FunFrames X.base X.outer
 frf:∀b∈X.fs,X.H₀ b=none
structure Inv(X:Cx)(pins:List (Addr × Obj))(σ:List (Option V))(H:Hp)(s:Shared):Prop where
 ok:X.Ok
 os:s.os=X.s₀.os
 bare:AllBare s.gens
 base:Un X.fs X.ex X.H₀ H X.s₀.heap s.heap
 loc:∃m,s.heap.Ns X.env.locals m/\∀(i:Nat)(x:Str)(v:V),X.N[i]? =some x->σ[i]? =some (some v)->Vis X.env.scope x->∃u,RelV v u/\Look X.env s.heap m x u
 cell:∀x c,X.env.cells.lookup x=some c->∃v,s.heap.IsCell c v
 free:H X.env.locals=none
 freeC:∀x c,X.env.cells.lookup x=some c->H c=none
 pin:∀p∈X.pn++pins,s.heap.get? p.1=some p.2/\H p.1=none/\p.1≠X.env.locals/\p.1∉X.fs/\∀v,p.2.data≠ .cell v
 hok:HOk X.prog X.w H s.heap
 len:σ.length=X.N.length
section
variable {X:Cx}{pins:List (Addr × Obj)}{σ:List (Option V)}{H H':Hp}{s:Shared}{h':Heap}
theorem Cx.Ok.Qdw(ok:X.Ok){b:Addr}{o:Obj}(e:X.base.get? b=some o):b∉X.fs:=fun hb=>by
 have:=(ok.UJ.mem hb).1;rw[e]at this;cases this
theorem Inv.bs(I:Inv X pins σ H s):∀b o,X.base.get? b=some o->s.heap.get? b=some o/\H b=none:=fun b o e=>
 ⟨I.base.keep b o (I.ok.bs b o e).1 (I.ok.bs b o e).2 (I.ok.Qdw e) (I.ok.noex b o e),I.base.free b o (I.ok.bs b o e).1 (I.ok.bs b o e).2 (I.ok.noex b o e)⟩
theorem Inv.bk(I:Inv X pins σ H s):∀b o,X.base.get? b=some o->s.heap.get? b=some o:=fun b o e=>(I.bs b o e).1
theorem Inv.mod(I:Inv X pins σ H s):Mod X.K X.mg X.base:=I.ok.mod
theorem Inv.kIn(I:Inv X pins σ H s):X.K.In s.heap:=I.ok.mod.kin.keeps I.bk
theorem Inv.nolimit(I:Inv X pins σ H s):s.heap.NoLimit:=I.ok.mod.nolimit.keeps I.bk
theorem Inv.lt(I:Inv X pins σ H s):X.env.locals<s.heap.objs.size:=let ⟨_,hn,_⟩:=I.loc;hn.lt
theorem Inv.sz(I:Inv X pins σ H s):X.s₀.heap.objs.size<=s.heap.objs.size:=Nat.le_trans I.ok.above (Nat.le_of_lt I.lt)
theorem Inv.Qdx(I:Inv X pins σ H s){a:Addr}(h:s.heap.objs.size<=a):a∉X.fs:=fun hb=>by
 obtain⟨_,o,ho,_⟩:=I.ok.UJ.mem hb;exact absurd (Nat.lt_of_lt_of_le (Heap.lt_size ho) (Nat.le_trans I.sz h)) (Nat.lt_irrefl _)
theorem Inv.cne(I:Inv X pins σ H s):∀x c,X.env.cells.lookup x=some c->c≠X.env.locals:=fun x c e z=>by
 obtain⟨v,o,ho,hd⟩:=I.cell x c e;obtain⟨m,⟨o',es,ep,ho',hd',_⟩,_⟩:=I.loc;rw[z,ho']at ho;cases ho;rw[hd']at hd;cases hd
theorem Inv.UJ(I:Inv X pins σ H s):s.heap.FunFrames X.base X.outer:=by
 have all:∀(l:List Env),(∀b∈frs l,b∈X.fs)->X.s₀.heap.FunFrames X.base l->s.heap.FunFrames X.base l:=by
  intro l
  induction l with
  |nil=>intro _ _;trivial
  |cons env r ih=>
   intro hs hl;obtain⟨hk,⟨L,o,hf,hn,ho,hd⟩,hr⟩:=hl;have hL:L∈X.fs:=hs L (by unfold frs;rw[List.filterMap_cons,hf];exact List.mem_cons_self);obtain⟨sl,e⟩:=I.base.slot L o ho (I.ok.frf L hL) hL fun z=>I.ok.exfs L z hL;exact⟨hk,⟨L,_,hf,hn,e,hd⟩,ih (fun b hb=>hs b (by unfold frs;rw[List.filterMap_cons,hf];exact List.mem_cons_of_mem _ hb)) hr⟩
 exact all X.outer (fun _ hb=>hb) I.ok.UJ
theorem Inv.stack(I:Inv X pins σ H s):s.heap.FunFrames X.base X.stack:=by
 rcases I.ok.stk with e|⟨e,hf⟩
 ·rw[e];exact I.UJ
 ·rw[e];obtain⟨m,hn,_⟩:=I.loc;refine .cons (by rw[I.ok.kind];decide) hf hn ?_ I.UJ;exact Heap.get?_none_of_le (Nat.le_trans I.ok.bsz I.ok.above)
theorem Inv.XB(I:Inv X pins σ H s):∀b∈frs X.stack,b∈X.env.locals::X.fs:=fun b hb=>by
 rcases I.ok.stk with e|⟨e,hf⟩
 ·rw[e]at hb;exact List.mem_cons_of_mem _ hb
 ·rw[e]at hb;unfold frs at hb;rw[List.filterMap_cons,hf]at hb;exact hb
theorem Inv.Z1(I:Inv X pins σ H s):∀b∈frs X.stack,H b=none:=fun b hb=>by
 rcases List.mem_cons.mp (I.XB b hb)with e|hb
 ·rw[e];exact I.free
 ·obtain⟨_,o,ho,_⟩:=I.ok.UJ.mem hb;exact I.base.free b o ho (I.ok.frf b hb) fun z=>I.ok.exfs b z hb
theorem Inv.step{g':Array GenState}{t':Nat}{d':Drawn}{ch:List Addr}(I:Inv X pins σ H s)
  (hch:∀b∈ch,(b∈X.ex\/X.s₀.heap.objs.size<=b)/\b≠X.env.locals/\(∀x c,X.env.cells.lookup x=some c->c≠b)/\∀p∈X.pn++pins,p.1≠b)
  (keep:∀b o,b≠X.env.locals->b∉X.fs->b∉ch->s.heap.get? b=some o->H b=none->h'.get? b=some o)
  (slot:∀b o,b≠X.env.locals->b∈X.fs->b∉ch->s.heap.get? b=some o->H b=none->∃sl,h'.get? b=some {o with slots:=sl}) (free:∀b o,b∉ch->s.heap.get? b=some o->H b=none->H' b=none)
  (there:∀b o,b∉ch->s.heap.get? b=some o->∃o',h'.get? b=some o')
  (Wz:∀b xs,H b=some (.tup xs)->H' b=some (.tup xs)) (frzs:∀b o u,H b=some (.frz o u)->H' b=some (.frz o u)) (tbls:∀b ps,H b=some (.tbl ps)->∃more,H' b=some (.tbl (ps++more)))
  (ns:∀m,s.heap.Ns X.env.locals m->h'.Ns X.env.locals m) (hok:HOk X.prog X.w H' h') (hg:AllBare g'):
  Inv X pins σ H' {s with heap:=h',gens:=g',drawn:=d',toks:=t'}:=by
 have neL:∀b o,X.s₀.heap.get? b=some o->b≠X.env.locals:=fun b o e=>Nat.ne_of_lt (Nat.lt_of_lt_of_le (Heap.lt_size e) I.ok.above);have neC:∀b o,X.s₀.heap.get? b=some o->b∉X.ex->b∉ch:=fun b o e hx hb=>by
  rcases(hch b hb).1 with z|z
  ·exact hx z
  ·exact absurd (Nat.lt_of_lt_of_le (Heap.lt_size e) z) (Nat.lt_irrefl _)
 have cellK:∀x c,X.env.cells.lookup x=some c->∀v,s.heap.IsCell c v->h'.IsCell c v:=fun x c e v⟨o,ho,hd⟩=>by
  have nch:c∉ch:=fun z=>(hch c z).2.2.1 x c e rfl
  by_cases hc:c∈X.fs
  ·obtain⟨sl,q⟩:=slot c o (I.cne x c e) hc nch ho (I.freeC x c e);exact⟨_,q,hd⟩
  ·exact⟨o,keep c o (I.cne x c e) hc nch ho (I.freeC x c e),hd⟩
 refine⟨I.ok,I.os,hg,⟨fun b o e n hb hx=>?_,fun b o e n hb hx=>?_,fun b o e n hx=>?_,fun b o e hx=>?_,fun b xs e=>Wz b xs (I.base.Wz b xs e),fun b o xs e=>frzs b o xs (I.base.frzs b o xs e),fun b ps e=>?_⟩,?_,fun x c e=>?_,?_,fun x c e=>?_,fun p hp=>?_,hok,I.len⟩
 ·exact keep b o (neL b o e) hb (neC b o e hx) (I.base.keep b o e n hb hx) (I.base.free b o e n hx)
 ·obtain⟨sl,e1⟩:=I.base.slot b o e n hb hx;obtain⟨sl',e2⟩:=slot b _ (neL b o e) hb (neC b o e hx) e1 (I.base.free b o e n hx);exact⟨sl',e2⟩
 ·obtain⟨o',e1⟩:=I.base.there b o e hx;exact free b o' (neC b o e hx) e1 (I.base.free b o e n hx)
 ·obtain⟨o',e1⟩:=I.base.there b o e hx;exact there b o' (neC b o e hx) e1
 ·obtain⟨m1,e1⟩:=I.base.tbls b ps e;obtain⟨m2,e2⟩:=tbls b _ e1;exact⟨m1++m2,by rw[e2,Array.append_assoc]⟩
 ·obtain⟨m,hn,hl⟩:=I.loc;refine⟨m,ns m hn,fun i x v e1 e2 e3=>?_⟩;obtain⟨u,r,l⟩:=hl i x v e1 e2 e3;refine⟨u,r,?_⟩;rcases l with l|⟨k,c,e,z⟩
  ·exact .inl l
  ·exact .inr ⟨k,c,e,cellK x c e _ z⟩
 ·obtain⟨v,z⟩:=I.cell x c e;exact⟨v,cellK x c e v z⟩
 ·obtain⟨m,⟨o,_,_,ho,_⟩,_⟩:=I.loc;exact free _ o (fun z=>(hch _ z).2.1 rfl) ho I.free
 ·obtain⟨v,o,ho,hd⟩:=I.cell x c e;exact free c o (fun z=>(hch c z).2.2.1 x c e rfl) ho (I.freeC x c e)
 ·obtain⟨e,n,ne,nf,d⟩:=I.pin p hp;have nch:p.1∉ch:=fun z=>(hch p.1 z).2.2.2 p hp rfl;exact⟨keep p.1 p.2 ne nf nch e n,free p.1 p.2 nch e n,ne,nf,d⟩
theorem Inv.un{t':Nat}(I:Inv X pins σ H s)(u:Un X.fs [] H H' s.heap h')(hok:HOk X.prog X.w H' h'):Inv X pins σ H' {s with heap:=h',toks:=t'}:=by
 obtain⟨m,⟨o,es,ep,ho,r⟩,_⟩:=id I.loc;obtain⟨sl,hL⟩:=u.any ho I.free (by simp);exact I.step (g':=s.gens) (d':=s.drawn) (ch:=[]) (fun _ z=>nomatch z) (fun b o _ hb _ e n=>u.keep b o e n hb (by simp)) (fun b o _ hb _ e n=>u.slot b o e n hb (by simp)) (fun b o _ e n=>u.free b o e n (by simp)) (fun b o _ e=>u.there b o e (by simp)) u.Wz u.frzs u.tbls (fun m' hm=>by
  obtain⟨o',es',ep',ho',r'⟩:=hm;rw[ho]at ho';cases ho';exact⟨_,es',ep',hL,r'⟩) hok I.bare
theorem Inv.call{g':Array GenState}{t':Nat}{d':Drawn}{ch:List Addr}(I:Inv X pins σ H s)(u:Un (frs X.stack) ch H H' s.heap h')(hok:HOk X.prog X.w H' h')(hg:AllBare g')
  (hch:∀b∈ch,(b∈X.ex\/X.s₀.heap.objs.size<=b)/\b≠X.env.locals/\(∀x c,X.env.cells.lookup x=some c->c≠b)/\∀p∈X.pn++pins,p.1≠b):
  Inv X pins σ H' {s with heap:=h',gens:=g',drawn:=d',toks:=t'}:=by
 obtain⟨m,⟨o,es,ep,ho,r⟩,_⟩:=id I.loc;obtain⟨sl,hL⟩:=u.any ho I.free fun z=>(hch _ z).2.1 rfl;exact I.step (ch:=ch) hch (fun b o hL hb hc e n=>u.keep b o e n (fun z=>(List.mem_cons.mp (I.XB b z)).elim hL hb) hc) (fun b o _ _ hc e n=>u.any e n hc) (fun b o hc e n=>u.free b o e n hc) (fun b o hc e=>u.there b o e hc) u.Wz u.frzs u.tbls (fun m' hm=>by
  obtain⟨o',es',ep',ho',r'⟩:=hm;rw[ho]at ho';cases ho';exact⟨_,es',ep',hL,r'⟩) hok hg
theorem Inv.turned{t':Nat}{it:Addr}(I:Inv X pins σ H s)(k:∀b o,b≠it->s.heap.get? b=some o->h'.get? b=some o) (hn:H it=none) (hL:it≠X.env.locals)
  (h1:it∈X.ex\/X.s₀.heap.objs.size<=it) (h2:∀x c,X.env.cells.lookup x=some c->c≠it) (h3:∀p∈X.pn++pins,p.1≠it):Inv X pins σ H {s with heap:=h',toks:=t'}:=by
 have nit:∀b u,H b=some u->b≠it:=fun b u e z=>by rw[z,hn]at e;cases e
 refine I.step (g':=s.gens) (d':=s.drawn) (ch:=[it]) (fun b hb=>?_) (fun b o _ _ hc e _=>k b o (fun z=>hc (by simp[z])) e) (fun b o _ _ hc e _=>⟨o.slots,k b o (fun z=>hc (by simp[z])) e⟩) (fun _ _ _ _ n=>n)
  (fun b o hc e=>⟨o,k b o (fun z=>hc (by simp[z])) e⟩) (fun _ _ e=>e) (fun _ _ _ e=>e) (fun b ps e=>⟨#[],by rw[e];simp⟩) (fun m hm=>?_) (fun b u e=>?_) I.bare
 ·have e:b=it:=by simpa using hb
  subst e;exact⟨h1,hL,h2,h3⟩
 ·obtain⟨o,es,ep,ho,r⟩:=hm;exact⟨o,es,ep,k _ o (Ne.symm hL) ho,r⟩
 ·refine(I.hok b u e).UN (fun c v hc q=>k c v ?_ q) (fun _ q=>q) fun _ _ q=>q;rcases hc with z|z
  ·rw[z];exact nit b u e
  ·exact nit c _ z
theorem Inv.tok(I:Inv X pins σ H s)(t:Nat):Inv X pins σ H {s with toks:=t}:=I.un (h':=s.heap) (t':=t) Un.refl I.hok
theorem Inv.kept{t':Nat}(I:Inv X pins σ H s)(k:∀b u,s.heap.get? b=some u->h'.get? b=some u):Inv X pins σ H {s with heap:=h',toks:=t'}:=I.un (Un.kept k) (I.hok.kept k)
theorem Inv.laid{a:Addr}{o:HO}{t':Nat}(I:Inv X pins σ H s)(k:∀b u,s.heap.get? b=some u->h'.get? b=some u) (hp:s.heap.objs.size<=a) (new:Jd X.prog X.w (upd H a o) h' a o):
  Inv X pins σ (upd H a o) {s with heap:=h',toks:=t'}:=I.un (Un.laid k hp (I.hok.fresh hp)) (I.hok.laid k hp new)
theorem Inv.write{x e:Addr}{o:HO}{t':Nat}(I:Inv X pins σ H s)(mu:Mut (H x))(he:e=x\/H e=some (.own x))(k:∀b u,b≠e->s.heap.get? b=some u->h'.get? b=some u) (heo:∃u,h'.get? e=some u)
  (new:Jd X.prog X.w (upd H x o) h' x o):Inv X pins σ (upd H x o) {s with heap:=h',toks:=t'}:=I.un (Un.write mu he k heo) (I.hok.write mu he k heo new)
theorem Inv.weak{σ':List (Option V)}(I:Inv X pins σ H s)(hl:σ'.length=σ.length)(w:∀(i:Nat) v,σ'[i]? =some (some v)->σ[i]? =some (some v)):Inv X pins σ' H s:=
 ⟨I.ok,I.os,I.bare,I.base,let ⟨m,hn,hl'⟩:=I.loc;⟨m,hn,fun i x v e1 e2 e3=>hl' i x v e1 (w i v e2) e3⟩,I.cell,I.free,I.freeC,I.pin,I.hok,hl.trans I.len⟩
theorem Inv.ZC{pins':List (Addr × Obj)}(I:Inv X pins σ H s)(h:∀p∈pins',s.heap.get? p.1=some p.2/\H p.1=none/\p.1≠X.env.locals/\p.1∉X.fs/\∀v,p.2.data≠ .cell v):Inv X pins' σ H s:=
 ⟨I.ok,I.os,I.bare,I.base,I.loc,I.cell,I.free,I.freeC,fun p hp=>(List.mem_append.mp hp).elim (fun z=>I.pin p (List.mem_append_left _ z)) (h p),I.hok,I.len⟩
theorem VU{N:List Str}(hN:N.Nodup){i j:Nat}{x:Str}(a:N[i]? =some x)(b:N[j]? =some x):i=j:=by
 obtain⟨h1,e1⟩:=List.getElem?_eq_some_iff.mp a;obtain⟨h2,e2⟩:=List.getElem?_eq_some_iff.mp b;exact(List.getElem_inj hN).mp (e1.trans e2.symm)
theorem X6{M:Model}{A:Around}{E:Value->Shared->Prop}{i:Nat}{x:Str}{v:V}{u:Value}{Q:Unit->Shared->Prop}(I:Inv X pins σ H s)(hN:X.N.Nodup)(hi:X.N[i]? =some x)(hx:Loc X.env.scope x)(r:RelV v u)
  (h:∀s',Inv X pins (σ.set i (some v)) H s'->(∃a,Heap.SameBut a s.heap s'.heap/\(a=X.env.locals\/X.env.cells.lookup x=some a))->Q () s') (hf:X.fn x=true\/X.env.scope.names.lookup x=some .local:=by first|exact .inl rfl|exact .inr rfl|assumption):wpAny M A (storeName X.env x u) Q E s:=by
 obtain⟨m,hn,hl⟩:=id I.loc;have hcls:(X.env.scope.kind==.class||(X.env.scope.kind==.module&&X.env.locals !=X.env.globals))=false:=by rw[I.ok.kind];rfl
 have hiσ:i<σ.length:=by rw[I.len];exact(List.getElem?_eq_some_iff.mp hi).1
 have cne:=I.cne;have tracked:∀{a:Addr}{h':Heap},(∃o,s.heap.get? a=some o/\H a=none)->Heap.SameBut a s.heap h'->HOk X.prog X.w H h':=fun{a h'} ha hs b ob e=>by
  obtain⟨_,_,hfree⟩:=ha;refine(I.hok b ob e).UN (fun c w' hc q=>(hs.2 c ?_).trans q) (fun _ q=>q) fun _ _ q=>q;rintro rfl;rcases hc with rfl|hc
  ·rw[hfree]at e;cases e
  ·rw[hfree]at hc;cases hc
 rcases hx with hk|hk
 ·refine wpAny_storeName_local hk hn (fun h' hn' hs=>?_) hcls;obtain⟨oL,_,_,hoL,_⟩:=id hn;refine h _ ⟨I.ok,I.os,I.bare,⟨fun b o e n hb hx=>?_,fun b o e n hb hx=>?_,I.base.free,fun b o e hx=>?_,I.base.Wz,I.base.frzs,I.base.tbls⟩,⟨_,hn',fun j y v' e1 e2 e3=>?_⟩,fun y c e=>?_,I.free,I.freeC,fun p hp=>?_,tracked ⟨oL,hoL,I.free⟩ hs,by simpa using I.len⟩ ⟨_,hs,.inl rfl⟩
  ·exact(hs.2 b (Nat.ne_of_lt (Nat.lt_of_lt_of_le (Heap.lt_size e) I.ok.above))).trans (I.base.keep b o e n hb hx)
  ·obtain⟨sl,e1⟩:=I.base.slot b o e n hb hx;exact⟨sl,(hs.2 b (Nat.ne_of_lt (Nat.lt_of_lt_of_le (Heap.lt_size e) I.ok.above))).trans e1⟩
  ·obtain⟨o',e1⟩:=I.base.there b o e hx;exact⟨o',(hs.2 b (Nat.ne_of_lt (Nat.lt_of_lt_of_le (Heap.lt_size e) I.ok.above))).trans e1⟩
  ·by_cases hj:j=i
   ·subst hj;rw[hi]at e1;cases e1;rw[List.getElem?_set_self hiσ]at e2;cases e2;exact⟨u,r,.inl ⟨hk,by simp⟩⟩
   ·rw[List.getElem?_set_ne (Ne.symm hj)]at e2;obtain⟨u',r',q⟩:=hl j y v' e1 e2 e3;refine⟨u',r',?_⟩;rcases q with⟨k,e⟩|⟨k,c,e,z⟩
    ·refine .inl ⟨k,?_⟩;have:y≠x:=fun e=>hj (VU hN e1 (e▸hi));simp[this,e]
    ·exact .inr ⟨k,c,e,z.sameBut hs (cne y c e)⟩
  ·obtain⟨w',z⟩:=I.cell y c e;exact⟨w',z.sameBut hs (cne y c e)⟩
  ·obtain⟨e,n,ne,nf,d⟩:=I.pin p hp;exact⟨(hs.2 p.1 ne).trans e,n,ne,nf,d⟩
 ·have hfn:X.fn x=true:=by
   rcases hf with z|z
   ·exact z
   ·rw[z]at hk;cases hk
  obtain⟨c,hc⟩:=I.ok.has x (.inl hk);obtain⟨w',z⟩:=I.cell x c hc;refine wpAny_storeName_cell I.ok.kind hk hc z (fun h' hc' hs=>?_);obtain⟨oc,hoc,hocd⟩:=id z;refine h {s with heap:=h'} ⟨I.ok,I.os,I.bare,⟨fun b o e n hb hx=>?_,fun b o e n hb hx=>?_,I.base.free,fun b o e hx=>?_,I.base.Wz,I.base.frzs,I.base.tbls⟩,⟨m,hn.sameBut hs (Ne.symm (cne x c hc)),fun j y v' e1 e2 e3=>?_⟩,fun y c' e=>?_,I.free,I.freeC,fun p hp=>?_,tracked ⟨oc,hoc,I.freeC x c hc⟩ hs,by simpa using I.len⟩ ⟨c,hs,.inr hc⟩
  ·exact(hs.2 b (Nat.ne_of_lt (Nat.lt_of_lt_of_le (Heap.lt_size e) (I.ok.cab x c hfn hc)))).trans (I.base.keep b o e n hb hx)
  ·obtain⟨sl,e1⟩:=I.base.slot b o e n hb hx;exact⟨sl,(hs.2 b (Nat.ne_of_lt (Nat.lt_of_lt_of_le (Heap.lt_size e) (I.ok.cab x c hfn hc)))).trans e1⟩
  ·obtain⟨o',e1⟩:=I.base.there b o e hx;exact⟨o',(hs.2 b (Nat.ne_of_lt (Nat.lt_of_lt_of_le (Heap.lt_size e) (I.ok.cab x c hfn hc)))).trans e1⟩
  ·by_cases hj:j=i
   ·subst hj;rw[hi]at e1;cases e1;rw[List.getElem?_set_self hiσ]at e2;cases e2;exact⟨u,r,.inr ⟨.inl hk,c,hc,hc'⟩⟩
   ·rw[List.getElem?_set_ne (Ne.symm hj)]at e2;obtain⟨u',r',q⟩:=hl j y v' e1 e2 e3;refine⟨u',r',?_⟩;rcases q with q|⟨k,c',e,z'⟩
    ·exact .inl q
    ·refine .inr ⟨k,c',e,z'.sameBut hs ?_⟩;rintro rfl;exact hj (VU hN e1 (I.ok.inj _ _ _ e hc▸hi))
  ·by_cases hcc:c'=c
   ·subst hcc;exact⟨_,hc'⟩
   ·obtain⟨w2,z2⟩:=I.cell y c' e;exact⟨w2,z2.sameBut hs hcc⟩
  ·obtain⟨e,n,ne,nf,d⟩:=I.pin p hp;refine⟨(hs.2 p.1 ?_).trans e,n,ne,nf,d⟩;intro q;rw[q,hoc]at e;have q':oc=p.2:=Option.some.inj e;exact d w' (by rw[←q'];exact hocd)
theorem Xn{M:Model}{A:Around}{E:Value->Shared->Prop}{i:Nat}{x:Str}{v:V}{u:Value}{Q:Unit->Shared->Prop}(I:Inv X pins σ H s)(hN:X.N.Nodup)(hi:X.N[i]? =some x)(hx:Loc X.env.scope x)(r:RelV v u)
  (h:∀s',Inv X pins (σ.set i (some v)) H s'->Q () s') (hf:X.fn x=true\/X.env.scope.names.lookup x=some .local:=by first|exact .inl rfl|exact .inr rfl|assumption):wpAny M A (storeName X.env x u) Q E s:=
 X6 I hN hi hx r (fun s' I' _=>h s' I') hf
theorem Inv.jB{s':Shared}{ch:List Addr}(I:Inv X pins σ H s)(ho:s'.os=s.os)(u:Un (frs X.stack) ch H H' s.heap s'.heap)(hok:HOk X.prog X.w H' s'.heap)(hg:AllBare s'.gens)
  (hch:∀b∈ch,(b∈X.ex\/X.s₀.heap.objs.size<=b)/\b≠X.env.locals/\(∀x c,X.env.cells.lookup x=some c->c≠b)/\∀p∈X.pn++pins,p.1≠b):Inv X pins σ H' s':=by
 obtain⟨h',g',d',t',o'⟩:=s';have e:o'=s.os:=ho;subst e;exact I.call (g':=g') (t':=t') (d':=d') u hok hg hch
end
abbrev XK:=Value->Option Addr->Hp->Prop
abbrev St:=List (Option V)
abbrev VK:=V->Hp->Prop
abbrev TE:=St->Hp->VK->Prop
abbrev TT:=St->Hp->(Bool->Hp->Prop)->Prop
abbrev TA:=St->Hp->(List V->Hp->Prop)->Prop
structure Ends where
 nx:St->Hp->Prop
 rt:VK
 bk:St->Hp->Prop:=fun _ _=>False
 ct:St->Hp->Prop:=fun _ _=>False
abbrev TS:=Ends->St->Hp->Prop
def EP(X:Cx)(pins:List (Addr × Obj))(σ:St)(Q:VK)(u:Value)(s':Shared):Prop:=∃v H',Inv X pins σ H' s'/\RelV v u/\Q v H'
def TP(X:Cx)(pins:List (Addr × Obj))(σ:St)(Q:Bool->Hp->Prop)(b:Bool)(s':Shared):Prop:=∃H',Inv X pins σ H' s'/\Q b H'
def AP(X:Cx)(pins:List (Addr × Obj))(σ:St)(Q:List V->Hp->Prop)(us:List Value)(s':Shared):Prop:=∃vs H',Inv X pins σ H' s'/\Vals vs us/\Q vs H'
def SP(X:Cx)(pins:List (Addr × Obj))(D:Ends)(f:Flow)(s':Shared):Prop:=
 match f with
 | .next=>∃σ' H',Inv X pins σ' H' s'/\D.nx σ' H'
 | .brk=>∃σ' H',Inv X pins σ' H' s'/\D.bk σ' H'
 | .cont=>∃σ' H',Inv X pins σ' H' s'/\D.ct σ' H'
 | .ret u=>∃v σ' H',Inv X pins σ' H' s'/\RelV v u/\D.rt v H'
def PE(X:Cx)(e:Expr)(t:TE):Prop:=
 ∀(pins:List (Addr × Obj))(s:Shared)(σ:St)(H:Hp)(Q:VK),Inv X pins σ H s->t σ H Q->wpAny (model X.prog X.w) X.A (eval e X.env) (EP X pins σ Q) X.xe s
def PT(X:Cx)(e:Expr)(t:TT):Prop:=
 ∀(pins:List (Addr × Obj))(s:Shared)(σ:St)(H:Hp)(Q:Bool->Hp->Prop),Inv X pins σ H s->t σ H Q->wpAny (model X.prog X.w) X.A (isTrue e X.env (eval e X.env)) (TP X pins σ Q) X.xe s
def PW(X:Cx)(e:Expr)(t:TT):Prop:=
 ∀(whole:Sem Value)(pins:List (Addr × Obj))(s:Shared)(σ:St)(H:Hp)(Q:Bool->Hp->Prop),Inv X pins σ H s->t σ H Q->wpAny (model X.prog X.w) X.A (isTrue e X.env whole) (TP X pins σ Q) X.xe s
theorem PW.pt{X:Cx}{e:Expr}{t:TT}(h:PW X e t):PT X e t:=h _
def PA(X:Cx)(es:List Expr)(t:TA):Prop:=
 ∀(pos:Pos)(pins:List (Addr × Obj))(s:Shared)(σ:St)(H:Hp)(Q:List V->Hp->Prop),Inv X pins σ H s->t σ H Q->wpAny (model X.prog X.w) X.A (spliced (backTo pos (starEach es X.env))) (AP X pins σ Q) X.xe s
def PS(X:Cx)(st:Stmt)(t:TS):Prop:=
 ∀(pins:List (Addr × Obj))(s:Shared)(σ:St)(H:Hp)(D:Ends),Inv X pins σ H s->t D σ H->wpAny (model X.prog X.w) X.A (exec st X.env) (SP X pins D) X.xe s
def PSs(X:Cx)(st:List Stmt)(t:TS):Prop:=
 ∀(pins:List (Addr × Obj))(s:Shared)(σ:St)(H:Hp)(D:Ends),Inv X pins σ H s->t D σ H->wpAny (model X.prog X.w) X.A (execs st X.env) (SP X pins D) X.xe s
theorem thn{α:Type}{t:Sem α}{Q Q':α->Shared->Prop}{M:Model}{A:Around}{E:Value->Shared->Prop}{s:Shared}(h:wpAny M A t Q E s)(hQ:∀a s,Q a s->Q' a s):wpAny M A t Q' E s:=wpAny_mono h hQ fun _ _ x=>x
section
variable {X:Cx}
def XL(i:Nat):TE:=fun σ H Q=>∃v,σ[i]? =some (some v)/\Q v H
def tC(v:V):TE:=fun _ H Q=>Q v H
theorem vT{i:Nat}{x:Str}{pos:Pos}(hN:X.N[i]? =some x)(hv:Vis X.env.scope x)(hd:(x==("__debug__":Str))=false:=by decide)(hcd:(x==("__classdict__":Str))=false:=by decide):PE X (.Name x pos) (XL i):=by
 intro pins s σ H Q I h;obtain⟨v,e,h⟩:=h;obtain⟨m,hn,hl⟩:=I.loc;obtain⟨u,r,l⟩:=hl i x v hN e hv;have fin:EP X pins σ Q u s:=⟨v,H,I,r,h⟩;rcases l with⟨hk,hm⟩|⟨hk,c,hc,hcell⟩
 ·exact wpAny_Name (wpAny_loadName_local I.ok.kind hk hn hm fin) hd
 ·rcases hk with hk|hk
  ·exact wpAny_Name (wpAny_loadName_cell I.ok.kind hk hc hcell fin) hd
  ·exact wpAny_Name (wpAny_loadName_free I.ok.kind hk hc hcell fin hcd) hd
theorem Qd{i j pos}:PE X (.Constant (.int i) j pos) (tC (.int i)):=fun _ _ _ H _ I h=>wpAny_Constant_int ⟨.int i,H,I.tok _,⟨_,rfl⟩,h⟩
theorem Zs{b j pos}:PE X (.Constant (.bool b) j pos) (tC (.bl b)):=fun _ _ _ H _ I h=>Constant_bool ⟨.bl b,H,I,rfl,h⟩
theorem JF{j pos}:PE X (.Constant .none j pos) (tC .non):=fun _ _ _ H _ I h=>Constant_none ⟨.non,H,I,rfl,h⟩
theorem Qm{x j pos}:PE X (.Constant (.str x) j pos) (tC (.str x)):=fun _ _ _ H _ I h=>Calls.Constant_str ⟨.str x,H,I.tok _,⟨_,rfl⟩,h⟩
def Gl(X:Cx)(x:Str):Prop:=X.env.kindOf x=some .globalImplicit
theorem Z2{E:Value->Shared->Prop}{pins:List (Addr × Obj)}{s:Shared}{σ:St}{H:Hp}{x:Str}{u:Value}{pos:Pos}{Q:Value->Shared->Prop}(I:Inv X pins σ H s)(hg:Gl X x)(hm:X.mg x=some u)(h:Q u s)
  (hd:(x==("__debug__":Str))=false:=by decide):wpAny (model X.prog X.w) X.A (eval (.Name x pos) X.env) Q E s:=
 Calls.Name_function_global I.ok.kind hg (Calls.loadGlobal_global (by rw[I.ok.glob];exact I.mod.glob.keeps I.bk) hm h) hd
theorem X7{E:Value->Shared->Prop}{pins:List (Addr × Obj)}{s:Shared}{σ:St}{H:Hp}{x:Str}{u:Value}{pos:Pos}{Q:Value->Shared->Prop}(I:Inv X pins σ H s)(hg:Gl X x)(hm:X.mg x=none)(hv:bootBuiltins x=some u)(h:Q u s)
  (hn:x≠"__name__":=by decide) (hd:(x==("__debug__":Str))=false:=by decide):wpAny (model X.prog X.w) X.A (eval (.Name x pos) X.env) Q E s:=by
 obtain⟨mb,h1,h2⟩:=I.mod.blt;exact Calls.Name_function_global I.ok.kind hg (Calls.loadGlobal_builtin (by rw[I.ok.glob];exact I.mod.glob.keeps I.bk) hm (by rw[I.ok.blt];exact h1.keeps I.bk) ((h2 x hn).trans hv) h) hd
theorem QF{x:Str}{v:V}{u:Value}{pos:Pos}(hg:Gl X x)(hm:X.mg x=some u)(r:RelV v u)(hd:(x==("__debug__":Str))=false:=by decide):PE X (.Name x pos) (tC v):=
 fun _ _ _ H _ I h=>Z2 I hg hm ⟨v,H,I,r,h⟩ hd
theorem Zi{x:Str}{v:V}{u:Value}{pos:Pos}(hg:Gl X x)(hm:X.mg x=none)(hv:bootBuiltins x=some u)(r:RelV v u)(hn:x≠"__name__":=by decide)(hd:(x==("__debug__":Str))=false:=by decide):PE X (.Name x pos) (tC v):=
 fun _ _ _ H _ I h=>X7 I hg hm hv ⟨v,H,I,r,h⟩ hn hd
variable {a b:Expr}{ta tb:TE}{pos:Pos}
def PC(X:Cx)(op:CmpOp)(a b:Expr)(t:TE):Prop:=
 ∀(pins:List (Addr × Obj))(s:Shared)(σ:St)(H:Hp)(Q:VK),Inv X pins σ H s->t σ H Q->
  wpAny (model X.prog X.w) X.A (eval a X.env) (fun v s₁=>wpAny (model X.prog X.w) X.A (eval b X.env) (fun u s₂=>wpAny (model X.prog X.w) X.A (compareOp op v u) (EP X pins σ Q) X.xe s₂) X.xe s₁) X.xe s
theorem qH(b:Expr){op:CmpOp}(h:op≠ .In)(h2:op≠ .NotIn):behindInMarks op b=false:=by
 have e1:(op==CmpOp.In)=false:=by cases op<;>first|rfl|exact absurd rfl h
 have e2:(op==CmpOp.NotIn)=false:=by cases op<;>first|rfl|exact absurd rfl h2
 cases b<;>simp[behindInMarks,e1,e2]
def Qdy(ta:TE):TE:=fun σ H Q=>ta σ H fun x H1=>Q (.bl (decide (x=.non))) H1
def Qcl(ta:TE):TE:=fun σ H Q=>ta σ H fun x H1=>Q (.bl (!decide (x=.non))) H1
theorem RelV.qI{x:V}{v:Value}(r:RelV x v):(v==Value.none)=decide (x=.non):=by
 cases x with
 |non=>cases r;rfl
 |bl _=>cases r;rfl
 |int _=>obtain⟨t,rfl⟩:=r;rfl
 |str _=>obtain⟨t,rfl⟩:=r;rfl
 |byt _=>obtain⟨t,rfl⟩:=r;rfl
 |flt _=>obtain⟨t,rfl⟩:=r;rfl
 |ref _=>cases r;rfl
 |ty _=>cases r;rfl
theorem K6{j pos'}(ha:PE X a ta):PC X .Is a (.Constant .none j pos') (Qdy ta):=by
 intro pins s σ H Q I h;refine thn (ha pins s σ H _ I h) fun v s1⟨x,H1,I1,r1,q1⟩=>?_;exact Constant_none (is_none_gen ⟨.bl _,H1,I1,by rw[r1.qI];rfl,q1⟩)
theorem zB{j pos'}(ha:PE X a ta):PC X .IsNot a (.Constant .none j pos') (Qcl ta):=by
 intro pins s σ H Q I h;refine thn (ha pins s σ H _ I h) fun v s1⟨x,H1,I1,r1,q1⟩=>?_;exact Constant_none (isnot_none_gen ⟨.bl _,H1,I1,by rw[r1.qI];rfl,q1⟩)
def tB(t:TE):TT:=fun σ H Q=>t σ H fun x H1=>∃c,x=.bl c/\Q c H1
theorem Qa5{op:CmpOp}{t:TE}(h:PC X op a b t)(h1:behindInMarks op b=false:=by first|exact qH _ (by decide) (by decide)|rfl):PE X (.Compare a [op] [b] pos) t:=fun pins s σ H Q I hw=>wpAny_Compare1 (h pins s σ H Q I hw) h1
theorem XC{op:CmpOp}{t:TE}(h:PC X op a b t)(h1:behindInMarks op b=false:=by first|exact qH _ (by decide) (by decide)|rfl):PT X (.Compare a [op] [b] pos) (tB t):=by
 intro pins s σ H Q I hw;refine wpAny_isTrue_Compare1 (thn (h pins s σ H _ I hw) fun v s1 h1=>thn h1 fun u s2 h2=>thn h2 fun c s3⟨x,H1,I1,r1,q1⟩=>?_) h1;obtain⟨d,rfl,q⟩:=q1;cases r1;exact wpAny_truthy_bool ⟨H1,I1,q⟩
theorem Zj{e:Expr}{t:TE}(h:PE X e t)(he:∀whole,isTrue e X.env whole=(do let v←whole;standAt e.pos;holding [v] (truthy v)):=by intro _;rfl):PT X e (tB t):=by
 intro pins s σ H Q I hw;refine isTrue_plain (thn (h pins s σ H _ I hw) fun v s1⟨x,H1,I1,r1,q1⟩=>?_) (he _);obtain⟨d,rfl,q⟩:=q1;cases r1;exact wpAny_truthy_bool ⟨H1,I1,q⟩
variable {tA tB':TT}{rest:List Expr}
def Qdz(t u:TT):TT:=fun σ H Q=>t σ H fun c H1=>if c=true then u σ H1 Q else Q false H1
def tOr(t u:TT):TT:=fun σ H Q=>t σ H fun c H1=>if c=true then Q true H1 else u σ H1 Q
def Qcm(t:TT):TT:=fun σ H Q=>t σ H fun c H1=>Q (!c) H1
theorem J2(ha:PT X a tA):PW X (.BoolOp .And [a] pos) tA:=by
 intro wh pins s σ H Q I h;refine isTrue_and (thn (ha pins s σ H Q I h) fun c s1 e=>?_);cases c with
 |true=>exact isTrue_and_nil e
 |false=>exact e
theorem Zk(ha:PT X a tA):PW X (.BoolOp .Or [a] pos) tA:=by
 intro wh pins s σ H Q I h;refine isTrue_or (thn (ha pins s σ H Q I h) fun c s1 e=>?_);cases c with
 |false=>exact isTrue_or_nil e
 |true=>exact e
theorem Zl(ha:PT X a tA)(hb:PW X (.BoolOp .And (b::rest) pos) tB'):PW X (.BoolOp .And (a::b::rest) pos) (Qdz tA tB'):=by
 intro wh pins s σ H Q I h;refine isTrue_and (thn (ha pins s σ H _ I h) fun c s1⟨H1,I1,q1⟩=>?_);cases c with
 |true=>exact hb wh pins s1 σ H1 Q I1 q1
 |false=>exact⟨H1,I1,q1⟩
theorem Z0(ha:PT X a tA)(hb:PW X (.BoolOp .Or (b::rest) pos) tB'):PW X (.BoolOp .Or (a::b::rest) pos) (tOr tA tB'):=by
 intro wh pins s σ H Q I h;refine isTrue_or (thn (ha pins s σ H _ I h) fun c s1⟨H1,I1,q1⟩=>?_);cases c with
 |true=>exact⟨H1,I1,q1⟩
 |false=>exact hb wh pins s1 σ H1 Q I1 q1
theorem ZX(ha:PT X a tA):PT X (.UnaryOp .Not a pos) (Qcm tA):=by
 intro pins s σ H Q I h;exact isTrue_not (ha pins s σ H (fun c H1=>Q (!c) H1) I h)
def Qcn(ta tb:TE):TE:=fun σ H Q=>ta σ H fun x H1=>∃c,x=.bl c/\if c=true then tb σ H1 Q else Q (.bl false) H1
def Qco(ta:TE):TE:=fun σ H Q=>ta σ H fun x H1=>∃c,x=.bl c/\Q (.bl (!c)) H1
theorem XD{op}{t:TE}(h:PE X a t):PE X (.BoolOp op [a] pos) t:=fun pins s σ H Q I hw=>BoolOp_one (h pins s σ H Q I hw)
theorem ZJ(ha:PE X a ta)(hb:PE X (.BoolOp .And (b::rest) pos) tb):PE X (.BoolOp .And (a::b::rest) pos) (Qcn ta tb):=by
 intro pins s σ H Q I h;refine BoolOp_and (thn (ha pins s σ H _ I h) fun v s1⟨x,H1,I1,r1,q1⟩=>?_);obtain⟨c,rfl,q1⟩:=q1;cases r1;refine wpAny_truthy_bool ?_;cases c with
 |true=>exact hb pins s1 σ H1 Q I1 q1
 |false=>exact⟨.bl false,H1,I1,rfl,q1⟩
theorem Qa6(ha:PE X a ta):PE X (.UnaryOp .Not a pos) (Qco ta):=by
 intro pins s σ H Q I h;refine UnaryOp_ (thn (ha pins s σ H _ I h) fun v s1⟨x,H1,I1,r1,q1⟩=>?_);obtain⟨c,rfl,q1⟩:=q1;cases r1;exact not_of (wpAny_truthy_bool ⟨.bl (!c),H1,I1,rfl,q1⟩)
def tIf(t:TT)(ta tb:TE):TE:=fun σ H Q=>t σ H fun c H1=>if c=true then ta σ H1 Q else tb σ H1 Q
theorem Za{c:Expr}(hc:PT X c tA)(ha:PE X a ta)(hb:PE X b tb):PE X (.IfExp c a b pos) (tIf tA ta tb):=by
 intro pins s σ H Q I h;refine wpAny_IfExp (thn (hc pins s σ H _ I h) fun d s1⟨H1,I1,q1⟩=>?_);cases d with
 |true=>exact ha pins s1 σ H1 Q I1 q1
 |false=>exact hb pins s1 σ H1 Q I1 q1
end
def SqL(K:PySem.W.Frag)(H:Hp)(a:Addr)(xs:List V):Prop:=
 Rd H a (.lst xs)\/
  ∃(o:Obj)(its:Array Value)(n:Nat),K.lookup a=some o/\o.cls=.type "list"/\o.dict=none/\o.data=.seq its n/\its.size<=sizeLine/\Vals xs its.toList
def SqT(K:PySem.W.Frag)(H:Hp)(a:Addr)(xs:List V):Prop:=
 Rd H a (.tup xs)\/
  ∃(o:Obj)(its:Array Value)(n:Nat),K.lookup a=some o/\o.cls=.type "tuple"/\o.data=.seq its n/\its.size<=sizeLine/\Vals xs its.toList
def QdA:Value->Option V
 | .none=>some .non
 | .bool b=>some (.bl b)
 | .int i _=>some (.int i)
 | .str x _=>some (.str x)
 | .bytes b _=>some (.byt b)
 | .float b _=>some (.flt b)
 | .ref a=>some (.ref a)
 | .type n=>some (.ty n)
 |_=>none
theorem RelV.abs{x:V}{u:Value}(r:RelV x u):QdA u=some x:=by
 cases x with
 |non=>cases r;rfl
 |bl _=>cases r;rfl
 |int _=>obtain⟨t,rfl⟩:=r;rfl
 |str _=>obtain⟨t,rfl⟩:=r;rfl
 |byt _=>obtain⟨t,rfl⟩:=r;rfl
 |flt _=>obtain⟨t,rfl⟩:=r;rfl
 |ref _=>cases r;rfl
 |ty _=>cases r;rfl
theorem RelV.inj{x y:V}{u:Value}(r:RelV x u)(q:RelV y u):x=y:=Option.some.inj (r.abs.symm.trans q.abs)
theorem Vals.inj:∀{xs ys:List V}{us:List Value},Vals xs us->Vals ys us->xs=ys
 |_,_,_,.nil,.nil=>rfl
 |_,_,_,.cons r t,.cons r' t'=>by rw[r.inj r',Vals.inj t t']
section
variable {X:Cx}{pins:List (Addr × Obj)}{σ:St}{H:Hp}{s:Shared}{a:Addr}{xs ys:List V}
theorem SqL.of{K:PySem.W.Frag}(h:H a=some (.lst xs)):SqL K H a xs:=.inl (.inl h)
theorem SqT.of{K:PySem.W.Frag}(h:H a=some (.tup xs)):SqT K H a xs:=.inl (.inl h)
theorem Inv.list(I:Inv X pins σ H s)(h:SqL X.K H a xs):∃its:List Value,Vals xs its/\PlainL s.heap a its.toArray/\xs.length<=sizeLine:=by
 rcases h with h|⟨o,its,n,hk,hc,hd,hs,hz,r⟩
 ·obtain⟨z,its,n,r,e⟩:=h.ok I.hok;exact⟨its,r,⟨_,n,e,rfl,rfl,rfl⟩,z⟩
 ·refine⟨its.toList,r,⟨o,n,I.kIn a o hk,hc,hd,by simpa using hs⟩,?_⟩;have e:=r.length;simp only[Array.length_toList]at e;omega
theorem Inv.tuple(I:Inv X pins σ H s)(h:SqT X.K H a xs):∃its:List Value,Vals xs its/\IsTup s.heap a its.toArray/\xs.length<=sizeLine:=by
 rcases h with h|⟨o,its,n,hk,hc,hs,hz,r⟩
 ·obtain⟨z,its,r,p⟩:=h.ok I.hok;exact⟨its,r,p.tup,z⟩
 ·refine⟨its.toList,r,⟨o,I.kIn a o hk,hc,n,by simpa using hs⟩,?_⟩;have e:=r.length;simp only[Array.length_toList]at e;omega
theorem Inv.k9(I:Inv X pins σ H s)(h:SqL X.K H a xs)(h':SqL X.K H a ys):xs=ys:=by
 obtain⟨its,r,⟨o,n,e,_,_,d⟩,_⟩:=I.list h;obtain⟨its',r',⟨o',n',e',_,_,d'⟩,_⟩:=I.list h';rw[e]at e';cases e';rw[d]at d';injection d' with d1 _;have:its=its':=by simpa using congrArg Array.toList d1
 subst this;exact r.inj r'
theorem Inv.WG(I:Inv X pins σ H s)(h:SqT X.K H a xs)(h':SqT X.K H a ys):xs=ys:=by
 obtain⟨its,r,⟨o,e,_,n,d⟩,_⟩:=I.tuple h;obtain⟨its',r',⟨o',e',_,n',d'⟩,_⟩:=I.tuple h';rw[e]at e';cases e';rw[d]at d';injection d' with d1 _;have:its=its':=by simpa using congrArg Array.toList d1
 subst this;exact r.inj r'
end
abbrev Cx.kZ(X:Cx)(E:Value->Shared->Prop):Cx:={X with xe:=E}
abbrev Cx.nox(X:Cx):Cx:=X.kZ fun _ _=>False
theorem Cx.Ok.kZ{X:Cx}(ok:X.Ok)(E:Value->Shared->Prop):(X.kZ E).Ok:=
 ⟨ok.mod,ok.kind,ok.glob,ok.blt,ok.above,ok.inj,ok.has,ok.cab,ok.hd,ok.frames,ok.stk,ok.exf,ok.bs,ok.bsz,ok.noex,ok.exfs,ok.UJ,ok.frf⟩
theorem Cx.Ok.K7{X:Cx}{E:Value->Shared->Prop}(ok:(X.kZ E).Ok):X.Ok:=
 ⟨ok.mod,ok.kind,ok.glob,ok.blt,ok.above,ok.inj,ok.has,ok.cab,ok.hd,ok.frames,ok.stk,ok.exf,ok.bs,ok.bsz,ok.noex,ok.exfs,ok.UJ,ok.frf⟩
section
variable {X:Cx}{pins:List (Addr × Obj)}{σ:St}{H:Hp}{s:Shared}{E:Value->Shared->Prop}
theorem Inv.kZ(I:Inv X pins σ H s)(E:Value->Shared->Prop):Inv (X.kZ E) pins σ H s:=⟨I.ok.kZ E,I.os,I.bare,I.base,I.loc,I.cell,I.free,I.freeC,I.pin,I.hok,I.len⟩
theorem Inv.K7(I:Inv (X.kZ E) pins σ H s):Inv X pins σ H s:=⟨I.ok.K7,I.os,I.bare,I.base,I.loc,I.cell,I.free,I.freeC,I.pin,I.hok,I.len⟩
theorem SP.K7{D:Ends}{f:Flow}{s':Shared}(h:SP (X.kZ E) pins D f s'):SP X pins D f s':=by
 cases f with
 |next=>obtain⟨σ',H',I,q⟩:=h;exact⟨σ',H',I.K7,q⟩
 |brk=>obtain⟨σ',H',I,q⟩:=h;exact⟨σ',H',I.K7,q⟩
 |cont=>obtain⟨σ',H',I,q⟩:=h;exact⟨σ',H',I.K7,q⟩
 |ret u=>obtain⟨v,σ',H',I,r,q⟩:=h;exact⟨v,σ',H',I.K7,r,q⟩
theorem PSs.nox{st:List Stmt}{t:TS}(h:PSs X.nox st t):PSs X st t:=fun pins s σ H D I hw=>
 wpAny_mono (h pins s σ H D (I.kZ _) hw) (fun _ _ q=>q.K7) fun _ _ z=>False.elim z
end
section
variable {X:Cx}{st:Stmt}{rest:List Stmt}{t u:TS}{e:Expr}{te:TE}{pos:Pos}
def QQ:TS:=fun D σ H=>D.nx σ H
def ZI(t u:TS):TS:=fun D σ H=>t {D with nx:=u D} σ H
theorem QD:PSs X [] QQ:=fun _ _ σ H _ I h=>wpAny_execs_nil ⟨σ,H,I,h⟩
theorem Qe(h1:PS X st t)(h2:PSs X rest u):PSs X (st::rest) (ZI t u):=by
 intro pins s σ H D I h;refine wpAny_execs_cons (thn (h1 pins s σ H {D with nx:=u D} I h) fun f s1 q=>?_);cases f with
 |next=>
  obtain⟨σ',H',I',q⟩:=q;exact h2 pins s1 σ' H' D I' q
 |ret v=>exact q
 |brk=>exact q
 |cont=>exact q
theorem Qg(h1:PS X st t):PSs X [st] t:=by
 intro pins s σ H D I h;refine wpAny_execs_cons (thn (h1 pins s σ H D I h) fun f s1 q=>?_);cases f with
 |next=>exact wpAny_execs_nil q
 |ret v=>exact q
 |brk=>exact q
 |cont=>exact q
theorem Inv.quiet{pins:List (Addr × Obj)}{σ:St}{H:Hp}{s:Shared}(I:Inv X pins σ H s):interactive X.env=false:=by simp[interactive,I.ok.kind]
def Qcp(te:TE):TS:=fun D σ H=>te σ H fun _ H1=>D.nx σ H1
theorem Zm(he:PE X e te)(hs:swapsWith e none pos.line X.env=pure false:=by rfl):PS X (.Expr e pos) (Qcp te):=by
 intro pins s σ H D I h;exact wpAny_Expr_any (thn (he pins s σ H _ I h) fun v s1⟨x,H1,I1,r1,q1⟩=>⟨σ,H1,I1,q1⟩) I.quiet hs
def yt(te:TE):TS:=fun D σ H=>te σ H D.rt
theorem QA(he:PE X e te):PS X (.Return (some e) pos) (yt te):=by
 intro pins s σ H D I h;exact wpAny_Return_some (thn (he pins s σ H _ I h) fun v s1⟨x,H1,I1,r1,q1⟩=>⟨x,σ,H1,I1,r1,q1⟩)
def QaT(c:TT)(t u:TS):TS:=fun D σ H=>c σ H fun b H1=>if b=true then t D σ H1 else u D σ H1
theorem QY{c:Expr}{a b:List Stmt}{tc:TT}(hc:PT X c tc)(ha:PSs X a t)(hb:PSs X b u):PS X (.If c a b pos) (QaT tc t u):=by
 intro pins s σ H D I h;refine wpAny_If (thn (hc pins s σ H _ I h) fun d s1⟨H1,I1,q1⟩=>?_);cases d with
 |true=>exact ha pins s1 σ H1 D I1 q1
 |false=>exact hb pins s1 σ H1 D I1 q1
end
abbrev TG:=V->St->Hp->(St->Hp->Prop)->Prop
abbrev TGs:=List V->St->Hp->(St->Hp->Prop)->Prop
def PG(X:Cx)(target:Expr)(t:TG):Prop:=
 ∀(pins:List (Addr × Obj))(s:Shared)(σ:St)(H:Hp)(v:V)(u:Value)(Q:St->Hp->Prop),Inv X pins σ H s->RelV v u->t v σ H Q->
  wpAny (model X.prog X.w) X.A (assign target X.env u) (fun _ s'=>∃σ' H',Inv X pins σ' H' s'/\Q σ' H') X.xe s
def PGs(X:Cx)(ts:List Expr)(t:TGs):Prop:=
 ∀(pins:List (Addr × Obj))(s:Shared)(σ:St)(H:Hp)(vs:List V)(us:List Value)(Q:St->Hp->Prop),Inv X pins σ H s->Vals vs us->t vs σ H Q->
  wpAny (model X.prog X.w) X.A (assignInOrder ((assignEach ts X.env).map (·.2)) us) (fun _ s'=>∃σ' H',Inv X pins σ' H' s'/\Q σ' H') X.xe s
abbrev Qcq:=V->V->V->Hp->(Hp->Prop)->Prop
def Qdd(X:Cx)(t:Qcq):Prop:=
 ∀(pins:List (Addr × Obj))(s:Shared)(σ:St)(H:Hp)(o i v:V)(ov iv u:Value)(Q:Hp->Prop),Inv X pins σ H s->RelV o ov->RelV i iv->RelV v u->t o i v H Q->
  wpAny (model X.prog X.w) X.A (setItem ov iv u) (fun _ s'=>∃H',Inv X pins σ H' s'/\Q H') X.xe s
abbrev TIp:=V->V->Hp->VK->Prop
def PIp(X:Cx)(op:Operator)(t:TIp):Prop:=
 ∀(pins:List (Addr × Obj))(s:Shared)(σ:St)(H:Hp)(x y:V)(v u:Value)(Q:VK),Inv X pins σ H s->RelV x v->RelV y u->t x y H Q->
  wpAny (model X.prog X.w) X.A (inplaceOp op v u) (EP X pins σ Q) X.xe s
section
variable {X:Cx}{pos:Pos}
def QJ(i:Nat):TG:=fun v σ H Q=>Q (σ.set i (some v)) H
theorem Qh{i:Nat}{x:Str}(hN:X.N.Nodup)(hi:X.N[i]? =some x)(hx:Loc X.env.scope x)(hf:X.fn x=true\/X.env.scope.names.lookup x=some .local:=by first|exact .inl rfl|exact .inr rfl|assumption):PG X (.Name x pos) (QJ i):=by
 intro pins s σ H v u Q I r h;exact wpAny_assign_Name (Xn I hN hi hx r (fun s' I'=>⟨_,H,I',h⟩) hf)
def Qb8:TGs:=fun vs σ H Q=>vs=[]/\Q σ H
def UO(t:TG)(u:TGs):TGs:=fun vs σ H Q=>∃v r,vs=v::r/\t v σ H fun σ' H'=>u r σ' H' Q
theorem QK:PGs X [] Qb8:=by
 intro pins s σ H vs us Q I r h;obtain⟨e,h⟩:=h;subst e;cases r;exact assignInOrder_nil ⟨σ,H,I,h⟩
theorem Qj{e:Expr}{es:List Expr}{t:TG}{u:TGs}(h1:PG X e t)(h2:PGs X es u)
  (hs:(assignEach (e::es) X.env).map (·.2)=assign e X.env::(assignEach es X.env).map (·.2):=by rfl):PGs X (e::es) (UO t u):=by
 intro pins s σ H vs us Q I r h;obtain⟨v,vr,e1,h⟩:=h;subst e1;cases r with
 |cons r rr=>
  rw[hs];refine assignInOrder_cons (thn (h1 pins s σ H _ _ _ I r h) fun _ s1⟨σ1,H1,I1,q1⟩=>?_);exact h2 pins s1 σ1 H1 _ _ Q I1 rr q1
def Qa7(K:PySem.W.Frag)(n:Nat)(t:TGs):TG:=fun v σ H Q=>∃a xs,v=.ref a/\SqT K H a xs/\xs.length=n/\t xs σ H Q
theorem Q8{es:List Expr}{k:Nat}{t:TGs}{n:Nat}(hc:X.calm=true)(h:PGs X es t)
  (hn:(assignEach es X.env).length=n:=by rfl) (hst:(assignEach es X.env).findIdx? (·.1)=none:=by rfl):PG X (.Tuple es k pos) (Qa7 X.K n t):=by
 intro pins s σ H v u Q I r hw;obtain⟨a,xs,e1,hq,hl,hw⟩:=hw;subst e1;cases r;obtain⟨its,rv,ht,hz⟩:=I.tuple hq;refine assign_Tuple_tuple (I.ok.hd hc) ht (by simp[hn, ←hl,rv.length]) hst fun h' hx=>?_;have I1:Inv X pins σ H {s with heap:=h'}:=I.kept (t':=s.toks) fun b o e=>hx b o (Nat.ne_of_lt (Heap.lt_size e)) e;exact h pins _ σ H xs _ Q I1 (by simpa using rv) hw
def QdB(to ti:TE)(t:Qcq):TG:=fun v σ H Q=>to σ H fun o H1=>ti σ H1 fun i H2=>t o i v H2 fun H3=>Q σ H3
theorem Qa8{o i:Expr}{to ti:TE}{t:Qcq}(ho:PE X o to)(hi:PE X i ti)(hs:Qdd X t)
  (ha:∀v,assign (.Subscript o i pos) X.env v=(do
   let ov←holding [v] (eval o X.env)
   let iv←holding [v,ov] (eval i X.env)
   standAt pos
   holding [v,ov,iv] (setItem ov iv v)
   release [v,ov,iv] []):=by intro _;rfl):PG X (.Subscript o i pos) (QdB to ti t):=by
 intro pins s σ H v u Q I r h;rw[ha];refine wpAny_bind (wpAny_holding (thn (ho pins s σ H _ I h) fun ov s1⟨x,H1,I1,r1,q1⟩=>?_));refine wpAny_bind (wpAny_holding (thn (hi pins s1 σ H1 _ I1 q1) fun iv s2⟨y,H2,I2,r2,q2⟩=>?_));refine wpAny_bind (wpAny_standAt (wpAny_bind (wpAny_holding (thn (hs pins s2 σ H2 x y v ov iv u _ I2 r1 r2 r q2) fun _ s3⟨H3,I3,q3⟩=>?_))));exact wpAny_release ⟨σ,H3,I3,q3⟩
def JS(te:TE)(g:TG):TS:=fun D σ H=>te σ H fun x H1=>g x σ H1 D.nx
theorem Ju{tg e:Expr}{te:TE}{g:TG}(he:PE X e te)(hg:PG X tg g)(hs:swapsWithSole [tg] e pos.line X.env=pure false:=by rfl)(hw:swappedStores [tg] e X.env=pure none:=by rfl)
  (h1:(assignEach [tg] X.env).map (·.2)=[assign tg X.env]:=by rfl):PS X (.Assign [tg] e pos) (JS te g):=by
 intro pins s σ H D I h;refine wpAny_Assign_stores (thn (he pins s σ H _ I h) fun v s1⟨x,H1,I1,r1,q1⟩=>?_) hs hw;rw[h1];exact thn (hg pins s1 σ H1 x v _ I1 r1 q1) fun _ s2 q=>q
theorem QC{i:Nat}{x:Str}{e:Expr}{te:TE}{pos':Pos}(hN:X.N.Nodup)(hi:X.N[i]? =some x)(hx:Loc X.env.scope x)(he:PE X e te)(hs:swapsWith e (some (.Name x pos')) pos.line X.env=pure false:=by rfl)(hf:X.fn x=true\/X.env.scope.names.lookup x=some .local:=by first|exact .inl rfl|exact .inr rfl|assumption):
  PS X (.Assign [.Name x pos'] e pos) (JS te (QJ i)):=by
 intro pins s σ H D I h;refine wpAny_Assign_Name (thn (he pins s σ H _ I h) fun v s1⟨y,H1,I1,r1,q1⟩=>?_) hs;exact Xn I1 hN hi hx r1 (fun s2 I2=>⟨_,H1,I2,q1⟩) hf
def Qcr(i j:Nat)(ta:TA):TS:=fun D σ H=>ta σ H fun vs H1=>∃v w,vs=[v,w]/\D.nx ((σ.set i (some v)).set j (some w)) H1
theorem qJ{i j:Nat}{x y:Str}{a b:Expr}{ta:TA}{px py pt:Pos}{kt k2 pt2}(hc:X.calm=true)(hN:X.N.Nodup)(hi:X.N[i]? =some x)(hj:X.N[j]? =some y)(hij:i≠j)
  (hx:X.env.scope.names.lookup x=some .local) (hy:X.env.scope.names.lookup y=some .local) (ha:PA X [a,b] ta)
  (hw:swappedStores [.Tuple [.Name x px,.Name y py] kt pt] (.Tuple [a,b] k2 pt2) X.env=pure (some [x,y]))
  (hs:swapsWithSole [.Tuple [.Name x px,.Name y py] kt pt] (.Tuple [a,b] k2 pt2) pos.line X.env=pure false:=by rfl):
  PS X (.Assign [.Tuple [.Name x px,.Name y py] kt pt] (.Tuple [a,b] k2 pt2) pos) (Qcr i j ta):=by
 intro pins s σ H D I h;rw[exec_Assign_arm];refine wpAny_bind (wpAny_standAt ?_);rw[hs];refine wpAny_bind (wpAny_pure ?_);rw[if_neg (by decide)];refine wpAny_bind (Tuple_ (thn (ha _ pins s σ H _ I h) fun us s1⟨vs,H1,I1,r1,q1⟩=>?_));obtain⟨v,w,e1,q1⟩:=q1;subst e1;obtain⟨u1,u2,rfl,rv,rw'⟩:∃u1 u2,us=[u1,u2]/\RelV v u1/\RelV w u2:=by
  cases r1 with
  |cons p q=>
   cases q with
   |cons p' q'=>
    cases q';exact⟨_,_,rfl,p,p'⟩
 refine wpAny_newObj_type ?_ (by show 2<=sizeLine;decide);have I2:Inv X pins σ H1 {s1 with heap:=s1.heap.push {cls:=.type "tuple",data:=.seq [u1,u2].toArray}}:=I1.kept (t':=s1.toks) fun b o e=>Heap.get?_push_of_some _ e;rw[hw];refine wpAny_bind (wpAny_pure ?_);show wpAny (model X.prog X.w) X.A (do rule "assign.swapped-stores";let items←unpackItems (.ref s1.heap.objs.size) 2 none;assignInOrder [fun v=>bindName X.env y v,fun v=>bindName X.env x v] items.reverse;pure Flow.next) _ _ _;refine wpAny_bind (wpAny_rule (wpAny_bind (unpackItems_tuple (items:= #[u1,u2]) (I.ok.hd hc) (IsTup.new s1.heap _) fun h' hx'=>?_)));have I3:=I2.kept (h':=h') (t':=s1.toks) fun b o e=>hx' b o (Nat.ne_of_lt (Heap.lt_size e)) e;show wpAny _ _ (assignInOrder [fun v=>bindName X.env y v,fun v=>bindName X.env x v] [u2,u1]>>=fun _=>pure Flow.next) _ _ _;refine wpAny_bind (assignInOrder_cons (wpAny_bindName (Xn I3 hN hj (.inl hy) rw' (fun s2 I4=>?_) (.inr hy))));refine assignInOrder_cons (wpAny_bindName (Xn I4 hN hi (.inl hx) rv (fun s3 I5=>assignInOrder_nil (wpAny_pure ?_)) (.inr hx)));rw[List.set_comm _ _ (Ne.symm hij)]at I5;exact⟨_,H1,I5,q1⟩
def QdC(i:Nat)(te:TE)(ti:TIp):TS:=fun D σ H=>∃x,σ[i]? =some (some x)/\te σ H fun y H1=>ti x y H1 fun z H2=>D.nx (σ.set i (some z)) H2
theorem K8{i:Nat}{x:Str}{e:Expr}{te:TE}{op:Operator}{ti:TIp}{pos':Pos}(hN:X.N.Nodup)(hi:X.N[i]? =some x)(hx:Loc X.env.scope x)(he:PE X e te)(ho:PIp X op ti)(hf:X.fn x=true\/X.env.scope.names.lookup x=some .local:=by first|exact .inl rfl|exact .inr rfl|assumption):
  PS X (.AugAssign (.Name x pos') op e pos) (QdC i te ti):=by
 intro pins s σ H D I h;obtain⟨v,e1,h⟩:=h;obtain⟨m,hn,hl⟩:=I.loc;have vis:Vis X.env.scope x:=by rcases hx with k|k;exact .inl k;exact .inr (.inl k)
 obtain⟨u,r,l⟩:=hl i x v hi e1 vis;refine wpAny_AugAssign_Name ?_;have go:wpAny (model X.prog X.w) X.A (eval e X.env) (fun w s₂=>wpAny (model X.prog X.w) X.A (inplaceOp op u w) (fun r s₃=>wpAny (model X.prog X.w) X.A (storeName X.env x r) (fun _=>SP X pins D .next) X.xe s₃) X.xe s₂) X.xe s:=by
  refine thn (he pins s σ H _ I h) fun w s1⟨y,H1,I1,r1,q1⟩=>?_;refine thn (ho pins s1 σ H1 v y u w _ I1 r r1 q1) fun z s2⟨zv,H2,I2,r2,q2⟩=>?_;exact Xn I2 hN hi hx r2 (fun s3 I3=>⟨_,H2,I3,q2⟩) hf
 rcases l with⟨hk,hm⟩|⟨hk,c,hc,hcell⟩
 ·exact wpAny_loadName_local I.ok.kind hk hn hm go
 ·rcases hk with hk|hk
  ·exact wpAny_loadName_cell I.ok.kind hk hc hcell go
  ·rcases hx with k|k
   ·have:X.env.scope.names.lookup x=some .free:=hk;rw[k]at this;cases this
   ·have:X.env.scope.names.lookup x=some .free:=hk;rw[k]at this;cases this
def ipI(f:Int->Int->Int):TIp:=fun x y H Q=>∃i j,x=.int i/\y=.int j/\Q (.int (f i j)) H
theorem WH:PIp X .Add (ipI fun i j=>i+j):=by
 intro pins s σ H x y v u Q I r1 r2 h;obtain⟨i,j,e1,e2,q⟩:=h;subst e1;subst e2;obtain⟨t,rfl⟩:=r1;obtain⟨t',rfl⟩:=r2;exact iadd_int ⟨.int _,H,I.tok _,⟨_,rfl⟩,q⟩
end
section
variable {X:Cx}{pos:Pos}
def Qa9(c:TT)(tb:TS):TS:=fun D σ H=>∃W:Nat->St->Hp->Prop,(∃m,W m σ H)/\∀m σ H,W m σ H->
 c σ H fun b H1=>if b=true then ∃N:St->Hp->Prop,(∀σ' H',N σ' H'->∃m',m'<m/\W m' σ' H')/\tb {D with nx:=N,ct:=N,bk:=D.nx} σ H1 else D.nx σ H1
theorem Xo{c:Expr}{body:List Stmt}{tc:TT}{tb:TS}(hp:PassesOwn (model X.prog X.w) X.A X.env X.xe)(hc:PT X c tc)(hb:PSs X body tb):PS X (.While c body [] pos) (Qa9 tc tb):=by
 intro pins s σ H D I h;obtain⟨W,⟨m0,w0⟩,turn⟩:=h;refine wpAny_While (codeAny_whileLoop (fun n s'=>∃σ' H',Inv X pins σ' H' s'/\W n σ' H') ?_ m0 ⟨σ,H,I,w0⟩);rintro n s1 ⟨σ1,H1,I1,w1⟩;refine wpAny_passesOwn hp (thn (hc pins s1 σ1 H1 _ I1 (turn n σ1 H1 w1)) fun b s2⟨H2,I2,q2⟩=>?_);cases b with
 |true=>
  obtain⟨N,hN,q2⟩:=q2;rw[if_pos rfl];refine wpAny_passesOwn hp (thn (hb pins s2 σ1 H2 _ I2 q2) fun f s3 q3=>?_);cases f with
  |next=>
   obtain⟨σ3,H3,I3,n3⟩:=q3;obtain⟨m',hm,w3⟩:=hN σ3 H3 n3;exact⟨m',hm,σ3,H3,I3,w3⟩
  |cont=>
   obtain⟨σ3,H3,I3,n3⟩:=q3;obtain⟨m',hm,w3⟩:=hN σ3 H3 n3;exact⟨m',hm,σ3,H3,I3,w3⟩
  |brk=>exact q3
  |ret v=>exact q3
 |false=>
  rw[if_neg Bool.false_ne_true];exact wpAny_execs_nil ⟨σ1,H2,I2,q2⟩
end
structure It where
 go:Nat->Hp->Prop
 yld:Nat->Hp->V->Hp->Prop
 stop:Nat->Hp->Prop
def jC(X:Cx)(pins:List (Addr × Obj))(H:Hp)(b:Addr):Prop:=
 H b=none/\b≠X.env.locals/\b∉X.fs/\(b∈X.ex\/X.s₀.heap.objs.size<=b)/\(∀x c,X.env.cells.lookup x=some c->c≠b)/\∀p∈X.pn++pins,p.1≠b
theorem Inv.k4{X:Cx}{pins:List (Addr × Obj)}{σ:St}{H H':Hp}{s:Shared}{b:Addr}(I:Inv X pins σ H s)(hb:s.heap.objs.size<=b)(hn:H' b=none):jC X pins H' b:=by
 refine⟨hn,Nat.ne_of_gt (Nat.lt_of_lt_of_le I.lt hb),I.Qdx hb,.inr (Nat.le_trans I.sz hb),fun x c e z=>?_,fun p hp z=>?_⟩
 ·obtain⟨v,q⟩:=I.cell x c e;exact absurd (Nat.lt_of_lt_of_le q.lt (by rw[z];exact hb)) (Nat.lt_irrefl _)
 ·exact absurd (Nat.lt_of_lt_of_le (Heap.lt_size (I.pin p hp).1) (by rw[z];exact hb)) (Nat.lt_irrefl _)
structure Turn(P:Program)(w:World)(K:PySem.W.Frag)(tg:Expr)(J:It)(fp:List Addr)(it:Addr)(tn:Nat->Heap->Prop):Prop where
 mem:it∈fp
 obj:∀i h,tn i h->∀b∈fp,∃o,h.get? b=some o/\∀v,o.data≠ .cell v
 keep:∀i h h',tn i h->(∀b∈fp,∀o,h.get? b=some o->h'.get? b=some o)->tn i h'
 item:∀(X:Cx),X.prog=P->X.w=w->X.K=K->X.calm=true->∀(i:Nat)(pins:List (Addr × Obj))(s:Shared)(σ:St)(H:Hp)(E:Value->Shared->Prop),Inv X pins σ H s->(∀b∈fp,jC X pins H b)->tn i s.heap->J.go i H->
  wpAny (model P w) X.A (pyNext (.ref it)) (fun r s1=>∃u,r=some u/\
   wpAny (model P w) X.A (letOwnedTupleGo tg (.ref it) u) (fun _ s2=>∃x H',Inv X pins σ H' s2/\RelV x u/\J.yld i H x H'/\tn (i+1) s2.heap/\∀b∈fp,H' b=none) E s1) E s
 done:∀(X:Cx),X.prog=P->X.w=w->X.K=K->X.calm=true->∀(i:Nat)(pins:List (Addr × Obj))(s:Shared)(σ:St)(H:Hp)(E:Value->Shared->Prop),Inv X pins σ H s->(∀b∈fp,jC X pins H b)->tn i s.heap->J.stop i H->
  wpAny (model P w) X.A (pyNext (.ref it)) (fun r s1=>r=none/\Inv X pins σ H s1) E s
 self:∀(A:Around)(i:Nat)(s:Shared)(Q:Value->Shared->Prop)(E:Value->Shared->Prop),tn i s.heap->Q (.ref it) s->wpAny (model P w) A (pyIter (.ref it)) Q E s
abbrev TI:=St->Hp->(It->Hp->Prop)->Prop
def PIE(X:Cx)(pins:List (Addr × Obj))(σ:St)(tg:Expr)(R:It->Hp->Prop)(itv:Value)(s2:Shared):Prop:=
 ∃(it:Addr)(fp:List Addr)(tn:Nat->Heap->Prop)(J:It)(H':Hp),itv=.ref it/\Inv X pins σ H' s2/\Turn X.prog X.w X.K tg J fp it tn/\tn 0 s2.heap/\(∀b∈fp,jC X pins H' b)/\R J H'
def PI(X:Cx)(tg iter:Expr)(wi:TI):Prop:=
 ∀(pins:List (Addr × Obj))(s:Shared)(σ:St)(H:Hp)(R:It->Hp->Prop),Inv X pins σ H s->wi σ H R->
  wpAny (model X.prog X.w) X.A (eval iter X.env) (fun v s1=>wpAny (model X.prog X.w) X.A (pyIter v) (PIE X pins σ tg R) X.xe s1) X.xe s
theorem zC{M:Model}{A:Around}{E:Value->Shared->Prop}{s:Shared}{tg:Expr}{it:Addr}{u:Value}{o:Obj}{n:String}{vs:Array Value}{Q:Unit->Shared->Prop}(ho:s.heap.get? it=some o)(hc:o.cls=.type n)(hd:o.data=.fields vs)
  (hn:["enumerate","zip","dict_itemiterator","dict_reverseitemiterator","odict_iterator","itertools.zip_longest","itertools.pairwise"].contains n=false) (hQ:Q () s):wpAny M A (letOwnedTupleGo tg (.ref it) u) Q E s:=by
 unfold letOwnedTupleGo;cases tg<;>first
  |exact wpAny_pure hQ
  |(cases u<;>first
    |exact wpAny_pure hQ
    |(refine wpAny_bind (wpAny_load ho ?_)
      rw[hc,hd];show wpAny M A (if(["enumerate","zip","dict_itemiterator","dict_reverseitemiterator","odict_iterator","itertools.zip_longest","itertools.pairwise"].contains n&&vs[0]? ==some (rawInt _))=true then _ else _) Q E s;rw[if_neg (by intro h;rw[hn,Bool.false_and]at h;cases h)];exact wpAny_pure hQ))
def Itl(K:PySem.W.Frag)(a:Addr):It:=
 ⟨fun i H=>∃xs x,SqL K H a xs/\xs[i]? =some x,fun i H x H'=>H'=H/\∀xs,SqL K H a xs->xs[i]? =some x,fun i H=>∃xs,SqL K H a xs/\xs.length<=i⟩
def Itt(K:PySem.W.Frag)(a:Addr):It:=
 ⟨fun i H=>∃xs x,SqT K H a xs/\xs[i]? =some x,fun i H x H'=>H'=H/\∀xs,SqT K H a xs->xs[i]? =some x,fun i H=>∃xs,SqT K H a xs/\xs.length<=i⟩
def Itr(lo:Int)(n:Nat):It:=⟨fun i _=>i<n,fun i H x H'=>H'=H/\x=.int (lo+i),fun i _=>n<=i⟩
theorem zD{P:Program}{w:World}{K:PySem.W.Frag}{tg:Expr}(a it:Addr):Turn P w K tg (Itl K a) [it] it (fun i h=>h.IsListIter it a i) where
 mem:=by simp
 obj:=fun i h st b hb=>by
  have e:b=it:=by simpa using hb
  subst e;obtain⟨o,e,c,d⟩:=st;exact⟨o,e,fun v z=>by rw[d]at z;cases z⟩
 keep:=fun i h h' st k=>st.at fun o e=>k it (by simp) o e
 item:=by
  intro X hP hw hK hc i pins s σ H E I hf st hg;subst hP hw hK;obtain⟨xs,x,hq,hx⟩:=hg;obtain⟨its,rv,p,hz⟩:=I.list hq;obtain⟨u,hu,ru⟩:=rv.get hx;obtain⟨f0,f1,f2,f3,f4,f5⟩:=hf it (by simp);refine wpAny_pyNext_list_item st p.isList (x:=u) (by simpa using hu) fun h' st' sb=>?_;have I1:Inv X pins σ H {s with heap:=h'}:=I.turned (t':=s.toks) (fun b o hb e=>(sb.2 b hb).trans e) f0 f1 f3 f4 f5;obtain⟨o,e,c,d⟩:=id st';exact⟨u,rfl,zC (s:={s with heap:=h'}) e c d (by decide) ⟨x,H,I1,ru,⟨rfl,fun ys hy=>by rw[I.k9 hy hq];exact hx⟩,st',fun b hb=>(hf b hb).1⟩⟩
 done:=by
  intro X hP hw hK hc i pins s σ H E I hf st hg;subst hP hw hK;obtain⟨xs,hq,hx⟩:=hg;obtain⟨its,rv,p,hz⟩:=I.list hq;obtain⟨f0,f1,f2,f3,f4,f5⟩:=hf it (by simp);have hl:=rv.length;exact wpAny_pyNext_list_end (I.ok.hd hc) st p.isList (by simp;omega) fun h' eb=>⟨rfl,I.turned (t':=s.toks) (fun b o hb e=>eb b o hb e) f0 f1 f3 f4 f5⟩
 self:=fun _ _ _ _ _ st h=>wpAny_pyIter_listiter st h
theorem jD{P:Program}{w:World}{K:PySem.W.Frag}{tg:Expr}(a it:Addr):Turn P w K tg (Itt K a) [it] it (fun i h=>h.IsTupleIter it a i) where
 mem:=by simp
 obj:=fun i h st b hb=>by
  have e:b=it:=by simpa using hb
  subst e;obtain⟨o,e,c,d⟩:=st;exact⟨o,e,fun v z=>by rw[d]at z;cases z⟩
 keep:=fun i h h' st k=>st.at fun o e=>k it (by simp) o e
 item:=by
  intro X hP hw hK hc i pins s σ H E I hf st hg;subst hP hw hK;obtain⟨xs,x,hq,hx⟩:=hg;obtain⟨its,rv,p,hz⟩:=I.tuple hq;obtain⟨u,hu,ru⟩:=rv.get hx;obtain⟨f0,f1,f2,f3,f4,f5⟩:=hf it (by simp);refine wpAny_pyNext_tuple_item st (show s.heap.IsTuple a its.toArray from p) (x:=u) (by simpa using hu) fun h' st' sb=>?_;have I1:Inv X pins σ H {s with heap:=h'}:=I.turned (t':=s.toks) (fun b o hb e=>(sb.2 b hb).trans e) f0 f1 f3 f4 f5;obtain⟨o,e,c,d⟩:=id st';exact⟨u,rfl,zC (s:={s with heap:=h'}) e c d (by decide) ⟨x,H,I1,ru,⟨rfl,fun ys hy=>by rw[I.WG hy hq];exact hx⟩,st',fun b hb=>(hf b hb).1⟩⟩
 done:=by
  intro X hP hw hK hc i pins s σ H E I hf st hg;subst hP hw hK;obtain⟨xs,hq,hx⟩:=hg;obtain⟨its,rv,p,hz⟩:=I.tuple hq;obtain⟨f0,f1,f2,f3,f4,f5⟩:=hf it (by simp);have hl:=rv.length;exact wpAny_pyNext_tuple_end (I.ok.hd hc) st (show s.heap.IsTuple a its.toArray from p) (by simp;omega) fun h' eb=>⟨rfl,I.turned (t':=s.toks) (fun b o hb e=>eb b o hb e) f0 f1 f3 f4 f5⟩
 self:=fun _ _ _ _ _ st h=>wpAny_pyIter_tupleiter st h
theorem jE{P:Program}{w:World}{K:PySem.W.Frag}{tg:Expr}(it:Addr)(lo:Int)(n:Nat):Turn P w K tg (Itr lo n) [it] it (fun i h=>IsRangeIter h it (lo+(i:Nat)*1) ((n:Int)-(i:Nat)) 1) where
 mem:=by simp
 obj:=fun i h st b hb=>by
  have e:b=it:=by simpa using hb
  subst e;exact⟨_,st,fun v z=>by
   have z':Data.fields _=Data.cell v:=z;cases z'⟩
 keep:=fun i h h' st k=>k it (by simp) _ st
 item:=by
  intro X hP hw hK hc i pins s σ H E I hf st hg;subst hP hw hK;obtain⟨f0,f1,f2,f3,f4,f5⟩:=hf it (by simp);have W:=Walks.range (prog:=X.prog) (w:=X.w) (I.ok.hd hc) it lo 1 n;refine W.item i s _ _ hg st fun v h' tk hv st' kk=>?_;obtain⟨t,rfl⟩:=hv;have I1:Inv X pins σ H {s with heap:=h',toks:=tk}:=I.turned (fun b o hb e=>kk b o (by simpa using hb) e) f0 f1 f3 f4 f5;refine⟨_,rfl,zC (s:={s with heap:=h',toks:=tk}) (n:="range_iterator") st' rfl rfl (by decide) ⟨.int (lo+i),H,I1,⟨t,?_⟩,⟨rfl,rfl⟩,st',fun b hb=>(hf b hb).1⟩⟩;rw[Int.mul_one]
 done:=by
  intro X hP hw hK hc i pins s σ H E I hf st hg;subst hP hw hK;obtain⟨f0,f1,f2,f3,f4,f5⟩:=hf it (by simp);exact wpAny_pyNext_range_end (I.ok.hd hc) st (by have:n<=i:=hg;omega) fun h' eb=>⟨rfl,I.turned (t':=s.toks) (fun b o hb e=>eb b o hb e) f0 f1 f3 f4 f5⟩
 self:=fun _ _ _ _ _ st h=>wpAny_pyIter_rangeiter st h
section
variable {X:Cx}{tg:Expr}
def yu(K:PySem.W.Frag)(tl:TE):TI:=fun σ H R=>tl σ H fun x H1=>∃a,x=.ref a/\(∃xs,SqL K H1 a xs)/\R (Itl K a) H1
def Qde(K:PySem.W.Frag)(tl:TE):TI:=fun σ H R=>tl σ H fun x H1=>∃a,x=.ref a/\(∃xs,SqT K H1 a xs)/\R (Itt K a) H1
theorem JG{l:Expr}{tl:TE}(hl:PE X l tl):PI X tg l (yu X.K tl):=by
 intro pins s σ H R I h;refine thn (hl pins s σ H _ I h) fun v s1⟨x,H1,I1,r1,q1⟩=>?_;obtain⟨a,e,⟨xs,hq⟩,q⟩:=q1;subst e;cases r1;obtain⟨its,rv,p,hz⟩:=I1.list hq;refine wpAny_pyIter_list p.isList ?_;refine⟨s1.heap.objs.size,[s1.heap.objs.size],_,_,H1,rfl,I1.kept (t':=s1.toks) fun b o e=>Heap.get?_push_of_some _ e,zD a _,⟨_,Heap.get?_push_size _ rfl,rfl,rfl⟩,fun b hb=>?_,q⟩;have e:b=s1.heap.objs.size:=by simpa using hb
 subst e;exact I1.k4 (Nat.le_refl _) (I1.hok.fresh (Nat.le_refl _))
theorem Z3{l:Expr}{tl:TE}(hl:PE X l tl):PI X tg l (Qde X.K tl):=by
 intro pins s σ H R I h;refine thn (hl pins s σ H _ I h) fun v s1⟨x,H1,I1,r1,q1⟩=>?_;obtain⟨a,e,⟨xs,hq⟩,q⟩:=q1;subst e;cases r1;obtain⟨its,rv,p,hz⟩:=I1.tuple hq;refine wpAny_pyIter_tuple (show s1.heap.IsTuple a its.toArray from p) ?_;refine⟨s1.heap.objs.size,[s1.heap.objs.size],_,_,H1,rfl,I1.kept (t':=s1.toks) fun b o e=>Heap.get?_push_of_some _ e,jD a _,⟨_,Heap.get?_push_size _ rfl,rfl,rfl⟩,fun b hb=>?_,q⟩;have e:b=s1.heap.objs.size:=by simpa using hb
 subst e;exact I1.k4 (Nat.le_refl _) (I1.hok.fresh (Nat.le_refl _))
theorem wb{pins:List (Addr × Obj)}{σ:St}{H:Hp}{s:Shared}{R:It->Hp->Prop}{E:Value->Shared->Prop}{lo hi:Int}{t u v:Tok}{tk:Nat}(I:Inv X pins σ H s)(h1: -(2^62)<=lo)(h2:lo<2^62)(h3: -(2^62)<=hi)(h4:hi<2^62)
  (q:R (Itr lo (hi-lo).toNat) H):wpAny (model X.prog X.w) X.A (pyIter (.ref s.heap.objs.size)) (PIE X pins σ tg R) E {s with heap:=s.heap.push {cls:=.type "range",data:=.fields #[.int lo t,.int hi u,.int 1 v]},toks:=tk}:=by
 refine wpAny_pyIter_range (IsRange.new ..) (small_one h1 h2 h3 h4) ?_;have I1:Inv X pins σ H {s with heap:=s.heap.push {cls:=.type "range",data:=.fields #[.int lo t,.int hi u,.int 1 v]},toks:=tk}:=I.kept fun b o e=>Heap.get?_push_of_some _ e;refine⟨(s.heap.push {cls:=.type "range",data:=.fields #[.int lo t,.int hi u,.int 1 v]}).objs.size,[(s.heap.push {cls:=.type "range",data:=.fields #[.int lo t,.int hi u,.int 1 v]}).objs.size],_,_,H,rfl,
  I1.kept (t':=tk) fun b o e=>Heap.get?_push_of_some _ e,jE _ lo (hi-lo).toNat,?_,fun b hb=>?_,q⟩
 ·have e1:lo+((0:Nat):Int)*1=lo:=by simp
  have e2:(((hi-lo).toNat:Nat):Int)-((0:Nat):Int)=Builtin.Range.rangeSize lo hi 1:=by rw[rangeSize_one];split<;>omega
  show IsRangeIter _ _ (lo+((0:Nat):Int)*1) ((((hi-lo).toNat:Nat):Int)-((0:Nat):Int)) 1;rw[e1,e2];exact Heap.get?_push_size _ rfl
 ·have e:b=(s.heap.push {cls:=.type "range",data:=.fields #[.int lo t,.int hi u,.int 1 v]}).objs.size:=by simpa using hb
  subst e;exact I1.k4 (Nat.le_refl _) (I1.hok.fresh (Nat.le_refl _))
def Qcs(ta:TA):TI:=fun σ H R=>ta σ H fun vs H1=>∃j:Int,vs=[.int j]/\ -(2^62)<=j/\j<2^62/\R (Itr 0 j.toNat) H1
theorem Z4{a:Expr}{ta:TA}{p pos:Pos}(hg:Gl X "range")(hm:X.mg "range"=none)(ha:PA X [a] ta)(hs:starEach [a] X.env=[(false,eval a X.env)]:=by rfl):PI X tg (.Call (.Name "range" p) [a] [] pos) (Qcs ta):=by
 intro pins s σ H R I h;refine Call_ (X7 I hg hm boot_range (PyProof.Rows.callWith_type1 (thn (ha pos pins s σ H _ I h) fun us s1⟨vs,H1,I1,r1,q1⟩=>?_) hs rfl));obtain⟨j,e,q1,q2,q⟩:=q1;subst e;cases r1 with
 |cons r rr=>
  cases rr;obtain⟨t,rfl⟩:=r;exact call_range_1 (wb I1 (by omega) (by omega) q1 q2 (by simpa using q))
def Qdf(wi:TI)(g:TG)(tb:TS):TS:=fun D σ H=>wi σ H fun J H1=>∃W:Nat->Nat->St->Hp->Prop,(∃m,W 0 m σ H1)/\∀i m σ H,W i m σ H->
 (J.stop i H/\D.nx σ H)\/(J.go i H/\∃N:St->Hp->Prop,(∀σ' H',N σ' H'->∃m',m'<m/\W (i+1) m' σ' H')/\∀x H',J.yld i H x H'->g x σ H' fun σ2 H2=>tb {D with nx:=N,ct:=N,bk:=D.nx} σ2 H2)
def K9(fp:List Addr)(h:Heap):List (Addr × Obj):=fp.filterMap fun b=>(h.get? b).map fun o=>(b,o)
theorem Ja{fp:List Addr}{h:Heap}{b:Addr}{o:Obj}(hb:b∈fp)(e:h.get? b=some o):(b,o)∈K9 fp h:=List.mem_filterMap.mpr ⟨b,hb,by rw[e];rfl⟩
theorem zE{fp:List Addr}{h:Heap}{p:Addr × Obj}(hp:p∈K9 fp h):p.1∈fp/\h.get? p.1=some p.2:=by
 obtain⟨b,hb,e⟩:=List.mem_filterMap.mp hp;cases q:h.get? b with
 |none=>rw[q]at e;cases e
 |some o=>
  rw[q]at e;have e':(b,o)=p:=Option.some.inj e;subst e';exact⟨hb,q⟩
theorem Inv.pinned{pins:List (Addr × Obj)}{σ:St}{H:Hp}{s:Shared}{fp:List Addr}(I:Inv X pins σ H s)(hf:∀b∈fp,jC X pins H b) (ho:∀b∈fp,∃o,s.heap.get? b=some o/\∀v,o.data≠ .cell v):Inv X (pins++K9 fp s.heap) σ H s:=
 I.ZC fun p hp=>(List.mem_append.mp hp).elim (fun z=>I.pin p (List.mem_append_right _ z)) fun z=>by
  obtain⟨hb,e⟩:=zE z;obtain⟨f0,f1,f2,_⟩:=hf p.1 hb;obtain⟨o,e',d⟩:=ho p.1 hb;rw[e]at e';cases e';exact⟨e,f0,f1,f2,d⟩
theorem Inv.Jx{pins pl:List (Addr × Obj)}{σ:St}{H:Hp}{s:Shared}(I:Inv X (pins++pl) σ H s):Inv X pins σ H s:=I.ZC fun p hp=>I.pin p (List.mem_append_right _ (List.mem_append_left _ hp))
theorem X8{iter:Expr}{body:List Stmt}{wi:TI}{g:TG}{tb:TS}{pos:Pos}(hp:PassesOwn (model X.prog X.w) X.A X.env X.xe)(hc:X.calm=true)(hi:PI X tg iter wi)(hg:PG X tg g)(hb:PSs X body tb)
  (hs:∀x,foldedSetIterable iter X.env x=pure x:=by intro _;rfl):PS X (.For tg iter body [] pos) (Qdf wi g tb):=by
 intro pins s σ H D I h;refine wpAny_For (thn (hi pins s σ H _ I h) fun v s1 h1=>thn h1 fun itv s2 h2=>?_) hs;obtain⟨it,fp,tn,J,H2,e,I2,T,st2,f2,W,⟨m0,w0⟩,turn⟩:=h2;subst e;have stat:∀{H':Hp},(∀b∈fp,H' b=none)->∀b∈fp,jC X pins H' b:=fun hn b hb=>⟨hn b hb,(f2 b hb).2⟩;refine codeAny_forLoop_any (fun n s'=>∃i σ' H',Inv X pins σ' H' s'/\tn i s'.heap/\(∀b∈fp,H' b=none)/\W i n σ' H') ?_ m0 ⟨0,σ,H2,I2,st2,fun b hb=>(f2 b hb).1,w0⟩;rintro n s3 ⟨i,σ3,H3,I3,st3,fr3,w3⟩;rcases turn i n σ3 H3 w3 with⟨stop,qn⟩|⟨go,N,hN,step⟩
 ·refine wpAny_passesOwn hp (thn (T.done X rfl rfl rfl hc i pins s3 σ3 H3 X.xe I3 (stat fr3) st3 stop) fun r s4⟨hr,I4⟩=>?_);subst hr;exact wpAny_execs_nil ⟨σ3,H3,I4,qn⟩
 ·refine wpAny_passesOwn hp (thn (T.item X rfl rfl rfl hc i pins s3 σ3 H3 X.xe I3 (stat fr3) st3 go) fun r s4⟨u,hr,h4⟩=>?_);subst hr;refine wpAny_passesOwn hp (thn h4 fun _ s5⟨x,H5,I5,r5,y5,st5,fr5⟩=>?_);have I5':=I5.pinned (stat fr5) (T.obj _ _ st5);refine wpAny_passesOwn hp (thn (hg _ s5 σ3 H5 x u _ I5' r5 (step x H5 y5)) fun _ s6⟨σ6,H6,I6,q6⟩=>?_);refine wpAny_passesOwn hp (thn (hb _ s6 σ6 H6 _ I6 q6) fun f s7 q7=>?_);have again:∀{σ7:St}{H7:Hp},Inv X (pins++K9 fp s5.heap) σ7 H7 s7->N σ7 H7->∃m,m<n/\∃i σ' H',Inv X pins σ' H' s7/\tn i s7.heap/\(∀b∈fp,H' b=none)/\W i m σ' H':=fun{σ7 H7} I7 n7=>by
   obtain⟨m',hm,w7⟩:=hN σ7 H7 n7;refine⟨m',hm,i+1,σ7,H7,I7.Jx,T.keep _ _ _ st5 fun b hb o e=>(I7.pin (b,o) (List.mem_append_right _ (List.mem_append_right _ (Ja hb e)))).1,fun b hb=>?_,w7⟩;obtain⟨o,e,d⟩:=T.obj _ _ st5 b hb;exact(I7.pin (b,o) (List.mem_append_right _ (List.mem_append_right _ (Ja hb e)))).2.1
  cases f with
  |next=>obtain⟨σ7,H7,I7,n7⟩:=q7;exact again I7 n7
  |cont=>obtain⟨σ7,H7,I7,n7⟩:=q7;exact again I7 n7
  |brk=>obtain⟨σ7,H7,I7,q7⟩:=q7;exact⟨σ7,H7,I7.Jx,q7⟩
  |ret v=>obtain⟨x7,σ7,H7,I7,r7,q7⟩:=q7;exact⟨x7,σ7,H7,I7.Jx,r7,q7⟩
end
theorem wc{K:PySem.W.Frag}{a:Addr}{xs:List V}{g:TG}{tb:TS}{D:Ends}{σ:St}{H:Hp}(Pv:Nat->St->Hp->Prop)(h0:Pv 0 σ H)(hl:∀i σ H,i<=xs.length->Pv i σ H->SqL K H a xs)
  (hs:∀i x σ H,xs[i]? =some x->Pv i σ H->g x σ H fun σ2 H2=>tb {D with nx:=Pv (i+1),ct:=Pv (i+1),bk:=D.nx} σ2 H2) (hd:∀σ H,Pv xs.length σ H->D.nx σ H):
  ∃W:Nat->Nat->St->Hp->Prop,(∃m,W 0 m σ H)/\∀i m σ H,W i m σ H->
   ((Itl K a).stop i H/\D.nx σ H)\/((Itl K a).go i H/\∃N:St->Hp->Prop,(∀σ' H',N σ' H'->∃m',m'<m/\W (i+1) m' σ' H')/\∀x H',(Itl K a).yld i H x H'->g x σ H' fun σ2 H2=>tb {D with nx:=N,ct:=N,bk:=D.nx} σ2 H2):=by
 refine⟨fun i m σ H=>m=xs.length-i/\i<=xs.length/\Pv i σ H,⟨xs.length,by simp,Nat.zero_le _,h0⟩,?_⟩;rintro i m σ H ⟨rfl,hi,p⟩;have q:=hl i σ H hi p
 by_cases hlt:i<xs.length
 ·refine .inr ⟨⟨xs,xs[i],q,by simp[hlt]⟩,Pv (i+1),fun σ' H' p'=>⟨xs.length-(i+1),by omega,rfl,hlt,p'⟩,fun x H' y=>?_⟩;obtain⟨e,y⟩:=y;subst e;exact hs i x σ _ (y xs q) p
 ·have e:i=xs.length:=by omega
  subst e;exact .inl ⟨⟨xs,q,Nat.le_refl _⟩,hd σ H p⟩
theorem yv{K:PySem.W.Frag}{a:Addr}{xs:List V}{g:TG}{tb:TS}{D:Ends}{σ:St}{H:Hp}(Pv:Nat->St->Hp->Prop)(h0:Pv 0 σ H)(hl:∀i σ H,i<=xs.length->Pv i σ H->SqT K H a xs)
  (hs:∀i x σ H,xs[i]? =some x->Pv i σ H->g x σ H fun σ2 H2=>tb {D with nx:=Pv (i+1),ct:=Pv (i+1),bk:=D.nx} σ2 H2) (hd:∀σ H,Pv xs.length σ H->D.nx σ H):
  ∃W:Nat->Nat->St->Hp->Prop,(∃m,W 0 m σ H)/\∀i m σ H,W i m σ H->
   ((Itt K a).stop i H/\D.nx σ H)\/((Itt K a).go i H/\∃N:St->Hp->Prop,(∀σ' H',N σ' H'->∃m',m'<m/\W (i+1) m' σ' H')/\∀x H',(Itt K a).yld i H x H'->g x σ H' fun σ2 H2=>tb {D with nx:=N,ct:=N,bk:=D.nx} σ2 H2):=by
 refine⟨fun i m σ H=>m=xs.length-i/\i<=xs.length/\Pv i σ H,⟨xs.length,by simp,Nat.zero_le _,h0⟩,?_⟩;rintro i m σ H ⟨rfl,hi,p⟩;have q:=hl i σ H hi p
 by_cases hlt:i<xs.length
 ·refine .inr ⟨⟨xs,xs[i],q,by simp[hlt]⟩,Pv (i+1),fun σ' H' p'=>⟨xs.length-(i+1),by omega,rfl,hlt,p'⟩,fun x H' y=>?_⟩;obtain⟨e,y⟩:=y;subst e;exact hs i x σ _ (y xs q) p
 ·have e:i=xs.length:=by omega
  subst e;exact .inl ⟨⟨xs,q,Nat.le_refl _⟩,hd σ H p⟩
theorem YY{lo:Int}{n:Nat}{g:TG}{tb:TS}{D:Ends}{σ:St}{H:Hp}(Pv:Nat->St->Hp->Prop)(h0:Pv 0 σ H)
  (hs:∀i σ H,i<n->Pv i σ H->g (.int (lo+i)) σ H fun σ2 H2=>tb {D with nx:=Pv (i+1),ct:=Pv (i+1),bk:=D.nx} σ2 H2) (hd:∀σ H,Pv n σ H->D.nx σ H):
  ∃W:Nat->Nat->St->Hp->Prop,(∃m,W 0 m σ H)/\∀i m σ H,W i m σ H->
   ((Itr lo n).stop i H/\D.nx σ H)\/((Itr lo n).go i H/\∃N:St->Hp->Prop,(∀σ' H',N σ' H'->∃m',m'<m/\W (i+1) m' σ' H')/\∀x H',(Itr lo n).yld i H x H'->g x σ H' fun σ2 H2=>tb {D with nx:=N,ct:=N,bk:=D.nx} σ2 H2):=by
 refine⟨fun i m σ H=>m=n-i/\i<=n/\Pv i σ H,⟨n,by simp,Nat.zero_le _,h0⟩,?_⟩;rintro i m σ H ⟨rfl,hi,p⟩
 by_cases hlt:i<n
 ·refine .inr ⟨hlt,Pv (i+1),fun σ' H' p'=>⟨n-(i+1),by omega,rfl,hlt,p'⟩,fun x H' y=>?_⟩;obtain⟨e,y⟩:=y;subst e y;exact hs i σ _ hlt p
 ·have e:i=n:=by omega
  subst e;exact .inl ⟨Nat.le_refl _,hd σ H p⟩
abbrev R2:=V->V->Hp->VK->Prop
def OpR(X:Cx)(f:Value->Value->Sem Value)(r:R2):Prop:=
 ∀(pins:List (Addr × Obj))(s:Shared)(σ:St)(H:Hp)(x y:V)(v u:Value)(Q:VK),Inv X pins σ H s->RelV x v->RelV y u->r x y H Q->
  wpAny (model X.prog X.w) X.A (f v u) (EP X pins σ Q) X.xe s
def UnR(X:Cx)(f:Value->Sem Value)(r:V->Hp->VK->Prop):Prop:=
 ∀(pins:List (Addr × Obj))(s:Shared)(σ:St)(H:Hp)(x:V)(v:Value)(Q:VK),Inv X pins σ H s->RelV x v->r x H Q->
  wpAny (model X.prog X.w) X.A (f v) (EP X pins σ Q) X.xe s
def X9(X:Cx)(f:Value)(r:List V->Hp->VK->Prop):Prop:=
 ∀(pins:List (Addr × Obj))(s:Shared)(σ:St)(H:Hp)(xs:List V)(us:List Value)(Q:VK),Inv X pins σ H s->Vals xs us->r xs H Q->
  wpAny (model X.prog X.w) X.A (call f us) (EP X pins σ Q) X.xe s
def QdD(X:Cx)(r:V->Hp->(Bool->Hp->Prop)->Prop):Prop:=
 ∀(pins:List (Addr × Obj))(s:Shared)(σ:St)(H:Hp)(x:V)(v:Value)(Q:Bool->Hp->Prop),Inv X pins σ H s->RelV x v->r x H Q->
  wpAny (model X.prog X.w) X.A (truthy v) (TP X pins σ Q) X.xe s
def tOp(r:R2)(ta tb:TE):TE:=fun σ H Q=>ta σ H fun x H1=>tb σ H1 fun y H2=>r x y H2 Q
def tUn(r:V->Hp->VK->Prop)(ta:TE):TE:=fun σ H Q=>ta σ H fun x H1=>r x H1 Q
def rI(C:Int->Int->Prop)(g:Int->Int->V):R2:=fun x y H Q=>∃i j,x=.int i/\y=.int j/\C i j/\Q (g i j) H
def rI0(g:Int->Int->V):R2:=fun x y H Q=>∃i j,x=.int i/\y=.int j/\Q (g i j) H
def rU(g:Int->V):V->Hp->VK->Prop:=fun x H Q=>∃i,x=.int i/\Q (g i) H
section
variable {X:Cx}{a b c:Expr}{ta tb tc:TE}{pos:Pos}
theorem Qct(ha:PE X a ta)(hb:PE X b tb){pins:List (Addr × Obj)}{s:Shared}{σ:St}{H:Hp}{R:V->V->Hp->Prop}(I:Inv X pins σ H s)
  (h:ta σ H fun x H1=>tb σ H1 fun y H2=>R x y H2) {Q:Value->Shared->Prop} {f:Value->Value->Sem Value}
  (hf:∀v u s2 x y H2,Inv X pins σ H2 s2->RelV x v->RelV y u->R x y H2->wpAny (model X.prog X.w) X.A (f v u) Q X.xe s2):
  wpAny (model X.prog X.w) X.A (eval a X.env) (fun v s₁=>wpAny (model X.prog X.w) X.A (eval b X.env) (fun u s₂=>wpAny (model X.prog X.w) X.A (f v u) Q X.xe s₂) X.xe s₁) X.xe s:=by
 refine thn (ha pins s σ H _ I h) fun v s1⟨x,H1,I1,r1,q1⟩=>?_;refine thn (hb pins s1 σ H1 _ I1 q1) fun u s2⟨y,H2,I2,r2,q2⟩=>?_;exact hf v u s2 x y H2 I2 r1 r2 q2
theorem QM{op:Operator}{r:R2}(ho:OpR X (binaryOp op) r)(ha:PE X a ta)(hb:PE X b tb):PE X (.BinOp a op b pos) (tOp r ta tb):=by
 intro pins s σ H Q I h;exact wpAny_BinOp (Qct ha hb I h fun v u s2 x y H2 I2 rx ry q=>ho pins s2 σ H2 x y v u Q I2 rx ry q)
theorem YZ{op:UnaryOp}{r:V->Hp->VK->Prop}(ho:UnR X (unaryOp op) r)(ha:PE X a ta):PE X (.UnaryOp op a pos) (tUn r ta):=by
 intro pins s σ H Q I h;exact UnaryOp_ (thn (ha pins s σ H _ I h) fun v s1⟨x,H1,I1,r1,q1⟩=>ho pins s1 σ H1 x v Q I1 r1 q1)
theorem opI{f:Value->Value->Sem Value}{C:Int->Int->Prop}{g:Int->Int->Int}
  (rule:∀(i j:Int)(t u:Tok)(s:Shared)(Q:Value->Shared->Prop)(E:Value->Shared->Prop),C i j->Q (.int (g i j) s.toks) {s with toks:=s.toks+1}->wpAny (model X.prog X.w) X.A (f (.int i t) (.int j u)) Q E s):
  OpR X f (rI C fun i j=>.int (g i j)):=by
 intro pins s σ H x y v u Q I rx ry h;obtain⟨i,j,rfl,rfl,hc,q⟩:=h;obtain⟨t,rfl⟩:=rx;obtain⟨t',rfl⟩:=ry;exact rule i j t t' s _ _ hc ⟨.int (g i j),H,I.tok _,⟨_,rfl⟩,q⟩
theorem Qdg{f:Value->Value->Sem Value}{g:Int->Int->Int}
  (rule:∀(i j:Int)(t u:Tok)(s:Shared)(Q:Value->Shared->Prop)(E:Value->Shared->Prop),Q (.int (g i j) s.toks) {s with toks:=s.toks+1}->wpAny (model X.prog X.w) X.A (f (.int i t) (.int j u)) Q E s):
  OpR X f (rI0 fun i j=>.int (g i j)):=by
 intro pins s σ H x y v u Q I rx ry h;obtain⟨i,j,rfl,rfl,q⟩:=h;obtain⟨t,rfl⟩:=rx;obtain⟨t',rfl⟩:=ry;exact rule i j t t' s _ _ ⟨.int (g i j),H,I.tok _,⟨_,rfl⟩,q⟩
theorem Qb9{f:Value->Value->Sem Value}{g:Int->Int->Bool}
  (rule:∀(i j:Int)(t u:Tok)(s:Shared)(Q:Value->Shared->Prop)(E:Value->Shared->Prop),Q (.bool (g i j)) s->wpAny (model X.prog X.w) X.A (f (.int i t) (.int j u)) Q E s):
  OpR X f (rI0 fun i j=>.bl (g i j)):=by
 intro pins s σ H x y v u Q I rx ry h;obtain⟨i,j,rfl,rfl,q⟩:=h;obtain⟨t,rfl⟩:=rx;obtain⟨t',rfl⟩:=ry;exact rule i j t t' s _ _ ⟨.bl (g i j),H,I,rfl,q⟩
def QdE(i j:Int):Prop:=0<j/\j<1073741824
def QdF(i j:Int):Prop:=0<=j/\j<=1000000/\i.natAbs<2^64
def Qcu(i j:Int):Prop:=(-(2^64)<i/\i<2^64)\/(-(2^64)<j/\j<2^64)
theorem Qcu.ok{i j:Int}(h:Qcu i j):IntMulOk i j:=by
 rcases h with⟨h1,h2⟩|⟨h1,h2⟩
 ·exact .of_left (intBits_le_64 h1 h2)
 ·exact .of_right (intBits_le_64 h1 h2)
theorem Jl:OpR X (binaryOp .Add) (rI0 fun i j=>.int (i+j)):=Qdg fun _ _ _ _ _ _ _ q=>add_int q
theorem zF:OpR X (binaryOp .Sub) (rI0 fun i j=>.int (i-j)):=Qdg fun _ _ _ _ _ _ _ q=>sub_int q
theorem Wb:OpR X (binaryOp .Mult) (rI Qcu fun i j=>.int (i*j)):=opI fun _ _ _ _ _ _ _ hc q=>mul_int q hc.ok
theorem VW:OpR X (binaryOp .FloorDiv) (rI QdE fun i j=>.int (i/j)):=opI fun i j _ _ _ _ _ hc q=>by
 have h1:(0:Int)<j:=hc.1;have h2:j<1073741824:=hc.2;exact floordiv_int (by omega) (by rw[Int.fdiv_eq_ediv_of_nonneg i (by omega)];exact q) (.inl (PyProof.noPylong_small (by omega)))
theorem Vy:OpR X (binaryOp .Mod) (rI (fun _ j=>0<j) fun i j=>.int (i % j)):=opI fun i j _ _ _ _ _ hc q=>by
 have h1:(0:Int)<j:=hc;exact mod_int' (by omega) (by rw[Int.fmod_eq_emod_of_nonneg i (by omega)];exact q)
theorem vU:OpR X (binaryOp .Pow) (rI QdF fun i j=>.int (i^j.toNat)):=opI fun _ _ _ _ _ _ _ hc q=>pow_int_small hc.1 hc.2.1 hc.2.2 q
theorem unI{f:Value->Sem Value}{g:Int->Int}
  (rule:∀(i:Int)(t:Tok)(s:Shared)(Q:Value->Shared->Prop)(E:Value->Shared->Prop),Q (.int (g i) s.toks) {s with toks:=s.toks+1}->wpAny (model X.prog X.w) X.A (f (.int i t)) Q E s):
  UnR X f (rU fun i=>.int (g i)):=by
 intro pins s σ H x v Q I rx h;obtain⟨i,rfl,q⟩:=h;obtain⟨t,rfl⟩:=rx;exact rule i t s _ _ ⟨.int (g i),H,I.tok _,⟨_,rfl⟩,q⟩
theorem Wc:UnR X (unaryOp .USub) (rU fun i=>.int (-i)):=unI fun _ _ _ _ _ q=>neg_int q
end
def Qdh:V->V->Bool
 | .non,.non=>true| .non,.int _=>true| .int _,.non=>true| .non,.bl _=>true| .bl _,.non=>true| .non,.str _=>true| .str _,.non=>true
 | .int _,.int _=>true| .bl _,.bl _=>true| .str _,.str _=>true| .byt _,.byt _=>true
 | .int _,.str _=>true| .str _,.int _=>true| .bl _,.str _=>true| .str _,.bl _=>true
 |_,_=>false
def rEq:R2:=fun x y H Q=>Qdh x y=true/\Q (.bl (decide (x=y))) H
def rNe:R2:=fun x y H Q=>Qdh x y=true/\Q (.bl (!decide (x=y))) H
theorem zG{i j:Int}:decide (V.int i=V.int j)=(i==j):=by
 rw[Bool.eq_iff_iff];simp
theorem vV{i j:Bool}:decide (V.bl i=V.bl j)=(i==j):=by
 rw[Bool.eq_iff_iff];simp
theorem zH{i j:Str}:decide (V.str i=V.str j)=(i==j):=by
 rw[Bool.eq_iff_iff];simp
theorem zI{i j:Array UInt8}:decide (V.byt i=V.byt j)=(i.toList==j.toList):=by
 rw[Bool.eq_iff_iff];cases i;cases j;simp
section
variable {X:Cx}{a b c:Expr}{ta tb tc:TE}{pos:Pos}
theorem QS{pins:List (Addr × Obj)}{σ:St}{H:Hp}{s:Shared}{Q:VK}{k k':Bool}(I:Inv X pins σ H s)(q:Q (.bl k) H)(e:k=k'):EP X pins σ Q (.bool k') s:=by
 subst e;exact⟨.bl k,H,I,rfl,q⟩
theorem QU:OpR X (compareOp .Eq) rEq:=by
 intro pins s σ H x y v u Q I rx ry h;obtain⟨hs,q⟩:=h;cases x with
 |non=>
  cases rx;cases y with
  |non=>cases ry;exact PySem.EqNone.eq_none_none (QS I q (by simp))
  |bl j=>cases ry;exact PySem.EqNone.eq_none_bool (QS I q (by simp))
  |int j=>obtain⟨t',rfl⟩:=ry;exact PySem.EqNone.eq_none_int (QS I q (by simp))
  |str j=>obtain⟨t',rfl⟩:=ry;exact PySem.EqNone.eq_none_str (QS I q (by simp))
  |_=>exact absurd (show false=true from hs) Bool.false_ne_true
 |bl i=>
  cases rx;cases y with
  |non=>cases ry;exact PySem.EqNone.eq_bool_none (QS I q (by simp))
  |bl j=>cases ry;exact eq_bool (QS I q vV)
  |str j=>obtain⟨t',rfl⟩:=ry;exact PySem.EqMixed.eq_bool_str (QS I q (by simp))
  |_=>exact absurd (show false=true from hs) Bool.false_ne_true
 |int i=>
  obtain⟨t,rfl⟩:=rx;cases y with
  |non=>cases ry;exact PySem.EqNone.eq_int_none (QS I q (by simp))
  |int j=>obtain⟨t',rfl⟩:=ry;exact eq_int (QS I q zG)
  |str j=>obtain⟨t',rfl⟩:=ry;exact PySem.EqMixed.eq_int_str (QS I q (by simp))
  |_=>exact absurd (show false=true from hs) Bool.false_ne_true
 |str i=>
  obtain⟨t,rfl⟩:=rx;cases y with
  |non=>cases ry;exact PySem.EqNone.eq_str_none (QS I q (by simp))
  |bl j=>cases ry;exact PySem.EqMixed.eq_str_bool (QS I q (by simp))
  |int j=>obtain⟨t',rfl⟩:=ry;exact PySem.EqMixed.eq_str_int (QS I q (by simp))
  |str j=>obtain⟨t',rfl⟩:=ry;exact eq_str (QS I q zH)
  |_=>exact absurd (show false=true from hs) Bool.false_ne_true
 |byt i=>
  obtain⟨t,rfl⟩:=rx;cases y with
  |byt j=>obtain⟨t',rfl⟩:=ry;exact PySem.W.eq_bytes (QS I q zI)
  |_=>exact absurd (show false=true from hs) Bool.false_ne_true
 |_=>cases y<;>exact absurd (show false=true from hs) Bool.false_ne_true
theorem XA:OpR X (compareOp .NotEq) rNe:=by
 intro pins s σ H x y v u Q I rx ry h;obtain⟨hs,q⟩:=h;cases x with
 |non=>
  cases rx;cases y with
  |non=>cases ry;exact PySem.EqNone.ne_none_none (QS I q (by simp))
  |bl j=>cases ry;exact PySem.EqNone.ne_none_bool (QS I q (by simp))
  |int j=>obtain⟨t',rfl⟩:=ry;exact PySem.EqNone.ne_none_int (QS I q (by simp))
  |str j=>obtain⟨t',rfl⟩:=ry;exact PySem.EqNone.ne_none_str (QS I q (by simp))
  |_=>exact absurd (show false=true from hs) Bool.false_ne_true
 |bl i=>
  cases rx;cases y with
  |non=>cases ry;exact PySem.EqNone.ne_bool_none (QS I q (by simp))
  |bl j=>cases ry;exact ne_bool (QS I q (congrArg not vV))
  |str j=>obtain⟨t',rfl⟩:=ry;exact PySem.EqMixed.ne_bool_str (QS I q (by simp))
  |_=>exact absurd (show false=true from hs) Bool.false_ne_true
 |int i=>
  obtain⟨t,rfl⟩:=rx;cases y with
  |non=>cases ry;exact PySem.EqNone.ne_int_none (QS I q (by simp))
  |int j=>obtain⟨t',rfl⟩:=ry;exact ne_int (QS I q (congrArg not zG))
  |str j=>obtain⟨t',rfl⟩:=ry;exact PySem.EqMixed.ne_int_str (QS I q (by simp))
  |_=>exact absurd (show false=true from hs) Bool.false_ne_true
 |str i=>
  obtain⟨t,rfl⟩:=rx;cases y with
  |non=>cases ry;exact PySem.EqNone.ne_str_none (QS I q (by simp))
  |bl j=>cases ry;exact PySem.EqMixed.ne_str_bool (QS I q (by simp))
  |int j=>obtain⟨t',rfl⟩:=ry;exact PySem.EqMixed.ne_str_int (QS I q (by simp))
  |str j=>obtain⟨t',rfl⟩:=ry;exact ne_str (QS I q (congrArg not zH))
  |_=>exact absurd (show false=true from hs) Bool.false_ne_true
 |byt i=>
  obtain⟨t,rfl⟩:=rx;cases y with
  |byt j=>obtain⟨t',rfl⟩:=ry;exact PySem.W.ne_bytes (QS I q (congrArg not zI))
  |_=>exact absurd (show false=true from hs) Bool.false_ne_true
 |_=>cases y<;>exact absurd (show false=true from hs) Bool.false_ne_true
theorem Vn:OpR X (compareOp .Lt) (rI0 fun i j=>.bl (decide (i<j))):=Qb9 fun _ _ _ _ _ _ _ q=>lt_int q
theorem jF:OpR X (compareOp .LtE) (rI0 fun i j=>.bl (decide (i<=j))):=Qb9 fun _ _ _ _ _ _ _ q=>le_int q
theorem Vo:OpR X (compareOp .Gt) (rI0 fun i j=>.bl (decide (j<i))):=Qb9 fun _ _ _ _ _ _ _ q=>gt_int q
theorem yw:OpR X (compareOp .GtE) (rI0 fun i j=>.bl (decide (j<=i))):=Qb9 fun _ _ _ _ _ _ _ q=>ge_int q
theorem Z5:OpR X (compareOp .In) (fun x y H Q=>∃i j,x=.str i/\y=.str j/\Q (.bl (!(Builtin.Str.occurrences j i 0 j.length 1).isEmpty)) H):=by
 intro pins s σ H x y v u Q I rx ry h;obtain⟨i,j,rfl,rfl,q⟩:=h;obtain⟨t,rfl⟩:=rx;obtain⟨t',rfl⟩:=ry;exact in_str (QS I q rfl)
theorem Y0:OpR X (compareOp .NotIn) (fun x y H Q=>∃i j,x=.str i/\y=.str j/\Q (.bl (!(!(Builtin.Str.occurrences j i 0 j.length 1).isEmpty))) H):=by
 intro pins s σ H x y v u Q I rx ry h;obtain⟨i,j,rfl,rfl,q⟩:=h;obtain⟨t,rfl⟩:=rx;obtain⟨t',rfl⟩:=ry;exact notIn_str (QS I q rfl)
theorem Qo(b:Expr){op:CmpOp}(h:op≠ .In:=by decide)(h2:op≠ .NotIn:=by decide):behindInMarks op b=false:=by
 have e1:(op==CmpOp.In)=false:=by cases op<;>first|rfl|exact absurd rfl h
 have e2:(op==CmpOp.NotIn)=false:=by cases op<;>first|rfl|exact absurd rfl h2
 cases b<;>simp[behindInMarks,e1,e2]
theorem Jp{op:CmpOp}{r:R2}(ho:OpR X (compareOp op) r)(ha:PE X a ta)(hb:PE X b tb)(hm:behindInMarks op b=false):PE X (.Compare a [op] [b] pos) (tOp r ta tb):=by
 intro pins s σ H Q I h;exact wpAny_Compare1 (Qct ha hb I h fun v u s2 x y H2 I2 rx ry q=>ho pins s2 σ H2 x y v u Q I2 rx ry q) hm
def jG(t:TE):TT:=fun σ H Q=>t σ H fun x H'=>∃k,x=.bl k/\Q k H'
theorem Qi{op:CmpOp}{r:R2}(ho:OpR X (compareOp op) r)(ha:PE X a ta)(hb:PE X b tb)(hm:behindInMarks op b=false):PT X (.Compare a [op] [b] pos) (jG (tOp r ta tb)):=by
 intro pins s σ H Q I h;refine wpAny_isTrue_Compare1 (thn (ha pins s σ H _ I h) fun v s1⟨x,H1,I1,r1,q1⟩=>thn (hb pins s1 σ H1 _ I1 q1) fun u s2⟨y,H2,I2,r2,q2⟩=>
  thn (ho pins s2 σ H2 x y v u _ I2 r1 r2 q2) fun c s3⟨z,H3,I3,r3,k,e,q3⟩=>?_) hm
 subst e;cases r3;exact wpAny_truthy_bool ⟨H3,I3,q3⟩
def vW(r r':R2)(ta tb tc:TE):TE:=fun σ H Q=>ta σ H fun x H1=>tb σ H1 fun y H2=>r x y H2 fun z H3=>∃k,z=.bl k/\
 (if k=true then tc σ H3 fun w' H4=>r' y w' H4 Q else Q (.bl false) H3)
theorem qK{op op':CmpOp}{r r':R2}(ho:OpR X (compareOp op) r)(ho':OpR X (compareOp op') r')(ha:PE X a ta)(hb:PE X b tb)(hc:PE X c tc)
  (hm:lastMarks [op,op'] [b,c]=false:=by with_unfolding_all rfl):PE X (.Compare a [op,op'] [b,c] pos) (vW r r' ta tb tc):=by
 intro pins s σ H Q I h;refine Compare_chain (thn (ha pins s σ H _ I h) fun v s1⟨x,H1,I1,r1,q1⟩=>chain_link (thn (hb pins s1 σ H1 _ I1 q1) fun u s2⟨y,H2,I2,r2,q2⟩=>
  thn (ho pins s2 σ H2 x y v u _ I2 r1 r2 q2) fun d s3⟨z,H3,I3,r3,k,e,q3⟩=>?_)) hm
 subst e;cases r3;refine wpAny_truthy_bool ?_;cases k with
 |false=>exact ite_ff ⟨.bl false,H3,I3,rfl,q3⟩
 |true=>exact ite_tt (chain_last (thn (hc pins s3 σ H3 _ I3 q3) fun w' s4⟨z',H4,I4,r4,q4⟩=>ho' pins s4 σ H4 y z' u w' Q I4 r2 r4 q4))
theorem wd{op op':CmpOp}{r r':R2}(ho:OpR X (compareOp op) r)(ho':OpR X (compareOp op') r')(ha:PE X a ta)(hb:PE X b tb)(hc:PE X c tc)
  (hm:lastMarks [op,op'] [b,c]=false:=by with_unfolding_all rfl):PT X (.Compare a [op,op'] [b,c] pos) (jG (vW r r' ta tb tc)):=by
 intro pins s σ H Q I h;refine isTrue_chain (thn (ha pins s σ H _ I h) fun v s1⟨x,H1,I1,r1,q1⟩=>test_link (thn (hb pins s1 σ H1 _ I1 q1) fun u s2⟨y,H2,I2,r2,q2⟩=>
  thn (ho pins s2 σ H2 x y v u _ I2 r1 r2 q2) fun d s3⟨z,H3,I3,r3,k,e,q3⟩=>?_)) hm
 subst e;cases r3;refine wpAny_truthy_bool ?_;cases k with
 |false=>
  obtain⟨k',e',q'⟩:=q3;cases e';exact ite_ff ⟨H3,I3,q'⟩
 |true=>
  refine ite_tt (test_last (thn (hc pins s3 σ H3 _ I3 q3) fun w' s4⟨z',H4,I4,r4,q4⟩=>thn (ho' pins s4 σ H4 y z' u w' _ I4 r2 r4 q4) fun d' s5⟨z2,H5,I5,r5,k2,e2,q5⟩=>?_));subst e2;cases r5;exact wpAny_truthy_bool ⟨H5,I5,q5⟩
def Qcv(K:PySem.W.Frag)(x:V)(H:Hp)(k:Bool):Prop:=
 match x with
 | .non=>k=false
 | .bl b=>k=b
 | .int i=>k=(i !=0)
 | .str y=>y.length<=sizeLine/\k=((y.length:Int) !=0)
 | .byt y=>y.size<=sizeLine/\k=((y.size:Int) !=0)
 | .ref p=>(∃xs,SqL K H p xs/\k= !xs.isEmpty)\/(∃xs,SqT K H p xs/\k= !xs.isEmpty)\/∃kvs,H p=some (.dK kvs)/\k= !kvs.isEmpty
 |_=>False
theorem jH{κ:Type}{kvs:List (κ × V)}{vs:List (κ × Value)}(r:KV kvs vs):(!vs.isEmpty)= !kvs.isEmpty:=by
 cases r<;>rfl
theorem Vz{xs:List V}{its:List Value}(r:Vals xs its):(!its.toArray.isEmpty)= !xs.isEmpty:=by
 cases r<;>simp
theorem XE:(sizeLine:Nat)<2^63:=by rw[sizeLine_eq];decide
theorem Qba:QdD X (fun x H Q=>∃k,Qcv X.K x H k/\Q k H):=by
 intro pins s σ H x v Q I rx h;obtain⟨k,e,q⟩:=h;have hl:=XE;have hs:sizeLine=16777216:=sizeLine_eq;cases x with
 |non=>
  cases rx;have e':k=false:=e;subst e';exact truthy_none ⟨H,I,q⟩
 |bl b=>
  cases rx;have e':k=b:=e;subst e';exact wpAny_truthy_bool ⟨H,I,q⟩
 |int i=>
  obtain⟨t,rfl⟩:=rx;have e':k=(i !=0):=e;subst e';exact PySem.P.truthy_int ⟨H,I,q⟩
 |str y=>
  obtain⟨t,rfl⟩:=rx;obtain⟨hy,e'⟩:y.length<=sizeLine/\k=((y.length:Int) !=0):=e;subst e';exact PySem.P.truthy_str (by omega) ⟨H,I.tok _,q⟩
 |byt y=>
  obtain⟨t,rfl⟩:=rx;obtain⟨hy,e'⟩:y.size<=sizeLine/\k=((y.size:Int) !=0):=e;subst e';exact PySem.W.truthy_bytes (by omega) ⟨H,I.tok _,q⟩
 |ref p=>
  cases rx;have e':(∃xs,SqL X.K H p xs/\k= !xs.isEmpty)\/(∃xs,SqT X.K H p xs/\k= !xs.isEmpty)\/∃kvs,H p=some (.dK kvs)/\k= !kvs.isEmpty:=e;rcases e' with⟨xs,hx,e'⟩|⟨xs,hx,e'⟩|⟨kvs,hx,e'⟩
  ·subst e';obtain⟨its,r,pl,hz⟩:=I.list hx;have hlen:=r.length;exact wpAny_truthy_list pl.isList (by simp only[List.size_toArray];omega) ⟨H,I.tok _,by rw[Vz r];exact q⟩
  ·subst e';obtain⟨its,r,pl,hz⟩:=I.tuple hx;have hlen:=r.length;exact truthy_tuple pl (by simp only[List.size_toArray];omega) ⟨H,I.tok _,by rw[Vz r];exact q⟩
  ·subst e';obtain⟨hz,hS,vs,r,m⟩:kvs.length<=sizeLine/\(p==sysModules)=false/\∃vs,KV kvs vs/\s.heap.DictOf (Q4 X.prog X.w) p vs:=I.hok p _ hx;have hlen:kvs.length=vs.length:=Paired.length r;exact wpAny_truthy_dict hS m (by omega) ⟨H,I.tok _,by rw[jH r];exact q⟩
 |_=>exact(show False from e).elim
theorem JT(ha:PE X a ta)(he:∀whole,isTrue a X.env whole=(do let v←whole;standAt a.pos;holding [v] (truthy v))):
  PT X a (fun σ H Q=>ta σ H fun x H'=>∃k,Qcv X.K x H' k/\Q k H'):=by
 intro pins s σ H Q I h;exact isTrue_plain (thn (ha pins s σ H _ I h) fun v s1⟨x,H1,I1,r1,q1⟩=>Qba pins s1 σ H1 x v Q I1 r1 q1) (he _)
theorem vals1{x:V}{us:List Value}(r:Vals [x] us):∃u,us=[u]/\RelV x u:=by
 cases r with
 |cons r1 r2=>cases r2;exact⟨_,rfl,r1⟩
theorem vals2{x y:V}{us:List Value}(r:Vals [x,y] us):∃u w',us=[u,w']/\RelV x u/\RelV y w':=by
 cases r with
 |cons r1 r2=>
  cases r2 with
  |cons r3 r4=>cases r4;exact⟨_,_,rfl,r1,r3⟩
theorem zJ(hc:X.calm=true):X9 X (.builtin "max") (fun xs H Q=>∃i j,xs=[.int i,.int j]/\Q (.int (if j>i then j else i)) H):=by
 intro pins s σ H xs us Q I r h;obtain⟨i,j,rfl,q⟩:=h;obtain⟨u,w',rfl,⟨t,rfl⟩,⟨t',rfl⟩⟩:=vals2 r;refine max_two_ints (I.ok.hd hc) fun h' tk k=>⟨_,H,I.kept k,?_,q⟩
 by_cases hj:j>i
 ·rw[if_pos hj,if_pos hj];exact⟨_,rfl⟩
 ·rw[if_neg hj,if_neg hj];exact⟨_,rfl⟩
theorem zK(hc:X.calm=true):X9 X (.builtin "min") (fun xs H Q=>∃i j,xs=[.int i,.int j]/\Q (.int (if j<i then j else i)) H):=by
 intro pins s σ H xs us Q I r h;obtain⟨i,j,rfl,q⟩:=h;obtain⟨u,w',rfl,⟨t,rfl⟩,⟨t',rfl⟩⟩:=vals2 r;refine min_two_ints (I.ok.hd hc) fun h' tk k=>⟨_,H,I.kept k,?_,q⟩
 by_cases hj:j<i
 ·rw[if_pos hj,if_pos hj];exact⟨_,rfl⟩
 ·rw[if_neg hj,if_neg hj];exact⟨_,rfl⟩
end
structure ObjM(h:Heap)(x dx C:Addr)(mA:Str->Option Value):Prop where
 obj:h.get? x=some (PySem.W.instObj C dx)
 ns:h.Ns1 dx mA
 ne:dx≠x
theorem zL{h:Heap}{dx:Addr}{mA:Str->Option Value}(n:h.Ns1 dx mA):∃od,h.get? dx=some od/\∀name,PySem.W.lookIn name od=some (mA name):=by
 obtain⟨o,es,ep,ho,hd,hk,_,hm⟩:=n;refine⟨o,ho,fun name=>?_⟩;have e:=hm name;unfold nsFind findBy at e;rw[←Array.find?_toList]at e;unfold PySem.W.lookIn;rw[hd];dsimp only
 split
 ·rename_i y q;rw[q]at e;exact congrArg some e
 ·rename_i q;rw[q]at e;have a:es.toList.any (·.refKey)=false:=by
   rw[List.any_eq_false];intro y hy;obtain⟨z,t,hkey⟩:=hk y (Array.mem_toList_iff.mp hy);simp[DictEntry.refKey,hkey]
  have a':¬ es.toList.any (·.refKey)=true:=by rw[a];exact Bool.false_ne_true
  rw[if_neg a'];exact congrArg some e
theorem ObjM.look{h:Heap}{x dx C:Addr}{mA:Str->Option Value}(I:ObjM h x dx C mA):∃od,PySem.W.InstAt h x (PySem.W.instObj C dx) C (some od)/\∀name,PySem.W.lookIn name od=some (mA name):=
 let ⟨od,ho,hl⟩:=zL I.ns
 ⟨od,⟨I.obj,rfl,rfl,ho⟩,hl⟩
section
variable {prog:Program}{w:World}{A:Around}{E:Value->Shared->Prop}{s:Shared}{K:PySem.W.Frag}{x dx C f:Addr}{mA:Str->Option Value}{name:Str}{v:Value}
end
theorem qG.some_of{v:V}{o:Option Value}(r:qG (some v) o):∃u,o=some u/\RelV v u:=by
 cases o with
 |none=>exact(show False from r).elim
 |some u=>exact⟨u,rfl,r⟩
section
variable {P:Program}{w:World}{H H':Hp}{h h':Heap}{a C dx:Addr}{fs fs':List (Str × V)}
theorem yx(hok:HOk P w H h)(e:H a=some (.ins C dx fs)):∃mA,ObjM h a dx C mA/\(∀f,qG (fs.lookup f) (mA f))/\PySem.Within mA (fs.map (·.1))/\fs.length<=1000/\H dx=some (.own a):=by
 obtain⟨d,z,ne,ob,mA,n,r,q⟩:=(show Jd P w H h a (.ins C dx fs)from hok a _ e);exact⟨mA,⟨ob,n,ne⟩,r,q,z,d⟩
end
structure Cls(K:PySem.W.Frag)(C:Addr):Prop where
 pg:PySem.W.plainGet K C Str.empty=true
 hd:PySem.W.hasDictIn K C=true
 po:PySem.W.plainOver K C=true
 sa:PySem.W.findIn K (.ref C) "__setattr__"=some (some (.builtin "object.__setattr__"))
theorem Cls.get{K:PySem.W.Frag}{C:Addr}(c:Cls K C)(f:Str):PySem.W.plainGet K C f=true:=c.pg
section
variable {X:Cx}{pins:List (Addr × Obj)}{σ:St}{H:Hp}{s:Shared}{a C dx:Addr}{fs:List (Str × V)}{f:Str}{v:V}{A:Around}{E:Value->Shared->Prop}
end
section
variable {X:Cx}{o e value:Expr}{f:Str}{pos pos' tpos:Pos}{ta tv:TE}
end
section
variable {X:Cx}{pins:List (Addr × Obj)}{σ:St}{H:Hp}{s:Shared}{A:Around}{E:Value->Shared->Prop}{Q:Value->Shared->Prop}{c:Value}{b:Bool}
inductive TyOf (K:PySem.W.Frag) (H:Hp):V->Value->Prop where
 |non:TyOf K H .non (.type "NoneType")
 |bl (x:Bool):TyOf K H (.bl x) (.type "bool")
 |int (i:Int):TyOf K H (.int i) (.type "int")
 |str (x:Str):TyOf K H (.str x) (.type "str")
 |flt (x:UInt64):TyOf K H (.flt x) (.type "float")
 |lst {a:Addr} {xs:List V} (e:H a=some (.lst xs)):TyOf K H (.ref a) (.type "list")
 |frz {a:Addr} {o:Obj} {xs:List V} (e:H a=some (.frz o (.lst xs))):TyOf K H (.ref a) (.type "list")
 |tup {a:Addr} {xs:List V} (e:H a=some (.tup xs)):TyOf K H (.ref a) (.type "tuple")
 |dK {a:Addr} {kvs:List (Key × V)} (e:H a=some (.dK kvs)):TyOf K H (.ref a) (.type "dict")
 |dT {a:Addr} {kvs:List (List Key × V)} (e:H a=some (.dT kvs)):TyOf K H (.ref a) (.type "dict")
 |ins {a C dx:Addr} {fs:List (Str × V)} (e:H a=some (.ins C dx fs)) (cl:Cls K C) (ha:PySem.W.findIn K (.ref C) "__class__"=some (some (.builtin "object.__class__")))
   (hn:PySem.W.specialIn K (.builtin "object.__class__") "__get__"=some (some (.builtin "getset_descriptor.__get__"))) (htk:PySem.W.takesIn K (.builtin "object.__class__")=some true)
   (hm:PySem.W.mroIn K C (.type "object")=some true):TyOf K H (.ref a) (.ref C)
theorem zM{x:V}{u t:Value}(I:Inv X pins σ H s)(rx:RelV x u)(ty:TyOf X.K H x t)(e:PySem.W.kitOne X.K t c=some b)(h:∀tk,Q (.bool b) {s with toks:=tk}):
  wpAny (model X.prog X.w) A (call (.builtin "isinstance") [u,c]) Q E s:=by
 cases ty with
 |non=>cases(show u=Value.none from rx);exact PySem.W.kia_one PySem.W.kitx_none I.kIn True.intro e (fun z=>nomatch z) h
 |bl y=>cases(show u=Value.bool y from rx);exact PySem.W.kia_one PySem.W.kitx_bool I.kIn True.intro e (fun z=>nomatch z) h
 |int i=>obtain⟨t,q⟩:=(show ∃t,u=Value.int i t from rx);cases q;exact PySem.W.kia_one PySem.W.kitx_int I.kIn True.intro e (fun z=>nomatch z) h
 |str y=>obtain⟨t,q⟩:=(show ∃t,u=Value.str y t from rx);cases q;exact PySem.W.kia_one PySem.W.kitx_str I.kIn True.intro e (fun z=>nomatch z) h
 |flt y=>obtain⟨t,q⟩:=(show ∃t,u=Value.float y t from rx);cases q;exact PySem.W.kia_one PySem.W.kitx_float I.kIn True.intro e (fun z=>nomatch z) h
 |@lst a xs ea=>
  cases(show u=Value.ref a from rx);obtain⟨_,_,n,_,h1⟩:=(show Jd X.prog X.w H s.heap a (.lst xs)from I.hok a _ ea);exact PySem.W.kia_one PySem.W.kitx_list I.kIn ⟨_,h1,rfl⟩ e (fun z=>nomatch z) h
 |@frz a ob xs ea=>
  cases(show u=Value.ref a from rx);obtain⟨_,_,_,n,_,h1⟩:=(show Jd X.prog X.w H s.heap a (.frz ob (.lst xs))from I.hok a _ ea);exact PySem.W.kia_one PySem.W.kitx_list I.kIn ⟨_,h1,rfl⟩ e (fun z=>nomatch z) h
 |@tup a xs ea=>
  cases(show u=Value.ref a from rx);obtain⟨_,_,_,p⟩:=(show Jd X.prog X.w H s.heap a (.tup xs)from I.hok a _ ea);obtain⟨o,h1,h2,_⟩:=p;exact PySem.W.kia_one PySem.W.kitx_tuple I.kIn ⟨o,h1,h2⟩ e (fun z=>nomatch z) h
 |@dK a kvs ea=>
  cases(show u=Value.ref a from rx);obtain⟨_,_,vs,_,p⟩:=(show Jd X.prog X.w H s.heap a (.dK kvs)from I.hok a _ ea);obtain⟨o,es,ep,h1,h2,_⟩:=p;exact PySem.W.kia_one PySem.W.kitx_dict I.kIn ⟨o,h1,h2.1⟩ e (fun z=>nomatch z) h
 |@dT a kvs ea=>
  cases(show u=Value.ref a from rx);obtain⟨_,_,xs,_,o,es,ep,h1,h2,_⟩:=(show Jd X.prog X.w H s.heap a (.dT kvs)from I.hok a _ ea);exact PySem.W.kia_one PySem.W.kitx_dict I.kIn ⟨o,h1,h2.1⟩ e (fun z=>nomatch z) h
 |@ins a C dx fs ea cl ha hn htk hm=>
  cases(show u=Value.ref a from rx);obtain⟨mA,O,_⟩:=yx I.hok ea;obtain⟨od,J,_⟩:=O.look;exact PySem.W.kia_one (PySem.W.kitx_own (cl.get _) cl.hd ha hn htk hm) I.kIn J e (fun z=>nomatch z) h
end
structure Room(k:Nat)(A:Around):Prop where
 hd:A.handled=none
 dp:A.depth+3*k+5<recursionLimit
 un:A.units+16*k+200<cLine
theorem Room.mono{j k:Nat}{A:Around}(r:Room k A)(h:j<=k):Room j A:=⟨r.hd,by have:=r.dp;omega,by have:=r.un;omega⟩
theorem Room.deeper{k:Nat}{A:Around}(r:Room (k+1) A)(env:Env):Room k (A.deeper env):=
 ⟨r.hd,by have:=r.dp;show A.depth+1+3*k+5<_;omega,by have:=r.un;show A.units+3+16*k+200<_;omega⟩
theorem Room.depth{k:Nat}{A:Around}(r:Room k A):A.depth<recursionLimit:=by have:=r.dp;omega
theorem Room.units{k:Nat}{A:Around}(r:Room k A):A.units+64<cLine:=by have:=r.un;omega
def Wq:TA:=fun _ H Q=>Q [] H
def QX(ta:TE)(tr:TA):TA:=fun σ H Q=>ta σ H fun x H1=>tr σ H1 fun xs H2=>Q (x::xs) H2
section
variable {X:Cx}{e:Expr}{es:List Expr}{te:TE}{t:TA}{pos:Pos}
theorem Qb:PA X [] Wq:=fun _ _ _ _ H Q I h=>Calls.spliced_nil ⟨[],H,I,.nil,h⟩
theorem Qa(ha:PE X e te)(hr:PA X es t)(hs:starEach (e::es) X.env=(false,eval e X.env)::starEach es X.env:=by rfl):PA X (e::es) (QX te t):=by
 intro pos pins s σ H Q I h;rw[hs];show wpAny _ _ (spliced ((false,eval e X.env)::backTo pos (starEach es X.env))) _ _ s;refine Calls.spliced_cons (thn (ha pins s σ H _ I h) fun u s1⟨x,H1,I1,r1,q1⟩=>?_);exact thn (hr pos pins s1 σ H1 _ I1 q1) fun us s2⟨xs,H2,I2,r2,q2⟩=>⟨x::xs,H2,I2,.cons r1 r2,q2⟩
def QaU(t:TA):TE:=fun σ H Q=>t σ H fun xs H1=>xs.length<=sizeLine/\∀p,H1 p=none->Q (.ref p) (upd H1 p (.tup xs))
def QaV(t:TA):TE:=fun σ H Q=>t σ H fun xs H1=>xs.length<=sizeLine/\∀p,H1 p=none->Q (.ref p) (upd H1 p (.lst xs))
theorem Qz{x1}(h:PA X es t):PE X (.Tuple es x1 pos) (QaU t):=by
 intro pins s σ H Q I hq;refine wpAny_Tuple_spliced (thn (h pos pins s σ H _ I hq) fun us s1⟨xs,H1,I1,r,z,q⟩=>⟨by rw[←r.length];exact z,?_⟩);have hf:H1 s1.heap.objs.size=none:=I1.hok.fresh (Nat.le_refl _);refine⟨.ref s1.heap.objs.size,upd H1 s1.heap.objs.size (.tup xs),I1.laid (t':=s1.toks) (fun b u e=>Heap.get?_push_of_some _ e) (Nat.le_refl _) ?_,rfl,q _ hf⟩;exact⟨z,us,r,⟨_,Heap.get?_push_size _ rfl,rfl,_,rfl,rfl⟩⟩
theorem Zt(h:PA X es t):PE X (.List es pos) (QaV t):=by
 intro pins s σ H Q I hq;refine wpAny_List_spliced (thn (h pos pins s σ H _ I hq) fun us s1⟨xs,H1,I1,r,z,q⟩=>⟨by rw[←r.length];exact z,?_⟩);have hf:H1 s1.heap.objs.size=none:=I1.hok.fresh (Nat.le_refl _);refine⟨.ref s1.heap.objs.size,upd H1 s1.heap.objs.size (.lst xs),I1.laid (t':=s1.toks) (fun b u e=>Heap.get?_push_of_some _ e) (Nat.le_refl _) ?_,rfl,q _ hf⟩;exact⟨z,us,0,r,Heap.get?_push_size _ rfl⟩
end
abbrev Sp:=List V->Hp->VK->XK->Prop
abbrev CXT:=List Env->Hp->Shared->XK->Value->Shared->Prop
structure Env0(P:Program)(w:World)(K:PySem.W.Frag)(mg:Str->Option Value)(base:Heap)(A:Around)(outer:List Env)(s:Shared)(H:Hp):Prop where
 frames:A.frames=some outer
 mod:Mod K mg base
 bs:∀b o,base.get? b=some o->s.heap.get? b=some o/\H b=none
 bsz:base.objs.size<=s.heap.objs.size
 UJ:s.heap.FunFrames base outer
 frf:∀b∈frs outer,H b=none
 hok:HOk P w H s.heap
 bare:AllBare s.gens
def CE(outer:List Env)(P:Program)(w:World)(H:Hp)(s:Shared)(Q:VK)(u:Value)(s':Shared):Prop:=
 ∃v H',s'.os=s.os/\AllBare s'.gens/\Un (frs outer) [] H H' s.heap s'.heap/\HOk P w H' s'.heap/\RelV v u/\Q v H'
def CR(CX:CXT)(outer:List Env)(P:Program)(w:World)(H:Hp)(s:Shared)(Q:VK)(E:XK)(r:Result)(s':Shared):Prop:=
 match r with
 | .ok (.ret u)=>CE outer P w H s Q u s'
 | .ok _=>False
 | .error e=>CX outer H s E e s'
structure FnOk(P:Program)(w:World)(K:PySem.W.Frag)(mg:Str->Option Value)(base:Heap)(CX:CXT)(k:Nat)(f:Addr)(fd:FuncData)(ps:List Str)(sp:Sp):Prop where
 len:∀vs H Q E,sp vs H Q E->vs.length=ps.length
 run:∀(A:Around)(outer:List Env)(s:Shared)(H:Hp)(args:Args)(us:List Value)(vs:List V)(Q:VK)(E:XK),Room k A->Env0 P w K mg base A outer s H->BindsTo s fd args (ps.zip us)->Vals vs us->sp vs H Q E->
  codeAny (model P w) A (.call (.ref f) args) (CR CX outer P w H s Q E) s
section
variable {X:Cx}{pins:List (Addr × Obj)}{σ:St}{H:Hp}{s s':Shared}
theorem Inv.Qca(I:Inv X pins σ H s):Env0 X.prog X.w X.K X.mg X.base X.A X.stack s H:=
 ⟨I.ok.frames,I.ok.mod,I.bs,Nat.le_trans I.ok.bsz I.sz,I.stack,I.Z1,I.hok,I.bare⟩
theorem Inv.after{Q:VK}{u:Value}(I:Inv X pins σ H s)(h:CE X.stack X.prog X.w H s Q u s'):EP X pins σ Q u s':=by
 obtain⟨v,H',os,bare,un,hok,r,q⟩:=h;obtain⟨hh,g,d,t,os'⟩:=s';obtain rfl:os'=s.os:=os;exact⟨v,H',I.call (h':=hh) (g':=g) (d':=d) (t':=t) (ch:=[]) un hok bare (fun b z=>absurd z (by simp)),r,q⟩
end
def WI(sp:Sp)(dvs:List V)(E:XK)(t:TA):TE:=fun σ H Q=>t σ H fun vs H1=>sp (vs++dvs) H1 Q E
def Binds(K:PySem.W.Frag)(fd:FuncData)(ps:List Str)(ds:List Value):Prop:=
 ∀(s:Shared)(us:List Value),K.In s.heap->(us++ds).length=ps.length->BindsTo s fd ⟨us,[]⟩ (ps.zip (us++ds))
theorem Binds.all{K:PySem.W.Frag}{fd:FuncData}{ps:List Str}(h:∀us:List Value,us.length=ps.length->bindArgs fd ⟨us,[]⟩=pure (ps.zip us)):Binds K fd ps []:=fun s us _ hl=>by
 rw[List.append_nil]at hl ⊢;exact .of_eq (h us hl)
def Passes(CX:CXT)(X:Cx)(E:XK):Prop:=∀(pins:List (Addr × Obj))(σ:St)(H:Hp)(s:Shared)(e:Value)(s':Shared),Inv X pins σ H s->CX X.stack H s E e s'->X.xe e s'
section
variable {X:Cx}{CX:CXT}{k:Nat}{f C:Addr}{fd:FuncData}{ps:List Str}{sp:Sp}{dvs:List V}{ds:List Value}{E:XK}{x m:Str}{p pos apos:Pos}{e o:Expr}{es:List Expr}{ta:TE}{t:TA}
theorem vX{pins:List (Addr × Obj)}{σ:St}{H:Hp}{s:Shared}{Q:VK}{us:List Value}{vs:List V}(F:FnOk X.prog X.w X.K X.mg X.base CX k f fd ps sp)(hr:Room k X.A)(hb:Binds X.K fd ps ds)(hd:Vals dvs ds)(hx:Passes CX X E)
  (I:Inv X pins σ H s) (r:Vals vs us) (h:sp (vs++dvs) H Q E):wpAny (model X.prog X.w) X.A (call (.ref f) us) (EP X pins σ Q) X.xe s:=by
 have r2:Vals (vs++dvs) (us++ds):=r.append hd;have hl:(us++ds).length=ps.length:=by rw[←r2.length];exact F.len _ _ _ _ h
 refine wpAny_call (codeAny_mono (F.run X.A X.stack s H ⟨us,[]⟩ (us++ds) (vs++dvs) Q E hr I.Qca (hb s us I.kIn hl) r2 h) fun r s' hq=>?_);cases r with
 |error e=>exact hx pins σ H s e s' I hq
 |ok fl=>
  cases fl with
  |ret u=>exact I.after hq
  |next=>exact False.elim hq
  |brk=>exact False.elim hq
  |cont=>exact False.elim hq
theorem yz(F:FnOk X.prog X.w X.K X.mg X.base CX k f fd ps sp)(hr:Room k X.A)(hg:Gl X x)(hm:X.mg x=some (.ref f))(hk:PySem.W.keepIn X.K (.ref f)=true)(hb:Binds X.K fd ps ds)(hd:Vals dvs ds)(hx:Passes CX X E)
  (ha:PA X (e::es) t) (hdb:(x==("__debug__":Str))=false:=by decide) (he:starEach (e::es) X.env=(false,eval e X.env)::starEach es X.env:=by rfl) (hpl:(backTo pos (starEach es X.env)).any (·.1)=false:=by rfl):
  PE X (.Call (.Name x p) (e::es) [] pos) (WI sp dvs E t):=by
 intro pins s σ H Q I h;refine wpAny_Call_Name_kw (Z2 I hg hm ?_ hdb);refine PySem.W.callWith_K (h₀:=X.base) I.ok.mod.kin hk (thn (ha pos pins s σ H _ I h) fun us s1⟨vs,H1,I1,r,q⟩=>⟨I1.kIn,?_⟩) he hpl;exact vX F hr hb hd hx I1 r q
theorem we(F:FnOk X.prog X.w X.K X.mg X.base CX k f fd ps sp)(hr:Room k X.A)(hg:Gl X x)(hm:X.mg x=some (.ref f))(hk:PySem.W.keepIn X.K (.ref f)=true)(hb:Binds X.K fd ps ds)(hd:Vals dvs ds)(hx:Passes CX X E)
  (hdb:(x==("__debug__":Str))=false:=by decide):PE X (.Call (.Name x p) [] [] pos) (WI sp dvs E Wq):=by
 intro pins s σ H Q I h;refine wpAny_Call_Name_kw (Z2 I hg hm ?_ hdb);exact PySem.W.callWith_K0 I.kIn hk (vX (us:=[]) F hr hb hd hx I .nil h)
end
def PK(X:Cx)(kws:List Keyword)(t:TA):Prop:=
 ∀(pos:Pos)(pins:List (Addr × Obj))(s:Shared)(σ:St)(H:Hp)(Q:List V->Hp->Prop),Inv X pins σ H s->t σ H Q->wpAny (model X.prog X.w) X.A (evalAll ((backToKw pos (keywordEach kws X.env)).map (·.2))) (AP X pins σ Q) X.xe s
section
variable {X:Cx}{CX:CXT}{k:Nat}{f C:Addr}{fd:FuncData}{ps ks:List Str}{sp:Sp}{E:XK}{x m:Str}{p pos apos kpos:Pos}{e o:Expr}{es:List Expr}{kws:List Keyword}{te ta:TE}{t tk:TA}{nm:Option Str}
theorem vY:PK X [] Wq:=fun _ _ _ _ H Q I h=>wpAny_evalAll_nil ⟨[],H,I,.nil,h⟩
theorem zN(ha:PE X e te)(hr:PK X kws t):PK X (⟨nm,e,kpos⟩::kws) (QX te t):=by
 intro pos pins s σ H Q I h;show wpAny _ _ (evalAll ((do let v←eval e X.env;standAt pos;pure v)::(backToKw pos (keywordEach kws X.env)).map (·.2))) _ _ s;refine wpAny_evalAll_cons (wpAny_bind (thn (ha pins s σ H _ I h) fun u s1⟨x,H1,I1,r1,q1⟩=>wpAny_bind (wpAny_standAt (wpAny_pure ?_))));exact thn (hr pos pins s1 σ H1 _ I1 q1) fun us s2⟨xs,H2,I2,r2,q2⟩=>⟨x::xs,H2,I2,.cons r1 r2,q2⟩
structure KBinds(K:PySem.W.Frag)(fd:FuncData)(ps ks:List Str)(g:List Value->List Value->List Value)(gV:List V->List V->List V):Prop where
 to:∀(s:Shared)(us ws:List Value),K.In s.heap->(g us ws).length=ps.length->BindsTo s fd ⟨us,ks.zip ws⟩ (ps.zip (g us ws))
 rel:∀{vs:List V}{us:List Value}{zs:List V}{ws:List Value},Vals vs us->Vals zs ws->Vals (gV vs zs) (g us ws)
def vZ(sp:Sp)(gV:List V->List V->List V)(E:XK)(t tk:TA):TE:=fun σ H Q=>t σ H fun vs H1=>tk σ H1 fun zs H2=>sp (gV vs zs) H2 Q E
variable {g:List Value->List Value->List Value}{gV:List V->List V->List V}
theorem yA{pins:List (Addr × Obj)}{σ:St}{H:Hp}{s:Shared}{Q:VK}{us ws:List Value}{vs zs:List V}(F:FnOk X.prog X.w X.K X.mg X.base CX k f fd ps sp)(hr:Room k X.A)(hb:KBinds X.K fd ps ks g gV)(hx:Passes CX X E)
  (I:Inv X pins σ H s) (r:Vals vs us) (rz:Vals zs ws) (h:sp (gV vs zs) H Q E):wpAny (model X.prog X.w) X.A (call (.ref f) us (ks.zip ws)) (EP X pins σ Q) X.xe s:=by
 have r2:=hb.rel r rz;have hl:(g us ws).length=ps.length:=by rw[←r2.length];exact F.len _ _ _ _ h
 refine wpAny_call (codeAny_mono (F.run X.A X.stack s H ⟨us,ks.zip ws⟩ (g us ws) (gV vs zs) Q E hr I.Qca (hb.to s us ws I.kIn hl) r2 h) fun r s' hq=>?_);cases r with
 |error e=>exact hx pins σ H s e s' I hq
 |ok fl=>
  cases fl with
  |ret u=>exact I.after hq
  |next=>exact False.elim hq
  |brk=>exact False.elim hq
  |cont=>exact False.elim hq
theorem wf(F:FnOk X.prog X.w X.K X.mg X.base CX k f fd ps sp)(hr:Room k X.A)(hg:Gl X x)(hm:X.mg x=some (.ref f))(hk:PySem.W.keepIn X.K (.ref f)=true)(hb:KBinds X.K fd ps ks g gV)(hx:Passes CX X E)
  (ha:PA X (e::es) t) (hkw:PK X kws tk) (hall:(backToKw pos (keywordEach kws X.env)).all (·.1.isSome)=true:=by rfl) (hks:(backToKw pos (keywordEach kws X.env)).filterMap (·.1)=ks:=by rfl)
  (hdb:(x==("__debug__":Str))=false:=by decide) (he:starEach (e::es) X.env=(false,eval e X.env)::starEach es X.env:=by rfl)
  (hpl:((backTo pos (starEach (e::es) X.env)).any (·.1)||(backToKw pos (keywordEach kws X.env)).any (·.1.isNone))=false:=by rfl):
  PE X (.Call (.Name x p) (e::es) kws pos) (vZ sp gV E t tk):=by
 intro pins s σ H Q I h;refine wpAny_Call_Name_kw (Z2 I hg hm ?_ hdb);refine PySem.W.callWith_KW (h₀:=X.base) I.ok.mod.kin hk hall (thn (ha pos pins s σ H _ I h) fun us s1⟨vs,H1,I1,r,q⟩=>?_) hpl he;refine thn (hkw pos pins s1 σ H1 _ I1 q) fun ws s2⟨zs,H2,I2,rz,q2⟩=>⟨I2.kIn,?_⟩;rw[hks];exact yA F hr hb hx I2 r rz q2
end
structure FnScope(N P:List Str)(sc:Scope):Prop where
 kind:sc.kind=.function
 co:sc.isCoroutine=false
 gen:sc.isGenerator=false
 nd:N.Nodup
 pre:N.take P.length=P
 par:∀x∈P,sc.names.lookup x=some .local\/sc.names.lookup x=some .cell
 nofree:∀y∈sc.names,y.2≠ .free
theorem Y1{kindOf:Str->Option NameKind}{x:Str}:∀{binds:List (Str × Value)}{m:Str->Option Value},(∀v,(x,v)∉binds)->bindL kindOf binds m x=m x
 |[],_,_=>rfl
 |(n,v)::r,m,h=>by
  unfold bindL;rw[Y1 fun w hw=>h w (List.mem_cons_of_mem _ hw)]
  split
  ·have:x≠n:=by rintro rfl;exact h v List.mem_cons_self
   simp[this]
  ·rfl
theorem Y2{kindOf:Str->Option NameKind}{x:Str}:∀{binds:List (Str × Value)}{m:Str->Option Value},(∀v,(x,v)∉binds)->bindC kindOf binds m x=m x
 |[],_,_=>rfl
 |(n,v)::r,m,h=>by
  unfold bindC;rw[Y2 fun w hw=>h w (List.mem_cons_of_mem _ hw)]
  split
  ·rfl
  ·have:x≠n:=by rintro rfl;exact h v List.mem_cons_self
   simp[this]
theorem Y3{kindOf:Str->Option NameKind}{x:Str}{v:Value}:∀{P:List Str}{vs:List Value}{i:Nat}{m:Str->Option Value},P.Nodup->P[i]? =some x->vs[i]? =some v->kindOf x=some .local->
  bindL kindOf (P.zip vs) m x=some v
 |[],_,_,_,_,h,_,_=>by simp at h
 |_::_,[],_,_,_,_,h,_=>by simp at h
 |p::P,w::vs,0,m,nd,h1,h2,hk=>by
  simp at h1 h2;subst h1;subst h2;show bindL kindOf ((p,w)::P.zip vs) m p=_;unfold bindL;rw[Y1 fun v hv=>(List.nodup_cons.mp nd).1 (List.of_mem_zip hv).1,if_pos hk];simp
 |p::P,w::vs,i+1,m,nd,h1,h2,hk=>by
  show bindL kindOf ((p,w)::P.zip vs) m x=_;unfold bindL;exact Y3 (i:=i) (List.nodup_cons.mp nd).2 (by simpa using h1) (by simpa using h2) hk
theorem Y4{kindOf:Str->Option NameKind}{x:Str}{v:Value}:∀{P:List Str}{vs:List Value}{i:Nat}{m:Str->Option Value},P.Nodup->P[i]? =some x->vs[i]? =some v->kindOf x≠some .local->
  bindC kindOf (P.zip vs) m x=some v
 |[],_,_,_,_,h,_,_=>by simp at h
 |_::_,[],_,_,_,_,h,_=>by simp at h
 |p::P,w::vs,0,m,nd,h1,h2,hk=>by
  simp at h1 h2;subst h1;subst h2;show bindC kindOf ((p,w)::P.zip vs) m p=_;unfold bindC;rw[Y2 fun v hv=>(List.nodup_cons.mp nd).1 (List.of_mem_zip hv).1,if_neg hk];simp
 |p::P,w::vs,i+1,m,nd,h1,h2,hk=>by
  show bindC kindOf ((p,w)::P.zip vs) m x=_;unfold bindC;exact Y4 (i:=i) (List.nodup_cons.mp nd).2 (by simpa using h1) (by simpa using h2) hk
def start(N:List Str)(vs:List V):St:=vs.map some++List.replicate (N.length-vs.length) none
def Wm(CX:CXT)(P:Program)(w:World)(K:PySem.W.Frag)(mg:Str->Option Value)(base:Heap)(N:List Str)(qual:Str)(scope:Scope)(f:Addr)(cd:Value)(A:Around)(outer:List Env)(s:Shared)(H:Hp)(E:XK):Cx where
 prog:=P
 w:=w
 K:=K
 mg:=mg
 base:=base
 A:=A.deeper (envOfC qual scope s.heap.objs.size f cd)
 N:=N
 s₀:=s
 H₀:=H
 env:=envOfC qual scope s.heap.objs.size f cd
 outer:=outer
 stack:=envOfC qual scope s.heap.objs.size f cd::outer
 ex:=[]
 calm:=true
 fn:=fun _=>true
 pn:=[]
 xe:=fun e s'=>wpAny (model P w) (A.deeper (envOfC qual scope s.heap.objs.size f cd)) (leaving (envOfC qual scope s.heap.objs.size f cd) e) (fun _ s''=>CX outer H s E e s'') (fun e' s''=>CX outer H s E e' s'') s'
theorem Wr{sc:Scope}{n:Nat}{x:Str}(h:sc.names.lookup x=some .cell):∃c,(cellsFrom n sc.names []).lookup x=some c:=by
 have q:=PySem.W.cellsFrom_some sc.names n [] (.inl h);exact Option.isSome_iff_exists.mp q
theorem Y5{CX:CXT}{P:Program}{w:World}{K:PySem.W.Frag}{mg:Str->Option Value}{base:Heap}{N ps:List Str}{qual:Str}{scope:Scope}{f:Addr}{cd:Value}{A:Around}{outer:List Env}{s s1:Shared}{H:Hp}{E:XK}{us:List Value}{vs:List V}
  (S:FnScope N ps scope) (hd:A.handled=none) (e0:Env0 P w K mg base A outer s H) (hl:vs.length=ps.length) (r:Vals vs us)
  (x:InCallC s s.heap.objs.size (bindL (envOfC qual scope s.heap.objs.size f cd).kindOf (ps.zip us) fun _=>none) (cellsFrom (s.heap.objs.size+1) scope.names []) (bindC (envOfC qual scope s.heap.objs.size f cd).kindOf (ps.zip us) fun _=>none) s1):
  Inv (Wm CX P w K mg base N qual scope f cd A outer s H E) [] (start N vs) H s1:=by
 have hpl:ps.length<=N.length:=by have:=congrArg List.length S.pre;rw[List.length_take]at this;omega
 obtain⟨h1,tk,rfl,hk⟩:=x.done;have noA:∀b:Addr,b∉(Wm CX P w K mg base N qual scope f cd A outer s H E).ex:=fun b z=>absurd (show b∈([]:List Addr)from z) (by simp);refine⟨⟨e0.mod,S.kind,rfl,rfl,Nat.le_refl _,fun y z c h1 h2=>?_,fun y hy=>?_,fun y c _ h=>?_,fun _=>hd,Around.frames_deeper e0.frames,.inr ⟨rfl,rfl⟩,fun b z=>absurd z (noA b),e0.bs,e0.bsz,fun b _ _=>noA b,fun b z=>absurd z (noA b),e0.UJ,e0.frf⟩,
  rfl,e0.bare,Un.kept hk,⟨_,x.toInCall.ns,fun i y v h1 h2 h3=>?_⟩,fun y c h=>⟨_,x.cell y c h⟩,e0.hok.fresh (Nat.le_refl _),fun y c h=>?_,fun p hp=>absurd (show p∈([]:List (Addr × Obj))from hp) (by simp),e0.hok.kept hk,?_⟩
 ·exact name_of_addr x.apart (PySem.mem_of_lookup h1) (PySem.mem_of_lookup h2)
 ·have hy:scope.names.lookup y=some .cell\/scope.names.lookup y=some .free:=hy;rcases hy with hy|hy
  ·exact Wr hy
  ·exact absurd rfl (S.nofree _ (PySem.mem_of_lookup hy))
 ·exact Nat.le_of_lt (x.above y c (PySem.mem_of_lookup h))
 ·have hi:i<vs.length:=by
   unfold start at h2
   by_cases hi:i<vs.length
   ·exact hi
   ·rw[List.getElem?_append_right (by simpa using hi)]at h2;rw[List.getElem?_replicate]at h2
    split at h2<;>cases h2
  have ha:vs[i]? =some v:=by
   unfold start at h2;rw[List.getElem?_append_left (by simpa using hi),List.getElem?_map]at h2;cases e:vs[i]? with
   |none=>rw[e]at h2;cases h2
   |some a=>rw[e]at h2;cases h2;rfl
  obtain⟨u,hu,rv⟩:=r.get ha;have hp:ps[i]? =some y:=by
   rw[←S.pre,List.getElem?_take_of_lt (by omega)];exact h1
  have ndP:ps.Nodup:=by rw[←S.pre];exact S.nd.sublist (List.take_sublist _ _)
  refine⟨u,rv,?_⟩;rcases S.par y (List.mem_of_getElem? hp)with k|k
  ·exact .inl ⟨k,Y3 ndP hp hu k⟩
  ·obtain⟨c,e⟩:=Wr (n:=s.heap.objs.size+1) k;refine .inr ⟨.inl k,c,e,?_⟩;have q:=x.cell y c e;rw[Y4 ndP hp hu (by show scope.names.lookup y≠_;rw[k];decide)]at q;exact q
 ·exact e0.hok.fresh (Nat.le_of_lt (x.above y c (PySem.mem_of_lookup h)))
 ·unfold start;show _=N.length;rw[List.length_append,List.length_map,List.length_replicate];omega
theorem Qbb{CX:CXT}{P:Program}{w:World}{K:PySem.W.Frag}{mg:Str->Option Value}{base:Heap}{k:Nat}{f:Addr}{name qual:Str}{params:Arguments}{body:List Stmt}{scope:Scope}{dV kV doc pm cdv ct oc:Value}{an od:Option Addr}
  {osl:Array (Option Value)} {N ps:List Str} {sp:Sp} (lk:K.lookup f=some ⟨oc,od,.func (PySem.W.fnOf name qual params body scope dV kV doc pm an cdv ct),osl⟩) (hcd:PySem.W.codeIn K cdv qual=true) (S:FnScope N ps scope)
  (len:∀vs H Q E,sp vs H Q E->vs.length=ps.length)
  (hbody:∀(A:Around)(outer:List Env)(s:Shared)(H:Hp)(vs:List V)(Q:VK)(E:XK),Room k (A.deeper (envOfC qual scope s.heap.objs.size f cdv))->sp vs H Q E->
   ∃t,PSs (Wm CX P w K mg base N qual scope f cdv A outer s H E) body t/\t {nx:=fun _ H'=>Q .non H',rt:=Q} (start N vs) H):
  FnOk P w K mg base CX (k+1) f (PySem.W.fnOf name qual params body scope dV kV doc pm an cdv ct) ps sp:=by
 refine⟨len,fun A outer s H args us vs Q E hr e0 hb r hsp=>?_⟩;have hl:=len _ _ _ _ hsp;have KX:K.In s.heap:=e0.mod.kin.keeps fun b o e=>(e0.bs b o e).1;have lim:s.heap.NoLimit:=e0.mod.nolimit.keeps fun b o e=>(e0.bs b o e).1;have hkind:∀y∈ps.zip us,scope.names.lookup y.1=some .local\/(scope.names.lookup y.1=some .cell/\((cellsFrom (s.heap.objs.size+1) scope.names []).lookup y.1).isSome=true):=fun⟨n,v⟩ hy=>by
  rcases S.par n (List.of_mem_zip hy).1 with q|q
  ·exact .inl q
  ·exact .inr ⟨q,PySem.W.cellsFrom_some _ _ _ (.inl q)⟩
 refine codeAny_call_function hr.depth (KX _ _ lk) rfl S.co S.gen rfl (PySem.W.codeRec_of KX hcd) (hb _ _ _ _ ?_);refine wpAny_newFunctionEnv_cells S.kind hkind fun env he s1 x=>?_;subst he;refine⟨lim.keeps x.toInCall.keep,codeAny_func ?_⟩;obtain⟨t,ht,hq⟩:=hbody A outer s H vs Q E (hr.deeper _) hsp;have I:Inv (Wm CX P w K mg base N qual scope f cdv A outer s H E) [] (start N vs) H s1:=Y5 S hr.hd e0 hl r x;refine wpAny_mono (ht [] s1 (start N vs) H _ I hq) (fun fl s' hs=>?_) fun e s' hs=>hs;have fin:∀{σ':St}{H':Hp}{v:V}{u:Value},Inv (Wm CX P w K mg base N qual scope f cdv A outer s H E) [] σ' H' s'->RelV v u->Q v H'->CE outer P w H s Q u s':=
  fun{σ' H' v u} J rv q=>⟨v,H',J.os,J.bare,J.base,J.hok,rv,q⟩
 cases fl with
 |ret u=>
  obtain⟨v,σ',H',J,rv,q⟩:=hs;exact fin J rv q
 |next=>
  obtain⟨σ',H',J,q⟩:=hs;exact fin (v:=V.non) (u:=Value.none) J rfl q
 |brk=>
  obtain⟨_,_,_,q⟩:=hs;exact False.elim q
 |cont=>
  obtain⟨_,_,_,q⟩:=hs;exact False.elim q
section
variable {X:Cx}{x:Str}{p pos:Pos}{e:Expr}{es:List Expr}{t:TA}{id T:String}{r:List V->Hp->VK->Prop}
def tCB(r:List V->Hp->VK->Prop)(t:TA):TE:=fun σ H Q=>t σ H fun vs H1=>r vs H1 Q
theorem Ql(hc:X9 X (.builtin id) r)(hg:Gl X x)(hm:X.mg x=none)(hv:bootBuiltins x=some (.builtin id))(ha:PA X (e::es) t)(hn:x≠"__name__":=by decide)(hdb:(x==("__debug__":Str))=false:=by decide)
  (he:starEach (e::es) X.env=(false,eval e X.env)::starEach es X.env:=by rfl) (hpl:(backTo pos (starEach es X.env)).any (·.1)=false:=by rfl):PE X (.Call (.Name x p) (e::es) [] pos) (tCB r t):=by
 intro pins s σ H Q I h;refine wpAny_Call_Name_kw (X7 I hg hm hv ?_ hn hdb);exact PyProof.Rows.callWith_builtin1 (thn (ha pos pins s σ H _ I h) fun us s1⟨vs,H1,I1,r1,q1⟩=>hc pins s1 σ H1 vs us Q I1 r1 q1) he hpl
theorem Ka(hc:X9 X (.type T) r)(hg:Gl X x)(hm:X.mg x=none)(hv:bootBuiltins x=some (.type T))(ha:PA X (e::es) t)(hn:x≠"__name__":=by decide)(hdb:(x==("__debug__":Str))=false:=by decide)
  (he:starEach (e::es) X.env=(false,eval e X.env)::starEach es X.env:=by rfl) (hpl:(backTo pos (starEach es X.env)).any (·.1)=false:=by rfl):PE X (.Call (.Name x p) (e::es) [] pos) (tCB r t):=by
 intro pins s σ H Q I h;refine wpAny_Call_Name_kw (X7 I hg hm hv ?_ hn hdb);exact PyProof.Rows.callWith_type1 (thn (ha pos pins s σ H _ I h) fun us s1⟨vs,H1,I1,r1,q1⟩=>hc pins s1 σ H1 vs us Q I1 r1 q1) he hpl
end
end L2
namespace HT
open PySem PyProof.Rows
section
open PySem.SeqAt
open PySem.AutoSeq1 (wpAny_loadPart')
open PySem.MeetsSeq PySem.MeetsSeq2 PySem.MeetsSeq3
end
section
variable {prog:Program}{w:World}{A:Around}{E:Value->Shared->Prop}{s:Shared}
theorem yB{t b:Addr}{vs ws:List Value}{Q:Value->Shared->Prop}(ht:IsTup s.heap t vs.toArray)(hb:IsTup s.heap b ws.toArray)(hv:vs≠[])
  (h1:ws=[]->Q (.ref t) s) (h2:ws≠[]->Q (.ref s.heap.objs.size) {s with heap:=s.heap.push {cls:=.type "tuple",data:=.seq (vs++ws).toArray}})
  (hsz:vs.length+ws.length<=sizeLine):wpAny (model prog w) A (binaryOp .Add (.ref t) (.ref b)) Q E s:=by
 obtain⟨⟨cls,dd,data,sl⟩,ho,hc,n,hd⟩:=id ht;obtain⟨⟨cls2,dd2,data2,sl2⟩,ho2,hc2,n2,hd2⟩:=id hb;simp only at hc hd hc2 hd2;subst hc hd hc2 hd2;have e:vs.toArray++ws.toArray=(vs++ws).toArray:=by simp
 by_cases hw:ws=[]
 ·exact concat_meets ⟨_,ho,rfl⟩ ⟨_,ho2,rfl⟩ noFill_tuple_add seq_tuple_add PySem.F.slot_tuple_add PySem.F.entry_tuple_add (PySem.F.args_tuple_add_2 _ _)
   (tuple_addW1 t b vs.toArray ws.toArray n n2 dd dd2 sl sl2 (by simpa using hv) (by simp[hw])) ⟨ho,ho2,h1 hw⟩
 ·refine concat_meets ⟨_,ho,rfl⟩ ⟨_,ho2,rfl⟩ noFill_tuple_add seq_tuple_add PySem.F.slot_tuple_add PySem.F.entry_tuple_add (PySem.F.args_tuple_add_2 _ _)
   (tuple_addW2 t b vs.toArray ws.toArray n n2 dd dd2 sl sl2 (by simpa using hv) (by simpa using hw) (by rw[List.size_toArray,List.size_toArray];exact hsz)) ⟨ho,ho2,?_⟩
  rw[e];exact h2 hw
def sIx(n d:Nat):Option Int->Nat
 |none=>d
 |some v=>if v<0 then(v+(n:Int)).toNat else min v.toNat n
theorem VX(n d:Nat):sIx n d none=d:=rfl
theorem XM(n d k:Nat):sIx n d (some (k:Int))=min k n:=by
 show(if(k:Int)<0 then((k:Int)+(n:Int)).toNat else min (k:Int).toNat n)=min k n;rw[if_neg (by omega),Int.toNat_natCast]
theorem Qbc(n d:Nat)(hd:d<=n)(o:Option Int):sIx n d o<=n:=by
 cases o with
 |none=>exact hd
 |some v=>
  show(if v<0 then(v+(n:Int)).toNat else min v.toNat n)<=n
  by_cases hv:v<0
  ·rw[if_pos hv];omega
  ·rw[if_neg hv];exact Nat.min_le_right _ _
theorem zO(v:Int)(n d:Nat):(if v<0 then max (v+(n:Int)) 0 else min v (n:Int))=((sIx n d (some v):Nat):Int):=by
 show(if v<0 then max (v+(n:Int)) 0 else min v (n:Int))=(((if v<0 then(v+(n:Int)).toNat else min v.toNat n):Nat):Int)
 by_cases hv:v<0
 ·simp only[if_pos hv];omega
 ·simp only[if_neg hv];omega
theorem jI(lo hi:Option Int)(n:Nat):Builtin.Slice.sliceAdjust lo hi 1 (n:Int)=(((sIx n 0 lo:Nat):Int),((sIx n n hi:Nat):Int)):=by
 have h1:¬ ((1:Int)<0):=by omega
 unfold Builtin.Slice.sliceAdjust;simp only[h1,if_false];refine Prod.ext ?_ ?_
 ·cases lo with
  |none=>rfl
  |some v=>exact zO v n 0
 ·cases hi with
  |none=>rfl
  |some v=>exact zO v n n
theorem jJ(i j:Nat):Builtin.Slice.slicePlaces (i:Int) (j:Int) 1=j-i:=by
 unfold Builtin.Slice.slicePlaces;have h1:(1:Int)>0:=by omega
 simp only[h1,if_true,Int.ediv_one]
 split<;>omega
theorem VA{v:Value}{o:Option Int}{Q:Option Int->Shared->Prop}(p:IsPart v o)(h:Q o s):wpAny (model prog w) A (Builtin.Slice.slicePartIndex v) Q E s:=by
 cases p with
 |none=>exact slicePart_none h
 |int i t=>exact slicePart_int h
theorem ZY{sl:Addr}{vl vu:Value}{lo hi:Option Int}{n:Nat}{Q:Int × Int × Nat->Shared->Prop}(hs:s.heap.IsSliceOf sl vl vu .none)(pl:IsPart vl lo)(pu:IsPart vu hi)
  (h:Q (((sIx n 0 lo:Nat):Int),1,sIx n n hi-sIx n 0 lo) s):wpAny (model prog w) A (Builtin.Slice.sliceApplied (.ref sl) (pure (n:Int))) Q E s:=by
 obtain⟨os,hos,hcs,hds⟩:=id hs;unfold Builtin.Slice.sliceApplied Builtin.Slice.sliceFields;refine wpAny_bind (wpAny_bind (wpAny_field hos hds (x:=vl) rfl (wpAny_bind (wpAny_field hos hds (x:=vu) rfl (wpAny_bind (wpAny_field hos hds (x:=.none) rfl (wpAny_pure ?_)))))));refine wpAny_bind (slicePart_none ?_);show wpAny _ _ (if((1:Int)==0)=true then _ else _) _ _ s;rw[if_neg (by decide)];refine wpAny_bind (VA pl (wpAny_bind (VA pu (wpAny_bind (wpAny_pure ?_)))));show wpAny _ _ (match Builtin.Slice.sliceAdjust lo hi 1 (n:Int)with|(lo,hi)=>pure (lo,(1:Int),Builtin.Slice.slicePlaces lo hi 1)) _ _ s;rw[jI lo hi n];show wpAny _ _ (pure (((sIx n 0 lo:Nat):Int),(1:Int),Builtin.Slice.slicePlaces ((sIx n 0 lo:Nat):Int) ((sIx n n hi:Nat):Int) 1)) _ _ s;rw[jJ];exact wpAny_pure h
theorem wg(xs:Array Value)(i k:Nat):((List.range k).filterMap fun(m:Nat)=>xs[((i:Int)+(m:Int)*1).toNat]?).toArray=((xs.toList.drop i).take k).toArray:=by
 have e:(fun(m:Nat)=>xs[((i:Int)+(m:Int)*1).toNat]?)=fun m=>xs[i+m]? :=by
  funext m
  have:((i:Int)+(m:Int)*1).toNat=i+m:=by omega
  rw[this]
 rw[e];have:=pick_run xs i k;rw[List.filterMap_map]at this;have e2:((fun x=>xs[x]?)∘fun x=>i+x)=fun m=>xs[i+m]? :=rfl;rw[e2]at this;rw[this]
theorem KG{t sl:Addr}{items:Array Value}{vl vu:Value}{lo hi:Option Int}{Q:Value->Shared->Prop}(ht:IsTup s.heap t items)(hs:s.heap.IsSliceOf sl vl vu .none)(pl:IsPart vl lo)(pu:IsPart vu hi)
  (hw:¬ (sIx items.size 0 lo=0/\sIx items.size items.size hi=items.size))
  (h:Q (.ref s.heap.objs.size) {s with heap:=s.heap.push {cls:=.type "tuple",data:=.seq ((items.toList.drop (sIx items.size 0 lo)).take (sIx items.size items.size hi-sIx items.size 0 lo)).toArray}})
  (hsz:items.size<=sizeLine):wpAny (model prog w) A (getItem (.ref t) (.ref sl)) Q E s:=by
 have htake:sizeOk (.seq ((items.toList.drop (sIx items.size 0 lo)).take (sIx items.size items.size hi-sIx items.size 0 lo)).toArray):=by
  show((items.toList.drop (sIx items.size 0 lo)).take (sIx items.size items.size hi-sIx items.size 0 lo)).toArray.size<=sizeLine;rw[List.size_toArray,List.length_take,List.length_drop,Array.length_toList];omega
 have hj:sIx items.size items.size hi<=items.size:=Qbc _ _ (Nat.le_refl _) hi;obtain⟨os,hos,hcs,hds⟩:=id hs;have hTs:s.TypeIs (.ref sl) "slice":=⟨os,hos,hcs⟩;unfold getItem
 try with_reducible refine wpAny_holding ?_
 first|refine wpAny_bind (wpAny_pure ?_)|skip
 refine wpAny_bind (wpAny_sequenceKey ht.typeIs (by decide) ?_);refine wpAny_bind (wpAny_callSpecial?_slot (name:=Str.ofString "__getitem__") ht.typeIs PyProof.Rows.slot_tuple_getitem
  (wpAny_call_entry PyProof.Rows.slot_tuple_getitem ht.typeIs entry_tuple_getitem ?_ (args_tuple_getitem _ _)))
 show wpAny _ _ (Builtin.Tuple.tupleItemsOf (.ref t)>>=_) _ _ s;refine wpAny_bind (tupleItemsOf_ ht ?_);refine wpAny_bind (wpAny_typeOf hTs ?_);rw[if_pos (by decide)];refine wpAny_bind (ZY hs pl pu ?_);have hno:¬ ((((sIx items.size 0 lo:Nat):Int)==0&&(1:Int)==1&&(sIx items.size items.size hi-sIx items.size 0 lo)==items.size)=true):=by
  intro q;rw[Bool.and_eq_true,Bool.and_eq_true]at q;have q1:((sIx items.size 0 lo:Nat):Int)=0:=eq_of_beq q.1.1;have q2:sIx items.size items.size hi-sIx items.size 0 lo=items.size:=eq_of_beq q.2;exact hw ⟨by omega,by omega⟩
 show wpAny _ _ (if(((sIx items.size 0 lo:Nat):Int)==0&&(1:Int)==1&&(sIx items.size items.size hi-sIx items.size 0 lo)==items.size)=true then _ else _) _ _ s;rw[if_neg hno,wg]
 first
  |exact wpAny_bind (m:=Builtin.Tuple.tupleExact _) (wpAny_newObj_type (wpAny_pure ⟨_,rfl,wpAny_pure h⟩) htake)
  |exact wpAny_bind (m:=Builtin.Tuple.tupleExact _) (wpAny_newObj_type (wpAny_bind (wpAny_pure (wpAny_pure ⟨_,rfl,wpAny_pure h⟩))) htake)
  |exact wpAny_bind (wpAny_bind (m:=Builtin.Tuple.tupleExact _) (wpAny_newObj_type (wpAny_pure (wpAny_pure ⟨_,rfl,wpAny_pure h⟩)) htake))
  |exact wpAny_bind (wpAny_bind (m:=Builtin.Tuple.tupleExact _) (wpAny_newObj_type (wpAny_pure ⟨_,rfl,wpAny_pure h⟩) htake))
end
end HT
namespace L2
open PySem PySem.Spec PyProof.Rows
abbrev TO:=St->Hp->(Option Int->Hp->Prop)->Prop
def PO(X:Cx)(e:Option Expr)(t:TO):Prop:=
 ∀(pins:List (Addr × Obj))(s:Shared)(σ:St)(H:Hp)(Q:Option Int->Hp->Prop),Inv X pins σ H s->t σ H Q->
  wpAny (model X.prog X.w) X.A (evalPart e X.env) (fun u s'=>∃o H',Inv X pins σ H' s'/\IsPart u o/\Q o H') X.xe s
def UP:TO:=fun _ H Q=>Q none H
def yC(t:TE):TO:=fun σ H Q=>t σ H fun x H1=>∃i,x=.int i/\Q (some i) H1
section
variable {X:Cx}{e:Expr}{te:TE}{lo hi:Option Expr}{tl th:TO}{pos p2:Pos}
theorem WJ:PO X none UP:=by
 intro pins s σ H Q I h;rw[evalPart_none];exact wpAny_pure ⟨none,H,I,.none,h⟩
theorem Zn(h:PE X e te):PO X (some e) (yC te):=by
 intro pins s σ H Q I hw;rw[evalPart_some];refine thn (h pins s σ H _ I hw) fun u s1⟨x,H1,I1,r1,q1⟩=>?_;obtain⟨i,rfl,q⟩:=q1;obtain⟨t,rfl⟩:=r1;exact⟨some i,H1,I1,.int i t,q⟩
def SlR(X:Cx)(r:V->Option Int->Option Int->Hp->VK->Prop):Prop:=
 ∀(pins:List (Addr × Obj))(s:Shared)(σ:St)(H:Hp)(x:V)(v vl vu:Value)(lo hi:Option Int)(sl:Addr)(Q:VK),Inv X pins σ H s->RelV x v->s.heap.IsSliceOf sl vl vu .none->IsPart vl lo->IsPart vu hi->r x lo hi H Q->
  ∃T id,typeLookup (.type T) "__getitem__"=pure (some (.builtin id))/\s.TypeIs v T/\wpAny (model X.prog X.w) X.A (getItem v (.ref sl)) (EP X pins σ Q) X.xe s
def tSl(r:V->Option Int->Option Int->Hp->VK->Prop)(te:TE)(tl th:TO):TE:=fun σ H Q=>te σ H fun x H1=>tl σ H1 fun l H2=>th σ H2 fun u H3=>r x l u H3 Q
theorem Zu{r:V->Option Int->Option Int->Hp->VK->Prop}(hr:SlR X r)(he:PE X e te)(hl:PO X lo tl)(hu:PO X hi th):PE X (.Subscript e (.Slice lo hi none p2) pos) (tSl r te tl th):=by
 intro pins s σ H Q I h;refine Subscript_ (thn (he pins s σ H _ I h) fun v s1⟨x,H1,I1,r1,q1⟩=>?_);refine wpAny_Slice (thn (hl pins s1 σ H1 _ I1 q1) fun vl s2⟨l,H2,I2,pl,q2⟩=>thn (hu pins s2 σ H2 _ I2 q2) fun vu s3⟨u,H3,I3,pu,q3⟩=>?_);rw[evalPart_none];refine wpAny_pure ?_;have I4:Inv X pins σ H3 {s3 with heap:=s3.heap.push {cls:=.type "slice",data:=.fields #[vl,vu,.none]}}:=I3.kept (t':=s3.toks) fun b ob q=>Heap.get?_push_of_some _ q;obtain⟨T,id,hT,ht,hg⟩:=hr pins {s3 with heap:=s3.heap.push {cls:=.type "slice",data:=.fields #[vl,vu,.none]}} σ H3 x v vl vu l u s3.heap.objs.size Q I4 r1 (Heap.IsSliceOf.new ..) pl pu q3;show wpAny (model X.prog X.w) X.A (subscriptTail e (.Slice lo hi none p2) v (.ref s3.heap.objs.size)) (EP X pins σ Q) X.xe {s3 with heap:=s3.heap.push {cls:=.type "slice",data:=.fields #[vl,vu,.none]}};exact tail_any (ops:=[.ref s3.heap.objs.size,v]) ht hT hg (by with_unfolding_all rfl)
def VB(xs:List V)(lo hi:Option Int):List V:=(xs.drop (HT.sIx xs.length 0 lo)).take (HT.sIx xs.length xs.length hi-HT.sIx xs.length 0 lo)
theorem WK(xs:List V)(lo hi:Option Int):(VB xs lo hi).length<=xs.length:=by
 unfold VB;rw[List.length_take,List.length_drop];omega
def QdG(K:PySem.W.Frag):V->Option Int->Option Int->Hp->VK->Prop:=fun x lo hi H Q=>∃a xs,x=.ref a/\SqT K H a xs/\
 ¬ (HT.sIx xs.length 0 lo=0/\HT.sIx xs.length xs.length hi=xs.length)/\∀p,H p=none->Q (.ref p) (upd H p (.tup (VB xs lo hi)))
theorem Qbd:SlR X (QdG X.K):=by
 intro pins s σ H x v vl vu lo hi sl Q I rx hs pl pu h;obtain⟨a,xs,rfl,hx,hw,q⟩:=h;cases rx;obtain⟨its,r,ht,hz⟩:=I.tuple hx;have hlen:its.toArray.size=xs.length:=by rw[List.size_toArray];exact r.length.symm
 refine⟨"tuple",_,PyProof.Rows.slot_tuple_getitem.lookup,ht.typeIs,?_⟩;refine HT.KG ht hs pl pu (by rw[hlen];exact hw) ?_ (by rw[hlen];exact hz);rw[hlen];refine⟨.ref s.heap.objs.size,_,I.laid (t':=s.toks) (o:=.tup (VB xs lo hi)) (fun b ob q=>Heap.get?_push_of_some _ q) (Nat.le_refl _) ?_,rfl,q _ (I.hok.fresh (Nat.le_refl _))⟩;exact⟨Nat.le_trans (WK xs lo hi) hz,_,(r.drop (HT.sIx xs.length 0 lo)).take (HT.sIx xs.length xs.length hi-HT.sIx xs.length 0 lo),K5.new _ _⟩
def Qcw(K:PySem.W.Frag):R2:=fun x y H Q=>∃a b xs ys,x=.ref a/\y=.ref b/\SqT K H a xs/\SqT K H b ys/\xs≠[]/\xs.length+ys.length<=sizeLine/\
 (ys=[]->Q (.ref a) H)/\(ys≠[]->∀p,H p=none->Q (.ref p) (upd H p (.tup (xs++ys))))
theorem Vals.VY{xs:List V}{us:List Value}(r:Vals xs us):us=[]↔xs=[]:=by
 cases r with
 |nil=>simp
 |cons _ _=>simp
theorem yD:OpR X (binaryOp .Add) (Qcw X.K):=by
 intro pins s σ H x y v u Q I rx ry h;obtain⟨a,b,xs,ys,rfl,rfl,ha,hb,hx,hz,q1,q2⟩:=h;cases rx;cases ry;obtain⟨its,r1,p1,_⟩:=I.tuple ha;obtain⟨its2,r2,p2,_⟩:=I.tuple hb;refine HT.yB p1 p2 (fun z=>hx (r1.VY.mp z)) (fun z=>⟨.ref a,H,I,rfl,q1 (r2.VY.mp z)⟩) (fun z=>?_) (by rw[←r1.length, ←r2.length];exact hz);refine⟨.ref s.heap.objs.size,_,I.laid (t':=s.toks) (o:=.tup (xs++ys)) (fun b ob q=>Heap.get?_push_of_some _ q) (Nat.le_refl _) ?_,rfl,q2 (fun w=>z (r2.VY.mpr w)) _ (I.hok.fresh (Nat.le_refl _))⟩;exact⟨by rw[List.length_append];exact hz,_,r1.append r2,K5.new _ _⟩
end
def ixN(n:Nat)(i:Int):Option Nat:=if 0<=i then(if i<n then some i.toNat else none)else if-(n:Int)<=i then some (i+n).toNat else none
def atI{α:Type}(xs:List α)(i:Int):Option α:=(ixN xs.length i).bind fun j=>xs[j]?
theorem zP{n:Nat}{i:Int}{j:Nat}(h:ixN n i=some j):seqIndex? i n=some j/\j<n/\ -(n:Int)<=i/\i<n:=by
 unfold ixN at h
 by_cases h0:0<=i
 ·rw[if_pos h0]at h
  by_cases h1:i<n
  ·rw[if_pos h1]at h;have e:i.toNat=j:=Option.some.inj h;exact⟨by rw[seqIndex_of h0 h1,e],by omega,by omega,h1⟩
  ·rw[if_neg h1]at h;cases h
 ·rw[if_neg h0]at h
  by_cases h1: -(n:Int)<=i
  ·rw[if_pos h1]at h;have e:(i+n).toNat=j:=Option.some.inj h;exact⟨by rw[seqIndex_neg (by omega) h1,e],by omega,h1,by omega⟩
  ·rw[if_neg h1]at h;cases h
theorem UQ{α:Type}{xs:List α}{i:Int}{v:α}(h:atI xs i=some v):∃j,seqIndex? i xs.length=some j/\xs[j]? =some v/\j<xs.length/\ -(xs.length:Int)<=i/\i<xs.length:=by
 unfold atI at h;cases e:ixN xs.length i with
 |none=>rw[e]at h;cases h
 |some j=>
  rw[e]at h;obtain⟨h1,h2,h3,h4⟩:=zP e;exact⟨j,h1,h,h2,h3,h4⟩
theorem QL{α:Type}{xs:List α}{j:Nat}{v:α}(h:xs[j]? =some v):atI xs (j:Int)=some v:=by
 have hj:j<xs.length:=(List.getElem?_eq_some_iff.mp h).1;have e:ixN xs.length (j:Int)=some j:=by
  unfold ixN;rw[if_pos (by omega),if_pos (by omega)];simp
 unfold atI;rw[e];exact h
theorem wj{α:Type}(xs:List α)(v:α):atI (xs++[v]) (-1)=some v:=by
 have hl:(xs++[v]).length=xs.length+1:=by simp
 have e:ixN (xs++[v]).length (-1)=some xs.length:=by
  unfold ixN;rw[hl,if_neg (by decide),if_pos (by omega)]
  congr 1
  omega
 unfold atI;rw[e];show(xs++[v])[xs.length]? =some v;simp
def zQ(b:Expr):Prop:=∀o i,subscripted b false o i=operate [o,i] (getItem o i)
def IxR(X:Cx)(r:R2):Prop:=
 ∀(value slice:Expr)(pins:List (Addr × Obj))(s:Shared)(σ:St)(H:Hp)(x y:V)(v u:Value)(Q:VK),Inv X pins σ H s->RelV x v->RelV y u->r x y H Q->
  subscripted slice false v u=operate [v,u] (getItem v u)->wpAny (model X.prog X.w) X.A (subscriptTail value slice v u) (EP X pins σ Q) X.xe s
def MtR(X:Cx)(id:String)(r:V->List V->Hp->VK->Prop):Prop:=
 ∀(pins:List (Addr × Obj))(s:Shared)(σ:St)(H:Hp)(x:V)(xs:List V)(v:Value)(us:List Value)(Q:VK),Inv X pins σ H s->RelV x v->Vals xs us->r x xs H Q->
  wpAny (model X.prog X.w) X.A (call (.builtin id) (v::us)) (EP X pins σ Q) X.xe s
section
variable {X:Cx}{a b:Expr}{ta tb:TE}{pos:Pos}
theorem Qv{r:R2}(hr:IxR X r)(ha:PE X a ta)(hb:PE X b tb)(hs:zQ b):PE X (.Subscript a b pos) (tOp r ta tb):=by
 intro pins s σ H Q I h;exact Subscript_ (Qct ha hb I h fun v u s2 x y H2 I2 rx ry q=>hr a b pins s2 σ H2 x y v u Q I2 rx ry q (hs _ _))
def Qcb(K:PySem.W.Frag):R2:=fun x y H Q=>∃p xs i v,x=.ref p/\y=.int i/\SqL K H p xs/\atI xs i=some v/\Q v H
def Qcx(K:PySem.W.Frag):R2:=fun x y H Q=>∃p xs i v,x=.ref p/\y=.int i/\SqT K H p xs/\atI xs i=some v/\Q v H
def QdH:R2:=fun x y H Q=>∃z i c,x=.str z/\y=.int i/\z.length<=sizeLine/\atI z.cps.toList i=some c/\Q (.str ⟨#[c]⟩) H
theorem QZ:IxR X (Qcb X.K):=by
 intro value slice pins s σ H x y v u Q I rx ry h hs;obtain⟨p,xs,i,z,rfl,rfl,hq,he,q⟩:=h;cases rx;obtain⟨t,rfl⟩:=ry;obtain⟨its,r,pl,hz⟩:=I.list hq;obtain⟨j,h1,h2,h3,h4,h5⟩:=UQ he;obtain⟨w,ew,rw'⟩:=r.get h2;have hl:=r.length;have hn:=XE;have fin:EP X pins σ Q w s:=⟨z,H,I,rw',q⟩
 by_cases h0:0<=i
 ·have hj:i.toNat=j:=by
   rw[seqIndex_of h0 h5]at h1;exact Option.some.inj h1
  exact item_listR pl.isList h0 (by omega) (by rw[hj];simpa using ew) fin hs
 ·have hj:(i+(its.toArray.size:Int)).toNat=j:=by
   rw[seqIndex_neg (by omega) h4]at h1;rw[List.size_toArray, ←hl];exact Option.some.inj h1
  exact subscriptTail_builtinR (x:=w) pl.isList.typeIs slot_list_getitem.lookup
   (wpAny_getItem_list_neg (Q:=fun r s'=>r=w/\EP X pins σ Q r s') pl.isList (by omega) (by rw[List.size_toArray]<;>omega) (by omega) (by rw[hj];simpa using ew) ⟨rfl,fin⟩) hs
theorem Zo:IxR X (Qcx X.K):=by
 intro value slice pins s σ H x y v u Q I rx ry h hs;obtain⟨p,xs,i,z,rfl,rfl,hq,he,q⟩:=h;cases rx;obtain⟨t,rfl⟩:=ry;obtain⟨its,r,pl,hz⟩:=I.tuple hq;obtain⟨j,h1,h2,h3,h4,h5⟩:=UQ he;obtain⟨w,ew,rw'⟩:=r.get h2;have hl:=r.length;have hn:=XE;have fin:EP X pins σ Q w s:=⟨z,H,I,rw',q⟩;exact subscriptTail_builtinR (x:=w) pl.typeIs slot_tuple_getitem.lookup
  (getItem_tuple (j:=j) (Q:=fun r s'=>r=w/\EP X pins σ Q r s') pl (by omega) (by omega) (by rw[List.size_toArray, ←hl];exact h1) (by simpa using ew) ⟨rfl,fin⟩) hs
theorem zR:IxR X QdH:=by
 intro value slice pins s σ H x y v u Q I rx ry h hs;obtain⟨z,i,c,rfl,rfl,hz,he,q⟩:=h;obtain⟨t,rfl⟩:=rx;obtain⟨t',rfl⟩:=ry;obtain⟨j,h1,h2,h3,h4,h5⟩:=UQ he;have hl:z.cps.toList.length=z.length:=by simp[Str.length]
 rw[hl]at h1 h4 h5;have hn:=XE;exact tail_any (typeIs_str s z t) slot_str_getitem.lookup (getItem_str (c:=c) (by
  have e1:decide (i< -(2^63:Int))=false:=decide_eq_false (by omega);have e2:decide (i≥2^63)=false:=decide_eq_false (by omega);rw[e1,e2,Bool.or_false]) (by rw[h1];simpa using h2) ⟨.str ⟨#[c]⟩,H,I.tok _,⟨_,rfl⟩,q⟩) hs
theorem jK(its:List Value)(n j:Nat)(u:Value):Obj.mapSeq (·.setIfInBounds j u) {cls:=.type "list",data:=.seq its.toArray n}={cls:=.type "list",data:=.seq (its.set j u).toArray n}:=by
 simp[Obj.mapSeq]
theorem Inv.lst{pins:List (Addr × Obj)}{σ:St}{H:Hp}{s:Shared}{p:Addr}{xs:List V}(I:Inv X pins σ H s)(h:H p=some (.lst xs)):
  ∃(its:List Value)(n:Nat),Vals xs its/\s.heap.get? p=some {cls:=.type "list",data:=.seq its.toArray n}/\xs.length<=sizeLine:=by
 obtain⟨z,its,n,r,e⟩:=I.hok p _ h;exact⟨its,n,r,e,z⟩
theorem Inv.Qbe{pins:List (Addr × Obj)}{σ:St}{H:Hp}{s:Shared}{p:Addr}{xs ys:List V}{its its':List Value}{n n':Nat}{f:Obj->Obj}(I:Inv X pins σ H s)(h:H p=some (.lst xs))
  (ho:s.heap.get? p=some {cls:=.type "list",data:=.seq its.toArray n}) (hf:f {cls:=.type "list",data:=.seq its.toArray n}={cls:=.type "list",data:=.seq its'.toArray n'}) (r:Vals ys its') (hz:ys.length<=sizeLine) (t:Nat):
  Inv X pins σ (upd H p (.lst ys)) {s with heap:=s.heap.update p f,toks:=t}:=by
 have e:(s.heap.update p f).get? p=some {cls:=.type "list",data:=.seq its'.toArray n'}:=by
  rw[Heap.get?_update_self f ho (by rw[hf]<;>rfl),hf]
 refine I.write (x:=p) (e:=p) (by rw[h];trivial) (.inl rfl) (fun b u hb q=>(Heap.get?_update_other _ _ (Ne.symm hb)).trans q) ⟨_,e⟩ ?_;exact⟨hz,its',n',r,e⟩
def Qcy:V->V->V->Hp->(Hp->Prop)->Prop:=fun o i v H Q=>∃p xs k j,o=.ref p/\i=.int k/\H p=some (.lst xs)/\ixN xs.length k=some j/\Q (upd H p (.lst (xs.set j v)))
theorem set_list:Qdd X Qcy:=by
 intro pins s σ H o i v ov iv u Q I ro ri rv h;obtain⟨p,xs,k,j,rfl,rfl,hp,hj,q⟩:=h;cases ro;obtain⟨t,rfl⟩:=ri;obtain⟨its,n,r,ho,hz⟩:=I.lst hp;obtain⟨h1,h2,h3,h4⟩:=zP hj;have hl:=r.length;have hn:=XE;have I':Inv X pins σ (upd H p (.lst (xs.set j v))) {s with heap:=s.heap.update p (Obj.mapSeq (·.setIfInBounds j u))}:=
  I.Qbe hp ho (jK its n j u) (r.set rv j) (by rw[List.length_set];exact hz) s.toks
 by_cases h0:0<=k
 ·have hk:k.toNat=j:=by
   rw[seqIndex_of h0 h4]at h1;exact Option.some.inj h1
  exact PySem.W.ki_setAt ho h0 (by omega) (by rw[List.size_toArray, ←hl];exact h4) (by rw[hk];exact⟨_,I',q⟩)
 ·have hk:(k+(its.toArray.size:Int)).toNat=j:=by
   rw[seqIndex_neg (by omega) h3]at h1;rw[List.size_toArray, ←hl];exact Option.some.inj h1
  exact PySem.W.ki_setBack ho (by omega) (by rw[List.size_toArray, ←hl];exact h3) (by omega) (by rw[hk];exact⟨_,I',q⟩)
theorem Y6(lo hi:Option Int)(n:Nat):(sliceBounds lo hi none n).1=((HT.sIx n 0 lo:Nat):Int)/\(sliceBounds lo hi none n).2.1=((HT.sIx n n hi:Nat):Int)/\(sliceBounds lo hi none n).2.2=1:=by
 refine⟨?_,?_,rfl⟩
 ·cases lo with
  |none=>simp[sliceBounds,HT.sIx]
  |some i=>
   simp only[sliceBounds,HT.sIx,Option.getD_none,show(1:Int)>0 by decide,if_true]
   by_cases h:i<0
   ·simp only[h,if_true]<;>omega
   ·simp only[h,if_false]<;>omega
 ·cases hi with
  |none=>simp[sliceBounds,HT.sIx]
  |some i=>
   simp only[sliceBounds,HT.sIx,Option.getD_none,show(1:Int)>0 by decide,if_true]
   by_cases h:i<0
   ·simp only[h,if_true]<;>omega
   ·simp only[h,if_false]<;>omega
theorem VZ(its:List Value)(lo hi:Option Int):slicePick its.toArray lo hi none=((its.drop (HT.sIx its.length 0 lo)).take (HT.sIx its.length its.length hi-HT.sIx its.length 0 lo)).toArray:=by
 obtain⟨h1,h2,h3⟩:=Y6 lo hi its.toArray.size;unfold slicePick;rw[h1,h2,h3];simp only[sliceRange_one,pick_run,List.size_toArray]<;>rfl
def Qcz(K:PySem.W.Frag):V->Option Int->Option Int->Hp->VK->Prop:=fun x lo hi H Q=>∃a xs,x=.ref a/\SqL K H a xs/\∀p,H p=none->Q (.ref p) (upd H p (.lst (VB xs lo hi)))
theorem zS:SlR X (Qcz X.K):=by
 intro pins s σ H x v vl vu lo hi sl Q I rx hs pl pu h;obtain⟨a,xs,rfl,hx,q⟩:=h;cases rx;obtain⟨its,r,ht,hz⟩:=I.list hx;have hlen:=r.length;refine⟨"list",_,slot_list_getitem.lookup,ht.isList.typeIs,?_⟩;refine wpAny_getItem_list_slice ht.isList hs pl pu .none (by simp) ?_ (by rw[List.size_toArray]<;>omega);rw[VZ, ←hlen];refine⟨.ref s.heap.objs.size,_,I.laid (t':=s.toks) (o:=.lst (VB xs lo hi)) (fun b ob q=>Heap.get?_push_of_some _ q) (Nat.le_refl _) ?_,rfl,q _ (I.hok.fresh (Nat.le_refl _))⟩;exact⟨Nat.le_trans (WK xs lo hi) hz,_,0,(r.drop (HT.sIx xs.length 0 lo)).take (HT.sIx xs.length xs.length hi-HT.sIx xs.length 0 lo),Heap.get?_push_size _ rfl⟩
def XN:V->Bool
 | .non=>true
 | .bl _=>true
 | .int _=>true
 | .str _=>true
 |_=>false
def eqV:V->V->Bool
 | .non,.non=>true
 | .bl a,.bl b=>a==b
 | .bl a,.int b=>(if a then 1 else 0)==b
 | .int a,.bl b=>a==(if b then 1 else 0)
 | .int a,.int b=>a==b
 | .str a,.str b=>a==b
 |_,_=>false
theorem Qbf{A:Around}{s:Shared}{y x:V}{u v:Value}(ry:RelV y u)(rx:RelV x v)(fy:XN y=true)(fx:XN x=true):SeqAt.EqAt A s u v (eqV y x):=by
 cases y with
 |non=>
  cases ry;cases x with
  |non=>cases rx;exact SeqAt.EqAt.same _
  |bl b=>cases rx;exact SeqAt.EqAt.none_bool b
  |int b=>obtain⟨t,rfl⟩:=rx;exact SeqAt.EqAt.none_int b t
  |str b=>obtain⟨t,rfl⟩:=rx;exact SeqAt.EqAt.none_str b t
  |_=>exact absurd (show false=true from fx) Bool.false_ne_true
 |bl a=>
  cases ry;cases x with
  |non=>cases rx;exact SeqAt.EqAt.bool_none a
  |bl b=>cases rx;exact SeqAt.EqAt.bool_bool a b
  |int b=>obtain⟨t,rfl⟩:=rx;exact SeqAt.EqAt.bool_int a b t
  |str b=>obtain⟨t,rfl⟩:=rx;exact SeqAt.EqAt.bool_str a b t
  |_=>exact absurd (show false=true from fx) Bool.false_ne_true
 |int a=>
  obtain⟨t',rfl⟩:=ry;cases x with
  |non=>cases rx;exact SeqAt.EqAt.int_none a t'
  |bl b=>cases rx;exact SeqAt.EqAt.int_bool a t' b
  |int b=>obtain⟨t,rfl⟩:=rx;exact SeqAt.EqAt.int_int a t' b t
  |str b=>obtain⟨t,rfl⟩:=rx;exact SeqAt.EqAt.int_str a t' b t
  |_=>exact absurd (show false=true from fx) Bool.false_ne_true
 |str a=>
  obtain⟨t',rfl⟩:=ry;cases x with
  |non=>cases rx;exact SeqAt.EqAt.str_none a t'
  |bl b=>cases rx;exact SeqAt.EqAt.str_bool a t' b
  |int b=>obtain⟨t,rfl⟩:=rx;exact SeqAt.EqAt.str_int a t' b t
  |str b=>obtain⟨t,rfl⟩:=rx;exact SeqAt.EqAt.str_str a t' b t
  |_=>exact absurd (show false=true from fx) Bool.false_ne_true
 |_=>exact absurd (show false=true from fy) Bool.false_ne_true
def eqU(x:V)(u:Value):Bool:=match u with
 | .none=>eqV .non x
 | .bool b=>eqV (.bl b) x
 | .int i _=>eqV (.int i) x
 | .str z _=>eqV (.str z) x
 |_=>false
theorem qL{x y:V}{u:Value}(r:RelV y u)(f:XN y=true):eqU x u=eqV y x:=by
 cases y with
 |non=>cases r;rfl
 |bl b=>cases r;rfl
 |int i=>obtain⟨t,rfl⟩:=r;rfl
 |str z=>obtain⟨t,rfl⟩:=r;rfl
 |_=>exact absurd (show false=true from f) Bool.false_ne_true
theorem WL{x:V}:∀{xs:List V}{us:List Value},Vals xs us->xs.all XN=true->us.any (eqU x)=xs.any fun y=>eqV y x
 |_,_,.nil,_=>rfl
 |y::xs,u::us,.cons r t,f=>by
  rw[List.all_cons,Bool.and_eq_true]at f;rw[List.any_cons,List.any_cons,qL r f.1,WL t f.2]
theorem ZM{A:Around}{s:Shared}{x:V}{v:Value}(rx:RelV x v)(fx:XN x=true):∀{xs:List V}{us:List Value},Vals xs us->xs.all XN=true->∀u∈us,SeqAt.EqAt A s u v (eqU x u)
 |_,_,.nil,_=>fun u hu=>by cases hu
 |y::xs,u::us,.cons r t,f=>fun u' hu=>by
  rw[List.all_cons,Bool.and_eq_true]at f;rcases List.mem_cons.mp hu with rfl|hu
  ·rw[qL r f.1];exact Qbf r rx f.1 fx
  ·exact ZM rx fx t f.2 u' hu
def inV(x:V)(xs:List V):Bool:=xs.any fun y=>eqV y x
def rIn(K:PySem.W.Frag)(neg:Bool):R2:=fun x y H Q=>∃p xs,y=.ref p/\(SqL K H p xs\/SqT K H p xs)/\XN x=true/\xs.all XN=true/\Q (.bl (if neg then !inV x xs else inV x xs)) H
theorem zT:OpR X (compareOp .In) (rIn X.K false):=by
 intro pins s σ H x y v u Q I rx ry h;obtain⟨p,xs,rfl,hq,fx,fs,q⟩:=h;cases ry;rcases hq with hq|hq
 ·obtain⟨its,r,pl,hz⟩:=I.list hq;refine SeqAt.in_listAt (eqU x) pl.isList (fun w hw=>ZM rx fx r fs w (by simpa using hw)) ⟨.bl _,H,I,rfl,?_⟩;rw[show its.toArray.any (eqU x)=its.any (eqU x) by simp,WL r fs];exact q
 ·obtain⟨its,r,pl,hz⟩:=I.tuple hq;refine SeqAt.in_tupleAt (eqU x) pl (fun w hw=>ZM rx fx r fs w (by simpa using hw)) ⟨.bl _,H,I,rfl,?_⟩;rw[show its.toArray.any (eqU x)=its.any (eqU x) by simp,WL r fs];exact q
theorem Wd:OpR X (compareOp .NotIn) (rIn X.K true):=by
 intro pins s σ H x y v u Q I rx ry h;obtain⟨p,xs,rfl,hq,fx,fs,q⟩:=h;cases ry;rcases hq with hq|hq
 ·obtain⟨its,r,pl,hz⟩:=I.list hq;refine SeqAt.notIn_listAt (eqU x) pl.isList (fun w hw=>ZM rx fx r fs w (by simpa using hw)) ⟨.bl _,H,I,rfl,?_⟩;rw[show its.toArray.any (eqU x)=its.any (eqU x) by simp,WL r fs];exact q
 ·obtain⟨its,r,pl,hz⟩:=I.tuple hq;refine SeqAt.notIn_tupleAt (eqU x) pl (fun w hw=>ZM rx fx r fs w (by simpa using hw)) ⟨.bl _,H,I,rfl,?_⟩;rw[show its.toArray.any (eqU x)=its.any (eqU x) by simp,WL r fs];exact q
theorem Qu:X9 X (.builtin "len") (fun xs H Q=>∃p ys,xs=[.ref p]/\(SqL X.K H p ys\/SqT X.K H p ys)/\Q (.int ys.length) H):=by
 intro pins s σ H xs us Q I r h;obtain⟨p,ys,rfl,hq,q⟩:=h;obtain⟨u,rfl,rx⟩:=vals1 r;cases rx;have hn:=XE;rcases hq with hq|hq
 ·obtain⟨its,r',pl,hz⟩:=I.list hq;have hlen:=r'.length;exact Calls.call_len_list pl.isList (by simp only[List.size_toArray]<;>omega) ⟨.int ys.length,H,I.tok _,⟨s.toks+1,by rw[List.size_toArray,hlen]⟩,q⟩
 ·obtain⟨its,r',pl,hz⟩:=I.tuple hq;have hlen:=r'.length;exact len_tuple pl (by simp only[List.size_toArray]<;>omega) ⟨.int ys.length,H,I.tok _,⟨s.toks+1,by rw[List.size_toArray,hlen]⟩,q⟩
theorem Zv:X9 X (.builtin "len") (fun xs H Q=>∃z,xs=[.str z]/\z.length<=sizeLine/\Q (.int z.length) H):=by
 intro pins s σ H xs us Q I r h;obtain⟨z,rfl,hz,q⟩:=h;obtain⟨u,rfl,t,rfl⟩:=vals1 r;have hn:=XE;exact len_str (by omega) ⟨.int z.length,H,I.tok _,⟨_,rfl⟩,q⟩
theorem Kb:X9 X (.type "tuple") (fun xs H Q=>∃p ys,xs=[.ref p]/\((SqL X.K H p ys/\∀l,H l=none->Q (.ref l) (upd H l (.tup ys)))\/(SqT X.K H p ys/\Q (.ref p) H))):=by
 intro pins s σ H xs us Q I r h;obtain⟨p,ys,rfl,h⟩:=h;obtain⟨u,rfl,rx⟩:=vals1 r;cases rx;rcases h with⟨hq,q⟩|⟨hq,q⟩
 ·obtain⟨its,r',pl,hz⟩:=I.list hq;have hlen:=r'.length;refine call_tuple_list pl.isList (fun h' kp=>?_) (by simp only[List.size_toArray]<;>omega);have I1:Inv X pins σ H {s with heap:=h'}:=I.kept (t':=s.toks) kp;have I2:Inv X pins σ (upd H h'.objs.size (.tup ys)) {s with heap:=h'.push {cls:=.type "tuple",data:=.seq its.toArray}}:=
   I1.laid (t':=s.toks) (fun b o e=>Heap.get?_push_of_some _ e) (Nat.le_refl _) (show Jd X.prog X.w _ _ _ (.tup ys)from⟨hz,its,r',K5.new _ _⟩)
  exact⟨.ref h'.objs.size,_,I2,rfl,q _ (I1.hok.fresh (Nat.le_refl _))⟩
 ·obtain⟨its,r',pl,hz⟩:=I.tuple hq;exact call_tuple_same pl ⟨.ref p,H,I,rfl,q⟩
def tyV(K:PySem.W.Frag)(T:String)(x:V)(H:Hp):Prop:=match x with
 | .str _=>T="str"
 | .int _=>T="int"
 | .ref p=>(T="list"/\∃xs,SqL K H p xs)\/(T="tuple"/\∃o,K.lookup p=some o/\o.cls=.type "tuple"/\o.dict=none)\/
   (T="dict"/\((∃kvs,H p=some (.dK kvs))\/∃kvs,H p=some (.dT kvs)))\/(T="set"/\∃S n,H p=some (.set S n))\/(T="tuple"/\∃xs,H p=some (.tup xs))
 |_=>False
theorem v4{pins:List (Addr × Obj)}{σ:St}{H:Hp}{s:Shared}{T:String}{x:V}{v:Value}(I:Inv X pins σ H s)(r:RelV x v)(ty:tyV X.K T x H):
  s.TypeIs v T/\∀a,v=.ref a->∃ob,s.heap.get? a=some ob/\ob.dict=none:=by
 cases x with
 |str z=>
  obtain⟨t,rfl⟩:=r;cases(show T="str" from ty);exact⟨typeIs_str s z t,fun _ e=>nomatch e⟩
 |int i=>
  obtain⟨t,rfl⟩:=r;cases(show T="int" from ty);exact⟨typeIs_int s i t,fun _ e=>nomatch e⟩
 |ref p=>
  cases r;rcases ty with⟨rfl,xs,hq⟩|⟨rfl,o,hk,hc,hd⟩|⟨rfl,hk⟩|⟨rfl,S,n,hk⟩|⟨rfl,xs,hk⟩
  ·obtain⟨its,_,pl,_⟩:=I.list hq;refine⟨pl.isList.typeIs,fun a e=>?_⟩;cases e;obtain⟨o,n,e,c,hd,_⟩:=pl;exact⟨o,e,hd⟩
  ·refine⟨⟨o,I.kIn p o hk,hc⟩,fun a e=>?_⟩;cases e;exact⟨o,I.kIn _ o hk,hd⟩
  ·have z:∃o,s.heap.get? p=some o/\o.ExactDict:=by
    rcases hk with⟨kvs,hk⟩|⟨kvs,hk⟩
    ·obtain⟨_,_,_,_,o,_,_,e,ex,_⟩:=I.hok p _ hk;exact⟨o,e,ex⟩
    ·obtain⟨_,_,_,_,o,_,_,e,ex,_⟩:=I.hok p _ hk;exact⟨o,e,ex⟩
   obtain⟨o,e,ex⟩:=z;refine⟨⟨o,e,ex.1⟩,fun a e2=>?_⟩;cases e2;exact⟨o,e,ex.2.1⟩
  ·obtain⟨o,_,_,_,e,ex,_⟩:=I.hok p _ hk;refine⟨⟨o,e,ex.1⟩,fun a e2=>?_⟩;cases e2;exact⟨o,e,ex.2.1⟩
  ·obtain⟨_,its,_,o,h1,h2,n,h3,h4⟩:=(show Jd X.prog X.w H s.heap p (.tup xs)from I.hok p _ hk);exact⟨⟨o,h1,h2⟩,fun a e=>by cases e;exact⟨o,h1,h4⟩⟩
 |_=>exact False.elim ty
def QdI(K:PySem.W.Frag)(T:String)(r:V->List V->Hp->VK->Prop)(to:TE):TE:=fun σ H Q=>to σ H fun x H1=>tyV K T x H1/\r x [] H1 Q
def tBM(K:PySem.W.Frag)(T:String)(r:V->List V->Hp->VK->Prop)(to:TE)(t:TA):TE:=fun σ H Q=>to σ H fun x H1=>tyV K T x H1/\t σ H1 fun xs H2=>r x xs H2 Q
variable {o e:Expr}{es:List Expr}{to:TE}{t:TA}{name:Str}{apos cpos:Pos}{T id:String}{r:V->List V->Hp->VK->Prop}
theorem qM(pa:PlainAttrs T)(slot:Slot T name id)(hty:typeOf (.builtin id)=pure (.type "method_descriptor"))(hm:MtR X id r)(ho:PE X o to)
  (hbase:attributeBase o name X.env (eval o X.env)=eval o X.env:=by rfl) (hline:(apos.endLine==cpos.line)=true:=by rfl):PE X (.Call (.Attribute o name apos) [] [] cpos) (QdI X.K T r to):=by
 intro pins s σ H Q I h;refine wpAny_Call_method0_late hbase hline (thn (ho pins s σ H _ I h) fun v s1⟨x,H1,I1,r1,ty,q1⟩=>?_);obtain⟨h1,h2⟩:=v4 I1 r1 ty;exact⟨T,id,pa,slot,hty,h1,h2,Calls.callWith_builtin rfl (PySem.evalArgs_none (hm pins s1 σ H1 x [] v [] Q I1 r1 .nil q1))⟩
theorem ZN(pa:PlainAttrs T)(slot:Slot T name id)(hty:typeOf (.builtin id)=pure (.type "method_descriptor"))(hm:MtR X id r)(ho:PE X o to)(ha:PA X (e::es) t)
  (hbase:attributeBase o name X.env (eval o X.env)=eval o X.env:=by rfl)
  (hfew:((backTo cpos (starEach (e::es) X.env)).all (fun x=> !x.1)&&(backToKw cpos (keywordEach [] X.env)).all (fun x=>x.1.isSome)
   &&decide ((e::es).length+([]:List Keyword).length+(if([]:List Keyword).isEmpty then 0 else 1)<30))=true:=by rfl)
  (hline:(apos.endLine==cpos.line)=true:=by rfl) (hs:starEach (e::es) X.env=(false,eval e X.env)::starEach es X.env:=by rfl) (hplain:(backTo cpos (starEach es X.env)).any (·.1)=false:=by rfl):
  PE X (.Call (.Attribute o name apos) (e::es) [] cpos) (tBM X.K T r to t):=by
 intro pins s σ H Q I h;refine wpAny_Call_method_late hbase hfew hline rfl (thn (ho pins s σ H _ I h) fun v s1⟨x,H1,I1,r1,ty,q1⟩=>?_);obtain⟨h1,h2⟩:=v4 I1 r1 ty;refine⟨T,id,pa,slot,hty,h1,h2,?_⟩;have hA:=ha cpos pins s1 σ H1 _ I1 q1;rw[hs]at hA ⊢;refine Calls.callWith_builtin (by show(false||(backTo cpos (starEach es X.env)).any (·.1))=false;rw[hplain]<;>rfl) (Calls.evalArgs_plain ?_);exact thn hA fun us s2⟨vs,H2,I2,r2,q2⟩=>hm pins s2 σ H2 x vs v us Q I2 r1 r2 q2
end
def MtM(X:Cx)(id:String)(r:V->List V->Hp->VK->Prop):Prop:=
 ∀(pins:List (Addr × Obj))(s:Shared)(σ:St)(H:Hp)(x:V)(xs:List V)(v:Value)(us:List Value)(Q:VK),Inv X pins σ H s->RelV x v->Vals xs us->r x xs H Q->
  wpAny (model X.prog X.w) X.A (call (.builtin id) (v::us)) (EP X pins σ Q) X.xe s
theorem Vals.one:∀{x:V}{us:List Value},Vals [x] us->∃u,us=[u]/\RelV x u
 |_,_,.cons r .nil=>⟨_,rfl,r⟩
theorem Vals.zero:∀{us:List Value},Vals [] us->us=[]
 |_,.nil=>rfl
theorem Vals.dropLast{xs:List V}{us:List Value}(h:Vals xs us):Vals xs.dropLast us.dropLast:=by
 induction h with
 |nil=>exact .nil
 |cons r t ih=>
  cases t with
  |nil=>exact .nil
  |cons q t'=>exact .cons r ih
theorem jL{α:Type}(l:List α):l.eraseIdx (l.length-1)=l.dropLast:=by
 induction l with
 |nil=>rfl
 |cons a r ih=>
  cases r with
  |nil=>rfl
  |cons b r=>
   have e:(a::b::r).length-1=((b::r).length-1)+1:=by
    have h1:(a::b::r).length=r.length+2:=rfl;have h2:(b::r).length=r.length+1:=rfl;omega
   rw[e,List.eraseIdx_cons_succ,ih]
   all_goals rfl
section
variable {X:Cx}{pins:List (Addr × Obj)}{σ:St}{H:Hp}{s:Shared}{l b:Addr}{xs ys zs:List V}
theorem Inv.QcA{its its':List Value}{n:Nat}{f:Array Value->Array Value}{t':Nat}(I:Inv X pins σ H s)(hH:H l=some (.lst xs))
  (e:s.heap.get? l=some {cls:=.type "list",data:=.seq its.toArray n}) (hf:f its.toArray=its'.toArray) (hv:Vals ys its') (hz:ys.length<=sizeLine):
  Inv X pins σ (upd H l (.lst ys)) {s with heap:=s.heap.update l (Obj.mapSeq f),toks:=t'}:=by
 have q:=PySem.IsL.update e f;rw[hf]at q;refine I.write (x:=l) (e:=l) (by rw[hH];exact trivial) (.inl rfl) (fun b' u hb hu=>(Heap.get?_update_other s.heap (Obj.mapSeq f) (Ne.symm hb)).trans hu) ⟨_,q⟩ ?_;exact⟨hz,its',_,hv,q⟩
theorem Inv.QdJ{its:List Value}{t':Nat}(I:Inv X pins σ H s)(hv:Vals ys its)(hz:ys.length<=sizeLine):
  Inv X pins σ (upd H s.heap.objs.size (.lst ys)) {s with heap:=s.heap.push {cls:=.type "list",data:=.seq its.toArray},toks:=t'}:=
 I.laid (fun _ _ q=>Heap.get?_push_of_some _ q) (Nat.le_refl _) ⟨hz,its,0,hv,Heap.get?_push_size _ rfl⟩
theorem Inv.fresh(I:Inv X pins σ H s):H s.heap.objs.size=none:=I.hok.fresh (Nat.le_refl _)
theorem Inv.v7(I:Inv X pins σ H s)(hH:H l=some (.lst xs)):xs.length<=sizeLine/\∃(its:List Value)(n:Nat),Vals xs its/\xs.length=its.length/\s.heap.get? l=some {cls:=.type "list",data:=.seq its.toArray n}:=by
 obtain⟨z,its,n,r,e⟩:=I.hok l _ hH;exact⟨z,its,n,r,r.length,e⟩
theorem wl{n:Nat}(h:n<=sizeLine):Builtin.List.listTooLong n=false:=by
 unfold Builtin.List.listTooLong;exact decide_eq_false (by omega)
end
section
variable {X:Cx}
def yE:V->List V->Hp->VK->Prop:=fun x vs H Q=>∃l xs y,x=.ref l/\vs=[y]/\H l=some (.lst xs)/\xs.length<sizeLine/\Q .non (upd H l (.lst (xs++[y])))
theorem JV:MtM X "list.append" yE:=by
 intro pins s σ H x vs v us Q I rx rv h;obtain⟨l,xs,y,rfl,rfl,hH,hz,q⟩:=h;cases rx;obtain⟨u,rfl,ru⟩:=rv.one;obtain⟨z,its,n,r,hl,e⟩:=I.v7 hH;refine call_meets F.slot_list_append ⟨_,e,rfl⟩ F.entry_list_append (F.args_list_append_2 _ _) (PySem.list_append l its.toArray n u (by rw[List.size_toArray];omega)) ⟨e,?_⟩;refine⟨.non,_,I.QcA (its':=its++[u]) hH e (by simp) (r.append (.cons ru .nil)) ?_,rfl,q⟩;rw[List.length_append,List.length_singleton];omega
def yF:V->List V->Hp->VK->Prop:=fun x vs H Q=>∃l b xs zs,x=.ref l/\vs=[.ref b]/\H l=some (.lst xs)/\H b=some (.lst zs)/\xs.length+zs.length<=sizeLine/\Q .non (upd H l (.lst (xs++zs)))
theorem WM:MtM X "list.extend" yF:=by
 intro pins s σ H x vs v us Q I rx rv h;obtain⟨l,b,xs,zs,rfl,rfl,hH,hB,hz,q⟩:=h;cases rx;obtain⟨u,rfl,ru⟩:=rv.one;cases ru;obtain⟨z,its,n,r,hl,e⟩:=I.v7 hH;obtain⟨z2,its2,n2,r2,hl2,e2⟩:=I.v7 hB;have hsz:its.toArray.size+its2.toArray.size<=sizeLine:=by rw[List.size_toArray,List.size_toArray];omega
 have hlong:¬ (!its.toArray.isEmpty&&Builtin.List.listTooLong (its.toArray.size+its2.toArray.size))=true:=by
  rw[wl hsz,Bool.and_false];exact Bool.false_ne_true
 refine call_meets F.slot_list_extend ⟨_,e,rfl⟩ F.entry_list_extend (F.args_list_extend_2 _ _)
  (AutoSeq1.list_extend_list_list_0 l its.toArray n b its2.toArray n2 hlong (by rw[List.size_toArray];omega) (by omega)) ⟨e,e2,?_⟩
 refine⟨.non,_,I.QcA (its':=its++its2) hH e (by simp) (r.append r2) ?_,rfl,q⟩;rw[List.length_append];omega
def QdK:V->List V->Hp->VK->Prop:=fun x vs H Q=>∃l xs y,x=.ref l/\vs=[]/\H l=some (.lst xs)/\xs[xs.length-1]? =some y/\Q y (upd H l (.lst xs.dropLast))
theorem qN:MtM X "list.pop" QdK:=by
 intro pins s σ H x vs v us Q I rx rv h;obtain⟨l,xs,y,rfl,rfl,hH,hy,q⟩:=h;cases rx;have hus:=rv.zero;subst hus;obtain⟨z,its,n,r,hl,e⟩:=I.v7 hH;obtain⟨u,hu,ru⟩:=r.get hy;have hy':its.toArray[its.toArray.size-1]? =some u:=by
  show its.toArray[its.length-1]? =some u;rw[←Array.getElem?_toList, ←hl];exact hu
 refine call_meets F.slot_list_pop ⟨_,e,rfl⟩ F.entry_list_pop (F.args_list_pop_1 _) (MeetsSeq.list_pop_last l its.toArray n u hy' (by rw[List.size_toArray];omega)) ⟨e,?_⟩;refine⟨y,_,I.QcA (its':=its.dropLast) hH e ?_ r.dropLast ?_,ru,q⟩
 ·show its.toArray.eraseIdxIfInBounds (its.toArray.size-1)=its.dropLast.toArray;rw[List.size_toArray,List.eraseIdxIfInBounds_toArray,jL]
 ·rw[List.length_dropLast];omega
def QdL:R2:=fun x y H Q=>∃l b xs zs,x=.ref l/\y=.ref b/\H l=some (.lst xs)/\H b=some (.lst zs)/\xs.length+zs.length<=sizeLine/\∀p,H p=none->Q (.ref p) (upd H p (.lst (xs++zs)))
theorem Y7:OpR X (binaryOp .Add) QdL:=by
 intro pins s σ H x y v u Q I rx ry h;obtain⟨l,b,xs,zs,rfl,rfl,hH,hB,hz,q⟩:=h;cases rx;cases ry;obtain⟨z,its,n,r,hl,e⟩:=I.v7 hH;obtain⟨z2,its2,n2,r2,hl2,e2⟩:=I.v7 hB;refine PySem.P.add_list e e2 ?_ (by rw[List.size_toArray,List.size_toArray];omega);have ea:its.toArray++its2.toArray=(its++its2).toArray:=by simp
 rw[ea];exact⟨.ref _,_,I.QdJ (t':=s.toks) (r.append r2) (by rw[List.length_append];omega),rfl,q _ I.fresh⟩
end
section
variable {prog:Program}{w:World}{A:Around}{E:Value->Shared->Prop}{s:Shared}
end
section
variable {X:Cx}
end
section
variable {κ:Type}[DecidableEq κ]
def V0(kvs:List (κ × V))(k:κ):Option V:=(kvs.find? fun kv=>decide (kv.1=k)).map (·.2)
def putK(kvs:List (κ × V))(k:κ)(v:V):List (κ × V):=
 if(kvs.any fun kv=>decide (kv.1=k))=true then kvs.map (fun kv=>if kv.1=k then(kv.1,v)else kv)else kvs++[(k,v)]
theorem Kd{p:κ × V}{r:List (κ × V)}{k:κ}(e:p.1=k):V0 (p::r) k=some p.2:=by simp[V0,List.find?_cons,e]
theorem Wt{p:κ × V}{r:List (κ × V)}{k:κ}(e:¬ p.1=k):V0 (p::r) k=V0 r k:=by simp[V0,List.find?_cons,e]
theorem qO(k:κ):∀kvs:List (κ × V),(kvs.any fun kv=>decide (kv.1=k))=(V0 kvs k).isSome
 |[]=>rfl
 |p::r=>by
  rw[List.any_cons]
  by_cases e:p.1=k
  ·simp only[Kd e,decide_eq_true e,Bool.true_or,Option.isSome_some]
  ·rw[Wt e,decide_eq_false e,Bool.false_or];exact qO k r
theorem XO(kvs:List (κ × V))(k:κ)(v:V):(putK kvs k v).length<=kvs.length+1:=by
 unfold putK
 split
 ·rw[List.length_map];omega
 ·rw[List.length_append,List.length_cons,List.length_nil];omega
theorem qG.Y8{o:Option V}{u:Option Value}(r:qG o u):o.isSome=u.isSome:=by
 cases o with
 |none=>cases u with
  |none=>rfl
  |some _=>exact(show False from r).elim
 |some _=>cases u with
  |none=>exact(show False from r).elim
  |some _=>rfl
theorem qG.getD{o:Option V}{u:Option Value}{d:V}{d':Value}(r:qG o u)(rd:RelV d d'):RelV (o.getD d) (u.getD d'):=by
 cases o with
 |none=>cases u with
  |none=>exact rd
  |some _=>exact(show False from r).elim
 |some _=>cases u with
  |none=>exact(show False from r).elim
  |some _=>exact r
theorem KV.val{kvs:List (κ × V)}{vs:List (κ × Value)}(r:KV kvs vs)(k:κ):qG (V0 kvs k) (valueAt vs k):=by
 unfold KV at r
 induction r with
 |nil=>exact True.intro
 |@cons p q ps qs h t ih=>
  obtain⟨h1,h2⟩:=h
  by_cases e:p.1=k
  ·have e':q.1=k:=h1.symm.trans e;have b:valueAt (q::qs) k=some q.2:=by simp[valueAt,List.find?_cons,e']
   rw[Kd e,b];exact h2
  ·have e':¬ q.1=k:=fun z=>e (h1.trans z);have b:valueAt (q::qs) k=valueAt qs k:=by simp[valueAt,List.find?_cons,e']
   rw[Wt e,b];exact ih
theorem KV.any{kvs:List (κ × V)}{vs:List (κ × Value)}(r:KV kvs vs)(k:κ):(kvs.any fun kv=>decide (kv.1=k))=vs.any fun kv=>decide (kv.1=k):=by
 unfold KV at r
 induction r with
 |nil=>rfl
 |cons h t ih=>rw[List.any_cons,List.any_cons,ih,h.1]
theorem KV.QcB{kvs:List (κ × V)}{vs:List (κ × Value)}(r:KV kvs vs)(k:κ){y:V}{u:Value}(ry:RelV y u):
  KV (kvs.map fun kv=>if kv.1=k then(kv.1,y)else kv) (vs.map fun kv=>if kv.1=k then(kv.1,u)else kv):=by
 unfold KV at r ⊢
 induction r with
 |nil=>exact .nil
 |@cons p q ps qs h t ih=>
  rw[List.map_cons,List.map_cons];refine .cons ?_ ih;obtain⟨h1,h2⟩:=h
  by_cases e:p.1=k
  ·rw[if_pos e,if_pos (h1.symm.trans e)];exact⟨h1,ry⟩
  ·rw[if_neg e,if_neg (fun z=>e (h1.trans z))];exact⟨h1,h2⟩
theorem KV.put{kvs:List (κ × V)}{vs:List (κ × Value)}(r:KV kvs vs)(k:κ){y:V}{u:Value}(ry:RelV y u):KV (putK kvs k y) (stored vs k u):=by
 unfold putK stored;rw[r.any k]
 by_cases e:(vs.any fun kv=>decide (kv.1=k))=true
 ·rw[if_pos e,if_pos e];exact r.QcB k ry
 ·rw[if_neg e,if_neg e];exact Paired.snoc r ⟨rfl,ry⟩
theorem KV.length{kvs:List (κ × V)}{vs:List (κ × Value)}(r:KV kvs vs):kvs.length=vs.length:=Paired.length r
end
theorem UR{P:Program}{w:World}{k:Key}{u:Value}(r:RelV (kV k) u):(Q4 P w).is k u=true:=by
 cases k with
 |inl i=>obtain⟨t,e⟩:=(show ∃t,u=Value.int i t from r);subst e;exact UM P w i t
 |inr x=>obtain⟨t,e⟩:=(show ∃t,u=Value.str x t from r);subst e;exact Zh P w x t
theorem Y9{P:Program}{w:World}:∀{ks:List Key}{us:List Value},Vals (ks.map kV) us->ItemsAre (Q4 P w) ks us
 |[],_,r=>by rw[List.map_nil]at r;cases r;exact .nil
 |k::ks,_,r=>by
  rw[List.map_cons]at r;cases r with
  |cons h t=>exact .cons (UR h) (Y9 t)
abbrev KT(H:Hp):List (List Key × V)->List (List Key × Addr × Value)->Prop:=Paired fun p q=>p.1=q.1/\H q.2.1=some (.tup (p.1.map kV))/\RelV p.2 q.2.2
theorem KT.val{H:Hp}{kvs:List (List Key × V)}{xs:List (List Key × Addr × Value)}(r:KT H kvs xs)(k:List Key):qG (V0 kvs k) ((atKey xs k).map (·.2)):=by
 induction r with
 |nil=>exact True.intro
 |@cons p q ps qs h t ih=>
  obtain⟨h1,_,h2⟩:=h
  by_cases e:p.1=k
  ·have e':q.1=k:=h1.symm.trans e;have b:atKey (q::qs) k=some q.2:=by simp[atKey,List.find?_cons,e']
   rw[Kd e,b];exact h2
  ·have e':¬ q.1=k:=fun z=>e (h1.trans z);have b:atKey (q::qs) k=atKey qs k:=by simp[atKey,List.find?_cons,e']
   rw[Wt e,b];exact ih
theorem KT.QcB{H:Hp}{kvs:List (List Key × V)}{xs:List (List Key × Addr × Value)}(r:KT H kvs xs)(k:List Key){y:V}{u:Value}(ry:RelV y u):
  KT H (kvs.map fun kv=>if kv.1=k then(kv.1,y)else kv) (xs.map (putAt k u)):=by
 induction r with
 |nil=>exact .nil
 |@cons p q ps qs h t ih=>
  rw[List.map_cons,List.map_cons];refine .cons ?_ ih;obtain⟨h1,h2,h3⟩:=h;unfold putAt
  by_cases e:p.1=k
  ·rw[if_pos e,if_pos (h1.symm.trans e)];exact⟨h1,h2,ry⟩
  ·rw[if_neg e,if_neg (fun z=>e (h1.trans z))];exact⟨h1,h2,h3⟩
theorem KT.put{H:Hp}{kvs:List (List Key × V)}{xs:List (List Key × Addr × Value)}(r:KT H kvs xs)(k:List Key){b:Addr}{y:V}{u:Value}(hb:H b=some (.tup (k.map kV)))(ry:RelV y u):
  KT H (putK kvs k y) (storedH xs k b u):=by
 have e:(kvs.any fun kv=>decide (kv.1=k))=(atKey xs k).isSome:=by
  rw[qO,(r.val k).Y8,Option.isSome_map]
 unfold putK storedH;rw[e]
 by_cases q:(atKey xs k).isSome=true
 ·rw[if_pos q,if_pos q];exact r.QcB k ry
 ·rw[if_neg q,if_neg q];exact Paired.snoc r ⟨rfl,hb,ry⟩
theorem KT.keeps{H H':Hp}{kvs:List (List Key × V)}{xs:List (List Key × Addr × Value)}(r:KT H kvs xs)(ht:∀b ys,H b=some (.tup ys)->H' b=some (.tup ys)):KT H' kvs xs:=
 Paired.Qck r fun _ _ z=>⟨z.1,ht _ _ z.2.1,z.2.2⟩
section
variable {P:Program}{w:World}{H:Hp}{h:Heap}{a:Addr}
theorem Qbg{u:HO}(ok:HOk P w H h)(e:Rd H a u):Jd P w H h a u:=e.ok ok
theorem zU{kvs:List (Key × V)}(ok:HOk P w H h)(e:Rd H a (.dK kvs)):kvs.length<=sizeLine/\(a==sysModules)=false/\∃vs,KV kvs vs/\h.DictOf (Q4 P w) a vs:=
 show Jd P w H h a (.dK kvs)from Qbg ok e
theorem Qbh{kvs:List (Key × V)}(ok:HOk P w H h)(e:H a=some (.dK kvs)):kvs.length<=sizeLine/\(a==sysModules)=false/\∃vs,KV kvs vs/\h.DictOf (Q4 P w) a vs:=zU ok (.inl e)
theorem qP{ks:List Key}(ok:HOk P w H h)(e:H a=some (.tup (ks.map kV))):(tupleKind (Q4 P w)).is h ks a:=by
 obtain⟨_,its,r,o,h1,h2,n,h3,_⟩:=(show Jd P w H h a (.tup (ks.map kV))from ok a _ e);exact⟨o,its.toArray,n,h1,h2,h3,by simpa using Y9 r⟩
theorem zV{kvs:List (List Key × V)}(ok:HOk P w H h)(e:Rd H a (.dT kvs)):kvs.length<=sizeLine/\(a==sysModules)=false/\
  ∃xs,KT H kvs xs/\h.DictOfH (tupleKind (Q4 P w)) a xs:=by
 obtain⟨z,y,xs,r,o,es,ep,h1,h2,h3,h4,h5⟩:=(show Jd P w H h a (.dT kvs)from Qbg ok e);refine⟨z,y,xs,r,o,es,ep,h1,h2,h3,h4,fun x hx=>?_,h5⟩;have all:∀{l:List (List Key × V)}{m:List (List Key × Addr × Value)},KT H l m->∀x∈m,(tupleKind (Q4 P w)).is h x.1 x.2.1:=by
  intro l m q
  induction q with
  |nil=>intro x hx;exact nomatch hx
  |@cons p q ps qs hq t ih=>
   intro x hx;rcases List.mem_cons.mp hx with e|hx
   ·subst e;exact qP ok (by rw[←hq.1];exact hq.2.1)
   ·exact ih x hx
 exact all r x hx
theorem QcC{kvs:List (List Key × V)}(ok:HOk P w H h)(e:H a=some (.dT kvs)):kvs.length<=sizeLine/\(a==sysModules)=false/\
  ∃xs,KT H kvs xs/\h.DictOfH (tupleKind (Q4 P w)) a xs:=zV ok (.inl e)
end
def qQ(H:Hp)(a:Addr)(y:V)(r:Option V):Prop:=
 (∃kvs k,Rd H a (.dK kvs)/\y=kV k/\r=V0 kvs k)\/∃kvs k b,Rd H a (.dT kvs)/\y=.ref b/\H b=some (.tup (k.map kV))/\r=V0 kvs k
def v8(H:Hp)(a:Addr)(y v:V)(H':Hp):Prop:=
 (∃kvs k,H a=some (.dK kvs)/\y=kV k/\kvs.length<sizeLine/\H'=upd H a (.dK (putK kvs k v)))\/
 ∃kvs k b,H a=some (.dT kvs)/\y=.ref b/\H b=some (.tup (k.map kV))/\kvs.length<sizeLine/\H'=upd H a (.dT (putK kvs k v))
theorem qQ.k{H:Hp}{a:Addr}{kvs:List (Key × V)}{k:Key}(e:H a=some (.dK kvs)):qQ H a (kV k) (V0 kvs k):=.inl ⟨kvs,k,.inl e,rfl,rfl⟩
theorem v8.k{H:Hp}{a:Addr}{kvs:List (Key × V)}{k:Key}{v:V}(e:H a=some (.dK kvs))(hl:kvs.length<sizeLine):v8 H a (kV k) v (upd H a (.dK (putK kvs k v))):=.inl ⟨kvs,k,e,rfl,hl,rfl⟩
section
variable {X:Cx}{pins:List (Addr × Obj)}{σ:St}{H:Hp}{s:Shared}{a:Addr}{y v:V}{u r:Value}{o:Option V}{A:Around}{E:Value->Shared->Prop}
theorem Inv.big(I:Inv X pins σ H s):sysModules<s.heap.objs.size:=by
 have h:mainGlobals<s.heap.objs.size:=(I.mod.glob.keeps I.bk).lt;exact Nat.lt_trans (by decide) h
theorem zW{Q:Value->Shared->Prop}(hu:A.units+1<cLine)(I:Inv X pins σ H s)(g:qQ H a y (some v))(ry:RelV y u)(h:∀w' s',Inv X pins σ H s'->RelV v w'->Q w' s'):
  wpAny (model X.prog X.w) A (getItem (.ref a) u) Q E s:=by
 rcases g with⟨kvs,k,e,ey,l⟩|⟨kvs,k,b,e,ey,eb,l⟩
 ·subst ey;obtain⟨z,hd,vs,rel,dd⟩:=zU I.hok e;obtain⟨w',hw,rw'⟩:=qG.some_of (v:=v) (o:=valueAt vs k) (by rw[l];exact rel.val k);exact wpAny_getItem_of (UR ry) dd.mapOf hw (h w' _ (I.tok _) rw')
 ·subst ey;cases(show u=Value.ref b from ry);obtain⟨z,hd,xs,rel,dd⟩:=zV I.hok e;obtain⟨w',hw,rw'⟩:=qG.some_of (v:=v) (o:=(atKey xs k).map (·.2)) (by rw[l];exact rel.val k);obtain⟨p,hp,hp2⟩:=Option.map_eq_some_iff.mp hw;refine wpAny_getItem_heap (tupleKind_room_in1 hu) (qP I.hok eb) dd hp ?_;rw[hp2];exact h w' _ (I.tok _) rw'
theorem US{h':Heap}{t':Nat}{ob:HO}(I:Inv X pins σ H s)(mu:Mut (H a))(hs:Heap.SameBut a s.heap h')(he:∃q,h'.get? a=some q) (new:Jd X.prog X.w (upd H a ob) h' a ob):
  Inv X pins σ (upd H a ob) {s with heap:=h',toks:=t'}:=
 I.write (x:=a) (e:=a) mu (.inl rfl) (fun b q hb z=>(hs.2 b hb).trans z) he new
theorem v9{P:Program}{w:World}{H':Hp}{h':Heap}{kvs:List (Key × V)}{vs:List (Key × Value)}(z:kvs.length<=sizeLine)(hd:(a==sysModules)=false)(rel:KV kvs vs)(dd:h'.DictOf (Q4 P w) a vs):
  Jd P w H' h' a (.dK kvs):=⟨z,hd,vs,rel,dd⟩
theorem zX{H':Hp}{Q:Unit->Shared->Prop}(hu:A.units+1<cLine)(I:Inv X pins σ H s)(g:v8 H a y v H')(ry:RelV y u)(rv:RelV v r)(h:∀s',Inv X pins σ H' s'->Q () s'):
  wpAny (model X.prog X.w) A (setItem (.ref a) u r) Q E s:=by
 rcases g with⟨kvs,k,e,ey,l,eH⟩|⟨kvs,k,b,e,ey,eb,l,eH⟩
 ·subst ey eH;obtain⟨z,hd,vs,rel,dd⟩:=Qbh I.hok e;have hz:vs.length<=sizeLine:=by rw[←rel.length];exact z
  have hl:(putK kvs k v).length<=sizeLine:=by have:=XO kvs k v;omega
  refine wpAny_setItem_pairs (hsz:=hz) (UR ry) dd fun h' dd' hs=>h _ ?_;have he:∃q,h'.get? a=some q:=let ⟨q,_,_,hq,_⟩:=dd';⟨q,hq⟩;exact US I (by rw[e];exact True.intro) hs he (v9 hl hd (rel.put k rv) dd')
 ·subst ey eH;cases(show u=Value.ref b from ry);obtain⟨z,hd,xs,rel,dd⟩:=QcC I.hok e;have hz:xs.length<=sizeLine:=by rw[←Paired.length rel];exact z
  have hl:(putK kvs k v).length<=sizeLine:=by have:=XO kvs k v;omega
  refine wpAny_setItem_heap (hsz:=hz) (tupleKind_room_in1 hu) (qP I.hok eb) dd fun h' dd' hs=>h _ ?_;obtain⟨q,es,ep,hq,h2,h3,h4,_,h5⟩:=dd';refine US I (by rw[e];exact True.intro) hs ⟨q,hq⟩ ⟨hl,hd,_,(rel.put k eb rv).keeps fun c ys ec=>?_,q,es,ep,hq,h2,h3,h4,h5⟩;rw[Qp (yq ec e (fun z=>nomatch z))];exact ec
end
section
variable {X:Cx}{pins:List (Addr × Obj)}{σ:St}{H:Hp}{s:Shared}{a:Addr}{kvs:List (Key × V)}{k:Key}{u:Value}{A:Around}{E:Value->Shared->Prop}
end
def Qcc(i:Expr):Prop:=∀ov iv,subscripted i false ov iv=operate [ov,iv] (getItem ov iv)
theorem zY{prog:Program}{w:World}{A:Around}{E:Value->Shared->Prop}{s:Shared}{env:Env}{value slice:Expr}{pos:Pos}{T id:String}{Q:Value->Shared->Prop}
  (hl:typeLookup (.type T) "__getitem__"=pure (some (.builtin id))) (hs:Qcc slice)
  (h:wpAny (model prog w) A (eval value env) (fun o s₁=>wpAny (model prog w) A (eval slice env) (fun i s₂=>s₂.TypeIs o T/\wpAny (model prog w) A (getItem o i) Q E s₂) E s₁) E s):
  wpAny (model prog w) A (eval (.Subscript value slice pos) env) Q E s:=by
 refine Subscript_ (wpAny_mono h (fun o s₁ h₁=>wpAny_mono h₁ (fun i s₂ h₂=>?_) fun _ _ x=>x) fun _ _ x=>x);obtain⟨hT,h₂⟩:=h₂;unfold subscriptTail;refine wpAny_bind ?_;rw[getitemInPython_of_ne hT.not_modules];refine wpAny_bind (wpAny_specialOf hT hl ?_);have fin:wpAny (model prog w) A (subscripted slice false o i) (fun r s₃=>wpAny (model prog w) A (letTemporaryGo value o r>>=fun _=>pure r) Q E s₃) E s₂:=by
  rw[hs o i];exact wpAny_operating (wpAny_mono h₂ (fun r s₃ h₃=>wpAny_bind (wpAny_letTemporaryGo (wpAny_pure h₃))) fun _ _ x=>x)
 first
  |exact wpAny_pure (wpAny_bind fin)
  |exact wpAny_bind (wpAny_pure (wpAny_bind fin))
  |exact wpAny_bind fin
theorem UT{X:Cx}{pins:List (Addr × Obj)}{σ:St}{H:Hp}{s:Shared}{a:Addr}{y:V}{o:Option V}(I:Inv X pins σ H s)(g:qQ H a y o):s.TypeIs (.ref a) "dict":=by
 rcases g with⟨kvs,k,e,_,_⟩|⟨kvs,k,b,e,_,_,_⟩
 ·obtain⟨_,_,vs,_,dd⟩:=zU I.hok e;exact dd.typeIs
 ·obtain⟨_,_,xs,_,dd⟩:=zV I.hok e;exact dd.typeIs
def Qbi(td ty:TE):TE:=fun σ H Q=>td σ H fun x H1=>ty σ H1 fun y H2=>∃a v,x=.ref a/\qQ H2 a y (some v)/\Q v H2
def QcD(td ty tv:TE):TS:=fun D σ H=>tv σ H fun v H1=>td σ H1 fun x H2=>ty σ H2 fun y H3=>∃a H4,x=.ref a/\v8 H3 a y v H4/\D.nx σ H4
section
variable {X:Cx}{o i e value:Expr}{pos pos' tpos:Pos}{td ty tv:TE}
theorem KH(hu:X.A.units+1<cLine)(ho:PE X o td)(hi:PE X i ty)(hs:Qcc i):PE X (.Subscript o i pos) (Qbi td ty):=by
 intro pins s σ H Q I h;refine zY PySem.F.slot_dict_getitem.lookup hs (thn (ho pins s σ H _ I h) fun u s1⟨x,H1,I1,rx,q1⟩=>thn (hi pins s1 σ H1 _ I1 q1) fun iv s2⟨y,H2,I2,ry,a,v,ex,g,q2⟩=>?_);subst ex;obtain rfl:u=Value.ref a:=rx;exact⟨UT I2 g,zW hu I2 g ry fun w' s3 I3 rw'=>⟨v,H2,I3,rw',q2⟩⟩
theorem zZ(hu:X.A.units+1<cLine)(ho:PE X o td)(hi:PE X i ty)(hv:PE X value tv)(hs:swapsWith value (some (.Subscript o i pos')) pos.line X.env=pure false):
  PS X (.Assign [.Subscript o i pos'] value pos) (QcD td ty tv):=by
 intro pins s σ H D I h;refine wpAny_Assign_Subscript (thn (hv pins s σ H _ I h) fun r s1⟨v,H1,I1,rv,q1⟩=>thn (ho pins s1 σ H1 _ I1 q1) fun u s2⟨x,H2,I2,rx,q2⟩=>thn (hi pins s2 σ H2 _ I2 q2) fun iv s3⟨y,H3,I3,ry,a,H4,ex,g,q3⟩=>?_) hs;subst ex;obtain rfl:u=Value.ref a:=rx;exact zX hu I3 g ry rv fun s4 I4=>⟨σ,H4,I4,q3⟩
end
theorem qR{P:Program}{w:World}{H:Hp}(h:Heap)(hb:sysModules<h.objs.size):Jd P w H (h.push {cls:=.type "dict",data:=.dict #[]}) h.objs.size (.dK []):=
 ⟨Nat.zero_le _,beq_eq_false_iff_ne.mpr (Ne.symm (Nat.ne_of_lt hb)),[],.nil,Heap.DictOf.new h⟩
def yb:TE:=fun _ H Q=>∀p,H p=none->Q (.ref p) (upd H p (.dK []))
section
variable {X:Cx}{pos:Pos}
theorem wm:PE X (.Dict [] [] pos) yb:=fun pins s σ H Q I h=>
 wpAny_Dict_empty ⟨.ref s.heap.objs.size,_,I.laid (a:=s.heap.objs.size) (o:=.dK []) (t':=s.toks) (fun _ _ q=>Heap.get?_push_of_some _ q) (Nat.le_refl _) (qR s.heap I.big),rfl,h _ (I.hok.fresh (Nat.le_refl _))⟩
end
def z0:List (TE × TE)->St->Hp->(List (V × V)->Hp->Prop)->Prop
 |[],_,H,Q=>Q [] H
 |(tk,tv)::r,σ,H,Q=>tk σ H fun x H1=>tv σ H1 fun y H2=>z0 r σ H2 fun ps H3=>Q ((x,y)::ps) H3
abbrev VV:List (V × V)->List (Value × Value)->Prop:=Paired fun p q=>RelV p.1 q.1/\RelV p.2 q.2
def PPs(X:Cx)(pos:Pos)(keys:List (Option Expr))(values:List Expr)(trs:List (TE × TE)):Prop:=
 ∀(pins:List (Addr × Obj))(s:Shared)(σ:St)(H:Hp)(Q:List (V × V)->Hp->Prop),Inv X pins σ H s->z0 trs σ H Q->
  wpAny (model X.prog X.w) X.A (evalPairs (pairTrees keys values X.env pos)) (fun vs s'=>∃ps H',Inv X pins σ H' s'/\VV ps vs/\Q ps H') X.xe s
theorem z4{X:Cx}{pos:Pos}:PPs X pos [] [] []:=fun pins s σ H Q I h=>pairTrees_nil_walk ⟨[],H,I,.nil,h⟩
theorem V1{X:Cx}{pos:Pos}{k v:Expr}{ks:List (Option Expr)}{vs:List Expr}{tk tv:TE}{trs:List (TE × TE)}(hk:PE X k tk)(hv:PE X v tv)(hr:PPs X pos ks vs trs):
  PPs X pos (some k::ks) (v::vs) ((tk,tv)::trs):=fun pins s σ H Q I h=>
 pairTrees_cons_walk (thn (hk pins s σ H _ I h) fun u s1⟨x,H1,I1,rx,q1⟩=>thn (hv pins s1 σ H1 _ I1 q1) fun w2 s2⟨y,H2,I2,ry,q2⟩=>
  thn (hr pins s2 σ H2 _ I2 q2) fun ws s3⟨ps,H3,I3,rel,q3⟩=>⟨(x,y)::ps,H3,I3,.cons ⟨rx,ry⟩ rel,q3⟩)
def Ke(kvs more:List (Key × V)):List (Key × V):=more.foldl (fun acc kv=>putK acc kv.1 kv.2) kvs
theorem KV.merge:∀{more:List (Key × V)}{rs:List (Key × Value)}{kvs:List (Key × V)}{vs:List (Key × Value)},KV more rs->KV kvs vs->KV (Ke kvs more) (merged vs rs):=by
 intro more rs kvs vs r;unfold KV at r
 induction r generalizing kvs vs with
 |nil=>intro q;exact q
 |@cons p q ps qs h t ih=>
  intro r0;have e:KV (putK kvs p.1 p.2) (stored vs q.1 q.2):=by
   have:=r0.put p.1 h.2;rw[←h.1];exact this
  exact ih e
theorem Kf:∀(more kvs:List (Key × V)),(Ke kvs more).length<=kvs.length+more.length
 |[],kvs=>by show kvs.length<=kvs.length+0;omega
 |p::r,kvs=>by
  have h1:=Kf r (putK kvs p.1 p.2);have h2:=XO kvs p.1 p.2;show(Ke (putK kvs p.1 p.2) r).length<=_;rw[List.length_cons];omega
theorem VC{P:Program}{w:World}:∀{kvs:List (Key × V)}{ws:List (Value × Value)},VV (kvs.map fun kv=>(kV kv.1,kv.2)) ws->∃rs,Carries (Q4 P w) ws rs/\KV kvs rs
 |[],_,r=>by rw[List.map_nil]at r;cases r;exact⟨[],True.intro,.nil⟩
 |p::kvs,_,r=>by
  rw[List.map_cons]at r;cases r with
  |@cons a b as bs h t=>
   obtain⟨rs,c,q⟩:=VC (P:=P) (w:=w) t;obtain⟨b1,b2⟩:=b;exact⟨(p.1,b2)::rs,⟨UR h.1,rfl,c⟩,.cons ⟨rfl,h.2⟩ q⟩
def wn(trs:List (TE × TE)):TE:=fun σ H Q=>∀p,H p=none->z0 trs σ (upd H p (.dK [])) fun ps H2=>H2 p=some (.dK [])/\∃kvs:List (Key × V),ps=kvs.map (fun kv=>(kV kv.1,kv.2))/\kvs.length<=15/\Q (.ref p) (upd H2 p (.dK (Ke [] kvs)))
theorem z9{X:Cx}{pos:Pos}{keys:List (Option Expr)}{values:List Expr}{trs:List (TE × TE)}(h:PPs X pos keys values trs)(hall:keys.all (·.isSome)=true)(hl:keys.length=values.length)(h0:keys≠[])
  (h15:keys.length<=15):PE X (.Dict keys values pos) (wn trs):=by
 intro pins s σ H Q I q;have hn:=I.hok.fresh (Nat.le_refl s.heap.objs.size);have I1:=I.laid (a:=s.heap.objs.size) (o:=.dK []) (h':=s.heap.push {cls:=.type "dict",data:=.dict #[]}) (t':=s.toks) (fun _ _ q=>Heap.get?_push_of_some _ q) (Nat.le_refl _) (qR s.heap I.big);refine wpAny_Dict_walk (knd:=Q4 X.prog X.w) hall hl h0 h15 (thn (h pins _ σ _ _ I1 (q _ hn)) fun ws s2⟨ps,H2,I2,rel,e,kvs,ep,lk,q2⟩=>?_);subst ep;obtain⟨rs,c,rk⟩:=VC (P:=X.prog) (w:=X.w) rel;obtain⟨z,hd,vs0,r0,dd⟩:=Qbh I2.hok e;cases r0;refine⟨rs,c,dd,fun h' dd' hs=>⟨.ref s.heap.objs.size,_,?_,rfl,q2⟩⟩;have hz:(Ke [] kvs).length<=sizeLine:=by
  have h1:=Kf kvs [];rw[List.length_nil]at h1;rw[sizeLine_eq];omega
 have he:∃q,h'.get? s.heap.objs.size=some q:=let ⟨q,_,_,hq,_⟩:=dd';⟨q,hq⟩;exact US I2 (by rw[e];exact True.intro) hs he (v9 hz hd (rk.merge .nil) dd')
structure M2(X:Cx)(o:Expr)(m:Str)(apos:Pos)(e f:Expr)(cpos:Pos):Prop where
 base:attributeBase o m X.env (eval o X.env)=eval o X.env
 few:((backTo cpos (starEach [e,f] X.env)).all (fun x=> !x.1)&&(backToKw cpos (keywordEach [] X.env)).all (fun x=>x.1.isSome)
  &&decide (([e,f]:List Expr).length+([]:List Keyword).length+(if([]:List Keyword).isEmpty then 0 else 1)<30))=true
 line:(apos.endLine==cpos.line)=true
 trees:backTo cpos (starEach [e,f] X.env)=[(false,eval e X.env),(false,eval f X.env)]
def IsD(H:Hp)(a:Addr):Prop:=(∃kvs,Rd H a (.dK kvs))\/∃kvs,Rd H a (.dT kvs)
theorem Qbj{X:Cx}{pins:List (Addr × Obj)}{σ:St}{H:Hp}{s:Shared}{a:Addr}(I:Inv X pins σ H s)(d:IsD H a):
  s.TypeIs (.ref a) "dict"/\(∀b,Value.ref a=.ref b->∃ob,s.heap.get? b=some ob/\ob.dict=none)/\(a==sysModules)=false:=by
 rcases d with⟨kvs,e⟩|⟨kvs,e⟩
 ·obtain⟨_,hd,vs,_,dd⟩:=zU I.hok e;refine⟨dd.typeIs,fun b q=>?_,hd⟩;cases q;obtain⟨ob,_,_,h1,h2,_⟩:=dd;exact⟨ob,h1,h2.2.1⟩
 ·obtain⟨_,hd,xs,_,dd⟩:=zV I.hok e;refine⟨dd.typeIs,fun b q=>?_,hd⟩;cases q;obtain⟨ob,_,_,h1,h2,_⟩:=dd;exact⟨ob,h1,h2.2.1⟩
section
variable {X:Cx}{pins:List (Addr × Obj)}{σ:St}{H:Hp}{s:Shared}{a:Addr}{y d:V}{u r:Value}{o:Option V}{A:Around}{E:Value->Shared->Prop}
theorem Qbk{Q:Value->Shared->Prop}(hu:A.units+1<cLine)(I:Inv X pins σ H s)(g:qQ H a y o)(ry:RelV y u)(rd:RelV d r)(h:∀w' s',Inv X pins σ H s'->RelV (o.getD d) w'->Q w' s'):
  wpAny (model X.prog X.w) A (call (.builtin "dict.get") [.ref a,u,r]) Q E s:=by
 rcases g with⟨kvs,k,e,ey,l⟩|⟨kvs,k,b,e,ey,eb,l⟩
 ·subst ey;obtain⟨z,hd,vs,rel,dd⟩:=zU I.hok e;refine call_meetsIn PySem.F.slot_dict_get dd.typeIs PySem.F.entry_dict_get (PySem.F.args_dict_get_3 _ _ _) (meets_dict_get_default (Q4 X.prog X.w) a (UR ry) hd r) ⟨_,dd.mapOf,h _ _ (I.tok _) ?_⟩;rw[l];exact(rel.val k).getD rd
 ·subst ey;cases(show u=Value.ref b from ry);obtain⟨z,hd,xs,rel,dd⟩:=zV I.hok e;refine call_meetsIn PySem.F.slot_dict_get dd.typeIs PySem.F.entry_dict_get (PySem.F.args_dict_get_3 _ _ _) (meetsH_dict_get_default (tupleKind (Q4 X.prog X.w)) a b hd r) ⟨tupleKind_room_in1 hu,k,xs,qP I.hok eb,dd,h _ _ (I.tok _) ?_⟩;rw[l];exact(rel.val k).getD rd
end
def Qbl(td ty tx:TE):TE:=fun σ H Q=>td σ H fun x H1=>∃a,x=.ref a/\IsD H1 a/\ty σ H1 fun y H2=>tx σ H2 fun z H3=>∃o,qQ H3 a y o/\Q (o.getD z) H3
section
variable {X:Cx}{o e f:Expr}{apos cpos:Pos}{td ty tx:TE}
theorem wo(hu:X.A.units+1<cLine)(ho:PE X o td)(he:PE X e ty)(hf:PE X f tx)(m:M2 X o "get" apos e f cpos):PE X (.Call (.Attribute o "get" apos) [e,f] [] cpos) (Qbl td ty tx):=by
 intro pins s σ H Q I h;refine wpAny_Call_method m.base m.few m.line PySem.F.plainAttrs_dict PySem.F.slot_dict_get PySem.F.type_dict_get (thn (ho pins s σ H _ I h) fun u s1⟨x,H1,I1,rx,a,ex,d,q1⟩=>?_);subst ex;obtain rfl:u=Value.ref a:=rx;obtain⟨t1,t2,_⟩:=Qbj I1 d;refine⟨t1,t2,?_⟩;rw[m.trees];refine Calls.callWith_builtin rfl (Calls.evalArgs_plain (Calls.spliced_cons (thn (he pins s1 σ H1 _ I1 q1) fun iv s2⟨y,H2,I2,ry,q2⟩=>
  Calls.spliced_cons (thn (hf pins s2 σ H2 _ I2 q2) fun fv s3⟨z,H3,I3,rz,ov,g,q3⟩=>Calls.spliced_nil ?_))))
 exact Qbk hu I3 g ry rz fun w' s4 I4 rw'=>⟨_,H3,I4,rw',q3⟩
end
section
variable {X:Cx}{pins:List (Addr × Obj)}{σ:St}{H:Hp}{s:Shared}{a:Addr}{kvs:List (Key × V)}{A:Around}{E:Value->Shared->Prop}
end
section
variable {X:Cx}{pins:List (Addr × Obj)}{σ:St}{H:Hp}{s:Shared}{a:Addr}{y:V}{u:Value}{A:Around}{E:Value->Shared->Prop}
end
end L2
namespace Att
open PySem PySem.W PySem.Calls PyProof.Rows
theorem WN{P:Params}{h:Heap}:∀(ns:List Int)(vs:List Value),WellAll P h vs (ns.map WData.int)->IntsAre vs ns:=by
 intro ns
 induction ns with
 |nil=>
  intro vs w;rw[List.map_nil]at w;cases w;exact .nil
 |cons n ns ih=>
  intro vs w;rw[List.map_cons]at w;cases w with
  |cons a b=>
   cases a;exact .cons _ _ (ih _ b)
theorem xb{l:OpenLaw}{n:Nat}(hn:l.most=some n){P:Params}{h:Heap}{args:List WData}{vals:List Value}
  (hpre:l.row.toRowW.claim.pre args=true) (hwl:WellAll P h vals args):
  ∃a vs ns,vals=[Value.ref a]/\args=[WData.list (ns.map WData.int)]/\h.get? a=some {cls:=.type "list",data:=.seq vs.toArray}/\IntsAre vs ns/\ns.length<=n:=by
 have hsh:WShape.hasAll [] args [.list .int]=true:=(pre_splitW hpre).1;have hc:l.pre.holds [] {args:=args}=true:=(pre_splitW hpre).2;obtain⟨d,r,rfl,h1,h2⟩:=hasAllW_cons hsh;obtain rfl:=hasAllW_nil h2;obtain⟨xs,rfl,h3⟩:=hasW_list h1;obtain⟨ns,rfl⟩:=items_int h3;have hlen:ns.length<=n:=by
  unfold OpenLaw.pre at hc;have h4:(WTm.not (.lt (.lit (.int (n:Int))) (.len (.arg 0)))).holds [] {args:=[.list (ns.map .int)]}=true:=by
   have h4:=(holds_andW hc).1;rw[hn]at h4;exact h4
  have h5:=condW_of h4 (w_not (w_lt w_lit (w_len_list (w_arg rfl))));rw[List.length_map]at h5;refine Nat.le_of_not_lt fun q=>?_;have q':(n:Int)<((ns.length:Nat):Int):=by omega
  first
   |(rw[decide_eq_true q']at h5;exact absurd h5 (by decide))
   |(simp at h5;omega)
 cases hwl with
 |cons w1 w2=>
  cases w2;cases w1 with
  |list ho hall=>exact⟨_,_,ns,rfl,rfl,ho,WN ns _ hall,hlen⟩
theorem xc(l:OpenLaw)(args:List WData):l.row.toRowW.claim.post args (.bool true) args=true:=
 postW_of (r:=l.row.toRowW) (X:=(true==true))
  (show WShape.has [] (.bool true) .bool=true by first|rfl|decide|simp[WShape.has,WShape.arms,WShape.armsAll])
  (show(WTm.eq .res (.lit (.bool true))).value [] {args:=args,res:=some (.bool true),after:=args}=some (.bool (true==true))from w_eq_bool (w_res rfl) w_lit) rfl
theorem UU{l:OpenLaw}{n:Nat}{q:Program}{loose:List Str}{XP:(Str->Option Value)->Heap->Prop}{YP:World->Heap->Prop}{d:DefRec}
  (hn:l.most=some n) (hdf:d.params.defaults=[])
  (call:∀(w:World)(s₀ s₁:Shared)(mg mb:Str->Option Value)(fa:Addr)(o:Obj)(pm cd doc:Value)(a:Addr)(vs:List Value)(ns:List Int),
   Ground q loose [] XP w s₀ mg mb s₁.heap->YP w s₁.heap->
   s₁.heap.get? fa=some o->o.data=.func (docDef d.name d.params d.body d.scope pm cd doc)->s₁.heap.CodeRec cd d.name->mg d.name=some (.ref fa)->
   s₁.heap.get? a=some {cls:=.type "list",data:=.seq vs.toArray}->IntsAre vs ns->ns.length<=n->s₁.gens= #[]->
   codeAny (model l.prog w) callerA (.call (.ref fa) ⟨[.ref a],[]⟩) (fun r s'=>r=.ok (.ret (.bool true))/\OldK s₁.heap s'.heap/\s'.os=s₁.os/\AllBare s'.gens) s₁):
  WalkO q loose XP YP l.row.toRowW d [] (fun f vs=>PySem.call f vs):=by
 intro w s₀ s₁ mg mb G Y fa o pm cd doc dV kV ho hd hcd hD hmg hg args vals as hpre hlay hrd hwl hlo;obtain rfl:dV=.none:=Dflts.none hD hdf;obtain rfl:kV=.none:=Dflts.noKw hD;obtain⟨a,vs,ns,rfl,rfl,hobj,hints,hlen⟩:=xb hn hpre hwl;refine enter_call (codeAny_mono (call w s₀ s₁ mg mb fa o pm cd doc a vs ns G Y ho (fd_plain hd) hcd hmg hobj hints hlen hg) fun r s' hq=>?_);obtain⟨rfl,h2,h3,h4⟩:=hq;exact⟨.inl ⟨.bool true,.bool true,[],rfl,fun _=>rfl,.bool true,xc l _,fun _=>⟨List.Pairwise.nil,fun _ hm=>(nomatch hm)⟩⟩,h2,h3,h4⟩
section
variable {prog:Program}{w:World}{A:Around}{E:Value->Shared->Prop}{s:Shared}{K:Frag}
end
end Att
namespace L2
open PySem PySem.Spec PyProof.Rows
theorem Ua:∀{vs:List Value}{ns:List Int},IntsAre vs ns->Vals (ns.map V.int) vs
 |_,_,.nil=>.nil
 |_,_,.cons n t h=>.cons ⟨t,rfl⟩ (Ua h)
def Jy(s:Stmt):Arguments:=match s with
 | .FunctionDef _ a _ _ _ _ _ _ _ _=>a
 |_=>{posonlyargs:=[],args:=[],vararg:=none,kwonlyargs:=[],kw_defaults:=[],kwarg:=none,defaults:=[]}
def Q0(s:Stmt):List Stmt:=match s with
 | .FunctionDef _ _ b _ _ _ _ _ _ _=>b
 |_=>[]
def Qf(s:Stmt):Scope:=match s with
 | .FunctionDef _ _ _ _ _ _ sc _ _ _=>sc
 |_=>{kind:=.function,names:=[],isGenerator:=false,isCoroutine:=false}
abbrev E0:XK:=fun _ _ _=>False
structure Fun(K:PySem.W.Frag)(x qual:Str)(st:Stmt)(f:Addr)(fd:FuncData):Prop where
 ex:∃(oc:Value)(od:Option Addr)(kV doc pm:Value)(an:Option Addr)(cdv ct:Value)(osl:Array (Option Value)),
  fd=PySem.W.fnOf x qual (Jy st) (Q0 st) (Qf st) .none kV doc pm an cdv ct/\K.lookup f=some ⟨oc,od,.func fd,osl⟩/\PySem.W.codeIn K cdv qual=true
 kp:PySem.W.keepIn K (.ref f)=true
section
variable {P:Program}{w:World}{K:PySem.W.Frag}{mg:Str->Option Value}{base:Heap}
theorem Fun.binds{x qual:Str}{st:Stmt}{f:Addr}{fd:FuncData}{ps:List Str}(F:Fun K x qual st f fd)
  (h:∀(kV doc pm:Value)(an:Option Addr)(cdv ct:Value)(us:List Value),us.length=ps.length->bindArgs (PySem.W.fnOf x qual (Jy st) (Q0 st) (Qf st) .none kV doc pm an cdv ct) ⟨us,[]⟩=pure (ps.zip us)):Binds K fd ps []:=by
 obtain⟨oc,od,kV,doc,pm,an,cdv,ct,osl,rfl,lk,hcd⟩:=F.ex;exact .all (h kV doc pm an cdv ct)
end
theorem Qbm{A:Around}{k:Nat}(hr:Room k A):A.units+1<cLine:=Nat.lt_of_le_of_lt (Nat.add_le_add_left (by decide:1<=64) _) hr.units
section
variable {X:Cx}
theorem pv(i:Nat){x:Str}{pos:Pos}(hN:X.N[i]? =some x:=by rfl)(hv:Vis X.env.scope x:=by first|exact Or.inl rfl|exact Or.inr (Or.inl rfl)|exact Or.inr (Or.inr rfl))(hd:(x==("__debug__":Str))=false:=by decide)
  (hcd:(x==("__classdict__":Str))=false:=by decide):PE X (.Name x pos) (XL i):=vT hN hv hd hcd
end
theorem QG{A B:Prop}(h:B):if false=true then A else B:=by
 rw[if_neg Bool.false_ne_true];exact h
theorem QH{A B:Prop}(h:A):if true=true then A else B:=by
 rw[if_pos rfl];exact h
def Qk(H H':Hp):Prop:=∀b o,H b=some o->H' b=some o
theorem Qk.refl(H:Hp):Qk H H:=fun _ _ h=>h
theorem Qk.trans{H H1 H2:Hp}(a:Qk H H1)(b:Qk H1 H2):Qk H H2:=fun c o h=>b c o (a c o h)
section
variable {X:Cx}
end
section
variable {κ:Type}[DecidableEq κ]
end
theorem Jd.ex{P:Program}{w:World}{H:Hp}{h:Heap}{a:Addr}{o:HO}(x:Jd P w H h a o):∃ob,h.get? a=some ob:=by
 cases o with
 |lst xs=>obtain⟨_,_,_,_,e⟩:=x;exact⟨_,e⟩
 |tup xs=>obtain⟨_,_,_,ob,e,_⟩:=x;exact⟨_,e⟩
 |dK kvs=>obtain⟨_,_,_,_,o,_,_,e,_⟩:=x;exact⟨_,e⟩
 |dT kvs=>obtain⟨_,_,_,_,o,_,_,e,_⟩:=x;exact⟨_,e⟩
 |set S n=>obtain⟨o,_,_,_,e,_⟩:=x;exact⟨_,e⟩
 |ins C dx fs=>obtain⟨_,_,_,e,_⟩:=x;exact⟨_,e⟩
 |own y=>exact x
 |xd fs=>obtain⟨_,⟨_,_,_,e,_⟩,_⟩:=x;exact⟨_,e⟩
 |rng lo hi=>obtain⟨_,_,_,e⟩:=x;exact⟨_,e⟩
 |frz ob u=>obtain⟨e,_⟩:=x;exact⟨_,e⟩
 |tbl ps=>exact⟨_,(show h.get? a=some _ from x)⟩
 |met f y=>exact⟨_,(show h.get? a=some _ from x)⟩
 |ext φ=>obtain⟨_,e,_⟩:=x;exact e
def yG(h:Heap)(e T:Addr)(cls:Value):Prop:=
 ∃oe vs oT ts a0,h.get? e=some oe/\oe.cls=cls/\oe.data=.fields vs/\vs[0]? =some a0/\vs[1]? =some (.ref T)/\T≠e/\h.get? T=some oT/\oT.data=.fields ts/\ts[3]? =some .none
def CXE(P:Program)(w:World):CXT:=fun outer H s E e s'=>
 ∃a T cls H',e=.ref a/\yG s'.heap a T cls/\s.heap.get? a=none/\s.heap.get? T=none/\H' a=none/\H' T=none/\s'.os=s.os/\AllBare s'.gens/\
  Un (frs outer) [] H H' s.heap s'.heap/\HOk P w H' s'.heap/\E cls none H'
theorem Qx{P:Program}{w:World}{X:Cx}:Passes (CXE P w) X E0:=fun _ _ _ _ _ _ _⟨_,_,_,_,_,_,_,_,_,_,_,_,_,_,h⟩=>h.elim
section
variable {X:Cx}{pins:List (Addr × Obj)}{σ:St}{H:Hp}{s:Shared}
theorem Ub{E:XK}{a:Addr}{cls a0:Value}{ys:List Addr}{h'':Heap}(I:Inv X pins σ H s)(hex:X.ex=[])(hstk:X.stack=X.env::X.outer)
  (hys:∀y∈ys,H y=none/\X.s₀.heap.get? y=none) (ha:H a=none) (ha0:X.s₀.heap.get? a=none)
  (fl:Heap.FlyingW (PySem.W.hideAll s.heap (frs X.stack++ys)) X.outer a cls a0 h'') (up:∀b∈frs X.stack,∀o,s.heap.get? b=some o->(∀vs,o.data≠ .fields vs)->∃sl,h''.get? b=some {o with slots:=sl}) (hE:E cls none H):
  CXE X.prog X.w X.outer X.H₀ X.s₀ E (.ref a) {s with heap:=h''}:=by
 obtain⟨f1,f2,f3,oe,vs,T,oT,ts,t1,⟨t2,t3⟩,t4,t5,t6,t7,t8,t9,t10⟩:=fl;have nex:∀b:Addr,b∉X.ex:=fun b hb=>by rw[hex]at hb;cases hb
 have inB:∀b o,s.heap.get? b=some o->b∉frs X.stack->b∉ys->h''.get? b=some o:=fun b o e n1 n2=>
  f1 b o (PySem.W.hideAll_get _ e fun hm=>(List.mem_append.mp hm).elim n1 n2)
 have fr:∀b∈frs X.stack,∃o,s.heap.get? b=some o/\∀vs,o.data≠ .fields vs:=fun b hb=>(I.stack.mem hb).2;have old:∀b o,X.s₀.heap.get? b=some o->b∉ys:=fun b o e hb=>by rw[(hys b hb).2]at e;cases e
 have notF:∀b,b∈frs X.stack->b∈X.env.locals::X.fs:=I.XB;have neL:∀b o,X.s₀.heap.get? b=some o->b≠X.env.locals:=fun b o e=>Nat.ne_of_lt (Nat.lt_of_lt_of_le (Heap.lt_size e) I.ok.above);have noT:∀o,s.heap.get? T=some o->T∉ys->False:=fun o e n2=>by
  by_cases hf:T∈frs X.stack
  ·obtain⟨o2,e2,d2⟩:=fr T hf;obtain⟨sl,e3⟩:=up T hf o2 e2 d2;rw[t8]at e3;cases e3;exact d2 _ t9
  ·have:=PySem.W.hideAll_get (frs X.stack++ys) e fun hm=>(List.mem_append.mp hm).elim hf n2;rw[t6]at this;cases this
 refine⟨a,T,cls,H,rfl,⟨oe,vs,oT,ts,a0,t1,t2,t4,t3,t5,t7,t8,t9,t10⟩,ha0,?_,ha,?_,I.os,I.bare,⟨fun b o e n hb hx=>?_,fun b o e n hb hx=>?_,fun b o e n hx=>I.base.free b o e n (nex b),fun b o e hx=>?_,I.base.Wz,I.base.frzs,I.base.tbls⟩,fun b o e=>?_,hE⟩
 ·cases q:X.s₀.heap.get? T with
  |none=>rfl
  |some o=>
   obtain⟨o',e'⟩:=I.base.there T o q (nex T);exact(noT o' e' (old T o q)).elim
 ·cases q:H T with
  |none=>rfl
  |some u=>
   obtain⟨ob,e⟩:=(I.hok T u q).ex;exact(noT ob e fun hm=>by rw[(hys T hm).1]at q;cases q).elim
 ·refine inB b o (I.base.keep b o e n hb (nex b)) (fun hm=>?_) (old b o e);rcases List.mem_cons.mp (notF b hm)with z|z
  ·exact neL b o e z
  ·exact hb z
 ·obtain⟨sl,e1⟩:=I.base.slot b o e n hb (nex b);have hm:b∈frs X.stack:=by rw[hstk];unfold frs;rw[List.filterMap_cons];split<;>first|exact hb|exact List.mem_cons_of_mem _ hb
  obtain⟨o2,e2,d2⟩:=fr b hm;rw[e1]at e2;cases e2;obtain⟨sl',e3⟩:=up b hm _ e1 d2;exact⟨sl',e3⟩
 ·obtain⟨o',e1⟩:=I.base.there b o e (nex b)
  by_cases hm:b∈frs X.stack
  ·obtain⟨o2,e2,d2⟩:=fr b hm;obtain⟨sl',e3⟩:=up b hm _ e2 d2;exact⟨_,e3⟩
  ·exact⟨o',inB b o' e1 hm (old b o e)⟩
 ·refine(I.hok b o e).UN (fun c u hc q=>inB c u q (fun hm=>?_) fun hm=>?_) (fun _ q=>q) fun _ _ q=>q
  ·have z:=I.Z1 c hm;rcases hc with rfl|hc
   ·rw[e]at z;cases z
   ·rw[hc]at z;cases z
  ·have z:=(hys c hm).1;rcases hc with rfl|hc
   ·rw[e]at z;cases z
   ·rw[hc]at z;cases z
theorem XQ(I:Inv X pins σ H s)(ys:List Addr):s.heap.FunFrames (PySem.W.hideAll s.heap (frs X.stack++ys)) X.stack:=
 PySem.W.funFrames_hide I.stack fun env he a hf=>List.mem_append_left _ (List.mem_filterMap.mpr ⟨env,he,hf⟩)
end
def Qbn(X:Cx)(E:XK):Prop:=∀(pins:List (Addr × Obj))(σ:St)(H:Hp)(s:Shared)(h':Heap)(a:Addr)(cls:Value)(args:List Value),
 Inv X pins σ H s->Heap.MadeExcOf s.heap h' a cls args->E cls none H->X.xe (.ref a) {s with heap:=h'}
structure Fram(X:Cx)(E:XK):Prop where
 ex:X.ex=[]
 stk:X.stack=X.env::X.outer
 fr:X.env.frame=some X.env.locals
 xe:∀e s',wpAny (model X.prog X.w) X.A (leaving X.env e) (fun _ s''=>CXE X.prog X.w X.outer X.H₀ X.s₀ E e s'') (fun e' s''=>CXE X.prog X.w X.outer X.H₀ X.s₀ E e' s'') s'->X.xe e s'
theorem KI{P:Program}{w:World}{K:PySem.W.Frag}{mg:Str->Option Value}{base:Heap}{N:List Str}{qual:Str}{scope:Scope}{f:Addr}{cd:Value}{A:Around}{outer:List Env}{s:Shared}{H:Hp}{E:XK}:
  Fram (Wm (CXE P w) P w K mg base N qual scope f cd A outer s H E) E:=⟨rfl,rfl,rfl,fun _ _ h=>h⟩
section
variable {X:Cx}{E:XK}
theorem Kg(F:Fram X E):Qbn X E:=by
 intro pins σ H1 s1 h' a cls args I hx hE;have nex:∀b:Addr,b∉X.ex:=fun b hb=>by rw[F.ex]at hb;cases hb
 refine F.xe _ _ ?_;have ff:s1.heap.FunFrames (PySem.W.hideAll s1.heap (frs X.stack++[])) (X.env::X.outer):=by
  have z:=XQ I [];rw[F.stk]at z ⊢;exact z
 refine wpAny_leaves_madeW (s:={s1 with heap:=h'}) (h:=s1.heap) (base:=PySem.W.hideAll s1.heap (frs X.stack++[])) (by rw[←F.stk];exact I.ok.frames) F.fr
  (fun b o q=>PySem.W.of_hideAll _ q) ff hx fun h'' t fl _ _ up=>?_
 refine Ub (s:=s1) (ys:=[]) I F.ex F.stk (fun y hy=>nomatch hy) ?_ ?_ fl (fun b _ o e d=>?_) hE
 ·cases q:H1 a with
  |none=>rfl
  |some u=>
   obtain⟨ob,e⟩:=(I.hok a u q).ex;have:=hx.new;rw[e]at this;cases this
 ·cases q:X.s₀.heap.get? a with
  |none=>rfl
  |some o=>
   obtain⟨o',e'⟩:=I.base.there a o q (nex a);have:=hx.new;rw[e']at this;cases this
 ·exact up b o (hx.keeps b o e) d
theorem JH(F:Fram X E):Passes (CXE X.prog X.w) X E:=by
 intro pins σ H1 s1 e s' I h;obtain⟨a,T,cls,H',rfl,⟨oe,vs,oT,ts,a0,t1,t2,t3,t4,t5,t6,t7,t8,t9⟩,n1,n2,ha,hT,os,bare,un,hok,hE⟩:=h;have nex:∀b:Addr,b∉X.ex:=fun b hb=>by rw[F.ex]at hb;cases hb
 have I':Inv X pins σ H' s':=I.jB os un hok bare fun b hb=>nomatch hb;have old:∀b,s1.heap.get? b=none->X.s₀.heap.get? b=none:=fun b hb=>by
  cases q:X.s₀.heap.get? b with
  |none=>rfl
  |some o=>
   obtain⟨o',e'⟩:=I.base.there b o q (nex b);rw[hb]at e';cases e'
 refine F.xe _ _ ?_;have ff:s'.heap.FunFrames (PySem.W.hideAll s'.heap (frs X.stack++[a,T])) (X.env::X.outer):=by
  have z:=XQ I' [a,T];rw[F.stk]at z ⊢;exact z
 refine wpAny_leaves_onW (base:=PySem.W.hideAll s'.heap (frs X.stack++[a,T])) (cls:=cls) (a0:=a0) (by rw[←F.stk];exact I.ok.frames) F.fr
  ⟨fun b o q=>PySem.W.of_hideAll _ q,PySem.W.hideAll_none _ (List.mem_append_right _ (by simp)),ff,oe,vs,T,oT,ts,t1,⟨t2,t4⟩,t3,t5,PySem.W.hideAll_none _ (List.mem_append_right _ (by simp)),t6,t7,t8,t9⟩
  fun h'' fl up=>?_
 refine Ub I' F.ex F.stk (fun y hy=>?_) ha (old a n1) fl (fun b _ o e d=>up b o e d) hE;rcases List.mem_cons.mp hy with rfl|hy
 ·exact⟨ha,old _ n1⟩
 ·obtain rfl:=List.mem_singleton.mp hy;exact⟨hT,old _ n2⟩
end
section
variable {X:Cx}
structure Err(K:PySem.W.Frag)(C:Addr):Prop where
 ex:PySem.W.excIn K C [.type "ValueError",.type "Exception",.type "BaseException",.type "object"] "ValueError.__new__"=true
def Qbo(C:Addr)(E:XK)(t:TA):TS:=fun _ σ H=>t σ H fun vs H1=>vs.length<=sizeLine/\E (.ref C) none H1
theorem Wu{C:Addr}{x:Str}{np cpos pos:Pos}{e₀:Expr}{rest:List Expr}{t:TA}{E:XK}(T:Qbn X E)(hc:X.calm=true)(hg:Gl X x)(hm:X.mg x=some (.ref C))(hC:Err X.K C)(ha:PA X (e₀::rest) t)
  (he:starEach (e₀::rest) X.env=(false,eval e₀ X.env)::starEach rest X.env:=by rfl) (hpl:(backTo cpos (starEach rest X.env)).any (·.1)=false:=by rfl) (hdb:(x==("__debug__":Str))=false:=by decide):
  PS X (.Raise (some (.Call (.Name x np) (e₀::rest) [] cpos)) none pos) (Qbo C E t):=by
 intro pins s σ H D I h;have q:=hC.ex;have O:∃bm N nm q bs hdct sn sub ab col dd k0 k1 k2 k3 k5 mN,X.base.get? C=some (excClassObj nm q C N bs bm hdct sn sub ab col dd k0 k1 k2 k3 k5 "ValueError.__new__")/\X.base.Ns N mN/\mN "__init__"=none/\
   OwnTail X.base [.type "ValueError",.type "Exception",.type "BaseException",.type "object"] bm:=by
  have KX:=I.mod.kin;unfold PySem.W.excIn at q
  split at q
  ·rename_i dd cd sl ho
   split at q
   ·rename_i C' bm k0 k1 k2 k3 n k5 hm hs;simp only[Bool.and_eq_true,beq_iff_eq,Bool.not_eq_true']at q;obtain⟨⟨⟨⟨⟨rfl,rfl⟩,hdel⟩,ht⟩,hok⟩,hni⟩:=q;obtain⟨nm,bs,mro,ns,qn,hd,sn,sub,ab,col,del⟩:=cd;dsimp only at hm hdel hok hni;subst hm hdel;have hsl:sl= #[k0,k1,k2,k3,some (.builtin "ValueError.__new__"),k5]:=by
     obtain⟨l⟩:=sl;simp only at hs;rw[hs]
    subst hsl;exact⟨bm,ns,nm,qn,bs,hd,sn,sub,ab,col,dd,k0,k1,k2,k3,k5,_,KX _ _ ho,.of_isNs (PySem.W.isNs_of_in KX hok),PySem.W.nsMap_none_of_in KX hok hni,PySem.W.tail_of_in KX ht⟩
   ·cases q
  ·cases q
 obtain⟨tl,Nn,nm,qq,bs,hdct,sn,sub,ab,col,dd,k0,k1,k2,k3,k5,mN,h1,h2,h3,h4⟩:=O;refine wpAny_Raise_call_subT (C:=C) (nm:=nm) (q:=qq) (N:=Nn) (bs:=bs) (bm:=tl) (hdct:=hdct) (sn:=sn) (sub:=sub) (ab:=ab) (col:=col) (dd:=dd) (k0:=k0) (k1:=k1) (k2:=k2) (k3:=k3) (k5:=k5)
  PySem.F.excBase_ValueError (mN:=mN) (h4.hasType PySem.F.excBase_ValueError.hasBase) (I.ok.hd hc) (by rw[he];show(false||(backTo cpos (starEach rest X.env)).any (·.1))=false;rw[hpl];rfl) h3 ?_
 refine Z2 I hg hm ⟨rfl,?_⟩ (hd:=hdb);have w1:=ha cpos pins s σ H _ I h;rw[he]at w1 ⊢;refine Calls.evalArgs_plain (wpAny_mono w1 (fun us s2 q2=>?_) fun _ _ y=>y);obtain⟨vs,H',I2,rv,hl,hE⟩:=q2;refine⟨rfl,?_,I2.bk _ _ h1,h2.keeps I2.bk,h4.keeps I2.bk,fun h' e hm=>T pins σ H' s2 h' e (.ref C) _ I2 hm hE⟩;show us.length<=sizeLine;rw[←rv.length];exact hl
end
section
variable {X:Cx}{pins:List (Addr × Obj)}{σ:St}{H H':Hp}{s:Shared}{h':Heap}
theorem Inv.QcE{t':Nat}{ch:List Addr}(I:Inv X pins σ H s)
  (hch:∀b∈ch,X.s₀.heap.get? b=none/\b≠X.env.locals/\(∀x c,X.env.cells.lookup x=some c->c≠b)/\∀p∈X.pn++pins,p.1≠b)
  (keep:∀b o,b≠X.env.locals->b∉X.fs->b∉ch->s.heap.get? b=some o->H b=none->h'.get? b=some o)
  (slot:∀b o,b≠X.env.locals->b∈X.fs->b∉ch->s.heap.get? b=some o->H b=none->∃sl,h'.get? b=some {o with slots:=sl})
  (there:∀b o,b∉ch->s.heap.get? b=some o->∃o',h'.get? b=some o')
  (ns:∀m,s.heap.Ns X.env.locals m->h'.Ns X.env.locals m) (hok:HOk X.prog X.w H h'):
  Inv X pins σ H {s with heap:=h',toks:=t'}:=by
 have neL:∀b o,X.s₀.heap.get? b=some o->b≠X.env.locals:=fun b o e=>Nat.ne_of_lt (Nat.lt_of_lt_of_le (Heap.lt_size e) I.ok.above);have neC:∀b o,X.s₀.heap.get? b=some o->b∉ch:=fun b o e hb=>by
  have z:=(hch b hb).1;rw[e]at z;cases z
 have cellK:∀x c,X.env.cells.lookup x=some c->∀v,s.heap.IsCell c v->h'.IsCell c v:=fun x c e v⟨o,ho,hd⟩=>by
  have nch:c∉ch:=fun z=>(hch c z).2.2.1 x c e rfl
  by_cases hc:c∈X.fs
  ·obtain⟨sl,q⟩:=slot c o (I.cne x c e) hc nch ho (I.freeC x c e);exact⟨_,q,hd⟩
  ·exact⟨o,keep c o (I.cne x c e) hc nch ho (I.freeC x c e),hd⟩
 refine⟨I.ok,I.os,I.bare,⟨fun b o e n hb hx=>?_,fun b o e n hb hx=>?_,I.base.free,fun b o e hx=>?_,I.base.Wz,I.base.frzs,I.base.tbls⟩,?_,fun x c e=>?_,I.free,I.freeC,fun p hp=>?_,hok,I.len⟩
 ·exact keep b o (neL b o e) hb (neC b o e) (I.base.keep b o e n hb hx) (I.base.free b o e n hx)
 ·obtain⟨sl,e1⟩:=I.base.slot b o e n hb hx;obtain⟨sl',e2⟩:=slot b _ (neL b o e) hb (neC b o e) e1 (I.base.free b o e n hx);exact⟨sl',e2⟩
 ·obtain⟨o',e1⟩:=I.base.there b o e hx;exact there b o' (neC b o e) e1
 ·obtain⟨m,hn,hl⟩:=I.loc;refine⟨m,ns m hn,fun i x v e1 e2 e3=>?_⟩;obtain⟨u,r,l⟩:=hl i x v e1 e2 e3;refine⟨u,r,?_⟩;rcases l with l|⟨k,c,e,z⟩
  ·exact .inl l
  ·exact .inr ⟨k,c,e,cellK x c e _ z⟩
 ·obtain⟨v,z⟩:=I.cell x c e;exact⟨v,cellK x c e v z⟩
 ·obtain⟨e,n,ne,nf,d⟩:=I.pin p hp;have nch:p.1∉ch:=fun z=>(hch p.1 z).2.2.2 p hp rfl;exact⟨keep p.1 p.2 ne nf nch e n,n,ne,nf,d⟩
def xf(a:Addr)(cls:Value):HO:=.ext fun h=>∃o vs,h.get? a=some o/\o.cls=cls/\o.data=.fields vs
theorem yH{P:Program}{w:World}{H:Hp}{h:Heap}{a:Addr}{cls:Value}{o:Obj}{vs:Array Value}(e:h.get? a=some o)(hc:o.cls=cls)(hd:o.data=.fields vs):Jd P w H h a (xf a cls):=
 ⟨⟨o,vs,e,hc,hd⟩,⟨o,e⟩,fun _ _⟨o,vs,e,r⟩ k=>⟨o,vs,k o e,r⟩⟩
theorem Inv.xg{a:Addr}{o:HO}(I:Inv X pins σ H s)(hn:H a=none)(h0:X.s₀.heap.get? a=none)(hL:a≠X.env.locals)(hc:∀x c,X.env.cells.lookup x=some c->c≠a) (hp:∀p∈X.pn++pins,p.1≠a)
  (new:Jd X.prog X.w (upd H a o) s.heap a o):Inv X pins σ (upd H a o) s:=by
 refine⟨I.ok,I.os,I.bare,⟨I.base.keep,I.base.slot,fun b u e n hx=>?_,I.base.there,fun b xs e=>?_,fun b u xs e=>?_,fun b ps e=>?_⟩,I.loc,I.cell,?_,fun x c e=>?_,fun p q=>?_,fun b u e=>?_,I.len⟩
 ·rw[Qp fun z=>by rw[z,h0]at e;cases e];exact I.base.free b u e n hx
 ·have q:=I.base.Wz b xs e;rw[Qp (Qs q hn)];exact q
 ·have q:=I.base.frzs b u xs e;rw[Qp (Qs q hn)];exact q
 ·obtain⟨m,q⟩:=I.base.tbls b ps e;exact⟨m,by rw[Qp (Qs q hn)];exact q⟩
 ·rw[Qp hL.symm];exact I.free
 ·rw[Qp (hc x c e)];exact I.freeC x c e
 ·obtain⟨e,n,r⟩:=I.pin p q;exact⟨e,by rw[Qp (hp p q)];exact n,r⟩
 ·by_cases hb:b=a
  ·subst hb;rw[Qc]at e;cases e;exact new
  ·rw[Qp hb]at e;exact(I.hok b u e).UN (fun c v _ q=>q) (fun c q=>by rw[Qp (Qs q hn)];exact q) fun c xs q=>by rw[Qp (Qs q hn)];exact q
end
abbrev Cx.alt(X:Cx)(pn:List (Addr × Obj))(xe:Value->Shared->Prop):Cx:={X with pn:=pn,xe:=xe}
abbrev Cx.marked(X:Cx)(v:Value)(xe:Value->Shared->Prop):Cx:={X with A:=X.A.mark (some v),calm:=false,xe:=xe}
section
variable {X:Cx}{pins:List (Addr × Obj)}{σ:St}{H H':Hp}{s:Shared}
theorem Inv.QcF(I:Inv X pins σ H s)(xe:Value->Shared->Prop):Inv (X.alt (X.pn++pins) xe) [] σ H s:=
 ⟨⟨I.ok.mod,I.ok.kind,I.ok.glob,I.ok.blt,I.ok.above,I.ok.inj,I.ok.has,I.ok.cab,I.ok.hd,I.ok.frames,I.ok.stk,I.ok.exf,I.ok.bs,I.ok.bsz,I.ok.noex,I.ok.exfs,I.ok.UJ,I.ok.frf⟩,I.os,I.bare,I.base,I.loc,I.cell,I.free,I.freeC,
  fun p hp=>I.pin p (by simpa using hp),I.hok,I.len⟩
theorem Inv.ofAlt{xe:Value->Shared->Prop}{pins2:List (Addr × Obj)}(I:Inv (X.alt (X.pn++pins) xe) pins2 σ H s):Inv X pins σ H s:=
 ⟨⟨I.ok.mod,I.ok.kind,I.ok.glob,I.ok.blt,I.ok.above,I.ok.inj,I.ok.has,I.ok.cab,I.ok.hd,I.ok.frames,I.ok.stk,I.ok.exf,I.ok.bs,I.ok.bsz,I.ok.noex,I.ok.exfs,I.ok.UJ,I.ok.frf⟩,I.os,I.bare,I.base,I.loc,I.cell,I.free,I.freeC,
  fun p hp=>I.pin p (List.mem_append_left _ hp),I.hok,I.len⟩
theorem Inv.qS(I:Inv X pins σ H s)(v:Value)(xe:Value->Shared->Prop):Inv (X.marked v xe) pins σ H s:=
 ⟨⟨I.ok.mod,I.ok.kind,I.ok.glob,I.ok.blt,I.ok.above,I.ok.inj,I.ok.has,I.ok.cab,(fun z=>nomatch z),I.ok.frames,I.ok.stk,I.ok.exf,I.ok.bs,I.ok.bsz,I.ok.noex,I.ok.exfs,I.ok.UJ,I.ok.frf⟩,I.os,I.bare,I.base,I.loc,I.cell,I.free,I.freeC,
  I.pin,I.hok,I.len⟩
theorem Inv.Wv{v:Value}{xe:Value->Shared->Prop}(I:Inv (X.marked v xe) pins σ H s)(hh:X.A.handled=none):Inv X pins σ H s:=
 ⟨⟨I.ok.mod,I.ok.kind,I.ok.glob,I.ok.blt,I.ok.above,I.ok.inj,I.ok.has,I.ok.cab,fun _=>hh,I.ok.frames,I.ok.stk,I.ok.exf,I.ok.bs,I.ok.bsz,I.ok.noex,I.ok.exfs,I.ok.UJ,I.ok.frf⟩,I.os,I.bare,I.base,I.loc,I.cell,I.free,I.freeC,
  I.pin,I.hok,I.len⟩
theorem name_goes{n:Str}{i:Nat}{pos:Pos}{E:Value->Shared->Prop}{M:Model}{A:Around}{Q:Unit->Shared->Prop}(I:Inv X pins σ H s)(hN:X.N.Nodup)(hi:X.N[i]? =some n)(hl:X.env.scope.names.lookup n=some .local)
  (h:∀s',Inv X pins (σ.set i none) H s'->Q () s'):wpAny M A (do bindName X.env n .none;unbindBehindTheSuite X.env n pos) Q E s:=by
 have hp:(X.env.scope.kind==.class||(X.env.scope.kind==.module&&X.env.locals !=X.env.globals))=false:=by rw[I.ok.kind];rfl
 have hk:X.env.kindOf n=some .local:=hl;refine wpAny_bind (wpAny_bindName (Xn (v:=V.non) I hN hi (.inl hl) rfl (fun s1 I1=>?_) (.inr hl)));unfold unbindBehindTheSuite;refine wpAny_onRaise ?_;unfold unbindName;refine wpAny_bind (wpAny_point (wpAny_bind ?_));unfold deleteName;simp only[hk,hp];rw[if_neg (by decide)];obtain⟨m,hn,hloc⟩:=id I1.loc;obtain⟨u,ru,lk⟩:=hloc i n V.non hi (by rw[List.getElem?_set_self (by rw[I.len];exact(List.getElem?_eq_some_iff.mp hi).1)]) (.inl hl);have hmn:(m n).isSome=true:=by
  rcases lk with⟨_,e⟩|⟨z,_⟩
  ·rw[e];rfl
  ·have z':X.env.scope.names.lookup n=some .cell\/X.env.scope.names.lookup n=some .free:=z;rcases z' with z'|z'<;>(rw[hl]at z';cases z')
 refine wpAny_bind (wpAny_nsDel_keeps hn fun h' v hn' hs=>?_);rw[hmn];simp only[Bool.not_true,Bool.false_eq_true,if_false];refine wpAny_pure (wpAny_point (h _ ?_));obtain⟨oL,_,_,hoL,_⟩:=id hn;have kp:∀b o,b≠X.env.locals->s1.heap.get? b=some o->h'.get? b=some o:=fun b o hb e=>(hs.2 b hb).trans e;refine⟨I1.ok,I1.os,I1.bare,⟨fun b o e n hb hx=>?_,fun b o e n hb hx=>?_,I1.base.free,fun b o e hx=>?_,I1.base.Wz,I1.base.frzs,I1.base.tbls⟩,⟨_,hn',fun j y w e1 e2 e3=>?_⟩,fun y c e=>?_,I1.free,I1.freeC,fun p hp=>?_,fun b ob e=>?_,?_⟩
 ·exact kp b o (Nat.ne_of_lt (Nat.lt_of_lt_of_le (Heap.lt_size e) I1.ok.above)) (I1.base.keep b o e n hb hx)
 ·obtain⟨sl,e1⟩:=I1.base.slot b o e n hb hx;exact⟨sl,kp b _ (Nat.ne_of_lt (Nat.lt_of_lt_of_le (Heap.lt_size e) I1.ok.above)) e1⟩
 ·obtain⟨o',e1⟩:=I1.base.there b o e hx;exact⟨o',kp b _ (Nat.ne_of_lt (Nat.lt_of_lt_of_le (Heap.lt_size e) I1.ok.above)) e1⟩
 ·by_cases hj:j=i
  ·subst hj;rw[List.getElem?_set]at e2;simp only[if_true]at e2
   split at e2<;>cases e2
  ·rw[List.getElem?_set_ne (Ne.symm hj)]at e2;obtain⟨u',r',q⟩:=hloc j y w e1 (by rw[List.getElem?_set_ne (Ne.symm hj)];exact e2) e3;refine⟨u',r',?_⟩;rcases q with⟨k,e⟩|⟨k,c,e,z⟩
   ·refine .inl ⟨k,?_⟩;have:y≠n:=fun e=>hj (VU hN e1 (e▸hi));simp only[this,if_false];exact e
   ·exact .inr ⟨k,c,e,z.sameBut hs (I1.cne y c e)⟩
 ·obtain⟨w',z⟩:=I1.cell y c e;exact⟨w',z.sameBut hs (I1.cne y c e)⟩
 ·obtain⟨e,n,ne,nf,d⟩:=I1.pin p hp;exact⟨kp p.1 p.2 ne e,n,ne,nf,d⟩
 ·refine(I1.hok b ob e).UN (fun c w' hc q=>kp c w' ?_ q) (fun _ q=>q) fun _ _ q=>q;rintro rfl;have z:=I1.free;rcases hc with rfl|hc
  ·rw[e]at z;cases z
  ·rw[hc]at z;cases z
 ·rw[List.length_set];exact I.len
theorem Inv.looked{a T:Addr}{cls:Value}{h5:Heap}{t':Nat}(I:Inv X pins σ H s)(hstk:X.stack=X.env::X.outer)(F:yG s.heap a T cls)(ha:H a=none)(hT:H T=none)(f1:X.s₀.heap.get? a=none)(f2:X.s₀.heap.get? T=none)
  (hpn:∀p∈X.pn++pins,p.1≠a/\p.1≠T) (st:(PySem.W.hideAll s.heap (frs X.stack++[a,T])).StaysIn h5) (up:s.heap.UpToSlots h5):
  Inv X pins σ H {s with heap:=h5,toks:=t'}:=by
 obtain⟨oe,vs,oT,ts,a0,t1,t2,t3,t4,t5,t6,t7,t8,t9⟩:=F;have two:∀b,b∈[a,T]->b=a\/b=T:=fun b hb=>by simpa using hb
 have recd:∀b,b∈[a,T]->∃o vs,s.heap.get? b=some o/\o.data=.fields vs:=fun b hb=>by
  rcases two b hb with rfl|rfl
  ·exact⟨_,_,t1,t3⟩
  ·exact⟨_,_,t7,t8⟩
 have inB:∀b o,s.heap.get? b=some o->b∉frs X.stack->b∉[a,T]->h5.get? b=some o:=fun b o e n1 n2=>
  st b o (PySem.W.hideAll_get _ e fun hm=>(List.mem_append.mp hm).elim n1 n2)
 have fr:∀b∈frs X.stack,∃o,s.heap.get? b=some o/\∀vs,o.data≠ .fields vs:=fun b hb=>(I.stack.mem hb).2;have inS:∀b∈X.fs,b∈frs X.stack:=fun b hb=>by rw[hstk];unfold frs;rw[List.filterMap_cons];split<;>first|exact hb|exact List.mem_cons_of_mem _ hb
 refine I.QcE (ch:=[a,T]) (fun b hb=>⟨?_,?_,fun x c e z=>?_,fun p hp=>?_⟩) (fun b o hL hb hc e n=>?_) (fun b o hL hb hc e n=>?_) (fun b o hc e=>?_) (fun m hm=>up.ns hm) fun b u e=>?_
 ·rcases two b hb with rfl|rfl
  ·exact f1
  ·exact f2
 ·obtain⟨o,ws,e,d⟩:=recd b hb;rintro rfl;obtain⟨m,⟨o',es,ep,e',d',_⟩,_⟩:=I.loc;rw[e]at e';cases e';rw[d]at d';cases d'
 ·obtain⟨o,ws,e1,d⟩:=recd b hb;obtain⟨v,o',e',d'⟩:=I.cell x c e;rw[z,e1]at e';cases e';rw[d]at d';cases d'
 ·rcases two b hb with rfl|rfl
  ·exact(hpn p hp).1
  ·exact(hpn p hp).2
 ·exact inB b o e (fun hm=>(List.mem_cons.mp (I.XB b hm)).elim hL hb) hc
 ·obtain⟨o2,e2,d2⟩:=fr b (inS b hb);rw[e]at e2;cases e2;exact up b o e d2
 ·by_cases hm:b∈frs X.stack
  ·obtain⟨o2,e2,d2⟩:=fr b hm;obtain⟨sl,q⟩:=up b o2 e2 d2;exact⟨_,q⟩
  ·exact⟨o,inB b o e hm hc⟩
 ·refine(I.hok b u e).UN (fun c v hc q=>inB c v q (fun hm=>?_) fun hm=>?_) (fun _ q=>q) fun _ _ q=>q
  ·have z:=I.Z1 c hm;rcases hc with rfl|hc
   ·rw[e]at z;cases z
   ·rw[hc]at z;cases z
  ·have z:H c=none:=by
    rcases two c hm with rfl|rfl
    ·exact ha
    ·exact hT
   rcases hc with rfl|hc
   ·rw[e]at z;cases z
   ·rw[hc]at z;cases z
def QdM(K:PySem.W.Frag)(C:Addr)(i n:Nat)(tb:XK->TS)(th:TS):TS:=fun D σ H=>
 tb (fun cls _ H'=>PySem.W.exmOne K cls (.ref C)=some true/\∀a,H' a=none->
  th {nx:=fun σ2 H2=>D.nx (σ2.set i none) H2,rt:=D.rt,bk:=fun σ2 H2=>D.bk (σ2.set i none) H2,ct:=fun σ2 H2=>D.ct (σ2.set i none) H2} ((List.replicate n none).set i (some (.ref a))) (upd H' a (xf a cls))) D σ H
theorem Qbp{body suite:List Stmt}{b₀:Stmt}{x nm:Str}{np hpos pos:Pos}{C:Addr}{i:Nat}{tb:XK->TS}{th:TS}(hc:X.calm=true)(hex:X.ex=[])(hstk:X.stack=X.env::X.outer)(hfr:X.env.frame=some X.env.locals)
  (hg:Gl X x) (hm:X.mg x=some (.ref C)) (hN:X.N.Nodup) (hi:X.N[i]? =some nm) (hl:X.env.scope.names.lookup nm=some .local)
  (hb:∀(E:XK)(pn:List (Addr × Obj))(xe:Value->Shared->Prop),Passes (CXE X.prog X.w) (X.alt pn xe) E->PSs (X.alt pn xe) body (tb E))
  (hs:∀v:Value,PSs (X.marked v fun _ _=>False) (b₀::suite) th) (hdb:(x==("__debug__":Str))=false:=by decide):
  PS X (.Try body [.ExceptHandler (some (.Name x np)) (some nm) (b₀::suite) hpos] [] [] pos) (QdM X.K C i X.N.length tb th):=by
 intro pins s σ H D I h;refine wpAny_Try_except ?_;have hpass:Passes (CXE X.prog X.w) (X.alt (X.pn++pins) fun e s'=>∃a T cls σ' H',e=.ref a/\Inv X pins σ' H' s'/\yG s'.heap a T cls/\H' a=none/\H' T=none/\X.s₀.heap.get? a=none/\X.s₀.heap.get? T=none/\
   (∀p∈X.pn++pins,p.1≠a/\p.1≠T)/\PySem.W.exmOne X.K cls (.ref C)=some true/\∀a,H' a=none->
  th {nx:=fun σ2 H2=>D.nx (σ2.set i none) H2,rt:=D.rt,bk:=fun σ2 H2=>D.bk (σ2.set i none) H2,ct:=fun σ2 H2=>D.ct (σ2.set i none) H2} ((List.replicate X.N.length none).set i (some (.ref a))) (upd H' a (xf a cls)))
   (fun cls _ H'=>PySem.W.exmOne X.K cls (.ref C)=some true/\∀a,H' a=none->
  th {nx:=fun σ2 H2=>D.nx (σ2.set i none) H2,rt:=D.rt,bk:=fun σ2 H2=>D.bk (σ2.set i none) H2,ct:=fun σ2 H2=>D.ct (σ2.set i none) H2} ((List.replicate X.N.length none).set i (some (.ref a))) (upd H' a (xf a cls))):=by
  intro pins2 σ2 H2 s2 e s' I2 q;obtain⟨a,T,cls,H',rfl,fl,n1,n2,ha,hT,os,bare,un,hok,hE⟩:=q;have I3:=I2.jB os un hok bare fun b hb=>nomatch hb;have frs0:∀b,s2.heap.get? b=none->X.s₀.heap.get? b=none:=fun b hb=>by
   cases q:X.s₀.heap.get? b with
   |none=>rfl
   |some o=>
    obtain⟨o',e'⟩:=I2.base.there b o q (by show b∉X.ex;rw[hex];simp);rw[hb]at e';cases e'
  have pn:∀b,s2.heap.get? b=none->∀p∈X.pn++pins,p.1≠b:=fun b hb p hp z=>by
   have:=(I2.pin p (List.mem_append_left _ hp)).1;rw[z,hb]at this;cases this
  exact⟨a,T,cls,σ2,H',rfl,I3.ofAlt,fl,ha,hT,frs0 a n1,frs0 T n2,fun p hp=>⟨pn a n1 p hp,pn T n2 p hp⟩,hE⟩
 refine wpAny_mono (hb _ (X.pn++pins) _ hpass [] s σ H D (I.QcF _) h) (fun f s1 q=>?_) (fun e s1 q=>?_)
 ·cases f with
  |next=>obtain⟨σ',H',I',q⟩:=q;exact wpAny_execs_nil ⟨σ',H',I'.ofAlt,q⟩
  |brk=>obtain⟨σ',H',I',q⟩:=q;exact⟨σ',H',I'.ofAlt,q⟩
  |cont=>obtain⟨σ',H',I',q⟩:=q;exact⟨σ',H',I'.ofAlt,q⟩
  |ret u=>obtain⟨v,σ',H',I',q⟩:=q;exact⟨v,σ',H',I'.ofAlt,q⟩
 ·obtain⟨a,T,cls,σ',H',rfl,I1,F1,ha,hT,f1,f2,hpn,hx,hh⟩:=q;obtain⟨oe,vs,oT,ts,a0,t1,t2,t3,t4,t5,t6,t7,t8,t9⟩:=id F1;have hfrm:X.A.frames=some (X.env::X.outer):=by rw[←hstk];exact I1.ok.frames
  have ff:s1.heap.FunFrames (PySem.W.hideAll s1.heap (frs X.stack++[a,T])) (X.env::X.outer):=by
   have z:=XQ I1 [a,T];rw[hstk]at z ⊢;exact z
  have fl0:Heap.FlyingW (PySem.W.hideAll s1.heap (frs X.stack++[a,T])) (X.env::X.outer) a cls a0 s1.heap:=
   ⟨fun b o q=>PySem.W.of_hideAll _ q,PySem.W.hideAll_none _ (List.mem_append_right _ (by simp)),ff,oe,vs,T,oT,ts,t1,⟨t2,t4⟩,t3,t5,PySem.W.hideAll_none _ (List.mem_append_right _ (by simp)),t6,t7,t8,t9⟩
  refine wpAny_looks_onW hfrm hfr fl0 fun h4 held up4=>?_;refine wpAny_landsW held fun h5 fl5 up5=>?_;have up15:s1.heap.UpToSlots h5:=up4.trans up5;have I5:Inv X pins σ' H' {s1 with heap:=h5}:=I1.looked (t':=s1.toks) hstk F1 ha hT f1 f2 hpn fl5.1 up15;obtain⟨oe5,vs5,e5,c5,d5,_⟩:=fl5.first;refine wpAny_handleBy_cons (codeAny_handlers_test ?_) (by intro q;cases q);refine Z2 (X:=X.marked (.ref a) fun _ _=>False) (I5.qS (.ref a) _) hg hm ?_ (hd:=hdb);have LT:PySem.W.Looks (model X.prog X.w) h5 (typeOf (.ref a)) cls:=by
   subst c5;exact(PySem.W.Looks.ld e5).andThen .now
  refine(PySem.W.exm_one (M:=model X.prog X.w) I5.kIn LT hx).here ?_;show codeAny _ _ (.handlers (.ref a) [.ExceptHandler none (some nm) (b₀::suite) hpos] X.env) _ _;refine codeAny_handlers_suite_as ?_;refine lands_againW fl5 fun h6 fl6 up6=>?_;have up16:s1.heap.UpToSlots h6:=up15.trans up6;have I6:Inv X pins σ' H' {s1 with heap:=h6}:=I1.looked (t':=s1.toks) hstk F1 ha hT f1 f2 hpn fl6.1 up16;obtain⟨oe6,vs6,e6,c6,d6,_⟩:=fl6.first;have aL:a≠X.env.locals:=by
   rintro rfl;obtain⟨m,⟨o',es,ep,e',d',_⟩,_⟩:=I1.loc;rw[t1]at e';cases e';rw[t3]at d';cases d'
  have aC:∀x c,X.env.cells.lookup x=some c->c≠a:=fun x c e z=>by
   obtain⟨v,o',e',d'⟩:=I1.cell x c e;rw[z,t1]at e';cases e';rw[t3]at d';cases d'
  refine X6 (X:=X.marked (.ref a) fun _ _=>False) (v:=V.ref a) (I6.qS (.ref a) fun _ _=>False) hN hi (.inl hl) rfl (fun s7 I7 sb=>?_) (.inr hl);have e7:s7.heap.get? a=some oe6:=by
   obtain⟨b,hs,hb⟩:=sb;rw[hs.2 a ?_]
   ·exact e6
   ·rcases hb with rfl|hb
    ·exact aL
    ·exact(aC _ _ hb).symm
  have I8:Inv (X.marked (.ref a) fun _ _=>False) pins ((List.replicate X.N.length none).set i (some (.ref a))) H' s7:=I7.weak (by rw[List.length_set,List.length_set,List.length_replicate];exact I1.len.symm) fun j v e=>by
   by_cases hj:j=i
   ·subst hj;rw[List.getElem?_set]at e ⊢;simp only[if_true,List.length_replicate]at e ⊢
    split at e
    ·rename_i hlt;rw[if_pos (by rw[I1.len];exact hlt)];exact e
    ·cases e
   ·rw[List.getElem?_set_ne (Ne.symm hj),List.getElem?_replicate]at e
    split at e<;>cases e
  have I9:=I8.xg (o:=xf a cls) ha f1 aL aC (fun p hp=>(hpn p hp).1) (yH e7 c6 d6);refine wpAny_mono (hs (.ref a) pins s7 _ _ _ I9 (hh a ha)) (fun f s8 q8=>?_) (fun _ _ z=>z.elim);have hnd:=I.ok.hd hc;cases f with
  |next=>obtain⟨σ8,H8,J,q⟩:=q8;exact name_goes (J.Wv hnd) hN hi hl fun s9 J9=>⟨_,_,J9,q⟩
  |brk=>obtain⟨σ8,H8,J,q⟩:=q8;exact name_goes (J.Wv hnd) hN hi hl fun s9 J9=>⟨_,_,J9,q⟩
  |cont=>obtain⟨σ8,H8,J,q⟩:=q8;exact name_goes (J.Wv hnd) hN hi hl fun s9 J9=>⟨_,_,J9,q⟩
  |ret u=>obtain⟨v,σ8,H8,J,q⟩:=q8;exact name_goes (J.Wv hnd) hN hi hl fun s9 J9=>⟨v,_,_,J9,q⟩
end
def Kh(a:Addr)(q:Str):HO:=.ext fun h=>∃o vs t,h.get? a=some o/\o.data=.fields vs/\vs[1]? =some (.str q t)
theorem wq{P:Program}{w:World}{H:Hp}{h:Heap}{a:Addr}{q:Str}(e:h.CodeRec (.ref a) q):Jd P w H h a (Kh a q):=by
 obtain⟨c,o,vs,t,e1,e2,e3,e4⟩:=e;cases e1;exact⟨⟨o,vs,t,e2,e3,e4⟩,⟨o,e2⟩,fun _ _⟨o,vs,t,e,r⟩ k=>⟨o,vs,t,k o e,r⟩⟩
theorem xh{P:Program}{w:World}{H:Hp}{h:Heap}{a:Addr}{q:Str}(e:Jd P w H h a (Kh a q)):h.CodeRec (.ref a) q:=by
 obtain⟨⟨o,vs,t,e2,e3,e4⟩,_⟩:=e;exact⟨a,o,vs,t,rfl,e2,e3,e4⟩
def Vp(H:Hp)(P:Addr)(q:Str):Prop:=
 ∃ps:Array Value,H P=some (.tbl ps)/\TriplesOk ps.toList/\∀pos cv,codeAmong pos ps.toList=some cv->∃a,cv=.ref a/\H a=some (Kh a q)
structure Lamb(mg:Str->Option Value)(base:Heap)(c P:Addr):Prop where
 hd:PySem.W.CodeHd base c P
 bm:∃bm ob,mg "__builtins__"=some (.ref bm)/\bm≠builtinsNs/\base.get? bm=some ob/\ob.cls=.type "module"/\ob.dict=some builtinsNs/\ob.data=.plain
theorem Uc{a b:Int}{ta tb:Tok}{c:Value}(l:List Value)(h:TriplesOk l):TriplesOk (l++[.int a ta,.int b tb,c]):=by
 fun_induction TriplesOk l with
 |case1=>simp[TriplesOk]
 |case2 a' t b' u x rest ih=>exact ih h
 |case3=>exact h.elim
theorem jM{p:Pos}{a b:Int}{ta tb:Tok}{c cv:Value}(l:List Value)(h:TriplesOk l)(e:codeAmong p (l++[.int a ta,.int b tb,c])=some cv):codeAmong p l=some cv\/cv=c:=by
 fun_induction TriplesOk l with
 |case1=>
  simp only[List.nil_append,codeAmong]at e
  split at e
  ·cases e;exact .inr rfl
  ·cases e
 |case2 a' t b' u x rest ih=>
  simp only[List.cons_append,codeAmong]at e ⊢
  split at e
  ·rename_i q;rw[if_pos q];exact .inl e
  ·rename_i q;rw[if_neg q];exact ih h e
 |case3=>exact h.elim
section
variable {X:Cx}{pins:List (Addr × Obj)}{σ:St}{H:Hp}{s:Shared}
theorem wu{c P:Addr}{q:Str}{params:Arguments}{body:Expr}{scope:Scope}{pos:Pos}{cl:List (Str × Addr)}{Q:Value->Shared->Prop}(I:Inv X pins σ H s)(L:Lamb X.mg X.base c P)(hcode:X.env.code=.ref c)(hq:q=X.env.qual++"<lambda>")
  (hdef:defaultsOf params X.env=([],[])) (hcl:closureFor scope X.env=pure cl) (T:Vp H P q)
  (h:∀f c' pm ctv H' s',Inv X pins σ H' s'->s'.heap.get? f=some (PySem.W.kla_obj "<lambda>" q params body scope cl pm c' ctv)->H' f=none->s.heap.objs.size<=f->H' c'=some (Kh c' q)->Vp H' P q->
   (∀b o,H b=some o->b≠P->H' b=some o)->(∀b o,s.heap.get? b=some o->b≠P->s'.heap.get? b=some o)->Q (.ref f) s'):
  wpAny (model X.prog X.w) X.A (eval (.Lambda params body scope pos) X.env) Q X.xe s:=by
 subst hq;obtain⟨ps,hP,ht,hc⟩:=T;obtain⟨bm,ob,b1,b2,b3,b4,b5,b6⟩:=L.bm;have hPo:s.heap.get? P=some (PySem.W.tabObj ps):=I.hok P _ hP;have hg:s.heap.Ns mainGlobals X.mg:=I.mod.glob.keeps I.bk;have hgP:mainGlobals≠P:=fun z=>by
  obtain⟨o,es,ep,e,hd,_⟩:=hg;rw[z,hPo]at e;cases e;cases hd
 have b3':=I.bk _ _ b3;have hbG:bm≠mainGlobals:=fun z=>by
  obtain⟨o,es,ep,e,hd,_⟩:=hg;rw[z,e]at b3';cases b3';rw[hd]at b6;cases b6
 have hbP:bm≠P:=fun z=>by
  rw[z,hPo]at b3';cases b3';cases b4
 have hB:s.heap.BuiltinsAt X.mg P:=⟨bm,ob,b1,b2,hbG,hbP,b3',b4,b5,b6⟩;refine PySem.W.kla_eval hdef ?_;cases ha:codeAmong pos ps.toList with
 |some cv=>
  obtain⟨c',rfl,hc'⟩:=hc pos cv ha;refine PySem.W.kla_makeFunctionHit hcl I.ok.glob hg hcode (L.hd.keeps I.bk) hPo ht ha hB fun ctv h' tk k hsz=>?_;have kp:∀b o,s.heap.get? b=some o->(h'.push (PySem.W.kla_obj "<lambda>" (X.env.qual++"<lambda>") params body scope cl ((X.mg "__name__").getD .none) c' ctv)).get? b=some o:=fun b o e=>Heap.get?_push_of_some _ (k b o e);exact h h'.objs.size c' _ ctv H _ (I.kept kp) (Heap.get?_push_size _ rfl) (I.hok.fresh hsz) hsz hc' ⟨ps,hP,ht,hc⟩ (fun _ _ e _=>e) fun b o e _=>kp b o e
 |none=>
  refine PySem.W.kla_makeFunction hcl I.ok.glob hg hcode (L.hd.keeps I.bk) hPo ht ha hgP hB fun c' ctv h' tk ext hge hlt hrec htb=>?_;have kp:∀b o,s.heap.get? b=some o->b≠P->(h'.push (PySem.W.kla_obj "<lambda>" (X.env.qual++"<lambda>") params body scope cl ((X.mg "__name__").getD .none) c' ctv)).get? b=some o:=fun b o e n=>Heap.get?_push_of_some _ (ext b o n e);have hc0:H c'=none:=I.hok.fresh hge;have ncP:c'≠P:=fun z=>by rw[z,hP]at hc0;cases hc0
  have Hk:∀b o,H b=some o->b≠P->upd (upd H P (.tbl (ps++ #[rawInt pos.line,rawInt pos.col,.ref c']))) c' (Kh c' (X.env.qual++"<lambda>")) b=some o:=fun b o e n=>by
   rw[Qp (Qs e hc0),Qp n];exact e
  have HP:upd (upd H P (.tbl (ps++ #[rawInt pos.line,rawInt pos.col,.ref c']))) c' (Kh c' (X.env.qual++"<lambda>")) P=some (.tbl (ps++ #[rawInt pos.line,rawInt pos.col,.ref c'])):=by
   rw[Qp ncP.symm,Qc]
  have hsz:s.heap.objs.size<=h'.objs.size:=Nat.le_of_lt (Nat.lt_of_le_of_lt hge hlt);refine h h'.objs.size c' _ ctv (upd (upd H P (.tbl (ps++ #[rawInt pos.line,rawInt pos.col,.ref c']))) c' (Kh c' (X.env.qual++"<lambda>"))) _ (I.un (t':=tk) ⟨fun b o e n hb hx=>?_,fun b o e n hb hx=>?_,fun b o e n hx=>?_,fun b o e hx=>?_,fun b xs e=>?_,fun b o u e=>?_,fun b qs e=>?_⟩ fun b u e=>?_) (Heap.get?_push_size _ rfl) ?_ hsz (Qc) ⟨_,HP,?_,fun p cv e=>?_⟩ Hk fun b o e n=>kp b o e n
  ·exact kp b o e fun z=>by rw[z,hP]at n;cases n
  ·exact⟨o.slots,kp b o e fun z=>by rw[z,hP]at n;cases n⟩
  ·have n1:b≠P:=fun z=>by rw[z,hP]at n;cases n
   have n2:b≠c':=Nat.ne_of_lt (Nat.lt_of_lt_of_le (Heap.lt_size e) hge);rw[Qp n2,Qp n1];exact n
  ·by_cases z:b=P
   ·exact⟨_,by rw[z];exact Heap.get?_push_of_some _ htb⟩
   ·exact⟨o,kp b o e z⟩
  ·exact Hk b _ e fun z=>by rw[z,hP]at e;cases e
  ·exact Hk b _ e fun z=>by rw[z,hP]at e;cases e
  ·by_cases z:b=P
   ·subst z;rw[hP]at e;cases e;exact⟨_,HP⟩
   ·exact⟨#[],by rw[Hk b _ e z];simp⟩
  ·by_cases z1:b=c'
   ·subst z1;rw[Qc]at e;cases e;exact wq (hrec.keeps fun b o e=>Heap.get?_push_of_some _ e)
   ·by_cases z2:b=P
    ·subst z2;rw[HP]at e;cases e;exact(Heap.get?_push_of_some _ htb:_)
    ·rw[Qp z1,Qp z2]at e;refine(I.hok b u e).UN (fun d v hd q'=>kp d v q' fun z=>?_) (fun d q'=>Hk d _ q' fun z=>by rw[z,hP]at q';cases q') fun d xs q'=>Hk d _ q' fun z=>by rw[z,hP]at q';cases q'
     rcases hd with rfl|hd
     ·exact z2 z
     ·rw[z,hP]at hd;cases hd
  ·have n2:h'.objs.size≠c':=Nat.ne_of_gt hlt;have n0:H h'.objs.size=none:=I.hok.fresh hsz;have n1:h'.objs.size≠P:=fun z=>by rw[z,hP]at n0;cases n0
   show upd _ _ _ _=none;rw[Qp n2,Qp n1];exact n0
  ·rw[Array.toList_append];exact Uc _ ht
  ·rw[Array.toList_append]at e;rcases jM _ ht e with e|rfl
   ·obtain⟨a,rfl,ha'⟩:=hc p cv e;exact⟨a,rfl,Hk a _ ha' fun z=>by rw[z,hP]at ha';cases ha'⟩
   ·exact⟨c',rfl,Qc⟩
end
def jN(P:Program)(w:World)(K:PySem.W.Frag)(mg:Str->Option Value)(base:Heap)(N:List Str)(q:Str)(scope:Scope)(f c':Addr)(cl:List (Str × Addr))(A:Around)(outer:List Env)(s:Shared)(H:Hp)(E:XK):Cx where
 prog:=P
 w:=w
 K:=K
 mg:=mg
 base:=base
 A:=A.deeper (PySem.W.envX q scope s.heap.objs.size f (.ref c') cl)
 N:=N
 s₀:=s
 H₀:=H
 env:=PySem.W.envX q scope s.heap.objs.size f (.ref c') cl
 outer:=outer
 stack:=PySem.W.envX q scope s.heap.objs.size f (.ref c') cl::outer
 ex:=[]
 calm:=true
 fn:=fun _=>false
 pn:=[]
 xe:=fun e s'=>wpAny (model P w) (A.deeper (PySem.W.envX q scope s.heap.objs.size f (.ref c') cl)) (leaving (PySem.W.envX q scope s.heap.objs.size f (.ref c') cl) e) (fun _ s''=>CXE P w outer H s E e s'') (fun e' s''=>CXE P w outer H s E e' s'') s'
theorem ww{P:Program}{w:World}{K:PySem.W.Frag}{mg:Str->Option Value}{base:Heap}{N:List Str}{q:Str}{scope:Scope}{f c':Addr}{cl:List (Str × Addr)}{A:Around}{outer:List Env}{s:Shared}{H:Hp}{E:XK}:
  Fram (jN P w K mg base N q scope f c' cl A outer s H E) E:=⟨rfl,rfl,rfl,fun _ _ h=>h⟩
structure CellsOk(N:List Str)(σ:St)(scope:Scope)(cl:List (Str × Addr))(H:Hp)(fs:List Addr)(h:Heap):Prop where
 inj:∀x y c,cl.lookup x=some c->cl.lookup y=some c->x=y
 has:∀x,scope.names.lookup x=some .free->∃c,cl.lookup x=some c
 none_:∀y∈scope.names,y.2≠ .local/\y.2≠ .cell
 cell:∀x c,cl.lookup x=some c->H c=none/\c∉fs/\∃v,h.IsCell c v
 val:∀(i:Nat)(x:Str)(v:V),N[i]? =some x->σ[i]? =some (some v)->scope.names.lookup x=some .free->∃u c,RelV v u/\cl.lookup x=some c/\h.IsCell c (some u)
section
variable {X:Cx}{pins:List (Addr × Obj)}{σ1:St}{H:Hp}{s:Shared}
theorem wy{k:Nat}{N:List Str}{σ:St}{q:Str}{params:Arguments}{body:Expr}{scope:Scope}{f c':Addr}{cl:List (Str × Addr)}{pm ctv:Value}{te:TE}{Q:VK}{E:XK}(I:Inv X pins σ1 H s)(hh:X.A.handled=none)(hr:Room (k+1) X.A)
  (ho:s.heap.get? f=some (PySem.W.kla_obj "<lambda>" q params body scope cl pm c' ctv)) (hc':H c'=some (Kh c' q)) (hk:scope.kind=.function) (hco:scope.isCoroutine=false) (hgen:scope.isGenerator=false)
  (hbind:bindArgs (PySem.W.kla_fn "<lambda>" q params body scope cl pm (.ref c') ctv) ⟨[],[]⟩=pure []) (hlen:σ.length=N.length)
  (C:CellsOk N σ scope cl H (frs X.stack) s.heap) (hx:Passes (CXE X.prog X.w) X E)
  (hb:Room k (X.A.deeper (PySem.W.envX q scope s.heap.objs.size f (.ref c') cl))->PE (jN X.prog X.w X.K X.mg X.base N q scope f c' cl X.A X.stack s H E) body te) (h:te σ H Q):
  wpAny (model X.prog X.w) X.A (call (.ref f) []) (EP X pins σ1 Q) X.xe s:=by
 have hcell:∀x∈scope.names,x.2≠ .cell:=fun x hx=>(C.none_ x hx).2;refine wpAny_call (codeAny_mono (R:=CR (CXE X.prog X.w) X.stack X.prog X.w H s Q E) ?_ fun r s' hq=>?_)
 ·refine PySem.W.kla_callFunE hr.depth ho rfl hco hgen rfl (xh (I.hok c' _ hc')) ?_;rw[hbind];refine wpAny_pure (wpAny_newFunctionEnv hcell (fun y hy=>nomatch hy) (fun h₁ hns hsb=>⟨I.nolimit.fresh _ hsb,?_⟩) hk);show codeAny _ _ (.expr body (PySem.W.envX q scope s.heap.objs.size f (.ref c') cl)) _ _;have hk₁:∀b o,s.heap.get? b=some o->h₁.get? b=some o:=fun b o e=>hsb.extBut b o (Nat.ne_of_lt (Heap.lt_size e)) (Heap.get?_push_of_some _ e);have vis:∀x,Vis scope x->scope.names.lookup x=some .free:=fun x hv=>by
   rcases hv with z|z|z
   ·exact absurd rfl (C.none_ _ (PySem.mem_of_lookup z)).1
   ·exact absurd rfl (C.none_ _ (PySem.mem_of_lookup z)).2
   ·exact z
  have J:Inv (jN X.prog X.w X.K X.mg X.base N q scope f c' cl X.A X.stack s H E) [] σ H {s with heap:=h₁,toks:=s.toks+([]:List (Str × Value)).length}:=by
   refine⟨⟨I.ok.mod,hk,rfl,rfl,Nat.le_refl _,C.inj,fun x hx'=>?_,(fun x c z _=>nomatch z),fun _=>hh,Around.frames_deeper I.ok.frames,.inr ⟨rfl,rfl⟩,fun b z=>absurd (show b∈([]:List Addr)from z) (by simp),I.bs,Nat.le_trans I.ok.bsz I.sz,fun b _ _ z=>absurd (show b∈([]:List Addr)from z) (by simp),fun b z=>absurd (show b∈([]:List Addr)from z) (by simp),I.stack,I.Z1⟩,
    rfl,I.bare,Un.kept hk₁,⟨_,hns,fun i x v h1 h2 h3=>?_⟩,fun x c e=>?_,I.hok.fresh (Nat.le_refl _),fun x c e=>(C.cell x c e).1,fun p hp=>absurd (show p∈([]:List (Addr × Obj))from hp) (by simp),I.hok.kept hk₁,hlen⟩
   ·have hx'':scope.names.lookup x=some .cell\/scope.names.lookup x=some .free:=hx';rcases hx'' with z|z
    ·exact absurd rfl (C.none_ _ (PySem.mem_of_lookup z)).2
    ·exact C.has x z
   ·obtain⟨u,c,r,e,⟨o,e1,e2⟩⟩:=C.val i x v h1 h2 (vis x h3);exact⟨u,r,.inr ⟨.inr (vis x h3),c,e,⟨o,hk₁ _ _ e1,e2⟩⟩⟩
   ·obtain⟨_,_,v,o,e1,e2⟩:=C.cell x c e;exact⟨v,o,hk₁ _ _ e1,e2⟩
  refine PySem.W.kla_codeExpr (wpAny_mono (hb (hr.deeper _) [] _ σ H Q J h) (fun v s' hq=>?_) fun e s' hq=>hq);obtain⟨y,H',J',r,q'⟩:=hq;exact⟨y,H',J'.os,J'.bare,J'.base,J'.hok,r,q'⟩
 ·cases r with
  |error e=>exact hx pins σ1 H s e s' I hq
  |ok fl=>
   cases fl with
   |ret u=>exact I.after hq
   |next=>exact False.elim hq
   |brk=>exact False.elim hq
   |cont=>exact False.elim hq
end
theorem QcG{CX:CXT}{P:Program}{w:World}{K:PySem.W.Frag}{mg:Str->Option Value}{base:Heap}{k:Nat}{f:Addr}{name qual:Str}{params:Arguments}{body:List Stmt}{scope:Scope}{dV kV doc pm cdv ct oc:Value}{an od:Option Addr}
  {osl:Array (Option Value)} {N ps:List Str} {A:Around} {outer:List Env} {s:Shared} {H:Hp} {args:Args} {us:List Value} {vs:List V} {Q:VK} {E:XK}
  (lk:K.lookup f=some ⟨oc,od,.func (PySem.W.fnOf name qual params body scope dV kV doc pm an cdv ct),osl⟩) (hcd:PySem.W.codeIn K cdv qual=true) (S:FnScope N ps scope)
  (hr:Room (k+1) A) (e0:Env0 P w K mg base A outer s H) (hb:BindsTo s (PySem.W.fnOf name qual params body scope dV kV doc pm an cdv ct) args (ps.zip us)) (r:Vals vs us) (hl:vs.length=ps.length)
  (hbody:Room k (A.deeper (envOfC qual scope s.heap.objs.size f cdv))->
   ∃t,PSs (Wm CX P w K mg base N qual scope f cdv A outer s H E) body t/\t {nx:=fun _ H'=>Q .non H',rt:=Q} (start N vs) H):
  codeAny (model P w) A (.call (.ref f) args) (CR CX outer P w H s Q E) s:=by
 have KX:K.In s.heap:=e0.mod.kin.keeps fun b o e=>(e0.bs b o e).1;have lim:s.heap.NoLimit:=e0.mod.nolimit.keeps fun b o e=>(e0.bs b o e).1;have hkind:∀y∈ps.zip us,scope.names.lookup y.1=some .local\/(scope.names.lookup y.1=some .cell/\((cellsFrom (s.heap.objs.size+1) scope.names []).lookup y.1).isSome=true):=fun⟨n,v⟩ hy=>by
  rcases S.par n (List.of_mem_zip hy).1 with q|q
  ·exact .inl q
  ·exact .inr ⟨q,PySem.W.cellsFrom_some _ _ _ (.inl q)⟩
 refine codeAny_call_function hr.depth (KX _ _ lk) rfl S.co S.gen rfl (PySem.W.codeRec_of KX hcd) (hb _ _ _ _ ?_);refine wpAny_newFunctionEnv_cells S.kind hkind fun env he s1 x=>?_;subst he;refine⟨lim.keeps x.toInCall.keep,codeAny_func ?_⟩;obtain⟨t,ht,hq⟩:=hbody (hr.deeper _);have I:Inv (Wm CX P w K mg base N qual scope f cdv A outer s H E) [] (start N vs) H s1:=Y5 S hr.hd e0 hl r x;refine wpAny_mono (ht [] s1 (start N vs) H _ I hq) (fun fl s' hs=>?_) fun e s' hs=>hs;have fin:∀{σ':St}{H':Hp}{v:V}{u:Value},Inv (Wm CX P w K mg base N qual scope f cdv A outer s H E) [] σ' H' s'->RelV v u->Q v H'->CE outer P w H s Q u s':=
  fun{σ' H' v u} J rv q=>⟨v,H',J.os,J.bare,J.base,J.hok,rv,q⟩
 cases fl with
 |ret u=>
  obtain⟨v,σ',H',J,rv,q⟩:=hs;exact fin J rv q
 |next=>
  obtain⟨σ',H',J,q⟩:=hs;exact fin (v:=V.non) (u:=Value.none) J rfl q
 |brk=>
  obtain⟨_,_,_,q⟩:=hs;exact False.elim q
 |cont=>
  obtain⟨_,_,_,q⟩:=hs;exact False.elim q
structure LamAt(X:Cx)(N:List Str)(σ:St)(q:Str)(params:Arguments)(body:Expr)(scope:Scope)(f c':Addr)(cl:List (Str × Addr))(pm ctv:Value):Prop where
 ob:X.s₀.heap.get? f=some (PySem.W.kla_obj "<lambda>" q params body scope cl pm c' ctv)
 un:X.H₀ f=none
 fr:f∉X.fs
 code:X.H₀ c'=some (Kh c' q)
 kind:scope.kind=.function
 co:scope.isCoroutine=false
 gen:scope.isGenerator=false
 bind:bindArgs (PySem.W.kla_fn "<lambda>" q params body scope cl pm (.ref c') ctv) ⟨[],[]⟩=pure []
 len:σ.length=N.length
 cells:CellsOk N σ scope cl X.H₀ X.fs X.s₀.heap
def QcH(i:Nat)(f c':Addr)(q:Str)(σ:St)(te:TE):TE:=fun σ1 H Q=>σ1[i]? =some (some (.ref f))/\H c'=some (Kh c' q)/\te σ H Q
section
variable {X:Cx}
theorem yI{k i:Nat}{x:Str}{p pos:Pos}{N:List Str}{σ:St}{q:Str}{params:Arguments}{body:Expr}{scope:Scope}{f c':Addr}{cl:List (Str × Addr)}{pm ctv:Value}{te:TE}{E:XK}
  (L:LamAt X N σ q params body scope f c' cl pm ctv) (hex:X.ex=[]) (hcalm:X.calm=true) (hN:X.N[i]? =some x) (hv:Vis X.env.scope x) (hr:Room (k+1) X.A) (hx:Passes (CXE X.prog X.w) X E)
  (hloc:∀x c,cl.lookup x=some c->c<X.s₀.heap.objs.size)
  (hb:∀s H,Room k (X.A.deeper (PySem.W.envX q scope s.heap.objs.size f (.ref c') cl))->PE (jN X.prog X.w X.K X.mg X.base N q scope f c' cl X.A X.stack s H E) body te)
  (hd:(x==("__debug__":Str))=false:=by decide) (hcd:(x==("__classdict__":Str))=false:=by decide):PE X (.Call (.Name x p) [] [] pos) (QcH i f c' q σ te):=by
 intro pins s σ1 H Q I h;obtain⟨h1,h2,h3⟩:=h;have nex:∀b:Addr,b∉X.ex:=fun b z=>by rw[hex]at z;cases z
 have ho:=I.base.keep f _ L.ob L.un L.fr (nex f);refine wpAny_Call_Name_kw (thn (vT (X:=X) hN hv hd hcd pins s σ1 H (fun v H'=>v=.ref f/\H'=H) I ⟨_,h1,rfl,rfl⟩) fun u s1⟨v,H',I1,rv,e,e2⟩=>?_);subst e e2;obtain rfl:u=Value.ref f:=rv;have ho1:=I1.base.keep f _ L.ob L.un L.fr (nex f);have neL:∀b,b<X.s₀.heap.objs.size->b≠X.env.locals:=fun b hb=>Nat.ne_of_lt (Nat.lt_of_lt_of_le hb I1.ok.above);refine PySem.W.callWith_of (P:=fun h=>h=s1.heap) rfl (fun h e=>⟨.frame,.inl rfl,by subst e;exact(PySem.W.Looks.ld (part:=none) ho1).andThen .now⟩) (PyProof.Rows.evalArgs_nil3 ⟨rfl,?_⟩);refine wy I1 (I1.ok.hd hcalm) hr ho1 h2 L.kind L.co L.gen L.bind L.len ?_ hx (hb s1 H') h3;refine⟨L.cells.inj,L.cells.has,L.cells.none_,fun x c e=>?_,fun j y v e1 e2 e3=>?_⟩
 ·obtain⟨a1,a2,v,o,a3,a4⟩:=L.cells.cell x c e;refine⟨I1.base.free c o a3 a1 (nex c),fun z=>?_,v,o,I1.base.keep c o a3 a1 a2 (nex c),a4⟩;rcases List.mem_cons.mp (I1.XB c z)with z|z
  ·exact neL c (hloc x c e) z
  ·exact a2 z
 ·obtain⟨u,c,r,e,o,a3,a4⟩:=L.cells.val j y v e1 e2 e3;obtain⟨a1,a2,_⟩:=L.cells.cell y c e;exact⟨u,c,r,e,o,I1.base.keep c o a3 a1 a2 (nex c),a4⟩
end
section
variable {X:Cx}
theorem qT{i:Int}(h:i.natAbs<2^2000):Builtin.Int.intBits i<=2^20:=Nat.le_trans (intBits_le h) (by decide)
def QdN(i j:Int):Prop:=i.natAbs<2^2000/\j.natAbs<2^2000
theorem yJ:OpR X (binaryOp .Mult) (rI QdN fun i j=>.int (i*j)):=opI fun _ _ _ _ _ _ _ hc q=>mul_int q (IntMulOk.of_bits (qT hc.1) (qT hc.2))
theorem V2:X9 X (.type "int") (fun xs H Q=>∃x n,xs=[.str x]/\PySem.intText? x=some n/\x.length<=640/\Q (.int n) H):=by
 intro pins s σ H xs us Q I r h;obtain⟨x,n,rfl,hn,hl,q⟩:=h;obtain⟨u,rfl,t,rfl⟩:=vals1 r;exact PySem.W.KIN.call_text hn hl ⟨.int n,H,I.tok _,⟨_,rfl⟩,q⟩
theorem Ud{pins:List (Addr × Obj)}{σ:St}{H:Hp}{s:Shared}{A:Around}{xs ys:List V}{its its2:List Value}{e:Nat->Bool}{n:Nat}(r1:Vals xs its)(r2:Vals ys its2)
  (he:∀j x y u v,xs[j]? =some x->ys[j]? =some y->RelV x u->RelV y v->SeqAt.EqAt A s u v (e j)):∀j(h1:j<its.toArray.size)(h2:j<its2.toArray.size),SeqAt.EqAt A s its.toArray[j] its2.toArray[j] (e j):=by
 intro j h1 h2;have l1:=r1.length;have l2:=r2.length;rw[List.size_toArray]at h1 h2;have k1:xs[j]? =some xs[j]:=List.getElem?_eq_getElem (by omega);have k2:ys[j]? =some ys[j]:=List.getElem?_eq_getElem (by omega);obtain⟨u,e1,q1⟩:=r1.get k1;obtain⟨v,e2,q2⟩:=r2.get k2;have z1:its.toArray[j]=u:=by
  rw[List.getElem?_eq_getElem h1]at e1;simpa using Option.some.inj e1
 have z2:its2.toArray[j]=v:=by
  rw[List.getElem?_eq_getElem h2]at e2;simpa using Option.some.inj e2
 rw[z1,z2];exact he j _ _ u v k1 k2 q1 q2
def Qbq:V->List V->Hp->VK->Prop:=fun x vs H Q=>∃l xs y,x=.ref l/\vs=[y]/\H l=some (.lst xs)/\XN y=true/\xs.all XN=true/\Q (.int (xs.countP fun z=>eqV z y)) H
theorem VD{y:V}:∀{xs:List V}{us:List Value},Vals xs us->xs.all XN=true->us.countP (eqU y)=xs.countP fun z=>eqV z y
 |_,_,.nil,_=>rfl
 |x::xs,u::us,.cons r t,h=>by
  rw[List.all_cons,Bool.and_eq_true]at h;rw[List.countP_cons,List.countP_cons,VD t h.2,qL r h.1]
theorem wz:MtR X "list.count" Qbq:=by
 intro pins s σ H x vs v us Q I rx rv h;obtain⟨l,xs,y,rfl,rfl,hH,fy,fs,q⟩:=h;obtain rfl:v=Value.ref l:=rx;obtain⟨u,rfl,ru⟩:=vals1 rv;obtain⟨z,its,n,r,hl,e⟩:=I.v7 hH;refine call_meets PySem.F.slot_list_count ⟨_,e,rfl⟩ PySem.F.entry_list_count (PySem.F.args_list_count_2 _ _) (SeqAt.list_countAt l its.toArray n none #[] u (eqU y)) ⟨e,fun w hw=>ZM ru fy r fs w (by simpa using hw),?_⟩;rw[show its.toArray.toList=its from rfl,VD r fs];exact⟨.int _,H,I.tok _,⟨_,rfl⟩,q⟩
def Qbr:V->List V->Hp->VK->Prop:=fun x vs H Q=>∃l xs y j,x=.ref l/\vs=[y]/\H l=some (.lst xs)/\XN y=true/\xs.all XN=true/\(∃z,xs[j]? =some z/\eqV z y=true)/\(∀i z,i<j->xs[i]? =some z->eqV z y=false)/\Q (.int (j:Nat)) H
theorem wA:MtR X "list.index" Qbr:=by
 intro pins s σ H x vs v us Q I rx rv h;obtain⟨l,xs,y,j,rfl,rfl,hH,fy,fs,⟨zj,hz,hit⟩,hno,q⟩:=h;obtain rfl:v=Value.ref l:=rx;obtain⟨u,rfl,ru⟩:=vals1 rv;obtain⟨z,its,n,r,hl,e⟩:=I.v7 hH;have hj:j<xs.length:=(List.getElem?_eq_some_iff.mp hz).1;have at_:∀(i:Nat)(hi:i<its.toArray.size)(w:V),xs[i]? =some w->eqU y its.toArray[i]=eqV w y:=fun i hi w hw=>by
  obtain⟨w',e1,q1⟩:=r.get hw;have hi':i<its.length:=by simpa using hi
  rw[List.getElem?_eq_getElem hi']at e1;have z1:its.toArray[i]=w':=by simpa using Option.some.inj e1
  rw[z1];refine qL q1 ?_;exact List.all_eq_true.mp fs w (List.mem_of_getElem? hw)
 have hsz:its.toArray.size=xs.length:=by rw[List.size_toArray];exact hl.symm
 refine call_meets PySem.F.slot_list_index ⟨_,e,rfl⟩ PySem.F.entry_list_index (PySem.F.args_list_index_2 _ _)
  (SeqAt.list_indexAt l its.toArray n none #[] u (eqU y) j (by omega) (by have:=XE;omega) ?_ ?_) ⟨e,fun w hw=>ZM ru fy r fs w (by simpa using hw),⟨.int _,H,I.tok _,⟨_,rfl⟩,q⟩⟩
 ·rw[at_ j (by omega) zj hz];exact hit
 ·intro m hm hlt;have:xs[m]? =some xs[m]:=List.getElem?_eq_getElem (by omega);rw[at_ m hm _ this];exact hno m _ hlt this
end
structure ErrK(K:PySem.W.Frag)(C:Addr):Prop where
 ex:PySem.W.excIn K C [.type "ValueError",.type "Exception",.type "BaseException",.type "object"] "ValueError.__new__"=true
 ga:PySem.W.findIn K (.ref C) "__getattribute__"=some (some (.builtin "BaseException.__getattribute__"))
 gn:PySem.W.findIn K (.ref C) "__getattr__"=some none
 cl:PySem.W.findIn K (.ref C) "__class__"=some (some (.builtin "object.__class__"))
theorem ErrK.err{K:PySem.W.Frag}{C:Addr}(e:ErrK K C):Err K C:=⟨e.ex⟩
theorem V3{K:PySem.W.Frag}{C:Addr}{h:Heap}(KX:K.In h)(e:Err K C):∃bm N nm q bs hdct sn sub ab col dd k0 k1 k2 k3 k5,h.get? C=some (excClassObj nm q C N bs bm hdct sn sub ab col dd k0 k1 k2 k3 k5 "ValueError.__new__")/\
  OwnTail h [.type "ValueError",.type "Exception",.type "BaseException",.type "object"] bm:=by
 have q:=e.ex;unfold PySem.W.excIn at q
 split at q
 ·rename_i dd cd sl ho
  split at q
  ·rename_i C' bm k0 k1 k2 k3 n k5 hm hs;simp only[Bool.and_eq_true,beq_iff_eq,Bool.not_eq_true']at q;obtain⟨⟨⟨⟨⟨rfl,rfl⟩,hdel⟩,ht⟩,hok⟩,hni⟩:=q;obtain⟨nm,bs,mro,ns,qn,hd,sn,sub,ab,col,del⟩:=cd;dsimp only at hm hdel hok hni;subst hm hdel;have hsl:sl= #[k0,k1,k2,k3,some (.builtin "ValueError.__new__"),k5]:=by
    obtain⟨l⟩:=sl;simp only at hs;rw[hs]
   subst hsl;exact⟨bm,ns,nm,qn,bs,hd,sn,sub,ab,col,dd,k0,k1,k2,k3,k5,KX _ _ ho,PySem.W.tail_of_in KX ht⟩
  ·cases q
 ·cases q
section
variable {prog:Program}{w:World}{A:Around}{E:Value->Shared->Prop}{h:Heap}{g:Array GenState}{d:Drawn}{t:Nat}{os:OsState}{K:PySem.W.Frag}{a C:Addr}{o:Obj}
theorem V4{R:Result->Shared->Prop}(KX:K.In h)(e:ErrK K C)(hx:h.get? a=some o)(hc:o.cls=.ref C)(hq:R (.ok (.ret (.ref C))) ⟨h,g,d,t,os⟩):
  codeAny (model prog w) A (.call (.builtin "getset_descriptor.__get__") ⟨[.builtin "object.__class__",.ref a,.ref C],[]⟩) R ⟨h,g,d,t,os⟩:=by
 obtain⟨bm,N,nm,q,bs,hdct,sn,sub,ab,col,dd,k0,k1,k2,k3,k5,hC,T⟩:=V3 KX e.err;have hT5:(⟨h,g,d,t,os⟩:Shared).TypeIs (.builtin "object.__class__") "getset_descriptor":=F.typeOf_object_class;have hcB:(Value.ref C::bm).contains (.type (".".intercalate ("object.__class__".cutAt '.').dropLast))=true:=by
  rw[F.owner_object_class,List.contains_cons,T.hasType (X:="object") (b:=true) (by decide)];rfl
 refine codeAny_call_builtin F.slot_gs_get.plain F.entry_gs_get (F.slot_gs_get.check _ _ _ _ _ _ _ _ hT5 (F.args_gs_get _ _ _) ?_)
 repeat (any_goals (first|assumption|(with_reducible refine wpAny_loadPart_at hx ?_;rw[hc])|(with_reducible refine wpAny_isSubtype_exc hC ?_;rw[hcB])|wp_step))
 refine⟨Code.quiet_builtin _ (by decide+kernel),codeAny_builtin F.entry_object_class ?_⟩
 repeat (any_goals (first|assumption|(with_reducible refine wpAny_loadPart_at hx ?_;rw[hc])|wp_step))
theorem WO{tk:Tok}{Q:Fin->Shared->Prop}(KX:K.In h)(e:ErrK K C)(hx:h.get? a=some o)(hc:o.cls=.ref C)(hq:Q (.done (.ret (.ref C))) ⟨h,g,d,t,os⟩):
  wpAny (model prog w) A (Builtin.«object.__getattribute__» ⟨[.ref a,.str "__class__" tk],[]⟩) Q E ⟨h,g,d,t,os⟩:=by
 have L:=PySem.W.looks_findIn (M:=model prog w) KX e.cl;have hT5:(⟨h,g,d,t,os⟩:Shared).TypeIs (.builtin "object.__class__") "getset_descriptor":=F.typeOf_object_class;have f5:=F.typeOf_object_class;have f6:=F.slot_gs_get.lookup;have f7:=F.slot_gs_set.lookup
 repeat (any_goals (first|assumption|(with_reducible refine wpAny_loadPart_at hx ?_;rw[hc])|with_reducible refine PySem.W.Looks.at L ?_|wp_step))
 refine V4 KX e hx hc ?_
 repeat (any_goals (first|assumption|wp_step))
theorem WP{M:Model}{nameV:Value}{Q:Unit->Shared->Prop}(KX:K.In h)(e:ErrK K C)(hx:h.get? a=some o)(hc:o.cls=.ref C)(hq:Q () ⟨h,g,d,t,os⟩):
  wpAny M A (checkBuiltinCall "BaseException.__getattribute__" ⟨[.ref a,nameV],[]⟩) Q E ⟨h,g,d,t,os⟩:=by
 obtain⟨bm,N,nm,q,bs,hdct,sn,sub,ab,col,dd,k0,k1,k2,k3,k5,hC,T⟩:=V3 KX e.err;have hk:builtinKind "BaseException.__getattribute__"=some .slot:=by decide+kernel
 have hsplit:splitId "BaseException.__getattribute__"=some ("BaseException","__getattribute__"):=by decide+kernel
 have hcB:(Value.ref C::bm).contains (.type "BaseException")=true:=by rw[List.contains_cons,T.hasType (X:="BaseException") (b:=true) (by decide)];rfl
 have ha:=F.args_bexc_ga (.ref a) nameV;simp only[checkBuiltinCall,hk,hsplit];refine wpAny_bind ?_
 ·unfold isInstance
  repeat (first|(with_reducible refine wpAny_loadPart_at hx ?_;rw[hc])|(with_reducible refine wpAny_isSubtype_exc hC ?_;rw[hcB])|wp_step)
  exact hq
theorem Vq{tk:Tok}{R:Result->Shared->Prop}(KX:K.In h)(e:ErrK K C)(hx:h.get? a=some o)(hc:o.cls=.ref C)(hq:R (.ok (.ret (.ref C))) ⟨h,g,d,t,os⟩):
  codeAny (model prog w) A (.call (.builtin "BaseException.__getattribute__") ⟨[.ref a,.str "__class__" tk],[]⟩) R ⟨h,g,d,t,os⟩:=
 codeAny_call_builtin F.excAttr_ValueError.ga.plain F.entry_bexc_ga (WP KX e hx hc (WO KX e hx hc hq))
theorem Ue{tk:Tok}{Q:Value->Shared->Prop}(KX:K.In h)(e:ErrK K C)(hx:h.get? a=some o)(hc:o.cls=.ref C)(hq:Q (.ref C) ⟨h,g,d,t,os⟩):
  wpAny (model prog w) A (getAttrBy (.ref a) (.str "__class__" tk) false) Q E ⟨h,g,d,t,os⟩:=by
 have L1:=PySem.W.looks_findIn (M:=model prog w) KX e.ga;have L2:=PySem.W.looks_findIn (M:=model prog w) KX e.gn;have f3:=F.excAttr_ValueError.ga.bind (.ref a);have hx2:(Value.builtin "BaseException.__getattribute__"==Value.builtin "object.__getattribute__")=false:=by decide+kernel
 have hx1:(onTheHeap (Value.ref C)&&Value.builtin "BaseException.__getattribute__"==Value.builtin "object.__getattribute__")=false:=by rw[hx2];rfl
 repeat (any_goals (first|assumption|(with_reducible refine wpAny_loadPart_at hx ?_;rw[hc])|with_reducible refine PySem.W.Looks.at L1 ?_|with_reducible refine PySem.W.Looks.at L2 ?_|wp_step))
 refine Vq KX e hx hc ?_
 repeat (any_goals (first|assumption|wp_step))
theorem Vr{Q:Option Value->Shared->Prop}(KX:K.In h)(e:ErrK K C)(hx:h.get? a=some o)(hc:o.cls=.ref C)(hq:Q (some (.ref C)) ⟨h,g,d,t+1,os⟩):
  wpAny (model prog w) A (getAttr? (.ref a) "__class__") Q E ⟨h,g,d,t,os⟩:=by
 unfold getAttr? getAttrBy?
 repeat (any_goals (first|assumption|with_reducible apply Ue KX e hx hc|wp_step))
end
theorem wB{K:PySem.W.Frag}{a C:Addr}(e:ErrK K C):PySem.W.KitX K (.ref a) (.ref C) (fun h=>∃o,h.get? a=some o/\o.cls=.ref C) where
 ty:=fun M h X⟨o,e1,e2⟩=>by
  rw[←e2];exact(PySem.W.Looks.ld e1).andThen .now
 it:=fun M h X _=>by
  obtain⟨bm,N,nm,q,bs,hdct,sn,sub,ab,col,dd,k0,k1,k2,k3,k5,hC,T⟩:=V3 X e.err;intro A' Q' E' s' k q;unfold isType loadHead;exact wpAny_bind (wpAny_loadPart (k _ _ hC) (wpAny_pure q))
 ne:=fun h tp dd its n sl X htp=>by
  obtain⟨bm,N,nm,q,bs,hdct,sn,sub,ab,col,dd,k0,k1,k2,k3,k5,hC,T⟩:=V3 X e.err;refine Bool.eq_false_iff.mpr fun q=>?_;have e:C=tp:=Value.ref.inj (beq_iff_eq.mp q);subst e;rw[hC]at htp;exact absurd (Value.type.inj (congrArg Obj.cls (Option.some.inj htp))) (by decide)
 ca:=fun{prog w A E Q s} X⟨o,e1,e2⟩ k=>by
  obtain⟨h,g,d,t,os⟩:=s;exact Vr X e e1 e2 k
section
variable {X:Cx}
def yK:V->Bool
 | .ref _=>true
 | .ty _=>true
 |_=>false
def yL:V->Value
 | .ref C=>.ref C
 | .ty n=>.type n
 |_=>.none
theorem yM{c:V}{u:Value}(h:yK c=true)(r:RelV c u):u=yL c:=by
 cases c<;>first|exact r|cases h
def QdO(K:PySem.W.Frag):List V->Hp->VK->Prop:=fun xs H Q=>∃x c b,xs=[x,c]/\yK c=true/\((∃t,TyOf K H x t/\PySem.W.kitOne K t (yL c)=some b)\/∃a C,x=.ref a/\H a=some (xf a (.ref C))/\ErrK K C/\PySem.W.kitOne K (.ref C) (yL c)=some b)/\Q (.bl b) H
theorem QI:X9 X (.builtin "isinstance") (QdO X.K):=by
 intro pins s σ H xs us Q I r h;obtain⟨x,c,b,rfl,hc,hx,q⟩:=h;obtain⟨u,u2,rfl,ru,ru2⟩:=vals2 r;obtain rfl:=yM hc ru2;rcases hx with⟨t,ty,k⟩|⟨a,C,rfl,hH,e,k⟩
 ·exact zM I ru ty k fun tk=>⟨.bl b,H,I.tok tk,rfl,q⟩
 ·obtain rfl:u=Value.ref a:=ru;obtain⟨⟨o,vs,e1,e2,_⟩,_⟩:=(show Jd X.prog X.w H s.heap a (xf a (.ref C))from I.hok a _ hH);exact PySem.W.kia_one (wB e) I.kIn ⟨o,e1,e2⟩ k (fun z=>nomatch z) fun tk=>⟨.bl b,H,I.tok tk,rfl,q⟩
end
def wC(P:Addr)(H:Hp):Prop:=H P=some (.tbl #[])/\∀b,b≠P->H b=none\/∃o xs,H b=some (.frz o (.lst xs))
def UV(K:PySem.W.Frag):Bool:=K.all fun p=>match p.2.cls with
 | .type n=> !(n=="list")
 |_=>true
theorem jO{K:PySem.W.Frag}{a:Addr}{o:Obj}(h:UV K=true)(e:K.lookup a=some o):o.cls≠ .type "list":=fun z=>by
 have q:=List.all_eq_true.mp h (a,o) (PySem.W.mem_of_lookupK e);dsimp only at q;rw[z]at q;exact absurd q (by decide)
theorem xj{Pr:Program}{w:World}{K:PySem.W.Frag}{mg mb:Str->Option Value}{CX:CXT}{k:Nat}{fa a c P:Addr}{fd:FuncData}{x:Str}{sp:Sp}{s₁:Shared}{vs:List Value}{ns:List Int}
  (KX:K.In s₁.heap) (nL:UV K=true) (nT:PySem.W.noTabs K=true) (hns:s₁.heap.Ns mainGlobals mg) (hb:s₁.heap.Ns builtinsNs mb) (hbb:∀x:Str,x≠"__name__"->mb x=bootBuiltins x) (hlim:s₁.heap.NoLimit) (hg:s₁.gens= #[])
  (hC:PySem.W.CodeHd s₁.heap c P) (hP:s₁.heap.get? P=some (PySem.W.tabObj #[])) (hbm:∃bm ob,mg "__builtins__"=some (.ref bm)/\bm≠builtinsNs/\s₁.heap.get? bm=some ob/\ob.cls=.type "module"/\ob.dict=some builtinsNs/\ob.data=.plain)
  (ha:s₁.heap.get? a=some {cls:=.type "list",data:=.seq vs.toArray}) (hi:IntsAre vs ns) (hl:ns.length<=sizeLine) (hr:Room k callerA)
  (F:∀base:Heap,K.In base->base.Ns mainGlobals mg->Lamb mg base c P->FnOk Pr w K mg base CX k fa fd [x] sp) (hbind:∀(s:Shared)(u:Value),BindsTo s fd ⟨[u],[]⟩ [(x,u)])
  (hsp:∀H:Hp,wC P H->(∃o,H a=some (.frz o (.lst (ns.map V.int))))->sp [.ref a] H (fun v _=>v=.bl true) fun _ _ _=>False)
  (hCX:∀H e s',CX [] H s₁ (fun _ _ _=>False) e s'->False):
  codeAny (model Pr w) callerA (.call (.ref fa) ⟨[.ref a],[]⟩) (fun r s'=>r=.ok (.ret (.bool true))/\OldK s₁.heap s'.heap/\s'.os=s₁.os/\AllBare s'.gens) s₁:=by
 have rv:=Ua hi;have lenV:=hi.length;have hPa:P≠a:=fun z=>by rw[z,ha]at hP;cases hP
 have hKP:K.lookup P=none:=by
  cases q:K.lookup P with
  |none=>rfl
  |some o=>
   have e:=KX P o q;rw[hP]at e;cases e;have z:=List.all_eq_true.mp nT (P,_) (PySem.W.mem_of_lookupK q);exact absurd (show false=true from z) Bool.false_ne_true
 have core:∀H:Hp,wC P H->(∃o,H a=some (.frz o (.lst (ns.map V.int))))->HOk Pr w H s₁.heap->(∀b,H b≠none->b=a\/b=P)->(H a≠none->K.lookup a=none)->
   codeAny (model Pr w) callerA (.call (.ref fa) ⟨[.ref a],[]⟩) (fun r s'=>r=.ok (.ret (.bool true))/\OldK s₁.heap s'.heap/\s'.os=s₁.os/\AllBare s'.gens) s₁:=by
  intro H hO hS hok hA hK;have base_of:∀{b:Addr}{o:Obj},s₁.heap.get? b=some o->H b=none->(kY s₁.heap H).get? b=some o:=fun e n=>k8 e n;have noO:∀{b:Addr}{o:Obj},s₁.heap.get? b=some o->(∀vs n,o.data≠ .seq vs n)->(o.cls≠ .none)->H b=none:=fun{b o} e d1 d2=>by
   cases q:H b with
   |none=>rfl
   |some u=>
    rcases hA b (by rw[q];simp)with z|z
    ·subst z;rw[ha]at e;cases e;exact absurd rfl (d1 _ _)
    ·subst z;rw[hP]at e;cases e;exact absurd rfl d2
  have noA:∀{b:Addr}{o:Obj}{es:Array DictEntry}{ep:Nat},s₁.heap.get? b=some o->o.data=.dict es ep->H b=none:=fun{b o es ep} e d=>by
   cases q:H b with
   |none=>rfl
   |some u=>
    rcases hA b (by rw[q];simp)with z|z
    ·subst z;rw[ha]at e;cases e;cases d
    ·subst z;rw[hP]at e;cases e;cases d
  have nsK:∀{b:Addr}{m:Str->Option Value},s₁.heap.Ns b m->(kY s₁.heap H).Ns b m:=fun{b m}⟨o,es,ep,e,d,r⟩=>⟨o,es,ep,base_of e (noA e d),d,r⟩;have hKb:K.In (kY s₁.heap H):=fun b o e=>base_of (KX b o e) (by
   cases q:H b with
   |none=>rfl
   |some u=>
    rcases hA b (by rw[q];simp)with z|z
    ·subst z;rw[hK (by rw[q];simp)]at e;cases e
    ·subst z;rw[hKP]at e;cases e)
  have hM:Mod K mg (kY s₁.heap H):=⟨hKb,nsK hns,⟨mb,nsK hb,hbb⟩,let ⟨mc,h1,h2⟩:=hlim;⟨mc,nsK h1,h2⟩⟩;have e0:Env0 Pr w K mg (kY s₁.heap H) callerA [] s₁ H:=⟨rfl,hM,fun b o e=>yr e,Nat.le_of_eq (zA _ _),trivial,fun b hb=>absurd (show b∈([]:List Addr)from hb) (by simp),hok,.of_eq hg⟩;have L:Lamb mg (kY s₁.heap H) c P:=by
   obtain⟨o,vs',file,tf,flags,tg,inF,text,tt,e1,r1,r2,r⟩:=hC;obtain⟨bm,ob,b1,b2,b3,b4,b5,b6⟩:=hbm;exact⟨⟨o,vs',file,tf,flags,tg,inF,text,tt,base_of e1 (noO e1 (fun vs n z=>by rw[r2]at z;cases z) fun z=>by rw[r1]at z;cases z),r1,r2,r⟩,
    ⟨bm,ob,b1,b2,base_of b3 (noO b3 (fun vs n z=>by rw[b6]at z;cases z) fun z=>by rw[b4]at z;cases z),b4,b5,b6⟩⟩
  refine codeAny_mono ((F _ hKb (nsK hns) L).run callerA [] s₁ H ⟨[.ref a],[]⟩ [.ref a] [.ref a] _ _ hr e0 (hbind s₁ (.ref a)) (.cons rfl .nil) (hsp H hO hS)) fun r s' h=>?_;cases r with
  |error e=>exact(hCX H e s' h).elim
  |ok fl=>
   cases fl with
   |next=>exact False.elim h
   |brk=>exact False.elim h
   |cont=>exact False.elim h
   |ret u=>
    obtain⟨v,H',os,bare,un,hok',r',q⟩:=h;have q':v=.bl true:=q;subst q';obtain rfl:u=Value.bool true:=r';have tabK:∃ps,s'.heap.get? P=some (PySem.W.tabObj ps):=by
     obtain⟨more,e⟩:=un.tbls P #[] hO.1;exact⟨_,hok' P _ e⟩
    have keep:∀b o,b≠P->s₁.heap.get? b=some o->s'.heap.get? b=some o:=fun b o hbP e=>by
     cases q:H b with
     |none=>exact un.keep b o e q (by intro z;exact absurd (show b∈([]:List Addr)from z) (by simp)) (by simp)
     |some u=>
      rcases hO.2 b hbP with z|⟨ob,xs,z⟩
      ·rw[q]at z;cases z
      ·have z2:=un.frzs b ob _ z;obtain⟨e1,_⟩:=hok b _ z;obtain⟨e2,_⟩:=hok' b _ z2;rw[e]at e1;cases e1;exact e2
    refine⟨rfl,⟨fun b o e=>?_,fun b o e=>?_⟩,os,bare⟩
    ·by_cases hbP:b=P
     ·subst hbP;rw[hP]at e;cases e;obtain⟨ps,e2⟩:=tabK;exact .inr (.inl ⟨(hC.tab hP).isCodeTable,rfl, #[],ps,rfl,by rw[Array.empty_append];exact e2⟩)
     ·exact .inl (keep b o hbP e)
    ·by_cases hbP:b=P
     ·subst hbP;obtain⟨ps,e2⟩:=tabK;exact⟨_,e2⟩
     ·exact⟨o,keep b o hbP e⟩
 cases hk:K.lookup a with
 |some o=>
  have e:=KX a o hk;rw[ha]at e;cases e;exact absurd rfl (jO nL hk)
 |none=>
  refine core (fun b=>if b=a then some (.frz {cls:=.type "list",data:=.seq vs.toArray} (.lst (ns.map V.int)))else if b=P then some (.tbl #[])else none) ⟨?_,fun b hb=>?_⟩ ⟨{cls:=.type "list",data:=.seq vs.toArray},if_pos rfl⟩ (fun b u z=>?_) (fun b z=>?_) fun _=>hk
  ·show(if P=a then _ else if P=P then _ else _)=_;rw[if_neg hPa,if_pos rfl]
  ·by_cases h1:b=a
   ·exact .inr ⟨_,_,if_pos h1⟩
   ·exact .inl (by show(if b=a then _ else if b=P then _ else _)=_;rw[if_neg h1,if_neg hb])
  ·by_cases h1:b=a
   ·have z':=(if_pos h1).symm.trans z;cases z';subst h1;exact⟨ha,by rw[List.length_map];exact hl,vs,_,rv,ha⟩
   ·have z1:=(if_neg h1).symm.trans z
    by_cases hb:b=P
    ·subst hb;have z':=(if_pos rfl).symm.trans z1;cases z';exact hP
    ·have z':=(if_neg hb).symm.trans z1;cases z'
  ·by_cases h1:b=a
   ·exact .inl h1
   ·by_cases hb:b=P
    ·exact .inr hb
    ·exact absurd ((if_neg h1).trans (if_neg hb)) z
theorem wD{l:PySem.W.OpenLaw}{n k:Nat}{q:Program}{loose:List Str}{XP:(Str->Option Value)->Heap->Prop}{YP:World->Heap->Prop}{d d':DefRec}{K:Params->PySem.W.Frag}{CX:World->CXT}{sp:World->Addr->Sp}{x:Str}
  (hn:l.most=some n) (hn2:n<=sizeLine) (hdf:d.params.defaults=[]) (hr:Room k callerA)
  (hY:∀(w:World)(h:Heap),YP w h->(K w.params).In h) (nL:∀w:World,UV (K w.params)=true) (nT:∀w:World,PySem.W.noTabs (K w.params)=true) (hrec:(recsOf q).find? (fun e=>e.name==d.name)=some d')
  (hT:∀w:World,∃c P,PySem.W.tabIn (K w.params) d.name=some (c,P))
  (F:∀(w:World)(mg:Str->Option Value)(fa:Addr)(h:Heap),(K w.params).In h->h.Ns mainGlobals mg->mg d.name=some (.ref fa)->
   ∃fd:FuncData,(∀(s:Shared)(u:Value),BindsTo s fd ⟨[u],[]⟩ [(x,u)])/\
    ∀(base:Heap)(c P:Addr),PySem.W.tabIn (K w.params) d.name=some (c,P)->(K w.params).In base->base.Ns mainGlobals mg->Lamb mg base c P->FnOk l.prog w (K w.params) mg base (CX w) k fa fd [x] (sp w P))
  (hsp:∀(w:World)(H:Hp)(a P:Addr)(ns:List Int),ns.length<=n->wC P H->(∃o,H a=some (.frz o (.lst (ns.map V.int))))->sp w P [.ref a] H (fun v _=>v=.bl true) fun _ _ _=>False)
  (hCX:∀(w:World)(H:Hp)(s:Shared)(e:Value)(s':Shared),CX w [] H s (fun _ _ _=>False) e s'->False):
  PySem.W.WalkO q loose XP YP l.row.toRowW d [] (fun f vs=>PySem.call f vs):=by
 refine Att.UU hn hdf fun w s₀ s₁ mg mb fa o pm cd doc a vs ns G Y ho hd hcd hmg hobj hints hlen hg=>?_;have KX:=hY w _ Y;obtain⟨fd,hb,hF⟩:=F w mg fa _ KX G.T.g hmg;obtain⟨c,P,ht⟩:=hT w;obtain⟨hC,hP⟩:=PySem.W.tab_of G.T KX hrec ht;exact xj (c:=c) (P:=P) (sp:=sp w P) KX (nL w) (nT w) G.T.g G.T.b G.T.builtins G.T.nolimit hg hC hP G.T.bmain hobj hints (Nat.le_trans hlen hn2) hr (fun base kb nb L=>hF base c P ht kb nb L) hb (fun H hO hS=>hsp w H a P ns hlen hO hS) fun H e s'=>hCX w H s₁ e s'
section
variable {X:Cx}
end
def Jf(cells:List (Str × Addr)):List (Str × NameKind)->List (Str × Addr)->List (Str × Addr)
 |[],acc=>acc
 |(n,k)::r,acc=>Jf cells r (if k==.free then(n,(cells.lookup n).getD 0)::acc else acc)
theorem xk{env:Env}:∀(names:List (Str × NameKind))(acc:List (Str × Addr)),(∀y∈names,y.2=.free->∃c,env.cells.lookup y.1=some c)->
  (forIn names acc fun x(cs:List (Str × Addr))=>(do
   let (name,kind):=x
   if kind==.free then
    let c←cellOf env name
    pure (ForInStep.yield ((name,c)::cs))
   else pure (ForInStep.yield cs):Sem (ForInStep (List (Str × Addr)))))=pure (Jf env.cells names acc)
 |[],acc,_=>rfl
 |(n,k)::r,acc,h=>by
  rw[List.forIn_cons];have ih:=fun acc'=>xk (env:=env) r acc' fun y hy=>h y (List.mem_cons_of_mem _ hy)
  by_cases hk:k=.free
  ·subst hk;obtain⟨c,hc⟩:=h (n,.free) List.mem_cons_self rfl;have hc':env.cells.lookup n=some c:=hc;show _=pure (Jf env.cells r (if NameKind.free==NameKind.free then _ else _));have e:cellOf env n=pure c:=by unfold cellOf;rw[hc']
   simp only[beq_self_eq_true,if_true,e,pure_bind,hc',Option.getD_some];exact ih _
  ·have hb:(k==NameKind.free)=false:=beq_eq_false_iff_ne.mpr hk;show _=pure (Jf env.cells r (if k==NameKind.free then _ else _));simp only[hb,Bool.false_eq_true,if_false,pure_bind];exact ih _
theorem Zb{scope:Scope}{env:Env}(h:∀y∈scope.names,y.2=.free->∃c,env.cells.lookup y.1=some c):closureFor scope env=pure (Jf env.cells scope.names []):=by
 unfold closureFor;have:=xk (env:=env) scope.names [] h;simp only[bind_pure]at this ⊢;exact this
theorem Ki{cells:List (Str × Addr)}{x:Str}{c:Addr}:∀(names:List (Str × NameKind))(acc:List (Str × Addr)),(∀y∈names,y.2=.free->∃c,cells.lookup y.1=some c)->(acc.lookup x=some c->cells.lookup x=some c)->
  (Jf cells names acc).lookup x=some c->cells.lookup x=some c
 |[],_,_,h,e=>h e
 |(n,k)::r,acc,h0,h,e=>by
  unfold Jf at e;refine Ki r _ (fun y hy=>h0 y (List.mem_cons_of_mem _ hy)) (fun e'=>?_) e
  split at e'
  ·rename_i hk;rw[List.lookup_cons]at e'
   split at e'
   ·rename_i hx;have hx':x=n:=eq_of_beq hx;subst hx';obtain⟨d,hd⟩:=h0 (x,k) List.mem_cons_self (eq_of_beq hk);have hd':cells.lookup x=some d:=hd;rw[hd']at e' ⊢;exact e'
   ·exact h e'
  ·exact h e'
theorem ZO{cells:List (Str × Addr)}{x:Str}:∀(names:List (Str × NameKind))(acc:List (Str × Addr)),((∃c,acc.lookup x=some c)\/(x,NameKind.free)∈names)->∃c,(Jf cells names acc).lookup x=some c
 |[],acc,h=>by
  rcases h with h|h
  ·exact h
  ·cases h
 |(n,k)::r,acc,h=>by
  unfold Jf;refine ZO r _ ?_;rcases h with⟨c,h⟩|h
  ·refine .inl ?_
   split
   ·rw[List.lookup_cons]
    split
    ·exact⟨_,rfl⟩
    ·exact⟨c,h⟩
   ·exact⟨c,h⟩
  ·rcases List.mem_cons.mp h with e|h
   ·cases e;refine .inl ?_;rw[if_pos (by rfl),List.lookup_cons,beq_self_eq_true];exact⟨_,rfl⟩
   ·exact .inr h
section
variable {P:Program}{w:World}{K:PySem.W.Frag}{mg:Str->Option Value}{base:Heap}
theorem okE{x qual:Str}{st:Stmt}{f:Addr}{fd:FuncData}{N ps:List Str}{k:Nat}{sp:Sp}(F:Fun K x qual st f fd)(S:FnScope N ps (Qf st))(len:∀vs H Q E,sp vs H Q E->vs.length=ps.length)
  (hbody:∀(cdv:Value)(A:Around)(outer:List Env)(s:Shared)(H:Hp)(vs:List V)(Q:VK)(E:XK),Room k (A.deeper (envOfC qual (Qf st) s.heap.objs.size f cdv))->sp vs H Q E->
   ∃t,PSs (Wm (CXE P w) P w K mg base N qual (Qf st) f cdv A outer s H E) (Q0 st) t/\t {nx:=fun _ H'=>Q .non H',rt:=Q} (start N vs) H):FnOk P w K mg base (CXE P w) (k+1) f fd ps sp:=by
 obtain⟨oc,od,kV,doc,pm,an,cdv,ct,osl,rfl,lk,hcd⟩:=F.ex;exact Qbb lk hcd S len fun A outer s H vs Q E hr hsp=>hbody cdv A outer s H vs Q E hr hsp
theorem okN{x qual:Str}{st:Stmt}{f:Addr}{fd:FuncData}{N ps:List Str}{k:Nat}{sp:Sp}(F:Fun K x qual st f fd)(S:FnScope N ps (Qf st))(len:∀vs H Q E,sp vs H Q E->vs.length=ps.length)
  (hbody:∀(cdv:Value)(A:Around)(outer:List Env)(s:Shared)(H:Hp)(vs:List V)(Q:VK)(E:XK),Room k (A.deeper (envOfC qual (Qf st) s.heap.objs.size f cdv))->sp vs H Q E->
   ∃t,PSs (Wm (CXE P w) P w K mg base N qual (Qf st) f cdv A outer s H E).nox (Q0 st) t/\t {nx:=fun _ H'=>Q .non H',rt:=Q} (start N vs) H):FnOk P w K mg base (CXE P w) (k+1) f fd ps sp:=
 okE F S len fun cdv A outer s H vs Q E hr hsp=>by
  obtain⟨t,h,q⟩:=hbody cdv A outer s H vs Q E hr hsp;exact⟨t,h.nox,q⟩
end
structure PEx(X:Cx)(e:Expr)(t:TE):Prop where
 pe:PE X e t
structure PSx(X:Cx)(e:List Stmt)(t:TS):Prop where
 ps:PSs X e t
theorem QcI{X:Cx}{k1 k2 v1 v2:Expr}{pos pos':Pos}{t1 t2 u1 u2:TE}(h1:PEx X k1 t1)(h2:PEx X v1 u1)(h3:PEx X k2 t2)(h4:PEx X v2 u2):PSx X [.Return (some (.Dict [some k1,some k2] [v1,v2] pos)) pos'] (yt (wn [(t1,u1),(t2,u2)])):=
 ⟨Qg (QA (z9 (V1 h1.pe h2.pe (V1 h3.pe h4.pe z4)) rfl rfl (List.cons_ne_nil _ _) (Nat.le_of_ble_eq_true rfl)))⟩
theorem jP{X:Cx}{x y:Str}{i:Int}{p1 p2 p3 p4 p5 p6:Pos}{j1 j2 j3:Nat}:PSx X [.Return (some (.Dict [some (.Constant (.str x) j1 p1),some (.Constant (.str y) j2 p2)] [.Constant (.int i) j3 p3,.Dict [] [] p4] p5)) p6] (yt (wn [(tC (.str x),tC (.int i)),(tC (.str y),yb)])):=
 QcI ⟨Qm⟩ ⟨Qd⟩ ⟨Qm⟩ ⟨wm⟩
theorem WQ{P:Program}{w:World}{K:PySem.W.Frag}{mg:Str->Option Value}{base:Heap}{x qual:Str}{st:Stmt}{f:Addr}{fd:FuncData}{N ps:List Str}{k:Nat}{sp:Sp}(F:Fun K x qual st f fd)(S:FnScope N ps (Qf st))(len:∀vs H Q E,sp vs H Q E->vs.length=ps.length)
  (hbody:∀(cdv:Value)(A:Around)(outer:List Env)(s:Shared)(H:Hp)(vs:List V)(Q:VK)(E:XK),Room k (A.deeper (envOfC qual (Qf st) s.heap.objs.size f cdv))->sp vs H Q E->
   ∃t,PSx (Wm (CXE P w) P w K mg base N qual (Qf st) f cdv A outer s H E).nox (Q0 st) t/\t {nx:=fun _ H'=>Q .non H',rt:=Q} (start N vs) H):FnOk P w K mg base (CXE P w) (k+1) f fd ps sp:=
 okN F S len fun cdv A outer s H vs Q E hr hsp=>by
  obtain⟨t,h,q⟩:=hbody cdv A outer s H vs Q E hr hsp;exact⟨t,h.ps,q⟩
structure Def(P:Program)(w:World)(K:PySem.W.Frag)(mg:Str->Option Value)(base:Heap)(k:Nat)(x:Str)(ps:List Str)(sp:Sp):Prop where
 ex:∃f fd,mg x=some (.ref f)/\PySem.W.keepIn K (.ref f)=true/\Binds K fd ps []/\FnOk P w K mg base (CXE P w) k f fd ps sp
def g11{α:Type}:List α->List α->List α
 |[a],[b]=>[a,b]
 |_,_=>[]
theorem yN{vs zs:List V}{us ws:List Value}(r:Vals vs us)(r2:Vals zs ws):Vals (g11 vs zs) (g11 us ws):=by
 match r,r2 with
 | .cons a .nil,.cons b .nil=>exact .cons a (.cons b .nil)
 | .nil,_=>exact .nil
 | .cons _ (.cons _ _),_=>exact .nil
 | .cons _ .nil,.nil=>exact .nil
 | .cons _ .nil,.cons _ (.cons _ _)=>exact .nil
theorem yO{α:Type}{us ws:List α}(h:(g11 us ws).length=2):∃a b,us=[a]/\ws=[b]:=by
 match us,ws,h with
 |[a],[b],_=>exact⟨a,b,rfl,rfl⟩
section
variable {X:Cx}{k k':Nat}{x:Str}{ps:List Str}{sp:Sp}{E:XK}{p pos:Pos}{e:Expr}{es:List Expr}{t:TA}
theorem Def.pe(D:Def X.prog X.w X.K X.mg X.base k x ps sp)(hr:Room k' X.A)(hk:k<=k')(hg:Gl X x)(hx:Passes (CXE X.prog X.w) X E)(ha:PA X (e::es) t)(hdb:(x==("__debug__":Str))=false:=by decide)
  (he:starEach (e::es) X.env=(false,eval e X.env)::starEach es X.env:=by rfl) (hpl:(backTo pos (starEach es X.env)).any (·.1)=false:=by rfl):PE X (.Call (.Name x p) (e::es) [] pos) (WI sp [] E t):=by
 obtain⟨f,fd,h1,h2,h3,h4⟩:=D.ex;exact yz h4 (hr.mono hk) hg h1 h2 h3 .nil hx ha hdb he hpl
theorem Def.pe0(D:Def X.prog X.w X.K X.mg X.base k x ps sp)(hr:Room k' X.A)(hk:k<=k')(hg:Gl X x)(hx:Passes (CXE X.prog X.w) X E)(hdb:(x==("__debug__":Str))=false:=by decide):
  PE X (.Call (.Name x p) [] [] pos) (WI sp [] E Wq):=by
 obtain⟨f,fd,h1,h2,h3,h4⟩:=D.ex;exact we h4 (hr.mono hk) hg h1 h2 h3 .nil hx hdb
end
structure DefK(P:Program)(w:World)(K:PySem.W.Frag)(mg:Str->Option Value)(base:Heap)(k:Nat)(x:Str)(ps ks:List Str)(sp:Sp):Prop where
 ex:∃f fd,mg x=some (.ref f)/\PySem.W.keepIn K (.ref f)=true/\KBinds K fd ps ks g11 g11/\FnOk P w K mg base (CXE P w) k f fd ps sp
section
variable {X:Cx}{k k':Nat}{x:Str}{ps ks:List Str}{sp:Sp}{E:XK}{p pos:Pos}{e:Expr}{es:List Expr}{t tk:TA}{kws:List Keyword}
theorem DefK.pe(D:DefK X.prog X.w X.K X.mg X.base k x ps ks sp)(hr:Room k' X.A)(hk:k<=k')(hg:Gl X x)(hx:Passes (CXE X.prog X.w) X E)(ha:PA X (e::es) t)(hkw:PK X kws tk)
  (hall:(backToKw pos (keywordEach kws X.env)).all (·.1.isSome)=true:=by rfl) (hks:(backToKw pos (keywordEach kws X.env)).filterMap (·.1)=ks:=by rfl)
  (hdb:(x==("__debug__":Str))=false:=by decide) (he:starEach (e::es) X.env=(false,eval e X.env)::starEach es X.env:=by rfl)
  (hpl:((backTo pos (starEach (e::es) X.env)).any (·.1)||(backToKw pos (keywordEach kws X.env)).any (·.1.isNone))=false:=by rfl):
  PE X (.Call (.Name x p) (e::es) kws pos) (vZ sp g11 E t tk):=by
 obtain⟨f,fd,h1,h2,h3,h4⟩:=D.ex;exact wf h4 (hr.mono hk) hg h1 h2 h3 hx ha hkw hall hks hdb he hpl
end
theorem ifB{c:Bool}{A B:Prop}(hT:c=true->A)(hF:c=false->B):if c=true then A else B:=by
 cases c with
 |true=>rw[if_pos rfl];exact hT rfl
 |false=>rw[if_neg (by decide)];exact hF rfl
theorem yP(x y:Int):(!decide (V.int x=V.int y))=decide (x≠y):=by
 by_cases h:x=y
 ·subst h;simp
 ·rw[decide_eq_false (fun e=>h (V.int.inj e)),decide_eq_true h];rfl
theorem WR(x y:Int):decide (V.int x=V.int y)=decide (x=y):=by
 by_cases h:x=y
 ·subst h;simp
 ·rw[decide_eq_false (fun e=>h (V.int.inj e)),decide_eq_false h]
theorem SqL.upd{K:PySem.W.Frag}{H:Hp}{a b:Addr}{o:HO}{xs:List V}(h:SqL K H a xs)(n:a≠b):SqL K (upd H b o) a xs:=by
 rcases h with(h|⟨o',h⟩)|h
 ·exact .inl (.inl (by rw[Qp n];exact h))
 ·exact .inl (.inr ⟨o',by rw[Qp n];exact h⟩)
 ·exact .inr h
theorem Qk.new{H:Hp}{p:Addr}{o:HO}(h:H p=none):Qk H (upd H p o):=fun b u e=>by rw[Qp (Qs e h)];exact e
structure TownAt(H:Hp)(t r:Addr)(c:Int)(rs:List (Key × V)):Prop where
 tw:H t=some (.dK [(Sum.inr "count",.int c),(Sum.inr "rests",.ref r)])
 rt:H r=some (.dK rs)
 vs:∀kv∈rs,∃k z,kv=(Sum.inl k,V.int z)
 c0:0<=c
 ln:(rs.length:Int)<=c
 ne:t≠r
theorem TownAt.same{H H':Hp}{t r:Addr}{c:Int}{rs:List (Key × V)}(T:TownAt H t r c rs)(e:Qk H H'):TownAt H' t r c rs:=⟨e _ _ T.tw,e _ _ T.rt,T.vs,T.c0,T.ln,T.ne⟩
def Apart(t r:Addr)(H H':Hp):Prop:=∀b o,H b=some o->b≠t->b≠r->H' b=some o
theorem Apart.trans{t r:Addr}{H H1 H2:Hp}(a:Apart t r H H1)(b:Apart t r H1 H2):Apart t r H H2:=fun c o e n1 n2=>b c o (a c o e n1 n2) n1 n2
theorem Apart.of{t r:Addr}{H H1:Hp}(a:Qk H H1):Apart t r H H1:=fun c o e _ _=>a c o e
theorem Apart.seq{K:PySem.W.Frag}{t r a:Addr}{H H':Hp}{xs:List V}(e:Apart t r H H')(h:SqL K H a xs)(n1:a≠t)(n2:a≠r):SqL K H' a xs:=by
 rcases h with(h|⟨o,h⟩)|h
 ·exact .inl (.inl (e _ _ h n1 n2))
 ·exact .inl (.inr ⟨o,e _ _ h n1 n2⟩)
 ·exact .inr h
theorem Uf{rs:List (Key × V)}(h:∀kv∈rs,∃k z,kv=(Sum.inl k,V.int z)) (k:Int) (d:Int):∃z,(V0 rs (Sum.inl k:Key)).getD (.int d)=.int z:=by
 cases e:rs.find? fun kv=>decide (kv.1=(Sum.inl k:Key))with
 |none=>exact⟨d,by unfold V0;rw[e];rfl⟩
 |some p=>
  obtain⟨k',z,rfl⟩:=h p (List.mem_of_find?_eq_some e);exact⟨z,by unfold V0;rw[e];rfl⟩
theorem Ug{rs:List (Key × V)}(h:∀kv∈rs,∃k z,kv=(Sum.inl k,V.int z)) (k z:Int):(∀kv∈putK rs (Sum.inl k:Key) (.int z),∃k z,kv=(Sum.inl k,V.int z))/\(putK rs (Sum.inl k:Key) (.int z)).length<=rs.length+1:=by
 unfold putK
 split
 ·refine⟨fun kv hm=>?_,by rw[List.length_map];omega⟩;obtain⟨p,hp,rfl⟩:=List.mem_map.mp hm;obtain⟨k',z',rfl⟩:=h p hp
  split
  ·exact⟨k',z,rfl⟩
  ·exact⟨k',z',rfl⟩
 ·refine⟨fun kv hm=>?_,by rw[List.length_append];exact Nat.le_refl _⟩;rcases List.mem_append.mp hm with hm|hm
  ·exact h kv hm
  ·exact⟨k,z,List.mem_singleton.mp hm⟩
theorem xm:¬ ((Sum.inr "count":Key)=(Sum.inr "rests":Key)):=by
 have h:¬ ("count":Str)="rests":=by decide+kernel
 exact fun e=>h (Sum.inr.inj e)
theorem wE(c d:Int)(r:Addr):putK [((Sum.inr "count":Key),V.int c),(Sum.inr "rests",V.ref r)] (Sum.inr "count") (.int d)=[((Sum.inr "count":Key),V.int d),((Sum.inr "rests":Key),V.ref r)]:=by
 have h:¬ ((Sum.inr "rests":Key)=(Sum.inr "count":Key)):=fun e=>xm e.symm;unfold putK;rw[if_pos (by simp)];simp only[List.map_cons,List.map_nil,if_true,if_neg h]
theorem Xp{H:Hp}{t r:Addr}{c:Int}(h:H t=some (.dK [(Sum.inr "count",.int c),(Sum.inr "rests",.ref r)])):qQ H t (.str "count") (some (.int c)):=by
 have e:=qQ.k (k:=(Sum.inr "count":Key)) h;rw[Kd rfl]at e;exact e
theorem Xq{H:Hp}{t r:Addr}{c:Int}(h:H t=some (.dK [(Sum.inr "count",.int c),(Sum.inr "rests",.ref r)])):qQ H t (.str "rests") (some (.ref r)):=by
 have e:=qQ.k (k:=(Sum.inr "rests":Key)) h;rw[Wt xm,Kd rfl]at e;exact e
theorem jQ{H:Hp}{t r:Addr}{c:Int}(d:Int)(h:H t=some (.dK [(Sum.inr "count",.int c),(Sum.inr "rests",.ref r)])):v8 H t (.str "count") (.int d) (upd H t (.dK [(Sum.inr "count",.int d),(Sum.inr "rests",.ref r)])):=by
 have e:=v8.k (k:=(Sum.inr "count":Key)) (v:=.int d) h (by show 2<sizeLine;decide);rw[wE]at e;exact e
def WS(K:PySem.W.Frag):Sp:=fun vs H Q _=>∃(a t r:Addr)(ns:List Int)(c many:Int)(rs:List (Key × V)),vs=[.ref a,.ref t,.int many]/\SqL K H a (ns.map V.int)/\TownAt H t r c rs/\a≠t/\a≠r/\ns.length<=63/\c<100000/\0<many/\many<1000000/\
 ∀(v:Int)(rs':List (Key × V))(H':Hp),0<=v->v<many->TownAt H' t r (c+1) rs'->Apart t r H H'->Q (.int v) H'
def UW:Sp:=fun vs H Q _=>vs=[]/\∀(t r:Addr)(H':Hp),H t=none->H r=none->TownAt H' t r 0 []->Qk H H'->Q (.ref t) H'
structure Own(mg:Str->Option Value):Prop where
 len:mg "len"=none
 range:mg "range"=none
 abs:mg "abs"=none
 max:mg "max"=none
 int:mg "int"=none
 isi:mg "isinstance"=none
 bool:mg "bool"=none
 val:mg "ValueError"=none
 reversed:mg "reversed"=none
 divmod:mg "divmod"=none
 str:mg "str"=none
 sum:mg "sum"=none
def E00:XK:=fun _ _ _=>False
theorem LamAt.alt{X:Cx}{N:List Str}{σ:St}{q:Str}{params:Arguments}{body:Expr}{scope:Scope}{f c':Addr}{cl:List (Str × Addr)}{pm ctv:Value}{pn:List (Addr × Obj)}{xe:Value->Shared->Prop}
  (L:LamAt X N σ q params body scope f c' cl pm ctv):LamAt (X.alt pn xe) N σ q params body scope f c' cl pm ctv:=
 ⟨L.ob,L.un,L.fr,L.code,L.kind,L.co,L.gen,L.bind,L.len,L.cells⟩
def QcJ(P:Addr)(q:Str)(th:St->Addr->Addr->Hp->VK->Prop):TE:=fun σ H Q=>Vp H P q/\∀(f c':Addr)(H1:Hp),H1 f=none->H1 c'=some (Kh c' q)->Vp H1 P q->(∀b o,H b=some o->b≠P->H1 b=some o)->th σ f c' H1 Q
section
variable {X:Cx}{k:Nat}{x qual:Str}{st:Stmt}{fa:Addr}{fd:FuncData}{N:List Str}{p1:Str}{E:XK}{c P:Addr}{q:Str}{params:Arguments}{body:Expr}{scope:Scope}{p lpos cpos:Pos}{th:St->Addr->Addr->Hp->VK->Prop}
theorem jR(F:Fun X.K x qual st fa fd)(S:FnScope N [p1] (Qf st))(hm:X.mg x=some (.ref fa))(hg:Gl X x)(hb:Binds X.K fd [p1] [])(hr:Room (k+1) X.A)(hx:Passes (CXE X.prog X.w) X E)
  (L:Lamb X.mg X.base c P) (hcode:X.env.code=.ref c) (hq:q=X.env.qual++"<lambda>") (hdef:defaultsOf params X.env=([],[])) (hfn:∀y,X.fn y=true)
  (sk:scope.kind=.function) (sco:scope.isCoroutine=false) (sgen:scope.isGenerator=false) (snone:∀y∈scope.names,y.2≠ .local/\y.2≠ .cell) (sfree:∀y∈scope.names,y.2=.free->X.env.scope.names.lookup y.1=some .cell)
  (hbind:∀cl pm c' ctv,bindArgs (PySem.W.kla_fn "<lambda>" q params body scope cl pm (.ref c') ctv) ⟨[],[]⟩=pure [])
  (hbody:∀(cdv:Value)(σ:St)(f c':Addr)(cl:List (Str × Addr))(pm ctv:Value)(s1:Shared)(H1:Hp)(Q:VK),
   LamAt (Wm (CXE X.prog X.w) X.prog X.w X.K X.mg X.base N qual (Qf st) fa cdv X.A X.stack s1 H1 E) X.N σ q params body scope f c' cl pm ctv->
   (∀x c,cl.lookup x=some c->c<s1.heap.objs.size)->Room k (X.A.deeper (envOfC qual (Qf st) s1.heap.objs.size fa cdv))->th σ f c' H1 Q->
   ∃t,PSs (Wm (CXE X.prog X.w) X.prog X.w X.K X.mg X.base N qual (Qf st) fa cdv X.A X.stack s1 H1 E) (Q0 st) t/\t {nx:=fun _ H'=>Q .non H',rt:=Q} (start N [.ref f]) H1)
  (hdb:(x==("__debug__":Str))=false:=by decide):PE X (.Call (.Name x p) [.Lambda params body scope lpos] [] cpos) (QcJ P q th):=by
 intro pins s σ H Q I h;obtain⟨hT,h⟩:=h;obtain⟨oc,od,kV,doc,pm',an,cdv,ct,osl,rfl,lk,hcd⟩:=F.ex;have has:∀y∈scope.names,y.2=.free->∃c,X.env.cells.lookup y.1=some c:=fun y hy e=>I.ok.has y.1 (.inl (sfree y hy e));refine wpAny_Call_Name_kw (Z2 I hg hm ?_ hdb);refine PySem.W.callWith_K (h₀:=X.base) I.ok.mod.kin F.kp ?_ rfl rfl;show wpAny _ _ (spliced ((false,eval (.Lambda params body scope lpos) X.env)::[])) _ _ s;refine Calls.spliced_cons (wu I L hcode hq hdef (Zb has) hT fun f c' pm ctv H1 s1 I1 ob un fr code T1 keep kp=>Calls.spliced_nil ⟨I1.kIn,?_⟩);have fs0:∀b∈frs X.stack,∃o,s.heap.get? b=some o:=fun b hb=>let ⟨o,e,_⟩:=(I.stack.mem hb).2;⟨o,e⟩;have cs:∀y d,(Jf X.env.cells scope.names []).lookup y=some d->X.env.cells.lookup y=some d:=fun y d e=>Ki scope.names [] has (fun z=>nomatch z) e;have frS:∀b∈frs X.stack,b=X.env.locals\/b∈X.fs:=fun b hb=>List.mem_cons.mp (I.XB b hb);have LA:LamAt (Wm (CXE X.prog X.w) X.prog X.w X.K X.mg X.base N qual (Qf st) fa cdv X.A X.stack s1 H1 E) X.N σ q params body scope f c' (Jf X.env.cells scope.names []) pm ctv:=by
  refine⟨ob,un,fun hf=>?_,code,sk,sco,sgen,hbind _ _ _ _,I.len,⟨fun y z d e1 e2=>I.ok.inj y z d (cs y d e1) (cs z d e2),fun y hy=>ZO scope.names [] (.inr (PySem.mem_of_lookup hy)),snone,fun y d e=>?_,fun j y v e1 e2 e3=>?_⟩⟩
  ·obtain⟨o,e⟩:=fs0 f hf;exact absurd (Heap.lt_size e) (Nat.not_lt.mpr fr)
  ·refine⟨I1.freeC y d (cs y d e),fun hf=>?_,I1.cell y d (cs y d e)⟩;rcases frS d hf with z|z
   ·exact I.cne y d (cs y d e) z
   ·obtain⟨o,eo⟩:∃o,X.s₀.heap.get? d=some o:=let ⟨o,e,_⟩:=(I.ok.UJ.mem z).2;⟨o,e⟩;exact absurd (Heap.lt_size eo) (Nat.not_lt.mpr (I.ok.cab y d (hfn y) (cs y d e)))
  ·have hy:X.env.scope.names.lookup y=some .cell:=sfree _ (PySem.mem_of_lookup e3) rfl;obtain⟨m,_,hl⟩:=I1.loc;obtain⟨u,r,lk'⟩:=hl j y v e1 e2 (.inr (.inl hy));obtain⟨d,hd⟩:=I.ok.has y (.inl hy);rcases lk' with⟨kk,_⟩|⟨_,d',hd',hc⟩
   ·have z:X.env.scope.names.lookup y=some .local:=kk;rw[hy]at z;cases z
   ·obtain⟨d2,hd2⟩:=ZO (cells:=X.env.cells) scope.names [] (.inr (PySem.mem_of_lookup e3));have:=cs y d2 hd2;rw[hd']at this;cases this;exact⟨u,d',r,hd2,hc⟩
 have hlo:∀y d,(Jf X.env.cells scope.names []).lookup y=some d->d<s1.heap.objs.size:=fun y d e=>by
  obtain⟨v,o,e1,_⟩:=I1.cell y d (cs y d e);exact Heap.lt_size e1
 have hB:=hb s1 [.ref f] I1.kIn rfl;refine wpAny_call (codeAny_mono (QcG (N:=N) (ps:=[p1]) (Q:=Q) (E:=E) lk hcd S hr I1.Qca hB (vs:=[.ref f]) (.cons rfl .nil) rfl fun hr'=>hbody cdv σ f c' _ pm ctv s1 H1 Q LA hlo hr' (h f c' H1 un code T1 keep)) fun r s' hq=>?_);cases r with
 |error e=>exact hx pins σ H1 s1 e s' I1 hq
 |ok fl=>
  cases fl with
  |ret u=>exact I1.after hq
  |next=>exact False.elim hq
  |brk=>exact False.elim hq
  |cont=>exact False.elim hq
end
def qU(sc outer:Scope):Bool:=sc.names.all fun y=> !(y.2==.free)||outer.names.lookup y.1==some .cell
theorem WT{sc outer:Scope}(h:qU sc outer=true):∀y∈sc.names,y.2=.free->outer.names.lookup y.1=some .cell:=fun y hy e=>by
 have q:=List.all_eq_true.mp h y hy;rw[e]at q;simpa using q
structure FunC(K:PySem.W.Frag)(x qual:Str)(st:Stmt)(f:Addr)(fd:FuncData)(cdv:Value):Prop where
 ex:∃(oc:Value)(od:Option Addr)(kV doc pm:Value)(an:Option Addr)(ct:Value)(osl:Array (Option Value)),
  fd=PySem.W.fnOf x qual (Jy st) (Q0 st) (Qf st) .none kV doc pm an cdv ct/\K.lookup f=some ⟨oc,od,.func fd,osl⟩/\PySem.W.codeIn K cdv qual=true
theorem QdP{P:Program}{w:World}{K:PySem.W.Frag}{mg:Str->Option Value}{base:Heap}{x qual:Str}{st:Stmt}{f:Addr}{fd:FuncData}{cdv:Value}{N ps:List Str}{k:Nat}{sp:Sp}(F:FunC K x qual st f fd cdv)(S:FnScope N ps (Qf st))(len:∀vs H Q E,sp vs H Q E->vs.length=ps.length)
  (hbody:∀(A:Around)(outer:List Env)(s:Shared)(H:Hp)(vs:List V)(Q:VK)(E:XK),Room k (A.deeper (envOfC qual (Qf st) s.heap.objs.size f cdv))->sp vs H Q E->
   ∃t,PSs (Wm (CXE P w) P w K mg base N qual (Qf st) f cdv A outer s H E).nox (Q0 st) t/\t {nx:=fun _ H'=>Q .non H',rt:=Q} (start N vs) H):FnOk P w K mg base (CXE P w) (k+1) f fd ps sp:=by
 obtain⟨oc,od,kV,doc,pm,an,ct,osl,rfl,lk,hcd⟩:=F.ex;exact Qbb lk hcd S len fun A outer s H vs Q E hr hsp=>by
  obtain⟨t,h,q⟩:=hbody A outer s H vs Q E hr hsp;exact⟨t,h.nox,q⟩
structure DefAt(K:PySem.W.Frag)(x:Str)(st:Stmt):Prop where
 ex:∃f fd,PySem.W.nsIn K mainGlobals x=some (some (.ref f))/\Fun K x x st f fd
theorem wF{K:PySem.W.Frag}{x:Str}{st:Stmt}{f:Addr}{oc:Value}{od an:Option Addr}{osl:Array (Option Value)}{kV doc pm cdv ct:Value}(a:PySem.W.nsIn K mainGlobals x=some (some (.ref f)))
  (l:K.lookup f=some ⟨oc,od,.func (PySem.W.fnOf x x (Jy st) (Q0 st) (Qf st) .none kV doc pm an cdv ct),osl⟩) (c:PySem.W.codeIn K cdv x=true) (k:PySem.W.keepIn K (.ref f)=true):DefAt K x st:=
 ⟨f,_,a,⟨⟨oc,od,kV,doc,pm,an,cdv,ct,osl,rfl,l,c⟩,k⟩⟩
section
variable {P:Program}{w:World}{K:PySem.W.Frag}{mg:Str->Option Value}{base h:Heap}{x:Str}{st:Stmt}{k:Nat}{ps:List Str}{sp:Sp}
theorem DefAt.def(D:DefAt K x st)(X:K.In h)(G:h.Ns mainGlobals mg)(hok:∀f fd,Fun K x x st f fd->FnOk P w K mg base (CXE P w) k f fd ps sp)
  (hb:∀(kV doc pm:Value)(an:Option Addr)(cdv ct:Value)(us:List Value),us.length=ps.length->bindArgs (PySem.W.fnOf x x (Jy st) (Q0 st) (Qf st) .none kV doc pm an cdv ct) ⟨us,[]⟩=pure (ps.zip us)):Def P w K mg base k x ps sp:=by
 obtain⟨f,fd,a,F⟩:=D.ex;exact⟨f,fd,PySem.W.mg_of X G a,F.kp,F.binds hb,hok f fd F⟩
theorem DefAt.QdQ{p1 p2:Str}(D:DefAt K x st)(X:K.In h)(G:h.Ns mainGlobals mg)(hok:∀f fd,Fun K x x st f fd->FnOk P w K mg base (CXE P w) k f fd [p1,p2] sp)
  (hb:∀(kV doc pm:Value)(an:Option Addr)(cdv ct:Value)(u v:Value),bindArgs (PySem.W.fnOf x x (Jy st) (Q0 st) (Qf st) .none kV doc pm an cdv ct) ⟨[u],[(p2,v)]⟩=pure [(p1,u),(p2,v)]):DefK P w K mg base k x [p1,p2] [p2] sp:=by
 obtain⟨f,fd,a,F⟩:=D.ex;refine⟨f,fd,PySem.W.mg_of X G a,F.kp,⟨fun s us ws _ hl=>?_,yN⟩,hok f fd F⟩;obtain⟨u,v,rfl,rfl⟩:=yO hl;obtain⟨oc,od,kV,doc,pm,an,cdv,ct,osl,rfl,lk,hcd⟩:=F.ex;exact .of_eq (hb kV doc pm an cdv ct u v)
end
theorem Qbs{K:PySem.W.Frag}{x:Str}{f c P:Addr}{oc oc2:Value}{od od2:Option Addr}{osl osl2:Array (Option Value)}{fd:FuncData}{vs:Array Value}(a:PySem.W.nsIn K mainGlobals x=some (some (.ref f)))(l:K.lookup f=some ⟨oc,od,.func fd,osl⟩)(hc:fd.code=.ref c)
  (lc:K.lookup c=some ⟨oc2,od2,.fields vs,osl2⟩) (hv:(vs[11]? :Option Value)=some (.ref P)):PySem.W.tabIn K x=some (c,P):=by
 unfold PySem.W.tabIn;simp only[a,l,hc,lc,hv]
theorem xn{k:Bool}{ta tb:TE}{σ:St}{H:Hp}{Q:VK}(Good:V->Hp->Prop)(hT:k=true->(∀v H',Good v H'->Q v H')->ta σ H Q) (hF:k=false->(∀v H',Good v H'->Q v H')->tb σ H Q) (rest:∀v H',Good v H'->Q v H'):if k=true then ta σ H Q else tb σ H Q:=by
 cases k with
 |true=>rw[if_pos rfl];exact hT rfl rest
 |false=>rw[if_neg (by decide)];exact hF rfl rest
structure LawSt(H:Hp)(a t r Pa:Addr)(q:Str)(ns:List Int)(c:Int):Prop where
 sc:∃o,H a=some (.frz o (.lst (ns.map V.int)))
 tw:∃rs,TownAt H t r c rs
 tab:Vp H Pa q
 ln:ns.length<=63
theorem Vp.same{H H':Hp}{P:Addr}{q:Str}(T:Vp H P q)(e:Qk H H'):Vp H' P q:=by
 obtain⟨ps,h1,h2,h3⟩:=T;exact⟨ps,e _ _ h1,h2,fun p cv z=>let ⟨a,z1,z2⟩:=h3 p cv z;⟨a,z1,e _ _ z2⟩⟩
section
variable {H H':Hp}{a t r Pa:Addr}{q:Str}{ns:List Int}{c c':Int}{K:PySem.W.Frag}
theorem LawSt.same(S:LawSt H a t r Pa q ns c)(e:Qk H H'):LawSt H' a t r Pa q ns c:=
 ⟨let ⟨o,h⟩:=S.sc;⟨o,e _ _ h⟩,let ⟨rs,h⟩:=S.tw;⟨rs,h.same e⟩,S.tab.same e,S.ln⟩
theorem LawSt.nat(S:LawSt H a t r Pa q ns c):a≠t:=fun z=>by
 obtain⟨o,h⟩:=S.sc;obtain⟨rs,h2⟩:=S.tw;rw[z,h2.tw]at h;cases h
theorem LawSt.nar(S:LawSt H a t r Pa q ns c):a≠r:=fun z=>by
 obtain⟨o,h⟩:=S.sc;obtain⟨rs,h2⟩:=S.tw;rw[z,h2.rt]at h;cases h
theorem LawSt.sq(S:LawSt H a t r Pa q ns c):SqL K H a (ns.map V.int):=let ⟨o,h⟩:=S.sc; .inl (.inr ⟨o,h⟩)
theorem LawSt.keep(S:LawSt H a t r Pa q ns c)(A:Apart t r H H'){b:Addr}{o:HO}(e:H b=some o)(n:∀kvs,o≠ .dK kvs):H' b=some o:=by
 obtain⟨rs,h2⟩:=S.tw;refine A b o e (fun z=>?_) fun z=>?_
 ·rw[z,h2.tw]at e;cases e;exact n _ rfl
 ·rw[z,h2.rt]at e;cases e;exact n _ rfl
theorem LawSt.drawn(S:LawSt H a t r Pa q ns c)(A:Apart t r H H'){rs:List (Key × V)}(T:TownAt H' t r c' rs):LawSt H' a t r Pa q ns c':=by
 obtain⟨o,h⟩:=S.sc;obtain⟨ps,h1,h2,h3⟩:=S.tab;exact⟨⟨o,S.keep A h fun _ z=>nomatch z⟩,⟨rs,T⟩,⟨ps,S.keep A h1 (fun _ z=>nomatch z),h2,fun p cv z=>let ⟨b,z1,z2⟩:=h3 p cv z;⟨b,z1,S.keep A z2 fun _ z=>nomatch z⟩⟩,S.ln⟩
theorem LawSt.xo(S:LawSt H a t r Pa q ns c)(k:∀b o,H b=some o->b≠Pa->H' b=some o) {b:Addr} {o:HO} (e:H b=some o) (n:∀ps,o≠ .tbl ps):H' b=some o:=by
 obtain⟨ps,h1,_⟩:=S.tab;refine k b o e fun z=>?_;rw[z,h1]at e;cases e;exact n _ rfl
theorem LawSt.lam(S:LawSt H a t r Pa q ns c)(k:∀b o,H b=some o->b≠Pa->H' b=some o) (T:Vp H' Pa q):LawSt H' a t r Pa q ns c:=by
 obtain⟨o,h⟩:=S.sc;obtain⟨rs,h2⟩:=S.tw;exact⟨⟨o,S.xo k h fun _ z=>nomatch z⟩,⟨rs,S.xo k h2.tw (fun _ z=>nomatch z),S.xo k h2.rt (fun _ z=>nomatch z),h2.vs,h2.c0,h2.ln,h2.ne⟩,T,S.ln⟩
end
def xp(scope:Scope)(env:Env)(C:Addr):Env:=
 {scope:=scope,locals:=C,globals:=env.globals,cells:=cellsFrom (C+1) scope.names [],qual:=env.qual,func:=none,code:=env.code,frame:=env.frame,builtins:=env.builtins}
abbrev Jw(X:Cx)(NB:List Str)(scope:Scope)(s:Shared)(H:Hp)(ex:List Addr):Cx:=
 {X with N:=NB,s₀:=s,H₀:=H,env:=xp scope X.env s.heap.objs.size,outer:=X.stack,ex:=ex,fn:=fun _=>true,pn:=[],xe:=fun _ _=>False}
structure BlkScope(NB:List Str)(scope:Scope):Prop where
 kind:scope.kind=.function
 nd:NB.Nodup
 nofree:∀y∈scope.names,y.2≠ .free
 loc:∀y∈scope.names,y.2=.local->scope.names.lookup y.1=some .local
theorem We{scope:Scope}{env:Env}(h:∀y∈scope.names,y.2≠ .free):relabel scope env=scope:=by
 obtain⟨k,names,g,c,m⟩:=scope;have e:∀l:List (Str × NameKind),(∀y∈l,y.2≠ .free)->(l.map fun(n,k)=>if(k==NameKind.free&&env.scope.kind==.function&&env.kindOf n==some .cell)then(n,NameKind.cell)else(n,k))=l:=by
  intro l
  induction l with
  |nil=>intro _;rfl
  |cons y r ih=>
   intro hl;obtain⟨n,k⟩:=y;have hk:(k==NameKind.free)=false:=beq_eq_false_iff_ne.mpr (hl (n,k) List.mem_cons_self);rw[List.map_cons,ih fun y hy=>hl y (List.mem_cons_of_mem _ hy)];simp only[hk,Bool.false_and,Bool.false_eq_true,if_false]
 unfold relabel;simp only[e names h]
theorem Uh{scope:Scope}{env:Env}(h:∀y∈scope.names,y.2≠ .free):closureFor scope env=pure []:=by
 rw[Zb fun y hy e=>absurd e (h y hy)];have e:∀(l:List (Str × NameKind))(acc:List (Str × Addr)),(∀y∈l,y.2≠ .free)->Jf env.cells l acc=acc:=by
  intro l
  induction l with
  |nil=>intro acc _;rfl
  |cons y r ih=>
   intro acc hl;obtain⟨n,k⟩:=y;have hk:(k==NameKind.free)=false:=beq_eq_false_iff_ne.mpr (hl (n,k) List.mem_cons_self);unfold Jf;rw[hk];exact ih acc fun y hy=>hl y (List.mem_cons_of_mem _ hy)
 rw[e _ _ h]
theorem XF{M:Model}{A:Around}{E:Value->Shared->Prop}{s:Shared}{scope:Scope}{globals:Addr}{qual:Str}{env:Env}{Q:Env->Shared->Prop}(hk:scope.kind=.function)
  (hQ:∀cenv s',cenv={scope:=scope,locals:=s.heap.objs.size,globals:=globals,cells:=cellsFrom (s.heap.objs.size+1) scope.names [],qual:=qual,func:=none,code:=env.code,frame:=env.frame,builtins:=env.builtins}->
   InCallC s s.heap.objs.size (fun _=>none) (cellsFrom (s.heap.objs.size+1) scope.names []) (fun _=>none) s'->Q cenv s'):
  wpAny M A (newFunctionEnv scope globals [] [] qual none .none (some env)) Q E s:=by
 simp only[newFunctionEnv,Option.isSome_some,if_true];refine wpAny_bind (wpAny_alloc ?_);refine wpAny_bind (wpAny_layCells _ (fun name kind cells=>by cases hkc:kind==NameKind.cell<;>simp[hkc]) _ _ _ _ ?_);have ok:=cellsFrom_ok scope.names (s.heap.push {cls:=.type "dict",data:=.dict #[]}) (s.heap.objs.size+1) [] ⟨fun _ _ hm=>(nomatch hm),List.Pairwise.nil⟩ (by rw[Heap.size_push];exact Nat.le_refl _);rw[Heap.size_push]at ok;rw[show({s with heap:=s.heap.push {cls:=.type "dict",data:=.dict #[]}}:Shared).heap.objs.size=s.heap.objs.size+1 from Heap.size_push ..];refine wpAny_bind (wpAny_pure (wpAny_pure (hQ _ _ rfl ?_)));exact⟨⟨⟨_,_,rfl⟩,(Heap.Ns.new s.heap (.type "dict")).keeps (pushCells_keeps _ _),fun b o e=>pushCells_keeps _ _ b o (Heap.get?_push_of_some _ e),Nat.le_refl _⟩,
   fun n c hc=>(ok.empty n c (mem_of_lookup hc)).1,ok.apart,fun n c hm=>(ok.empty n c hm).2⟩
section
variable {prog:Program}{w:World}{A:Around}{E:Value->Shared->Prop}{R:Result->Shared->Prop}{s:Shared}
theorem Kj{elt target iter:Expr}{ifs:List Expr}{scope:Scope}{pos:Pos}{it acc:Value}{env:Env}(I:Nat->Shared->Prop)
  (turn:∀n s,I n s->wpAny (model prog w) A (pyNext it) (fun r s₁=>match r with
   |none=>R (.ok .next) s₁
   |some v=>wpAny (model prog w) A (letOwnedTupleGo target it v) (fun _ s₁'=>wpAny (model prog w) A (assign target env v) (fun _ s₂=>
     wpAny (model prog w) A (forIn ifs true fun c r=>if r=true then do let ok←isTrue c env (eval c env);pure (ForInStep.yield ok)else pure (ForInStep.yield r)) (fun ok s₃=>
      if ok=true then wpAny (model prog w) A (eval elt env) (fun x s₄=>
       wpAny (model prog w) A (call (.builtin "list.append") [acc,x]) (fun _ s₅=>∃m,m<n/\I m s₅) (notedBy (model prog w) A env fun e s'=>R (.error e) s') s₄) (notedBy (model prog w) A env fun e s'=>R (.error e) s') s₃
      else ∃m,m<n/\I m s₃) (notedBy (model prog w) A env fun e s'=>R (.error e) s') s₂) (notedBy (model prog w) A env fun e s'=>R (.error e) s') s₁') (notedBy (model prog w) A env fun e s'=>R (.error e) s') s₁) (notedBy (model prog w) A env fun e s'=>R (.error e) s') s)
  (n:Nat) (h:I n s):
  codeAny (model prog w) A (.compLoop (.ListComp elt [⟨target,iter,ifs,0⟩] scope pos) 0 it acc env) R s:=by
 refine codeAny_loop rfl I (fun n s hI=>?_) n h;show wpAny _ A ((compTurn (.ListComp elt [⟨target,iter,ifs,0⟩] scope pos) 0 it acc env).onRaise (fun x=>do noteFrame x env;theTreesLotGoes x)) _ _ s;refine wpAny_noted ?_;rw[compTurn_list];refine wpAny_bind (wpAny_standAt (wpAny_bind (wpAny_mono (turn n s hI) (fun r s₁ h₁=>?_) fun _ _ h'=>h')));cases r with
 |none=>exact wpAny_pure h₁
 |some v=>
  refine wpAny_bind (wpAny_mono h₁ (fun _ s₁' h₁'=>?_) fun _ _ h'=>h');refine wpAny_bind (wpAny_mono h₁' (fun _ s₂ h₂=>wpAny_bind (wpAny_mono h₂ (fun ok s₃ h₃=>?_) fun _ _ h'=>h')) fun _ _ h'=>h');cases ok with
  |false=>exact wpAny_pure ⟨rfl,h₃⟩
  |true=>
   exact wpAny_bind (wpAny_bind (wpAny_mono h₃ (fun x s₄ h₄=>wpAny_bind (wpAny_mono h₄ (fun _ s₅ h₅=>wpAny_pure (wpAny_pure ⟨rfl,h₅⟩)) fun _ _ h'=>h')) fun _ _ h'=>h'))
end
def PTs(X:Cx)(ifs:List Expr)(t:TT):Prop:=
 ∀(pins:List (Addr × Obj))(s:Shared)(σ:St)(H:Hp)(Q:Bool->Hp->Prop),Inv X pins σ H s->t σ H Q->
  wpAny (model X.prog X.w) X.A (forIn ifs true fun c r=>if r=true then do let ok←isTrue c X.env (eval c X.env);pure (ForInStep.yield ok)else pure (ForInStep.yield r)) (TP X pins σ Q) X.xe s
def QaW:TT:=fun _ H Q=>Q true H
theorem J3{X:Cx}:PTs X [] QaW:=fun pins s σ H Q I h=>wpAny_tests_nil ⟨H,I,h⟩
theorem V5{X:Cx}{c:Expr}{t:TT}(h:PT X c t):PTs X [c] t:=fun pins s σ H Q I q=>wpAny_tests_one (h pins s σ H Q I q)
def UX(NB:List Str)(wi:TI)(g:TG)(tt:TT)(te:TE):TE:=fun σ H Q=>wi σ H fun J H1=>∃W:Nat->Nat->List V->Hp->Prop,(∃m,W 0 m [] H1)/\∀i m vs H,W i m vs H->
 (J.stop i H/\∀p,H p=none->Q (.ref p) (upd H p (.lst vs)))\/(J.go i H/\vs.length<sizeLine/\∃N:List V->Hp->Prop,(∀vs' H',N vs' H'->∃m',m'<m/\W (i+1) m' vs' H')/\
  ∀x H',J.yld i H x H'->g x (List.replicate NB.length none) H' fun σ2 H2=>tt σ2 H2 fun b H3=>if b=true then te σ2 H3 fun v H4=>N (vs++[v]) H4 else N vs H3)
abbrev Zw(ys:List Value):Obj:={cls:=.type "list",data:=.seq ys.toArray ys.length}
section
variable {X:Cx}
theorem JU{elt tg iter:Expr}{ifs:List Expr}{scope:Scope}{pos:Pos}{NB:List Str}{wi:TI}{g:TG}{tt:TT}{te:TE}(hc:X.calm=true)(S:BlkScope NB scope)(hi:PI X tg iter wi)
  (hg:∀s H ex,PG (Jw X NB scope s H ex) tg g) (ht:∀s H ex,PTs (Jw X NB scope s H ex) ifs tt) (he:∀s H ex,PE (Jw X NB scope s H ex) elt te)
  (hs:∀x,foldedSetIterable iter X.env x=pure x:=by intro _;rfl):PE X (.ListComp elt [⟨tg,iter,ifs,0⟩] scope pos) (UX NB wi g tt te):=by
 intro pins s σ H Q I h;rw[eval_ListComp];refine wpAny_comprehension_free (use:=none) (cl:=[]) rfl hs (Uh S.nofree) S.kind S.loc (thn (hi pins s σ H _ I h) fun v s1 h1=>thn h1 fun itv s2 h2=>?_);obtain⟨it,fp,tn,J,H2,e,I2,T,st2,f2,W,⟨m0,w0⟩,turn⟩:=h2;subst e;refine wpAny_newObj_type ?_;have up2:∀b o,s2.heap.get? b=some o->(s2.heap.push {cls:=.type "list",data:=.seq ([]:List Value).toArray}).get? b=some o:=fun b o e=>Heap.get?_push_of_some _ e;have I3:Inv X pins σ H2 {s2 with heap:=s2.heap.push {cls:=.type "list",data:=.seq ([]:List Value).toArray}}:=I2.kept (t':=s2.toks) up2;have st3:tn 0 (s2.heap.push {cls:=.type "list",data:=.seq ([]:List Value).toArray}):=T.keep _ _ _ st2 fun b _ o e=>up2 b o e;have hD3:(s2.heap.push {cls:=.type "list",data:=.seq ([]:List Value).toArray}).get? s2.heap.objs.size=some (Zw []):=Heap.get?_push_size _ rfl;have hD2:H2 s2.heap.objs.size=none:=I2.hok.fresh (Nat.le_refl _);have lt2:∀b o,s2.heap.get? b=some o->b≠s2.heap.objs.size:=fun b o e=>Nat.ne_of_lt (Heap.lt_size e);have fpO:∀b∈fp,∃o,s2.heap.get? b=some o:=fun b hb=>let ⟨o,e,_⟩:=T.obj _ _ st2 b hb;⟨o,e⟩;have hDs0:X.s₀.heap.objs.size<=s2.heap.objs.size:=I2.sz;have hDL:s2.heap.objs.size≠X.env.locals:=Nat.ne_of_gt I2.lt;have hDC:∀x c,X.env.cells.lookup x=some c->c≠s2.heap.objs.size:=fun x c e=>let ⟨v,o,e1,_⟩:=I2.cell x c e;lt2 c o e1;have hDp:∀p∈X.pn++pins,p.1≠s2.heap.objs.size:=fun p hp=>lt2 p.1 _ (I2.pin p hp).1;have hDf:s2.heap.objs.size∉frs X.stack:=fun z=>let ⟨o,e,_⟩:=(I2.stack.mem z).2;lt2 _ o e rfl;generalize hS3:({s2 with heap:=s2.heap.push {cls:=.type "list",data:=.seq ([]:List Value).toArray}}:Shared)=s3 at I3 ⊢;have hh3:s3.heap=s2.heap.push {cls:=.type "list",data:=.seq ([]:List Value).toArray}:=by rw[←hS3]
 rw[←hh3]at st3 hD3 up2;generalize s2.heap.objs.size=D at hD3 hD2 lt2 hDs0 hDL hDC hDp hDf ⊢;refine XF S.kind fun cenv s4 hce x4=>?_;subst hce;rw[We S.nofree];have lt3:∀b o,s3.heap.get? b=some o->b<s3.heap.objs.size:=fun b o e=>Heap.lt_size e;have fp3:∀b∈fp,b<s3.heap.objs.size:=fun b hb=>let ⟨o,e⟩:=fpO b hb;lt3 b o (up2 b o e);have dl3:D<s3.heap.objs.size:=lt3 D _ hD3;have DfpN:∀b∈fp,b≠D:=fun b hb=>let ⟨o,e⟩:=fpO b hb;lt2 b o e;obtain⟨h4,tk4,rfl,hk4⟩:=x4.done;have bsN:∀b o,X.base.get? b=some o->b∉D::fp:=fun b o e hb=>by
  rcases List.mem_cons.mp hb with rfl|hb
  ·exact absurd (Nat.lt_of_lt_of_le (Heap.lt_size (I2.ok.bs b o e).1) hDs0) (Nat.lt_irrefl _)
  ·obtain⟨_,_,_,f3,_⟩:=f2 b hb;rcases f3 with z|z
   ·exact I2.ok.noex b o e z
   ·exact absurd (Nat.lt_of_lt_of_le (Heap.lt_size (I2.ok.bs b o e).1) z) (Nat.lt_irrefl _)
 have exF:∀b∈D::fp,b∉frs X.stack:=fun b hb hf=>by
  rcases List.mem_cons.mp hb with rfl|hb
  ·exact hDf hf
  ·obtain⟨_,f1,f2',_⟩:=f2 b hb;rcases List.mem_cons.mp (I2.XB b hf)with z|z
   ·exact f1 z
   ·exact f2' z
 have cge:∀y c,(cellsFrom (s3.heap.objs.size+1) scope.names []).lookup y=some c->s3.heap.objs.size<c:=fun y c e=>x4.above y c (PySem.mem_of_lookup e);have exLt:∀b∈D::fp,b<s3.heap.objs.size:=fun b hb=>by
  rcases List.mem_cons.mp hb with rfl|hb
  ·exact dl3
  ·exact fp3 b hb
 have okB:(Jw X NB scope s3 H2 (D::fp)).Ok:=by
  refine⟨I3.ok.mod,S.kind,I3.ok.glob,I3.ok.blt,Nat.le_refl _,fun y z c h1 h2=>?_,fun y hy=>?_,fun y c _ h=>Nat.le_of_lt (cge y c h),I3.ok.hd,I3.ok.frames,.inl rfl,fun b hb=>⟨Nat.ne_of_lt (exLt b hb),fun y c e z=>?_⟩,I3.bs,Nat.le_trans I3.ok.bsz I3.sz,bsN,exF,I3.stack,I3.Z1⟩
  ·exact name_of_addr x4.apart (PySem.mem_of_lookup h1) (PySem.mem_of_lookup h2)
  ·have hy:scope.names.lookup y=some .cell\/scope.names.lookup y=some .free:=hy;rcases hy with hy|hy
   ·exact Wr hy
   ·exact absurd rfl (S.nofree _ (PySem.mem_of_lookup hy))
  ·have:=cge y c e;rw[z]at this;exact absurd (Nat.lt_trans this (exLt b hb)) (Nat.lt_irrefl _)
 have rep:∀(j:Nat)(v:V),(List.replicate NB.length (none:Option V))[j]? ≠some (some v):=fun j v z=>by
  rw[List.getElem?_replicate]at z
  split at z<;>cases z
 have IB:Inv (Jw X NB scope s3 H2 (D::fp)) [(D,Zw [])] (List.replicate NB.length none) H2 {s3 with heap:=h4,toks:=tk4}:=by
  refine⟨okB,rfl,I3.bare,Un.kept hk4,⟨_,x4.toInCall.ns,fun i y v h1 h2 h3=>absurd h2 (rep i v)⟩,fun y c h=>⟨_,x4.cell y c h⟩,I3.hok.fresh (Nat.le_refl _),fun y c h=>I3.hok.fresh (Nat.le_of_lt (cge y c h)),fun p hp=>?_,I3.hok.kept hk4,by rw[List.length_replicate]⟩;obtain rfl:p=(D,Zw []):=by simpa using hp
  exact⟨hk4 _ _ hD3,hD2,Nat.ne_of_lt dl3,hDf,fun v z=>nomatch z⟩
 have stat:∀{H':Hp}{ys:List Value},(∀b∈fp,H' b=none)->∀b∈fp,jC (Jw X NB scope s3 H2 (D::fp)) [(D,Zw ys)] H' b:=fun hn b hb=>
  ⟨hn b hb,Nat.ne_of_lt (fp3 b hb),exF b (List.mem_cons_of_mem _ hb),.inl (List.mem_cons_of_mem _ hb),fun y c e z=>by
   have:=cge y c e;rw[z]at this;exact absurd (Nat.lt_trans this (fp3 b hb)) (Nat.lt_irrefl _),fun p hp=>by
    obtain rfl:p=(D,_):=by simpa using hp
    exact(DfpN b hb).symm⟩
 have st4:tn 0 h4:=T.keep _ _ _ st3 fun b _ o e=>hk4 b o e;have fr4:∀b∈fp,H2 b=none:=fun b hb=>(f2 b hb).1;have hcB:(Jw X NB scope s3 H2 (D::fp)).calm=true:=hc;have loop:codeAny (model X.prog X.w) X.A (.compLoop (.ListComp elt [⟨tg,iter,ifs,0⟩] scope pos) 0 (.ref it) (.ref D) (xp scope X.env s3.heap.objs.size))
   (compPost (model X.prog X.w) X.A X.xe none (EP X pins σ Q) (.ref D) s3.heap.objs.size) {s3 with heap:=h4,toks:=tk4}:=by
  refine Kj (fun n s'=>∃i vs ys H',Inv (Jw X NB scope s3 H2 (D::fp)) [(D,Zw ys)] (List.replicate NB.length none) H' s'/\Vals vs ys/\vs.length<=sizeLine/\tn i s'.heap/\(∀b∈fp,H' b=none)/\W i n vs H') ?_ m0 ⟨0,[],[],H2,IB,.nil,Nat.zero_le _,st4,fr4,w0⟩;rintro n s5 ⟨i,vs,ys,H5,I5,rv,hvl,st5,fr5,w5⟩;rcases turn i n vs H5 w5 with⟨stop,qn⟩|⟨go,hlt,N,hN,step⟩
  ·refine wpAny_mono (T.done (Jw X NB scope s3 H2 (D::fp)) rfl rfl rfl hcB i _ s5 _ H5 (fun _ _=>False) I5 (stat fr5) st5 stop) (fun r s6⟨hr,I6⟩=>?_) (fun _ _ z=>z.elim);subst hr;obtain⟨m6,hn6,_⟩:=id I6.loc;refine⟨m6,hn6,fun h7 sb7=>?_⟩;have kp7:∀b o,b≠s3.heap.objs.size->s6.heap.get? b=some o->h7.get? b=some o:=fun b o hb e=>(sb7.2 b hb).trans e;have hC6:H5 s3.heap.objs.size=none:=I6.free;have un7:Un (frs X.stack) (D::fp) H2 H5 s3.heap h7:=by
    have u:=I6.base;refine⟨fun b o e n hb hx=>kp7 b o (Nat.ne_of_lt (Heap.lt_size e)) (u.keep b o e n hb hx),fun b o e n hb hx=>?_,u.free,fun b o e hx=>?_,u.Wz,u.frzs,u.tbls⟩
    ·obtain⟨sl,q⟩:=u.slot b o e n hb hx;exact⟨sl,kp7 b _ (Nat.ne_of_lt (Heap.lt_size e)) q⟩
    ·obtain⟨o',q⟩:=u.there b o e hx;exact⟨o',kp7 b _ (Nat.ne_of_lt (Heap.lt_size e)) q⟩
   have hok7:HOk X.prog X.w H5 h7:=fun b u e=>(I6.hok b u e).UN (fun c w' hcc q=>kp7 c w' (by
    rintro rfl;rcases hcc with rfl|hcc
    ·rw[hC6]at e;cases e
    ·rw[hC6]at hcc;cases hcc) q) (fun _ q=>q) fun _ _ q=>q
   have I7:Inv X pins σ H5 {s6 with heap:=h7}:=I3.jB (s':={s6 with heap:=h7}) I6.os un7 hok7 I6.bare fun b hb=>by
    rcases List.mem_cons.mp hb with rfl|hb
    ·exact⟨.inr hDs0,hDL,hDC,hDp⟩
    ·obtain⟨_,f1,_,f3,f4,f5⟩:=f2 b hb;exact⟨f3,f1,f4,f5⟩
   obtain⟨eD,nD,_⟩:=I6.pin (D,Zw ys) (by simp);have nD':H5 D=none:=nD;have eD':h7.get? D=some (Zw ys):=kp7 D _ (Nat.ne_of_lt dl3) eD;have hD0:X.s₀.heap.get? D=none:=by
    cases q:X.s₀.heap.get? D with
    |none=>rfl
    |some o=>exact absurd (Nat.lt_of_lt_of_le (Heap.lt_size q) hDs0) (Nat.lt_irrefl _)
   exact⟨.ref D,upd H5 D (.lst vs),I7.xg nD' hD0 hDL hDC hDp ⟨hvl,ys,ys.length,rv,eD'⟩,rfl,qn D nD'⟩
  ·refine wpAny_mono (T.item (Jw X NB scope s3 H2 (D::fp)) rfl rfl rfl hcB i _ s5 _ H5 (fun _ _=>False) I5 (stat fr5) st5 go) (fun r s6⟨u,hr,h6⟩=>?_) (fun _ _ z=>z.elim);subst hr;refine wpAny_mono h6 (fun _ s7⟨x,H7,I7,r7,y7,st7,fr7⟩=>?_) (fun _ _ z=>z.elim);have I7':=I7.pinned (stat fr7) (T.obj _ _ st7);refine wpAny_mono (hg s3 H2 (D::fp) _ s7 _ H7 x u _ I7' r7 (step x H7 y7)) (fun _ s8⟨σ8,H8,I8,q8⟩=>?_) (fun _ _ z=>z.elim);refine wpAny_mono (ht s3 H2 (D::fp) _ s8 σ8 H8 _ I8 q8) (fun ok s9⟨H9,I9,q9⟩=>?_) (fun _ _ z=>z.elim);have fpK:∀{σ':St}{H':Hp}{s':Shared},Inv (Jw X NB scope s3 H2 (D::fp)) ([(D,Zw ys)]++K9 fp s7.heap) σ' H' s'->tn (i+1) s'.heap/\∀b∈fp,H' b=none:=fun J=>
    ⟨T.keep _ _ _ st7 fun b hb o e=>(J.pin (b,o) (List.mem_append_right _ (List.mem_append_right _ (Ja hb e)))).1,fun b hb=>by
     obtain⟨o,e,d⟩:=T.obj _ _ st7 b hb;exact(J.pin (b,o) (List.mem_append_right _ (List.mem_append_right _ (Ja hb e)))).2.1⟩
   have wk:∀{σ':St}{H':Hp}{s':Shared}{pl:List (Addr × Obj)},Inv (Jw X NB scope s3 H2 (D::fp)) pl σ' H' s'->Inv (Jw X NB scope s3 H2 (D::fp)) pl (List.replicate NB.length none) H' s':=fun J=>
    J.weak (by rw[List.length_replicate];exact J.len.symm) fun j v z=>absurd z (rep j v)
   cases ok with
   |false=>
    rw[if_neg (by decide)]at q9;rw[if_neg (by decide)];obtain⟨m',hm,w9⟩:=hN vs H9 q9;obtain⟨t9,f9⟩:=fpK I9;exact⟨m',hm,i+1,vs,ys,H9,wk I9.Jx,rv,hvl,t9,f9,w9⟩
   |true=>
    rw[if_pos rfl]at q9;rw[if_pos rfl];refine wpAny_mono (he s3 H2 (D::fp) _ s9 σ8 H9 _ I9 q9) (fun y s10⟨v,H10,I10,rv10,q10⟩=>?_) (fun _ _ z=>z.elim);obtain⟨eD,nD,_,nf,_⟩:=I10.pin (D,Zw ys) (by simp);have hyl:=rv.length;refine append_at (hsz:=by show ys.toArray.size<=sizeLine;rw[List.size_toArray, ←hyl];exact hvl) eD fun h11 sb11 hD11=>?_;obtain⟨m',hm,w11⟩:=hN (vs++[v]) H10 q10;obtain⟨t10,f10⟩:=fpK I10;have I10u:=I10.Jx;have k11:∀b o,b≠D->s10.heap.get? b=some o->h11.get? b=some o:=fun b o hb e=>(sb11.2 b hb).trans e;have IE:Inv (Jw X NB scope s3 H2 (D::fp)) [] σ8 H10 s10:=I10u.ZC fun p hp=>nomatch hp;have I11:Inv (Jw X NB scope s3 H2 (D::fp)) [] σ8 H10 {s10 with heap:=h11}:=IE.turned (t':=s10.toks) k11 nD (Nat.ne_of_lt dl3) (.inl List.mem_cons_self) (fun y' c e z=>by
     have:=cge y' c e;rw[z]at this;exact absurd (Nat.lt_trans this dl3) (Nat.lt_irrefl _)) (fun p hp=>absurd (show p∈([]:List (Addr × Obj))from hp) (by simp))
    have eL:({cls:=.type "list",data:=.seq (ys.toArray.push y) (ys.length+1)}:Obj)=Zw (ys++[y]):=by
     show({cls:=.type "list",data:=.seq (ys.toArray.push y) (ys.length+1)}:Obj)={cls:=.type "list",data:=.seq (ys++[y]).toArray (ys++[y]).length};rw[List.length_append,List.length_singleton,List.push_toArray]
    refine⟨m',hm,i+1,vs++[v],ys++[y],H10,wk (I11.ZC fun p hp=>?_),rv.append (.cons rv10 .nil),by rw[List.length_append,List.length_singleton];exact hlt,T.keep _ _ _ t10 fun b hb o e=>k11 b o (DfpN b hb) e,f10,w11⟩;obtain rfl:p=(D,Zw (ys++[y])):=by simpa using hp
    exact⟨by rw[←eL];exact hD11,nD,Nat.ne_of_lt dl3,nf,fun v z=>nomatch z⟩
 exact codeAny_compStart_list loop (T.self _ 0 _ _ _ st4 loop)
end
open Builtin Builtin.Str
section
variable {prog:Program}{w:World}{A:Around}{E:Value->Shared->Prop}{s:Shared}
theorem call_gives{name:Str}{id:String}{B:Builtin}{x:Str}{t:Tok}{rest:List Value}{m:Made}{Q:Value->Shared->Prop}(slot:Slot "str" name id)(entry:entryFor table id=some B)(args:argsOk id ⟨.str x t::rest,[]⟩)
  (g:Gives (B ⟨.str x t::rest,[]⟩) m) (h:m.post Q s):wpAny (model prog w) A (call (.builtin id) (.str x t::rest)) Q E s:=
 wpAny_call (codeAny_call_builtin slot.plain entry (slot.check _ _ _ _ _ _ _ _ (typeIs_str _ _ _) args (g prog w A (wants Q E) s h)))
end
section
variable {X:Cx}
def Qdi(C:Str->Str->Prop)(f:Str->Str->V):V->List V->Hp->VK->Prop:=fun x vs H Q=>∃z y,x=.str z/\vs=[.str y]/\C z y/\Q (f z y) H
def QdR(z _:Str):Prop:=z.length<=sizeLine
theorem qV:MtR X "str.strip" (Qdi QdR fun z y=>.str (Txt.stripChars z y)):=by
 intro pins s σ H x vs v us Q I rx rv h;obtain⟨z,y,rfl,rfl,hl,q⟩:=h;obtain⟨t,rfl⟩:=rx;obtain⟨u,rfl,t',rfl⟩:=vals1 rv;exact call_gives F.slot_str_strip F.entry_str_strip (F.args_str_strip_2 _ _) (gives_str_strip_chars z y t t') (post_val_or_made (fun _=>fits_stripped _ _ _ hl) fun t2 k=>⟨.str _,H,I.tok k,⟨t2,rfl⟩,q⟩)
theorem V6:MtR X "str.startswith" (Qdi (fun _ _=>True) fun z y=>.bl (Txt.startswith z y)):=by
 intro pins s σ H x vs v us Q I rx rv h;obtain⟨z,y,rfl,rfl,_,q⟩:=h;obtain⟨t,rfl⟩:=rx;obtain⟨u,rfl,t',rfl⟩:=vals1 rv;exact call_gives F.slot_str_startswith F.entry_str_startswith (F.args_str_startswith_2 _ _) (gives_str_startswith z y t t') ⟨.bl _,H,I,rfl,q⟩
theorem qW:SlR X (fun x lo hi H Q=>∃z,x=.str z/\z.length<=sizeLine/\Q (.str (StrLaws.sliceText z lo hi)) H):=by
 intro pins s σ H x v vl vu lo hi sl Q I rx hs pl pu h;obtain⟨z,rfl,hl,q⟩:=h;obtain⟨t,rfl⟩:=rx;have part:∀{v:Value}{o:Option Int},IsPart v o->∃p:Option (Int × Tok),v=partValue p/\p.map (·.1)=o:=fun p=>by
  cases p with
  |none=>exact⟨none,rfl,rfl⟩
  |int i t=>exact⟨some (i,t),rfl,rfl⟩
 obtain⟨p,rfl,rfl⟩:=part pl;obtain⟨p2,rfl,rfl⟩:=part pu;refine⟨"str",_,F.slot_str_getitem.lookup,typeIs_str _ _ _,?_⟩;refine wpAny_getItem_str_slice (l:=p) (u:=p2) (st:=none) hs rfl ?_;unfold sliceMade slicePicked;refine post_val_or_made (fun _=>?_) fun t2 k=>⟨.str (StrLaws.sliceText z (p.map (·.1)) (p2.map (·.1))),H,I.tok k,⟨t2,rfl⟩,q⟩;show(List.filterMap _ _).toArray.size<=sizeLine;rw[List.size_toArray];exact Nat.le_trans (List.length_filterMap_le _ _) (Nat.le_trans (sliceIndices_le _ _ _) hl)
end
section
variable {prog:Program}{w:World}{A:Around}{E:Value->Shared->Prop}{s:Shared}
variable {I:Addr}{fp wr:List Addr}{G:Array GenState->Array GenState->Prop}{n:Nat}{P:Nat->Value->Prop}{St:Nat->Shared->Prop}
end
theorem boot_reversed:bootBuiltins "reversed"=some (.type "reversed"):=by boot_by_name
section
variable {X:Cx}
end
section
variable {X:Cx}
end
structure DefK0(P:Program)(w:World)(K:PySem.W.Frag)(mg:Str->Option Value)(base:Heap)(k:Nat)(x p1:Str)(sp:Sp):Prop where
 ex:∃f fd,mg x=some (.ref f)/\PySem.W.keepIn K (.ref f)=true/\(∀(s:Shared)(v:Value),K.In s.heap->BindsTo s fd ⟨[],[(p1,v)]⟩ [(p1,v)])/\FnOk P w K mg base (CXE P w) k f fd [p1] sp
section
variable {X:Cx}{k k':Nat}{x p1:Str}{sp:Sp}{E:XK}{p pos kpos:Pos}{e:Expr}{te:TE}
def yQ(sp:Sp)(E:XK)(te:TE):TE:=fun σ H Q=>te σ H fun v H1=>sp [v] H1 Q E
theorem DefK0.pe(D:DefK0 X.prog X.w X.K X.mg X.base k x p1 sp)(hr:Room k' X.A)(hk:k<=k')(hg:Gl X x)(hx:Passes (CXE X.prog X.w) X E)(he:PE X e te)
  (hdb:(x==("__debug__":Str))=false:=by decide):PE X (.Call (.Name x p) [] [⟨some p1,e,kpos⟩] pos) (yQ sp E te):=by
 obtain⟨f,fd,h1,h2,h3,h4⟩:=D.ex;intro pins s σ H Q I h;refine wpAny_Call_Name_kw (Z2 I hg h1 ?_ hdb);refine PySem.W.callWith_KW0 (h₀:=X.base) I.ok.mod.kin h2 rfl ?_ rfl;have hK:PK X [⟨some p1,e,kpos⟩] (QX te Wq):=zN he vY;refine thn (hK pos pins s σ H (fun zs H2=>sp zs H2 Q E) I h) fun ws s2⟨zs,H2,I2,rz,q2⟩=>⟨I2.kIn,?_⟩;have hlz:=h4.len _ _ _ _ q2;obtain⟨v,rfl⟩:∃v,zs=[v]:=match zs,hlz with|[v],_=>⟨v,rfl⟩
 obtain⟨u,rfl,ru⟩:=vals1 rz;refine wpAny_call (codeAny_mono (h4.run X.A X.stack s2 H2 ⟨[],[(p1,u)]⟩ [u] [v] Q E (hr.mono hk) I2.Qca (h3 s2 u I2.kIn) (.cons ru .nil) q2) fun r s' hq=>?_);cases r with
 |error e=>exact hx pins σ H2 s2 e s' I2 hq
 |ok fl=>
  cases fl with
  |ret u=>exact I2.after hq
  |next=>exact False.elim hq
  |brk=>exact False.elim hq
  |cont=>exact False.elim hq
end
def yR(lo c:Int)(n:Nat):It:=⟨fun i _=>i<n,fun i H x H'=>H'=H/\x=.int (lo+i*c),fun i _=>n<=i⟩
theorem WU{P:Program}{w:World}{K:PySem.W.Frag}{tg:Expr}(it:Addr)(lo c:Int)(n:Nat):Turn P w K tg (yR lo c n) [it] it (fun i h=>IsRangeIter h it (lo+(i:Nat)*c) ((n:Int)-(i:Nat)) c) where
 mem:=by simp
 obj:=fun i h st b hb=>by
  have e:b=it:=by simpa using hb
  subst e;exact⟨_,st,fun v z=>by
   have z':Data.fields _=Data.cell v:=z;cases z'⟩
 keep:=fun i h h' st k=>k it (by simp) _ st
 item:=by
  intro X hP hw hK hc i pins s σ H E I hf st hg;subst hP hw hK;obtain⟨f0,f1,f2,f3,f4,f5⟩:=hf it (by simp);have W:=Walks.range (prog:=X.prog) (w:=X.w) (I.ok.hd hc) it lo c n;refine W.item i s _ _ hg st fun v h' tk hv st' kk=>?_;obtain⟨t,rfl⟩:=hv;have I1:Inv X pins σ H {s with heap:=h',toks:=tk}:=I.turned (fun b o hb e=>kk b o (by simpa using hb) e) f0 f1 f3 f4 f5;exact⟨_,rfl,zC (s:={s with heap:=h',toks:=tk}) (n:="range_iterator") st' rfl rfl (by decide) ⟨.int (lo+i*c),H,I1,⟨t,rfl⟩,⟨rfl,rfl⟩,st',fun b hb=>(hf b hb).1⟩⟩
 done:=by
  intro X hP hw hK hc i pins s σ H E I hf st hg;subst hP hw hK;obtain⟨f0,f1,f2,f3,f4,f5⟩:=hf it (by simp);exact wpAny_pyNext_range_end (I.ok.hd hc) st (by have:n<=i:=hg;omega) fun h' eb=>⟨rfl,I.turned (t':=s.toks) (fun b o hb e=>eb b o hb e) f0 f1 f3 f4 f5⟩
 self:=fun _ _ _ _ _ st h=>wpAny_pyIter_rangeiter st h
section
variable {X:Cx}{tg:Expr}
def QcK(ta:TA):TI:=fun σ H R=>ta σ H fun vs H1=>∃(i j c:Int)(n:Nat),vs=[.int i,.int j,.int c]/\(-(2^40)<=i/\i<2^40/\ -(2^40)<=j/\j<2^40/\0<c/\c<2^20)/\Builtin.Range.rangeSize i j c=(n:Int)/\R (yR i c n) H1
theorem xq{a b d:Expr}{ta:TA}{p pos:Pos}(hg:Gl X "range")(hm:X.mg "range"=none)(ha:PA X [a,b,d] ta)(hs:starEach [a,b,d] X.env=(false,eval a X.env)::starEach [b,d] X.env:=by rfl)(hp:(backTo pos (starEach [b,d] X.env)).any (·.1)=false:=by rfl):
  PI X tg (.Call (.Name "range" p) [a,b,d] [] pos) (QcK ta):=by
 intro pins s σ H R I h;refine Call_ (X7 I hg hm boot_range (PyProof.Rows.callWith_type1 (thn (ha pos pins s σ H _ I h) fun us s1⟨vs,H1,I1,r1,q1⟩=>?_) hs hp));obtain⟨i,j,c,n,e,⟨b1,b2,b3,b4,b5,b6⟩,hn,q⟩:=q1;subst e;obtain⟨u1,u2,u3,rfl,⟨t1,rfl⟩,⟨t2,rfl⟩,⟨t3,rfl⟩⟩:∃u1 u2 u3,us=[u1,u2,u3]/\RelV (.int i) u1/\RelV (.int j) u2/\RelV (.int c) u3:=by
  cases r1 with
  |cons p q=>
   cases q with
   |cons p' q'=>
    cases q' with
    |cons p'' q''=>
     cases q'';exact⟨_,_,_,rfl,p,p',p''⟩
 refine call_range_3 (by omega) ?_ (.inl (PyProof.noPylong_small (by omega)));refine wpAny_pyIter_range (IsRange.new ..) ?_ ?_
 ·have hq1:0<=(n:Int):=Int.natCast_nonneg n;have hq2:(n:Int)<=2^41:=by
   rw[←hn];unfold Builtin.Range.rangeSize;rw[if_pos b5]
   split
   ·have:(j-i-1)/c<=(j-i-1)/1:=by
     rw[Int.ediv_one];exact Int.ediv_le_self _ (by omega)
    rw[Int.ediv_one]at this;omega
   ·omega
  unfold Builtin.Range.small;simp only[hn];unfold Builtin.Range.rangeFitsLong;rw[if_pos b5];rw[decide_eq_true (show-(2^63)<=i by omega),decide_eq_true (show i<2^63 by omega),decide_eq_true (show-(2^63)<=j by omega),decide_eq_true (show j<2^63 by omega),decide_eq_true (show-(2^63)<=c by omega),decide_eq_true (show c<2^63 by omega),decide_eq_true (show-(2^63)<=(n:Int) by omega),decide_eq_true (show(n:Int)<2^63 by omega),
   decide_eq_true (show-(2^63)<=j+(c-1) by omega),decide_eq_true (show j+(c-1)<2^63 by omega)]
  simp
 have I2:Inv X pins σ H1 {s1 with heap:=s1.heap.push {cls:=.type "range",data:=.fields #[.int i t1,.int j t2,.int c t3]},toks:=s1.toks}:=I1.kept fun b o e=>Heap.get?_push_of_some _ e;refine⟨(s1.heap.push {cls:=.type "range",data:=.fields #[.int i t1,.int j t2,.int c t3]}).objs.size,[(s1.heap.push {cls:=.type "range",data:=.fields #[.int i t1,.int j t2,.int c t3]}).objs.size],_,_,H1,rfl,
  I2.kept (t':=s1.toks) fun b o e=>Heap.get?_push_of_some _ e,WU _ i c n,?_,fun b hb=>?_,q⟩
 ·have e1:i+((0:Nat):Int)*c=i:=by simp
  have e2:((n:Nat):Int)-((0:Nat):Int)=Builtin.Range.rangeSize i j c:=by rw[hn];simp
  show IsRangeIter _ _ (i+((0:Nat):Int)*c) (((n:Nat):Int)-((0:Nat):Int)) c;rw[e1,e2];exact Heap.get?_push_size _ rfl
 ·have e:b=(s1.heap.push {cls:=.type "range",data:=.fields #[.int i t1,.int j t2,.int c t3]}).objs.size:=by simpa using hb
  subst e;exact I2.k4 (Nat.le_refl _) (I2.hok.fresh (Nat.le_refl _))
theorem jS{lo c:Int}{n:Nat}{g:TG}{tb:TS}{D:Ends}{σ:St}{H:Hp}(Pv:Nat->St->Hp->Prop)(h0:Pv 0 σ H)
  (hs:∀i σ H,i<n->Pv i σ H->g (.int (lo+i*c)) σ H fun σ2 H2=>tb {D with nx:=Pv (i+1),ct:=Pv (i+1),bk:=D.nx} σ2 H2) (hd:∀σ H,Pv n σ H->D.nx σ H):
  ∃W:Nat->Nat->St->Hp->Prop,(∃m,W 0 m σ H)/\∀i m σ H,W i m σ H->
   ((yR lo c n).stop i H/\D.nx σ H)\/((yR lo c n).go i H/\∃N:St->Hp->Prop,(∀σ' H',N σ' H'->∃m',m'<m/\W (i+1) m' σ' H')/\∀x H',(yR lo c n).yld i H x H'->g x σ H' fun σ2 H2=>tb {D with nx:=N,ct:=N,bk:=D.nx} σ2 H2):=by
 refine⟨fun i m σ H=>m=n-i/\i<=n/\Pv i σ H,⟨n,by simp,Nat.zero_le _,h0⟩,?_⟩;rintro i m σ H ⟨rfl,hi,p⟩
 by_cases hlt:i<n
 ·refine .inr ⟨hlt,Pv (i+1),fun σ' H' p'=>⟨n-(i+1),by omega,rfl,hlt,p'⟩,fun x H' y=>?_⟩;obtain⟨e,y⟩:=y;subst e y;exact hs i σ _ hlt p
 ·have e:i=n:=by omega
  subst e;exact .inl ⟨Nat.le_refl _,hd σ H p⟩
end
structure PAx(X:Cx)(es:List Expr)(t:TA):Prop where
 pa:PA X es t
structure PSy(X:Cx)(st:Stmt)(t:TS):Prop where
 ps:PS X st t
section
variable {X:Cx}
theorem QN:PAx X [] Wq:=⟨Qb⟩
theorem KJ{x:Str}{j:Nat}{p:Pos}{es:List Expr}{t:TA}(hr:PAx X es t):PAx X (.Constant (.str x) j p::es) (QX (tC (.str x)) t):=⟨Qa Qm hr.pa rfl⟩
theorem XR{es:List Expr}{t:TA}{pos:Pos}(h:PAx X es t):PEx X (.List es pos) (QaV t):=⟨Zt h.pa⟩
theorem Qr{st:Stmt}{rest:List Stmt}{t1 t2:TS}(h:PSy X st t1)(hr:PSx X rest t2):PSx X (st::rest) (ZI t1 t2):=⟨Qe h.ps hr.ps⟩
theorem Qt{st:Stmt}{t:TS}(h:PSy X st t):PSx X [st] t:=⟨Qg h.ps⟩
end
theorem QcL{P:Program}{w:World}{K:PySem.W.Frag}{mg:Str->Option Value}{base:Heap}{x qual:Str}{st:Stmt}{f:Addr}{fd:FuncData}{cdv:Value}{N ps:List Str}{k:Nat}{sp:Sp}(F:FunC K x qual st f fd cdv)(S:FnScope N ps (Qf st))(len:∀vs H Q E,sp vs H Q E->vs.length=ps.length)
  (hbody:∀(A:Around)(outer:List Env)(s:Shared)(H:Hp)(vs:List V)(Q:VK)(E:XK),Room k (A.deeper (envOfC qual (Qf st) s.heap.objs.size f cdv))->sp vs H Q E->
   ∃t,PSx (Wm (CXE P w) P w K mg base N qual (Qf st) f cdv A outer s H E).nox (Q0 st) t/\t {nx:=fun _ H'=>Q .non H',rt:=Q} (start N vs) H):FnOk P w K mg base (CXE P w) (k+1) f fd ps sp:=
 QdP F S len fun A outer s H vs Q E hr hsp=>by
  obtain⟨t,h,q⟩:=hbody A outer s H vs Q E hr hsp;exact⟨t,h.ps,q⟩
def xr(z y:Str)(i:Int):Int:=match occurrences z y (fromIndex z.length i) z.length 1 with|k::_=>(k:Int)|[]=> -1
theorem Ui:∀{ys:List Str}{us:List Value},Vals (ys.map V.str) us->∃l:List (Str × Tok),us=strValues l/\l.map (·.1)=ys
 |[],_,.nil=>⟨[],rfl,rfl⟩
 |y::ys,_,.cons r t=>by
  obtain⟨l,e1,e2⟩:=Ui t;obtain⟨tk,rfl⟩:=r;exact⟨(y,tk)::l,by rw[e1];rfl,by rw[List.map_cons,e2]⟩
section
variable {X:Cx}
theorem xt:MtR X "str.join" (fun x vs H Q=>∃(z:Str)(p:Addr)(ys:List Str),x=.str z/\vs=[.ref p]/\SqL X.K H p (ys.map V.str)/\JoinOk z ys=true/\Q (.str (Txt.join z ys)) H):=by
 intro pins s σ H x vs v us Q I rx rv h;obtain⟨z,p,ys,rfl,rfl,hq,hj,q⟩:=h;obtain⟨t,rfl⟩:=rx;obtain⟨u,rfl,ru⟩:=vals1 rv;obtain rfl:u=Value.ref p:=ru;obtain⟨its,rv,pl,hl⟩:=I.list hq;obtain⟨l,e1,e2⟩:=Ui rv;subst e1;have hok:=hj;unfold JoinOk at hok;rw[Bool.not_eq_true', ←e2]at hok;refine call_meets F.slot_str_join (typeIs_str _ _ _) F.entry_str_join (F.args_str_join_2 _ _) (meets_str_join_list z t p l hok) ⟨pl.isList,?_⟩;refine post_join l ⟨joinFit_length hok,fun t' k=>⟨.str (Txt.join z (l.map (·.1))),H,I.tok k,⟨t',rfl⟩,?_⟩⟩;rw[e2];exact q
theorem wG:MtR X "str.find" (fun x vs H Q=>∃(z y:Str)(i:Int),x=.str z/\vs=[.str y,.int i]/\Q (.int (xr z y i)) H):=by
 intro pins s σ H x vs v us Q I rx rv h;obtain⟨z,y,i,rfl,rfl,q⟩:=h;obtain⟨t,rfl⟩:=rx;obtain⟨u1,u2,rfl,⟨t1,rfl⟩,⟨t2,rfl⟩⟩:=vals2 rv;exact call_gives F.slot_str_find F.entry_str_find (F.args_str_find_3 _ _ _) (gives_str_find_from z y i t t1 t2) ⟨.int _,H,I.tok _,⟨_,rfl⟩,q⟩
end
theorem VE{prog:Program}{w:World}{A:Around}(hh:A.handled=none)(I l:Addr)(hne:l≠I)(items:Array Value):
  WalksS prog w A I [I,l] [I] (fun a b=>a=b) items.size (fun i v=>items[i]? =some v) (fun i s=>s.heap.IsListIter I l i/\s.heap.IsList l items) where
 sub:=fun b hb=>by simp at hb;simp[hb]
 grefl:=fun _=>rfl
 gtrans:=fun _ _ _ a b=>a.trans b
 frame:=fun i s h' tk x _ hk=>⟨x.1.at fun o e=>hk I (by simp) o e,x.2.at fun o e=>hk l (by simp) o e⟩
 item:=fun i s Q E hi x hQ=>by
  have hx:items[i]? =some (items[i]'hi):=Array.getElem?_eq_getElem hi;refine wpAny_pyNext_list_item x.1 x.2 hx fun h' st' sb=>?_;exact hQ _ _ hx ⟨st',x.2.at fun o eo=>(sb.2 l hne).trans eo⟩ ⟨fun b o hb eo=>(sb.2 b (fun h=>hb (by simp[h]))).trans eo,rfl,rfl,rfl,Nat.le_refl _⟩
 done:=fun s Q E x hQ=>wpAny_pyNext_list_end hh x.1 x.2 (Array.getElem?_eq_none (Nat.le_refl _)) fun h' eb=>hQ _ ⟨fun b o hb eo=>eb b o (fun h=>hb (by simp[h])) eo,rfl,rfl,rfl,Nat.le_refl _⟩
 self:=fun _ _ _ _ x hQ=>wpAny_pyIter_listiter x.1 hQ
theorem UY{ns:List Int}{us:List Value}(r:Vals (ns.map V.int) us):∀i v,us.toArray[i]? =some v->∃t,v=Value.int (ns.getD i 0) t:=fun i v hv=>by
 have h1:us[i]? =some v:=by simpa using hv
 have hlt:=(List.getElem?_eq_some_iff.mp h1).1;have hl:=r.length;rw[List.length_map]at hl;have h2:(ns.map V.int)[i]? =some (V.int (ns.getD i 0)):=by
  rw[List.getElem?_map,List.getElem?_eq_getElem (by omega)];simp[List.getD,List.getElem?_eq_getElem (show i<ns.length by omega)]
 obtain⟨u,e,q⟩:=r.get h2;rw[h1]at e;cases e;exact q
theorem UZ(ns:List Int):∀k,k<=ns.length->preSum (fun i=>ns.getD i 0) k=(ns.take k).sum:=by
 intro k
 induction k with
 |zero=>intro _;rfl
 |succ k ih=>
  intro hk;have e:ns.take (k+1)=ns.take k++[ns.getD k 0]:=by
   rw[List.take_add_one,List.getElem?_eq_getElem (by omega)];simp[List.getD,List.getElem?_eq_getElem (show k<ns.length by omega)]
  show preSum _ k+ns.getD k 0=_;rw[ih (by omega),e,List.sum_append];simp
theorem yS(val:Nat->Int):∀k,argBest (fun i j=>decide (val i>val j)) k<=k/\∀i,i<=k->val i<=val (argBest (fun i j=>decide (val i>val j)) k):=by
 intro k
 induction k with
 |zero=>exact⟨Nat.le_refl _,fun i hi=>by rw[Nat.le_zero.mp hi];exact Int.le_refl _⟩
 |succ k ih=>
  unfold argBest
  by_cases h:val (k+1)>val (argBest (fun i j=>decide (val i>val j)) k)
  ·rw[if_pos (decide_eq_true h)];refine⟨Nat.le_refl _,fun i hi=>?_⟩;rcases Nat.lt_or_ge i (k+1)with h1|h1
   ·have:=ih.2 i (by omega);omega
   ·rw[show i=k+1 by omega];exact Int.le_refl _
  ·rw[if_neg (by rw[decide_eq_true_eq];exact h)];refine⟨by omega,fun i hi=>?_⟩;rcases Nat.lt_or_ge i (k+1)with h1|h1
   ·exact ih.2 i (by omega)
   ·rw[show i=k+1 by omega];omega
section
variable {X:Cx}
theorem Ww(hc:X.calm=true):X9 X (.builtin "sum") (fun xs H Q=>∃(p:Addr)(ns:List Int),xs=[.ref p]/\SqL X.K H p (ns.map V.int)/\Q (.int ns.sum) H):=by
 intro pins s σ H xs us Q I r h;obtain⟨p,ns,rfl,hq,q⟩:=h;obtain⟨u,rfl,ru⟩:=vals1 r;obtain rfl:u=Value.ref p:=ru;obtain⟨its,rv,pl,hl⟩:=I.list hq;have hil:=pl.isList;have hlt:p<s.heap.objs.size:=by obtain⟨o,e,_⟩:=hil;exact Heap.lt_size e
 have hlen:=rv.length;rw[List.length_map]at hlen;refine call_sum_walkAnyS (wpAny_pyIter_list hil ?_);have I2:Inv X pins σ H {s with heap:=s.heap.push {cls:=.type "list_iterator",data:=.fields #[.ref p,.int 0 0]}}:=I.kept (t':=s.toks) fun b o e=>Heap.get?_push_of_some _ e;refine⟨s.heap.objs.size,_,_,_,_,_,_,fun i=>ns.getD i 0,rfl,VE (A:=X.A.in1) (I.ok.hd hc) _ p (Nat.ne_of_lt hlt) its.toArray,⟨⟨_,Heap.get?_push_size _ rfl,rfl,rfl⟩,hil.push _⟩,fun b hb=>?_,UY rv,fun s' t' hm=>?_⟩
 ·show b<(s.heap.push _).objs.size;rw[Heap.size_push];rcases List.mem_cons.mp hb with rfl|hb
  ·exact Nat.lt_succ_self _
  ·rw[List.mem_singleton.mp hb];exact Nat.lt_succ_of_lt hlt
 ·obtain⟨f0,f1,f2,f3,f4,f5⟩:=I.k4 (Nat.le_refl _) (I.hok.fresh (Nat.le_refl _));obtain⟨h',g',d',tk',os'⟩:=s';obtain rfl:g'=s.gens:=hm.gens.symm;obtain rfl:d'=s.drawn:=hm.drawn;obtain rfl:os'=s.os:=hm.os;have e:preSum (fun i=>ns.getD i 0) its.toArray.size=ns.sum:=by
   rw[List.size_toArray, ←hlen,UZ ns _ (Nat.le_refl _),List.take_length]
  rw[e];refine⟨.int ns.sum,H,?_,⟨t',rfl⟩,q⟩;exact(I2.turned (h':=h') (t':=tk') (it:=s.heap.objs.size) (fun b o hb eo=>hm.heap b o (by simpa using hb) eo) f0 f1 f3 f4 f5:)
theorem xu(hc:X.calm=true):X9 X (.builtin "max") (fun xs H Q=>∃(p:Addr)(ns:List Int),xs=[.ref p]/\SqL X.K H p (ns.map V.int)/\ns≠[]/\∀m,m∈ns->(∀n∈ns,n<=m)->Q (.int m) H):=by
 intro pins s σ H xs us Q I r h;obtain⟨p,ns,rfl,hq,hne,q⟩:=h;obtain⟨u,rfl,ru⟩:=vals1 r;obtain rfl:u=Value.ref p:=ru;obtain⟨its,rv,pl,hl⟩:=I.list hq;have hil:=pl.isList;have hlt:p<s.heap.objs.size:=by obtain⟨o,e,_⟩:=hil;exact Heap.lt_size e
 have hlen:=rv.length;rw[List.length_map]at hlen;have hpos:0<ns.length:=by cases ns with|nil=>exact absurd rfl hne|cons a r=>exact Nat.succ_pos _
 refine call_max_walkS (wpAny_pyIter_list hil ?_);have I2:Inv X pins σ H {s with heap:=s.heap.push {cls:=.type "list_iterator",data:=.fields #[.ref p,.int 0 0]}}:=I.kept (t':=s.toks) fun b o e=>Heap.get?_push_of_some _ e;refine⟨s.heap.objs.size,_,_,_,_,_,_,_,rfl,VE (A:=X.A.in1) (I.ok.hd hc) _ p (Nat.ne_of_lt hlt) its.toArray,⟨⟨_,Heap.get?_push_size _ rfl,rfl,rfl⟩,hil.push _⟩,fun b hb=>?_,by rw[List.size_toArray];omega,CmpOf.ints_gt (fun i=>ns.getD i 0) (UY rv),fun v s' hv hm=>?_⟩
 ·show b<(s.heap.push _).objs.size;rw[Heap.size_push];rcases List.mem_cons.mp hb with rfl|hb
  ·exact Nat.lt_succ_self _
  ·rw[List.mem_singleton.mp hb];exact Nat.lt_succ_of_lt hlt
 ·obtain⟨f0,f1,f2,f3,f4,f5⟩:=I.k4 (Nat.le_refl _) (I.hok.fresh (Nat.le_refl _));obtain⟨h',g',d',tk',os'⟩:=s';obtain rfl:g'=s.gens:=hm.gens.symm;obtain rfl:d'=s.drawn:=hm.drawn;obtain rfl:os'=s.os:=hm.os;obtain⟨t,rfl⟩:=UY rv _ _ hv;obtain⟨b1,b2⟩:=yS (fun i=>ns.getD i 0) (its.toArray.size-1);generalize argBest (fun i j=>decide (ns.getD i 0>ns.getD j 0)) (its.toArray.size-1)=j at b1 b2;rw[List.size_toArray]at b1 b2;have getD_eq:∀i,i<ns.length->ns.getD i 0=ns[i]! :=fun i hi=>by simp[List.getD,List.getElem?_eq_getElem hi]
  have hj:j<ns.length:=by omega
  refine⟨.int (ns.getD j 0),H,?_,⟨t,rfl⟩,q _ ?_ fun n hn=>?_⟩
  ·exact(I2.turned (h':=h') (t':=tk') (it:=s.heap.objs.size) (fun b o hb eo=>hm.heap b o (by simpa using hb) eo) f0 f1 f3 f4 f5:)
  ·have:ns.getD j 0=ns[j]:=by simp[List.getD,List.getElem?_eq_getElem hj]
   rw[this];exact List.getElem_mem hj
  ·obtain⟨i,hi,rfl⟩:=List.mem_iff_getElem.mp hn;have e:ns.getD i 0=ns[i]:=by simp[List.getD,List.getElem?_eq_getElem hi]
   rw[←e];exact b2 i (by omega)
end
structure KDict(P:Program)(w:World)(K:PySem.W.Frag)(a:Addr)(kvs:List (Key × V)):Prop where
 ne:(a==sysModules)=false
 ok:∀h:Heap,K.In h->∃vs,KV kvs vs/\h.DictOf (Q4 P w) a vs
section
variable {X:Cx}{o i:Expr}{td ty:TE}{pos:Pos}{a:Addr}{kvs:List (Key × V)}
def QcM(a:Addr)(kvs:List (Key × V))(td ty:TE):TE:=fun σ H Q=>td σ H fun x H1=>ty σ H1 fun y H2=>∃k v,x=.ref a/\y=kV k/\V0 kvs k=some v/\Q v H2
theorem wH(D:KDict X.prog X.w X.K a kvs)(ho:PE X o td)(hi:PE X i ty)(hs:Qcc i):PE X (.Subscript o i pos) (QcM a kvs td ty):=by
 intro pins s σ H Q I h;refine zY PySem.F.slot_dict_getitem.lookup hs (thn (ho pins s σ H _ I h) fun u s1⟨x,H1,I1,rx,q1⟩=>thn (hi pins s1 σ H1 _ I1 q1) fun iv s2⟨y,H2,I2,ry,k,v,ex,ey,l,q2⟩=>?_);subst ex ey;obtain rfl:u=Value.ref a:=rx;obtain⟨vs,rel,dd⟩:=D.ok s2.heap I2.kIn;obtain⟨w',hw,rw'⟩:=qG.some_of (v:=v) (o:=valueAt vs k) (by rw[←l];exact rel.val k);exact⟨dd.typeIs,wpAny_getItem_of (UR ry) dd.mapOf hw ⟨v,H2,I2.tok _,rw',q2⟩⟩
def yT(a:Addr)(kvs:List (Key × V))(ty td:TE):TE:=fun σ H Q=>ty σ H fun y H1=>td σ H1 fun x H2=>∃k,x=.ref a/\y=kV k/\Q (.bl (!(V0 kvs k).isSome)) H2
theorem jT(D:KDict X.prog X.w X.K a kvs)(hi:PE X i ty)(ho:PE X o td):PC X .NotIn i o (yT a kvs ty td):=by
 intro pins s σ H Q I h;refine thn (hi pins s σ H _ I h) fun iv s1⟨y,H1,I1,ry,q1⟩=>thn (ho pins s1 σ H1 _ I1 q1) fun u s2⟨x,H2,I2,rx,k,ex,ey,q2⟩=>?_;subst ex ey;obtain rfl:u=Value.ref a:=rx;obtain⟨vs,rel,dd⟩:=D.ok s2.heap I2.kIn;refine wpAny_notIn_of (UR ry) D.ne dd.mapOf ?_;rw[←(rel.val k).Y8];exact⟨.bl _,H2,I2.tok _,rfl,q2⟩
end
theorem boot_sum:bootBuiltins "sum"=some (.builtin "sum"):=by boot_by_name
section
variable {X:Cx}
theorem yU:PIp X .Add (fun x y H Q=>∃i j,x=.str i/\y=.str j/\i.length+j.length<=sizeLine/\Q (.str (i++j)) H):=by
 intro pins s σ H x y v u Q I r1 r2 h;obtain⟨i,j,e1,e2,hl,q⟩:=h;subst e1;subst e2;obtain⟨t,rfl⟩:=r1;obtain⟨t',rfl⟩:=r2;exact SB.iadd (fun t2 k=>⟨.str _,H,I.tok k,⟨t2,rfl⟩,q⟩) hl
end
section
variable {X:Cx}
theorem Wy{elt tg iter:Expr}{ifs:List Expr}{scope:Scope}{pos spos py:Pos}{NB:List Str}{wi:TI}{g:TG}{tt:TT}{te:TE}{iy:Nat}{y:Str}(hc:X.calm=true)(S:BlkScope NB scope)(hi:PI X tg iter wi)
  (hg:∀s H ex,PG (Jw X NB scope s H ex) tg g) (ht:∀s H ex,PTs (Jw X NB scope s H ex) ifs tt) (he:∀s H ex,PE (Jw X NB scope s H ex) elt te)
  (hN:X.N.Nodup) (hiy:X.N[iy]? =some y) (hy:Loc X.env.scope y) (hsw:swapsWith (.ListComp elt [⟨tg,iter,ifs,0⟩] scope pos) (some (.Name y py)) spos.line X.env=pure true)
  (hs:∀x,foldedSetIterable iter X.env x=pure x:=by intro _;rfl) (hf:X.fn y=true\/X.env.scope.names.lookup y=some .local:=by first|exact .inl rfl|exact .inr rfl|assumption):
  PS X (.Assign [.Name y py] (.ListComp elt [⟨tg,iter,ifs,0⟩] scope pos) spos) (JS (UX NB wi g tt te) (QJ iy)):=by
 intro pins s σ H Dn I h;rw[exec_Assign_Name_used _ _ _ _ hsw];refine wpAny_bind (wpAny_standAt (wpAny_bind ?_));show wpAny _ X.A (do let _←comprehension (.ListComp elt [⟨tg,iter,ifs,0⟩] scope pos) scope X.env _ (newList []) false (eval iter X.env) (some (assign (.Name y py) X.env))) _ _ s;refine wpAny_bind (wpAny_mono (wpAny_comprehension_free (use:=some (assign (.Name y py) X.env)) (Q:=fun _ s'=>SP X pins Dn .next s') (cl:=[]) rfl hs (Uh S.nofree) S.kind S.loc (thn (hi pins s σ H _ I h) fun v s1 h1=>thn h1 fun itv s2 h2=>?_)) (fun _ s' hq=>wpAny_pure (wpAny_pure hq)) fun _ _ e=>e);obtain⟨it,fp,tn,J,H2,e,I2,T,st2,f2,W,⟨m0,w0⟩,turn⟩:=h2;subst e;refine wpAny_newObj_type ?_;have up2:∀b o,s2.heap.get? b=some o->(s2.heap.push {cls:=.type "list",data:=.seq ([]:List Value).toArray}).get? b=some o:=fun b o e=>Heap.get?_push_of_some _ e;have I3:Inv X pins σ H2 {s2 with heap:=s2.heap.push {cls:=.type "list",data:=.seq ([]:List Value).toArray}}:=I2.kept (t':=s2.toks) up2;have st3:tn 0 (s2.heap.push {cls:=.type "list",data:=.seq ([]:List Value).toArray}):=T.keep _ _ _ st2 fun b _ o e=>up2 b o e;have hD3:(s2.heap.push {cls:=.type "list",data:=.seq ([]:List Value).toArray}).get? s2.heap.objs.size=some (Zw []):=Heap.get?_push_size _ rfl;have hD2:H2 s2.heap.objs.size=none:=I2.hok.fresh (Nat.le_refl _);have lt2:∀b o,s2.heap.get? b=some o->b≠s2.heap.objs.size:=fun b o e=>Nat.ne_of_lt (Heap.lt_size e);have fpO:∀b∈fp,∃o,s2.heap.get? b=some o:=fun b hb=>let ⟨o,e,_⟩:=T.obj _ _ st2 b hb;⟨o,e⟩;have hDs0:X.s₀.heap.objs.size<=s2.heap.objs.size:=I2.sz;have hDL:s2.heap.objs.size≠X.env.locals:=Nat.ne_of_gt I2.lt;have hDC:∀x c,X.env.cells.lookup x=some c->c≠s2.heap.objs.size:=fun x c e=>let ⟨v,o,e1,_⟩:=I2.cell x c e;lt2 c o e1;have hDp:∀p∈X.pn++pins,p.1≠s2.heap.objs.size:=fun p hp=>lt2 p.1 _ (I2.pin p hp).1;have hDf:s2.heap.objs.size∉frs X.stack:=fun z=>let ⟨o,e,_⟩:=(I2.stack.mem z).2;lt2 _ o e rfl;generalize hS3:({s2 with heap:=s2.heap.push {cls:=.type "list",data:=.seq ([]:List Value).toArray}}:Shared)=s3 at I3 ⊢;have hh3:s3.heap=s2.heap.push {cls:=.type "list",data:=.seq ([]:List Value).toArray}:=by rw[←hS3]
 rw[←hh3]at st3 hD3 up2;generalize s2.heap.objs.size=D at hD3 hD2 lt2 hDs0 hDL hDC hDp hDf ⊢;refine XF S.kind fun cenv s4 hce x4=>?_;subst hce;rw[We S.nofree];have lt3:∀b o,s3.heap.get? b=some o->b<s3.heap.objs.size:=fun b o e=>Heap.lt_size e;have fp3:∀b∈fp,b<s3.heap.objs.size:=fun b hb=>let ⟨o,e⟩:=fpO b hb;lt3 b o (up2 b o e);have dl3:D<s3.heap.objs.size:=lt3 D _ hD3;have DfpN:∀b∈fp,b≠D:=fun b hb=>let ⟨o,e⟩:=fpO b hb;lt2 b o e;obtain⟨h4,tk4,rfl,hk4⟩:=x4.done;have bsN:∀b o,X.base.get? b=some o->b∉D::fp:=fun b o e hb=>by
  rcases List.mem_cons.mp hb with rfl|hb
  ·exact absurd (Nat.lt_of_lt_of_le (Heap.lt_size (I2.ok.bs b o e).1) hDs0) (Nat.lt_irrefl _)
  ·obtain⟨_,_,_,f3,_⟩:=f2 b hb;rcases f3 with z|z
   ·exact I2.ok.noex b o e z
   ·exact absurd (Nat.lt_of_lt_of_le (Heap.lt_size (I2.ok.bs b o e).1) z) (Nat.lt_irrefl _)
 have exF:∀b∈D::fp,b∉frs X.stack:=fun b hb hf=>by
  rcases List.mem_cons.mp hb with rfl|hb
  ·exact hDf hf
  ·obtain⟨_,f1,f2',_⟩:=f2 b hb;rcases List.mem_cons.mp (I2.XB b hf)with z|z
   ·exact f1 z
   ·exact f2' z
 have cge:∀y c,(cellsFrom (s3.heap.objs.size+1) scope.names []).lookup y=some c->s3.heap.objs.size<c:=fun y c e=>x4.above y c (PySem.mem_of_lookup e);have exLt:∀b∈D::fp,b<s3.heap.objs.size:=fun b hb=>by
  rcases List.mem_cons.mp hb with rfl|hb
  ·exact dl3
  ·exact fp3 b hb
 have okB:(Jw X NB scope s3 H2 (D::fp)).Ok:=by
  refine⟨I3.ok.mod,S.kind,I3.ok.glob,I3.ok.blt,Nat.le_refl _,fun y z c h1 h2=>?_,fun y hy=>?_,fun y c _ h=>Nat.le_of_lt (cge y c h),I3.ok.hd,I3.ok.frames,.inl rfl,fun b hb=>⟨Nat.ne_of_lt (exLt b hb),fun y c e z=>?_⟩,I3.bs,Nat.le_trans I3.ok.bsz I3.sz,bsN,exF,I3.stack,I3.Z1⟩
  ·exact name_of_addr x4.apart (PySem.mem_of_lookup h1) (PySem.mem_of_lookup h2)
  ·have hy:scope.names.lookup y=some .cell\/scope.names.lookup y=some .free:=hy;rcases hy with hy|hy
   ·exact Wr hy
   ·exact absurd rfl (S.nofree _ (PySem.mem_of_lookup hy))
  ·have:=cge y c e;rw[z]at this;exact absurd (Nat.lt_trans this (exLt b hb)) (Nat.lt_irrefl _)
 have rep:∀(j:Nat)(v:V),(List.replicate NB.length (none:Option V))[j]? ≠some (some v):=fun j v z=>by
  rw[List.getElem?_replicate]at z
  split at z<;>cases z
 have IB:Inv (Jw X NB scope s3 H2 (D::fp)) [(D,Zw [])] (List.replicate NB.length none) H2 {s3 with heap:=h4,toks:=tk4}:=by
  refine⟨okB,rfl,I3.bare,Un.kept hk4,⟨_,x4.toInCall.ns,fun i y v h1 h2 h3=>absurd h2 (rep i v)⟩,fun y c h=>⟨_,x4.cell y c h⟩,I3.hok.fresh (Nat.le_refl _),fun y c h=>I3.hok.fresh (Nat.le_of_lt (cge y c h)),fun p hp=>?_,I3.hok.kept hk4,by rw[List.length_replicate]⟩;obtain rfl:p=(D,Zw []):=by simpa using hp
  exact⟨hk4 _ _ hD3,hD2,Nat.ne_of_lt dl3,hDf,fun v z=>nomatch z⟩
 have stat:∀{H':Hp}{ys:List Value},(∀b∈fp,H' b=none)->∀b∈fp,jC (Jw X NB scope s3 H2 (D::fp)) [(D,Zw ys)] H' b:=fun hn b hb=>
  ⟨hn b hb,Nat.ne_of_lt (fp3 b hb),exF b (List.mem_cons_of_mem _ hb),.inl (List.mem_cons_of_mem _ hb),fun y c e z=>by
   have:=cge y c e;rw[z]at this;exact absurd (Nat.lt_trans this (fp3 b hb)) (Nat.lt_irrefl _),fun p hp=>by
    obtain rfl:p=(D,_):=by simpa using hp
    exact(DfpN b hb).symm⟩
 have st4:tn 0 h4:=T.keep _ _ _ st3 fun b _ o e=>hk4 b o e;have fr4:∀b∈fp,H2 b=none:=fun b hb=>(f2 b hb).1;have hcB:(Jw X NB scope s3 H2 (D::fp)).calm=true:=hc;have loop:codeAny (model X.prog X.w) X.A (.compLoop (.ListComp elt [⟨tg,iter,ifs,0⟩] scope pos) 0 (.ref it) (.ref D) (xp scope X.env s3.heap.objs.size))
   (compPost (model X.prog X.w) X.A X.xe (some (assign (.Name y py) X.env)) (fun _ s'=>SP X pins Dn .next s') (.ref D) s3.heap.objs.size) {s3 with heap:=h4,toks:=tk4}:=by
  refine Kj (fun n s'=>∃i vs ys H',Inv (Jw X NB scope s3 H2 (D::fp)) [(D,Zw ys)] (List.replicate NB.length none) H' s'/\Vals vs ys/\vs.length<=sizeLine/\tn i s'.heap/\(∀b∈fp,H' b=none)/\W i n vs H') ?_ m0 ⟨0,[],[],H2,IB,.nil,Nat.zero_le _,st4,fr4,w0⟩;rintro n s5 ⟨i,vs,ys,H5,I5,rv,hvl,st5,fr5,w5⟩;rcases turn i n vs H5 w5 with⟨stop,qn⟩|⟨go,hlt,N,hN,step⟩
  ·refine wpAny_mono (T.done (Jw X NB scope s3 H2 (D::fp)) rfl rfl rfl hcB i _ s5 _ H5 (fun _ _=>False) I5 (stat fr5) st5 stop) (fun r s6⟨hr,I6⟩=>?_) (fun _ _ z=>z.elim);subst hr;obtain⟨m6,hn6,_⟩:=id I6.loc;have hC6:H5 s3.heap.objs.size=none:=I6.free;have un7:Un (frs X.stack) (D::fp) H2 H5 s3.heap s6.heap:=I6.base;have I7:Inv X pins σ H5 s6:=I3.jB (s':=s6) I6.os un7 I6.hok I6.bare fun b hb=>by
    rcases List.mem_cons.mp hb with rfl|hb
    ·exact⟨.inr hDs0,hDL,hDC,hDp⟩
    ·obtain⟨_,f1,_,f3,f4,f5⟩:=f2 b hb;exact⟨f3,f1,f4,f5⟩
   obtain⟨eD,nD,_⟩:=I6.pin (D,Zw ys) (by simp);have nD':H5 D=none:=nD;have eD':s6.heap.get? D=some (Zw ys):=eD;have hD0:X.s₀.heap.get? D=none:=by
    cases q:X.s₀.heap.get? D with
    |none=>rfl
    |some o=>exact absurd (Nat.lt_of_lt_of_le (Heap.lt_size q) hDs0) (Nat.lt_irrefl _)
   have I8:Inv X pins σ (upd H5 D (.lst vs)) s6:=I7.xg nD' hD0 hDL hDC hDp ⟨hvl,ys,ys.length,rv,eD'⟩;have hq:=qn D nD';have s03:X.s₀.heap.objs.size<=s3.heap.objs.size:=I3.sz;have cL:s3.heap.objs.size≠X.env.locals:=Nat.ne_of_gt I3.lt;have cC:∀x c,X.env.cells.lookup x=some c->c≠s3.heap.objs.size:=fun x c e=>let ⟨v,o,e1,_⟩:=I3.cell x c e;Nat.ne_of_lt (lt3 c o e1);have cP:∀p∈X.pn++pins,p.1≠s3.heap.objs.size:=fun p hp=>Nat.ne_of_lt (lt3 p.1 _ (I3.pin p hp).1);show wpAny (model X.prog X.w) X.A (assign (.Name y py) X.env (.ref D)) _ X.xe s6;refine wpAny_assign_Name (X6 (v:=.ref D) I8 hN hiy hy rfl (fun s9 I9⟨a9,sb9,ha9⟩=>?_) hf);have na:s3.heap.objs.size≠a9:=by
    rcases ha9 with rfl|z
    ·exact cL
    ·exact(cC y a9 z).symm
   refine⟨m6,hn6.sameBut sb9 na,fun h10 sb10=>⟨_,_,?_,hq⟩⟩;have hD3':upd H5 D (.lst vs) s3.heap.objs.size=none:=by rw[Qp (Nat.ne_of_gt dl3)];exact hC6
   exact(I9.turned (h':=h10) (t':=s9.toks) (it:=s3.heap.objs.size) (fun b o hb e=>(sb10.2 b hb).trans e) hD3' cL (.inr s03) cC cP:)
  ·refine wpAny_mono (T.item (Jw X NB scope s3 H2 (D::fp)) rfl rfl rfl hcB i _ s5 _ H5 (fun _ _=>False) I5 (stat fr5) st5 go) (fun r s6⟨u,hr,h6⟩=>?_) (fun _ _ z=>z.elim);subst hr;refine wpAny_mono h6 (fun _ s7⟨x,H7,I7,r7,y7,st7,fr7⟩=>?_) (fun _ _ z=>z.elim);have I7':=I7.pinned (stat fr7) (T.obj _ _ st7);refine wpAny_mono (hg s3 H2 (D::fp) _ s7 _ H7 x u _ I7' r7 (step x H7 y7)) (fun _ s8⟨σ8,H8,I8,q8⟩=>?_) (fun _ _ z=>z.elim);refine wpAny_mono (ht s3 H2 (D::fp) _ s8 σ8 H8 _ I8 q8) (fun ok s9⟨H9,I9,q9⟩=>?_) (fun _ _ z=>z.elim);have fpK:∀{σ':St}{H':Hp}{s':Shared},Inv (Jw X NB scope s3 H2 (D::fp)) ([(D,Zw ys)]++K9 fp s7.heap) σ' H' s'->tn (i+1) s'.heap/\∀b∈fp,H' b=none:=fun J=>
    ⟨T.keep _ _ _ st7 fun b hb o e=>(J.pin (b,o) (List.mem_append_right _ (List.mem_append_right _ (Ja hb e)))).1,fun b hb=>by
     obtain⟨o,e,d⟩:=T.obj _ _ st7 b hb;exact(J.pin (b,o) (List.mem_append_right _ (List.mem_append_right _ (Ja hb e)))).2.1⟩
   have wk:∀{σ':St}{H':Hp}{s':Shared}{pl:List (Addr × Obj)},Inv (Jw X NB scope s3 H2 (D::fp)) pl σ' H' s'->Inv (Jw X NB scope s3 H2 (D::fp)) pl (List.replicate NB.length none) H' s':=fun J=>
    J.weak (by rw[List.length_replicate];exact J.len.symm) fun j v z=>absurd z (rep j v)
   cases ok with
   |false=>
    rw[if_neg (by decide)]at q9;rw[if_neg (by decide)];obtain⟨m',hm,w9⟩:=hN vs H9 q9;obtain⟨t9,f9⟩:=fpK I9;exact⟨m',hm,i+1,vs,ys,H9,wk I9.Jx,rv,hvl,t9,f9,w9⟩
   |true=>
    rw[if_pos rfl]at q9;rw[if_pos rfl];refine wpAny_mono (he s3 H2 (D::fp) _ s9 σ8 H9 _ I9 q9) (fun y s10⟨v,H10,I10,rv10,q10⟩=>?_) (fun _ _ z=>z.elim);obtain⟨eD,nD,_,nf,_⟩:=I10.pin (D,Zw ys) (by simp);have hyl:=rv.length;refine append_at (hsz:=by show ys.toArray.size<=sizeLine;rw[List.size_toArray, ←hyl];exact hvl) eD fun h11 sb11 hD11=>?_;obtain⟨m',hm,w11⟩:=hN (vs++[v]) H10 q10;obtain⟨t10,f10⟩:=fpK I10;have I10u:=I10.Jx;have k11:∀b o,b≠D->s10.heap.get? b=some o->h11.get? b=some o:=fun b o hb e=>(sb11.2 b hb).trans e;have IE:Inv (Jw X NB scope s3 H2 (D::fp)) [] σ8 H10 s10:=I10u.ZC fun p hp=>nomatch hp;have I11:Inv (Jw X NB scope s3 H2 (D::fp)) [] σ8 H10 {s10 with heap:=h11}:=IE.turned (t':=s10.toks) k11 nD (Nat.ne_of_lt dl3) (.inl List.mem_cons_self) (fun y' c e z=>by
     have:=cge y' c e;rw[z]at this;exact absurd (Nat.lt_trans this dl3) (Nat.lt_irrefl _)) (fun p hp=>absurd (show p∈([]:List (Addr × Obj))from hp) (by simp))
    have eL:({cls:=.type "list",data:=.seq (ys.toArray.push y) (ys.length+1)}:Obj)=Zw (ys++[y]):=by
     show({cls:=.type "list",data:=.seq (ys.toArray.push y) (ys.length+1)}:Obj)={cls:=.type "list",data:=.seq (ys++[y]).toArray (ys++[y]).length};rw[List.length_append,List.length_singleton,List.push_toArray]
    refine⟨m',hm,i+1,vs++[v],ys++[y],H10,wk (I11.ZC fun p hp=>?_),rv.append (.cons rv10 .nil),by rw[List.length_append,List.length_singleton];exact hlt,T.keep _ _ _ t10 fun b hb o e=>k11 b o (DfpN b hb) e,f10,w11⟩;obtain rfl:p=(D,Zw (ys++[y])):=by simpa using hp
    exact⟨by rw[←eL];exact hD11,nD,Nat.ne_of_lt dl3,nf,fun v z=>nomatch z⟩
 exact codeAny_compStart_list loop (T.self _ 0 _ _ _ st4 loop)
theorem jU{K0:PySem.W.Frag}(hK:X.K=K0):OpR X (compareOp .In) (rIn K0 false):=by
 subst hK;exact zT
end
end L2
namespace K01
def ten(m:Int):Int:=10^m.toNat
theorem V7(m:Int):0<ten m:=Int.pow_pos (by decide)
theorem yV{m:Int}(h:m<=0):ten m=1:=by
 unfold ten;rw[Int.toNat_of_nonpos h];rfl
theorem yW{a b:Int}(ha:0<=a)(hb:0<=b):ten (a+b)=ten a*ten b:=by
 unfold ten;rw[Int.toNat_add ha hb,Int.pow_add]
theorem Qbt{a b:Int}(h:a<=b)(hb:0<=b):ten a<=ten b:=by
 by_cases ha:0<=a
 ·rw[show b=a+(b-a) by omega,yW ha (by omega)];have:=V7 (b-a);have h2:=V7 a
  calc ten a=ten a*1:=(Int.mul_one _).symm
   _<=ten a*ten (b-a):=Int.mul_le_mul_of_nonneg_left (by omega) (Int.le_of_lt h2)
 ·rw[yV (by omega)];have:=V7 b;omega
end K01
namespace K02
open PySem PySem.NumText Builtin Builtin.Str StrLaws
abbrev tx(l:List Nat):Str:=⟨l.toArray⟩
theorem U0(l:List Nat):(tx l).cps.toList=l:=rfl
theorem JW(l:List Nat):(tx l).length=l.length:=by show l.toArray.size=_;rw[List.size_toArray]
theorem jV(z:Str):z=tx z.cps.toList:=by cases z;rfl
theorem len_list(z:Str):z.length=z.cps.toList.length:=by show z.cps.size=_;rw[Array.length_toList]
theorem qX{a b:List Nat}(h:tx a=tx b):a=b:=by
 have:=congrArg (fun z:Str=>z.cps.toList) h;exact this
theorem Qbu(a b:List Nat):tx a++tx b=tx (a++b):=by
 show(⟨a.toArray++b.toArray⟩:Str)=_;rw[List.append_toArray]
theorem Qbv(b:List Nat):∀acc:Nat,b.foldl (fun acc c=>acc*10+(c-48)) acc=acc*10^b.length+b.foldl (fun acc c=>acc*10+(c-48)) 0:=by
 induction b with
 |nil=>intro acc;simp
 |cons c r ih=>
  intro acc;rw[List.foldl_cons,List.foldl_cons,ih (acc*10+(c-48)),ih (0*10+(c-48)),List.length_cons,Nat.pow_succ];rw[Nat.add_mul,Nat.zero_mul,Nat.zero_add,Nat.mul_assoc,Nat.mul_comm 10,Nat.add_assoc]
theorem xv(a b:List Nat):digitsVal (a++b)=digitsVal a*10^b.length+digitsVal b:=by
 unfold digitsVal;rw[List.foldl_append,Qbv]
theorem Qbw{l:List Nat}(h:AllDigits l):digitsVal l<10^l.length:=by
 induction l with
 |nil=>decide
 |cons c r ih=>
  have h1:=ih h.tail;have h2:=h.head;rw[show c::r=[c]++r from rfl,xv,List.length_append,List.length_singleton];have e:digitsVal [c]=c-48:=by simp[digitsVal]
  rw[e,Nat.pow_add];have h3:(c-48)*10^r.length<=9*10^r.length:=Nat.mul_le_mul_right _ (by omega);omega
theorem jW(l:List Nat){k:Nat}(h:k<=l.length):sliceText (tx l) none (some (k:Int))=tx (l.take k):=by
 have e:=sliceText_nat (tx l) (a:=0) (b:=k) (Nat.zero_le _) (by rw[JW];exact h);have e2:sliceText (tx l) none (some (k:Int))=sliceText (tx l) (some ((0:Nat):Int)) (some (k:Int)):=by
  unfold sliceText;rw[sliceIdx_none_lo];rfl
 rw[e2,e];simp
theorem WV(l:List Nat){a b:Nat}(h:a<=l.length)(hab:a<=b):sliceText (tx l) (some (a:Int)) (some (b:Int))=tx ((l.drop a).take (b-a)):=by
 by_cases hb:b<=l.length
 ·exact sliceText_nat (tx l) hab (by rw[JW];exact hb)
 ·have e2:sliceText (tx l) (some (a:Int)) (some (b:Int))=sliceText (tx l) (some (a:Int)) (some ((l.length:Nat):Int)):=by
   have e3:strSliceIndices (some (a:Int)) (some (b:Int)) 1 (tx l).length=strSliceIndices (some (a:Int)) (some ((l.length:Nat):Int)) 1 (tx l).length:=by
    rw[JW];unfold strSliceIndices;have h1:¬ ((b:Int)<0):=by omega
    have h2:¬ (((l.length:Nat):Int)<0):=by omega
    have h3:min (b:Int) (l.length:Int)=l.length:=by omega
    have h4:min ((l.length:Nat):Int) (l.length:Int)=l.length:=by omega
    simp only[h1,h2,if_false,h3,h4,show((1:Int)>0)=True from by simp,if_true]
   unfold sliceText;rw[e3]
  rw[e2,sliceText_nat (tx l) h (by rw[JW];exact Nat.le_refl _)];have e4:(l.drop a).take (l.length-a)=(l.drop a).take (b-a):=by
   rw[List.take_of_length_le (by rw[List.length_drop];omega),List.take_of_length_le (by rw[List.length_drop];omega)]
  show tx ((l.drop a).take (l.length-a))=_;rw[e4]
theorem sub_one(l:List Nat)(c:Nat):subAt (tx l) ⟨#[c]⟩ 0=(l.head?==some c):=by
 rw[subAt_eq];show((l.drop 0).take 1==[c])=_;cases l with
 |nil=>rfl
 |cons a r=>
  simp only[List.drop_zero,List.take_succ_cons,List.take_zero,List.head?_cons]
  by_cases h:a=c
  ·subst h;simp
  ·rw[beq_eq_false_iff_ne.mpr (by simpa using h),beq_eq_false_iff_ne.mpr (by simpa using h)]
theorem wJ(c:Nat):("0123456789":Str).cps.contains c=decide (48<=c/\c<=57):=by
 have e:("0123456789":Str).cps= #[48,49,50,51,52,53,54,55,56,57]:=by decide+kernel
 rw[e]
 by_cases h:48<=c/\c<=57
 ·rw[decide_eq_true h];have:c=48\/c=49\/c=50\/c=51\/c=52\/c=53\/c=54\/c=55\/c=56\/c=57:=by omega
  rcases this with rfl|rfl|rfl|rfl|rfl|rfl|rfl|rfl|rfl|rfl<;>decide+kernel
 ·rw[decide_eq_false h];simp;omega
instance (l:List Nat):Decidable (AllDigits l):=inferInstanceAs (Decidable (∀c∈l,48<=c/\c<=57))
theorem xw{p:Nat->Bool}{l:List Nat}{c:Nat}(h:c∈l.takeWhile p):p c=true:=by
 induction l with
 |nil=>cases h
 |cons a r ih=>
  rw[List.takeWhile_cons]at h;cases hp:p a with
  |false=>rw[hp]at h;cases h
  |true=>
   rw[hp,if_pos rfl]at h;rcases List.mem_cons.mp h with rfl|h
   ·exact hp
   ·exact ih h
theorem xx(l:List Nat):decide (Txt.stripChars (tx l) "0123456789"=(Str.empty:Str))=decide (AllDigits l):=by
 have g:∀c,("0123456789":Str).cps.contains c=true↔(48<=c/\c<=57):=fun c=>by rw[wJ];simp
 unfold Txt.stripChars Txt.stripBy stripSame stripped stripLo stripHi;simp only[if_true,JW];generalize hp:(("0123456789":Str).cps.contains:Nat->Bool)=p;have g':∀c,p c=true↔(48<=c/\c<=57):=fun c=>by rw[←hp];exact g c
 by_cases h:AllDigits l
 ·rw[decide_eq_true h,decide_eq_true];have e1:(tx l).cps.toList.takeWhile p=l:=takeWhile_all fun c hc=>(g' c).mpr (h c hc);rw[e1];have e2:(tx l).cps.toList.drop l.length=[]:=List.drop_eq_nil_of_le (Nat.le_refl _);rw[e2];show(if(l.length==0&&l.length==l.length)=true then tx l else strSub (tx l) l.length l.length)=Str.empty
  by_cases hz:(l.length==0&&l.length==l.length)=true
  ·rw[if_pos hz];have:l.length=0:=by
    simp only[Bool.and_eq_true,beq_iff_eq]at hz;exact hz.1
   rw[List.length_eq_zero_iff.mp this];rfl
  ·rw[if_neg hz,jV (strSub _ _ _),strSub_toList,Nat.sub_self,List.take_zero];rfl
 ·rw[decide_eq_false h,decide_eq_false];have hlt:((tx l).cps.toList.takeWhile p).length<l.length:=by
   have hle:((tx l).cps.toList.takeWhile p).length<=l.length:=List.IsPrefix.length_le (List.takeWhile_prefix p);rcases Nat.lt_or_ge ((tx l).cps.toList.takeWhile p).length l.length with z|z
   ·exact z
   ·refine absurd (fun c hc=>?_) h;have e:(tx l).cps.toList.takeWhile p=l:=List.IsPrefix.eq_of_length_le (List.takeWhile_prefix p) z;rw[←e]at hc;exact(g' c).mp (xw hc)
  generalize hlo:((tx l).cps.toList.takeWhile p).length=lo at hlt;have hdrop:∃a r,l.drop lo=a::r/\p a=false:=by
   have hd:l.dropWhile p=l.drop lo:=by
    have:=List.takeWhile_append_dropWhile (p:=p) (l:=l);have e3:l.drop lo=((l.takeWhile p)++l.dropWhile p).drop lo:=by rw[this]
    rw[e3,List.drop_append_of_le_length (by rw[←hlo];exact Nat.le_refl _),List.drop_eq_nil_of_le (by rw[←hlo];exact Nat.le_refl _),List.nil_append]
   cases hx:l.drop lo with
   |nil=>
    have:=congrArg List.length hx;rw[List.length_drop,List.length_nil]at this;omega
   |cons a r=>
    refine⟨a,r,rfl,?_⟩;rw[hx]at hd;have:=List.head?_dropWhile_not (p:=p) (l:=l);rw[hd]at this;simpa using this
  obtain⟨a,r,hx,hpa⟩:=hdrop;have hx':(tx l).cps.toList.drop lo=a::r:=hx;rw[hx'];have hrl:r.length+1=l.length-lo:=by
   have:=congrArg List.length hx;rw[List.length_drop,List.length_cons]at this;omega
  have hk:((a::r).reverse.takeWhile p).length<=r.length:=by
   rw[List.reverse_cons];have hle:((r.reverse++[a]).takeWhile p).length<=r.length:=by
    by_cases hall:∀c∈r.reverse,p c=true
    ·rw[List.takeWhile_append_of_pos hall,List.takeWhile_cons,hpa];simp
    ·have:((r.reverse++[a]).takeWhile p).length<(r.reverse++[a]).length:=by
      have hle:((r.reverse++[a]).takeWhile p).length<=(r.reverse++[a]).length:=List.IsPrefix.length_le (List.takeWhile_prefix p);rcases Nat.lt_or_ge ((r.reverse++[a]).takeWhile p).length (r.reverse++[a]).length with z|z
      ·exact z
      ·have e:(r.reverse++[a]).takeWhile p=r.reverse++[a]:=List.IsPrefix.eq_of_length_le (List.takeWhile_prefix p) z;have:p a=true:=xw (l:=r.reverse++[a]) (by rw[e];simp);rw[hpa]at this;cases this
     rw[List.length_append,List.length_reverse,List.length_singleton]at this;omega
   exact hle
  split
  ·intro z;have:=congrArg (fun z:Str=>z.cps.toList.length) z;have e0:l.length=0:=this;omega
  ·intro z;have:=congrArg (fun z:Str=>z.cps.toList.length) z;have e0:(strSub (tx l) lo (l.length-((a::r).reverse.takeWhile p).length)).cps.toList.length=0:=this;rw[strSub_toList,List.length_take,U0,hx,List.length_cons]at e0;omega
end K02
namespace K04
open PySem.NumText
abbrev Rw:=Nat × Nat
def QO(t:List Nat):Nat × List Nat:=match t with
 |40::r=>if 41∈r/\r.takeWhile (· !=41)≠[]/\AllDigits (r.takeWhile (· !=41))/\(r.takeWhile (· !=41)).head?≠some 48 then(digitsVal (r.takeWhile (· !=41)),r.drop ((r.takeWhile (· !=41)).length+1))else(1,t)
 |_=>(1,t)
def Q1(rows:List Rw)(c n:Nat):List Rw:=match rows.getLast? with
 |some (c',m)=>if c'=c then rows.dropLast++[(c,n+m)]else rows++[(c,n)]
 |none=>rows++[(c,n)]
def Wf:Nat->List Nat->List Rw->List Rw
 |0,_,rows=>rows
 |_,[],rows=>rows
 |k+1,c::t,rows=>Wf k (QO t).2 (Q1 rows c (QO t).1)
def rowsOf(l:List Nat):List Rw:=Wf l.length l []
def ins(c:Nat):Bool:=[44,66,48,47].contains c
def wK:List (List Nat):=[[57],[83,57],[86,57],[83,86,57],[57,86,57],[83,57,86,57]]
structure Facts where
 kind:Nat
 signed:Bool
 before:Nat
 behind:Nat
deriving DecidableEq,Repr
def KK:List Rw->Bool->Bool->Nat->Nat->Option (Bool × Nat × Nat)
 |[],s,_,a,b=>some (s,a,b)
 |(c,n)::r,s,p,a,b=>if c=57 then(if p then KK r s p a n else KK r s p n b)else if n>1 then none else if c=83 then KK r true p a b else KK r s true a b
def Q5(rows:List Rw):Option Facts:=if wK.contains (rows.map (·.1))then(match KK rows false false 0 0 with
 |some (s,a,b)=>if a+b>18 then none else some ⟨2,s,a,b⟩
 |none=>none)else none
def Ze(rows:List Rw):Option Facts:=match rows with
 |[(c,n)]=>if(c≠88/\c≠65)\/n>60 then none else some ⟨if c=88 then 0 else 1,false,0,0⟩
 |_=>none
def Xr(rows:List Rw):Bool:=match rows with
 |(c,n)::r=>decide (n>1)||(match r.dropWhile (fun x=>ins x.1)with|(c',_)::_=>c'==c|[]=>false)
 |[]=>false
def Wg:List (List Nat)->List Rw->List Nat->List Nat × List Rw
 |[],rows,lead=>(lead,rows)
 |ch::more,rows,lead=>match rows with
  |(c,n)::r=>if ch.contains c&& !Xr rows then Wg more r (lead++[c])else Wg more rows lead
  |[]=>Wg more rows lead
def qY(rows:List Rw):List Nat × List Rw:=Wg [[43,45],[36]] rows []
def Jh(place:Nat):List Rw->Nat->Nat × List Rw
 |[],many=>(many,[])
 |(c,n)::r,many=>if c=place then Jh place r (many+n)else if ins c then Jh place r many else(many,(c,n)::r)
def JX(rows:List Rw):List Nat × Nat × Nat × List Rw:=match rows with
 |(c,n)::r=>if[57,90,42,43,45,36].contains c then(let x:=Jh c rows 0;let y:=Jh 57 x.2 0;([c],x.1,y.1,y.2))else([],0,0,rows)
 |[]=>([],0,0,rows)
def JI(rows:List Rw)(place:List Nat):Option Nat × List Rw:=match rows with
 |(46,n)::r=>if n>1\/r=[]then(none,rows)else(match r with
  |(c,m)::r'=>if c≠57/\([c]≠place\/[43,45,36].contains c)then(none,rows)else(some m,r')
  |[]=>(none,rows))
 |_=>(some 0,rows)
def Jz:List (List Nat):=[[43],[45],[67,82],[68,66]]
def WW(rows:List Rw):Option (List Nat):=if rows=[]then some []else if !Jz.contains (rows.map (·.1))||rows.any (fun x=>decide (x.2>1))then none else some (rows.map (·.1))
def Jq(rows:List Rw):Option Facts:=
 let ld:=qY rows
 let wp:=JX ld.2
 let bp:=JI wp.2.2.2 (if wp.2.2.1=0 then wp.1 else[57])
 let tl:=WW bp.2
 match wp.1,bp.1,tl with
 |[place],some behind,some tail=>
  let fl:Bool:=[43,45,36].contains place
  if fl&&decide (wp.2.1<2)then none
  else
   let shown:=[ld.1.take 1,[place],tail].filter (Jz.contains ·)
   if shown.length>1 then none
   else
    let before:=wp.2.1+wp.2.2.1-(if fl then 1 else 0)
    if before+behind>18 then none else some ⟨3,shown.length==1,before,behind⟩
 |_,_,_=>none
def JA(rows:List Rw):Option Facts:=match Q5 rows with
 |some f=>some f
 |none=>match Ze rows with
  |some f=>some f
  |none=>Jq rows
def ZP(l:List Nat):Option Facts:=JA (rowsOf l)
end K04
namespace Lw
open PySem PySem.Spec PyProof.Rows L2 K02 K04
open Builtin Builtin.Str StrLaws
theorem VF(l:List Nat)(c:Nat):(!(occurrences (tx l) (tx [c]) 0 (tx l).length 1).isEmpty)=l.contains c:=by
 rcases occ_head (tx l) (tx [c]) 1 (Nat.le_refl _)with⟨h1,h2⟩|⟨i,t,h1,h2,h3⟩
 ·have hn:c∉l:=fun hm=>by
   obtain⟨j,hj⟩:=List.mem_iff_getElem?.mp hm;exact h2 j ((subAt_one (tx l) c j).mpr hj)
  rw[h1];simp[hn]
 ·have hi:l[i]? =some c:=(subAt_one (tx l) c i).mp h2;have hm:c∈l:=List.mem_iff_getElem?.mpr ⟨i,hi⟩;rw[h1];simp[hm]
theorem wL(l:List Nat)(c:Nat):Txt.startswith (tx l) (tx [c])=(l.head?==some c):=by
 unfold Txt.startswith;have e:(tx [c])=(⟨#[c]⟩:Str):=rfl;rw[e,sub_one];cases l with
 |nil=>rfl
 |cons a r=>
  rw[decide_eq_true (by show 0+1<=(tx (a::r)).length;rw[JW,List.length_cons];omega)];rfl
theorem V8(a b:List Nat):decide (V.str (tx a)=V.str (tx b))=decide (a=b):=by
 by_cases h:a=b
 ·rw[decide_eq_true h,decide_eq_true (by rw[h])]
 ·rw[decide_eq_false h,decide_eq_false fun q=>h (qX (V.str.inj q))]
theorem Zp(a b:Nat):decide (V.str (tx [a])=V.str (tx [b]))=decide (a=b):=by
 rw[V8]
 by_cases h:a=b
 ·rw[decide_eq_true h,decide_eq_true (by rw[h])]
 ·rw[decide_eq_false h,decide_eq_false fun q=>h (List.cons.inj q).1]
theorem wM(n a:Nat):fromIndex n (a:Int)=a:=by
 unfold fromIndex;rw[if_neg (by omega)];omega
theorem QcN{l:List Nat}{c i:Nat}(hi:l[i]? =some c)(hn:∀k,k<i->l[k]? ≠some c):l.takeWhile (· !=c)=l.take i:=by
 induction l generalizing i with
 |nil=>cases hi
 |cons a r ih=>
  cases i with
  |zero=>
   have:a=c:=by simpa using hi
   subst this;simp
  |succ i=>
   have hb:(a !=c)=true:=by
    have:=hn 0 (Nat.succ_pos _);simpa using this
   rw[List.takeWhile_cons,hb];simp only[if_true,List.take_succ_cons];rw[ih (i:=i) (by simpa using hi) fun k hk=>by
    have:=hn (k+1) (by omega);simpa using this]
theorem yX{l:List Nat}{a c:Nat}{r:List Nat}(h:l.drop a=40::r)(hc:c≠40):
  (c∉r/\xr (tx l) (tx [c]) (a:Int)= -1)\/(c∈r/\xr (tx l) (tx [c]) (a:Int)=((a+1+(r.takeWhile (· !=c)).length:Nat):Int)):=by
 have hd:∀i,l[a+i]? =(40::r)[i]? :=fun i=>by rw[←h,List.getElem?_drop]
 unfold xr;rw[wM];rcases occ_head_from (tx l) (tx [c]) a 1 (Nat.le_refl _)with⟨h1,h2⟩|⟨i,t,h1,h2,h3,h4⟩
 ·refine .inl ⟨fun hm=>?_,by rw[h1]⟩;obtain⟨j,hj⟩:=List.mem_iff_getElem?.mp hm;refine h2 (a+(j+1)) (by omega) ((subAt_one (tx l) c _).mpr ?_);show l[a+(j+1)]? =some c;rw[hd];exact hj
 ·have hi:l[i]? =some c:=(subAt_one (tx l) c i).mp h3;obtain⟨k,rfl⟩:∃k,i=a+k:=⟨i-a,by omega⟩;rw[hd]at hi;cases k with
  |zero=>exact absurd (by simpa using hi) (Ne.symm hc)
  |succ k=>
   have hk:r[k]? =some c:=by simpa using hi
   have e:=QcN (l:=r) (c:=c) (i:=k) hk fun m hm z=>h4 (a+(m+1)) (by omega) (by omega) ((subAt_one (tx l) c _).mpr (by show l[a+(m+1)]? =some c;rw[hd];exact z));refine .inr ⟨List.mem_iff_getElem?.mpr ⟨k,hk⟩,?_⟩;have hkl:=(List.getElem?_eq_some_iff.mp hk).1;rw[h1,e,List.length_take,Nat.min_eq_left (by omega)];show((a+(k+1):Nat):Int)=_
   congr 1
   omega
theorem jX(l:List Nat){a b:Nat}(h:b<a)(hl:1<=l.length):sliceText (tx l) (some (a:Int)) (some (b:Int))=tx []:=by
 have e3:strSliceIndices (some (a:Int)) (some (b:Int)) 1 (tx l).length=[]:=by
  rw[JW];unfold strSliceIndices;have h1:¬ ((a:Int)<0):=by omega
  have h2:¬ ((b:Int)<0):=by omega
  have h3:max (0:Int) (min (a:Int) (l.length:Int))≥max (0:Int) (min (b:Int) (l.length:Int)):=by omega
  simp only[h1,h2,if_false,show((1:Int)>0)=True from by simp,if_true];unfold sliceRange;simp;omega
 unfold sliceText;rw[e3]
 split
 ·rename_i h1;have:l.length=0:=by
   have h2:(0==(tx l).length)=true:=by simpa using h1
   rw[JW]at h2;have:=beq_iff_eq.mp h2;omega
  omega
 ·rfl
def yc(x:Rw):HO:=.tup [.str (tx [x.1]),.int (x.2:Nat)]
inductive Rws (H:Hp):List Addr->List Rw->Prop where
 |nil:Rws H [] []
 |cons {r:Addr} {rs:List Addr} {x:Rw} {xs:List Rw}:H r=some (yc x)->Rws H rs xs->Rws H (r::rs) (x::xs)
section
variable {H H':Hp}{rs:List Addr}{rows:List Rw}
theorem Rws.len(h:Rws H rs rows):rs.length=rows.length:=by
 induction h with
 |nil=>rfl
 |cons _ _ ih=>rw[List.length_cons,List.length_cons,ih]
theorem Rws.keep(h:Rws H rs rows)(e:∀b xs,H b=some (.tup xs)->H' b=some (.tup xs)):Rws H' rs rows:=by
 induction h with
 |nil=>exact .nil
 |cons a _ ih=>exact .cons (e _ _ a) ih
theorem Rws.at(h:Rws H rs rows):∀{i:Nat}{x:Rw},rows[i]? =some x->∃r,rs[i]? =some r/\H r=some (yc x):=by
 induction h with
 |nil=>intro i x e;cases e
 |cons a _ ih=>
  intro i x e;cases i with
  |zero=>exact⟨_,rfl,by have:_=x:=Option.some.inj e;rw[←this];exact a⟩
  |succ i=>exact ih (i:=i) (x:=x) e
theorem Rws.app(h:Rws H rs rows){r:Addr}{x:Rw}(e:H r=some (yc x)):Rws H (rs++[r]) (rows++[x]):=by
 induction h with
 |nil=>exact .cons e .nil
 |cons a _ ih=>exact .cons a ih
theorem Rws.dr(h:Rws H rs rows):∀k,Rws H (rs.drop k) (rows.drop k):=by
 induction h with
 |nil=>intro k;rw[List.drop_nil,List.drop_nil];exact .nil
 |cons a t ih=>
  intro k;cases k with
  |zero=>exact .cons a t
  |succ k=>exact ih k
end
structure RowsAt(K:PySem.W.Frag)(H:Hp)(p:Addr)(rs:List Addr)(rows:List Rw):Prop where
 sq:SqL K H p (rs.map V.ref)
 rw:Rws H rs rows
 le:rows.length<=600
section
variable {K:PySem.W.Frag}{H H':Hp}{p:Addr}{rs:List Addr}{rows:List Rw}{σ:L2.St}{i j k:Nat}{Q:VK}
theorem SqL.same{K:PySem.W.Frag}{H H':Hp}{a:Addr}{xs:List V}(e:Qk H H')(h:SqL K H a xs):SqL K H' a xs:=by
 rcases h with(h|⟨o,h⟩)|h
 ·exact .inl (.inl (e _ _ h))
 ·exact .inl (.inr ⟨o,e _ _ h⟩)
 ·exact .inr h
theorem RowsAt.same(R:RowsAt K H p rs rows)(e:Qk H H'):RowsAt K H' p rs rows:=⟨SqL.same e R.sq,R.rw.keep fun b xs h=>e _ _ h,R.le⟩
theorem RowsAt.len(R:RowsAt K H p rs rows):(rs.map V.ref).length=rows.length:=by rw[List.length_map,R.rw.len]
theorem RowsAt.at(R:RowsAt K H p rs rows){x:Rw}(e:rows[k]? =some x):∃r,atI (rs.map V.ref) (k:Int)=some (.ref r)/\H r=some (yc x):=by
 obtain⟨r,h1,h2⟩:=R.rw.at e;exact⟨r,QL (by rw[List.getElem?_map,h1];rfl),h2⟩
theorem Uj{te:TE}(h1:σ[i]? =some (some (.ref p)))(h2:∀Q:VK,Q (.int (k:Nat)) H->te σ H Q) (R:RowsAt K H p rs rows) {x:Rw} (e:rows[k]? =some x) (q:∀r,H r=some (yc x)->Q (.ref r) H):tOp (Qcb K) (XL i) te σ H Q:=by
 obtain⟨r,a,b⟩:=R.at e;exact⟨_,h1,h2 _ ⟨p,_,_,_,rfl,rfl,R.sq,a,q r b⟩⟩
theorem Z6{te:TE}(h1:σ[i]? =some (some (.ref p)))(h2:∀Q:VK,Q (.int (k:Nat)) H->te σ H Q) (R:RowsAt K H p rs rows) {x:Rw} (e:rows[k]? =some x) (q:Q (.str (tx [x.1])) H):tOp (Qcx K) (tOp (Qcb K) (XL i) te) (tC (.int 0)) σ H Q:=
 Uj h1 h2 R e fun r b=>⟨r,_,_,_,rfl,rfl,SqT.of b,rfl,q⟩
theorem yd{te:TE}(h1:σ[i]? =some (some (.ref p)))(h2:∀Q:VK,Q (.int (k:Nat)) H->te σ H Q) (R:RowsAt K H p rs rows) {x:Rw} (e:rows[k]? =some x) (q:Q (.int (x.2:Nat)) H):tOp (Qcx K) (tOp (Qcb K) (XL i) te) (tC (.int 1)) σ H Q:=
 Uj h1 h2 R e fun r b=>⟨r,_,_,_,rfl,rfl,SqT.of b,rfl,q⟩
theorem Zc(h1:σ[i]? =some (some (.ref p)))(R:RowsAt K H p rs rows)(q:Q (.int (rows.length:Nat)) H):tCB (fun xs H Q=>∃p ys,xs=[.ref p]/\(SqL K H p ys\/SqT K H p ys)/\Q (.int ys.length) H) (QX (XL i) Wq) σ H Q:=
 ⟨_,h1,p,_,rfl,.inl R.sq,by rw[R.len];exact q⟩
theorem JB(h:σ[i]? =some (some (.int (k:Nat)))):∀Q:VK,Q (.int (k:Nat)) H->XL i σ H Q:=fun Q q=>⟨_,h,q⟩
end
theorem Uk(l:List Nat):Txt.join "" (l.map fun c=>tx [c])=tx l:=by
 show Builtin.Str.glued _ _=_;rw[StrLaws.glued_eq_join];have e:("":Str)=⟨#[]⟩:=by decide+kernel
 rw[e];exact join_ones l
theorem wN:∀(l:List Nat)(n:Nat),(l.map fun c=>tx [c]).foldl (fun(m:Nat)(s:Str)=>m+s.length+("":Str).length) n=n+l.length:=by
 have e:("":Str).length=0:=by decide+kernel
 intro l
 induction l with
 |nil=>intro n;rfl
 |cons a r ih=>
  intro n;show(r.map fun c=>tx [c]).foldl _ (n+(tx [a]).length+("":Str).length)=_;rw[ih,e,JW,List.length_cons,List.length_cons,List.length_nil];omega
theorem xy{l:List Nat}(h:l.length<=1000):JoinOk "" (l.map fun c=>tx [c])=true:=by
 unfold JoinOk;rw[←Array.foldl_toList,List.toList_toArray,wN];unfold tooLong;have hz:1000<=sizeLine:=by decide
 rw[decide_eq_false (by omega)];rfl
def top(i:Nat):Stmt:=PySem.Challenge.pw_boxmoves_k23_layouts.main.body.getD i (.Pass ⟨0,0,0,0⟩)
abbrev V9:Stmt:=top 19
theorem Kk:FnScope ["many","power","turn"] ["many"] (Qf V9):=⟨rfl,rfl,rfl,by decide+kernel,rfl,by decide+kernel,by decide+kernel⟩
abbrev Z7:Stmt:=top 20
theorem Ya:FnScope ["text"] ["text"] (Qf Z7):=⟨rfl,rfl,rfl,by decide+kernel,rfl,by decide+kernel,by decide+kernel⟩
abbrev XS:Stmt:=top 21
theorem JY:FnScope ["text","number","start","part"] ["text"] (Qf XS):=⟨rfl,rfl,rfl,by decide+kernel,rfl,by decide+kernel,by decide+kernel⟩
abbrev Z8:Stmt:=top 32
theorem Yb:FnScope ["thing"] ["thing"] (Qf Z8):=⟨rfl,rfl,rfl,by decide+kernel,rfl,by decide+kernel,by decide+kernel⟩
abbrev Kl:Stmt:=top 33
theorem KL:FnScope ["picture","rows","facts"] ["picture"] (Qf Kl):=⟨rfl,rfl,rfl,by decide+kernel,rfl,by decide+kernel,by decide+kernel⟩
abbrev Zx:Stmt:=top 34
theorem ZQ:FnScope ["picture","rows","facts"] ["picture"] (Qf Zx):=⟨rfl,rfl,rfl,by decide+kernel,rfl,by decide+kernel,by decide+kernel⟩
abbrev WX:Stmt:=top 35
theorem JJ:FnScope ["thing","rows","at","symbol","many"] ["thing"] (Qf WX):=⟨rfl,rfl,rfl,by decide+kernel,rfl,by decide+kernel,by decide+kernel⟩
abbrev KM:Stmt:=top 36
theorem XT:FnScope ["text","at","end","number"] ["text","at"] (Qf KM):=⟨rfl,rfl,rfl,by decide+kernel,rfl,by decide+kernel,by decide+kernel⟩
abbrev KN:Stmt:=top 37
theorem ZR:FnScope ["rows","facts"] ["rows"] (Qf KN):=⟨rfl,rfl,rfl,by decide+kernel,rfl,by decide+kernel,by decide+kernel⟩
abbrev ZD:Stmt:=top 38
theorem QP:FnScope ["rows","symbol","many","signed","behind_point","figures"] ["rows"] (Qf ZD):=⟨rfl,rfl,rfl,by decide+kernel,rfl,by decide+kernel,by decide+kernel⟩
abbrev ZS:Stmt:=top 39
theorem ZE:FnScope ["rows","symbol","many"] ["rows"] (Qf ZS):=⟨rfl,rfl,rfl,by decide+kernel,rfl,by decide+kernel,by decide+kernel⟩
abbrev ZF:Stmt:=top 40
theorem QB:FnScope ["rows","lead","start","place","many","nines","behind","end","tail","floats","shown","before"] ["rows"] (Qf ZF):=⟨rfl,rfl,rfl,by decide+kernel,rfl,by decide+kernel,by decide+kernel⟩
abbrev WY:Stmt:=top 41
theorem Zf:FnScope ["rows","lead","at","choice"] ["rows"] (Qf WY):=⟨rfl,rfl,rfl,by decide+kernel,rfl,by decide+kernel,by decide+kernel⟩
abbrev XU:Stmt:=top 42
theorem JZ:FnScope ["rows","at","symbol","many","behind"] ["rows","at"] (Qf XU):=⟨rfl,rfl,rfl,by decide+kernel,rfl,by decide+kernel,by decide+kernel⟩
abbrev WZ:Stmt:=top 43
theorem JK:FnScope ["rows","at","place","many","nines","behind"] ["rows","at"] (Qf WZ):=⟨rfl,rfl,rfl,by decide+kernel,rfl,by decide+kernel,by decide+kernel⟩
abbrev Z9:Stmt:=top 44
theorem Ji:FnScope ["rows","at","place","many","nines"] ["rows","at"] (Qf Z9):=⟨rfl,rfl,rfl,by decide+kernel,rfl,by decide+kernel,by decide+kernel⟩
abbrev XV:Stmt:=top 45
theorem Zy:FnScope ["rows","at","place","many"] ["rows","at","place"] (Qf XV):=⟨rfl,rfl,rfl,by decide+kernel,rfl,by decide+kernel,by decide+kernel⟩
abbrev ZT:Stmt:=top 46
theorem ZG:FnScope ["rows","at","place","symbol","many"] ["rows","at","place"] (Qf ZT):=⟨rfl,rfl,rfl,by decide+kernel,rfl,by decide+kernel,by decide+kernel⟩
abbrev W0:Stmt:=top 47
theorem VG:FnScope ["rows","at","tail"] ["rows","at"] (Qf W0):=⟨rfl,rfl,rfl,by decide+kernel,rfl,by decide+kernel,by decide+kernel⟩
abbrev XW:Stmt:=top 52
theorem Zz:FnScope ["thing","layouts","left","items"] ["thing"] (Qf XW):=⟨rfl,rfl,rfl,by decide+kernel,rfl,by decide+kernel,by decide+kernel⟩
abbrev KO:Stmt:=top 53
theorem Jr:FnScope ["layout","signs","left","items","times","item"] ["layout"] (Qf KO):=⟨rfl,rfl,rfl,by decide+kernel,rfl,by decide+kernel,by decide+kernel⟩
abbrev Yc:Stmt:=top 54
theorem Yd:FnScope ["layout","path","start","item"] ["layout","path"] (Qf Yc):=⟨rfl,rfl,rfl,by decide+kernel,rfl,by decide+kernel,by decide+kernel⟩
abbrev U1:Stmt:=top 55
theorem wO:FnScope ["layout"] ["layout"] (Qf U1):=⟨rfl,rfl,rfl,by decide+kernel,rfl,by decide+kernel,by decide+kernel⟩
abbrev Ye:Stmt:=top 56
theorem Zd:FnScope ["layout","path","start","items","item","step","ahead"] ["layout","path"] (Qf Ye):=⟨rfl,rfl,rfl,by decide+kernel,rfl,by decide+kernel,by decide+kernel⟩
abbrev J4:Stmt:=top 57
theorem QT:FnScope ["items","with_tables","paths","left","path","item","number"] ["items","with_tables"] (Qf J4):=⟨rfl,rfl,rfl,by decide+kernel,rfl,by decide+kernel,by decide+kernel⟩
abbrev Xa:Stmt:=top 58
theorem Yf:FnScope ["path","items"] ["path","items"] (Qf Xa):=⟨rfl,rfl,rfl,by decide+kernel,rfl,by decide+kernel,by decide+kernel⟩
abbrev qZ:Stmt:=top 59
theorem xz:FnScope ["item"] ["item"] (Qf qZ):=⟨rfl,rfl,rfl,by decide+kernel,rfl,by decide+kernel,by decide+kernel⟩
abbrev JL:Stmt:=top 60
theorem ZA:FnScope ["thing","names"] ["thing"] (Qf JL):=⟨rfl,rfl,rfl,by decide+kernel,rfl,by decide+kernel,by decide+kernel⟩
abbrev W1:Stmt:=top 61
theorem jY:FnScope ["thing"] ["thing"] (Qf W1):=⟨rfl,rfl,rfl,by decide+kernel,rfl,by decide+kernel,by decide+kernel⟩
abbrev ZH:Stmt:=top 62
theorem W2:FnScope ["thing"] ["thing"] (Qf ZH):=⟨rfl,rfl,rfl,by decide+kernel,rfl,by decide+kernel,by decide+kernel⟩
abbrev JC:Stmt:=top 63
theorem XX:FnScope ["thing"] ["thing"] (Qf JC):=⟨rfl,rfl,rfl,by decide+kernel,rfl,by decide+kernel,by decide+kernel⟩
abbrev W3:Stmt:=top 64
theorem jZ:FnScope ["thing"] ["thing"] (Qf W3):=⟨rfl,rfl,rfl,by decide+kernel,rfl,by decide+kernel,by decide+kernel⟩
abbrev KP:Stmt:=top 65
theorem U2:FnScope ["thing"] ["thing"] (Qf KP):=⟨rfl,rfl,rfl,by decide+kernel,rfl,by decide+kernel,by decide+kernel⟩
abbrev JM:Stmt:=top 66
theorem Jc:FnScope ["items","under","item"] ["items"] (Qf JM):=⟨rfl,rfl,rfl,by decide+kernel,rfl,by decide+kernel,by decide+kernel⟩
abbrev Km:Stmt:=top 67
theorem JN:FnScope ["items","step","name","number","under","at","item"] ["items","step"] (Qf Km):=⟨rfl,rfl,rfl,by decide+kernel,rfl,by decide+kernel,by decide+kernel⟩
abbrev Xb:Stmt:=top 68
theorem Yg:FnScope ["step"] ["step"] (Qf Xb):=⟨rfl,rfl,rfl,by decide+kernel,rfl,by decide+kernel,by decide+kernel⟩
abbrev Jm:Stmt:=top 69
theorem KQ:FnScope ["item","number"] ["item","number"] (Qf Jm):=⟨rfl,rfl,rfl,by decide+kernel,rfl,by decide+kernel,by decide+kernel⟩
abbrev XY:Stmt:=top 71
theorem J0:FnScope ["_law_script","_law_town","_law_many","_law_at","_law_rest","_law_number"] ["_law_script","_law_town","_law_many"] (Qf XY):=⟨rfl,rfl,rfl,by decide+kernel,rfl,by decide+kernel,by decide+kernel⟩
abbrev Xc:Stmt:=top 72
theorem Yh:FnScope [] [] (Qf Xc):=⟨rfl,rfl,rfl,by decide+kernel,rfl,by decide+kernel,by decide+kernel⟩
abbrev W4:Stmt:=top 73
theorem j0:FnScope ["_law_told","_law_due"] ["_law_told","_law_due"] (Qf W4):=⟨rfl,rfl,rfl,by decide+kernel,rfl,by decide+kernel,by decide+kernel⟩
abbrev Xd:Stmt:=top 74
theorem Q6:FnScope ["_law_kept","_law_kinds","_law_found"] ["_law_kept"] (Qf Xd):=⟨rfl,rfl,rfl,by decide+kernel,rfl,by decide+kernel,by decide+kernel⟩
abbrev Q2:Stmt:=top 75
theorem Jj:FnScope ["_law_deed","_law_kept","_law_found","e"] ["_law_deed"] (Qf Q2):=⟨rfl,rfl,rfl,by decide+kernel,rfl,by decide+kernel,by decide+kernel⟩
abbrev JD:Stmt:=top 76
theorem Qy:FnScope ["_law_script","_law_town","_law_deep","_law_found","_law_under","_law_letters","_law_k","_law_turn","_law_name","_law_item","_law_size"] ["_law_script","_law_town","_law_deep"] (Qf JD):=⟨rfl,rfl,rfl,by decide+kernel,rfl,by decide+kernel,by decide+kernel⟩
abbrev Jn:Stmt:=top 77
theorem JO:FnScope ["_law_item","_law_size"] ["_law_item"] (Qf Jn):=⟨rfl,rfl,rfl,by decide+kernel,rfl,by decide+kernel,by decide+kernel⟩
abbrev Jo:Stmt:=top 78
theorem Qn:FnScope ["_law_items","_law_begun_here","_law_found","_law_under","_law_item","_law_bare_item","_law_size","_law_word","_law_name","_law_here","_law_steps","_law_each","_law_step","_law_first","_law_path_here","_law_start_at","_law_many","_law_picture_so"] ["_law_items","_law_begun_here"] (Qf Jo):=⟨rfl,rfl,rfl,by decide+kernel,rfl,by decide+kernel,by decide+kernel⟩
abbrev Wn:Stmt:=top 79
theorem J7:FnScope ["_law_script","_law_town","_law_k","_law_every","_law_some","_law_path_here","_law_start_at","_law_size","_law_picture_so","_law_paths","_law_j","_law_odd","_law_items","_law_other"] ["_law_script"] (Qf Wn):=⟨rfl,rfl,rfl,by decide+kernel,rfl,by decide+kernel,by decide+kernel⟩
section
variable {P:Program}{w:World}{K:PySem.W.Frag}{mg:Str->Option Value}{base:Heap}{f:Addr}{fd:FuncData}{tk:Nat->Tok}{c kr:Nat->Addr}
def yY:Sp:=fun vs H Q _=>∃m:Int,vs=[.int m]/\ -(2^62)<=m/\m<2^62/\Q (.int (K01.ten m)) H
theorem xA(F:Fun K "ten_to" "ten_to" V9 f fd)(O:Own mg):FnOk P w K mg base (CXE P w) 1 f fd ["many"] yY:=by
 refine okN F Kk (fun vs H Q E h=>?_) (fun cdv A outer s H vs Q E hr h=>?_)
 ·obtain⟨m,rfl,_⟩:=h;rfl
 ·obtain⟨m,rfl,h1,h2,k⟩:=h;refine⟨_,(Qe (QC (i:=1) Kk.nd rfl (Or.inl rfl) Qd)
   (Qe (X8 PassesOwn.never rfl (Z4 rfl O.range (Qa (pv 0) Qb)) (Qh (i:=2) Kk.nd rfl (Or.inl rfl)) (Qg (QC (i:=1) Kk.nd rfl (Or.inl rfl) (QM Wb (pv 1) Qd))))
   (Qg (QA (pv 1))))),?_⟩
  refine⟨_,rfl,m,rfl,h1,h2,YY (n:=m.toNat) (fun i σ H2=>∃v,σ=[some (.int m),some (.int (10^i)),v]/\H2=H) ⟨none,rfl,rfl⟩ ?_ ?_⟩
  ·rintro i σ H2 hi ⟨v,rfl,rfl⟩;refine⟨_,rfl,_,_,rfl,rfl,.inr ⟨by decide,by decide⟩,?_⟩;exact⟨_,by rw[Int.pow_succ];rfl,rfl⟩
  ·rintro σ H2 ⟨v,rfl,rfl⟩;exact⟨_,rfl,k⟩
theorem xB{m:Int}(h:m<=40):(K01.ten m).natAbs<2^200:=by
 have h1:=K01.Qbt (a:=m) (b:=40) h (by decide);have h2:=K01.V7 m;have h3:K01.ten 40<2^200:=by decide
 omega
theorem big{a:Int}(h:a.natAbs<2^200):a.natAbs<2^2000:=Nat.lt_of_lt_of_le h (by decide)
structure Txt(K:PySem.W.Frag)(mg:Str->Option Value)(tk:Nat->Tok)(c kr:Nat->Addr):Prop where
 m_BoxError:mg "BoxError"=some (.ref (c 0))
 m_NoPicture:mg "NoPicture"=some (.ref (c 1))
 m_NoRoom:mg "NoRoom"=some (.ref (c 2))
 m_NoQuotient:mg "NoQuotient"=some (.ref (c 3))
 m_NoText:mg "NoText"=some (.ref (c 4))
 m_NoFigures:mg "NoFigures"=some (.ref (c 5))
 m_NoLetters:mg "NoLetters"=some (.ref (c 6))
 m_NoMove:mg "NoMove"=some (.ref (c 7))
 m_NoPath:mg "NoPath"=some (.ref (c 8))
 m_NoAmount:mg "NoAmount"=some (.ref (c 9))
 m_NoGroup:mg "NoGroup"=some (.ref (c 10))
 m_BadSize:mg "BadSize"=some (.ref (c 11))
 m_NoBack:mg "NoBack"=some (.ref (c 12))
 m_BadRow:mg "BadRow"=some (.ref (c 13))
 m_Closed:mg "Closed"=some (.ref (c 14))
 m_FIGURES:mg "FIGURES"=some (.str "0123456789" (tk 0))
 m_PART:mg "PART"=some (.int 18 (tk 1))
 m_INSERTED:mg "INSERTED"=some (.str ",B0/" (tk 2))
 m_SIGNS:mg "SIGNS"=some (.str "+-" (tk 3))
 m_FLOATING:mg "FLOATING"=some (.str "+-$" (tk 4))
 m_PLACES:mg "PLACES"=some (.str "9Z*+-$" (tk 5))
 m_MOST_FIGURES:mg "MOST_FIGURES"=some (.int 18 (tk 6))
 m_MOST_SIGNS:mg "MOST_SIGNS"=some (.int 60 (tk 7))
 m_SMALL_LETTERS:mg "SMALL_LETTERS"=some (.str "abcdefghijklmnopqrstuvwxyz" (tk 8))
 m_LONGEST_NAME:mg "LONGEST_NAME"=some (.int 12 (tk 9))
 m_MOST_TIMES:mg "MOST_TIMES"=some (.int 30 (tk 10))
 m_NUMBER_FORMS:mg "NUMBER_FORMS"=some (.ref (kr 0))
 m_SHOWN:mg "SHOWN"=some (.ref (kr 1))
 m_PLAIN_KINDS:mg "PLAIN_KINDS"=some (.ref (kr 2))
 q_FORMS:∀H,SqT K H (kr 0) [.str "9",.str "S9",.str "V9",.str "SV9",.str "9V9",.str "S9V9"]
 q_SHOWN:∀H,SqT K H (kr 1) [.str "+",.str "-",.str "CR",.str "DB"]
 e_NoPicture:Err K (c 1)
 e_NoPath:Err K (c 8)
 t_str:PySem.W.kitOne K (.type "str") (.type "str")=some true
 t_int:PySem.W.kitOne K (.type "int") (.type "str")=some false
 t_non:PySem.W.kitOne K (.type "NoneType") (.type "str")=some false
 t_tup:PySem.W.kitOne K (.type "tuple") (.type "str")=some false
def Ul:List (Key × V):=[(Sum.inr "X",.str "text"),(Sum.inr "A",.str "letters")]
def U3:Sp:=fun vs H Q _=>∃z:Str,vs=[.str z]/\z.length<=1000/\Q (.bl (decide (z.cps.toList≠[]/\NumText.AllDigits z.cps.toList))) H
theorem W5(z:Str):decide (V.str z=V.str "")=decide (z.cps.toList=[]):=by
 have e:("":Str)=tx []:=by decide+kernel
 rw[e]
 by_cases h:z.cps.toList=[]
 ·rw[decide_eq_true h,decide_eq_true];rw[jV z,h]
 ·rw[decide_eq_false h,decide_eq_false];intro q;exact h (by rw[V.str.inj q])
theorem xC(z:Str):decide (V.str (Txt.stripChars z "0123456789")=V.str "")=decide (NumText.AllDigits z.cps.toList):=by
 rw[W5, ←xx z.cps.toList];have e:tx z.cps.toList=z:=(jV z).symm;rw[e]
 by_cases h:(Txt.stripChars z "0123456789").cps.toList=[]
 ·rw[decide_eq_true h,decide_eq_true];rw[jV (Txt.stripChars _ _),h];rfl
 ·rw[decide_eq_false h,decide_eq_false];intro q;exact h (by rw[q];rfl)
theorem Yi(F:Fun K "is_figures" "is_figures" Z7 f fd)(T:Txt K mg tk c kr):FnOk P w K mg base (CXE P w) 1 f fd ["text"] U3:=by
 refine okN F Ya (fun vs H Q E h=>?_) (fun cdv A outer s H vs Q E hr h=>?_)
 ·obtain⟨z,rfl,_⟩:=h;rfl
 ·obtain⟨z,rfl,hl,k⟩:=h;refine⟨_,(Qg (QA (ZJ (Jp XA (pv 0) Qm (Qo _)) (XD (Jp QU (ZN PySem.F.plainAttrs_str PySem.F.slot_str_strip PySem.F.type_str_strip qV (pv 0) (Qa (QF (v:=V.str "0123456789") rfl T.m_FIGURES ⟨_,rfl⟩) Qb)) Qm (Qo _)))))),?_⟩;refine⟨_,rfl,rfl,_,rfl,?_⟩;refine ifB (fun h=>?_) (fun h=>?_)
  ·refine⟨_,rfl,rfl,z,"0123456789",rfl,rfl,Nat.le_trans hl (by decide),rfl,?_⟩;rw[W5]at h;refine Eq.mp (congrArg (fun b=>Q (.bl b) H) ?_) k;rw[xC];have hne:z.cps.toList≠[]:=fun q=>by rw[decide_eq_true q]at h;cases h
   by_cases hd:NumText.AllDigits z.cps.toList
   ·rw[decide_eq_true hd,decide_eq_true ⟨hne,hd⟩]
   ·rw[decide_eq_false hd,decide_eq_false fun q=>hd q.2]
  ·rw[W5]at h;have hne:z.cps.toList=[]:=by
    by_cases q:z.cps.toList=[]
    ·exact q
    ·rw[decide_eq_false q]at h;cases h
   refine Eq.mp (congrArg (fun b=>Q (.bl b) H) ?_) k;exact decide_eq_false fun q=>q.1 hne
def yZ:Sp:=fun vs H Q _=>∃z:Str,vs=[.str z]/\NumText.AllDigits z.cps.toList/\1<=z.length/\z.length<=500/\Q (.int (NumText.digitsVal z.cps.toList:Nat)) H
theorem Um(F:Fun K "number_of" "number_of" XS f fd)(O:Own mg)(T:Txt K mg tk c kr)(D_ten_to:Def P w K mg base 1 "ten_to" ["many"] yY):FnOk P w K mg base (CXE P w) 2 f fd ["text"] yZ:=by
 refine okN F JY (fun vs H Q E h=>?_) (fun cdv A outer s H vs Q E hr h=>?_)
 ·obtain⟨z,rfl,_⟩:=h;rfl
 ·obtain⟨z,rfl,hd,h1,h2,k⟩:=h;have hll:=len_list z;refine⟨_,(Qe (QC (i:=1) JY.nd rfl (Or.inl rfl) Qd)
   (Qe (X8 PassesOwn.never rfl (xq rfl O.range (Qa Qd (Qa (Ql Zv rfl O.len PySem.boot_len (Qa (pv 0) Qb)) (Qa (QF (v:=V.int 18) rfl T.m_PART ⟨_,rfl⟩) Qb)))) (Qh (i:=2) JY.nd rfl (Or.inl rfl)) (Qe (QC (i:=3) JY.nd rfl (Or.inl rfl) (Zu qW (pv 0) (Zn (pv 2)) (Zn (QM Jl (pv 2) (QF (v:=V.int 18) rfl T.m_PART ⟨_,rfl⟩)))))
   (Qg (QC (i:=1) JY.nd rfl (Or.inl rfl) (QM Jl (QM yJ (pv 1) (D_ten_to.pe hr (by decide) rfl Qx (Qa (Ql Zv rfl O.len PySem.boot_len (Qa (pv 3) Qb)) Qb))) (Ka V2 rfl O.int PyProof.Rows.boot_int (Qa (pv 3) Qb)))))))
   (Qg (QA (pv 1))))),?_⟩
  have hn:Builtin.Range.rangeSize 0 (z.length:Int) 18=(((z.length-1)/18+1:Nat):Int):=by
   unfold Builtin.Range.rangeSize;rw[if_pos (by decide),if_pos (by omega)];omega
  refine⟨_,rfl,z,rfl,Nat.le_trans h2 (by decide),0,(z.length:Int),18,_,rfl,⟨by decide,by decide,by omega,by omega,by decide,by decide⟩,hn,jS (fun i σ H2=>∃x2 x3,σ=[some (.str z),some (.int (NumText.digitsVal (z.cps.toList.take (18*i)):Nat)),x2,x3]/\H2=H) ⟨none,none,rfl,rfl⟩ ?_ ?_⟩
  ·rintro i σ H2 hi ⟨x2,x3,rfl,rfl⟩;have hi18:18*i<z.length:=by omega
   have hs:StrLaws.sliceText z (some (0+(i:Int)*18)) (some (0+(i:Int)*18+18))=tx ((z.cps.toList.drop (18*i)).take 18):=by
    have e1:(0+(i:Int)*18)=((18*i:Nat):Int):=by omega
    have e2:(0+(i:Int)*18+18)=((18*i+18:Nat):Int):=by omega
    rw[e2,e1];have:=WV z.cps.toList (a:=18*i) (b:=18*i+18) (by omega) (by omega);rw[←jV z,show 18*i+18-18*i=18 by omega]at this;exact this
   refine⟨_,rfl,_,rfl,_,rfl,_,rfl,_,_,rfl,rfl,_,rfl,z,rfl,Nat.le_trans h2 (by decide),?_⟩;rw[hs];have hpd:NumText.AllDigits ((z.cps.toList.drop (18*i)).take 18):=fun c hc=>hd c (List.mem_of_mem_drop (List.mem_of_mem_take hc));have hpl:((z.cps.toList.drop (18*i)).take 18).length<=18:=by rw[List.length_take];omega
   have hp1:1<=((z.cps.toList.drop (18*i)).take 18).length:=by rw[List.length_take,List.length_drop];omega
   have htk:z.cps.toList.take (18*(i+1))=z.cps.toList.take (18*i)++(z.cps.toList.drop (18*i)).take 18:=by rw[show 18*(i+1)=18*i+18 by omega,List.take_add]
   generalize (z.cps.toList.drop (18*i)).take 18=pl at hpd hpl hp1 htk;have htl:=JW pl;have hv0:=Qbw (l:=z.cps.toList.take (18*i)) fun c hc=>hd c (List.mem_of_mem_take hc);have hv1:NumText.digitsVal (z.cps.toList.take (18*i))<10^500:=Nat.lt_of_lt_of_le hv0 (Nat.pow_le_pow_right (by decide) (by rw[List.length_take];omega));refine⟨_,rfl,_,rfl,tx pl,rfl,by rw[htl];exact Nat.le_trans hpl (by decide),_,rfl,by omega,by omega,_,_,rfl,rfl,⟨Nat.lt_trans hv1 (by decide),big (xB (by omega))⟩,?_⟩;refine⟨_,rfl,tx pl,_,rfl,PySem.intText_digits hpd (fun q=>by rw[U0]at q;rw[q]at hp1;exact absurd hp1 (by decide)) (by rw[htl];omega),by rw[htl];omega,_,_,rfl,rfl,?_⟩;have et:K01.ten (((tx pl).length:Nat):Int)=((10^pl.length:Nat):Int):=by
    unfold K01.ten;rw[Int.toNat_natCast,htl];push_cast;rfl
   have key:((NumText.digitsVal (z.cps.toList.take (18*i)):Nat):Int)*K01.ten (((tx pl).length:Nat):Int)+((NumText.digitsVal (tx pl).cps.toList:Nat):Int)=((NumText.digitsVal (z.cps.toList.take (18*(i+1))):Nat):Int):=by
    rw[htk,xv,et,U0];push_cast;rfl
   refine⟨some (.int (0+(i:Int)*18)),some (.str (tx pl)),?_,rfl⟩;rw[←key];rfl
  ·rintro σ H2 ⟨x2,x3,rfl,rfl⟩;refine⟨_,rfl,?_⟩;rw[List.take_of_length_le (by omega)];exact k
end
section
variable {P:Program}{w:World}{K:PySem.W.Frag}{mg:Str->Option Value}{base:Heap}{f:Addr}{fd:FuncData}{tk:Nat->Tok}{c kr:Nat->Addr}
def U4:Sp:=fun vs H Q _=>∃(l:List Nat)(a:Nat),vs=[.str (tx l),.int (a:Nat)]/\l.length<=500/\a<=l.length/\∀b,a<=b->b<=l.length->(QO (l.drop a)).2=l.drop b->∀q,H q=none->Q (.ref q) (upd H q (.tup [.int ((QO (l.drop a)).1:Nat),.int (b:Nat)]))
theorem wP{t:List Nat}(h:t.take 1≠[40]):QO t=(1,t):=by
 unfold QO
 split
 ·exact absurd rfl h
 ·rfl
theorem xD{r:List Nat}(h:¬ (41∈r/\r.takeWhile (· !=41)≠[]/\NumText.AllDigits (r.takeWhile (· !=41))/\(r.takeWhile (· !=41)).head?≠some 48)):QO (40::r)=(1,40::r):=if_neg h
theorem j4{r:List Nat}(h:41∈r/\r.takeWhile (· !=41)≠[]/\NumText.AllDigits (r.takeWhile (· !=41))/\(r.takeWhile (· !=41)).head?≠some 48):QO (40::r)=(NumText.digitsVal (r.takeWhile (· !=41)),r.drop ((r.takeWhile (· !=41)).length+1)):=if_pos h
theorem Uo(a:Nat):(a:Int)+1=((a+1:Nat):Int):=by omega
theorem U5(F:Fun K "times_at" "times_at" KM f fd)(O:Own mg)(T:Txt K mg tk c kr)(D_is_figures:Def P w K mg base 1 "is_figures" ["text"] U3)(D_number_of:Def P w K mg base 2 "number_of" ["text"] yZ):
  FnOk P w K mg base (CXE P w) 3 f fd ["text","at"] U4:=by
 refine okN F XT (fun vs H Q E h=>?_) (fun cdv A outer s H vs Q E hr h=>?_)
 ·obtain⟨l,a,rfl,_⟩:=h;rfl
 ·obtain⟨l,a,rfl,hl,ha,k⟩:=h;have hz:1000<=sizeLine:=by decide
  have htl:=JW l;have e40:("(":Str)=tx [40]:=by decide+kernel
  have e41:(")":Str)=tx [41]:=by decide+kernel
  have e48:("0":Str)=tx [48]:=by decide+kernel
  refine⟨_,(Qe (QY (Qi XA (Zu qW (pv 0) (Zn (pv 1)) (Zn (QM Jl (pv 1) Qd))) Qm (Qo _)) (Qg (QA (Qz (Qa Qd (Qa (pv 1) Qb))))) QD)
   (Qe (QC (i:=2) XT.nd rfl (Or.inl rfl) (ZN PySem.F.plainAttrs_str PySem.F.slot_str_find PySem.F.type_str_find wG (pv 0) (Qa Qm (Qa (pv 1) Qb))))
   (Qe (QC (i:=3) XT.nd rfl (Or.inl rfl) (Zu qW (pv 0) (Zn (QM Jl (pv 1) Qd)) (Zn (Ql (zJ rfl) rfl O.max PyProof.Rows.boot_max (Qa (pv 2) (Qa (pv 1) Qb))))))
   (Qe (QY (PW.pt (Z0 (ZX (Zj (D_is_figures.pe hr (by decide) rfl Qx (Qa (pv 3) Qb)))) (Zk (Zj (ZN PySem.F.plainAttrs_str PySem.F.slot_str_startswith PySem.F.type_str_startswith V6 (pv 3) (Qa Qm Qb)))))) (Qg (QA (Qz (Qa Qd (Qa (pv 1) Qb))))) QD)
   (Qg (QA (Qz (Qa (D_number_of.pe hr (by decide) rfl Qx (Qa (pv 3) Qb)) (Qa (QM Jl (pv 2) Qd) Qb))))))))),?_⟩
  refine⟨_,rfl,_,rfl,_,rfl,_,rfl,_,_,rfl,rfl,_,rfl,tx l,rfl,by omega,?_⟩;rw[Uo,WV l (a:=a) (b:=a+1) ha (by omega),show a+1-a=1 by omega];refine⟨rfl,_,rfl,?_⟩;have stop:QO (l.drop a)=(1,l.drop a)->∀q,H q=none->Q (.ref q) (upd H q (.tup [.int 1,.int (a:Nat)])):=fun e q hq=>by
   have:=k a (Nat.le_refl _) ha (by rw[e]) q hq;rw[e]at this;exact this
  rw[e40,V8];refine ifB (fun h1=>?_) (fun h1=>?_)
  ·refine⟨_,rfl,by show 2<=sizeLine;omega,stop (wP fun e=>?_)⟩;rw[e]at h1;cases h1
  have h2:(l.drop a).take 1=[40]:=by
   by_cases e:(l.drop a).take 1=[40]
   ·exact e
   ·rw[decide_eq_false e]at h1;cases h1
  obtain⟨r,hr0⟩:∃r,l.drop a=40::r:=by
   cases e:l.drop a with
   |nil=>rw[e]at h2;cases h2
   |cons b r=>
    rw[e]at h2;have:b=40:=(List.cons.inj h2).1;exact⟨r,by rw[this]⟩
  have hrl:l.length=a+(r.length+1):=by
   have:=congrArg List.length hr0;rw[List.length_drop,List.length_cons]at this;omega
  have stopB:¬ (41∈r/\r.takeWhile (· !=41)≠[]/\NumText.AllDigits (r.takeWhile (· !=41))/\(r.takeWhile (· !=41)).head?≠some 48)->∀q,H q=none->Q (.ref q) (upd H q (.tup [.int 1,.int (a:Nat)])):=fun z=>stop (by rw[hr0];exact xD z);refine⟨_,rfl,rfl,_,rfl,tx l,")",(a:Int),rfl,rfl,?_⟩;rw[e41];have hfind:=yX (c:=41) hr0 (by decide);generalize xr (tx l) (tx [41]) (a:Int)=e at hfind;refine⟨_,rfl,_,rfl,_,_,rfl,rfl,_,rfl,_,rfl,_,rfl,_,_,rfl,_,rfl,tx l,rfl,by omega,?_⟩;rw[Uo];rcases hfind with⟨hno,rfl⟩|⟨hin,rfl⟩
  ·have es:StrLaws.sliceText (tx l) (some ((a+1:Nat):Int)) (some (if(a:Int)> -1 then(a:Int)else-1))=tx []:=by
    rw[if_pos (by omega)];exact jX l (by omega) (by omega)
   rw[es];refine⟨_,rfl,tx [],rfl,by rw[JW];decide,_,rfl,?_⟩;refine ifB (fun _=>?_) (fun q=>?_)
   ·exact⟨_,rfl,by show 2<=sizeLine;omega,stopB fun q=>hno q.1⟩
   ·have:decide ((tx []).cps.toList≠[]/\NumText.AllDigits (tx []).cps.toList)=false:=decide_eq_false fun z=>z.1 rfl;rw[this]at q;cases q
  ·generalize hn:r.takeWhile (· !=41)=n;have hnl:n.length<=r.length:=by rw[←hn];exact(List.takeWhile_sublist _).length_le
   have hnr:n.length<r.length:=by
    rcases Nat.lt_or_ge n.length r.length with h|h
    ·exact h
    ·have e:n=r:=by rw[←hn]at h ⊢;exact(List.takeWhile_sublist _).eq_of_length_le h
     rw[←e, ←hn]at hin;have:=xw hin;simp at this
   have htk:r.take n.length=n:=by
    have:=List.takeWhile_append_dropWhile (p:=(· !=41)) (l:=r);rw[hn]at this;rw[←this,List.take_left]
   have es:StrLaws.sliceText (tx l) (some ((a+1:Nat):Int)) (some (if(a:Int)>((a+1+n.length:Nat):Int)then(a:Int)else((a+1+n.length:Nat):Int)))=tx n:=by
    rw[if_neg (by omega),WV l (by omega) (by omega),show a+1+n.length-(a+1)=n.length by omega];have:l.drop (a+1)=r:=by rw[←List.drop_drop,hr0];rfl
    rw[this,htk]
   rw[es];have hnt:=JW n;refine⟨_,rfl,tx n,rfl,by omega,_,rfl,?_⟩;refine ifB (fun q=>?_) (fun q=>?_)
   ·refine⟨_,rfl,by show 2<=sizeLine;omega,stopB fun z=>?_⟩;rw[hn]at z;have:decide ((tx n).cps.toList≠[]/\NumText.AllDigits (tx n).cps.toList)=true:=decide_eq_true ⟨z.2.1,z.2.2.1⟩;rw[this]at q;cases q
   have hfg:n≠[]/\NumText.AllDigits n:=by
    by_cases z:n≠[]/\NumText.AllDigits n
    ·exact z
    ·have:decide ((tx n).cps.toList≠[]/\NumText.AllDigits (tx n).cps.toList)=false:=decide_eq_false z;rw[this]at q;cases q
   refine⟨_,rfl,rfl,tx n,"0",rfl,rfl,trivial,_,rfl,?_⟩;rw[e48,wL];refine ifB (fun q2=>?_) (fun q2=>?_)
   ·refine⟨_,rfl,by show 2<=sizeLine;omega,stopB fun z=>?_⟩;rw[hn]at z;exact z.2.2.2 (by simpa using q2)
   have hgood:41∈r/\r.takeWhile (· !=41)≠[]/\NumText.AllDigits (r.takeWhile (· !=41))/\(r.takeWhile (· !=41)).head?≠some 48:=by
    rw[hn];exact⟨hin,hfg.1,hfg.2,by simpa using q2⟩
   have hn1:1<=n.length:=by cases n with|nil=>exact absurd rfl hfg.1|cons=>simp
   refine⟨_,rfl,tx n,rfl,hfg.2,by omega,by omega,_,rfl,_,_,rfl,rfl,by show 2<=sizeLine;omega,fun p hp=>?_⟩;have et:=j4 hgood;rw[hn]at et;have:=k (a+1+n.length+1) (by omega) (by omega) (by
    rw[hr0,et];show r.drop (n.length+1)=_;have e1:l.drop (a+1)=r:=by rw[←List.drop_drop,hr0];rfl
    rw[←e1,List.drop_drop]
    congr 1) p hp
   rw[hr0,et]at this;exact this
def QcO(v:V)(H:Hp):Prop:=v=.non\/(∃i,v=.int i)\/∃a xs,v=.ref a/\H a=some (.tup xs)
def ja(K:PySem.W.Frag):Sp:=fun vs H Q _=>∃(v:V)(rows:List Rw),vs=[v]/\((∃l,v=.str (tx l)/\l.length<=500/\rows=rowsOf l)\/(QcO v H/\rows=[]))/\∀p rs H',Qk H H'->RowsAt K H' p rs rows->Q (.ref p) H'
theorem wQ(t:List Nat):(QO t).2.length<=t.length:=by
 unfold QO
 split
 ·split
  ·show(List.drop _ _).length<=_;rw[List.length_drop,List.length_cons];omega
  ·exact Nat.le_refl _
 ·exact Nat.le_refl _
theorem jb{c:TT}{t u:TS}{D:Ends}{σ:L2.St}{H:Hp}(Good:L2.St->Hp->Prop)(rest:∀σ' H',Good σ' H'->u D σ' H') (h:(∀σ' H',Good σ' H'->u D σ' H')->c σ H fun b H1=>if b=true then t {D with nx:=u D} σ H1 else u D σ H1):ZI (QaT c t QQ) u D σ H:=h rest
theorem Rws.last{H:Hp}{rs:List Addr}{rows:List Rw}(h:Rws H rs rows):(rs=[]/\rows=[])\/∃rs' r rows' x,rs=rs'++[r]/\rows=rows'++[x]/\Rws H rs' rows'/\H r=some (yc x):=by
 induction h with
 |nil=>exact .inl ⟨rfl,rfl⟩
 |@cons r rs x xs a t ih=>
  rcases ih with⟨rfl,rfl⟩|⟨rs',r',rows',x',rfl,rfl,h1,h2⟩
  ·exact .inr ⟨[],r,[],x,rfl,rfl,.nil,a⟩
  ·exact .inr ⟨r::rs',r',x::rows',x',rfl,rfl,.cons a h1,h2⟩
theorem add_nil(c n:Nat):Q1 [] c n=[]++[(c,n)]:=rfl
theorem add_same(rows:List Rw)(c n m:Nat):Q1 (rows++[(c,m)]) c n=rows++[(c,n+m)]:=by
 unfold Q1;rw[List.getLast?_concat];simp
theorem xE{rows:List Rw}{c c' n m:Nat}(h:c'≠c):Q1 (rows++[(c',m)]) c n=(rows++[(c',m)])++[(c,n)]:=by
 unfold Q1;rw[List.getLast?_concat];simp[h]
theorem j5(F:Fun K "rows_of" "rows_of" WX f fd)(O:Own mg)(T:Txt K mg tk c kr)(D_times_at:Def P w K mg base 3 "times_at" ["text","at"] U4):
  FnOk P w K mg base (CXE P w) 4 f fd ["thing"] (ja K):=by
 refine okN F JJ (fun vs H Q E h=>?_) (fun cdv A outer s H vs Q E hr h=>?_)
 ·obtain⟨v,rows,rfl,_⟩:=h;rfl
 ·obtain⟨v,rows,rfl,hv,k⟩:=h;have hz:1000<=sizeLine:=by decide
  refine⟨_,(Qe (QY (ZX (Zj (Ql QI rfl O.isi PyProof.Rows.boot_isinstance (Qa (pv 0) (Qa (Zi (v:=V.ty "str") rfl O.str PyProof.Rows.boot_str rfl) Qb))))) (Qg (QA (Zt Qb))) QD)
   (Qe (QC (i:=1) JJ.nd rfl (Or.inl rfl) (Zt Qb))
   (Qe (QC (i:=2) JJ.nd rfl (Or.inl rfl) Qd)
   (Qe (Xo PassesOwn.never (Qi Vn (pv 2) (Ql Zv rfl O.len PySem.boot_len (Qa (pv 0) Qb)) (Qo _)) (Qe (QC (i:=3) JJ.nd rfl (Or.inl rfl) (Qv zR (pv 0) (pv 2) (fun _ _=>rfl)))
   (Qe (Ju (D_times_at.pe hr (by decide) rfl Qx (Qa (pv 0) (Qa (QM Jl (pv 2) Qd) Qb))) (Q8 rfl (Qj (Qh (i:=4) JJ.nd rfl (Or.inl rfl)) (Qj (Qh (i:=2) JJ.nd rfl (Or.inl rfl)) QK))))
   (Qe (QY (PW.pt (Zl (JT (pv 1) (fun _=>rfl)) (J2 (Qi QU (Qv Zo (Qv QZ (pv 1) (YZ Wc Qd) (fun _ _=>rfl)) Qd (fun _ _=>rfl)) (pv 3) (Qo _))))) (Qg (K8 (i:=4) JJ.nd rfl (Or.inl rfl) (Qv Zo (qM PySem.F.plainAttrs_list PySem.F.slot_list_pop PySem.F.type_list_pop qN (pv 1)) Qd (fun _ _=>rfl)) WH)) QD)
   (Qg (Zm (ZN PySem.F.plainAttrs_list PySem.F.slot_list_append PySem.F.type_list_append JV (pv 1) (Qa (Qz (Qa (pv 3) (Qa (pv 4) Qb))) Qb))))))))
   (Qg (QA (pv 1))))))),?_⟩
  rcases hv with⟨l,rfl,hl,rfl⟩|⟨hv,rfl⟩
  ·have htl:=JW l;refine⟨_,rfl,.str (tx l),V.ty "str",true,rfl,rfl,.inl ⟨_,.str _,T.t_str⟩,true,rfl,?_⟩;refine QG ⟨by show 0<=sizeLine;omega,fun p hp=>?_⟩;have S1:=Qk.new (o:=.lst []) hp;refine⟨fun m σ H2=>∃(a:Nat)(rs:List Addr)(rows:List Rw)(x3 x4:Option V)(kf:Nat),m=l.length-a/\a<=l.length/\σ=[some (.str (tx l)),some (.ref p),some (.int (a:Nat)),x3,x4]/\H2 p=some (.lst (rs.map V.ref))/\Rws H2 rs rows/\Qk H H2/\rows.length<=a/\(l.drop a).length<=kf/\rowsOf l=Wf kf (l.drop a) rows,⟨l.length,0,[],[],none,none,l.length,rfl,Nat.zero_le _,rfl,Qc,.nil,S1,Nat.le_refl _,by simp,rfl⟩,?_⟩;rintro m σ H2 ⟨a,rs,rows,x3,x4,kf,rfl,hal,rfl,hp2,R2,S2,hra,hkf,hro⟩;refine⟨_,rfl,_,rfl,tx l,rfl,by omega,_,_,rfl,rfl,_,rfl,?_⟩;refine ifB (fun h1=>?_) (fun h1=>?_)
   ·have ha:a<l.length:=by have:=of_decide_eq_true h1;omega
    obtain⟨ch,hch⟩:∃ch,l[a]? =some ch:=⟨_,List.getElem?_eq_getElem ha⟩;have hdr:l.drop a=ch::l.drop (a+1):=by rw[List.drop_eq_getElem_cons ha];congr 1;rw[List.getElem?_eq_getElem ha]at hch;exact Option.some.inj hch
    refine⟨_,fun _ _ h=>h,_,rfl,_,rfl,tx l,(a:Int),ch,rfl,rfl,by omega,QL hch,?_⟩;refine⟨_,rfl,_,rfl,_,_,rfl,rfl,l,a+1,rfl,hl,by omega,fun b hb1 hb2 hb3 q hq=>⟨q,_,rfl,SqT.of Qc,rfl,_,_,rfl,_,_,rfl,rfl,?_⟩⟩;have S3:=Qk.new (o:=.tup [.int ((QO (l.drop (a+1))).1:Nat),.int (b:Nat)]) hq;generalize hH3:upd H2 q (.tup [.int ((QO (l.drop (a+1))).1:Nat),.int (b:Nat)])=H3 at S3;have hp3:=S3 _ _ hp2;have R3:=R2.keep fun b xs h=>S3 _ _ h;have S13:=S2.trans S3;clear hH3 hq S3 hp2 R2 S2;cases kf with
    |zero=>rw[hdr]at hkf;exact absurd hkf (by simp)
    |succ kf=>
    rw[hdr]at hro hkf;have hro2:rowsOf l=Wf kf (QO (l.drop (a+1))).2 (Q1 rows ch (QO (l.drop (a+1))).1):=hro;have hkf2:(QO (l.drop (a+1))).2.length<=kf:=by
     have:=wQ (l.drop (a+1));rw[List.length_cons]at hkf;omega
    rw[hb3]at hro2 hkf2;generalize (QO (l.drop (a+1))).1=n at hro2;dsimp only;refine jb (fun σ' H'=>∃(rs1:List Addr)(rows1:List Rw)(nn:Nat),σ'=[some (.str (tx l)),some (.ref p),some (.int (b:Nat)),some (.str (tx [ch])),some (.int (nn:Nat))]/\H' p=some (.lst (rs1.map V.ref))/\Rws H' rs1 rows1/\Qk H H'/\Q1 rows ch n=rows1++[(ch,nn)]/\rows1.length<=rows.length) ?_ (fun rest=>?_)
    ·rintro σ' H4 ⟨rs1,rows1,nn,rfl,hp4,R4,S4,had,hle⟩;refine⟨_,rfl,.inl ⟨rfl,_,.inl (.inl hp4)⟩,_,rfl,_,rfl,by show 2<=sizeLine;omega,fun q2 hq2=>?_⟩;have S5:=Qk.new (o:=.tup [.str (tx [ch]),.int (nn:Nat)]) hq2;have g5:upd H4 q2 (.tup [.str (tx [ch]),.int (nn:Nat)]) q2=some (yc (ch,nn)):=Qc;generalize upd H4 q2 (.tup [.str (tx [ch]),.int (nn:Nat)])=H5 at S5 g5;have hp5:=S5 _ _ hp4;have nq:q2≠p:=fun z=>by rw[z,hp4]at hq2;cases hq2
     have R5:=R4.keep fun b xs h=>S5 _ _ h;have S15:=S4.trans S5;refine⟨p,_,_,rfl,rfl,hp5,by rw[List.length_map,R4.len];omega,l.length-b,by omega,b,rs1++[q2],Q1 rows ch n,_,_,kf,rfl,hb2,rfl,?_,?_,?_,?_,hkf2,hro2⟩
     ·rw[Qc,List.map_append];rfl
     ·rw[had];refine Rws.app (R5.keep fun b xs h=>?_) ?_
      ·rw[Qp fun z=>by rw[z,hp5]at h;cases h];exact h
      ·rw[Qp nq];exact g5
     ·intro b o h;rw[Qp (Qs h hp)];exact S15 _ _ h
     ·rw[had,List.length_append];simp;omega
    ·rcases R3.last with⟨rfl,rfl⟩|⟨rs',r',rows',⟨c',m'⟩,rfl,rfl,R4,g4⟩
     ·refine⟨_,rfl,false,.inl ⟨_,SqL.of hp3,rfl⟩,?_⟩;exact QG (QG (rest _ _ ⟨[],[],n,rfl,hp3,.nil,S13,add_nil ch n,Nat.le_refl _⟩))
     ·have hp4:H3 p=some (.lst (rs'.map V.ref++[V.ref r'])):=by rw[hp3,List.map_append];rfl
      have sq4:SqL K H3 p (rs'.map V.ref++[V.ref r']):=SqL.of hp4;refine⟨_,rfl,true,.inl ⟨_,sq4,by cases rs'<;>rfl⟩,?_⟩;refine QH ⟨_,rfl,_,rfl,p,_,_,_,rfl,rfl,sq4,wj _ _,r',_,_,_,rfl,rfl,SqT.of g4,rfl,_,rfl,rfl,_,rfl,?_⟩;rw[show(⟨#[ch]⟩:Str)=tx [ch]from rfl,Zp];refine ifB (fun h2=>?_) (fun h2=>?_)
      ·have hc:c'=ch:=of_decide_eq_true h2;subst hc;refine⟨_,rfl,_,rfl,.inl ⟨rfl,_,sq4⟩,p,_,V.ref r',rfl,rfl,hp4,by rw[List.length_append];simp,r',[.str (tx [c']),.int (m':Nat)],1,.int (m':Nat),rfl,rfl,?_,rfl,_,_,rfl,rfl,?_⟩
       ·exact SqT.of (by rw[Qp fun z=>by rw[z,hp4]at g4;cases g4];exact g4)
       ·refine rest _ _ ⟨rs',rows',n+m',rfl,by rw[Qc,List.dropLast_concat],R4.keep fun b xs h=>?_,fun b o h=>?_,add_same rows' c' n m',by simp⟩
        ·rw[Qp fun z=>by rw[z,hp4]at h;cases h];exact h
        ·rw[Qp (Qs h hp)];exact S13 _ _ h
      ·have hc:c'≠ch:=of_decide_eq_false h2;exact rest _ _ ⟨_,_,n,rfl,hp3,R3,S13,xE hc,Nat.le_refl _⟩
   ·have ha:a=l.length:=by have:=of_decide_eq_false h1;omega
    subst ha;rw[List.drop_length]at hro;have hr2:rowsOf l=rows:=by
     rw[hro];cases kf<;>rfl
    refine⟨_,rfl,k p rs H2 S2 ⟨SqL.of hp2,by rw[hr2];exact R2,by rw[hr2];omega⟩⟩
  ·have isi:∃x c b,[v,V.ty "str"]=[x,c]/\yK c=true/\((∃t,TyOf K H x t/\PySem.W.kitOne K t (yL c)=some b)\/∃a C,x=.ref a/\H a=some (xf a (.ref C))/\ErrK K C/\PySem.W.kitOne K (.ref C) (yL c)=some b)/\b=false:=by
    rcases hv with rfl|⟨i,rfl⟩|⟨a,xs,rfl,e⟩
    ·exact⟨_,_,false,rfl,rfl,.inl ⟨_,.non,T.t_non⟩,rfl⟩
    ·exact⟨_,_,false,rfl,rfl,.inl ⟨_,.int _,T.t_int⟩,rfl⟩
    ·exact⟨_,_,false,rfl,rfl,.inl ⟨_,.tup e,T.t_tup⟩,rfl⟩
   obtain⟨x,cc,b,e1,e2,e3,rfl⟩:=isi;refine⟨_,rfl,x,cc,false,e1,e2,e3,false,rfl,?_⟩;refine QH ⟨by show 0<=sizeLine;omega,fun p hp=>?_⟩;exact k p [] _ (Qk.new hp) ⟨SqL.of Qc,.nil,by simp⟩
end
section
variable {P:Program}{w:World}{K:PySem.W.Frag}{mg:Str->Option Value}{base:Heap}{f:Addr}{fd:FuncData}{tk:Nat->Tok}{c kr:Nat->Addr}
theorem drop_cons{α:Type}{l:List α}{a:Nat}{x:α}(h:l[a]? =some x):l.drop a=x::l.drop (a+1):=by
 have ha:=(List.getElem?_eq_some_iff.mp h).1;rw[List.drop_eq_getElem_cons ha]
 congr 1
 rw[List.getElem?_eq_getElem ha]at h;exact Option.some.inj h
theorem W6{α:Type}{l:List α}{a:Nat}(h:a<l.length):∃x,l[a]? =some x:=⟨_,List.getElem?_eq_getElem h⟩
theorem Qbx:(",B0/":Str)=tx [44,66,48,47]:=by decide+kernel
theorem Qby:("+-$":Str)=tx [43,45,36]:=by decide+kernel
theorem QcP:("+-":Str)=tx [43,45]:=by decide+kernel
theorem QcQ:("9Z*+-$":Str)=tx [57,90,42,43,45,36]:=by decide+kernel
theorem QcR:("$":Str)=tx [36]:=by decide+kernel
theorem wT:("9":Str)=tx [57]:=by decide+kernel
theorem QcS:(".":Str)=tx [46]:=by decide+kernel
theorem wU:("":Str)=tx []:=by decide+kernel
def Yj(K:PySem.W.Frag):Sp:=fun vs H Q _=>∃(p:Addr)(rs:List Addr)(rows:List Rw)(a:Nat),vs=[.ref p,.int (a:Nat)]/\RowsAt K H p rs rows/\a<rows.length/\Q (.bl (Xr (rows.drop a))) H
theorem Up(F:Fun K "floats_at" "floats_at" XU f fd)(O:Own mg)(T:Txt K mg tk c kr):FnOk P w K mg base (CXE P w) 1 f fd ["rows","at"] (Yj K):=by
 refine okN F JZ (fun vs H Q E h=>?_) (fun cdv A outer s H vs Q E hr h=>?_)
 ·obtain⟨p,rs,rows,a,rfl,_⟩:=h;rfl
 ·obtain⟨p,rs,rows,a,rfl,R,ha,k⟩:=h;refine⟨_,(Qe (Ju (Qv QZ (pv 0) (pv 1) (fun _ _=>rfl)) (Q8 rfl (Qj (Qh (i:=2) JZ.nd rfl (Or.inl rfl)) (Qj (Qh (i:=3) JZ.nd rfl (Or.inl rfl)) QK))))
   (Qe (QY (Qi Vo (pv 3) Qd (Qo _)) (Qg (QA Zs)) QD)
   (Qe (QC (i:=4) JZ.nd rfl (Or.inl rfl) (QM Jl (pv 1) Qd))
   (Qe (Xo PassesOwn.never (PW.pt (Zl (Qi Vn (pv 4) (Ql Qu rfl O.len PySem.boot_len (Qa (pv 0) Qb)) (Qo _)) (J2 (Qi Z5 (Qv Zo (Qv QZ (pv 0) (pv 4) (fun _ _=>rfl)) Qd (fun _ _=>rfl)) (QF (v:=V.str ",B0/") rfl T.m_INSERTED ⟨_,rfl⟩) (by with_unfolding_all rfl))))) (Qg (K8 (i:=4) JZ.nd rfl (Or.inl rfl) Qd WH)))
   (Qg (QA (ZJ (Jp Vn (pv 4) (Ql Qu rfl O.len PySem.boot_len (Qa (pv 0) Qb)) (Qo _)) (XD (Jp QU (Qv Zo (Qv QZ (pv 0) (pv 4) (fun _ _=>rfl)) Qd (fun _ _=>rfl)) (pv 2) (Qo _)))))))))),?_⟩
  obtain⟨⟨y,n⟩,hx⟩:=W6 ha;rw[drop_cons hx]at k;refine Uj rfl (JB rfl) R hx fun r hr1=>⟨r,_,rfl,SqT.of hr1,rfl,_,_,rfl,_,_,rfl,rfl,?_⟩;refine⟨_,rfl,_,_,rfl,rfl,_,rfl,?_⟩;refine ifB (fun h1=>?_) (fun h1=>?_)
  ·have hn:n>1:=by have:=of_decide_eq_true h1;omega
   have e:Xr ((y,n)::rows.drop (a+1))=true:=by unfold Xr;simp[hn]
   rw[e]at k;exact k
  have hn:¬ n>1:=by have:=of_decide_eq_false h1;omega
  have e:Xr ((y,n)::rows.drop (a+1))=(match(rows.drop (a+1)).dropWhile (fun x=>ins x.1)with|(c',_)::_=>c'==y|[]=>false):=by
   show(decide (n>1)||_)=_;rw[decide_eq_false hn,Bool.false_or]
   all_goals rfl
  rw[e]at k;clear e;refine⟨_,rfl,_,_,rfl,rfl,?_⟩;refine⟨fun m σ H2=>∃b:Nat,m=rows.length-b/\b<=rows.length/\σ=[some (.ref p),some (.int (a:Nat)),some (.str (tx [y])),some (.int (n:Nat)),some (.int (b:Nat))]/\H2=H/\(rows.drop (a+1)).dropWhile (fun x=>ins x.1)=(rows.drop b).dropWhile (fun x=>ins x.1),⟨_,a+1,rfl,by omega,rfl,rfl,rfl⟩,?_⟩;rintro m σ H2 ⟨b,rfl,hb,rfl,rfl,hd⟩;refine⟨_,rfl,Zc rfl R ⟨_,_,rfl,rfl,_,rfl,?_⟩⟩;rcases Nat.lt_or_ge b rows.length with hlt|hge
  ·rw[decide_eq_true (by omega)];obtain⟨⟨y2,n2⟩,hx2⟩:=W6 hlt;refine QH (Z6 rfl (JB rfl) R hx2 ⟨_,_,rfl,rfl,_,rfl,?_⟩);rw[Qbx,VF];have hc:([44,66,48,47]:List Nat).contains y2=ins y2:=rfl;rw[hc];rw[drop_cons hx2]at hd;refine ifB (fun h2=>?_) (fun h2=>?_)
   ·refine⟨_,fun _ _ h=>h,?_⟩;refine⟨_,rfl,_,_,rfl,rfl,_,?_,b+1,rfl,by omega,rfl,rfl,?_⟩
    ·omega
    ·rw[hd,List.dropWhile_cons,if_pos h2]
   ·rw[List.dropWhile_cons,if_neg (by rw[h2];decide)]at hd;rw[hd]at k;refine⟨_,rfl,Zc rfl R ⟨_,_,rfl,rfl,_,rfl,?_⟩⟩;rw[decide_eq_true (by omega)];refine QH (Z6 rfl (JB rfl) R hx2 ⟨_,rfl,rfl,?_⟩);rw[Zp];have e3:decide (y2=y)=(y2==y):=by by_cases z:y2=y<;>simp[z]
    rw[e3];exact k
  ·rw[decide_eq_false (by omega)];refine QG (QG ?_);rw[List.drop_eq_nil_of_le hge]at hd;rw[hd]at k;refine⟨_,rfl,Zc rfl R ⟨_,_,rfl,rfl,_,rfl,?_⟩⟩;rw[decide_eq_false (by omega)];exact QG k
def Yk(K:PySem.W.Frag):Sp:=fun vs H Q _=>∃(p:Addr)(rs:List Addr)(rows:List Rw)(a pc:Nat),vs=[.ref p,.int (a:Nat),.str (tx [pc])]/\RowsAt K H p rs rows/\a<=rows.length/\
 ∀b many:Nat,b<=rows.length->Jh pc (rows.drop a) 0=(many,rows.drop b)->∀q,H q=none->Q (.ref q) (upd H q (.tup [.int (many:Nat),.int (b:Nat)]))
theorem Uq(F:Fun K "places_of" "places_of" XV f fd)(O:Own mg)(T:Txt K mg tk c kr):FnOk P w K mg base (CXE P w) 1 f fd ["rows","at","place"] (Yk K):=by
 refine okN F Zy (fun vs H Q E h=>?_) (fun cdv A outer s H vs Q E hr h=>?_)
 ·obtain⟨p,rs,rows,a,pc,rfl,_⟩:=h;rfl
 ·obtain⟨p,rs,rows,a,pc,rfl,R,ha,k⟩:=h;have hz:1000<=sizeLine:=by decide
  refine⟨_,(Qe (QC (i:=3) Zy.nd rfl (Or.inl rfl) Qd)
   (Qe (Xo PassesOwn.never (PW.pt (Zl (Qi Vn (pv 1) (Ql Qu rfl O.len PySem.boot_len (Qa (pv 0) Qb)) (Qo _)) (J2 (PW.pt (Z0 (Qi QU (Qv Zo (Qv QZ (pv 0) (pv 1) (fun _ _=>rfl)) Qd (fun _ _=>rfl)) (pv 2) (Qo _)) (Zk (Qi Z5 (Qv Zo (Qv QZ (pv 0) (pv 1) (fun _ _=>rfl)) Qd (fun _ _=>rfl)) (QF (v:=V.str ",B0/") rfl T.m_INSERTED ⟨_,rfl⟩) (by with_unfolding_all rfl)))))))) (Qe (QY (Qi QU (Qv Zo (Qv QZ (pv 0) (pv 1) (fun _ _=>rfl)) Qd (fun _ _=>rfl)) (pv 2) (Qo _)) (Qg (K8 (i:=3) Zy.nd rfl (Or.inl rfl) (Qv Zo (Qv QZ (pv 0) (pv 1) (fun _ _=>rfl)) Qd (fun _ _=>rfl)) WH)) QD)
   (Qg (K8 (i:=1) Zy.nd rfl (Or.inl rfl) Qd WH))))
   (Qg (QA (Qz (Qa (pv 3) (Qa (pv 1) Qb))))))),?_⟩
  refine⟨fun m σ H2=>∃b many:Nat,m=rows.length-b/\b<=rows.length/\σ=[some (.ref p),some (.int (b:Nat)),some (.str (tx [pc])),some (.int (many:Nat))]/\H2=H/\Jh pc (rows.drop a) 0=Jh pc (rows.drop b) many,⟨_,a,0,rfl,ha,rfl,rfl,rfl⟩,?_⟩;rintro m σ H2 ⟨b,many,rfl,hb,rfl,rfl,hd⟩;refine⟨_,rfl,Zc rfl R ⟨_,_,rfl,rfl,_,rfl,?_⟩⟩;rcases Nat.lt_or_ge b rows.length with hlt|hge
  ·rw[decide_eq_true (by omega)];obtain⟨⟨y,n⟩,hx⟩:=W6 hlt;rw[drop_cons hx]at hd;refine QH (Z6 rfl (JB rfl) R hx ⟨_,rfl,rfl,_,rfl,?_⟩);rw[Zp]
   by_cases h1:y=pc
   ·rw[decide_eq_true h1];refine QH (QH ⟨_,fun _ _ h=>h,Z6 rfl (JB rfl) R hx ⟨_,rfl,rfl,_,rfl,?_⟩⟩);rw[Zp,decide_eq_true h1];refine QH ⟨_,rfl,yd rfl (JB rfl) R hx ⟨_,_,rfl,rfl,?_⟩⟩;refine⟨_,rfl,_,_,rfl,rfl,rows.length-(b+1),by omega,b+1,many+n,rfl,by omega,rfl,rfl,?_⟩;rw[hd];show(if y=pc then Jh pc (rows.drop (b+1)) (many+n)else _)=_;rw[if_pos h1]
   ·rw[decide_eq_false h1];refine QG (Z6 rfl (JB rfl) R hx ⟨_,_,rfl,rfl,_,rfl,?_⟩);rw[Qbx,VF];have hc:([44,66,48,47]:List Nat).contains y=ins y:=rfl;rw[hc];refine ifB (fun h2=>?_) (fun h2=>?_)
    ·refine⟨_,fun _ _ h=>h,Z6 rfl (JB rfl) R hx ⟨_,rfl,rfl,_,rfl,?_⟩⟩;rw[Zp,decide_eq_false h1];refine QG ⟨_,rfl,_,_,rfl,rfl,rows.length-(b+1),by omega,b+1,many,rfl,by omega,rfl,rfl,?_⟩;rw[hd];show(if y=pc then _ else if ins y then Jh pc (rows.drop (b+1)) many else _)=_;rw[if_neg h1,if_pos h2]
    ·have hd2:Jh pc (rows.drop a) 0=(many,rows.drop b):=by
      rw[hd,drop_cons hx];show(if y=pc then _ else if ins y then _ else(many,(y,n)::rows.drop (b+1)))=_;rw[if_neg h1,if_neg (by rw[h2];decide)]
     exact⟨_,rfl,_,rfl,by show 2<=sizeLine;omega,k b many (by omega) hd2⟩
  ·rw[decide_eq_false (by omega)];refine QG (QG ?_);have hb2:rows.drop b=[]:=List.drop_eq_nil_of_le hge;have hd2:Jh pc (rows.drop a) 0=(many,rows.drop b):=by rw[hd,hb2];rfl
   exact⟨_,rfl,_,rfl,by show 2<=sizeLine;omega,k b many (by omega) hd2⟩
def U6(K:PySem.W.Frag):Sp:=fun vs H Q _=>∃(p:Addr)(rs:List Addr)(rows:List Rw)(a:Nat),vs=[.ref p,.int (a:Nat)]/\RowsAt K H p rs rows/\a<=rows.length/\
 ∀(pl:List Nat)(many nines b:Nat),b<=rows.length->JX (rows.drop a)=(pl,many,nines,rows.drop b)->∀q H',Qk H H'->H' q=some (.tup [.str (tx pl),.int (many:Nat),.int (nines:Nat),.int (b:Nat)])->Q (.ref q) H'
theorem Yl(F:Fun K "whole_part" "whole_part" Z9 f fd)(O:Own mg)(T:Txt K mg tk c kr)(D_places_of:Def P w K mg base 1 "places_of" ["rows","at","place"] (Yk K)):FnOk P w K mg base (CXE P w) 2 f fd ["rows","at"] (U6 K):=by
 refine okN F Ji (fun vs H Q E h=>?_) (fun cdv A outer s H vs Q E hr h=>?_)
 ·obtain⟨p,rs,rows,a,rfl,_⟩:=h;rfl
 ·obtain⟨p,rs,rows,a,rfl,R,ha,k⟩:=h;have hz:1000<=sizeLine:=by decide
  refine⟨_,(Qe (QY (PW.pt (Z0 (Qi yw (pv 1) (Ql Qu rfl O.len PySem.boot_len (Qa (pv 0) Qb)) (Qo _)) (Zk (Qi Y0 (Qv Zo (Qv QZ (pv 0) (pv 1) (fun _ _=>rfl)) Qd (fun _ _=>rfl)) (QF (v:=V.str "9Z*+-$") rfl T.m_PLACES ⟨_,rfl⟩) (by with_unfolding_all rfl))))) (Qg (QA (Qz (Qa Qm (Qa Qd (Qa Qd (Qa (pv 1) Qb))))))) QD)
   (Qe (QC (i:=2) Ji.nd rfl (Or.inl rfl) (Qv Zo (Qv QZ (pv 0) (pv 1) (fun _ _=>rfl)) Qd (fun _ _=>rfl)))
   (Qe (Ju (D_places_of.pe hr (by decide) rfl Qx (Qa (pv 0) (Qa (pv 1) (Qa (pv 2) Qb)))) (Q8 rfl (Qj (Qh (i:=3) Ji.nd rfl (Or.inl rfl)) (Qj (Qh (i:=1) Ji.nd rfl (Or.inl rfl)) QK))))
   (Qe (Ju (D_places_of.pe hr (by decide) rfl Qx (Qa (pv 0) (Qa (pv 1) (Qa Qm Qb)))) (Q8 rfl (Qj (Qh (i:=4) Ji.nd rfl (Or.inl rfl)) (Qj (Qh (i:=1) Ji.nd rfl (Or.inl rfl)) QK))))
   (Qg (QA (Qz (Qa (pv 2) (Qa (pv 3) (Qa (pv 4) (Qa (pv 1) Qb))))))))))),?_⟩
  refine⟨_,rfl,Zc rfl R ⟨_,_,rfl,rfl,_,rfl,?_⟩⟩;have none:JX (rows.drop a)=([],0,0,rows.drop a)->∀q,H q=none->Q (.ref q) (upd H q (.tup [.str "",.int 0,.int 0,.int (a:Nat)])):=fun e q hq=>
   k [] 0 0 a ha e q _ (Qk.new hq) (by rw[Qc,wU];rfl)
  rcases Nat.lt_or_ge a rows.length with hlt|hge
  ·rw[decide_eq_false (by omega)];obtain⟨⟨y,n⟩,hx⟩:=W6 hlt;refine QG (Z6 rfl (JB rfl) R hx ⟨_,_,rfl,rfl,_,rfl,?_⟩);rw[QcQ,VF];refine ifB (fun h1=>?_) (fun h1=>?_)
   ·refine⟨_,rfl,by show 4<=sizeLine;omega,none ?_⟩;rw[drop_cons hx];show(if([57,90,42,43,45,36]:List Nat).contains y then _ else _)=_;rw[if_neg (by rw[Bool.not_eq_true']at h1;rw[h1];decide)]
   ·have h2:([57,90,42,43,45,36]:List Nat).contains y=true:=by
     cases e:([57,90,42,43,45,36]:List Nat).contains y with
     |true=>rfl
     |false=>rw[e]at h1;cases h1
    refine Z6 rfl (JB rfl) R hx ?_;refine⟨_,rfl,_,rfl,_,rfl,p,rs,rows,a,y,rfl,R,ha,fun b many hb hp1 q hq=>⟨q,_,rfl,SqT.of Qc,rfl,_,_,rfl,_,_,rfl,rfl,?_⟩⟩;have S1:=Qk.new (o:=.tup [.int (many:Nat),.int (b:Nat)]) hq;generalize upd H q (.tup [.int (many:Nat),.int (b:Nat)])=H1 at S1;refine⟨_,rfl,_,rfl,p,rs,rows,b,57,by rw[wT];rfl,R.same S1,hb,fun b2 nines hb2 hp2 q2 hq2=>⟨q2,_,rfl,SqT.of Qc,rfl,_,_,rfl,_,_,rfl,rfl,?_⟩⟩;have S2:=Qk.new (o:=.tup [.int (nines:Nat),.int (b2:Nat)]) hq2;generalize upd H1 q2 (.tup [.int (nines:Nat),.int (b2:Nat)])=H2 at S2;refine⟨_,rfl,_,rfl,_,rfl,_,rfl,by show 4<=sizeLine;omega,fun q3 hq3=>?_⟩;refine k [y] many nines b2 hb2 ?_ q3 _ ((S1.trans S2).trans (Qk.new hq3)) Qc;rw[drop_cons hx]at hp1 ⊢;show(if([57,90,42,43,45,36]:List Nat).contains y then _ else _)=_;rw[if_pos h2,hp1];show([y],many,(Jh 57 (rows.drop b) 0).1,(Jh 57 (rows.drop b) 0).2)=_;rw[hp2]
  ·rw[decide_eq_true (by omega)];refine QH (QH ⟨_,rfl,by show 4<=sizeLine;omega,none ?_⟩);rw[List.drop_eq_nil_of_le hge];rfl
def oV:Option Nat->V
 |none=>.non
 |some n=>.int (n:Nat)
def Ym(K:PySem.W.Frag):Sp:=fun vs H Q _=>∃(p:Addr)(rs:List Addr)(rows:List Rw)(a:Nat)(pl:List Nat),vs=[.ref p,.int (a:Nat),.str (tx pl)]/\RowsAt K H p rs rows/\a<=rows.length/\
 ∀(o:Option Nat)(b:Nat),b<=rows.length->JI (rows.drop a) pl=(o,rows.drop b)->∀q,H q=none->Q (.ref q) (upd H q (.tup [oV o,.int (b:Nat)]))
theorem j6{y n:Nat}{r:List Rw}{pl:List Nat}(h:y≠46):JI ((y,n)::r) pl=(some 0,(y,n)::r):=by
 unfold JI
 split
 ·rename_i e;exact absurd (Prod.mk.inj (List.cons.inj e).1).1 h
 ·rfl
theorem Vs(F:Fun K "broken_part" "broken_part" ZT f fd)(O:Own mg)(T:Txt K mg tk c kr):FnOk P w K mg base (CXE P w) 1 f fd ["rows","at","place"] (Ym K):=by
 refine okN F ZG (fun vs H Q E h=>?_) (fun cdv A outer s H vs Q E hr h=>?_)
 ·obtain⟨p,rs,rows,a,pl,rfl,_⟩:=h;rfl
 ·obtain⟨p,rs,rows,a,pl,rfl,R,ha,k⟩:=h;have hz:1000<=sizeLine:=by decide
  have h2s:2<=sizeLine:=by omega
  refine⟨_,(Qe (QY (PW.pt (Z0 (Qi yw (pv 1) (Ql Qu rfl O.len PySem.boot_len (Qa (pv 0) Qb)) (Qo _)) (Zk (Qi XA (Qv Zo (Qv QZ (pv 0) (pv 1) (fun _ _=>rfl)) Qd (fun _ _=>rfl)) Qm (Qo _))))) (Qg (QA (Qz (Qa Qd (Qa (pv 1) Qb))))) QD)
   (Qe (QY (PW.pt (Z0 (Qi Vo (Qv Zo (Qv QZ (pv 0) (pv 1) (fun _ _=>rfl)) Qd (fun _ _=>rfl)) Qd (Qo _)) (Zk (Qi QU (QM Jl (pv 1) Qd) (Ql Qu rfl O.len PySem.boot_len (Qa (pv 0) Qb)) (Qo _))))) (Qg (QA (Qz (Qa JF (Qa (pv 1) Qb))))) QD)
   (Qe (Ju (Qv QZ (pv 0) (QM Jl (pv 1) Qd) (fun _ _=>rfl)) (Q8 rfl (Qj (Qh (i:=3) ZG.nd rfl (Or.inl rfl)) (Qj (Qh (i:=4) ZG.nd rfl (Or.inl rfl)) QK))))
   (Qe (QY (PW.pt (Zl (Qi XA (pv 3) Qm (Qo _)) (J2 (PW.pt (Z0 (Qi XA (pv 3) (pv 2) (Qo _)) (Zk (Qi Z5 (pv 3) (QF (v:=V.str "+-$") rfl T.m_FLOATING ⟨_,rfl⟩) (by with_unfolding_all rfl)))))))) (Qg (QA (Qz (Qa JF (Qa (pv 1) Qb))))) QD)
   (Qg (QA (Qz (Qa (pv 4) (Qa (QM Jl (pv 1) Qd) Qb))))))))),?_⟩
  refine⟨_,rfl,Zc rfl R ⟨_,_,rfl,rfl,_,rfl,?_⟩⟩;rcases Nat.lt_or_ge a rows.length with hlt|hge
  ·rw[decide_eq_false (by omega)];obtain⟨⟨y,n⟩,hx⟩:=W6 hlt;refine QG (Z6 rfl (JB rfl) R hx ⟨rfl,_,rfl,?_⟩);rw[QcS,Zp]
   by_cases h1:y=46
   ·rw[decide_eq_true h1];subst h1;refine QG (yd rfl (JB rfl) R hx ⟨_,_,rfl,rfl,_,rfl,?_⟩)
    by_cases h2:n>1
    ·rw[decide_eq_true (by omega)];refine QH (QH ⟨_,rfl,h2s,k none a ha ?_⟩);rw[drop_cons hx];show(if n>1\/_ then _ else _)=_;rw[if_pos (.inl h2)]
    ·rw[decide_eq_false (by omega)];refine QG ⟨_,rfl,_,_,rfl,rfl,Zc rfl R ⟨rfl,_,rfl,?_⟩⟩;rw[WR]
     by_cases h3:a+1=rows.length
     ·rw[decide_eq_true (by omega)];refine QH ⟨_,rfl,h2s,k none a ha ?_⟩;rw[drop_cons hx];show(if n>1\/_ then _ else _)=_;rw[if_pos (.inr (List.drop_eq_nil_of_le (by omega)))]
     ·rw[decide_eq_false (by omega)];obtain⟨⟨y2,n2⟩,hx2⟩:=W6 (show a+1<rows.length by omega);refine QG (Uj (k:=a+1) rfl (fun Q q=>⟨_,rfl,_,_,rfl,rfl,q⟩) R hx2 fun r hr1=>⟨r,_,rfl,SqT.of hr1,rfl,_,_,rfl,_,_,rfl,rfl,?_⟩);have eb:JI (rows.drop a) pl=if y2≠57/\([y2]≠pl\/[43,45,36].contains y2=true)then(none,rows.drop a)else(some n2,rows.drop (a+2)):=by
       rw[drop_cons hx];show(if n>1\/rows.drop (a+1)=[]then _ else _)=_;rw[if_neg (by rw[drop_cons hx2];simp;omega),drop_cons hx2]
      refine⟨_,rfl,rfl,_,rfl,?_⟩;rw[wT,Zp]
      by_cases h4:y2=57
      ·rw[decide_eq_true h4];refine QG (QG ⟨_,rfl,_,rfl,_,_,rfl,rfl,h2s,k (some n2) (a+2) (by omega) ?_⟩);rw[eb,if_neg fun z=>z.1 h4]
      ·rw[decide_eq_false h4];refine QH ⟨_,rfl,_,rfl,rfl,_,rfl,?_⟩;rw[V8]
       by_cases h5:[y2]=pl
       ·rw[decide_eq_true h5];refine QG ⟨_,rfl,_,_,rfl,rfl,_,rfl,?_⟩;rw[Qby,VF];refine ifB (fun h6=>?_) (fun h6=>?_)
        ·refine⟨_,rfl,h2s,k none a ha ?_⟩;rw[eb,if_pos ⟨h4,.inr h6⟩]
        ·refine⟨_,rfl,_,rfl,_,_,rfl,rfl,h2s,k (some n2) (a+2) (by omega) ?_⟩;rw[eb,if_neg fun z=>z.2.elim (fun q=>q h5) (fun q=>by rw[h6]at q;cases q)]
       ·rw[decide_eq_false h5];refine QH (QH ⟨_,rfl,h2s,k none a ha ?_⟩);rw[eb,if_pos ⟨h4,.inl h5⟩]
   ·rw[decide_eq_false h1];refine QH ⟨_,rfl,h2s,k (some 0) a ha ?_⟩;rw[drop_cons hx];exact j6 h1
  ·rw[decide_eq_true (by omega)];refine QH (QH ⟨_,rfl,h2s,k (some 0) a ha ?_⟩);rw[List.drop_eq_nil_of_le hge];rfl
def xF(K:PySem.W.Frag):Sp:=fun vs H Q _=>∃(p:Addr)(rs:List Addr)(rows:List Rw),vs=[.ref p]/\RowsAt K H p rs rows/\
 ∀(ld:List Nat)(b:Nat),b<=rows.length->ld.length<=2->qY rows=(ld,rows.drop b)->∀q H',Qk H H'->H' q=some (.tup [.str (tx ld),.int (b:Nat)])->Q (.ref q) H'
theorem j7(F:Fun K "lead_of" "lead_of" WY f fd)(O:Own mg)(T:Txt K mg tk c kr)(D_floats_at:Def P w K mg base 1 "floats_at" ["rows","at"] (Yj K)):FnOk P w K mg base (CXE P w) 2 f fd ["rows"] (xF K):=by
 refine okN F Zf (fun vs H Q E h=>?_) (fun cdv A outer s H vs Q E hr h=>?_)
 ·obtain⟨p,rs,rows,rfl,_⟩:=h;rfl
 ·obtain⟨p,rs,rows,rfl,R,k⟩:=h;have hz:1000<=sizeLine:=by decide
  have h2s:2<=sizeLine:=by omega
  refine⟨_,(Qe (QC (i:=1) Zf.nd rfl (Or.inl rfl) Qm)
   (Qe (QC (i:=2) Zf.nd rfl (Or.inl rfl) Qd)
   (Qe (X8 PassesOwn.never rfl (Z3 (Qz (Qa (QF (v:=V.str "+-") rfl T.m_SIGNS ⟨_,rfl⟩) (Qa Qm Qb)))) (Qh (i:=3) Zf.nd rfl (Or.inl rfl)) (Qg (QY (PW.pt (Zl (Qi Vn (pv 2) (Ql Qu rfl O.len PySem.boot_len (Qa (pv 0) Qb)) (Qo _)) (Zl (Qi Z5 (Qv Zo (Qv QZ (pv 0) (pv 2) (fun _ _=>rfl)) Qd (fun _ _=>rfl)) (pv 3) (by with_unfolding_all rfl)) (J2 (ZX (Zj (D_floats_at.pe hr (by decide) rfl Qx (Qa (pv 0) (Qa (pv 2) Qb))))))))) (Qe (K8 (i:=1) Zf.nd rfl (Or.inl rfl) (Qv Zo (Qv QZ (pv 0) (pv 2) (fun _ _=>rfl)) Qd (fun _ _=>rfl)) yU)
   (Qg (K8 (i:=2) Zf.nd rfl (Or.inl rfl) Qd WH))) QD)))
   (Qg (QA (Qz (Qa (pv 1) (Qa (pv 2) Qb)))))))),?_⟩
  refine⟨h2s,fun t ht=>⟨t,rfl,⟨_,SqT.of Qc⟩,?_⟩⟩;have S1:=Qk.new (o:=.tup [.str "+-",.str "$"]) ht;have g1:upd H t (.tup [.str "+-",.str "$"]) t=some (.tup [.str (tx [43,45]),.str (tx [36])]):=by rw[Qc,QcP,QcR]
  generalize upd H t (.tup [.str "+-",.str "$"])=H1 at S1 g1;have R1:=R.same S1;refine yv (xs:=[.str (tx [43,45]),.str (tx [36])]) (fun i σ H2=>∃(ld:List Nat)(b:Nat)(x:Option V),σ=[some (.ref p),some (.str (tx ld)),some (.int (b:Nat)),x]/\H2=H1/\b<=rows.length/\ld.length<=i/\qY rows=Wg (([[43,45],[36]]:List (List Nat)).drop i) (rows.drop b) ld) ⟨[],0,none,by rw[←wU];rfl,rfl,Nat.zero_le _,Nat.le_refl _,rfl⟩ (fun i σ H2 hi hP=>?_) ?_ ?_
  ·obtain⟨_,_,_,_,rfl,_⟩:=hP;exact SqT.of g1
  ·rintro i x σ H2 hi ⟨ld,b,x3,rfl,rfl,hb,hll,hlo⟩;have hi2:i<2:=(List.getElem?_eq_some_iff.mp hi).1;obtain⟨ch,hch,hxc⟩:∃ch,([[43,45],[36]]:List (List Nat))[i]? =some ch/\x=.str (tx ch):=by
    match i,hi,hi2 with
    |0,hi,_=>exact⟨_,rfl,(Option.some.inj hi).symm⟩
    |1,hi,_=>exact⟨_,rfl,(Option.some.inj hi).symm⟩
   subst hxc;rw[drop_cons hch]at hlo;refine⟨_,rfl,Zc rfl R1 ⟨_,_,rfl,rfl,_,rfl,?_⟩⟩;rcases Nat.lt_or_ge b rows.length with hlt|hge
   ·rw[decide_eq_true (by omega)];obtain⟨⟨y,n⟩,hx⟩:=W6 hlt;have el:Wg (ch::([[43,45],[36]]:List (List Nat)).drop (i+1)) (rows.drop b) ld=if(ch.contains y&& !Xr (rows.drop b))=true then Wg (([[43,45],[36]]:List (List Nat)).drop (i+1)) (rows.drop (b+1)) (ld++[y])else Wg (([[43,45],[36]]:List (List Nat)).drop (i+1)) (rows.drop b) ld:=by
     rw[drop_cons hx];rfl
    rw[el]at hlo;refine QH (Z6 rfl (JB rfl) R1 hx ⟨_,rfl,_,_,rfl,rfl,_,rfl,?_⟩);rw[VF];refine ifB (fun h1=>?_) (fun h1=>?_)
    ·refine⟨_,rfl,_,rfl,p,rs,rows,b,rfl,R1,hlt,_,rfl,?_⟩;rw[h1,Bool.true_and]at hlo;refine ifB (fun h2=>?_) (fun h2=>?_)
     ·refine⟨_,rfl,Z6 rfl (JB rfl) R1 hx ⟨_,_,rfl,rfl,by rw[JW,JW];simp;omega,?_⟩⟩;rw[Qbu];refine⟨_,rfl,_,_,rfl,rfl,ld++[y],b+1,_,rfl,rfl,by omega,by rw[List.length_append];simp;omega,?_⟩;rw[hlo,if_pos h2]
     ·refine⟨ld,b,_,rfl,rfl,hb,by omega,?_⟩;rw[hlo,if_neg (by rw[h2];decide)]
    ·rw[h1,Bool.false_and]at hlo;exact QG ⟨ld,b,_,rfl,rfl,hb,by omega,by rw[hlo];rfl⟩
   ·rw[decide_eq_false (by omega)];refine QG (QG ⟨ld,b,_,rfl,rfl,hb,by omega,?_⟩);rw[hlo,List.drop_eq_nil_of_le hge];rfl
  ·rintro σ H2 ⟨ld,b,x3,rfl,rfl,hb,hll,hlo⟩;refine⟨_,rfl,_,rfl,h2s,fun q hq=>?_⟩;exact k ld b hb hll hlo q _ (S1.trans (Qk.new hq)) Qc
theorem Ur{K:PySem.W.Frag}{a:Addr}{xs:List V}{NB:List Str}{g:TG}{tt:TT}{te:TE}{Q:VK}{H:Hp}(Pv:Nat->List V->Hp->Prop)(h0:Pv 0 [] H)(hl:∀i vs H,i<=xs.length->Pv i vs H->SqL K H a xs/\vs.length<=i)
  (hs:∀i x vs H,xs[i]? =some x->Pv i vs H->g x (List.replicate NB.length none) H fun σ2 H2=>tt σ2 H2 fun b H3=>if b=true then te σ2 H3 fun v H4=>Pv (i+1) (vs++[v]) H4 else Pv (i+1) vs H3)
  (hd:∀vs H,Pv xs.length vs H->∀p,H p=none->Q (.ref p) (upd H p (.lst vs))) (hz:xs.length<sizeLine):
  ∃W:Nat->Nat->List V->Hp->Prop,(∃m,W 0 m [] H)/\∀i m vs H,W i m vs H->
   ((Itl K a).stop i H/\∀p,H p=none->Q (.ref p) (upd H p (.lst vs)))\/((Itl K a).go i H/\vs.length<sizeLine/\∃N:List V->Hp->Prop,(∀vs' H',N vs' H'->∃m',m'<m/\W (i+1) m' vs' H')/\
    ∀x H',(Itl K a).yld i H x H'->g x (List.replicate NB.length none) H' fun σ2 H2=>tt σ2 H2 fun b H3=>if b=true then te σ2 H3 fun v H4=>N (vs++[v]) H4 else N vs H3):=by
 refine⟨fun i m vs H=>m=xs.length-i/\i<=xs.length/\Pv i vs H,⟨xs.length,by simp,Nat.zero_le _,h0⟩,?_⟩;rintro i m vs H ⟨rfl,hi,p⟩;obtain⟨q,hv⟩:=hl i vs H hi p
 by_cases hlt:i<xs.length
 ·refine .inr ⟨⟨xs,xs[i],q,by simp[hlt]⟩,by omega,Pv (i+1),fun vs' H' p'=>⟨xs.length-(i+1),by omega,rfl,hlt,p'⟩,fun x H' y=>?_⟩;obtain⟨e,y⟩:=y;subst e;exact hs i x vs _ (y xs q) p
 ·have e:i=xs.length:=by omega
  subst e;exact .inl ⟨⟨xs,q,Nat.le_refl _⟩,hd vs H p⟩
end
section
variable {P:Program}{w:World}{K:PySem.W.Frag}{mg:Str->Option Value}{base:Heap}{f:Addr}{fd:FuncData}{tk:Nat->Tok}{c kr:Nat->Addr}
theorem Rws.at'{H:Hp}{rs:List Addr}{rows:List Rw}(h:Rws H rs rows):∀{i:Nat}{r:Addr},rs[i]? =some r->∃x,rows[i]? =some x/\H r=some (yc x):=by
 induction h with
 |nil=>intro i r e;cases e
 |cons a _ ih=>
  intro i r e;cases i with
  |zero=>exact⟨_,rfl,by have:_=r:=Option.some.inj e;rw[←this];exact a⟩
  |succ i=>exact ih (i:=i) (r:=r) e
theorem Yn{X:Cx}{K0:PySem.W.Frag}{es:List Expr}{k:Nat}{t:TGs}{n:Nat}{pos:Pos}(hK:X.K=K0)(hc:X.calm=true)(h:PGs X es t)
  (hn:(assignEach es X.env).length=n:=by rfl) (hst:(assignEach es X.env).findIdx? (·.1)=none:=by rfl):PG X (.Tuple es k pos) (Qa7 K0 n t):=by
 subst hK;exact Q8 hc h hn hst
theorem xG{p:Addr}{rs:List Addr}{rows:List Rw}{te:TE}{NB:List Str}{n:Nat}{H:Hp}{Q:VK}(val:Rw->V)(hNB:NB.length=3)(hn:n=2)(R:RowsAt K H p rs rows)
  (hte:∀(x:Rw)(Q:VK),Q (val x) H->te [none,some (.str (tx [x.1])),some (.int (x.2:Nat))] H Q) (hd:∀q,H q=none->Q (.ref q) (upd H q (.lst (rows.map val)))):
  ∃W:Nat->Nat->List V->Hp->Prop,(∃m,W 0 m [] H)/\∀i m vs H,W i m vs H->
   ((Itl K p).stop i H/\∀p,H p=none->Q (.ref p) (upd H p (.lst vs)))\/((Itl K p).go i H/\vs.length<sizeLine/\∃N:List V->Hp->Prop,(∀vs' H',N vs' H'->∃m',m'<m/\W (i+1) m' vs' H')/\
    ∀x H',(Itl K p).yld i H x H'->Qa7 K n (UO (QJ 1) (UO (QJ 2) Qb8)) x (List.replicate NB.length none) H' fun σ2 H2=>QaW σ2 H2 fun b H3=>if b=true then te σ2 H3 fun v H4=>N (vs++[v]) H4 else N vs H3):=by
 have hz:1000<=sizeLine:=by decide
 have hl:=R.le;have hlen:=R.len;refine Ur (xs:=rs.map V.ref) (fun i vs H2=>H2=H/\vs=(rows.take i).map val) ⟨rfl,rfl⟩ ?_ ?_ ?_ (by omega)
 ·rintro i vs H2 hi ⟨rfl,rfl⟩;exact⟨R.sq,by rw[List.length_map,List.length_take];omega⟩
 ·rintro i x vs H2 hx ⟨rfl,rfl⟩;rw[List.getElem?_map]at hx;obtain⟨r,hr,rfl⟩:=Option.map_eq_some_iff.mp hx;obtain⟨y,hy,g⟩:=R.rw.at' hr;subst hn;rw[hNB];refine⟨r,_,rfl,SqT.of g,rfl,_,_,rfl,_,_,rfl,rfl,?_⟩;dsimp only[QaW];rw[if_pos rfl];refine hte y _ ⟨rfl,?_⟩;have hi:=(List.getElem?_eq_some_iff.mp hy).1;rw[List.take_add_one,hy,List.map_append];rfl
 ·rintro vs H2 ⟨rfl,rfl⟩ q hq;rw[List.take_of_length_le (by omega)];exact hd q hq
theorem wV{α:Type}(rs:List Addr)(a:Nat):VB (rs.map V.ref) (some (a:Int)) none=(rs.drop a).map V.ref:=by
 unfold VB;rw[HT.XM,HT.VX];rcases Nat.le_total a (rs.map V.ref).length with h|h
 ·rw[Nat.min_eq_left h,List.take_of_length_le (by rw[List.length_drop];exact Nat.le_refl _),List.map_drop]
 ·rw[Nat.min_eq_right h,List.drop_eq_nil_of_le (Nat.le_refl _),List.take_nil,List.drop_eq_nil_of_le (by rw[List.length_map]at h;exact h)];rfl
theorem KR{rows:List Rw}{tl te:TE}{NB:List Str}{n:Nat}{σ:L2.St}{H:Hp}{Q:VK}(val:Rw->V)(hNB:NB.length=3)(hn:n=2)
  (h:∀R:VK,(∀p rs H1,Qk H H1->RowsAt K H1 p rs rows->R (.ref p) H1)->tl σ H R)
  (hte:∀(x:Rw)(H:Hp)(Q:VK),Q (val x) H->te [none,some (.str (tx [x.1])),some (.int (x.2:Nat))] H Q) (hd:∀q H1,Qk H H1->H1 q=none->Q (.ref q) (upd H1 q (.lst (rows.map val)))):
  UX NB (yu K tl) (Qa7 K n (UO (QJ 1) (UO (QJ 2) Qb8))) QaW te σ H Q:=
 h _ fun p rs H1 S1 R1=>⟨p,rfl,⟨_,R1.sq⟩,xG val hNB hn R1 (fun x Q q=>hte x H1 Q q) fun q hq=>hd q H1 S1 hq⟩
theorem VH{p:Addr}{rs:List Addr}{rows:List Rw}{σ:L2.St}{H:Hp}{i j a:Nat}(RA:RowsAt K H p rs rows)(h1:σ[i]? =some (some (.ref p)))(h2:σ[j]? =some (some (.int (a:Nat)))):
  ∀R:VK,(∀p2 rs2 H1,Qk H H1->RowsAt K H1 p2 rs2 (rows.drop a)->R (.ref p2) H1)->tSl (Qcz K) (XL i) (yC (XL j)) UP σ H R:=fun R r=>
 ⟨_,h1,_,h2,_,rfl,p,_,rfl,RA.sq,fun p2 hp2=>by
  rw[wV (α:=Unit)];have S2:=Qk.new (o:=.lst ((rs.drop a).map V.ref)) hp2;exact r p2 (rs.drop a) _ S2 ⟨SqL.of Qc,(RA.rw.dr a).keep fun b xs h=>S2 _ _ h,by rw[List.length_drop];have:=RA.le;omega⟩⟩
theorem wW{p:Addr}{rs:List Addr}{rows:List Rw}{σ:L2.St}{H:Hp}{i:Nat}(RA:RowsAt K H p rs rows)(h1:σ[i]? =some (some (.ref p))):
  ∀R:VK,(∀p2 rs2 H1,Qk H H1->RowsAt K H1 p2 rs2 rows->R (.ref p2) H1)->XL i σ H R:=fun R r=>⟨_,h1,r p rs H (Qk.refl H) RA⟩
theorem Qbz(a b:List Nat):eqV (.str (tx a)) (.str (tx b))=decide (a=b):=by
 show(tx a==tx b)=_
 by_cases h:a=b
 ·subst h;simp
 ·rw[decide_eq_false h];exact beq_eq_false_iff_ne.mpr fun z=>h (qX z)
theorem in_list(ls:List (List Nat))(s:List Nat):inV (.str (tx s)) (ls.map fun l=>V.str (tx l))=ls.contains s:=by
 unfold inV
 induction ls with
 |nil=>rfl
 |cons a r ih=>
  rw[List.map_cons,List.any_cons,ih,Qbz,List.contains_cons]
  congr 1
  by_cases h:a=s
  ·subst h;simp
  ·rw[decide_eq_false h];exact(beq_eq_false_iff_ne.mpr fun z=>h z.symm).symm
theorem xH:([.str "9",.str "S9",.str "V9",.str "SV9",.str "9V9",.str "S9V9"]:List V)=wK.map fun l=>V.str (tx l):=by decide+kernel
theorem Yo:([.str "+",.str "-",.str "CR",.str "DB"]:List V)=Jz.map fun l=>V.str (tx l):=by decide+kernel
theorem Yp(ls:List (List Nat)):(ls.map fun l=>V.str (tx l)).all XN=true:=by
 induction ls with
 |nil=>rfl
 |cons a r ih=>rw[List.map_cons,List.all_cons,ih];rfl
def tV:Option (List Nat)->V
 |none=>.non
 |some l=>.str (tx l)
def xI(K:PySem.W.Frag):Sp:=fun vs H Q _=>∃(p:Addr)(rs:List Addr)(rows:List Rw)(a:Nat),vs=[.ref p,.int (a:Nat)]/\RowsAt K H p rs rows/\a<=rows.length/\∀H',Qk H H'->Q (tV (WW (rows.drop a))) H'
theorem xJ(rows:List Rw):(rows.map fun x=>V.str (tx [x.1]))=((rows.map (·.1)).map fun c=>tx [c]).map V.str:=by rw[List.map_map,List.map_map];rfl
theorem y0(rows:List Rw):(rows.map fun x=>V.int (x.2:Nat))=(rows.map fun x=>((x.2:Nat):Int)).map V.int:=by rw[List.map_map];rfl
set_option maxHeartbeats 2000000 in
theorem j8(F:Fun K "tail_of" "tail_of" W0 f fd)(O:Own mg)(T:Txt K mg tk c kr):FnOk P w K mg base (CXE P w) 1 f fd ["rows","at"] (xI K):=by
 refine okN F VG (fun vs H Q E h=>?_) (fun cdv A outer s H vs Q E hr h=>?_)
 ·obtain⟨p,rs,rows,a,rfl,_⟩:=h;rfl
 ·obtain⟨p,rs,rows,a,rfl,R,ha,k⟩:=h;have hz:1000<=sizeLine:=by decide
  have hle:=R.le;refine⟨_,(Qe (QY (Qi QU (pv 1) (Ql Qu rfl O.len PySem.boot_len (Qa (pv 0) Qb)) (Qo _)) (Qg (QA Qm)) QD)
   (Qe (QC (i:=2) VG.nd rfl (Or.inl rfl) (ZN PySem.F.plainAttrs_str PySem.F.slot_str_join PySem.F.type_str_join xt Qm (Qa (JU (NB:=[".0","symbol","many"]) rfl ⟨rfl,by decide+kernel,by decide+kernel,by decide+kernel⟩ (JG (Zu zS (pv 0) (Zn (pv 1)) WJ)) (fun _ _ _=>(Yn (K0:=K) (n:=2) rfl rfl (Qj (Qh (i:=1) (show([".0","symbol","many"]:List Str).Nodup by decide+kernel) rfl (Or.inl rfl) (Or.inr rfl)) (Qj (Qh (i:=2) (show([".0","symbol","many"]:List Str).Nodup by decide+kernel) rfl (Or.inl rfl) (Or.inr rfl)) QK)))) (fun _ _ _=>J3) (fun _ _ _=>(pv 1))) Qb)))
   (Qe (QY (PW.pt (Z0 (Qi Wd (pv 2) (QF (v:=V.ref (kr 1)) rfl T.m_SHOWN rfl) (by with_unfolding_all rfl)) (Zk (Qi Vo (Ql (xu rfl) rfl O.max PyProof.Rows.boot_max (Qa (JU (NB:=[".0","symbol","many"]) rfl ⟨rfl,by decide+kernel,by decide+kernel,by decide+kernel⟩ (JG (Zu zS (pv 0) (Zn (pv 1)) WJ)) (fun _ _ _=>(Yn (K0:=K) (n:=2) rfl rfl (Qj (Qh (i:=1) (show([".0","symbol","many"]:List Str).Nodup by decide+kernel) rfl (Or.inl rfl) (Or.inr rfl)) (Qj (Qh (i:=2) (show([".0","symbol","many"]:List Str).Nodup by decide+kernel) rfl (Or.inl rfl) (Or.inr rfl)) QK)))) (fun _ _ _=>J3) (fun _ _ _=>(pv 2))) Qb)) Qd (Qo _))))) (Qg (QA JF)) QD)
   (Qg (QA (pv 2)))))),?_⟩
  refine⟨_,rfl,Zc rfl R ⟨rfl,_,rfl,?_⟩⟩;rw[WR]
  by_cases h1:a=rows.length
  ·rw[decide_eq_true (by omega)];have e:WW (rows.drop a)=some []:=by rw[h1,List.drop_length];rfl
   rw[e]at k;have:=k H (Qk.refl H);refine QH ?_;show Q (.str "") H;rw[wU];exact this
  ·rw[decide_eq_false (by omega)];have hne:rows.drop a≠[]:=fun z=>by
    have:=congrArg List.length z;rw[List.length_drop,List.length_nil]at this;omega
   have et:WW (rows.drop a)=if(!Jz.contains ((rows.drop a).map (·.1))||(rows.drop a).any (fun x=>decide (x.2>1)))=true then none else some ((rows.drop a).map (·.1)):=by
    unfold WW;rw[if_neg hne]
   rw[et]at k;have hdl:(rows.drop a).length<=600:=by rw[List.length_drop];omega
   refine QG ⟨rfl,KR (fun x=>.str (tx [x.1])) rfl rfl (VH R rfl rfl) (fun x H Q q=>⟨_,rfl,q⟩) fun q H2 S2 hq=>?_⟩;have RR:=R.same S2;have hsl:∀{H3:Hp},RowsAt K H3 p rs rows->∀{σ:L2.St}{i j:Nat},σ[i]? =some (some (.ref p))->σ[j]? =some (some (.int (a:Nat)))->∀R:VK,(∀p2 rs2 H1,Qk H3 H1->RowsAt K H1 p2 rs2 (rows.drop a)->R (.ref p2) H1)->tSl (Qcz K) (XL i) (yC (XL j)) UP σ H3 R:=fun{_} R3{_ _ _} h1 h2=>VH R3 h1 h2;generalize hD:rows.drop a=D at k hne hdl hsl;rw[xJ];have S3:=S2.trans (Qk.new (o:=.lst (((D.map (·.1)).map fun c=>tx [c]).map V.str)) hq);have R3:=RR.same (Qk.new (o:=.lst (((D.map (·.1)).map fun c=>tx [c]).map V.str)) hq);refine⟨"",q,_,rfl,rfl,SqL.of Qc,xy (by rw[List.length_map];omega),?_⟩;rw[Uk];generalize upd H2 q (.lst (((D.map (·.1)).map fun c=>tx [c]).map V.str))=H3 at S3 R3;refine⟨_,rfl,kr 1,_,rfl,.inr (T.q_SHOWN _),rfl,by rw[Yo];exact Yp _,_,rfl,?_⟩;rw[Yo,if_pos rfl,in_list];refine ifB (fun h2=>?_) (fun h2=>?_)
   ·rw[h2,Bool.true_or]at k;exact k _ S3
   ·rw[h2,Bool.false_or]at k;dsimp only[jG,tOp,tCB,QX];refine KR (fun x=>.int (x.2:Nat)) rfl rfl (hsl R3 rfl rfl) (fun x H Q q=>⟨_,rfl,q⟩) fun q5 H4 S4 hq5=>?_;rw[y0];have S5:=(S3.trans S4).trans (Qk.new (o:=.lst ((D.map fun x=>((x.2:Nat):Int)).map V.int)) hq5);refine⟨q5,_,rfl,SqL.of Qc,by simpa using hne,fun m hm hmx=>?_⟩;generalize upd H4 q5 (.lst ((D.map fun x=>((x.2:Nat):Int)).map V.int))=H5 at S5;refine⟨_,_,rfl,rfl,_,rfl,?_⟩;have hany:decide ((1:Int)<m)=D.any (fun x=>decide (x.2>1)):=by
     obtain⟨y,hy,rfl⟩:=List.mem_map.mp hm
     by_cases h3:y.2>1
     ·rw[decide_eq_true (by omega),List.any_eq_true.mpr ⟨y,hy,decide_eq_true h3⟩]
     ·rw[decide_eq_false (by omega)];refine(List.any_eq_false.mpr fun z hz2=>?_).symm;have:=hmx _ (List.mem_map.mpr ⟨z,hz2,rfl⟩);rw[decide_eq_true_eq];omega
    rw[hany];refine ifB (fun h3=>?_) (fun h3=>?_)
    ·rw[h3]at k;exact k _ S5
    ·rw[h3]at k;exact⟨_,rfl,k _ S5⟩
end
section
variable {P:Program}{w:World}{K:PySem.W.Frag}{mg:Str->Option Value}{base:Heap}{f:Addr}{fd:FuncData}{tk:Nat->Tok}{c kr:Nat->Addr}
def kindS:Nat->Str
 |0=>"text"
 |1=>"letters"
 |2=>"number"
 |_=>"edited"
def fO(x:Facts):HO:=.tup [.str (kindS x.kind),.bl x.signed,.int (x.before:Nat),.int (x.behind:Nat)]
def FV(o:Option Facts)(v:V)(H:Hp):Prop:=match o with
 |none=>v=.non
 |some x=>∃q,v=.ref q/\H q=some (fO x)
def JP(K:PySem.W.Frag)(fn:List Rw->Option Facts):Sp:=fun vs H Q _=>∃(p:Addr)(rs:List Addr)(rows:List Rw),vs=[.ref p]/\RowsAt K H p rs rows/\∀v H',Qk H H'->FV (fn rows) v H'->Q v H'
theorem wX{rows:List Rw}{i:Nat}{y n:Nat}{s p:Bool}{a b:Nat}(h:rows[i]? =some (y,n)):KK (rows.drop i) s p a b=if y=57 then(if p then KK (rows.drop (i+1)) s p a n else KK (rows.drop (i+1)) s p n b)else if n>1 then none else if y=83 then KK (rows.drop (i+1)) true p a b else KK (rows.drop (i+1)) s true a b:=by
 rw[drop_cons h];rfl
set_option maxHeartbeats 2000000 in
theorem W7(F:Fun K "number_facts" "number_facts" ZD f fd)(O:Own mg)(T:Txt K mg tk c kr):FnOk P w K mg base (CXE P w) 1 f fd ["rows"] (JP K Q5):=by
 refine okN F QP (fun vs H Q E h=>?_) (fun cdv A outer s H vs Q E hr h=>?_)
 ·obtain⟨p,rs,rows,rfl,_⟩:=h;rfl
 ·obtain⟨p,rs,rows,rfl,R,k⟩:=h;have hz:1000<=sizeLine:=by decide
  have hle:=R.le;refine⟨_,(Qe (QY (Qi Wd (ZN PySem.F.plainAttrs_str PySem.F.slot_str_join PySem.F.type_str_join xt Qm (Qa (JU (NB:=[".0","symbol","many"]) rfl ⟨rfl,by decide+kernel,by decide+kernel,by decide+kernel⟩ (JG (pv 0)) (fun _ _ _=>(Yn (K0:=K) (n:=2) rfl rfl (Qj (Qh (i:=1) (show([".0","symbol","many"]:List Str).Nodup by decide+kernel) rfl (Or.inl rfl) (Or.inr rfl)) (Qj (Qh (i:=2) (show([".0","symbol","many"]:List Str).Nodup by decide+kernel) rfl (Or.inl rfl) (Or.inr rfl)) QK)))) (fun _ _ _=>J3) (fun _ _ _=>(pv 1))) Qb)) (QF (v:=V.ref (kr 0)) rfl T.m_NUMBER_FORMS rfl) (by with_unfolding_all rfl)) (Qg (QA JF)) QD)
   (Qe (QC (i:=3) QP.nd rfl (Or.inl rfl) Zs)
   (Qe (QC (i:=4) QP.nd rfl (Or.inl rfl) Zs)
   (Qe (QC (i:=5) QP.nd rfl (Or.inl rfl) (Zt (Qa Qd (Qa Qd Qb))))
   (Qe (X8 PassesOwn.never rfl (JG (pv 0)) (Q8 rfl (Qj (Qh (i:=1) QP.nd rfl (Or.inl rfl)) (Qj (Qh (i:=2) QP.nd rfl (Or.inl rfl)) QK))) (Qg (QY (Qi QU (pv 1) Qm (Qo _)) (Qg (Ju (pv 2) (Qa8 (pv 5) (Za (JT (pv 4) (fun _=>rfl)) Qd Qd) set_list))) (Qg (QY (Qi Vo (pv 2) Qd (Qo _)) (Qg (QA JF)) (Qg (QY (Qi QU (pv 1) Qm (Qo _)) (Qg (QC (i:=3) QP.nd rfl (Or.inl rfl) Zs)) (Qg (QC (i:=4) QP.nd rfl (Or.inl rfl) Zs)))))))))
   (Qe (QY (Qi Vo (Ql (Ww rfl) rfl O.sum L2.boot_sum (Qa (pv 5) Qb)) (QF (v:=V.int 18) rfl T.m_MOST_FIGURES ⟨_,rfl⟩) (Qo _)) (Qg (QA JF)) QD)
   (Qg (QA (Qz (Qa Qm (Qa (pv 3) (Qa (Qv QZ (pv 5) Qd (fun _ _=>rfl)) (Qa (Qv QZ (pv 5) Qd (fun _ _=>rfl)) Qb))))))))))))),?_⟩
  have e83:("S":Str)=tx [83]:=by decide+kernel
  refine⟨rfl,KR (fun x=>.str (tx [x.1])) rfl rfl (wW R rfl) (fun x H Q q=>⟨_,rfl,q⟩) fun q H2 S2 hq=>?_⟩;rw[xJ];have S3:=S2.trans (Qk.new (o:=.lst (((rows.map (·.1)).map fun c=>tx [c]).map V.str)) hq);refine⟨"",q,_,rfl,rfl,SqL.of Qc,xy (by rw[List.length_map];omega),?_⟩;rw[Uk];generalize upd H2 q (.lst (((rows.map (·.1)).map fun c=>tx [c]).map V.str))=H3 at S3;have R3:=R.same S3;refine⟨kr 0,_,rfl,.inr (T.q_FORMS _),rfl,by rw[xH];exact Yp _,_,rfl,?_⟩;rw[xH,if_pos rfl,in_list];refine ifB (fun h2=>?_) (fun h2=>?_)
  ·have hn:Q5 rows=none:=by
    unfold Q5;rw[if_neg (by rw[Bool.not_eq_true']at h2;rw[h2];decide)]
   exact k .non H3 S3 (by rw[hn];rfl)
  have hf:wK.contains (rows.map (·.1))=true:=by
   cases e:wK.contains (rows.map (·.1))with
   |true=>rfl
   |false=>rw[e]at h2;cases h2
  have en:Q5 rows=(match KK rows false false 0 0 with
    |some (s,a,b)=>if a+b>18 then none else some ⟨2,s,a,b⟩
    |none=>none):=by
   unfold Q5;rw[if_pos hf]
   all_goals rfl
  refine⟨by show 2<=sizeLine;omega,fun fl hfl=>?_⟩;have S4:=Qk.new (o:=.lst [.int 0,.int 0]) hfl;refine⟨_,rfl,p,rfl,⟨_,(R3.same S4).sq⟩,?_⟩;refine wc (xs:=rs.map V.ref) (fun i σ H5=>∃(x1 x2:Option V)(sg pt:Bool)(a b:Nat),σ=[some (.ref p),x1,x2,some (.bl sg),some (.bl pt),some (.ref fl)]/\H5 fl=some (.lst [.int (a:Nat),.int (b:Nat)])/\Qk H3 H5/\KK rows false false 0 0=KK (rows.drop i) sg pt a b) ⟨none,none,false,false,0,0,rfl,Qc,S4,rfl⟩ ?_ ?_ ?_
  ·rintro i σ H5 hi ⟨x1,x2,sg,pt,a,b,rfl,g5,S5,hg⟩;exact(R3.same S5).sq
  ·rintro i x σ H5 hx ⟨x1,x2,sg,pt,a,b,rfl,g5,S5,hg⟩;rw[List.getElem?_map]at hx;obtain⟨r,hr1,rfl⟩:=Option.map_eq_some_iff.mp hx;obtain⟨⟨y,n⟩,hy,g⟩:=(R3.same S5).rw.at' hr1;rw[wX hy]at hg;refine⟨r,_,rfl,SqT.of g,rfl,_,_,rfl,_,_,rfl,rfl,?_⟩;refine⟨_,rfl,rfl,_,rfl,?_⟩;rw[wT,Zp];have keep:∀(o:HO),Qk H3 (upd H5 fl o):=fun o b u h=>by rw[Qp (Qs h hfl)];exact S5 _ _ h
   by_cases h1:y=57
   ·rw[decide_eq_true h1];rw[if_pos h1]at hg;refine QH ⟨_,rfl,_,rfl,_,rfl,pt,rfl,?_⟩;refine ifB (fun h3=>?_) (fun h3=>?_)
    ·rw[if_pos h3]at hg;refine⟨fl,_,1,1,rfl,rfl,g5,rfl,some (.str (tx [y])),some (.int (n:Nat)),sg,pt,a,n,rfl,?_,keep _,hg⟩;rw[Qc];rfl
    ·rw[if_neg (by rw[h3];decide)]at hg;refine⟨fl,_,0,0,rfl,rfl,g5,rfl,some (.str (tx [y])),some (.int (n:Nat)),sg,pt,n,b,rfl,?_,keep _,hg⟩;rw[Qc];rfl
   ·rw[decide_eq_false h1];rw[if_neg h1]at hg;refine QG ⟨_,rfl,_,_,rfl,rfl,_,rfl,?_⟩
    by_cases h3:n>1
    ·rw[decide_eq_true (by omega)];rw[if_pos h3]at hg;refine QH (k .non H5 (S3.trans S5) ?_);rw[en,hg];rfl
    ·rw[decide_eq_false (by omega)];rw[if_neg h3]at hg;refine QG ⟨_,rfl,rfl,_,rfl,?_⟩;rw[e83,Zp]
     by_cases h4:y=83
     ·rw[decide_eq_true h4];rw[if_pos h4]at hg;exact QH ⟨some (.str (tx [y])),some (.int (n:Nat)),true,pt,a,b,rfl,g5,S5,hg⟩
     ·rw[decide_eq_false h4];rw[if_neg h4]at hg;exact QG ⟨some (.str (tx [y])),some (.int (n:Nat)),sg,true,a,b,rfl,g5,S5,hg⟩
  ·rintro σ H5 ⟨x1,x2,sg,pt,a,b,rfl,g5,S5,hg⟩;rw[R.len,List.drop_length]at hg;rw[hg]at en;refine⟨_,rfl,fl,[(a:Int),(b:Int)],rfl,SqL.of g5,_,_,rfl,rfl,_,rfl,?_⟩;have es:([(a:Int),(b:Int)]:List Int).sum=((a+b:Nat):Int):=by simp
   rw[es]
   by_cases h1:a+b>18
   ·rw[decide_eq_true (by omega)];refine QH (k .non H5 (S3.trans S5) ?_);rw[en];show FV (if a+b>18 then none else _) _ _;rw[if_pos h1];rfl
   ·rw[decide_eq_false (by omega)];refine QG ⟨_,rfl,_,rfl,fl,_,_,_,rfl,rfl,SqL.of g5,rfl,_,rfl,fl,_,_,_,rfl,rfl,SqL.of g5,rfl,by show 4<=sizeLine;omega,fun q6 hq6=>?_⟩;refine k _ _ ((S3.trans S5).trans (Qk.new hq6)) ?_;rw[en];show FV (if a+b>18 then none else _) _ _;rw[if_neg h1];exact⟨q6,rfl,Qc⟩
theorem Us(y:Nat):V0 Ul (Sum.inr (tx [y]):Key)=if y=88 then some (.str "text")else if y=65 then some (.str "letters")else none:=by
 have eX:("X":Str)=tx [88]:=by decide+kernel
 have eA:("A":Str)=tx [65]:=by decide+kernel
 unfold V0 Ul;rw[eX,eA]
 by_cases h1:y=88
 ·subst h1;rw[if_pos rfl];simp
 ·rw[if_neg h1];have n1:¬ ((Sum.inr (tx [88]):Key)=Sum.inr (tx [y])):=fun z=>h1 (List.cons.inj (qX (Sum.inr.inj z))).1.symm
  by_cases h2:y=65
  ·subst h2;rw[if_pos rfl];simp
  ·rw[if_neg h2];have n2:¬ ((Sum.inr (tx [65]):Key)=Sum.inr (tx [y])):=fun z=>h2 (List.cons.inj (qX (Sum.inr.inj z))).1.symm;simp[n1,n2]
set_option maxHeartbeats 2000000 in
theorem Vt(F:Fun K "plain_facts" "plain_facts" ZS f fd)(O:Own mg)(T:Txt K mg tk c kr)(KD:KDict P w K (kr 2) Ul):FnOk P w K mg base (CXE P w) 1 f fd ["rows"] (JP K Ze):=by
 refine okN F ZE (fun vs H Q E h=>?_) (fun cdv A outer s H vs Q E hr h=>?_)
 ·obtain⟨p,rs,rows,rfl,_⟩:=h;rfl
 ·obtain⟨p,rs,rows,rfl,R,k⟩:=h;have hz:1000<=sizeLine:=by decide
  refine⟨_,(Qe (QY (Qi XA (Ql Qu rfl O.len PySem.boot_len (Qa (pv 0) Qb)) Qd (Qo _)) (Qg (QA JF)) QD)
   (Qe (Ju (Qv QZ (pv 0) Qd (fun _ _=>rfl)) (Q8 rfl (Qj (Qh (i:=1) ZE.nd rfl (Or.inl rfl)) (Qj (Qh (i:=2) ZE.nd rfl (Or.inl rfl)) QK))))
   (Qe (QY (PW.pt (Z0 (XC (jT KD (pv 1) (QF (v:=V.ref (kr 2)) rfl T.m_PLAIN_KINDS rfl)) (by with_unfolding_all rfl)) (Zk (Qi Vo (pv 2) (QF (v:=V.int 60) rfl T.m_MOST_SIGNS ⟨_,rfl⟩) (Qo _))))) (Qg (QA JF)) QD)
   (Qg (QA (Qz (Qa (wH KD (QF (v:=V.ref (kr 2)) rfl T.m_PLAIN_KINDS rfl) (pv 1) (fun _ _=>rfl)) (Qa Zs (Qa Qd (Qa Qd Qb)))))))))),?_⟩
  refine⟨_,rfl,p,_,rfl,.inl R.sq,?_⟩;rw[R.len];refine⟨rfl,_,rfl,?_⟩;rw[yP]
  match rows,R,k with
  |[],R,k=>exact QH (k .non H (Qk.refl H) rfl)
  |_::_::_,R,k=>
   rw[decide_eq_true (by simp;omega)];exact QH (k .non H (Qk.refl H) rfl)
  |[(y,n)],R,k=>
   refine QG (Uj (k:=0) rfl (fun Q q=>q) R rfl fun r hr1=>⟨r,_,rfl,SqT.of hr1,rfl,_,_,rfl,_,_,rfl,rfl,?_⟩);refine⟨_,rfl,Sum.inr (tx [y]),rfl,rfl,_,rfl,?_⟩;have ep:Ze [(y,n)]=if(y≠88/\y≠65)\/n>60 then none else some ⟨if y=88 then 0 else 1,false,0,0⟩:=rfl;rw[Us]
   by_cases h1:y=88\/y=65
   ·have h2:(if y=88 then some (V.str "text")else if y=65 then some (.str "letters")else none)=some (.str (kindS (if y=88 then 0 else 1))):=by
     rcases h1 with rfl|rfl
     ·rfl
     ·rfl
    rw[h2];refine QG ⟨_,rfl,_,_,rfl,rfl,_,rfl,?_⟩
    by_cases h3:n>60
    ·rw[decide_eq_true (by omega)];refine QH (k .non H (Qk.refl H) ?_);rw[ep,if_pos (.inr h3)];rfl
    ·rw[decide_eq_false (by omega)];refine QG ⟨_,rfl,Sum.inr (tx [y]),.str (kindS (if y=88 then 0 else 1)),rfl,rfl,by rw[Us,h2],by show 4<=sizeLine;omega,fun q hq=>?_⟩;refine k _ _ (Qk.new hq) ?_;rw[ep,if_neg (by omega)];exact⟨q,rfl,Qc⟩
   ·rw[if_neg (by omega),if_neg (by omega)];refine QH (QH (k .non H (Qk.refl H) ?_));rw[ep,if_pos (.inl (by omega))];rfl
end
theorem wY{K:PySem.W.Frag}{a:Addr}{xs:List V}{NB:List Str}{g:TG}{tt:TT}{te:TE}{Q:VK}{H:Hp}(Pv:Nat->List V->Hp->Prop)(h0:Pv 0 [] H)(hl:∀i vs H,i<=xs.length->Pv i vs H->SqT K H a xs/\vs.length<=i)
  (hs:∀i x vs H,xs[i]? =some x->Pv i vs H->g x (List.replicate NB.length none) H fun σ2 H2=>tt σ2 H2 fun b H3=>if b=true then te σ2 H3 fun v H4=>Pv (i+1) (vs++[v]) H4 else Pv (i+1) vs H3)
  (hd:∀vs H,Pv xs.length vs H->∀p,H p=none->Q (.ref p) (upd H p (.lst vs))) (hz:xs.length<sizeLine):
  ∃W:Nat->Nat->List V->Hp->Prop,(∃m,W 0 m [] H)/\∀i m vs H,W i m vs H->
   ((Itt K a).stop i H/\∀p,H p=none->Q (.ref p) (upd H p (.lst vs)))\/((Itt K a).go i H/\vs.length<sizeLine/\∃N:List V->Hp->Prop,(∀vs' H',N vs' H'->∃m',m'<m/\W (i+1) m' vs' H')/\
    ∀x H',(Itt K a).yld i H x H'->g x (List.replicate NB.length none) H' fun σ2 H2=>tt σ2 H2 fun b H3=>if b=true then te σ2 H3 fun v H4=>N (vs++[v]) H4 else N vs H3):=by
 refine⟨fun i m vs H=>m=xs.length-i/\i<=xs.length/\Pv i vs H,⟨xs.length,by simp,Nat.zero_le _,h0⟩,?_⟩;rintro i m vs H ⟨rfl,hi,p⟩;obtain⟨q,hv⟩:=hl i vs H hi p
 by_cases hlt:i<xs.length
 ·refine .inr ⟨⟨xs,xs[i],q,by simp[hlt]⟩,by omega,Pv (i+1),fun vs' H' p'=>⟨xs.length-(i+1),by omega,rfl,hlt,p'⟩,fun x H' y=>?_⟩;obtain⟨e,y⟩:=y;subst e;exact hs i x vs _ (y xs q) p
 ·have e:i=xs.length:=by omega
  subst e;exact .inl ⟨⟨xs,q,Nat.le_refl _⟩,hd vs H p⟩
section
variable {P:Program}{w:World}{K:PySem.W.Frag}{mg:Str->Option Value}{base:Heap}{f:Addr}{fd:FuncData}{tk:Nat->Tok}{c kr:Nat->Addr}
def Ut(ld pl:List Nat)(many nines:Nat)(o:Option Nat)(tl:Option (List Nat)):Option Facts:=
 match pl,o,tl with
 |[place],some behind,some tail=>
  let fl:Bool:=[43,45,36].contains place
  if fl&&decide (many<2)then none
  else
   let shown:=[ld.take 1,[place],tail].filter (Jz.contains ·)
   if shown.length>1 then none
   else
    let before:=many+nines-(if fl then 1 else 0)
    if before+behind>18 then none else some ⟨3,shown.length==1,before,behind⟩
 |_,_,_=>none
theorem xK{rows:List Rw}{ld pl:List Nat}{b many nines b2 b3:Nat}{o:Option Nat}(h1:qY rows=(ld,rows.drop b))(h2:JX (rows.drop b)=(pl,many,nines,rows.drop b2))(h3:JI (rows.drop b2) (if nines=0 then pl else[57])=(o,rows.drop b3)):
  Jq rows=Ut ld pl many nines o (WW (rows.drop b3)):=by
 unfold Jq;simp only[h1,h2,h3];rfl
theorem xL(r:List Rw):(JX r).1=[]\/∃y,(JX r).1=[y]:=by
 unfold JX
 split
 ·split
  ·exact .inr ⟨_,rfl⟩
  ·exact .inl rfl
 ·exact .inl rfl
theorem j9{a:Addr}{ls:List (List Nat)}{H:Hp}{Q:VK}(T:Txt K mg tk c kr)(hq:H a=some (.tup (ls.map fun l=>V.str (tx l)))) (hl:ls.length<=3)
  (hd:∀q,H q=none->Q (.ref q) (upd H q (.lst ((ls.filter (Jz.contains ·)).map fun l=>V.str (tx l))))):
  ∃W:Nat->Nat->List V->Hp->Prop,(∃m,W 0 m [] H)/\∀i m vs H,W i m vs H->
   ((Itt K a).stop i H/\∀p,H p=none->Q (.ref p) (upd H p (.lst vs)))\/((Itt K a).go i H/\vs.length<sizeLine/\∃N:List V->Hp->Prop,(∀vs' H',N vs' H'->∃m',m'<m/\W (i+1) m' vs' H')/\
    ∀x H',(Itt K a).yld i H x H'->QJ 1 x (List.replicate 2 none) H' fun σ2 H2=>jG (tOp (rIn K false) (XL 1) (tC (.ref (kr 1)))) σ2 H2 fun b H3=>if b=true then XL 1 σ2 H3 fun v H4=>N (vs++[v]) H4 else N vs H3):=by
 have hz:1000<=sizeLine:=by decide
 refine wY (NB:=["a","b"]) (xs:=ls.map fun l=>V.str (tx l)) (fun i vs H2=>H2=H/\vs=((ls.take i).filter (Jz.contains ·)).map fun l=>V.str (tx l)) ⟨rfl,rfl⟩ ?_ ?_ ?_ (by rw[List.length_map];omega)
 ·rintro i vs H2 hi ⟨rfl,rfl⟩;refine⟨SqT.of hq,?_⟩;rw[List.length_map];exact Nat.le_trans (List.length_filter_le _ _) (by rw[List.length_take];omega)
 ·rintro i x vs H2 hx ⟨rfl,rfl⟩;rw[List.getElem?_map]at hx;obtain⟨l,hl1,rfl⟩:=Option.map_eq_some_iff.mp hx;refine⟨_,rfl,kr 1,_,rfl,.inr (T.q_SHOWN _),rfl,by rw[Yo];exact Yp _,_,rfl,?_⟩;rw[Yo,if_neg (by decide),in_list];have ef:((ls.take (i+1)).filter (Jz.contains ·))=((ls.take i).filter (Jz.contains ·))++(if Jz.contains l then[l]else[]):=by
   rw[List.take_add_one,hl1,List.filter_append]
   by_cases hm:l∈Jz<;>simp[hm]
  refine ifB (fun h=>?_) (fun h=>?_)
  ·refine⟨_,rfl,rfl,?_⟩;rw[ef,h,List.map_append];rfl
  ·refine⟨rfl,?_⟩;rw[ef,h];simp
 ·rintro vs H2 ⟨rfl,rfl⟩ q hq2;rw[List.length_map,List.take_length];exact hd q hq2
theorem U7{ls:List (List Nat)}{tl:TE}{NB:List Str}{σ:L2.St}{H:Hp}{Q:VK}(T:Txt K mg tk c kr)(hNB:NB.length=2)(hl:ls.length<=3)
  (h:∀R:VK,(∀p H1,Qk H H1->H1 p=some (.tup (ls.map fun l=>V.str (tx l)))->R (.ref p) H1)->tl σ H R)
  (hd:∀q H1,Qk H H1->H1 q=none->Q (.ref q) (upd H1 q (.lst ((ls.filter (Jz.contains ·)).map fun l=>V.str (tx l))))):
  UX NB (Qde K tl) (QJ 1) (jG (tOp (rIn K false) (XL 1) (tC (.ref (kr 1))))) (XL 1) σ H Q:=by
 refine h _ fun p H1 S1 g1=>⟨p,rfl,⟨_,SqT.of g1⟩,?_⟩;rw[hNB];exact j9 T g1 hl fun q hq=>hd q H1 S1 hq
theorem xM(l:List Nat):StrLaws.sliceText (tx l) none (some 1)=tx (l.take 1):=by
 cases l with
 |nil=>decide+kernel
 |cons a r=>exact jW (a::r) (k:=1) (by simp)
def xN(K:PySem.W.Frag):Sp:=fun vs H Q _=>∃(p:Addr)(rs:List Addr)(rows:List Rw)(a:Nat),vs=[.ref p,.int (a:Nat)]/\RowsAt K H p rs rows/\a<=rows.length/\
 ∀(pl:List Nat)(many nines b2 b3:Nat)(o:Option Nat),b3<=rows.length->JX (rows.drop a)=(pl,many,nines,rows.drop b2)->JI (rows.drop b2) (if nines=0 then pl else[57])=(o,rows.drop b3)->∀q H',Qk H H'->H' q=some (.tup [.str (tx pl),.int (many:Nat),.int (nines:Nat),oV o,.int (b3:Nat)])->Q (.ref q) H'
theorem za(F:Fun K "body_of" "body_of" WZ f fd)(D_whole_part:Def P w K mg base 2 "whole_part" ["rows","at"] (U6 K))(D_broken_part:Def P w K mg base 1 "broken_part" ["rows","at","place"] (Ym K)):
  FnOk P w K mg base (CXE P w) 3 f fd ["rows","at"] (xN K):=by
 refine okN F JK (fun vs H Q E h=>?_) (fun cdv A outer s H vs Q E hr h=>?_)
 ·obtain⟨p,rs,rows,a,rfl,_⟩:=h;rfl
 ·obtain⟨p,rs,rows,b,rfl,R,hb,k⟩:=h;have hz:1000<=sizeLine:=by decide
  refine⟨_,(Qe (Ju (D_whole_part.pe hr (by decide) rfl Qx (Qa (pv 0) (Qa (pv 1) Qb))) (Q8 rfl (Qj (Qh (i:=2) JK.nd rfl (Or.inl rfl)) (Qj (Qh (i:=3) JK.nd rfl (Or.inl rfl)) (Qj (Qh (i:=4) JK.nd rfl (Or.inl rfl)) (Qj (Qh (i:=1) JK.nd rfl (Or.inl rfl)) QK))))))
   (Qe (Ju (D_broken_part.pe hr (by decide) rfl Qx (Qa (pv 0) (Qa (pv 1) (Qa (Za (Qi QU (pv 4) Qd (Qo _)) (pv 2) Qm) Qb)))) (Q8 rfl (Qj (Qh (i:=5) JK.nd rfl (Or.inl rfl)) (Qj (Qh (i:=1) JK.nd rfl (Or.inl rfl)) QK))))
   (Qg (QA (Qz (Qa (pv 2) (Qa (pv 3) (Qa (pv 4) (Qa (pv 5) (Qa (pv 1) Qb)))))))))),?_⟩
  refine⟨_,rfl,_,rfl,p,rs,rows,b,rfl,R,hb,fun pl many nines b2 hb2 h2 q2 H2 S2 g2=>⟨q2,_,rfl,SqT.of g2,rfl,_,_,rfl,_,_,rfl,_,_,rfl,_,_,rfl,rfl,?_⟩⟩;refine⟨_,rfl,_,rfl,_,rfl,rfl,_,rfl,?_⟩;refine xn (fun x H'=>x=.str (tx (if nines=0 then pl else[57]))/\H'=H2) (fun z rest=>?_) (fun z rest=>?_) ?_
  ·rw[WR]at z;have hn:nines=0:=by have:=of_decide_eq_true z;omega
   rw[if_pos hn]at rest;exact⟨_,rfl,rest _ _ ⟨rfl,rfl⟩⟩
  ·rw[WR]at z;have hn:nines≠0:=by have:=of_decide_eq_false z;omega
   rw[if_neg hn]at rest;exact rest _ _ ⟨by rw[wT],rfl⟩
  rintro x H' ⟨rfl,rfl⟩;refine⟨p,rs,rows,b2,_,rfl,R.same S2,hb2,fun o b3 hb3 h3 q3 hq3=>⟨q3,_,rfl,SqT.of Qc,rfl,_,_,rfl,_,_,rfl,rfl,?_⟩⟩;have S3:=S2.trans (Qk.new (o:=.tup [oV o,.int (b3:Nat)]) hq3);generalize upd H' q3 (.tup [oV o,.int (b3:Nat)])=H3 at S3;refine⟨_,rfl,_,rfl,_,rfl,_,rfl,_,rfl,by show 5<=sizeLine;omega,fun q4 hq4=>?_⟩;exact k pl many nines b2 b3 o hb3 h2 h3 q4 _ (S3.trans (Qk.new hq4)) Qc
set_option maxHeartbeats 4000000 in
theorem W8(F:Fun K "edited_facts" "edited_facts" ZF f fd)(O:Own mg)(T:Txt K mg tk c kr)(D_lead_of:Def P w K mg base 2 "lead_of" ["rows"] (xF K))(D_body_of:Def P w K mg base 3 "body_of" ["rows","at"] (xN K))(D_tail_of:Def P w K mg base 1 "tail_of" ["rows","at"] (xI K)):
  FnOk P w K mg base (CXE P w) 4 f fd ["rows"] (JP K Jq):=by
 refine okN F QB (fun vs H Q E h=>?_) (fun cdv A outer s H vs Q E hr h=>?_)
 ·obtain⟨p,rs,rows,rfl,_⟩:=h;rfl
 ·obtain⟨p,rs,rows,rfl,R,k⟩:=h;have hz:1000<=sizeLine:=by decide
  refine⟨_,(Qe (Ju (D_lead_of.pe hr (by decide) rfl Qx (Qa (pv 0) Qb)) (Q8 rfl (Qj (Qh (i:=1) QB.nd rfl (Or.inl rfl)) (Qj (Qh (i:=2) QB.nd rfl (Or.inl rfl)) QK))))
   (Qe (Ju (D_body_of.pe hr (by decide) rfl Qx (Qa (pv 0) (Qa (pv 2) Qb))) (Q8 rfl (Qj (Qh (i:=3) QB.nd rfl (Or.inl rfl)) (Qj (Qh (i:=4) QB.nd rfl (Or.inl rfl)) (Qj (Qh (i:=5) QB.nd rfl (Or.inl rfl)) (Qj (Qh (i:=6) QB.nd rfl (Or.inl rfl)) (Qj (Qh (i:=7) QB.nd rfl (Or.inl rfl)) QK)))))))
   (Qe (QC (i:=8) QB.nd rfl (Or.inl rfl) (D_tail_of.pe hr (by decide) rfl Qx (Qa (pv 0) (Qa (pv 7) Qb))))
   (Qe (QY (PW.pt (Z0 (Qi QU (pv 3) Qm (Qo _)) (Z0 (XC (K6 (pv 6))) (Zk (XC (K6 (pv 8))))))) (Qg (QA JF)) QD)
   (Qe (QC (i:=9) QB.nd rfl (Or.inl rfl) (Jp Z5 (pv 3) (QF (v:=V.str "+-$") rfl T.m_FLOATING ⟨_,rfl⟩) (by with_unfolding_all rfl)))
   (Qe (QY (PW.pt (Zl (JT (pv 9) (fun _=>rfl)) (J2 (Qi Vn (pv 4) Qd (Qo _))))) (Qg (QA JF)) QD)
   (Qe (Wy (NB:=[".0","part"]) (iy:=10) rfl ⟨rfl,by decide+kernel,by decide+kernel,by decide+kernel⟩ (Z3 (Qz (Qa (Zu qW (pv 1) WJ (Zn Qd)) (Qa (pv 3) (Qa (pv 8) Qb))))) (fun _ _ _=>(Qh (i:=1) (show([".0","part"]:List Str).Nodup by decide+kernel) rfl (Or.inl rfl))) (fun _ _ _=>(V5 (Qi (jU (K0:=K) rfl) (pv 1) (QF (v:=V.ref (kr 1)) rfl T.m_SHOWN rfl) (by with_unfolding_all rfl)))) (fun _ _ _=>(pv 1)) QB.nd rfl (Or.inl rfl) rfl)
   (Qe (QY (Qi Vo (Ql Qu rfl O.len PySem.boot_len (Qa (pv 10) Qb)) Qd (Qo _)) (Qg (QA JF)) QD)
   (Qe (QC (i:=11) QB.nd rfl (Or.inl rfl) (QM zF (QM Jl (pv 4) (pv 5)) (Za (JT (pv 9) (fun _=>rfl)) Qd Qd)))
   (Qe (QY (Qi Vo (QM Jl (pv 11) (pv 6)) (QF (v:=V.int 18) rfl T.m_MOST_FIGURES ⟨_,rfl⟩) (Qo _)) (Qg (QA JF)) QD)
   (Qg (QA (Qz (Qa Qm (Qa (Jp QU (Ql Qu rfl O.len PySem.boot_len (Qa (pv 10) Qb)) Qd (Qo _)) (Qa (pv 11) (Qa (pv 6) Qb))))))))))))))))),?_⟩
  refine⟨_,rfl,p,rs,rows,rfl,R,fun ld b hb hll h1 q1 H1 S1 g1=>⟨q1,_,rfl,SqT.of g1,rfl,_,_,rfl,_,_,rfl,rfl,?_⟩⟩;refine⟨_,rfl,_,rfl,p,rs,rows,b,rfl,R.same S1,hb,fun pl many nines b2 b3 o hb3 h2 h3 q2 H3 S2 g2=>⟨q2,_,rfl,SqT.of g2,rfl,_,_,rfl,_,_,rfl,_,_,rfl,_,_,rfl,_,_,rfl,rfl,?_⟩⟩;have S3:=S1.trans S2;clear g1 g2 S1 S2;have ee:=xK h1 h2 h3;have hone:=xL (rows.drop b);rw[h2]at hone;refine⟨_,rfl,_,rfl,p,rs,rows,b3,rfl,R.same S3,hb3,fun H4 S4=>?_⟩;have S14:=S3.trans S4;generalize WW (rows.drop b3)=tl at ee;rw[ee]at k;clear ee h1 h2 h3 S3 S4;refine⟨_,rfl,rfl,_,rfl,?_⟩;rw[wU,V8];rcases hone with hp|⟨place,hp⟩
  ·have hp2:pl=[]:=hp;subst hp2;rw[decide_eq_true rfl];exact QH (QH (k .non H4 S14 rfl))
  have hp2:pl=[place]:=hp;subst hp2;rw[decide_eq_false (by simp)];refine QG ⟨_,rfl,_,rfl,?_⟩;cases o with
  |none=>exact QH (QH (k .non H4 S14 rfl))
  |some behind=>
  refine QG ⟨_,rfl,_,rfl,?_⟩;cases tl with
  |none=>exact QH (k .non H4 S14 rfl)
  |some tail=>
  refine QG ⟨_,rfl,_,_,rfl,rfl,?_⟩;rw[Qby,VF];generalize hfl:([43,45,36]:List Nat).contains place=fl;have ek:Ut ld [place] many nines (some behind) (some tail)=if(fl&&decide (many<2))=true then none else if([ld.take 1,[place],tail].filter (Jz.contains ·)).length>1 then none else if many+nines-(if fl=true then 1 else 0)+behind>18 then none else some ⟨3,([ld.take 1,[place],tail].filter (Jz.contains ·)).length==1,many+nines-(if fl=true then 1 else 0),behind⟩:=by
   rw[←hfl];rfl
  rw[ek]at k;clear ek;dsimp only;refine jb (fun σ' H'=>σ'=[some (.ref p),some (.str (tx ld)),some (.int (b:Nat)),some (.str (tx [place])),some (.int (many:Nat)),some (.int (nines:Nat)),some (.int (behind:Nat)),some (.int (b3:Nat)),some (.str (tx tail)),some (.bl fl),none,none]/\H'=H4/\¬ (fl&&decide (many<2))=true) ?_ (fun rest=>?_)
  ·rintro σ' H' ⟨rfl,rfl,hfm⟩;rw[if_neg hfm]at k;have hmm:fl=true->2<=many:=fun z=>by
    rcases Nat.lt_or_ge many 2 with q|q
    ·exact absurd (by rw[z,decide_eq_true q];rfl) hfm
    ·exact q
   dsimp only[ZI,JS];refine U7 (ls:=[ld.take 1,[place],tail]) T rfl (by simp) (fun R r=>⟨_,rfl,_,rfl,tx ld,rfl,by rw[JW];omega,_,rfl,_,rfl,by show 3<=sizeLine;omega,fun p5 hp5=>r p5 _ (Qk.new hp5) (by rw[Qc,xM];rfl)⟩) fun q5 H5 S5 hq5=>?_;have S6:=(S14.trans S5).trans (Qk.new (o:=.lst (([ld.take 1,[place],tail].filter (Jz.contains ·)).map fun l=>V.str (tx l))) hq5);have g6:upd H5 q5 (.lst (([ld.take 1,[place],tail].filter (Jz.contains ·)).map fun l=>V.str (tx l))) q5=some (.lst (([ld.take 1,[place],tail].filter (Jz.contains ·)).map fun l=>V.str (tx l))):=Qc;generalize upd H5 q5 (.lst (([ld.take 1,[place],tail].filter (Jz.contains ·)).map fun l=>V.str (tx l)))=H6 at S6 g6;generalize [ld.take 1,[place],tail].filter (Jz.contains ·)=sh at g6 k;refine⟨_,rfl,q5,_,rfl,.inl (SqL.of g6),_,_,rfl,rfl,_,rfl,?_⟩;rw[List.length_map]
   by_cases h7:sh.length>1
   ·rw[decide_eq_true (by omega)];rw[if_pos h7]at k;exact QH (k .non H6 S6 rfl)
   ·rw[decide_eq_false (by omega)];rw[if_neg h7]at k;refine QG ⟨_,rfl,_,rfl,_,_,rfl,rfl,_,rfl,fl,rfl,?_⟩;have hbf:((many:Nat):Int)+(nines:Nat)-(if fl=true then 1 else 0)=((many+nines-(if fl=true then 1 else 0):Nat):Int):=by
     cases fl with
     |true=>have:=hmm rfl;simp;omega
     |false=>simp
    refine xn (fun x H'=>x=.int (if fl=true then 1 else 0)/\H'=H6) (fun z rest=>rest _ _ ⟨by rw[if_pos z],rfl⟩) (fun z rest=>rest _ _ ⟨by rw[if_neg (by rw[z];decide)],rfl⟩) ?_;rintro x H7 ⟨rfl,rfl⟩;refine⟨_,_,rfl,rfl,?_⟩;dsimp only[QJ];rw[hbf];generalize many+nines-(if fl=true then 1 else 0)=before at k;refine⟨_,rfl,_,rfl,_,_,rfl,rfl,_,_,rfl,rfl,_,rfl,?_⟩
    by_cases h8:before+behind>18
    ·rw[decide_eq_true (by omega)];rw[if_pos h8]at k;exact QH (k .non H7 S6 rfl)
    ·rw[decide_eq_false (by omega)];rw[if_neg h8]at k;refine QG ⟨_,rfl,q5,_,rfl,.inl (SqL.of g6),rfl,_,rfl,_,rfl,by show 4<=sizeLine;omega,fun q9 hq9=>?_⟩;refine k _ _ (S6.trans (Qk.new hq9)) ⟨q9,rfl,?_⟩;rw[Qc,List.length_map,WR];have e9:decide ((sh.length:Int)=1)=(sh.length==1):=by
      by_cases z:sh.length=1
      ·rw[z];rfl
      ·rw[decide_eq_false (by omega)];exact(beq_eq_false_iff_ne.mpr z).symm
     rw[e9];rfl
  ·refine⟨_,rfl,fl,rfl,?_⟩;cases fl with
   |false=>
    exact QG (QG (rest _ _ ⟨rfl,rfl,by simp⟩))
   |true=>
    refine QH ⟨_,rfl,_,_,rfl,rfl,_,rfl,?_⟩
    by_cases h6:many<2
    ·rw[decide_eq_true (by omega)];refine QH (k .non H4 S14 ?_);rw[decide_eq_true h6];rfl
    ·rw[decide_eq_false (by omega)];exact QG (rest _ _ ⟨rfl,rfl,by rw[decide_eq_false h6];decide⟩)
end
section
variable {P:Program}{w:World}{K:PySem.W.Frag}{mg:Str->Option Value}{base:Heap}{f:Addr}{fd:FuncData}{tk:Nat->Tok}{c kr:Nat->Addr}
theorem FV.isN{o:Option Facts}{v:V}{H:Hp}(h:FV o v H):decide (v=.non)= !o.isSome:=by
 cases o with
 |none=>rw[show v=.non from h];rfl
 |some x=>obtain⟨q,h1,h2⟩:=h;rw[h1];rfl
set_option maxHeartbeats 1000000 in
theorem U8(F:Fun K "facts_of" "facts_of" KN f fd)(D_number_facts:Def P w K mg base 1 "number_facts" ["rows"] (JP K Q5))(D_plain_facts:Def P w K mg base 1 "plain_facts" ["rows"] (JP K Ze))(D_edited_facts:Def P w K mg base 4 "edited_facts" ["rows"] (JP K Jq)):
  FnOk P w K mg base (CXE P w) 5 f fd ["rows"] (JP K JA):=by
 refine okN F ZR (fun vs H Q E h=>?_) (fun cdv A outer s H vs Q E hr h=>?_)
 ·obtain⟨p,rs,rows,rfl,_⟩:=h;rfl
 ·obtain⟨p,rs,rows,rfl,R,k⟩:=h;refine⟨_,(Qe (QC (i:=1) ZR.nd rfl (Or.inl rfl) (D_number_facts.pe hr (by decide) rfl Qx (Qa (pv 0) Qb)))
   (Qe (QY (XC (K6 (pv 1))) (Qg (QC (i:=1) ZR.nd rfl (Or.inl rfl) (D_plain_facts.pe hr (by decide) rfl Qx (Qa (pv 0) Qb)))) QD)
   (Qe (QY (XC (K6 (pv 1))) (Qg (QC (i:=1) ZR.nd rfl (Or.inl rfl) (D_edited_facts.pe hr (by decide) rfl Qx (Qa (pv 0) Qb)))) QD)
   (Qg (QA (pv 1)))))),?_⟩
  refine⟨_,rfl,p,rs,rows,rfl,R,fun v1 H1 S1 f1=>?_⟩;refine⟨_,rfl,_,rfl,?_⟩;rw[f1.isN];cases e1:Q5 rows with
  |some x=>
   rw[e1]at f1;have ef:JA rows=some x:=by unfold JA;rw[e1]
   refine QG ⟨_,rfl,_,rfl,?_⟩;rw[f1.isN];refine QG ⟨_,rfl,k v1 H1 S1 ?_⟩;rw[ef];exact f1
  |none=>
   refine QH ⟨_,rfl,p,rs,rows,rfl,R.same S1,fun v2 H2 S2 f2=>?_⟩;refine⟨_,rfl,_,rfl,?_⟩;rw[f2.isN];cases e2:Ze rows with
   |some x=>
    rw[e2]at f2;have ef:JA rows=some x:=by unfold JA;rw[e1,e2]
    refine QG ⟨_,rfl,k v2 H2 (S1.trans S2) ?_⟩;rw[ef];exact f2
   |none=>
    have ef:JA rows=Jq rows:=by unfold JA;rw[e1,e2]
    refine QH ⟨_,rfl,p,rs,rows,rfl,(R.same S1).same S2,fun v3 H3 S3 f3=>⟨_,rfl,k v3 H3 ((S1.trans S2).trans S3) ?_⟩⟩;rw[ef];exact f3
def U9(K:PySem.W.Frag):Sp:=fun vs H Q _=>∃(v:V)(b:Bool),vs=[v]/\((∃l,v=.str (tx l)/\l.length<=500/\b=(ZP l).isSome)\/(QcO v H/\b=false))/\∀H',Qk H H'->Q (.bl b) H'
theorem xO:JA []=none:=by decide
theorem Yq(F:Fun K "is_picture" "is_picture" Z8 f fd)(D_rows_of:Def P w K mg base 4 "rows_of" ["thing"] (ja K))(D_facts_of:Def P w K mg base 5 "facts_of" ["rows"] (JP K JA)):
  FnOk P w K mg base (CXE P w) 6 f fd ["thing"] (U9 K):=by
 refine okN F Yb (fun vs H Q E h=>?_) (fun cdv A outer s H vs Q E hr h=>?_)
 ·obtain⟨v,b,rfl,_⟩:=h;rfl
 ·obtain⟨v,b,rfl,hv,k⟩:=h;refine⟨_,(Qg (QA (Qa5 (zB (D_facts_of.pe hr (by decide) rfl Qx (Qa (D_rows_of.pe hr (by decide) rfl Qx (Qa (pv 0) Qb)) Qb)))))),?_⟩;obtain⟨rows,hr1,hb⟩:∃rows,((∃l,v=.str (tx l)/\l.length<=500/\rows=rowsOf l)\/(QcO v H/\rows=[]))/\b=(JA rows).isSome:=by
   rcases hv with⟨l,rfl,hl,rfl⟩|⟨hv,rfl⟩
   ·exact⟨_,.inl ⟨l,rfl,hl,rfl⟩,rfl⟩
   ·exact⟨[],.inr ⟨hv,rfl⟩,by rw[xO];rfl⟩
  refine⟨_,rfl,v,rows,rfl,hr1,fun p rs H1 S1 R1=>⟨p,rs,rows,rfl,R1,fun v2 H2 S2 f2=>?_⟩⟩;show Q (.bl (!decide (v2=.non))) H2;rw[f2.isN,Bool.not_not, ←hb];exact k H2 (S1.trans S2)
def qa(K:PySem.W.Frag)(c:Nat->Addr):Sp:=fun vs H Q E=>∃l:List Nat,vs=[.str (tx l)]/\l.length<=500/\(ZP l=none->∀H',Qk H H'->E (.ref (c 1)) none H')/\
 (∀x,ZP l=some x->∀q p rs r H',Qk H H'->H' q=some (.tup [.ref p,.ref r])->H' r=some (fO x)->RowsAt K H' p rs (rowsOf l)->Q (.ref q) H')
theorem Yr(F:Fun K "understood" "understood" Zx f fd)(T:Txt K mg tk c kr)(D_rows_of:Def P w K mg base 4 "rows_of" ["thing"] (ja K))(D_facts_of:Def P w K mg base 5 "facts_of" ["rows"] (JP K JA)):
  FnOk P w K mg base (CXE P w) 6 f fd ["picture"] (qa K c):=by
 refine okE F ZQ (fun vs H Q E h=>?_) (fun cdv A outer s H vs Q E hr h=>?_)
 ·obtain⟨l,rfl,_⟩:=h;rfl
 ·obtain⟨l,rfl,hl,k1,k2⟩:=h;have hz:1000<=sizeLine:=by decide
  have fr:=KI (P:=P) (w:=w) (K:=K) (mg:=mg) (base:=base) (N:=["picture","rows","facts"]) (qual:="understood") (scope:=Qf Zx) (f:=f) (cd:=cdv) (A:=A) (outer:=outer) (s:=s) (H:=H) (E:=E);have ht:=Kg fr;have hx:=JH fr;refine⟨_,(Qe (QC (i:=1) ZQ.nd rfl (Or.inl rfl) (D_rows_of.pe hr (by decide) rfl hx (Qa (pv 0) Qb)))
   (Qe (QC (i:=2) ZQ.nd rfl (Or.inl rfl) (D_facts_of.pe hr (by decide) rfl hx (Qa (pv 1) Qb)))
   (Qe (QY (XC (K6 (pv 2))) (Qg (Wu ht rfl rfl T.m_NoPicture T.e_NoPicture (Qa Qm Qb))) QD)
   (Qg (QA (Qz (Qa (pv 1) (Qa (pv 2) Qb)))))))),?_⟩
  refine⟨_,rfl,_,rowsOf l,rfl,.inl ⟨l,rfl,hl,rfl⟩,fun p rs H1 S1 R1=>⟨_,rfl,p,rs,rowsOf l,rfl,R1,fun v2 H2 S2 f2=>?_⟩⟩;refine⟨_,rfl,_,rfl,?_⟩;rw[f2.isN];cases e:JA (rowsOf l)with
  |none=>exact QH ⟨by show 1<=sizeLine;omega,k1 e _ (S1.trans S2)⟩
  |some x=>
   rw[e]at f2;obtain⟨r,rfl,g⟩:=f2;refine QG ⟨_,rfl,_,rfl,by show 2<=sizeLine;omega,fun q hq=>?_⟩;have S3:=Qk.new (o:=.tup [.ref p,.ref r]) hq;exact k2 x e q p rs r _ ((S1.trans S2).trans S3) Qc (S3 _ _ g) ((R1.same S2).same S3)
end
end Lw
namespace K04
open PySem PySem.NumText K02
theorem QbA(t:List Nat):(QO t).2.length<=t.length:=by
 unfold QO
 split
 ·split
  ·show(List.drop _ _).length<=_;rw[List.length_drop,List.length_cons];omega
  ·exact Nat.le_refl _
 ·exact Nat.le_refl _
theorem QcT{t:List Nat}(h:t.head?≠some 40):QO t=(1,t):=by
 unfold QO
 split
 ·exact absurd rfl h
 ·rfl
theorem Qaa:∀(k k':Nat)(l:List Nat)(rows:List Rw),l.length<=k->l.length<=k'->Wf k l rows=Wf k' l rows:=by
 intro k
 induction k with
 |zero=>
  intro k' l rows h h';cases l with
  |nil=>cases k'<;>rfl
  |cons a r=>simp at h
 |succ k ih=>
  intro k' l rows h h';cases l with
  |nil=>cases k'<;>rfl
  |cons c t=>
   cases k' with
   |zero=>simp at h'
   |succ k'=>
    have:=QbA t;rw[List.length_cons]at h h';exact ih k' _ _ (by omega) (by omega)
def run(l:List Nat)(rows:List Rw):List Rw:=Wf l.length l rows
theorem Qab(rows:List Rw):run [] rows=rows:=rfl
theorem jc(c:Nat)(t:List Nat)(rows:List Rw):run (c::t) rows=run (QO t).2 (Q1 rows c (QO t).1):=by
 show Wf t.length (QO t).2 (Q1 rows c (QO t).1)=_;exact Qaa _ _ _ _ (QbA t) (Nat.le_refl _)
theorem run_plain{c:Nat}{t:List Nat}(rows:List Rw)(h:t.head?≠some 40):run (c::t) rows=run t (Q1 rows c 1):=by
 rw[jc,QcT h]
def rle(rows:List Rw)(l:List Nat):List Rw:=l.foldl (fun r c=>Q1 r c 1) rows
theorem xP(rows:List Rw)(a b:List Nat):rle rows (a++b)=rle (rle rows a) b:=List.foldl_append
theorem Qac{c:Nat}{t:List Nat}(hc:c≠40)(h:t.head?≠some 40):∀(m:Nat)(rows:List Rw),run (List.replicate m c++t) rows=run t (rle rows (List.replicate m c)):=by
 intro m
 induction m with
 |zero=>intro rows;rfl
 |succ m ih=>
  intro rows;rw[List.replicate_succ,List.cons_append,run_plain,ih]
  ·rfl
  ·cases m with
   |zero=>exact h
   |succ m=>rw[List.replicate_succ,List.cons_append,List.head?_cons];exact fun z=>hc (Option.some.inj z)
theorem VI(rows:List Rw):rows=[]\/∃r c m,rows=r++[(c,m)]:=by
 rcases List.eq_nil_or_concat rows with h|⟨r,x,h⟩
 ·exact .inl h
 ·exact .inr ⟨r,x.1,x.2,by rw[h,List.concat_eq_append]⟩
theorem xQ(c n:Nat):Q1 [] c n=[(c,n)]:=rfl
theorem KS(rows:List Rw)(c n m:Nat):Q1 (rows++[(c,m)]) c n=rows++[(c,n+m)]:=by
 unfold Q1;rw[List.getLast?_concat];simp
theorem Ys{rows:List Rw}{c c' n m:Nat}(h:c'≠c):Q1 (rows++[(c',m)]) c n=(rows++[(c',m)])++[(c,n)]:=by
 unfold Q1;rw[List.getLast?_concat];simp[h]
theorem Qad(rows:List Rw)(c a b:Nat):Q1 (Q1 rows c a) c b=Q1 rows c (b+a):=by
 rcases VI rows with rfl|⟨r,c',m,rfl⟩
 ·rw[xQ,xQ];exact KS [] c b a
 ·by_cases h:c'=c
  ·subst h;rw[KS,KS,KS,Nat.add_assoc]
  ·rw[Ys h,Ys h,KS]
theorem Qae(c:Nat):∀(m:Nat)(rows:List Rw),rle rows (List.replicate (m+1) c)=Q1 rows c (m+1):=by
 intro m
 induction m with
 |zero=>intro rows;rfl
 |succ m ih=>
  intro rows;rw[List.replicate_succ];show rle (Q1 rows c 1) (List.replicate (m+1) c)=_;rw[ih,Qad]
theorem QbB{p:Nat->Bool}{a:List Nat}{c:Nat}{t:List Nat}(h:∀x∈a,p x=true) (hc:p c=false):(a++c::t).takeWhile p=a:=by
 induction a with
 |nil=>simp[hc]
 |cons x r ih=>
  rw[List.cons_append,List.takeWhile_cons,h x List.mem_cons_self,if_pos rfl,ih fun y hy=>h y (List.mem_cons_of_mem _ hy)]
def Num(d:List Nat)(n:Nat):Prop:=d≠[]/\AllDigits d/\d.head?≠some 48/\digitsVal d=n
theorem QbC{d:List Nat}{n:Nat}(h:Num d n)(t:List Nat):QO (40::(d++41::t))=(n,t):=by
 have e:(d++41::t).takeWhile (· !=41)=d:=QbB (fun x hx=>by have:=h.2.1 x hx;simp;omega) (by simp);show(if 41∈(d++41::t)/\_/\_/\_ then _ else _)=_;rw[e,if_pos ⟨by simp,h.1,h.2.1,h.2.2.1⟩,h.2.2.2]
 congr 1
 rw[←List.drop_drop,List.drop_left];rfl
theorem Qaf{c n:Nat}{d t:List Nat}(rows:List Rw)(h:Num d n):run (c::40::(d++41::t)) rows=run t (Q1 rows c n):=by
 rw[jc,QbC h]
inductive Sh:List Nat->List Nat->Prop
 |nil:Sh [] []
 |out {a b:List Nat} {c:Nat} (m:Nat):Sh a b->c≠40->Sh (a++List.replicate (m+1) c) (b++List.replicate (m+1) c)
 |brk {a b d:List Nat} {c:Nat} (m:Nat):Sh a b->c≠40->Num d (m+1)->Sh (a++List.replicate (m+1) c) (b++(c::40::(d++[41])))
theorem Sh.rows{a b:List Nat}(h:Sh a b):∀(t:List Nat)(rows:List Rw),t.head?≠some 40->run (b++t) rows=run t (rle rows a):=by
 induction h with
 |nil=>intro t rows _;rfl
 |@out a b c m _ hc ih=>
  intro t rows ht;rw[List.append_assoc,ih _ _ (by rw[List.replicate_succ,List.cons_append,List.head?_cons];exact fun z=>hc (Option.some.inj z)),Qac hc ht,xP]
 |@brk a b d c m _ hc hd ih=>
  intro t rows ht;have e:(c::40::(d++[41]))++t=c::40::(d++41::t):=by simp
  rw[List.append_assoc,ih _ _ (by rw[List.cons_append,List.head?_cons];exact fun z=>hc (Option.some.inj z)),e,Qaf _ hd,xP,Qae]
theorem xR{a b:List Nat}(h:Sh a b):rowsOf b=rle [] a:=by
 have:=h.rows [] [] (by simp);rw[List.append_nil,Qab]at this;exact this
theorem Qag:∀(a:List Nat),40∉a->Sh a a:=by
 have key:∀(l a:List Nat),40∉l->Sh a a->Sh (a++l) (a++l):=by
  intro l
  induction l with
  |nil=>intro a _ h;rw[List.append_nil];exact h
  |cons c t ih=>
   intro a hl h;have e:a++c::t=(a++List.replicate (0+1) c)++t:=by simp
   rw[e];exact ih _ (fun z=>hl (List.mem_cons_of_mem _ z)) (Sh.out 0 h fun z=>hl (by rw[z];exact List.mem_cons_self))
 intro a h;exact key a [] h .nil
section
variable {lead W N broken tail:List Nat}{first:Nat}
end
section
variable {lead W N broken tail:List Nat}{first:Nat}
end
open K02 PySem.NumText
def UK(c:Nat):Bool:= !([83,86]:List Nat).contains c
def szR(rows:List Rw):Nat:=((rows.filter fun x=>UK x.1).map (·.2)).sum
theorem qb(a b:List Rw):szR (a++b)=szR a+szR b:=by simp[szR]
theorem Yt(c n:Nat):szR [(c,n)]=if UK c=true then n else 0:=by
 unfold szR;rw[List.filter_cons]
 split<;>simp
theorem Qah(rows:List Rw)(c n:Nat):szR (Q1 rows c n)=szR rows+if UK c=true then n else 0:=by
 rcases VI rows with rfl|⟨r,c',m,rfl⟩
 ·rw[xQ,Yt];simp[szR]
 ·by_cases h:c'=c
  ·subst h;rw[KS,qb,qb,Yt,Yt]
   split<;>omega
  ·rw[Ys h,qb (r++[(c',m)]),Yt]
theorem Qai(l:List Nat):∀rows,szR (rle rows l)=szR rows+(l.filter UK).length:=by
 induction l with
 |nil=>intro rows;rfl
 |cons c t ih=>
  intro rows;show szR (rle (Q1 rows c 1) t)=_;rw[ih,Qah,List.filter_cons]
  split<;>simp<;>omega
theorem wZ(l:List Nat):szR (rle [] l)=(l.filter UK).length:=by rw[Qai];simp[szR]
end K04
namespace L2
open PySem PySem.Spec PyProof.Rows
open Builtin Builtin.Str
section
variable {X:Cx}
end
structure Bag(K:PySem.W.Frag)(H:Hp)(a t r:Addr)(ns:List Int)(c:Int):Prop where
 sq:SqL K H a (ns.map V.int)
 tw:∃rs,TownAt H t r c rs
 nat:a≠t
 nar:a≠r
 ln:ns.length<=63
section
variable {K:PySem.W.Frag}{H H':Hp}{a t r:Addr}{ns:List Int}{c c':Int}
theorem Bag.drawn(B:Bag K H a t r ns c)(A:Apart t r H H'){rs:List (Key × V)}(T:TownAt H' t r c' rs):Bag K H' a t r ns c':=
 ⟨A.seq B.sq B.nat B.nar,⟨rs,T⟩,B.nat,B.nar,B.ln⟩
theorem Bag.same(B:Bag K H a t r ns c)(e:Qk H H'):Bag K H' a t r ns c:=by
 obtain⟨rs,T⟩:=B.tw;exact⟨(Apart.of e).seq B.sq B.nat B.nar,⟨rs,T.same e⟩,B.nat,B.nar,B.ln⟩
theorem LawSt.bag{Pa:Addr}{q:Str}(S:LawSt H a t r Pa q ns c):Bag K H a t r ns c:=⟨S.sq,S.tw,S.nat,S.nar,S.ln⟩
theorem Bag.draw{σ:St}{i j:Nat}{n:Int}{tn:TE}{Q:VK}{E:XK}(B:Bag K H a t r ns c)(hi:σ[i]? =some (some (.ref a)))(hj:σ[j]? =some (some (.ref t)))(hn:∀R:VK,R (.int n) H->tn σ H R) (h0:0<n) (h1:n<1000000) (hc:c<100000)
  (k:∀(d:Nat)(H':Hp),(d:Int)<n->Bag K H' a t r ns (c+1)->Apart t r H H'->Q (.int d) H'):WI (WS K) [] E (QX (XL i) (QX (XL j) (QX tn Wq))) σ H Q:=by
 obtain⟨rs,T⟩:=B.tw;refine⟨_,hi,_,hj,hn _ ⟨a,t,r,ns,c,n,rs,rfl,B.sq,T,B.nat,B.nar,B.ln,hc,h0,h1,fun v rs' H' v0 v1 T' A'=>?_⟩⟩;obtain⟨d,rfl⟩:=Int.eq_ofNat_of_zero_le v0;exact k d H' v1 (B.drawn A' T') A'
theorem Bag.keep(B:Bag K H a t r ns c)(A:Apart t r H H'){b:Addr}{o:HO}(e:H b=some o)(n:∀kvs,o≠ .dK kvs):H' b=some o:=by
 obtain⟨rs,T⟩:=B.tw;refine A b o e (fun z=>?_) fun z=>?_
 ·rw[z,T.tw]at e;cases e;exact n _ rfl
 ·rw[z,T.rt]at e;cases e;exact n _ rfl
end
section
variable {X:Cx}
end
section
variable {X:Cx}{tg:Expr}
end
section
variable {X:Cx}
end
section
variable {X:Cx}
variable {o e:Expr}{es:List Expr}{to:TE}{t:TA}{name:Str}{apos cpos:Pos}{T id:String}{r:V->List V->Hp->VK->Prop}
end
theorem DefAt.QcU{P:Program}{w:World}{K:PySem.W.Frag}{mg:Str->Option Value}{base h:Heap}{x:Str}{st:Stmt}{k:Nat}{sp:Sp}{p1:Str}(D:DefAt K x st)(X:K.In h)(G:h.Ns mainGlobals mg)(hok:∀f fd,Fun K x x st f fd->FnOk P w K mg base (CXE P w) k f fd [p1] sp)
  (hb:∀(kV doc pm:Value)(an:Option Addr)(cdv ct:Value)(v:Value),bindArgs (PySem.W.fnOf x x (Jy st) (Q0 st) (Qf st) .none kV doc pm an cdv ct) ⟨[],[(p1,v)]⟩=pure [(p1,v)]):DefK0 P w K mg base k x p1 sp:=by
 obtain⟨f,fd,a,F⟩:=D.ex;refine⟨f,fd,PySem.W.mg_of X G a,F.kp,fun s v _=>?_,hok f fd F⟩;obtain⟨oc,od,kV,doc,pm,an,cdv,ct,osl,rfl,lk,hcd⟩:=F.ex;exact .of_eq (hb kV doc pm an cdv ct v)
end L2
namespace Lw
open PySem PySem.Spec PyProof.Rows L2 K02 K04
open Builtin Builtin.Str StrLaws
section
variable {P:Program}{w:World}{K:PySem.W.Frag}{mg:Str->Option Value}{base:Heap}{f:Addr}{fd:FuncData}{tk:Nat->Tok}{c kr:Nat->Addr}
theorem zb{p:Addr}{rs:List Addr}{rows:List Rw}{te:TE}{tt:TT}{NB:List Str}{n i:Nat}{σ:L2.St}{H:Hp}{Q:VK}(val:Rw->V)(ok:Rw->Bool)(hNB:NB.length=3)(hn:n=2)(hσ:σ[i]? =some (some (.ref p)))(R:RowsAt K H p rs rows)
  (htt:∀x∈rows,∀(H1:Hp)(R:Bool->Hp->Prop),R (ok x) H1->tt [none,some (.str (tx [x.1])),some (.int (x.2:Nat))] H1 R)
  (hte:∀x∈rows,∀(H1:Hp)(Q:VK),(∀H2,Qk H1 H2->Q (val x) H2)->te [none,some (.str (tx [x.1])),some (.int (x.2:Nat))] H1 Q)
  (hd:∀q H1,Qk H H1->H1 q=none->Q (.ref q) (upd H1 q (.lst ((rows.filter ok).map val)))):
  UX NB (yu K (XL i)) (Qa7 K n (UO (QJ 1) (UO (QJ 2) Qb8))) tt te σ H Q:=by
 have hz:1000<=sizeLine:=by decide
 have hl:=R.le;have hlen:=R.len;refine⟨_,hσ,p,rfl,⟨_,R.sq⟩,?_⟩;refine Ur (xs:=rs.map V.ref) (fun i vs H2=>Qk H H2/\vs=((rows.take i).filter ok).map val) ⟨Qk.refl H,rfl⟩ ?_ ?_ ?_ (by omega)
 ·rintro i vs H2 hi ⟨S,rfl⟩;exact⟨(R.same S).sq,by rw[List.length_map];exact Nat.le_trans (List.length_filter_le _ _) (by rw[List.length_take];omega)⟩
 ·rintro i x vs H2 hx ⟨S,rfl⟩;rw[List.getElem?_map]at hx;obtain⟨r,hr,rfl⟩:=Option.map_eq_some_iff.mp hx;obtain⟨y,hy,g⟩:=(R.same S).rw.at' hr;subst hn;rw[hNB];have hm:=List.mem_of_getElem? hy;have htk:(rows.take (i+1)).filter ok=(rows.take i).filter ok++if ok y=true then[y]else[]:=by
   rw[List.take_add_one,hy,List.filter_append]
   congr 1
   show List.filter ok [y]=_;rw[List.filter_cons];rfl
  refine⟨r,_,rfl,SqT.of g,rfl,_,_,rfl,_,_,rfl,rfl,?_⟩;refine htt y hm _ _ ?_;rw[htk];cases ok y with
  |true=>exact QH (hte y hm _ _ fun H3 S3=>⟨S.trans S3,by simp⟩)
  |false=>exact QG ⟨S,by simp⟩
 ·rintro vs H2 ⟨S,rfl⟩ q hq;rw[List.take_of_length_le (by omega)];exact hd q H2 S hq
structure PicAt(a l:List Nat)(x:Facts):Prop where
 pc:ZP l=some x
 sh:Sh a l
 no:40∉a
 la:a.length<=100
 ll:l.length<=500
def jd:Sp:=fun vs H Q _=>∃(a l:List Nat)(x:Facts),vs=[.str (tx l)]/\PicAt a l x/\∀H',Qk H H'->Q (.int ((a.filter UK).length:Nat)) H'
theorem zc(F:Fun K "size_of" "size_of" Kl f fd)(O:Own mg)(D_understood:Def P w K mg base 6 "understood" ["picture"] (qa K c)):FnOk P w K mg base (CXE P w) 7 f fd ["picture"] jd:=by
 refine okE F KL (fun vs H Q E h=>?_) (fun cdv A outer s H vs Q E hr h=>?_)
 ·obtain⟨a,l,x,rfl,_⟩:=h;rfl
 ·obtain⟨a,l,x,rfl,hp,k⟩:=h;have fr:=KI (P:=P) (w:=w) (K:=K) (mg:=mg) (base:=base) (N:=["picture","rows","facts"]) (qual:="size_of") (scope:=Qf Kl) (f:=f) (cd:=cdv) (A:=A) (outer:=outer) (s:=s) (H:=H) (E:=E);have hx:=JH fr;have hla:=hp.la;have e83:("S":Str)=tx [83]:=by decide+kernel
  have e86:("V":Str)=tx [86]:=by decide+kernel
  refine⟨_,(Qe (Ju (D_understood.pe hr (by decide) rfl hx (Qa (pv 0) Qb)) (Q8 rfl (Qj (Qh (i:=1) KL.nd rfl (Or.inl rfl)) (Qj (Qh (i:=2) KL.nd rfl (Or.inl rfl)) QK))))
   (Qg (QA (Ql (Ww rfl) rfl O.sum L2.boot_sum (Qa (JU (NB:=[".0","symbol","many"]) rfl ⟨rfl,by decide+kernel,by decide+kernel,by decide+kernel⟩ (JG (pv 1)) (fun _ _ _=>(Yn (K0:=K) (n:=2) rfl rfl (Qj (Qh (i:=1) (show([".0","symbol","many"]:List Str).Nodup by decide+kernel) rfl (Or.inl rfl) (Or.inr rfl)) (Qj (Qh (i:=2) (show([".0","symbol","many"]:List Str).Nodup by decide+kernel) rfl (Or.inl rfl) (Or.inr rfl)) QK)))) (fun _ _ _=>(V5 (PW.pt (Zl (Qi XA (pv 1) Qm (Qo _)) (J2 (Qi XA (pv 1) Qm (Qo _))))))) (fun _ _ _=>(pv 2))) Qb))))),?_⟩
  refine⟨_,rfl,l,rfl,hp.ll,(fun z=>by rw[hp.pc]at z;cases z),fun x2 e q p rs r H1 S1 g1 g2 R1=>?_⟩;refine⟨q,_,rfl,SqT.of g1,rfl,_,_,rfl,_,_,rfl,rfl,?_⟩;dsimp only[yt,tCB,QX,Wq];refine zb (p:=p) (rs:=rs) (rows:=rowsOf l) (fun x=>.int (x.2:Nat)) (fun x=>UK x.1) rfl rfl rfl R1 (fun x hx H1 R h=>?_) (fun x hx H1 Q h=>⟨_,rfl,h _ (Qk.refl _)⟩) (fun q H2 S hq=>?_)
  ·have hd:UK x.1=(!decide (x.1=83)&& !decide (x.1=86)):=by
    unfold UK
    by_cases z1:x.1=83<;>by_cases z2:x.1=86<;>simp[z1,z2]
   rw[hd]at h;refine⟨_,rfl,rfl,_,rfl,?_⟩;rw[e83,Zp];cases h1:decide (x.1=83)with
   |true=>rw[h1]at h;exact QG h
   |false=>
    rw[h1]at h;refine QH ⟨_,rfl,rfl,_,rfl,?_⟩;rw[e86,Zp];exact h
  ·have em:(((rowsOf l).filter fun x=>UK x.1).map fun x=>V.int (x.2:Nat))=(((rowsOf l).filter fun x=>UK x.1).map fun x=>((x.2:Nat):Int)).map V.int:=by rw[List.map_map];rfl
   have es:∀rows:List Rw,(rows.map fun x=>((x.2:Nat):Int)).sum=(((rows.map (·.2)).sum:Nat):Int):=by
    intro rows
    induction rows with
    |nil=>rfl
    |cons y r ih=>rw[List.map_cons,List.sum_cons,ih,List.map_cons,List.sum_cons];push_cast;rfl
   rw[em];refine⟨q,_,rfl,SqL.of Qc,?_⟩;rw[es];have:=wZ a;rw[←xR hp.sh]at this;unfold szR at this;rw[this];exact k _ (S1.trans (S.trans (Qk.new hq)))
end
end Lw
namespace L2
open PySem PySem.Spec PyProof.Rows
def qc(scope:Scope)(env:Env)(C:Addr):Env:=
 {scope:=relabel scope env,locals:=C,globals:=env.globals,cells:=Jf env.cells scope.names [],qual:=env.qual,func:=none,code:=env.code,frame:=env.frame,builtins:=env.builtins}
abbrev QW(X:Cx)(NB:List Str)(scope:Scope)(s:Shared)(H:Hp)(ex:List Addr):Cx:=
 {X with N:=NB,s₀:=s,H₀:=H,env:=qc scope X.env s.heap.objs.size,outer:=X.stack,ex:=ex,fn:=fun _=>false,pn:=[],xe:=fun _ _=>False}
structure BlkScopeF(NB FR:List Str)(scope:Scope):Prop where
 kind:scope.kind=.function
 nd:(NB++FR).Nodup
 nocell:∀y∈scope.names,y.2≠ .cell
 loc:∀y∈scope.names,y.2=.local->scope.names.lookup y.1=some .local
 nd2:(scope.names.map (·.1)).Nodup
 fr:∀y∈FR,(y,NameKind.free)∈scope.names
def VJ(n:Nat)(fi:List Nat)(wi:TI)(g:TG)(tt:TT)(te:TE):TE:=fun σ H Q=>wi σ H fun J H1=>∃fv:List V,fi.map (fun i=>σ[i]?)=fv.map (fun v=>some (some v))/\∃W:Nat->Nat->List V->Hp->Prop,(∃m,W 0 m [] H1)/\∀i m vs H,W i m vs H->
 (J.stop i H/\∀p,H p=none->Q (.ref p) (upd H p (.lst vs)))\/(J.go i H/\vs.length<sizeLine/\∃N:List V->Hp->Prop,(∀vs' H',N vs' H'->∃m',m'<m/\W (i+1) m' vs' H')/\
  ∀x H',J.yld i H x H'->g x (List.replicate n none++fv.map some) H' fun σ2 H2=>σ2.drop n=fv.map some/\tt σ2 H2 fun b H3=>if b=true then te σ2 H3 fun v H4=>N (vs++[v]) H4 else N vs H3)
def reF(env:Env)(x:Str × NameKind):Str × NameKind:=if(x.2==NameKind.free&&env.scope.kind==.function&&env.kindOf x.1==some .cell)then(x.1,NameKind.cell)else(x.1,x.2)
theorem je(env:Env){x:Str × NameKind}{y:Str}(h:y≠x.1)(l:List (Str × NameKind)):(reF env x::l).lookup y=l.lookup y:=by
 have hb:(y==x.1)=false:=beq_eq_false_iff_ne.mpr h;unfold reF
 split<;>rw[List.lookup_cons,hb]
theorem Wh{env:Env}{scope:Scope}{y:Str}(nd:(scope.names.map (·.1)).Nodup)(h:(y,NameKind.free)∈scope.names)(hk:(env.scope.kind==.function)=true)(hc:env.scope.names.lookup y=some .cell):(relabel scope env).names.lookup y=some .cell:=by
 have key:∀l:List (Str × NameKind),(l.map (·.1)).Nodup->(y,NameKind.free)∈l->(l.map (reF env)).lookup y=some .cell:=by
  intro l
  induction l with
  |nil=>intro _ h;cases h
  |cons z r ih=>
   intro nd h;rw[List.map_cons,List.nodup_cons]at nd;rw[List.map_cons];rcases List.mem_cons.mp h with h|h
   ·subst h;have e:(env.kindOf y==some NameKind.cell)=true:=by rw[show env.kindOf y=env.scope.names.lookup y from rfl,hc];rfl
    have e2:reF env (y,NameKind.free)=(y,NameKind.cell):=by unfold reF;rw[if_pos (by rw[hk,e];rfl)]
    rw[e2,List.lookup_cons,beq_self_eq_true]
   ·have hne:y≠z.1:=fun q=>nd.1 (by rw[←q];exact List.mem_map.mpr ⟨_,h,rfl⟩);rw[je env hne];exact ih nd.2 h
 exact key scope.names nd h
theorem Wi{env:Env}{scope:Scope}{y:Str}(nc:∀y∈scope.names,y.2≠ .cell) (h:(relabel scope env).names.lookup y=some .cell\/(relabel scope env).names.lookup y=some .free):(y,NameKind.free)∈scope.names:=by
 have key:∀l:List (Str × NameKind),(∀y∈l,y.2≠ .cell)->((l.map (reF env)).lookup y=some .cell\/(l.map (reF env)).lookup y=some .free)->(y,NameKind.free)∈l:=by
  intro l
  induction l with
  |nil=>intro _ h;rcases h with h|h<;>simp at h
  |cons z r ih=>
   intro nc h;have hk:z.2≠ .cell:=nc z List.mem_cons_self;rw[List.map_cons]at h
   by_cases hn:y=z.1
   ·obtain⟨n,k⟩:=z;have hn:y=n:=hn;subst hn;have hf:k=.free:=by
     cases k with
     |cell=>exact absurd rfl hk
     |free=>rfl
     |_=>
      have e2:∀q:NameKind,(q==NameKind.free)=false->reF env (y,q)=(y,q):=fun q hq=>by unfold reF;rw[if_neg (by rw[show((y,q).2==NameKind.free)=false from hq];simp)]
      rw[e2 _ rfl,List.lookup_cons,beq_self_eq_true]at h;rcases h with h|h<;>cases h
    rw[hf];exact List.mem_cons_self
   ·rw[je env hn]at h;exact List.mem_cons_of_mem _ (ih (fun y hy=>nc y (List.mem_cons_of_mem _ hy)) h)
 exact key scope.names nc h
theorem XG:∀(l:List (Str × NameKind))(n:Nat)(acc:List (Str × Addr)),(∀y∈l,y.2≠ .cell)->cellsFrom n l acc=acc
 |[],_,_,_=>rfl
 |(x,k)::r,n,acc,h=>by
  have hk:(k==NameKind.cell)=false:=beq_eq_false_iff_ne.mpr (h (x,k) List.mem_cons_self);unfold cellsFrom;rw[hk];exact XG r n acc fun y hy=>h y (List.mem_cons_of_mem _ hy)
theorem XH:∀(l:List (Str × NameKind))(h:Heap),(∀y∈l,y.2≠ .cell)->pushCells h l=h
 |[],_,_=>rfl
 |(x,k)::r,h,hn=>by
  have hk:(k==NameKind.cell)=false:=beq_eq_false_iff_ne.mpr (hn (x,k) List.mem_cons_self);unfold pushCells;rw[hk];exact XH r h fun y hy=>hn y (List.mem_cons_of_mem _ hy)
theorem Xe{M:Model}{A:Around}{E:Value->Shared->Prop}{s:Shared}{scope:Scope}{globals:Addr}{qual:Str}{env:Env}{cl:List (Str × Addr)}{Q:Env->Shared->Prop}(hk:scope.kind=.function)(hn:∀y∈scope.names,y.2≠ .cell)
  (hQ:∀cenv s',cenv={scope:=scope,locals:=s.heap.objs.size,globals:=globals,cells:=cl,qual:=qual,func:=none,code:=env.code,frame:=env.frame,builtins:=env.builtins}->
   InCall s s.heap.objs.size (fun _=>none) s'->Q cenv s'):
  wpAny M A (newFunctionEnv scope globals cl [] qual none .none (some env)) Q E s:=by
 simp only[newFunctionEnv,Option.isSome_some,if_true];refine wpAny_bind (wpAny_alloc ?_);refine wpAny_bind (wpAny_layCells _ (fun name kind cells=>by cases hkc:kind==NameKind.cell<;>simp[hkc]) _ _ _ _ ?_);rw[XG _ _ _ hn,XH _ _ hn];refine wpAny_bind (wpAny_pure (wpAny_pure (hQ _ _ rfl ?_)));exact⟨⟨_,_,rfl⟩,Heap.Ns.new s.heap (.type "dict"),fun b o e=>Heap.get?_push_of_some _ e,Nat.le_refl _⟩
section
variable {X:Cx}
theorem xS{elt tg iter:Expr}{ifs:List Expr}{scope:Scope}{pos:Pos}{NB FR:List Str}{fi:List Nat}{wi:TI}{g:TG}{tt:TT}{te:TE}(hc:X.calm=true)(S:BlkScopeF NB FR scope)(hfree:qU scope X.env.scope=true)(hfi:fi.map (fun i=>X.N[i]?)=FR.map some) (hi:PI X tg iter wi)
  (hg:∀s H ex,PG (QW X (NB++FR) scope s H ex) tg g) (ht:∀s H ex,PTs (QW X (NB++FR) scope s H ex) ifs tt) (he:∀s H ex,PE (QW X (NB++FR) scope s H ex) elt te)
  (hs:∀x,foldedSetIterable iter X.env x=pure x:=by intro _;rfl):PE X (.ListComp elt [⟨tg,iter,ifs,0⟩] scope pos) (VJ NB.length fi wi g tt te):=by
 intro pins s σ H Q I h;have hfc:∀y∈scope.names,y.2=.free->X.env.scope.names.lookup y.1=some .cell:=WT hfree;have hasF:∀y∈scope.names,y.2=.free->∃c,X.env.cells.lookup y.1=some c:=fun y hy e=>I.ok.has y.1 (.inl (hfc y hy e));have clook:∀y c,(Jf X.env.cells scope.names []).lookup y=some c->X.env.cells.lookup y=some c:=fun y c e=>Ki scope.names [] hasF (fun z=>nomatch z) e;rw[eval_ListComp];refine wpAny_comprehension_free (use:=none) (cl:=Jf X.env.cells scope.names []) rfl hs (Zb hasF) S.kind S.loc (thn (hi pins s σ H _ I h) fun v s1 h1=>thn h1 fun itv s2 h2=>?_);obtain⟨it,fp,tn,J,H2,e,I2,T,st2,f2,fv,hfv,W,⟨m0,w0⟩,turn⟩:=h2;subst e;refine wpAny_newObj_type ?_;have up2:∀b o,s2.heap.get? b=some o->(s2.heap.push {cls:=.type "list",data:=.seq ([]:List Value).toArray}).get? b=some o:=fun b o e=>Heap.get?_push_of_some _ e;have I3:Inv X pins σ H2 {s2 with heap:=s2.heap.push {cls:=.type "list",data:=.seq ([]:List Value).toArray}}:=I2.kept (t':=s2.toks) up2;have st3:tn 0 (s2.heap.push {cls:=.type "list",data:=.seq ([]:List Value).toArray}):=T.keep _ _ _ st2 fun b _ o e=>up2 b o e;have hD3:(s2.heap.push {cls:=.type "list",data:=.seq ([]:List Value).toArray}).get? s2.heap.objs.size=some (Zw []):=Heap.get?_push_size _ rfl;have hD2:H2 s2.heap.objs.size=none:=I2.hok.fresh (Nat.le_refl _);have lt2:∀b o,s2.heap.get? b=some o->b≠s2.heap.objs.size:=fun b o e=>Nat.ne_of_lt (Heap.lt_size e);have fpO:∀b∈fp,∃o,s2.heap.get? b=some o:=fun b hb=>let ⟨o,e,_⟩:=T.obj _ _ st2 b hb;⟨o,e⟩;have hDs0:X.s₀.heap.objs.size<=s2.heap.objs.size:=I2.sz;have hDL:s2.heap.objs.size≠X.env.locals:=Nat.ne_of_gt I2.lt;have hDC:∀x c,X.env.cells.lookup x=some c->c≠s2.heap.objs.size:=fun x c e=>let ⟨v,o,e1,_⟩:=I2.cell x c e;lt2 c o e1;have hDp:∀p∈X.pn++pins,p.1≠s2.heap.objs.size:=fun p hp=>lt2 p.1 _ (I2.pin p hp).1;have hDf:s2.heap.objs.size∉frs X.stack:=fun z=>let ⟨o,e,_⟩:=(I2.stack.mem z).2;lt2 _ o e rfl;generalize hS3:({s2 with heap:=s2.heap.push {cls:=.type "list",data:=.seq ([]:List Value).toArray}}:Shared)=s3 at I3 ⊢;have hh3:s3.heap=s2.heap.push {cls:=.type "list",data:=.seq ([]:List Value).toArray}:=by rw[←hS3]
 rw[←hh3]at st3 hD3 up2;generalize s2.heap.objs.size=D at hD3 hD2 lt2 hDs0 hDL hDC hDp hDf ⊢;refine Xe S.kind S.nocell fun cenv s4 hce x4=>?_;subst hce;have lt3:∀b o,s3.heap.get? b=some o->b<s3.heap.objs.size:=fun b o e=>Heap.lt_size e;have fp3:∀b∈fp,b<s3.heap.objs.size:=fun b hb=>let ⟨o,e⟩:=fpO b hb;lt3 b o (up2 b o e);have dl3:D<s3.heap.objs.size:=lt3 D _ hD3;have DfpN:∀b∈fp,b≠D:=fun b hb=>let ⟨o,e⟩:=fpO b hb;lt2 b o e;obtain⟨h4,tk4,rfl,hk4⟩:=x4.done;have bsN:∀b o,X.base.get? b=some o->b∉D::fp:=fun b o e hb=>by
  rcases List.mem_cons.mp hb with rfl|hb
  ·exact absurd (Nat.lt_of_lt_of_le (Heap.lt_size (I2.ok.bs b o e).1) hDs0) (Nat.lt_irrefl _)
  ·obtain⟨_,_,_,f3,_⟩:=f2 b hb;rcases f3 with z|z
   ·exact I2.ok.noex b o e z
   ·exact absurd (Nat.lt_of_lt_of_le (Heap.lt_size (I2.ok.bs b o e).1) z) (Nat.lt_irrefl _)
 have exF:∀b∈D::fp,b∉frs X.stack:=fun b hb hf=>by
  rcases List.mem_cons.mp hb with rfl|hb
  ·exact hDf hf
  ·obtain⟨_,f1,f2',_⟩:=f2 b hb;rcases List.mem_cons.mp (I2.XB b hf)with z|z
   ·exact f1 z
   ·exact f2' z
 have ccl:∀y c,(Jf X.env.cells scope.names []).lookup y=some c->(∃v,s3.heap.IsCell c v)/\H2 c=none/\c≠D/\∀b∈fp,c≠b:=fun y c e=>by
  have e':=clook y c e;exact⟨I3.cell y c e',I3.freeC y c e',hDC y c e',fun b hb=>(f2 b hb).2.2.2.2.1 y c e'⟩
 have clt:∀y c,(Jf X.env.cells scope.names []).lookup y=some c->c<s3.heap.objs.size:=fun y c e=>let ⟨⟨v,o,ho,_⟩,_⟩:=ccl y c e;lt3 c o ho;have exLt:∀b∈D::fp,b<s3.heap.objs.size:=fun b hb=>by
  rcases List.mem_cons.mp hb with rfl|hb
  ·exact dl3
  ·exact fp3 b hb
 have okB:(QW X (NB++FR) scope s3 H2 (D::fp)).Ok:=by
  refine⟨I3.ok.mod,S.kind,I3.ok.glob,I3.ok.blt,Nat.le_refl _,fun y z c h1 h2=>?_,fun y hy=>?_,(fun y c z _=>nomatch z),I3.ok.hd,I3.ok.frames,.inl rfl,fun b hb=>⟨Nat.ne_of_lt (exLt b hb),fun y c e z=>?_⟩,I3.bs,Nat.le_trans I3.ok.bsz I3.sz,bsN,exF,I3.stack,I3.Z1⟩
  ·exact I3.ok.inj y z c (clook y c h1) (clook z c h2)
  ·exact ZO scope.names [] (.inr (Wi S.nocell hy))
  ·obtain⟨_,_,n1,n2⟩:=ccl y c e;rcases List.mem_cons.mp hb with q|q
   ·exact n1 (z.trans q)
   ·exact n2 b q z
 have hlen0:(List.replicate NB.length (none:Option V)++fv.map some).length=(NB++FR).length:=by
  have h1:=congrArg List.length hfv;have h2:=congrArg List.length hfi;simp only[List.length_map]at h1 h2;rw[List.length_append,List.length_append,List.length_replicate,List.length_map];omega
 have rep:∀(j:Nat)(v:V),(List.replicate NB.length (none:Option V)++fv.map some)[j]? =some (some v)->∃k,j=NB.length+k/\fv[k]? =some v:=fun j v z=>by
  rw[List.getElem?_append]at z
  split at z
  ·rw[List.getElem?_replicate]at z
   split at z<;>cases z
  ·rename_i hj;rw[List.length_replicate]at hj z;refine⟨j-NB.length,by omega,?_⟩;rw[List.getElem?_map]at z;cases e:fv[j-NB.length]? with
   |none=>rw[e]at z;cases z
   |some y=>rw[e]at z;exact congrArg some (Option.some.inj (Option.some.inj z))
 have fvAt:∀(k:Nat)(v:V)(y:Str),fv[k]? =some v->FR[k]? =some y->∃i,X.N[i]? =some y/\σ[i]? =some (some v):=fun k v y h1 h2=>by
  have a1:=congrArg (fun l=>l[k]?) hfv;have a2:=congrArg (fun l=>l[k]?) hfi;simp only[List.getElem?_map,h1,h2]at a1 a2;cases e:fi[k]? with
  |none=>rw[e]at a1;cases a1
  |some i=>
   rw[e]at a1 a2;exact⟨i,Option.some.inj a2,Option.some.inj a1⟩
 have IB:Inv (QW X (NB++FR) scope s3 H2 (D::fp)) [(D,Zw [])] (List.replicate NB.length none++fv.map some) H2 {s3 with heap:=h4,toks:=tk4}:=by
  refine⟨okB,rfl,I3.bare,Un.kept hk4,⟨_,x4.ns,fun i y v h1 h2 h3=>?_⟩,fun y c h=>let ⟨⟨v,o,ho,hd⟩,_⟩:=ccl y c h;⟨v,o,hk4 _ _ ho,hd⟩,I3.hok.fresh (Nat.le_refl _),fun y c h=>(ccl y c h).2.1,fun p hp=>?_,I3.hok.kept hk4,hlen0⟩
  ·obtain⟨k,rfl,hk⟩:=rep i v h2;have hy:FR[k]? =some y:=by
    have h1:(NB++FR)[NB.length+k]? =some y:=h1;rw[List.getElem?_append_right (Nat.le_add_right _ _),Nat.add_sub_cancel_left]at h1;exact h1
   obtain⟨io,hN,hσ⟩:=fvAt k v y hk hy;have hfr:(y,NameKind.free)∈scope.names:=S.fr y (List.mem_of_getElem? hy);obtain⟨m,_,hl⟩:=I3.loc;obtain⟨u,r,l⟩:=hl io y v hN hσ (.inr (.inl (hfc _ hfr rfl)));refine⟨u,r,.inr ⟨.inl ?_,?_⟩⟩
   ·exact Wh S.nd2 hfr (by show(X.env.scope.kind==.function)=true;rw[I3.ok.kind];rfl) (hfc _ hfr rfl)
   ·obtain⟨c,hc1⟩:=ZO (cells:=X.env.cells) (x:=y) scope.names [] (.inr hfr);refine⟨c,hc1,?_⟩;have hc2:=clook y c hc1;rcases l with⟨hk,_⟩|⟨_,c',hc',o,ho,hd⟩
    ·have e1:=hfc _ hfr rfl;rw[show X.env.kindOf y=X.env.scope.names.lookup y from rfl]at hk;rw[hk]at e1;cases e1
    ·rw[hc2]at hc';cases hc';exact⟨o,hk4 _ _ ho,hd⟩
  obtain rfl:p=(D,Zw []):=by simpa using hp
  exact⟨hk4 _ _ hD3,hD2,Nat.ne_of_lt dl3,hDf,fun v z=>nomatch z⟩
 have stat:∀{H':Hp}{ys:List Value},(∀b∈fp,H' b=none)->∀b∈fp,jC (QW X (NB++FR) scope s3 H2 (D::fp)) [(D,Zw ys)] H' b:=fun hn b hb=>
  ⟨hn b hb,Nat.ne_of_lt (fp3 b hb),exF b (List.mem_cons_of_mem _ hb),.inl (List.mem_cons_of_mem _ hb),fun y c e z=>(ccl y c e).2.2.2 b hb z,fun p hp=>by
    obtain rfl:p=(D,_):=by simpa using hp
    exact(DfpN b hb).symm⟩
 have st4:tn 0 h4:=T.keep _ _ _ st3 fun b _ o e=>hk4 b o e;have fr4:∀b∈fp,H2 b=none:=fun b hb=>(f2 b hb).1;have hcB:(QW X (NB++FR) scope s3 H2 (D::fp)).calm=true:=hc;have loop:codeAny (model X.prog X.w) X.A (.compLoop (.ListComp elt [⟨tg,iter,ifs,0⟩] scope pos) 0 (.ref it) (.ref D) (qc scope X.env s3.heap.objs.size))
   (compPost (model X.prog X.w) X.A X.xe none (EP X pins σ Q) (.ref D) s3.heap.objs.size) {s3 with heap:=h4,toks:=tk4}:=by
  refine Kj (fun n s'=>∃i vs ys H',Inv (QW X (NB++FR) scope s3 H2 (D::fp)) [(D,Zw ys)] (List.replicate NB.length none++fv.map some) H' s'/\Vals vs ys/\vs.length<=sizeLine/\tn i s'.heap/\(∀b∈fp,H' b=none)/\W i n vs H') ?_ m0 ⟨0,[],[],H2,IB,.nil,Nat.zero_le _,st4,fr4,w0⟩;rintro n s5 ⟨i,vs,ys,H5,I5,rv,hvl,st5,fr5,w5⟩;rcases turn i n vs H5 w5 with⟨stop,qn⟩|⟨go,hlt,N,hN,step⟩
  ·refine wpAny_mono (T.done (QW X (NB++FR) scope s3 H2 (D::fp)) rfl rfl rfl hcB i _ s5 _ H5 (fun _ _=>False) I5 (stat fr5) st5 stop) (fun r s6⟨hr,I6⟩=>?_) (fun _ _ z=>z.elim);subst hr;obtain⟨m6,hn6,_⟩:=id I6.loc;refine⟨m6,hn6,fun h7 sb7=>?_⟩;have kp7:∀b o,b≠s3.heap.objs.size->s6.heap.get? b=some o->h7.get? b=some o:=fun b o hb e=>(sb7.2 b hb).trans e;have hC6:H5 s3.heap.objs.size=none:=I6.free;have un7:Un (frs X.stack) (D::fp) H2 H5 s3.heap h7:=by
    have u:=I6.base;refine⟨fun b o e n hb hx=>kp7 b o (Nat.ne_of_lt (Heap.lt_size e)) (u.keep b o e n hb hx),fun b o e n hb hx=>?_,u.free,fun b o e hx=>?_,u.Wz,u.frzs,u.tbls⟩
    ·obtain⟨sl,q⟩:=u.slot b o e n hb hx;exact⟨sl,kp7 b _ (Nat.ne_of_lt (Heap.lt_size e)) q⟩
    ·obtain⟨o',q⟩:=u.there b o e hx;exact⟨o',kp7 b _ (Nat.ne_of_lt (Heap.lt_size e)) q⟩
   have hok7:HOk X.prog X.w H5 h7:=fun b u e=>(I6.hok b u e).UN (fun c w' hcc q=>kp7 c w' (by
    rintro rfl;rcases hcc with rfl|hcc
    ·rw[hC6]at e;cases e
    ·rw[hC6]at hcc;cases hcc) q) (fun _ q=>q) fun _ _ q=>q
   have I7:Inv X pins σ H5 {s6 with heap:=h7}:=I3.jB (s':={s6 with heap:=h7}) I6.os un7 hok7 I6.bare fun b hb=>by
    rcases List.mem_cons.mp hb with rfl|hb
    ·exact⟨.inr hDs0,hDL,hDC,hDp⟩
    ·obtain⟨_,f1,_,f3,f4,f5⟩:=f2 b hb;exact⟨f3,f1,f4,f5⟩
   obtain⟨eD,nD,_⟩:=I6.pin (D,Zw ys) (by simp);have nD':H5 D=none:=nD;have eD':h7.get? D=some (Zw ys):=kp7 D _ (Nat.ne_of_lt dl3) eD;have hD0:X.s₀.heap.get? D=none:=by
    cases q:X.s₀.heap.get? D with
    |none=>rfl
    |some o=>exact absurd (Nat.lt_of_lt_of_le (Heap.lt_size q) hDs0) (Nat.lt_irrefl _)
   exact⟨.ref D,upd H5 D (.lst vs),I7.xg nD' hD0 hDL hDC hDp ⟨hvl,ys,ys.length,rv,eD'⟩,rfl,qn D nD'⟩
  ·refine wpAny_mono (T.item (QW X (NB++FR) scope s3 H2 (D::fp)) rfl rfl rfl hcB i _ s5 _ H5 (fun _ _=>False) I5 (stat fr5) st5 go) (fun r s6⟨u,hr,h6⟩=>?_) (fun _ _ z=>z.elim);subst hr;refine wpAny_mono h6 (fun _ s7⟨x,H7,I7,r7,y7,st7,fr7⟩=>?_) (fun _ _ z=>z.elim);have I7':=I7.pinned (stat fr7) (T.obj _ _ st7);refine wpAny_mono (hg s3 H2 (D::fp) _ s7 _ H7 x u _ I7' r7 (step x H7 y7)) (fun _ s8⟨σ8,H8,I8,hk8,q8⟩=>?_) (fun _ _ z=>z.elim);refine wpAny_mono (ht s3 H2 (D::fp) _ s8 σ8 H8 _ I8 q8) (fun ok s9⟨H9,I9,q9⟩=>?_) (fun _ _ z=>z.elim);have fpK:∀{σ':St}{H':Hp}{s':Shared},Inv (QW X (NB++FR) scope s3 H2 (D::fp)) ([(D,Zw ys)]++K9 fp s7.heap) σ' H' s'->tn (i+1) s'.heap/\∀b∈fp,H' b=none:=fun J=>
    ⟨T.keep _ _ _ st7 fun b hb o e=>(J.pin (b,o) (List.mem_append_right _ (List.mem_append_right _ (Ja hb e)))).1,fun b hb=>by
     obtain⟨o,e,d⟩:=T.obj _ _ st7 b hb;exact(J.pin (b,o) (List.mem_append_right _ (List.mem_append_right _ (Ja hb e)))).2.1⟩
   have wk:∀{H':Hp}{s':Shared}{pl:List (Addr × Obj)},Inv (QW X (NB++FR) scope s3 H2 (D::fp)) pl σ8 H' s'->Inv (QW X (NB++FR) scope s3 H2 (D::fp)) pl (List.replicate NB.length none++fv.map some) H' s':=fun J=>
    J.weak (hlen0.trans J.len.symm) fun j v z=>by
     obtain⟨k,rfl,hk⟩:=rep j v z;have:=congrArg (fun l=>l[k]?) hk8;simp only[List.getElem?_drop,List.getElem?_map,hk]at this;exact this
   cases ok with
   |false=>
    rw[if_neg (by decide)]at q9;rw[if_neg (by decide)];obtain⟨m',hm,w9⟩:=hN vs H9 q9;obtain⟨t9,f9⟩:=fpK I9;exact⟨m',hm,i+1,vs,ys,H9,wk I9.Jx,rv,hvl,t9,f9,w9⟩
   |true=>
    rw[if_pos rfl]at q9;rw[if_pos rfl];refine wpAny_mono (he s3 H2 (D::fp) _ s9 σ8 H9 _ I9 q9) (fun y s10⟨v,H10,I10,rv10,q10⟩=>?_) (fun _ _ z=>z.elim);obtain⟨eD,nD,_,nf,_⟩:=I10.pin (D,Zw ys) (by simp);have hyl:=rv.length;refine append_at (hsz:=by show ys.toArray.size<=sizeLine;rw[List.size_toArray, ←hyl];exact hvl) eD fun h11 sb11 hD11=>?_;obtain⟨m',hm,w11⟩:=hN (vs++[v]) H10 q10;obtain⟨t10,f10⟩:=fpK I10;have I10u:=I10.Jx;have k11:∀b o,b≠D->s10.heap.get? b=some o->h11.get? b=some o:=fun b o hb e=>(sb11.2 b hb).trans e;have IE:Inv (QW X (NB++FR) scope s3 H2 (D::fp)) [] σ8 H10 s10:=I10u.ZC fun p hp=>nomatch hp;have I11:Inv (QW X (NB++FR) scope s3 H2 (D::fp)) [] σ8 H10 {s10 with heap:=h11}:=IE.turned (t':=s10.toks) k11 nD (Nat.ne_of_lt dl3) (.inl List.mem_cons_self) (fun y' c e z=>(ccl y' c e).2.2.1 z) (fun p hp=>absurd (show p∈([]:List (Addr × Obj))from hp) (by simp));have eL:({cls:=.type "list",data:=.seq (ys.toArray.push y) (ys.length+1)}:Obj)=Zw (ys++[y]):=by
     show({cls:=.type "list",data:=.seq (ys.toArray.push y) (ys.length+1)}:Obj)={cls:=.type "list",data:=.seq (ys++[y]).toArray (ys++[y]).length};rw[List.length_append,List.length_singleton,List.push_toArray]
    refine⟨m',hm,i+1,vs++[v],ys++[y],H10,wk (I11.ZC fun p hp=>?_),rv.append (.cons rv10 .nil),by rw[List.length_append,List.length_singleton];exact hlt,T.keep _ _ _ t10 fun b hb o e=>k11 b o (DfpN b hb) e,f10,w11⟩;obtain rfl:p=(D,Zw (ys++[y])):=by simpa using hp
    exact⟨by rw[←eL];exact hD11,nD,Nat.ne_of_lt dl3,nf,fun v z=>nomatch z⟩
 exact codeAny_compStart_list loop (T.self _ 0 _ _ _ st4 loop)
end
open Builtin Builtin.Str
section
variable {X:Cx}{pins:List (Addr × Obj)}{σ:List (Option V)}{H:Hp}{s:Shared}{h':Heap}
theorem Inv.Qaj{t':Nat}{ch:List Addr}(I:Inv X pins σ H s)(hf:∀b∈ch,jC X pins H b) (k:∀b o,b∉ch->s.heap.get? b=some o->h'.get? b=some o):Inv X pins σ H {s with heap:=h',toks:=t'}:=by
 have nit:∀b u,H b=some u->b∉ch:=fun b u e z=>by rw[(hf b z).1]at e;cases e
 refine I.step (g':=s.gens) (d':=s.drawn) (ch:=ch) (fun b hb=>?_) (fun b o _ _ hc e _=>k b o hc e) (fun b o _ _ hc e _=>⟨o.slots,k b o hc e⟩) (fun _ _ _ _ n=>n) (fun b o hc e=>⟨o,k b o hc e⟩) (fun _ _ e=>e) (fun _ _ _ e=>e) (fun b ps e=>⟨#[],by rw[e];simp⟩) (fun m hm=>?_) (fun b u e=>?_) I.bare
 ·obtain⟨_,f1,_,f3,f4,f5⟩:=hf b hb;exact⟨f3,f1,f4,f5⟩
 ·obtain⟨o,es,ep,ho,r⟩:=hm;exact⟨o,es,ep,k _ o (fun z=>(hf _ z).2.1 rfl) ho,r⟩
 ·refine(I.hok b u e).UN (fun c v hc q=>k c v ?_ q) (fun _ q=>q) fun _ _ q=>q;rcases hc with z|z
  ·rw[z];exact nit b u e
  ·exact nit c _ z
theorem Inv.Qak{t':Nat}{ch:List Addr}{T:Addr}{xs:List V}(I:Inv X pins σ H s)(hf:∀b∈ch,jC X pins H b) (k:∀b o,b∉ch->s.heap.get? b=some o->h'.get? b=some o) (hT:s.heap.objs.size<=T)
  (new:Jd X.prog X.w (upd H T (.tup xs)) h' T (.tup xs)):Inv X pins σ (upd H T (.tup xs)) {s with heap:=h',toks:=t'}:=by
 have hn:=I.hok.fresh hT;have nit:∀b u,H b=some u->b∉ch:=fun b u e z=>by rw[(hf b z).1]at e;cases e
 have nT:∀b o,H b=some o->upd H T (.tup xs) b=some o:=fun b o e=>by rw[Qp (Qs e hn)];exact e
 refine I.step (g':=s.gens) (d':=s.drawn) (ch:=ch) (fun b hb=>?_) (fun b o _ _ hc e _=>k b o hc e) (fun b o _ _ hc e _=>⟨o.slots,k b o hc e⟩) (fun b o _ e n=>?_) (fun b o hc e=>⟨o,k b o hc e⟩) (fun b ys e=>nT b _ e) (fun b o u e=>nT b _ e) (fun b ps e=>⟨#[],by rw[nT b _ e];simp⟩) (fun m hm=>?_) (fun b u e=>?_) I.bare
 ·obtain⟨_,f1,_,f3,f4,f5⟩:=hf b hb;exact⟨f3,f1,f4,f5⟩
 ·rw[Qp (fun z=>absurd (Heap.lt_size e) (by rw[z];exact Nat.not_lt.mpr hT))];exact n
 ·obtain⟨o,es,ep,ho,r⟩:=hm;exact⟨o,es,ep,k _ o (fun z=>(hf _ z).2.1 rfl) ho,r⟩
 ·by_cases hb:b=T
  ·subst hb;rw[Qc]at e;cases e;exact new
  ·rw[Qp hb]at e;refine(I.hok b u e).UN (fun c v hc q=>k c v ?_ q) (fun c q=>nT c _ q) fun c ys q=>nT c _ q;rcases hc with z|z
   ·rw[z];exact nit b u e
   ·exact nit c _ z
end
section
variable {X:Cx}
end
section
variable {prog:Program}{w:World}{A:Around}{E:Value->Shared->Prop}{s:Shared}
end
section
variable {X:Cx}
end
section
variable {X:Cx}{o i:Expr}{td ty:TE}{a:Addr}{kvs:List (Key × V)}
end
section
variable {prog:Program}{w:World}{A:Around}{E:Value->Shared->Prop}{s:Shared}{z TI TO i1 i2:Addr}{k n1 n2:Nat}{P1 P2:Nat->Value->Prop}{S1 S2:Nat->Heap->Prop}{a b:Value}
end
section
variable {prog:Program}{w:World}{A:Around}{E:Value->Shared->Prop}{s:Shared}{z TI TO i1 i2:Addr}{k n1 n2:Nat}{P1 P2:Nat->Value->Prop}{S1 S2:Nat->Heap->Prop}{a b:Value}
end
section
variable {X:Cx}
end
inductive Dv where
 |non|bl (b:Bool)|int (i:Int)|str (x:Str)|tup (ds:List Dv)
mutual
def Dv.depth:Dv->Nat
 | .tup ds=>Dv.Kn ds+1
 |_=>0
def Dv.Kn:List Dv->Nat
 |[]=>0
 |d::ds=>max (Dv.depth d) (Dv.Kn ds)
end
mutual
def Dv.eqb:Dv->Dv->Bool
 | .non,.non=>true
 | .bl a,.bl b=>a==b
 | .bl a,.int b=>(if a then 1 else 0)==b
 | .int a,.bl b=>a==(if b then 1 else 0)
 | .int a,.int b=>a==b
 | .str a,.str b=>a==b
 | .tup xs,.tup ys=>Dv.ye xs ys
 |_,_=>false
def Dv.ye:List Dv->List Dv->Bool
 |[],[]=>true
 |x::xs,y::ys=>Dv.eqb x y&&Dv.ye xs ys
 |_,_=>false
end
mutual
inductive Deep (H:Hp):V->Dv->Prop where
 |non:Deep H .non .non
 |bl {b:Bool}:Deep H (.bl b) (.bl b)
 |int {i:Int}:Deep H (.int i) (.int i)
 |str {x:Str}:Deep H (.str x) (.str x)
 |tup {a:Addr} {xs:List V} {ds:List Dv} (h:H a=some (.tup xs)) (t:Deeps H xs ds):Deep H (.ref a) (.tup ds)
inductive Deeps (H:Hp):List V->List Dv->Prop where
 |nil:Deeps H [] []
 |cons {x:V} {d:Dv} {xs:List V} {ds:List Dv} (h:Deep H x d) (t:Deeps H xs ds):Deeps H (x::xs) (d::ds)
end
theorem Deeps.length{H:Hp}:∀{xs:List V}{ds:List Dv},Deeps H xs ds->xs.length=ds.length
 |_,_,.nil=>rfl
 |_,_,.cons _ t=>congrArg (· +1) t.length
theorem Deeps.XZ{H:Hp}:∀{xs:List V}{ds:List Dv}{i:Nat}{x:V},Deeps H xs ds->xs[i]? =some x->∃d,ds[i]? =some d/\Deep H x d
 |_,_,_,_,.nil,e=>by simp at e
 |_,_,0,_,.cons h _,e=>by
  simp at e;subst e;exact⟨_,rfl,h⟩
 |_,_,i+1,x,.cons _ t,e=>by
  obtain⟨d,h1,h2⟩:=Deeps.XZ (i:=i) (x:=x) t (by simpa using e);exact⟨d,by simpa using h1,h2⟩
theorem Deeps.append{H:Hp}:∀{xs ys:List V}{ds es:List Dv},Deeps H xs ds->Deeps H ys es->Deeps H (xs++ys) (ds++es)
 |_,_,_,_,.nil,q=>q
 |_,_,_,_,.cons h t,q=>.cons h (Deeps.append t q)
theorem Deeps.take{H:Hp}:∀{xs:List V}{ds:List Dv}(n:Nat),Deeps H xs ds->Deeps H (xs.take n) (ds.take n)
 |_,_,0,_=>.nil
 |_,_,_+1,.nil=>.nil
 |_,_,n+1,.cons h t=>.cons h (Deeps.take n t)
theorem Deeps.drop{H:Hp}:∀{xs:List V}{ds:List Dv}(n:Nat),Deeps H xs ds->Deeps H (xs.drop n) (ds.drop n)
 |_,_,0,t=>t
 |_,_,_+1,.nil=>.nil
 |_,_,n+1,.cons _ t=>Deeps.drop n t
mutual
theorem Deep.keep{H H':Hp}(k:∀b ys,H b=some (.tup ys)->H' b=some (.tup ys)):∀{x:V}{d:Dv},Deep H x d->Deep H' x d
 |_,_,.non=>.non
 |_,_,.bl=>.bl
 |_,_,.int=>.int
 |_,_,.str=>.str
 |_,_,.tup h t=>.tup (k _ _ h) (Deeps.keep k t)
theorem Deeps.keep{H H':Hp}(k:∀b ys,H b=some (.tup ys)->H' b=some (.tup ys)):∀{xs:List V}{ds:List Dv},Deeps H xs ds->Deeps H' xs ds
 |_,_,.nil=>.nil
 |_,_,.cons h t=>.cons (Deep.keep k h) (Deeps.keep k t)
end
theorem Deep.same{H H':Hp}{x:V}{d:Dv}(h:Deep H x d)(S:Qk H H'):Deep H' x d:=h.keep (fun b ys e=>S _ _ e)
theorem Deeps.same{H H':Hp}{xs:List V}{ds:List Dv}(h:Deeps H xs ds)(S:Qk H H'):Deeps H' xs ds:=h.keep (fun b ys e=>S _ _ e)
section
variable {X:Cx}{pins:List (Addr × Obj)}{σ:St}{H:Hp}{s:Shared}
mutual
theorem Deep.inj(I:Inv X pins σ H s):∀{x:V}{d e:Dv},Deep H x d->Deep H x e->d=e
 |_,_,_,.non,.non=>rfl
 |_,_,_,.bl,.bl=>rfl
 |_,_,_,.int,.int=>rfl
 |_,_,_,.str,.str=>rfl
 |_,_,_,.tup h t,.tup h2 t2=>by
  have e:=I.WG (.inl (.inl h)) (.inl (.inl h2));subst e;rw[Deeps.inj I t t2]
theorem Deeps.inj(I:Inv X pins σ H s):∀{xs:List V}{ds es:List Dv},Deeps H xs ds->Deeps H xs es->ds=es
 |_,_,_,.nil,.nil=>rfl
 |_,_,_,.cons h t,.cons h2 t2=>by rw[Deep.inj I h h2,Deeps.inj I t t2]
end
end
mutual
theorem Dv.Xt:∀d:Dv,d.eqb d=true
 | .non=>rfl
 | .bl b=>by cases b<;>rfl
 | .int i=>by unfold Dv.eqb;exact beq_self_eq_true i
 | .str x=>by unfold Dv.eqb;exact beq_self_eq_true x
 | .tup ds=>by unfold Dv.eqb;exact Dv.Uu ds
theorem Dv.Uu:∀ds:List Dv,Dv.ye ds ds=true
 |[]=>rfl
 |d::ds=>by unfold Dv.ye;rw[Dv.Xt d,Dv.Uu ds];rfl
end
theorem Dv.KU:∀(ds es:List Dv),Dv.ye ds es=((List.range (min ds.length es.length)).all (fun j=>((ds[j]?).getD .non).eqb ((es[j]?).getD .non))&&ds.length==es.length)
 |[],[]=>rfl
 |[],e::es=>rfl
 |d::ds,[]=>rfl
 |d::ds,e::es=>by
  unfold Dv.ye;rw[Dv.KU ds es,List.length_cons,List.length_cons,show min (ds.length+1) (es.length+1)=min ds.length es.length+1 by omega,List.range_succ_eq_map,List.all_cons,List.all_map,Bool.and_assoc]
  congr 1
  congr 1
  exact Bool.eq_iff_iff.mpr (by simp)
theorem Dv.Yu:∀{ds:List Dv}{i:Nat}{d:Dv},ds[i]? =some d->d.depth<=Dv.Kn ds
 |[],_,_,e=>by simp at e
 |x::xs,0,d,e=>by
  simp at e;subst e;unfold Dv.Kn;omega
 |x::xs,i+1,d,e=>by
  have:=Dv.Yu (ds:=xs) (i:=i) (d:=d) (by simpa using e);unfold Dv.Kn;omega
section
variable {X:Cx}{pins:List (Addr × Obj)}{σ:St}{H:Hp}{s:Shared}
theorem Deep.at1(I:Inv X pins σ H s){N:Nat}{x y:V}{d e:Dv}(hd:d.depth<=N)(hx:Deep H x d)(hy:Deep H y e){A:Around}{u v:Value}(hu:A.units+N<cLine)(rx:RelV x u)(ry:RelV y v)
  (ih:∀n,N=n+1->∀(d e:Dv)(x y:V),d.depth<=n->Deep H x d->Deep H y e->∀{A:Around}{u v:Value},A.units+n<cLine->RelV x u->RelV y v->SeqAt.EqAt A s u v (d.eqb e)):SeqAt.EqAt A s u v (d.eqb e):=by
 cases hx with
 |non=>
  cases rx;cases hy with
  |non=>
   cases ry;exact .same _
  |@bl b2=>
   cases ry;exact SeqAt.EqAt.none_bool b2
  |@int i2=>
   obtain⟨ty,rfl⟩:=ry;exact SeqAt.EqAt.none_int i2 ty
  |@str z2=>
   obtain⟨ty,rfl⟩:=ry;exact SeqAt.EqAt.none_str z2 ty
  |@tup a2 ys es h2 t2=>
   obtain rfl:v=Value.ref a2:=ry;obtain⟨its2,r2,p2,_⟩:=I.tuple (.inl (.inl h2));exact SeqAt.EqAt.none_tuple p2 (by omega)
 |@bl b=>
  cases rx;cases hy with
  |non=>
   cases ry;exact SeqAt.EqAt.bool_none b
  |@bl b2=>
   cases ry;exact SeqAt.EqAt.bool_bool b b2
  |@int i2=>
   obtain⟨ty,rfl⟩:=ry;exact SeqAt.EqAt.bool_int b i2 ty
  |@str z2=>
   obtain⟨ty,rfl⟩:=ry;exact SeqAt.EqAt.bool_str b z2 ty
  |@tup a2 ys es h2 t2=>
   obtain rfl:v=Value.ref a2:=ry;obtain⟨its2,r2,p2,_⟩:=I.tuple (.inl (.inl h2));exact SeqAt.EqAt.bool_tuple b p2 (by omega)
 |@int i=>
  obtain⟨tx,rfl⟩:=rx;cases hy with
  |non=>
   cases ry;exact SeqAt.EqAt.int_none i tx
  |@bl b2=>
   cases ry;exact SeqAt.EqAt.int_bool i tx b2
  |@int i2=>
   obtain⟨ty,rfl⟩:=ry;exact SeqAt.EqAt.int_int i tx i2 ty
  |@str z2=>
   obtain⟨ty,rfl⟩:=ry;exact SeqAt.EqAt.int_str i tx z2 ty
  |@tup a2 ys es h2 t2=>
   obtain rfl:v=Value.ref a2:=ry;obtain⟨its2,r2,p2,_⟩:=I.tuple (.inl (.inl h2));exact SeqAt.EqAt.int_tuple i tx p2 (by omega)
 |@str z=>
  obtain⟨tx,rfl⟩:=rx;cases hy with
  |non=>
   cases ry;exact SeqAt.EqAt.str_none z tx
  |@bl b2=>
   cases ry;exact SeqAt.EqAt.str_bool z tx b2
  |@int i2=>
   obtain⟨ty,rfl⟩:=ry;exact SeqAt.EqAt.str_int z tx i2 ty
  |@str z2=>
   obtain⟨ty,rfl⟩:=ry;exact SeqAt.EqAt.str_str z tx z2 ty
  |@tup a2 ys es h2 t2=>
   obtain rfl:v=Value.ref a2:=ry;obtain⟨its2,r2,p2,_⟩:=I.tuple (.inl (.inl h2));exact SeqAt.EqAt.str_tuple z tx p2 (by omega)
 |@tup a xs ds h t=>
  obtain rfl:u=Value.ref a:=rx;obtain⟨its,r1,p1,_⟩:=I.tuple (.inl (.inl h));cases hy with
  |non=>
   cases ry;exact SeqAt.EqAt.tuple_none p1 (by omega)
  |@bl b2=>
   cases ry;exact SeqAt.EqAt.tuple_bool b2 p1 (by omega)
  |@int i2=>
   obtain⟨ty,rfl⟩:=ry;exact SeqAt.EqAt.tuple_int i2 ty p1 (by omega)
  |@str z2=>
   obtain⟨ty,rfl⟩:=ry;exact SeqAt.EqAt.tuple_str z2 ty p1 (by omega)
  |@tup a2 ys es h2 t2=>
   obtain rfl:v=Value.ref a2:=ry;obtain⟨its2,r2,p2,_⟩:=I.tuple (.inl (.inl h2));obtain⟨n,rfl⟩:∃n,N=n+1:=⟨N-1,by have:=hd;unfold Dv.depth at this;omega⟩;have hl1:=t.length;have hl2:=t2.length;have q1:=r1.length;have q2:=r2.length;have z:=SeqAt.RcAt.tuples (A:=A) (s:=s) (e:=fun j=>((ds[j]?).getD .non).eqb ((es[j]?).getD .non)) p1 p2 (by omega) (Ud (pins:=pins) (σ:=σ) (H:=H) (n:=n) r1 r2 fun j x y u v g1 g2 w1 w2=>?_)
   ·rw[List.size_toArray,List.size_toArray, ←q1, ←q2,hl1,hl2, ←Dv.KU]at z
    by_cases ne:a=a2
    ·subst ne;rw[Deep.inj I (.tup h t) (.tup h2 t2),Dv.Xt];exact .same _
    ·unfold Dv.eqb;exact .of_refs ne z
   ·obtain⟨d1,k1,k2⟩:=t.XZ g1;obtain⟨e1,m1,m2⟩:=t2.XZ g2;show SeqAt.EqAt A.in1 s u v (((ds[j]?).getD .non).eqb ((es[j]?).getD .non));rw[k1,m1];exact ih n rfl d1 e1 x y (Nat.le_trans (Dv.Yu k1) (by have:=hd;unfold Dv.depth at this;omega)) k2 m2 (by show A.units+1+n<cLine;omega) w1 w2
theorem Deep.at(I:Inv X pins σ H s):∀(n:Nat)(d e:Dv)(x y:V),d.depth<=n->Deep H x d->Deep H y e->∀{A:Around}{u v:Value},A.units+n<cLine->RelV x u->RelV y v->SeqAt.EqAt A s u v (d.eqb e):=by
 intro n
 induction n with
 |zero=>
  intro d e x y hd hx hy A u v hu rx ry;exact Deep.at1 I hd hx hy hu rx ry fun n hn=>absurd hn (by omega)
 |succ n ih=>
  intro d e x y hd hx hy A u v hu rx ry;refine Deep.at1 I hd hx hy hu rx ry fun m hm=>?_;obtain rfl:n=m:=by omega
  exact ih
theorem Deep.QdS(I:Inv X pins σ H s){n:Nat}{x y:V}{d e:Dv}(hd:d.depth<=n)(hx:Deep H x d)(hy:Deep H y e){u v:Value}(hu:X.A.units+n<cLine)(rx:RelV x u)(ry:RelV y v):SeqAt.RcNeAt X.A s u v (!(d.eqb e)):=by
 cases hx with
 |non=>
  cases rx;cases hy with
  |non=>
   cases ry;exact SeqAt.RcNeAt.none_none
  |@bl b2=>
   cases ry;exact SeqAt.RcNeAt.none_bool b2
  |@int i2=>
   obtain⟨ty,rfl⟩:=ry;exact SeqAt.RcNeAt.none_int i2 ty
  |@str z2=>
   obtain⟨ty,rfl⟩:=ry;exact SeqAt.RcNeAt.none_str z2 ty
  |@tup a2 ys es h2 t2=>
   obtain rfl:v=Value.ref a2:=ry;obtain⟨its2,r2,p2,_⟩:=I.tuple (.inl (.inl h2));exact SeqAt.RcNeAt.none_tuple p2 (by omega)
 |@bl b=>
  cases rx;cases hy with
  |non=>
   cases ry;exact SeqAt.RcNeAt.bool_none b
  |@bl b2=>
   cases ry;exact SeqAt.RcNeAt.bool_bool b b2
  |@int i2=>
   obtain⟨ty,rfl⟩:=ry;exact SeqAt.RcNeAt.bool_int b i2 ty
  |@str z2=>
   obtain⟨ty,rfl⟩:=ry;exact SeqAt.RcNeAt.bool_str b z2 ty
  |@tup a2 ys es h2 t2=>
   obtain rfl:v=Value.ref a2:=ry;obtain⟨its2,r2,p2,_⟩:=I.tuple (.inl (.inl h2));exact SeqAt.RcNeAt.bool_tuple b p2 (by omega)
 |@int i=>
  obtain⟨tx,rfl⟩:=rx;cases hy with
  |non=>
   cases ry;exact SeqAt.RcNeAt.int_none i tx
  |@bl b2=>
   cases ry;exact SeqAt.RcNeAt.int_bool i tx b2
  |@int i2=>
   obtain⟨ty,rfl⟩:=ry;exact SeqAt.RcNeAt.int_int i tx i2 ty
  |@str z2=>
   obtain⟨ty,rfl⟩:=ry;exact SeqAt.RcNeAt.int_str i tx z2 ty
  |@tup a2 ys es h2 t2=>
   obtain rfl:v=Value.ref a2:=ry;obtain⟨its2,r2,p2,_⟩:=I.tuple (.inl (.inl h2));exact SeqAt.RcNeAt.int_tuple i tx p2 (by omega)
 |@str z=>
  obtain⟨tx,rfl⟩:=rx;cases hy with
  |non=>
   cases ry;exact SeqAt.RcNeAt.str_none z tx
  |@bl b2=>
   cases ry;exact SeqAt.RcNeAt.str_bool z tx b2
  |@int i2=>
   obtain⟨ty,rfl⟩:=ry;exact SeqAt.RcNeAt.str_int z tx i2 ty
  |@str z2=>
   obtain⟨ty,rfl⟩:=ry;exact SeqAt.RcNeAt.str_str z tx z2 ty
  |@tup a2 ys es h2 t2=>
   obtain rfl:v=Value.ref a2:=ry;obtain⟨its2,r2,p2,_⟩:=I.tuple (.inl (.inl h2));exact SeqAt.RcNeAt.str_tuple z tx p2 (by omega)
 |@tup a xs ds h t=>
  obtain rfl:u=Value.ref a:=rx;obtain⟨its,r1,p1,_⟩:=I.tuple (.inl (.inl h));cases hy with
  |non=>
   cases ry;exact SeqAt.RcNeAt.tuple_none p1 (by omega)
  |@bl b2=>
   cases ry;exact SeqAt.RcNeAt.tuple_bool b2 p1 (by omega)
  |@int i2=>
   obtain⟨ty,rfl⟩:=ry;exact SeqAt.RcNeAt.tuple_int i2 ty p1 (by omega)
  |@str z2=>
   obtain⟨ty,rfl⟩:=ry;exact SeqAt.RcNeAt.tuple_str z2 ty p1 (by omega)
  |@tup a2 ys es h2 t2=>
   obtain rfl:v=Value.ref a2:=ry;obtain⟨its2,r2,p2,_⟩:=I.tuple (.inl (.inl h2));have hl1:=t.length;have hl2:=t2.length;have q1:=r1.length;have q2:=r2.length;have hd':Dv.Kn ds+1<=n:=by have:=hd;unfold Dv.depth at this;exact this
   have z:=SeqAt.RcNeAt.tuples (A:=X.A) (s:=s) (e:=fun j=>((ds[j]?).getD .non).eqb ((es[j]?).getD .non)) p1 p2 (by omega) (Ud (pins:=pins) (σ:=σ) (H:=H) (n:=n) r1 r2 fun j x y u v g1 g2 w1 w2=>?_)
   ·rw[List.size_toArray,List.size_toArray, ←q1, ←q2,hl1,hl2, ←Dv.KU]at z;unfold Dv.eqb;exact z
   ·obtain⟨d1,k1,k2⟩:=t.XZ g1;obtain⟨e1,m1,m2⟩:=t2.XZ g2;show SeqAt.EqAt X.A.in1 s u v (((ds[j]?).getD .non).eqb ((es[j]?).getD .non));rw[k1,m1];exact Deep.at I (n-1) d1 e1 x y (Nat.le_trans (Dv.Yu k1) (by omega)) k2 m2 (by show X.A.units+1+(n-1)<cLine;omega) w1 w2
def QbD(n:Nat)(neg:Bool):R2:=fun x y H Q=>∃d e,Deep H x d/\Deep H y e/\d.depth<=n/\Q (.bl (if neg then !(d.eqb e)else d.eqb e)) H
theorem Yv{n:Nat}(hu:X.A.units+n<cLine):OpR X (compareOp .NotEq) (QbD n true):=by
 intro pins s σ H x y v u Q I rx ry h;obtain⟨d,e,hx,hy,hd,q⟩:=h;exact Deep.QdS I hd hx hy hu rx ry X.prog X.w X.xe _ ⟨.bl _,H,I,rfl,q⟩
end
section
variable {prog:Program}{w:World}{A:Around}{E:Value->Shared->Prop}{s:Shared}{j tt:Addr}{n:Nat}{its:Array Value}
theorem QbE{v:Value}{Q:Value->Shared->Prop}(g:s.heap.IsTupleIter j tt n)(gt:s.heap.IsTuple tt its)(gv:its[n]? =some v)
  (k:∀h',h'.IsTupleIter j tt (n+1)->Heap.SameBut j s.heap h'->Q v {s with heap:=h'}):wpAny (model prog w) A (Builtin.SmallTypes.nextOf (.ref j)) Q E s:=by
 obtain⟨o,ho,hc,hd⟩:=id g;obtain⟨ol,hol,_,nl,hdl⟩:=gt;unfold Builtin.SmallTypes.nextOf;refine wpAny_bind (wpAny_callSpecial?_slot (name:=Str.ofString "__next__") g.typeIs F.slot_tuple_iterator_next (wpAny_call_entry F.slot_tuple_iterator_next g.typeIs F.entry_tuple_iterator_next ?_ (F.args_tuple_iterator_next_1 _)));show wpAny _ _ (field (.ref j) 0>>=_) _ _ s;refine wpAny_bind (wpAny_field ho hd (x:=.ref tt) rfl ?_);show wpAny _ _ (if(Value.ref tt==Value.none)=true then _ else _) _ _ s;rw[if_neg (show ¬ ((Value.ref tt==Value.none)=true)from Bool.false_ne_true)];show wpAny _ _ (field (.ref j) 1>>=_) _ _ s;refine wpAny_bind (wpAny_field ho hd (x:=.int n 0) rfl ?_);show wpAny _ _ (seqItems? (.ref tt)>>=_) _ _ s;refine wpAny_bind (wpAny_seqItems hol hdl ?_);simp only[Int.toNat_natCast,gv];refine wpAny_bind (wpAny_setField ho hd (by simp) (wpAny_pure ⟨v,rfl,wpAny_pure (k _ ?_ (Heap.SameBut.update ..))⟩));exact⟨_,Heap.get?_update_self _ ho (Obj.isFreed_of_fields (Obj.data_mapFields hd _)),(Obj.cls_mapFields ..).trans hc,by rw[Obj.data_mapFields hd];simp[rawInt]⟩
theorem Qal{Q:Value->Shared->Prop}(hh:A.handled=none)(g:s.heap.IsTupleIter j tt n)(gt:s.heap.IsTuple tt its)(gv:its[n]? =none)
  (k:∀h' e,Heap.ExtBut j s.heap h'->(∃o,h'.get? e=some o/\o.cls=.type "StopIteration")->E (.ref e) {s with heap:=h'}):wpAny (model prog w) A (Builtin.SmallTypes.nextOf (.ref j)) Q E s:=by
 obtain⟨o,ho,hc,hd⟩:=id g;obtain⟨ol,hol,_,nl,hdl⟩:=gt;unfold Builtin.SmallTypes.nextOf;refine wpAny_bind (wpAny_callSpecial?_slot (name:=Str.ofString "__next__") g.typeIs F.slot_tuple_iterator_next (wpAny_call_entry F.slot_tuple_iterator_next g.typeIs F.entry_tuple_iterator_next ?_ (F.args_tuple_iterator_next_1 _)));show wpAny _ _ (field (.ref j) 0>>=_) _ _ s;refine wpAny_bind (wpAny_field ho hd (x:=.ref tt) rfl ?_);show wpAny _ _ (if(Value.ref tt==Value.none)=true then _ else _) _ _ s;rw[if_neg (show ¬ ((Value.ref tt==Value.none)=true)from Bool.false_ne_true)];show wpAny _ _ (field (.ref j) 1>>=_) _ _ s;refine wpAny_bind (wpAny_field ho hd (x:=.int n 0) rfl ?_);show wpAny _ _ (seqItems? (.ref tt)>>=_) _ _ s;refine wpAny_bind (wpAny_seqItems hol hdl ?_);simp only[Int.toNat_natCast,gv];refine wpAny_bind (wpAny_rule (wpAny_bind (wpAny_setField ho hd (by simp) ?_)));show wpAny _ _ (newExc (.type "StopIteration") []>>=_) _ _ _;refine wpAny_bind ?_;simp only[newExc,newTuple];refine wpAny_bind (wpAny_newObj_type ?_ (by size_fits));refine wpAny_bind (m:=firstArgMember _ _) (wpAny_of_eq (a:=Value.none) (by first|rfl|(simp only[firstArgMember];rfl)) ?_);refine wpAny_newObj_type ?_ (by size_fits);simp only[raiseNew];refine wpAny_bind (wpAny_handled ?_)
 first|rw[show A.in1.handled=none from hh]|rw[hh]
 refine wpAny_bind (wpAny_pure (wpAny_throw ?_));exact k _ _ (((Heap.SameBut.update ..).extBut.push _).push _) ⟨_,Heap.get?_push_size _ rfl,rfl⟩
end
inductive Sk where|tp|ls
def yf(k:Sk)(h:Heap)(it a:Addr)(i:Nat):Prop:=match k with| .tp=>h.IsTupleIter it a i| .ls=>h.IsListIter it a i
def QaX(k:Sk)(h:Heap)(a:Addr)(its:Array Value):Prop:=match k with| .tp=>h.IsTuple a its| .ls=>h.IsList a its
theorem QbF{prog:Program}{w:World}{A:Around}(k:Sk)(hh:A.handled=none)(it a:Addr)(ne:a≠it)(its:Array Value):Draws prog w A it [it,a] its.size (fun i v=>its[i]? =some v) (fun i h=>yf k h it a i/\QaX k h a its):=by
 cases k with
 |ls=>exact Draws.list hh it a ne its
 |tp=>
  exact{live:=fun _ _ st=>let ⟨o,ho,_⟩:=st.1;⟨o,ho⟩,frame:=fun _ _ _ st hk=>⟨let ⟨o,ho,r⟩:=st.1;⟨o,hk it (by simp) o ho,r⟩,let ⟨o,ho,r⟩:=st.2;⟨o,hk a (by simp) o ho,r⟩⟩,item:=fun i s Q E hi st hQ=>(by
       refine QbE st.1 st.2 (v:=its[i]) (by simp[hi]) fun h' g hs=>?_;exact hQ _ h' s.toks (by simp[hi]) ⟨g,let ⟨o,ho,r⟩:=st.2;⟨o,(hs.2 a ne).trans ho,r⟩⟩ hs),done:=fun s Q E st hE=>Qal hh st.1 st.2 (by simp) hE}
def SkQ(k:Sk)(K:PySem.W.Frag)(H:Hp)(a:Addr)(xs:List V):Prop:=match k with| .tp=>SqT K H a xs| .ls=>SqL K H a xs
theorem Inv.sk{X:Cx}{pins:List (Addr × Obj)}{σ:St}{H:Hp}{s:Shared}{k:Sk}{a:Addr}{xs:List V}(I:Inv X pins σ H s)(h:SkQ k X.K H a xs):∃its:List Value,Vals xs its/\QaX k s.heap a its.toArray/\xs.length<=sizeLine:=by
 cases k with
 |tp=>
  obtain⟨its,r,p,z⟩:=I.tuple h;exact⟨its,r,p,z⟩
 |ls=>
  obtain⟨its,r,p,z⟩:=I.list h;exact⟨its,r,p.isList,z⟩
theorem Inv.QbG{X:Cx}{pins:List (Addr × Obj)}{σ:St}{H:Hp}{s:Shared}{k:Sk}{a:Addr}{xs ys:List V}(I:Inv X pins σ H s)(h:SkQ k X.K H a xs)(h':SkQ k X.K H a ys):xs=ys:=by
 obtain⟨its,r,p,_⟩:=I.sk h;obtain⟨its2,r2,p2,_⟩:=I.sk h';have e:its=its2:=by
  cases k with
  |tp=>
   obtain⟨o,ho,_,n,hd⟩:=p;obtain⟨o2,ho2,_,n2,hd2⟩:=p2;obtain rfl:=Option.some.inj (ho.symm.trans ho2);have:=hd.symm.trans hd2;injection this with q;simpa using q
  |ls=>
   obtain⟨o,ho,_,n,hd⟩:=p;obtain⟨o2,ho2,_,n2,hd2⟩:=p2;obtain rfl:=Option.some.inj (ho.symm.trans ho2);have:=hd.symm.trans hd2;injection this with q;simpa using q
 subst e;exact Vals.inj r r2
theorem w4{a b:String}(h:a≠b):Value.type a≠Value.type b:=fun z=>h (by injection z)
theorem QbH{k:Sk}{h:Heap}{it a:Addr}{i:Nat}{its:Array Value}(g:yf k h it a i)(p:QaX k h a its):a≠it:=by
 cases k with
 |tp=>
  obtain⟨o,ho,hc,_⟩:=g;obtain⟨o2,ho2,hc2,_⟩:=p;rintro rfl;obtain rfl:=Option.some.inj (ho.symm.trans ho2);exact w4 (by decide) (hc.symm.trans hc2)
 |ls=>
  obtain⟨o,ho,hc,_⟩:=g;obtain⟨o2,ho2,hc2,_⟩:=p;rintro rfl;obtain rfl:=Option.some.inj (ho.symm.trans ho2);exact w4 (by decide) (hc.symm.trans hc2)
theorem yg{k:Sk}{h:Heap}{it a:Addr}{i:Nat}(g:yf k h it a i):∃o,h.get? it=some o/\∀v,o.data≠ .cell v:=by
 cases k with
 |tp=>obtain⟨o,ho,hc,hd⟩:=g;exact⟨o,ho,fun v q=>by rw[hd]at q;cases q⟩
 |ls=>obtain⟨o,ho,hc,hd⟩:=g;exact⟨o,ho,fun v q=>by rw[hd]at q;cases q⟩
theorem xT{k:Sk}{h h':Heap}{it a:Addr}{i:Nat}(g:yf k h it a i)(kk:∀o,h.get? it=some o->h'.get? it=some o):yf k h' it a i:=by
 cases k with
 |tp=>obtain⟨o,ho,r⟩:=g;exact⟨o,kk o ho,r⟩
 |ls=>obtain⟨o,ho,r⟩:=g;exact⟨o,kk o ho,r⟩
theorem QbI{k:Sk}{h:Heap}{a:Addr}{its:Array Value}{o:Obj}(p:QaX k h a its)(e:h.get? a=some o):o.cls=.type "tuple"\/o.cls=.type "list":=by
 cases k with
 |tp=>obtain⟨o2,ho,hc,_⟩:=p;obtain rfl:=Option.some.inj (e.symm.trans ho);exact .inl hc
 |ls=>obtain⟨o2,ho,hc,_⟩:=p;obtain rfl:=Option.some.inj (e.symm.trans ho);exact .inr hc
def ItN(k:Sk)(K:PySem.W.Frag)(a:Addr):It:=⟨fun i H=>∃xs x,SkQ k K H a xs/\xs[i]? =some x,fun i H v H'=>∃p,H p=none/\v=.ref p/\∀xs,SkQ k K H a xs->∃x,xs[i]? =some x/\H'=upd H p (.tup [.int (i:Nat),x]),fun i H=>∃xs,SkQ k K H a xs/\xs.length=i⟩
theorem zd{P:Program}{w:World}{K:PySem.W.Frag}{es:List Expr}{n:Nat}{pos:Pos}(k:Sk)(e it a:Addr)(hei:e≠it):
  Turn P w K (.Tuple es n pos) (ItN k K a) [e,it] e (fun i h=>(∃old,IsEnum h e it (i:Nat) old)/\yf k h it a i) where
 mem:=by simp
 obj:=fun i h st b hb=>by
  obtain⟨⟨old,he⟩,g⟩:=st;rcases List.mem_cons.mp hb with rfl|hb
  ·exact⟨_,he,fun v q=>nomatch (show Data.fields _=Data.cell v from q)⟩
  ·obtain rfl:b=it:=by simpa using hb
   exact yg g
 keep:=fun i h h' st kk=>by
  obtain⟨⟨old,he⟩,g⟩:=st;exact⟨⟨old,kk e (by simp) _ he⟩,xT g fun o=>kk it (by simp) o⟩
 item:=by
  intro X hP hw hK hc i pins s σ H E I hf st hg;subst hP hw hK;obtain⟨⟨old,he⟩,g⟩:=st;obtain⟨xs,x,hq,hx⟩:=hg;obtain⟨its,rv,p,hz⟩:=I.sk hq;obtain⟨u,hu,ru⟩:=rv.get hx;have hlt:i<its.toArray.size:=by
   rw[List.size_toArray];exact(List.getElem?_eq_some_iff.mp hu).1
  have hea:e≠a:=fun q=>by
   rcases QbI p (q▸he)with z|z
   ·exact w4 (by decide) z
   ·exact w4 (by decide) z
  have D:=QbF (prog:=X.prog) (w:=X.w) (A:=X.A.in1) k (I.ok.hd hc) it a (QbH g p) its.toArray;refine wpAny_pyNext_enum_itemD D he ⟨g,p⟩ hlt hei (by simp[hei,hea]) fun v h1 tk hv ho st1 hT hsz hk=>⟨_,rfl,?_⟩;obtain rfl:v=u:=by
   have:its.toArray[i]? =some u:=by simpa using hu
   exact Option.some.inj (hv.symm.trans this)
  refine wpAny_letOwnedTupleGo_enum ho fun h2 he2 hs2=>?_;have hTe:s.heap.objs.size≠e:=fun q=>absurd (Heap.lt_size he) (by rw[←q];exact Nat.lt_irrefl _);refine⟨.ref s.heap.objs.size,upd H s.heap.objs.size (.tup [.int (i:Nat),x]),I.Qak (ch:=[e,it]) hf (fun b o hb q=>?_) (Nat.le_refl _) ?_,rfl,⟨_,I.hok.fresh (Nat.le_refl _),rfl,fun ys hy=>⟨x,by rw[I.QbG hy hq];exact hx,rfl⟩⟩,⟨⟨_,he2⟩,?_⟩,fun b hb=>?_⟩
  ·simp only[List.mem_cons,List.not_mem_nil,or_false,not_or]at hb;exact(hs2.2 b hb.1).trans (hk b o hb.1 hb.2 q)
  ·exact⟨by show 2<=sizeLine;decide,[.int (i:Nat) tk,v],.cons ⟨_,rfl⟩ (.cons ru .nil),⟨_,(hs2.2 _ hTe).trans hT,rfl,_,rfl,rfl⟩⟩
  ·exact xT st1.1 fun o q=>(hs2.2 it hei.symm).trans q
  ·have hlt:b<s.heap.objs.size:=by
    rcases List.mem_cons.mp hb with q|q
    ·rw[q];exact Heap.lt_size he
    ·obtain⟨o,ho1,_⟩:=yg g;rw[show b=it by simpa using q];exact Heap.lt_size ho1
   rw[Qp (Nat.ne_of_lt hlt)];exact(hf b hb).1
 done:=by
  intro X hP hw hK hc i pins s σ H E I hf st hg;subst hP hw hK;obtain⟨⟨old,he⟩,g⟩:=st;obtain⟨xs,hq,hx⟩:=hg;obtain⟨its,rv,p,hz⟩:=I.sk hq;have hl:=rv.length;have D:=QbF (prog:=X.prog) (w:=X.w) (A:=X.A.in1) k (I.ok.hd hc) it a (QbH g p) its.toArray;have hst:yf k s.heap it a its.toArray.size/\QaX k s.heap a its.toArray:=⟨by rw[List.size_toArray, ←hl,hx];exact g,p⟩;exact wpAny_pyNext_enum_endD D he hst fun h1 eb=>⟨rfl,I.Qaj (t':=s.toks) (ch:=[e,it]) hf fun b o hb q=>eb b o (fun r=>hb (by simp[r])) q⟩
 self:=fun _ _ _ _ _ st h=>let ⟨⟨_,he⟩,_⟩:=st;wpAny_pyIter_enum he h
abbrev eT1(h:Heap)(a:Addr):Heap:=h.push {cls:=.type "tuple_iterator",data:=.fields #[.ref a,.int 0 0]}
abbrev eT2(h:Heap)(a:Addr):Heap:=(eT1 h a).push {cls:=.type "enumerate",data:=.fields #[.none,.bool false,.ref h.objs.size,rawInt 0,.none,.none]}
open AutoSeq1 (wpAny_loadPart')in
set_option maxHeartbeats 1000000 in
theorem xU(a:Addr)(its:Array Value)(n:Nat)(dd:Option Addr)(sl:Array (Option Value)):
  Meets (Builtin.«enumerate.__new__» ⟨[.type "enumerate",.ref a],[]⟩) (fun _ R s=>s.heap.get? a=some ⟨.type "tuple",dd,.seq its n,sl⟩/\R (.ok (.ret (.ref (eT1 s.heap a).objs.size))) {s with heap:=eT2 s.heap a}):=
 .of_wp fun prog w A R s h=>by
  obtain⟨hp,g,d,tk,os⟩:=s;obtain⟨hl,h⟩:=h;have hsub:=sub_enumerate;have hT:Heap.IsTuple (Shared.heap ⟨hp,g,d,tk,os⟩) a its:=⟨_,hl,rfl,n,rfl⟩
  wp_walk using wpAny_loadPart' hl
  refine wpAny_stack_any fun st=>wpAny_pure ?_
  split
  ·rename_i c _ _ _ _ _;cases(c==Value.type "enumerate")<;>(wp_walk using wpAny_loadPart' hl,wpAny_pyIter_tuple hT;exact⟨_,rfl,h⟩)
  ·wp_walk using wpAny_loadPart' hl,wpAny_pyIter_tuple hT
   exact⟨_,rfl,h⟩
theorem w6{prog:Program}{w:World}{A:Around}{E:Value->Shared->Prop}{s:Shared}{a:Addr}{its:Array Value}{Q:Value->Shared->Prop}(hT:s.heap.IsTuple a its)
  (h:∀h',IsEnum h' (s.heap.objs.size+1) s.heap.objs.size 0 .none->h'.IsTupleIter s.heap.objs.size a 0->h'.objs.size=s.heap.objs.size+2->(∀b o,s.heap.get? b=some o->h'.get? b=some o)->Q (.ref (s.heap.objs.size+1)) {s with heap:=h'}):
  wpAny (model prog w) A (call (.type "enumerate") [.ref a]) Q E s:=by
 obtain⟨⟨c,dd,dt,sl⟩,hl,hc,n,hd⟩:=hT
 replace hc:c=.type "tuple":=hc
 replace hd:dt=.seq its n:=hd
 subst hc hd;refine callType_new F.called_enumerate (by decide) (F.typeCall_enumerate_1 _) (F.newCall_enumerate_1 _) (fun obj=>F.args_object_init_2 obj _) F.entry_enumerate_new (xU a its n dd sl) ⟨hl,?_⟩;have hz:(eT1 s.heap a).objs.size=s.heap.objs.size+1:=Heap.size_push ..;have he:IsEnum (eT2 s.heap a) (eT1 s.heap a).objs.size s.heap.objs.size 0 .none:=Heap.get?_push_size _ rfl;rw[hz]at he;show _/\_;rw[hz];exact⟨⟨_,he,rfl⟩,h _ he ⟨_,Heap.get?_push_of_some _ (Heap.get?_push_size _ rfl),rfl,rfl⟩ (by rw[Heap.size_push,hz]) fun b o x=>Heap.get?_push_of_some _ (Heap.get?_push_of_some _ x)⟩
theorem w8{prog:Program}{w:World}{A:Around}{E:Value->Shared->Prop}{s:Shared}(k:Sk){a:Addr}{its:Array Value}{Q:Value->Shared->Prop}(p:QaX k s.heap a its)
  (h:∀h',IsEnum h' (s.heap.objs.size+1) s.heap.objs.size 0 .none->yf k h' s.heap.objs.size a 0->(∀b o,s.heap.get? b=some o->h'.get? b=some o)->Q (.ref (s.heap.objs.size+1)) {s with heap:=h'}):
  wpAny (model prog w) A (call (.type "enumerate") [.ref a]) Q E s:=by
 cases k with
 |tp=>exact w6 p fun h' h1 h2 _ h4=>h h' h1 h2 h4
 |ls=>exact call_enumerate_list p fun h' h1 h2 _ h4=>h h' h1 h2 h4
section
variable {X:Cx}
def QbJ(k:Sk)(K:PySem.W.Frag)(ta:TA):TI:=fun σ H R=>ta σ H fun vs H1=>∃a,vs=[.ref a]/\(∃xs,SkQ k K H1 a xs)/\R (ItN k K a) H1
theorem vb(k:Sk){es:List Expr}{n:Nat}{tp:Pos}{a:Expr}{ta:TA}{p pos:Pos}(hg:Gl X "enumerate")(hm:X.mg "enumerate"=none)(ha:PA X [a] ta)(hs:starEach [a] X.env=[(false,eval a X.env)]:=by rfl):
  PI X (.Tuple es n tp) (.Call (.Name "enumerate" p) [a] [] pos) (QbJ k X.K ta):=by
 intro pins s σ H R I h;refine Call_ (X7 I hg hm boot_enumerate (PyProof.Rows.callWith_type1 (thn (ha pos pins s σ H _ I h) fun us s1⟨vs,H1,I1,r1,aa,e,⟨xs,hq⟩,q⟩=>?_) hs rfl));subst e;obtain⟨u,rfl,rfl⟩:=vals1 r1;obtain⟨its,rv,po,hz⟩:=I1.sk hq;refine w8 k po fun h1 he hst hk=>?_;refine wpAny_pyIter_enum (s:={s1 with heap:=h1}) he ?_;refine⟨_,[s1.heap.objs.size+1,s1.heap.objs.size],_,_,H1,rfl,I1.kept (t':=s1.toks) hk,zd k _ _ aa (Nat.succ_ne_self _),⟨⟨_,he⟩,hst⟩,fun b hb=>?_,q⟩;have hb2:s1.heap.objs.size<=b:=by
  simp only[List.mem_cons,List.not_mem_nil,or_false]at hb;rcases hb with rfl|rfl
  ·exact Nat.le_succ _
  ·exact Nat.le_refl _
 exact I1.k4 hb2 (I1.hok.fresh hb2)
end
section
variable {prog:Program}{w:World}{A:Around}{E:Value->Shared->Prop}{s:Shared}{z TI TO i1 i2:Addr}{k n1 n2:Nat}{f1 f2:List Addr}{P1 P2:Nat->Value->Prop}{S1 S2:Nat->Heap->Prop}{a b:Value}
end
section
variable {X:Cx}
end
theorem xV{P:Program}{w:World}{K:PySem.W.Frag}{mg:Str->Option Value}{base:Heap}{N:List Str}{qual:Str}{scope:Scope}{f:Addr}{cd:Value}{A:Around}{outer:List Env}{s:Shared}{H:Hp}{E:XK}:
  PassesOwn (model (Wm (CXE P w) P w K mg base N qual scope f cd A outer s H E).prog (Wm (CXE P w) P w K mg base N qual scope f cd A outer s H E).w) (Wm (CXE P w) P w K mg base N qual scope f cd A outer s H E).A (Wm (CXE P w) P w K mg base N qual scope f cd A outer s H E).env (Wm (CXE P w) P w K mg base N qual scope f cd A outer s H E).xe:=by
 dsimp only[Wm]
 passes_own
structure Fix(J:It)(n:Nat)(Ok:Hp->Prop)(item:Nat->Hp->V->Hp->Prop):Prop where
 go:∀i H,Ok H->i<n->J.go i H
 stop:∀H,Ok H->J.stop n H
 yld:∀i H v H',Ok H->i<n->J.yld i H v H'->item i H v H'
section
variable {J:It}{n:Nat}{Ok:Hp->Prop}{item:Nat->Hp->V->Hp->Prop}
theorem Xf{g:TG}{tb:TS}{D:Ends}{σ:St}{H:Hp}(F:Fix J n Ok item)(Pv:Nat->St->Hp->Prop)(h0:Pv 0 σ H)(ho:∀i σ H,i<=n->Pv i σ H->Ok H)
  (hs:∀i v σ H H',i<n->Pv i σ H->item i H v H'->g v σ H' fun σ2 H2=>tb {D with nx:=Pv (i+1),ct:=Pv (i+1),bk:=D.nx} σ2 H2) (hd:∀σ H,Pv n σ H->D.nx σ H):
  ∃W:Nat->Nat->St->Hp->Prop,(∃m,W 0 m σ H)/\∀i m σ H,W i m σ H->
   (J.stop i H/\D.nx σ H)\/(J.go i H/\∃N:St->Hp->Prop,(∀σ' H',N σ' H'->∃m',m'<m/\W (i+1) m' σ' H')/\∀x H',J.yld i H x H'->g x σ H' fun σ2 H2=>tb {D with nx:=N,ct:=N,bk:=D.nx} σ2 H2):=by
 refine⟨fun i m σ H=>m=n-i/\i<=n/\Pv i σ H,⟨n,by simp,Nat.zero_le _,h0⟩,?_⟩;rintro i m σ H ⟨rfl,hi,p⟩;have ok:=ho i σ H hi p
 by_cases hlt:i<n
 ·exact .inr ⟨F.go i H ok hlt,Pv (i+1),fun σ' H' p'=>⟨n-(i+1),by omega,rfl,hlt,p'⟩,fun x H' y=>hs i x σ H H' hlt p (F.yld i H x H' ok hlt y)⟩
 ·have e:i=n:=by omega
  subst e;exact .inl ⟨F.stop H ok,hd σ H p⟩
theorem Xu{NB:List Str}{wi:TI}{g:TG}{tt:TT}{te:TE}{Q:VK}{σ:St}{H:Hp}(F:Fix J n Ok item)(Pv:Nat->List V->Hp->Prop)(h:∀R:It->Hp->Prop,(∀H1,Pv 0 [] H1->R J H1)->wi σ H R) (ho:∀i vs H,i<=n->Pv i vs H->Ok H/\vs.length<=i)
  (hs:∀i v vs H H',i<n->Pv i vs H->item i H v H'->g v (List.replicate NB.length none) H' fun σ2 H2=>tt σ2 H2 fun b H3=>if b=true then te σ2 H3 fun v H4=>Pv (i+1) (vs++[v]) H4 else Pv (i+1) vs H3)
  (hd:∀vs H,Pv n vs H->∀p,H p=none->Q (.ref p) (upd H p (.lst vs))) (hz:n<sizeLine):UX NB wi g tt te σ H Q:=by
 refine h _ fun H1 h0=>⟨fun i m vs H=>m=n-i/\i<=n/\Pv i vs H,⟨n,by simp,Nat.zero_le _,h0⟩,?_⟩;rintro i m vs H ⟨rfl,hi,p⟩;obtain⟨ok,hv⟩:=ho i vs H hi p
 by_cases hlt:i<n
 ·exact .inr ⟨F.go i H ok hlt,by omega,Pv (i+1),fun vs' H' p'=>⟨n-(i+1),by omega,rfl,hlt,p'⟩,fun x H' y=>hs i x vs H H' hlt p (F.yld i H x H' ok hlt y)⟩
 ·have e:i=n:=by omega
  subst e;exact .inl ⟨F.stop H ok,hd vs H p⟩
theorem xW{nn:Nat}{fi:List Nat}{fv:List V}{wi:TI}{g:TG}{tt:TT}{te:TE}{Q:VK}{σ:St}{H:Hp}(F:Fix J n Ok item)(Pv:Nat->List V->Hp->Prop)(h:∀R:It->Hp->Prop,(∀H1,Pv 0 [] H1->R J H1)->wi σ H R) (hfv:fi.map (fun i=>σ[i]?)=fv.map (fun v=>some (some v))) (ho:∀i vs H,i<=n->Pv i vs H->Ok H/\vs.length<=i)
  (hs:∀i v vs H H',i<n->Pv i vs H->item i H v H'->g v (List.replicate nn none++fv.map some) H' fun σ2 H2=>σ2.drop nn=fv.map some/\tt σ2 H2 fun b H3=>if b=true then te σ2 H3 fun v H4=>Pv (i+1) (vs++[v]) H4 else Pv (i+1) vs H3)
  (hd:∀vs H,Pv n vs H->∀p,H p=none->Q (.ref p) (upd H p (.lst vs))) (hz:n<sizeLine):VJ nn fi wi g tt te σ H Q:=by
 refine h _ fun H1 h0=>⟨fv,hfv,fun i m vs H=>m=n-i/\i<=n/\Pv i vs H,⟨n,by simp,Nat.zero_le _,h0⟩,?_⟩;rintro i m vs H ⟨rfl,hi,p⟩;obtain⟨ok,hv⟩:=ho i vs H hi p
 by_cases hlt:i<n
 ·exact .inr ⟨F.go i H ok hlt,by omega,Pv (i+1),fun vs' H' p'=>⟨n-(i+1),by omega,rfl,hlt,p'⟩,fun x H' y=>hs i x vs H H' hlt p (F.yld i H x H' ok hlt y)⟩
 ·have e:i=n:=by omega
  subst e;exact .inl ⟨F.stop H ok,hd vs H p⟩
end
theorem vc{xs:List V}{i:Nat}(h:i<xs.length):∃x,xs[i]? =some x:=⟨_,List.getElem?_eq_getElem h⟩
theorem xX{K:PySem.W.Frag}{a:Addr}{xs:List V}:Fix (Itt K a) xs.length (fun H=>SqT K H a xs) (fun i H v H'=>H'=H/\xs[i]? =some v):=
 ⟨fun i H ok h=>let ⟨x,e⟩:=vc h;⟨xs,x,ok,e⟩,fun H ok=>⟨xs,ok,Nat.le_refl _⟩,fun i H v H' ok _ y=>⟨y.1,y.2 _ ok⟩⟩
theorem yh{K:PySem.W.Frag}{a:Addr}{xs:List V}:Fix (Itl K a) xs.length (fun H=>SqL K H a xs) (fun i H v H'=>H'=H/\xs[i]? =some v):=
 ⟨fun i H ok h=>let ⟨x,e⟩:=vc h;⟨xs,x,ok,e⟩,fun H ok=>⟨xs,ok,Nat.le_refl _⟩,fun i H v H' ok _ y=>⟨y.1,y.2 _ ok⟩⟩
theorem Qdj{lo:Int}{n:Nat}:Fix (Itr lo n) n (fun _=>True) (fun i H v H'=>H'=H/\v=.int (lo+i)):=⟨fun i H _ h=>h,fun H _=>Nat.le_refl _,fun i H v H' _ _ y=>y⟩
theorem QdT{k:Sk}{K:PySem.W.Frag}{a:Addr}{xs:List V}:Fix (ItN k K a) xs.length (fun H=>SkQ k K H a xs) (fun i H v H'=>∃p x,H p=none/\v=.ref p/\xs[i]? =some x/\H'=upd H p (.tup [.int (i:Nat),x])):=
 ⟨fun i H ok h=>let ⟨x,e⟩:=vc h;⟨xs,x,ok,e⟩,fun H ok=>⟨xs,ok,rfl⟩,fun i H v H' ok _⟨p,hp,e,y⟩=>let ⟨x,h1,h2⟩:=y xs ok;⟨p,x,hp,e,h1,h2⟩⟩
section
variable {X:Cx}
theorem vd{bs:List Bool}{us:List Value}(r:Vals (bs.map V.bl) us):∀i v,us.toArray[i]? =some v->v=Value.bool (bs.getD i true):=fun i v hv=>by
 have h1:us[i]? =some v:=by simpa using hv
 have hlt:=(List.getElem?_eq_some_iff.mp h1).1;have hl:=r.length;rw[List.length_map]at hl;have h2:(bs.map V.bl)[i]? =some (V.bl (bs.getD i true)):=by
  rw[List.getElem?_map,List.getElem?_eq_getElem (by omega)];simp[List.getD,List.getElem?_eq_getElem (show i<bs.length by omega)]
 obtain⟨u,e1,q⟩:=r.get h2;rw[h1]at e1;obtain rfl:=Option.some.inj e1;exact q
theorem range_all{bs:List Bool}:(List.range bs.length).all (fun i=>bs.getD i true)=bs.all id:=by
 have h:(List.range bs.length).map (fun i=>bs.getD i true)=bs:=by
  apply List.ext_getElem (by simp);intro i h1 h2;simp[List.getD,List.getElem?_eq_getElem h2]
 have h2:(List.range bs.length).all (fun i=>bs.getD i true)=((List.range bs.length).map (fun i=>bs.getD i true)).all id:=by rw[List.all_map];rfl
 rw[h2,h]
theorem jf(hc:X.calm=true):X9 X (.builtin "all") (fun xs H Q=>∃(p:Addr)(bs:List Bool),xs=[.ref p]/\SqL X.K H p (bs.map V.bl)/\Q (.bl (bs.all id)) H):=by
 intro pins s σ H xs us Q I r h;obtain⟨p,bs,rfl,hq,q⟩:=h;obtain⟨u,rfl,ru⟩:=vals1 r;obtain rfl:u=Value.ref p:=ru;obtain⟨its,rv,pl,hl⟩:=I.list hq;have hil:=pl.isList;have hlt:p<s.heap.objs.size:=by obtain⟨o,e,_⟩:=hil;exact Heap.lt_size e
 have hlen:=rv.length;rw[List.length_map]at hlen;have I2:Inv X pins σ H {s with heap:=s.heap.push {cls:=.type "list_iterator",data:=.fields #[.ref p,.int 0 0]}}:=I.kept (t':=s.toks) fun b o e=>Heap.get?_push_of_some _ e;refine call_all_walk (wpAny_pyIter_list hil ⟨s.heap.objs.size,_,_,_,_,_,fun i=>bs.getD i true,rfl,Walks.list (A:=X.A.in1) (I.ok.hd hc) _ p (Nat.ne_of_lt hlt) its.toArray,⟨⟨_,Heap.get?_push_size _ rfl,rfl,rfl⟩,hil.push _⟩,fun i v s Q E hv hQ=>?_,fun h' tk hk=>?_⟩)
 ·rw[vd rv i v hv];exact wpAny_truthy_bool hQ
 ·obtain⟨f0,f1,f2,f3,f4,f5⟩:=I.k4 (Nat.le_refl _) (I.hok.fresh (Nat.le_refl _));have e:(List.range its.toArray.size).all (fun i=>bs.getD i true)=bs.all id:=by rw[List.size_toArray, ←hlen,range_all]
  rw[e];refine⟨.bl (bs.all id),H,?_,rfl,q⟩;exact(I2.turned (h':=h') (t':=tk) (it:=s.heap.objs.size) (fun b o hb eo=>hk b o (by simpa using hb) eo) f0 f1 f3 f4 f5:)
end
def jg(l:List Str)(x:Str):List Str:=if l.any (· ==x)then l else l++[x]
def met(f:Nat->Str):Nat->List Str
 |0=>[]
 |i+1=>jg (met f i) (f i)
theorem jh(l:List Str)(x k:Str):(jg l x).any (· ==k)=(l.any (· ==k)||decide (k=x)):=by
 unfold jg
 by_cases h:l.any (· ==x)=true
 ·rw[if_pos h]
  by_cases e:k=x
  ·subst e;rw[h];simp
  ·simp[e]
 ·rw[if_neg h,List.any_append]
  by_cases e:k=x
  ·subst e;simp
  ·have hb:(x==k)=false:=by simpa[beq_iff_eq]using(fun q:x=k=>e q.symm)
   simp[hb,e]
theorem Yw(l:List Str)(x:Str):(jg l x).length=if l.any (· ==x)then l.length else l.length+1:=by unfold jg;split<;>simp
theorem xY(f:Nat->Str):∀i,(met f i).length<=i
 |0=>Nat.le_refl _
 |i+1=>by
  have:=xY f i;show(jg (met f i) (f i)).length<=i+1;rw[Yw]
  split<;>omega
section
variable {prog:Program}{w:World}{A:Around}{R:Result->Shared->Prop}{J:Addr}{fp wr:List Addr}{G:Array GenState->Array GenState->Prop}{n:Nat}{P:Nat->Value->Prop}{St:Nat->Shared->Prop}
theorem xZ(W:WalksS prog w A.in1 J fp wr G n P St)(S:Addr)(hS0:S∉fp)(f:Nat->Str)(hf:∀i v,P i v->∃t,v=.str (f i) t) (hb:n+1<scanBound):
  ∀(m i:Nat)(s:Shared),n-i=m->i<=n->St i s->s.heap.SetOf (strKind prog w) S (fun q=>(met f i).any (· ==q)) (met f i).length->
   (∀s',Moved (S::wr) G s s'->s'.heap.SetOf (strKind prog w) S (fun q=>(met f n).any (· ==q)) (met f n).length->R (.ok (.ret .none)) s')->codeAny (model prog w) A (.builtin "set.update.loop" ⟨[.ref S,.ref J],[]⟩) R s:=by
 have hSw:S∉wr:=fun h=>hS0 (W.sub _ h);have hsub:∀b∈wr,b∈S::wr:=fun b hb=>List.mem_cons_of_mem _ hb;intro m
 induction m with
 |zero=>
  intro i s hk hi hst hS hR;obtain rfl:i=n:=by omega
  refine codeAny_builtin F.entry_set_update_loop ?_;rw[Around.under_plainId F.plain_set_update_loop _];show wpAny _ A.in1 (pyNext (.ref J)>>=_) _ _ s;refine wpAny_bind (W.done s _ _ hst fun s' hm=>?_);show wpAny _ A.in1 (ret Value.none) _ _ s';exact wpAny_pure (hR s' (hm.mono hsub) (by obtain⟨o,es,ep,t,ho,rest⟩:=hS;exact⟨o,es,ep,t,hm.heap S _ hSw ho,rest⟩))
 |succ m ih=>
  intro i s hk hi hst hS hR;have hlt:i<n:=by omega
  refine codeAny_builtin F.entry_set_update_loop ?_;rw[Around.under_plainId F.plain_set_update_loop _];show wpAny _ A.in1 (pyNext (.ref J)>>=_) _ _ s;refine wpAny_bind (W.item i s _ _ hlt hst fun v s' hP hst' hm=>?_);obtain⟨t,rfl⟩:=hf i v hP;have hS':s'.heap.SetOf (strKind prog w) S (fun q=>(met f i).any (· ==q)) (met f i).length:=by obtain⟨o,es,ep,tb,ho,rest⟩:=hS;exact⟨o,es,ep,tb,hm.heap S _ hSw ho,rest⟩
  show wpAny _ A.in1 (holding [Value.str (f i) t] (setAdd S (.str (f i) t))>>=_) _ _ s';refine wpAny_bind (wpAny_holding ?_);unfold setAdd;refine wpAny_holding ?_;refine wpAny_bind ((strKind prog w).pyHash (k:=f i) (strKind_is _ _ _ _) ?_);have hroom:(met f i).length+1<scanBound:=by have:=xY f i;omega
  refine wpAny_setAddHashed_of (knd:=strKind prog w) (s:={s' with toks:=s'.toks+1}) (strKind_is _ _ _ _) rfl hS' hroom fun h' hsb hS2=>?_;have hSi:h'.SetOf (strKind prog w) S (fun q=>(met f (i+1)).any (· ==q)) (met f (i+1)).length:=SetOf_congr hS2 (fun q=>by show _=(jg (met f i) (f i)).any (· ==q);rw[jh]) (by show _=(jg (met f i) (f i)).length;rw[Yw]);refine wpAny_pure ⟨plainId_quiet F.plain_set_update_loop _,ih (i+1) _ (by omega) hlt (W.frame _ s' _ _ hst' (Nat.le_succ _) fun b hb o e=>?_) hSi fun s'' hm'' hS''=>?_⟩
  ·rw[hsb.2 b (fun h:b=S=>hS0 (by rw[←h];exact hb))];exact e
  ·refine hR s'' (Moved.trans W.gtrans ((hm.mono hsub).then_heap (Nat.le_succ _) fun b o hb e=>?_) hm'') hS'';rw[hsb.2 b (fun h:b=S=>hb (by rw[h];exact List.mem_cons_self))];exact e
end
abbrev x0(led:Bool):Obj:={cls:=.type "set",dict:=none,data:=.set #[] 0 (.fresh 0 0 led)}
section
variable {X:Cx}{pins:List (Addr × Obj)}{σ:List (Option V)}{H:Hp}{s:Shared}{h':Heap}
theorem Inv.Qam{t':Nat}{ch:List Addr}{T:Addr}{nw:HO}(I:Inv X pins σ H s)(hf:∀b∈ch,jC X pins H b) (k:∀b o,b∉ch->s.heap.get? b=some o->h'.get? b=some o) (hT:s.heap.objs.size<=T)
  (new:Jd X.prog X.w (upd H T nw) h' T nw):Inv X pins σ (upd H T nw) {s with heap:=h',toks:=t'}:=by
 have hn:=I.hok.fresh hT;have nit:∀b u,H b=some u->b∉ch:=fun b u e z=>by rw[(hf b z).1]at e;cases e
 have nT:∀b o,H b=some o->upd H T nw b=some o:=fun b o e=>by rw[Qp (Qs e hn)];exact e
 refine I.step (g':=s.gens) (d':=s.drawn) (ch:=ch) (fun b hb=>?_) (fun b o _ _ hc e _=>k b o hc e) (fun b o _ _ hc e _=>⟨o.slots,k b o hc e⟩) (fun b o _ e n=>?_) (fun b o hc e=>⟨o,k b o hc e⟩) (fun b ys e=>nT b _ e) (fun b o u e=>nT b _ e) (fun b ps e=>⟨#[],by rw[nT b _ e];simp⟩) (fun m hm=>?_) (fun b u e=>?_) I.bare
 ·obtain⟨_,f1,_,f3,f4,f5⟩:=hf b hb;exact⟨f3,f1,f4,f5⟩
 ·rw[Qp (fun z=>absurd (Heap.lt_size e) (by rw[z];exact Nat.not_lt.mpr hT))];exact n
 ·obtain⟨o,es,ep,ho,r⟩:=hm;exact⟨o,es,ep,k _ o (fun z=>(hf _ z).2.1 rfl) ho,r⟩
 ·by_cases hb:b=T
  ·subst hb;rw[Qc]at e;cases e;exact new
  ·rw[Qp hb]at e;refine(I.hok b u e).UN (fun c v hc q=>k c v ?_ q) (fun c q=>nT c _ q) fun c ys q=>nT c _ q;rcases hc with z|z
   ·rw[z];exact nit b u e
   ·exact nit c _ z
end
theorem Qan{ys:List Str}{us:List Value}(r:Vals (ys.map V.str) us):∀(i:Nat)(v:Value),us.toArray[i]? =some v->∃t:Tok,v=Value.str (ys.getD i "") t:=fun i v hv=>by
 have h1:us[i]? =some v:=by simpa using hv
 have hlt:=(List.getElem?_eq_some_iff.mp h1).1;have hl:=r.length;rw[List.length_map]at hl;have h2:(ys.map V.str)[i]? =some (V.str (ys.getD i "")):=by
  rw[List.getElem?_map,List.getElem?_eq_getElem (by omega)];simp[List.getD,List.getElem?_eq_getElem (show i<ys.length by omega)]
 obtain⟨u,e1,q⟩:=r.get h2;rw[h1]at e1;obtain rfl:=Option.some.inj e1;exact q
def Qcd(P:Program)(w:World)(a:Addr)(n:Nat):HO:=.ext fun h=>∃S:Str->Bool,h.SetOf (strKind P w) a S n
def many(ys:List Str):Nat:=(met (fun i=>ys.getD i "") ys.length).length
section
variable {X:Cx}
theorem qd:X9 X (.builtin "len") (fun xs H Q=>∃(p:Addr)(n:Nat),xs=[.ref p]/\H p=some (Qcd X.prog X.w p n)/\Q (.int n) H):=by
 intro pins s σ H xs us Q I r h;obtain⟨p,n,rfl,hp,q⟩:=h;obtain⟨u,rfl,ru⟩:=vals1 r;obtain rfl:u=Value.ref p:=ru;obtain⟨⟨S,o,es,ep,t,ho,hex,hd,_,_,hsz,hf,rfl⟩,_⟩:=I.hok p _ hp;exact call_len_set ho hex hd hf (by unfold scanBound at hsz;omega) ⟨.int _,H,I.tok _,⟨_,rfl⟩,q⟩
end
open AutoSeq1 (wpAny_loadPart')
section
variable {X:Cx}
end
theorem QcV{lo c:Int}{n:Nat}:Fix (yR lo c n) n (fun _=>True) (fun i H v H'=>H'=H/\v=.int (lo+i*c)):=⟨fun i H _ h=>h,fun H _=>Nat.le_refl _,fun i H v H' _ _ y=>y⟩
section
variable {X:Cx}{tg:Expr}
end
section
variable {prog:Program}{w:World}{A:Around}{E:Value->Shared->Prop}{s:Shared}
theorem W9:isSubtype (.type "range_iterator") (.type "reversed")=pure false:=by rw[isSubtype_type];kernel_rfl
abbrev rvO(i j:Int):Obj:={cls:=.type "range_iterator",data:=.fields #[rawInt (i+(Builtin.Range.rangeSize i j 1-1)*1),rawInt (Builtin.Range.rangeSize i j 1),rawInt (-1)]}
theorem Qao{r:Addr}{i j:Int}{t u v:Tok}{Q:Value->Shared->Prop}(hr:IsRange s.heap r i j 1 t u v)(b: -(2^40)<=i/\i<2^40/\ -(2^40)<=j/\j<2^40)
  (q:Q (.ref s.heap.objs.size) {s with heap:=s.heap.push (rvO i j)}):wpAny (model prog w) A (call (.builtin "range.__reversed__") [.ref r]) Q E s:=by
 have hT:s.TypeIs (.ref r) "range":=⟨_,hr,rfl⟩;refine wpAny_call_entry F.slot_range_reversed hT F.entry_range_reversed ?_ (F.args_range_reversed_1 _);have hf:∀x:Int, -(2^41)<=x->x<=2^41->Builtin.Range.rangeFitsLong x=true:=fun x h1 h2=>by
  unfold Builtin.Range.rangeFitsLong;rw[decide_eq_true (show-(2^63)<=x by omega),decide_eq_true (show x<2^63 by omega)];rfl
 have hn:0<=Builtin.Range.rangeSize i j 1/\Builtin.Range.rangeSize i j 1<=2^41:=by
  unfold Builtin.Range.rangeSize;rw[if_pos (by decide)]
  split
  ·rw[Int.ediv_one];omega
  ·omega
 unfold Builtin.«range.__reversed__»;refine wpAny_bind (wpAny_of_eq (a:=Value.ref r) rfl ?_);unfold Builtin.Range.rangeFields;refine wpAny_bind (wpAny_bind (wpAny_field hr rfl (x:=.int i t) rfl ?_));refine wpAny_bind (wpAny_of_eq (a:=some i) rfl ?_);refine wpAny_bind (wpAny_field hr rfl (x:=.int j u) rfl ?_);refine wpAny_bind (wpAny_of_eq (a:=some j) rfl ?_);refine wpAny_bind (wpAny_field hr rfl (x:=.int 1 v) rfl ?_);refine wpAny_bind (wpAny_of_eq (a:=some 1) rfl (wpAny_pure ?_));dsimp only;rw[hf i (by omega) (by omega),hf j (by omega) (by omega),hf 1 (by decide) (by decide),hf (-1) (by decide) (by decide),hf (i-1) (by omega) (by omega),hf (Builtin.Range.rangeSize i j 1) (by omega) (by omega)];exact wpAny_bind (wpAny_newObj_type (wpAny_pure ⟨_,rfl,q⟩))
theorem Uv{r:Addr}{i j:Int}{t u v:Tok}{Q₁:Value->Shared->Prop}(hr:IsRange s.heap r i j 1 t u v)(b: -(2^40)<=i/\i<2^40/\ -(2^40)<=j/\j<2^40)
  (q:Q₁ (.ref s.heap.objs.size) {s with heap:=s.heap.push (rvO i j)}):codeAny (model prog w) A (.call (.builtin "reversed.__new__") ⟨[.type "reversed",.ref r],[]⟩) (wants Q₁ E) s:=by
 have hT:s.TypeIs (.ref r) "range":=⟨_,hr,rfl⟩;refine codeAny_of_tree ?_;show wpAny _ A.in1 (do checkBuiltinCall "reversed.__new__" ⟨[.type "reversed",.ref r],[]⟩;again (.builtin "reversed.__new__" ⟨[.type "reversed",.ref r],[]⟩)) _ _ s;refine wpAny_bind (wpAny_of_eq (F.newCall_reversed_1 _) (wpAny_pure ⟨plainId_quiet F.plain_reversed_new _,codeAny_builtin F.entry_reversed_new ?_⟩));rw[Around.under_plainId F.plain_reversed_new _];unfold Builtin.«reversed.__new__»;refine wpAny_bind (wpAny_of_eq (newClass_reversed _) ?_)
 try dsimp only
 refine wpAny_bind (wpAny_of_eq (a:=()) (by first|rfl|kernel_rfl) ?_);refine wpAny_bind (wpAny_of_eq (a:=()) (by first|rfl|kernel_rfl) ?_)
 try dsimp only
 refine wpAny_bind (wpAny_specialOf hT F.slot_range_reversed.lookup ?_)
 try dsimp only
 refine wpAny_bind (wpAny_of_eq (F.slot_range_reversed.bind _) ?_)
 try dsimp only
 first
 |rw[if_neg (show ¬ ((Value.builtin "range.__reversed__"==Value.none)=true)from Bool.false_ne_true)]
 |(show wpAny _ _ (if(Value.builtin "range.__reversed__"==Value.none)=true then _ else _) _ _ _;rw[if_neg (show ¬ ((Value.builtin "range.__reversed__"==Value.none)=true)from Bool.false_ne_true)])
 refine wpAny_bind (wpAny_rule ?_);refine wpAny_bind (m:=runValue (.call (.builtin "range.__reversed__") ⟨[.ref r],[]⟩)) (show wpAny _ _ (call (.builtin "range.__reversed__") [.ref r]) _ _ _ from Qao hr b ?_)
 first
 |exact wpAny_pure q
 |exact wpAny_bind (wpAny_pure (wpAny_pure q))
theorem Uw{r:Addr}{i j:Int}{t u v:Tok}{Q:Value->Shared->Prop}(hr:IsRange s.heap r i j 1 t u v)(b: -(2^40)<=i/\i<2^40/\ -(2^40)<=j/\j<2^40)
  (q:Q (.ref s.heap.objs.size) {s with heap:=s.heap.push (rvO i j)}):wpAny (model prog w) A (call (.type "reversed") [.ref r]) Q E s:=by
 refine callType_other (U:="range_iterator") (Q₁:=fun obj s₁=>obj=.ref s.heap.objs.size/\s₁={s with heap:=s.heap.push (rvO i j)}) (by decide+kernel) F.create_reversed ⟨_,_,F.mro_reversed⟩ F.made_reversed W9 (F.typeCall_reversed_1 _) (Uv hr b ⟨rfl,rfl⟩) ?_;rintro obj s₁ ⟨rfl,rfl⟩;exact⟨⟨_,Heap.get?_push_size _ rfl,rfl⟩,q⟩
end
section
variable {X:Cx}{tg:Expr}
def QdU(ta:TA):TI:=fun σ H R=>ta σ H fun vs H1=>∃i j:Int,vs=[.int i,.int j]/\(-(2^40)<=i/\i<2^40/\ -(2^40)<=j/\j<2^40)/\R (yR (i+((j-i).toNat:Nat)-1) (-1) (j-i).toNat) H1
theorem x5(i j:Int):Builtin.Range.rangeSize i j 1=(((j-i).toNat:Nat):Int):=by
 unfold Builtin.Range.rangeSize;rw[if_pos (by decide)]
 split<;>simp<;>omega
end
section
variable {prog:Program}{w:World}{A:Around}{E:Value->Shared->Prop}{s:Shared}
end
section
variable {X:Cx}
end
theorem Deep.Wo{H:Hp}{l:Addr}{o o':HO}{v:V}{d:Dv}(h:Deep H v d)(e:H l=some o)(n1:∀ys,o≠ .tup ys):Deep (upd H l o') v d:=
 h.keep (fun b ys q=>by rw[Qp (yq q e fun z=>n1 ys z.symm)];exact q)
theorem Deeps.Wo{H:Hp}{l:Addr}{o o':HO}{v:List V}{d:List Dv}(h:Deeps H v d)(e:H l=some o)(n1:∀ys,o≠ .tup ys):Deeps (upd H l o') v d:=
 h.keep (fun b ys q=>by rw[Qp (yq q e fun z=>n1 ys z.symm)];exact q)
theorem Deep.YX{H:Hp}{v:V}{x:Str}(h:Deep H v (.str x)):v=.str x:=by cases h;rfl
theorem Deep.ve{H:Hp}{v:V}{i:Int}(h:Deep H v (.int i)):v=.int i:=by cases h;rfl
theorem Deep.X0{H:Hp}{v:V}{ds:List Dv}(h:Deep H v (.tup ds)):∃a xs,v=.ref a/\H a=some (.tup xs)/\Deeps H xs ds:=by cases h with|tup h t=>exact⟨_,_,rfl,h,t⟩
section
variable {X:Cx}{K0:PySem.W.Frag}
end
section
variable {prog:Program}{w:World}{A:Around}{E:Value->Shared->Prop}{s:Shared}
theorem vf(t b:Addr)(ys:Array Value)(n n2:Nat)(dd dd2:Option Addr)(sl sl2:Array (Option Value)):
  Meets (Builtin.«tuple.__add__» ⟨[.ref t,.ref b],[]⟩) (fun _ R s=>s.heap.get? t=some ⟨.type "tuple",dd,.seq #[] n,sl⟩/\s.heap.get? b=some ⟨.type "tuple",dd2,.seq ys n2,sl2⟩/\R (.ok (.ret (.ref b))) s):=
 .of_wp fun prog w A R s h=>by
  obtain⟨hp,g,d,tk,os⟩:=s;obtain⟨hl,hb,h⟩:=h;have f2:=AutoSeq1.sub_tuple_tuple
  wp_walk using wpAny_loadPart' hl,wpAny_loadPart' hb
  exact⟨_,rfl,h⟩
theorem vg{t b:Addr}{ws:List Value}{Q:Value->Shared->Prop}(ht:IsTup s.heap t #[])(hb:IsTup s.heap b ws.toArray)(q:Q (.ref b) s):wpAny (model prog w) A (binaryOp .Add (.ref t) (.ref b)) Q E s:=by
 obtain⟨⟨cls,dd,data,sl⟩,ho,hc,n,hd⟩:=id ht;obtain⟨⟨cls2,dd2,data2,sl2⟩,ho2,hc2,n2,hd2⟩:=id hb;simp only at hc hd hc2 hd2;subst hc hd hc2 hd2;exact concat_meets ⟨_,ho,rfl⟩ ⟨_,ho2,rfl⟩ noFill_tuple_add seq_tuple_add PySem.F.slot_tuple_add PySem.F.entry_tuple_add (PySem.F.args_tuple_add_2 _ _) (vf t b ws.toArray n n2 dd dd2 sl sl2) ⟨ho,ho2,q⟩
open HT in
theorem x6{t sl:Addr}{its:Array Value}{vl vu:Value}{lo hi:Option Int}{Q:Value->Shared->Prop}(ht:IsTup s.heap t its)(hs:s.heap.IsSliceOf sl vl vu .none)(pl:IsPart vl lo)(pu:IsPart vu hi)(hw:sIx its.size 0 lo=0/\sIx its.size its.size hi=its.size)(q:Q (.ref t) s):
  wpAny (model prog w) A (getItem (.ref t) (.ref sl)) Q E s:=by
 obtain⟨os,hos,hcs,hds⟩:=id hs;have hTs:s.TypeIs (.ref sl) "slice":=⟨os,hos,hcs⟩;unfold getItem
 try with_reducible refine wpAny_holding ?_
 first|refine wpAny_bind (wpAny_pure ?_)|skip
 refine wpAny_bind (wpAny_sequenceKey ht.typeIs (by decide) ?_);refine wpAny_bind (wpAny_callSpecial?_slot (name:=Str.ofString "__getitem__") ht.typeIs PyProof.Rows.slot_tuple_getitem (wpAny_call_entry PyProof.Rows.slot_tuple_getitem ht.typeIs entry_tuple_getitem ?_ (args_tuple_getitem _ _)));show wpAny _ _ (Builtin.Tuple.tupleItemsOf (.ref t)>>=_) _ _ s;refine wpAny_bind (tupleItemsOf_ ht ?_);refine wpAny_bind (wpAny_typeOf hTs ?_);rw[if_pos (by decide)];refine wpAny_bind (ZY hs pl pu ?_);rw[hw.1,hw.2];show wpAny _ _ (if(((0:Nat):Int)==0&&(1:Int)==1&&(its.size-0)==its.size)=true then _ else _) _ _ s;rw[if_pos (by simp)];obtain⟨⟨cls,dd,data,sl'⟩,ho,hc,n,hd⟩:=id ht;simp only at hc hd;subst hc hd
 wp_walk using wpAny_loadPart' ho
 exact⟨_,rfl,wpAny_pure q⟩
end
section
variable {X:Cx}
theorem vh:OpR X (binaryOp .Add) (fun x y H Q=>∃a b ys,x=.ref a/\y=.ref b/\Rd H a (.tup [])/\Rd H b (.tup ys)/\Q (.ref b) H):=by
 intro pins s σ H x y v u Q I rx ry h;obtain⟨a,b,ys,rfl,rfl,ha,hb,q⟩:=h;cases rx;cases ry;obtain⟨its,r1,p1,_⟩:=I.tuple (.inl ha);obtain⟨its2,r2,p2,_⟩:=I.tuple (.inl hb);obtain rfl:its=[]:=r1.VY.mpr rfl;exact vg p1 p2 ⟨.ref b,H,I,rfl,q⟩
def Qap:R2:=fun x y H Q=>∃a b xs ys,x=.ref a/\y=.ref b/\Rd H a (.tup xs)/\Rd H b (.tup ys)/\xs.length+ys.length<=sizeLine/\(xs=[]->Q (.ref b) H)/\(xs≠[]->ys=[]->Q (.ref a) H)/\(xs≠[]->ys≠[]->∀p,H p=none->Q (.ref p) (upd H p (.tup (xs++ys))))
theorem Xg:OpR X (binaryOp .Add) Qap:=by
 intro pins s σ H x y v u Q I rx ry h;obtain⟨a,b,xs,ys,rfl,rfl,ha,hb,hz,q0,q1,q2⟩:=h
 by_cases hx:xs=[]
 ·subst hx;exact vh pins s σ H _ _ v u Q I rx ry ⟨a,b,ys,rfl,rfl,ha,hb,q0 rfl⟩
 ·exact yD pins s σ H _ _ v u Q I rx ry ⟨a,b,xs,ys,rfl,rfl,.inl ha,.inl hb,hx,hz,q1 hx,q2 hx⟩
theorem Qq:IxR X (fun x y H Q=>∃p xs i v,x=.ref p/\y=.int i/\Rd H p (.tup xs)/\atI xs i=some v/\Q v H):=fun value slice pins s σ H x y v u Q I rx ry⟨p,xs,i,z,e1,e2,hq,he,q⟩ hs=>Zo value slice pins s σ H x y v u Q I rx ry ⟨p,xs,i,z,e1,e2,.inl hq,he,q⟩ hs
theorem Yx:IxR X (fun x y H Q=>∃p xs i v,x=.ref p/\y=.int i/\Rd H p (.lst xs)/\atI xs i=some v/\Q v H):=fun value slice pins s σ H x y v u Q I rx ry⟨p,xs,i,z,e1,e2,hq,he,q⟩ hs=>QZ value slice pins s σ H x y v u Q I rx ry ⟨p,xs,i,z,e1,e2,.inl hq,he,q⟩ hs
def yj:V->Option Int->Option Int->Hp->VK->Prop:=fun x lo hi H Q=>∃a xs,x=.ref a/\Rd H a (.tup xs)/\((HT.sIx xs.length 0 lo=0/\HT.sIx xs.length xs.length hi=xs.length)->Q (.ref a) H)/\(¬ (HT.sIx xs.length 0 lo=0/\HT.sIx xs.length xs.length hi=xs.length)->∀p,H p=none->Q (.ref p) (upd H p (.tup (VB xs lo hi))))
theorem x8:SlR X yj:=by
 intro pins s σ H x v vl vu lo hi sl Q I rx hs pl pu h;obtain⟨a,xs,rfl,hx,q1,q2⟩:=h
 by_cases hw:HT.sIx xs.length 0 lo=0/\HT.sIx xs.length xs.length hi=xs.length
 ·cases rx;obtain⟨its,r,ht,hz⟩:=I.tuple (.inl hx);have hlen:its.toArray.size=xs.length:=by rw[List.size_toArray];exact r.length.symm
  exact⟨"tuple",_,PyProof.Rows.slot_tuple_getitem.lookup,ht.typeIs,x6 ht hs pl pu (by rw[hlen];exact hw) ⟨.ref a,H,I,rfl,q1 hw⟩⟩
 ·exact Qbd pins s σ H (.ref a) v vl vu lo hi sl Q I rx hs pl pu ⟨a,xs,rfl,.inl hx,hw,q2 hw⟩
theorem vi(xs:List V)(a c:Nat):VB xs (some (a:Int)) (some (c:Int))=(xs.take c).drop a:=by
 unfold VB;rw[HT.XM,HT.XM,List.drop_take]
 by_cases h:a<=xs.length
 ·rw[show min a xs.length=a by omega];apply List.ext_getElem?;intro i;rw[List.getElem?_take,List.getElem?_take]
  by_cases h1:i<min c xs.length-a
  ·rw[if_pos h1,if_pos (by omega)]
  ·rw[if_neg h1]
   by_cases h2:i<c-a
   ·rw[if_pos h2,List.getElem?_drop,List.getElem?_eq_none (by omega)]
   ·rw[if_neg h2]
 ·rw[show min a xs.length=xs.length by omega,List.drop_length,List.take_nil,List.drop_of_length_le (by omega),List.take_nil]
theorem yj.deep{x:V}{lo:Nat}{hi:Nat}{H:Hp}{Q:VK}{ds:List Dv}(hx:Deep H x (.tup ds))(k:∀v H',Qk H H'->Deep H' v (.tup ((ds.take hi).drop lo))->Q v H'):yj x (some (lo:Int)) (some (hi:Int)) H Q:=by
 obtain⟨a,xs,rfl,h1,t1⟩:=hx.X0;have l1:=t1.length;refine⟨a,xs,rfl,.inl h1,fun z=>?_,fun _ p hp=>?_⟩
 ·rw[HT.XM,HT.XM]at z;refine k _ _ (Qk.refl _) ?_;have e:(ds.take hi).drop lo=ds:=by
   by_cases h0:ds=[]
   ·rw[h0];simp
   ·have:0<ds.length:=List.length_pos_iff.mpr h0;rw[List.take_of_length_le (by omega),show lo=0 by omega,List.drop_zero]
  rw[e];exact hx
 ·have S:=Qk.new (o:=.tup (VB xs (some (lo:Int)) (some (hi:Int)))) hp;have t2:Deeps H (VB xs (some (lo:Int)) (some (hi:Int))) ((ds.take hi).drop lo):=by
   rw[vi];exact(t1.take hi).drop lo
  exact k _ _ S (.tup Qc (t2.same S))
def tyD:Dv->String
 | .non=>"NoneType"
 | .bl _=>"bool"
 | .int _=>"int"
 | .str _=>"str"
 | .tup _=>"tuple"
end
theorem Deep.ty{K:PySem.W.Frag}{H:Hp}{v:V}{d:Dv}(h:Deep H v d):TyOf K H v (.type (tyD d)):=by
 cases h with
 |non=>exact .non
 |bl=>exact .bl _
 |int=>exact .int _
 |str=>exact .str _
 |tup h t=>exact .tup h
section
variable {J:It}{n:Nat}{Ok:Hp->Prop}{item:Nat->Hp->V->Hp->Prop}{wi:TI}{g:TG}{te:TE}{Q:VK}{σ:St}{H:Hp}{K:PySem.W.Frag}
end
section
variable {J:It}{n:Nat}{Ok:Hp->Prop}{item:Nat->Hp->V->Hp->Prop}{wi:TI}{g:TG}{te:TE}{Q:VK}{σ:St}{H:Hp}
theorem VL{H H':Hp}{vs:List V}{u:V}{ds:List Dv}{i:Nat}{d:Dv}(h:Deeps H vs (ds.take i))(S:Qk H H')(e:ds[i]? =some d)(hu:Deep H' u d):Deeps H' (vs++[u]) (ds.take (i+1)):=by
 rw[List.take_add_one,e];exact(h.same S).append (.cons hu .nil)
theorem Xh{NB:List Str}(F:Fix J n Ok item)(ds:List Dv)(hn:ds.length=n)(h:∀R:It->Hp->Prop,(∀H1,Qk H H1->R J H1)->wi σ H R) (ho:∀H1,Qk H H1->Ok H1)
  (hs:∀i v H1 H2 d(R:V->Hp->Prop),ds[i]? =some d->Qk H H1->item i H1 v H2->(∀u H4,Qk H1 H4->Deep H4 u d->R u H4)->g v (List.replicate NB.length none) H2 fun σ2 H3=>te σ2 H3 R)
  (hd:∀xs H1 p,Qk H H1->Deeps H1 xs ds->H1 p=none->Q (.ref p) (upd H1 p (.lst xs))) (hz:n<sizeLine):UX NB wi g QaW te σ H Q:=by
 refine Xu F (fun i vs H1=>Qk H H1/\Deeps H1 vs (ds.take i)) (fun R k=>h R fun H1 S=>k H1 ⟨S,.nil⟩) (fun i vs H1 hi⟨S,t⟩=>⟨ho H1 S,by rw[t.length,List.length_take];omega⟩) ?_ ?_ hz
 ·rintro i v vs H1 H2 hi ⟨S,t⟩ it;have e:ds[i]? =some ds[i]:=List.getElem?_eq_getElem (by omega);exact hs i v H1 H2 _ (fun u H4=>Qk H H4/\Deeps H4 (vs++[u]) (ds.take (i+1))) e S it fun u H4 S4 du=>⟨S.trans S4,VL t S4 e du⟩
 ·rintro vs H1 ⟨S,t⟩ p hp;rw[List.take_of_length_le (by omega)]at t;exact hd vs H1 p S t hp
theorem VM{nn:Nat}{fi:List Nat}{fv:List V}(F:Fix J n Ok item)(ds:List Dv)(hn:ds.length=n)(h:∀R:It->Hp->Prop,(∀H1,Qk H H1->R J H1)->wi σ H R) (hfv:fi.map (fun i=>σ[i]?)=fv.map (fun v=>some (some v))) (ho:∀H1,Qk H H1->Ok H1)
  (hs:∀i v H1 H2 d(R:V->Hp->Prop),ds[i]? =some d->Qk H H1->item i H1 v H2->(∀u H4,Qk H1 H4->Deep H4 u d->R u H4)->g v (List.replicate nn none++fv.map some) H2 fun σ2 H3=>σ2.drop nn=fv.map some/\te σ2 H3 R)
  (hd:∀xs H1 p,Qk H H1->Deeps H1 xs ds->H1 p=none->Q (.ref p) (upd H1 p (.lst xs))) (hz:n<sizeLine):VJ nn fi wi g QaW te σ H Q:=by
 refine xW F (fun i vs H1=>Qk H H1/\Deeps H1 vs (ds.take i)) (fun R k=>h R fun H1 S=>k H1 ⟨S,.nil⟩) hfv (fun i vs H1 hi⟨S,t⟩=>⟨ho H1 S,by rw[t.length,List.length_take];omega⟩) ?_ ?_ hz
 ·rintro i v vs H1 H2 hi ⟨S,t⟩ it;have e:ds[i]? =some ds[i]:=List.getElem?_eq_getElem (by omega);exact hs i v H1 H2 _ (fun u H4=>Qk H H4/\Deeps H4 (vs++[u]) (ds.take (i+1))) e S it fun u H4 S4 du=>⟨S.trans S4,VL t S4 e du⟩
 ·rintro vs H1 ⟨S,t⟩ p hp;rw[List.take_of_length_le (by omega)]at t;exact hd vs H1 p S t hp
theorem Yy{H:Hp}{xs:List V}{ds:List Dv}(t:Deeps H xs ds){p:Addr}(hp:H p=none):Deep (upd H p (.tup xs)) (.ref p) (.tup ds):=.tup Qc (t.same (Qk.new hp))
theorem Xv{H:Hp}:∀{xs:List V}{ns:List Int},Deeps H xs (ns.map Dv.int)->xs=ns.map V.int
 |_,[],.nil=>rfl
 |_,n::ns,.cons h t=>by
  obtain rfl:=h.ve;rw[Xv (ns:=ns) t];rfl
end
section
variable {X:Cx}{K0:PySem.W.Frag}{o e:Expr}{es:List Expr}{to:TE}{t:TA}{name:Str}{apos cpos:Pos}{T id:String}{r:V->List V->Hp->VK->Prop}
end
theorem cb1{r:List V->Hp->VK->Prop}{te:TE}{σ:St}{H:Hp}{Q:VK}(h:te σ H fun v H1=>r [v] H1 Q):tCB r (QX te Wq) σ H Q:=h
theorem QbK{te:TE}{D:Ends}{σ:St}{H:Hp}(h:te σ H D.rt):yt te D σ H:=h
theorem yj.QcW{x:V}{hi:Nat}{H:Hp}{Q:VK}{ds:List Dv}(hx:Deep H x (.tup ds))(k:∀v H',Qk H H'->Deep H' v (.tup (ds.take hi))->Q v H'):yj x none (some (hi:Int)) H Q:=by
 have h:=yj.deep (lo:=0) (hi:=hi) (Q:=Q) hx (by simpa using k);obtain⟨a,xs,e,h1,h2,h3⟩:=h;refine⟨a,xs,e,h1,fun z=>h2 ?_,fun z p hp=>?_⟩
 ·rw[HT.XM,Nat.zero_min];exact⟨rfl,z.2⟩
 ·have e2:VB xs none (some (hi:Int))=VB xs (some ((0:Nat):Int)) (some (hi:Int)):=by unfold VB;rw[HT.VX,show HT.sIx xs.length 0 (some ((0:Nat):Int))=0 by rw[HT.XM,Nat.zero_min]]
  rw[e2];exact h3 (fun y=>z ⟨rfl,y.2⟩) p hp
theorem x9{n:Nat}{fi:List Nat}{wi:TI}{g:TG}{tt:TT}{te:TE}{Q:VK}{σ:St}{H:Hp}(h:wi σ H fun J H1=>VJ n fi (fun _ H R=>R J H) g tt te σ H1 Q):VJ n fi wi g tt te σ H Q:=h
section
variable {X:Cx}
theorem ka{elt tg iter:Expr}{ifs:List Expr}{scope:Scope}{pos spos py:Pos}{NB FR:List Str}{fi:List Nat}{wi:TI}{g:TG}{tt:TT}{te:TE}{iy:Nat}{y:Str}(hc:X.calm=true)(S:BlkScopeF NB FR scope)(hfree:qU scope X.env.scope=true)(hfi:fi.map (fun i=>X.N[i]?)=FR.map some) (hi:PI X tg iter wi)
  (hg:∀s H ex,PG (QW X (NB++FR) scope s H ex) tg g) (ht:∀s H ex,PTs (QW X (NB++FR) scope s H ex) ifs tt) (he:∀s H ex,PE (QW X (NB++FR) scope s H ex) elt te)
  (hN:X.N.Nodup) (hiy:X.N[iy]? =some y) (hy:Loc X.env.scope y) (hsw:swapsWith (.ListComp elt [⟨tg,iter,ifs,0⟩] scope pos) (some (.Name y py)) spos.line X.env=pure true)
  (hs:∀x,foldedSetIterable iter X.env x=pure x:=by intro _;rfl) (hf:X.fn y=true\/X.env.scope.names.lookup y=some .local:=by first|exact .inl rfl|exact .inr rfl|assumption):
  PS X (.Assign [.Name y py] (.ListComp elt [⟨tg,iter,ifs,0⟩] scope pos) spos) (JS (VJ NB.length fi wi g tt te) (QJ iy)):=by
 intro pins s σ H Dn I h;have hfc:∀y∈scope.names,y.2=.free->X.env.scope.names.lookup y.1=some .cell:=WT hfree;have hasF:∀y∈scope.names,y.2=.free->∃c,X.env.cells.lookup y.1=some c:=fun y hy e=>I.ok.has y.1 (.inl (hfc y hy e));have clook:∀y c,(Jf X.env.cells scope.names []).lookup y=some c->X.env.cells.lookup y=some c:=fun y c e=>Ki scope.names [] hasF (fun z=>nomatch z) e;rw[exec_Assign_Name_used _ _ _ _ hsw];refine wpAny_bind (wpAny_standAt (wpAny_bind ?_));show wpAny _ X.A (do let _←comprehension (.ListComp elt [⟨tg,iter,ifs,0⟩] scope pos) scope X.env _ (newList []) false (eval iter X.env) (some (assign (.Name y py) X.env))) _ _ s;refine wpAny_bind (wpAny_mono (wpAny_comprehension_free (use:=some (assign (.Name y py) X.env)) (Q:=fun _ s'=>SP X pins Dn .next s') (cl:=Jf X.env.cells scope.names []) rfl hs (Zb hasF) S.kind S.loc (thn (hi pins s σ H _ I h) fun v s1 h1=>thn h1 fun itv s2 h2=>?_)) (fun _ s' hq=>wpAny_pure (wpAny_pure hq)) fun _ _ e=>e);obtain⟨it,fp,tn,J,H2,e,I2,T,st2,f2,fv,hfv,W,⟨m0,w0⟩,turn⟩:=h2;subst e;refine wpAny_newObj_type ?_;have up2:∀b o,s2.heap.get? b=some o->(s2.heap.push {cls:=.type "list",data:=.seq ([]:List Value).toArray}).get? b=some o:=fun b o e=>Heap.get?_push_of_some _ e;have I3:Inv X pins σ H2 {s2 with heap:=s2.heap.push {cls:=.type "list",data:=.seq ([]:List Value).toArray}}:=I2.kept (t':=s2.toks) up2;have st3:tn 0 (s2.heap.push {cls:=.type "list",data:=.seq ([]:List Value).toArray}):=T.keep _ _ _ st2 fun b _ o e=>up2 b o e;have hD3:(s2.heap.push {cls:=.type "list",data:=.seq ([]:List Value).toArray}).get? s2.heap.objs.size=some (Zw []):=Heap.get?_push_size _ rfl;have hD2:H2 s2.heap.objs.size=none:=I2.hok.fresh (Nat.le_refl _);have lt2:∀b o,s2.heap.get? b=some o->b≠s2.heap.objs.size:=fun b o e=>Nat.ne_of_lt (Heap.lt_size e);have fpO:∀b∈fp,∃o,s2.heap.get? b=some o:=fun b hb=>let ⟨o,e,_⟩:=T.obj _ _ st2 b hb;⟨o,e⟩;have hDs0:X.s₀.heap.objs.size<=s2.heap.objs.size:=I2.sz;have hDL:s2.heap.objs.size≠X.env.locals:=Nat.ne_of_gt I2.lt;have hDC:∀x c,X.env.cells.lookup x=some c->c≠s2.heap.objs.size:=fun x c e=>let ⟨v,o,e1,_⟩:=I2.cell x c e;lt2 c o e1;have hDp:∀p∈X.pn++pins,p.1≠s2.heap.objs.size:=fun p hp=>lt2 p.1 _ (I2.pin p hp).1;have hDf:s2.heap.objs.size∉frs X.stack:=fun z=>let ⟨o,e,_⟩:=(I2.stack.mem z).2;lt2 _ o e rfl;generalize hS3:({s2 with heap:=s2.heap.push {cls:=.type "list",data:=.seq ([]:List Value).toArray}}:Shared)=s3 at I3 ⊢;have hh3:s3.heap=s2.heap.push {cls:=.type "list",data:=.seq ([]:List Value).toArray}:=by rw[←hS3]
 rw[←hh3]at st3 hD3 up2;generalize s2.heap.objs.size=D at hD3 hD2 lt2 hDs0 hDL hDC hDp hDf ⊢;refine Xe S.kind S.nocell fun cenv s4 hce x4=>?_;subst hce;have lt3:∀b o,s3.heap.get? b=some o->b<s3.heap.objs.size:=fun b o e=>Heap.lt_size e;have fp3:∀b∈fp,b<s3.heap.objs.size:=fun b hb=>let ⟨o,e⟩:=fpO b hb;lt3 b o (up2 b o e);have dl3:D<s3.heap.objs.size:=lt3 D _ hD3;have DfpN:∀b∈fp,b≠D:=fun b hb=>let ⟨o,e⟩:=fpO b hb;lt2 b o e;obtain⟨h4,tk4,rfl,hk4⟩:=x4.done;have bsN:∀b o,X.base.get? b=some o->b∉D::fp:=fun b o e hb=>by
  rcases List.mem_cons.mp hb with rfl|hb
  ·exact absurd (Nat.lt_of_lt_of_le (Heap.lt_size (I2.ok.bs b o e).1) hDs0) (Nat.lt_irrefl _)
  ·obtain⟨_,_,_,f3,_⟩:=f2 b hb;rcases f3 with z|z
   ·exact I2.ok.noex b o e z
   ·exact absurd (Nat.lt_of_lt_of_le (Heap.lt_size (I2.ok.bs b o e).1) z) (Nat.lt_irrefl _)
 have exF:∀b∈D::fp,b∉frs X.stack:=fun b hb hf=>by
  rcases List.mem_cons.mp hb with rfl|hb
  ·exact hDf hf
  ·obtain⟨_,f1,f2',_⟩:=f2 b hb;rcases List.mem_cons.mp (I2.XB b hf)with z|z
   ·exact f1 z
   ·exact f2' z
 have ccl:∀y c,(Jf X.env.cells scope.names []).lookup y=some c->(∃v,s3.heap.IsCell c v)/\H2 c=none/\c≠D/\∀b∈fp,c≠b:=fun y c e=>by
  have e':=clook y c e;exact⟨I3.cell y c e',I3.freeC y c e',hDC y c e',fun b hb=>(f2 b hb).2.2.2.2.1 y c e'⟩
 have clt:∀y c,(Jf X.env.cells scope.names []).lookup y=some c->c<s3.heap.objs.size:=fun y c e=>let ⟨⟨v,o,ho,_⟩,_⟩:=ccl y c e;lt3 c o ho;have exLt:∀b∈D::fp,b<s3.heap.objs.size:=fun b hb=>by
  rcases List.mem_cons.mp hb with rfl|hb
  ·exact dl3
  ·exact fp3 b hb
 have okB:(QW X (NB++FR) scope s3 H2 (D::fp)).Ok:=by
  refine⟨I3.ok.mod,S.kind,I3.ok.glob,I3.ok.blt,Nat.le_refl _,fun y z c h1 h2=>?_,fun y hy=>?_,(fun y c z _=>nomatch z),I3.ok.hd,I3.ok.frames,.inl rfl,fun b hb=>⟨Nat.ne_of_lt (exLt b hb),fun y c e z=>?_⟩,I3.bs,Nat.le_trans I3.ok.bsz I3.sz,bsN,exF,I3.stack,I3.Z1⟩
  ·exact I3.ok.inj y z c (clook y c h1) (clook z c h2)
  ·exact ZO scope.names [] (.inr (Wi S.nocell hy))
  ·obtain⟨_,_,n1,n2⟩:=ccl y c e;rcases List.mem_cons.mp hb with q|q
   ·exact n1 (z.trans q)
   ·exact n2 b q z
 have hlen0:(List.replicate NB.length (none:Option V)++fv.map some).length=(NB++FR).length:=by
  have h1:=congrArg List.length hfv;have h2:=congrArg List.length hfi;simp only[List.length_map]at h1 h2;rw[List.length_append,List.length_append,List.length_replicate,List.length_map];omega
 have rep:∀(j:Nat)(v:V),(List.replicate NB.length (none:Option V)++fv.map some)[j]? =some (some v)->∃k,j=NB.length+k/\fv[k]? =some v:=fun j v z=>by
  rw[List.getElem?_append]at z
  split at z
  ·rw[List.getElem?_replicate]at z
   split at z<;>cases z
  ·rename_i hj;rw[List.length_replicate]at hj z;refine⟨j-NB.length,by omega,?_⟩;rw[List.getElem?_map]at z;cases e:fv[j-NB.length]? with
   |none=>rw[e]at z;cases z
   |some y=>rw[e]at z;exact congrArg some (Option.some.inj (Option.some.inj z))
 have fvAt:∀(k:Nat)(v:V)(y:Str),fv[k]? =some v->FR[k]? =some y->∃i,X.N[i]? =some y/\σ[i]? =some (some v):=fun k v y h1 h2=>by
  have a1:=congrArg (fun l=>l[k]?) hfv;have a2:=congrArg (fun l=>l[k]?) hfi;simp only[List.getElem?_map,h1,h2]at a1 a2;cases e:fi[k]? with
  |none=>rw[e]at a1;cases a1
  |some i=>
   rw[e]at a1 a2;exact⟨i,Option.some.inj a2,Option.some.inj a1⟩
 have IB:Inv (QW X (NB++FR) scope s3 H2 (D::fp)) [(D,Zw [])] (List.replicate NB.length none++fv.map some) H2 {s3 with heap:=h4,toks:=tk4}:=by
  refine⟨okB,rfl,I3.bare,Un.kept hk4,⟨_,x4.ns,fun i y v h1 h2 h3=>?_⟩,fun y c h=>let ⟨⟨v,o,ho,hd⟩,_⟩:=ccl y c h;⟨v,o,hk4 _ _ ho,hd⟩,I3.hok.fresh (Nat.le_refl _),fun y c h=>(ccl y c h).2.1,fun p hp=>?_,I3.hok.kept hk4,hlen0⟩
  ·obtain⟨k,rfl,hk⟩:=rep i v h2;have hy:FR[k]? =some y:=by
    have h1:(NB++FR)[NB.length+k]? =some y:=h1;rw[List.getElem?_append_right (Nat.le_add_right _ _),Nat.add_sub_cancel_left]at h1;exact h1
   obtain⟨io,hN,hσ⟩:=fvAt k v y hk hy;have hfr:(y,NameKind.free)∈scope.names:=S.fr y (List.mem_of_getElem? hy);obtain⟨m,_,hl⟩:=I3.loc;obtain⟨u,r,l⟩:=hl io y v hN hσ (.inr (.inl (hfc _ hfr rfl)));refine⟨u,r,.inr ⟨.inl ?_,?_⟩⟩
   ·exact Wh S.nd2 hfr (by show(X.env.scope.kind==.function)=true;rw[I3.ok.kind];rfl) (hfc _ hfr rfl)
   ·obtain⟨c,hc1⟩:=ZO (cells:=X.env.cells) (x:=y) scope.names [] (.inr hfr);refine⟨c,hc1,?_⟩;have hc2:=clook y c hc1;rcases l with⟨hk,_⟩|⟨_,c',hc',o,ho,hd⟩
    ·have e1:=hfc _ hfr rfl;rw[show X.env.kindOf y=X.env.scope.names.lookup y from rfl]at hk;rw[hk]at e1;cases e1
    ·rw[hc2]at hc';cases hc';exact⟨o,hk4 _ _ ho,hd⟩
  obtain rfl:p=(D,Zw []):=by simpa using hp
  exact⟨hk4 _ _ hD3,hD2,Nat.ne_of_lt dl3,hDf,fun v z=>nomatch z⟩
 have stat:∀{H':Hp}{ys:List Value},(∀b∈fp,H' b=none)->∀b∈fp,jC (QW X (NB++FR) scope s3 H2 (D::fp)) [(D,Zw ys)] H' b:=fun hn b hb=>
  ⟨hn b hb,Nat.ne_of_lt (fp3 b hb),exF b (List.mem_cons_of_mem _ hb),.inl (List.mem_cons_of_mem _ hb),fun y c e z=>(ccl y c e).2.2.2 b hb z,fun p hp=>by
    obtain rfl:p=(D,_):=by simpa using hp
    exact(DfpN b hb).symm⟩
 have st4:tn 0 h4:=T.keep _ _ _ st3 fun b _ o e=>hk4 b o e;have fr4:∀b∈fp,H2 b=none:=fun b hb=>(f2 b hb).1;have hcB:(QW X (NB++FR) scope s3 H2 (D::fp)).calm=true:=hc;have loop:codeAny (model X.prog X.w) X.A (.compLoop (.ListComp elt [⟨tg,iter,ifs,0⟩] scope pos) 0 (.ref it) (.ref D) (qc scope X.env s3.heap.objs.size))
   (compPost (model X.prog X.w) X.A X.xe (some (assign (.Name y py) X.env)) (fun _ s'=>SP X pins Dn .next s') (.ref D) s3.heap.objs.size) {s3 with heap:=h4,toks:=tk4}:=by
  refine Kj (fun n s'=>∃i vs ys H',Inv (QW X (NB++FR) scope s3 H2 (D::fp)) [(D,Zw ys)] (List.replicate NB.length none++fv.map some) H' s'/\Vals vs ys/\vs.length<=sizeLine/\tn i s'.heap/\(∀b∈fp,H' b=none)/\W i n vs H') ?_ m0 ⟨0,[],[],H2,IB,.nil,Nat.zero_le _,st4,fr4,w0⟩;rintro n s5 ⟨i,vs,ys,H5,I5,rv,hvl,st5,fr5,w5⟩;rcases turn i n vs H5 w5 with⟨stop,qn⟩|⟨go,hlt,N,hN,step⟩
  ·refine wpAny_mono (T.done (QW X (NB++FR) scope s3 H2 (D::fp)) rfl rfl rfl hcB i _ s5 _ H5 (fun _ _=>False) I5 (stat fr5) st5 stop) (fun r s6⟨hr,I6⟩=>?_) (fun _ _ z=>z.elim);subst hr;obtain⟨m6,hn6,_⟩:=id I6.loc;have hC6:H5 s3.heap.objs.size=none:=I6.free;have un7:Un (frs X.stack) (D::fp) H2 H5 s3.heap s6.heap:=I6.base;have I7:Inv X pins σ H5 s6:=I3.jB (s':=s6) I6.os un7 I6.hok I6.bare fun b hb=>by
    rcases List.mem_cons.mp hb with rfl|hb
    ·exact⟨.inr hDs0,hDL,hDC,hDp⟩
    ·obtain⟨_,f1,_,f3,f4,f5⟩:=f2 b hb;exact⟨f3,f1,f4,f5⟩
   obtain⟨eD,nD,_⟩:=I6.pin (D,Zw ys) (by simp);have nD':H5 D=none:=nD;have eD':s6.heap.get? D=some (Zw ys):=eD;have hD0:X.s₀.heap.get? D=none:=by
    cases q:X.s₀.heap.get? D with
    |none=>rfl
    |some o=>exact absurd (Nat.lt_of_lt_of_le (Heap.lt_size q) hDs0) (Nat.lt_irrefl _)
   have I8:Inv X pins σ (upd H5 D (.lst vs)) s6:=I7.xg nD' hD0 hDL hDC hDp ⟨hvl,ys,ys.length,rv,eD'⟩;have hq:=qn D nD';have s03:X.s₀.heap.objs.size<=s3.heap.objs.size:=I3.sz;have cL:s3.heap.objs.size≠X.env.locals:=Nat.ne_of_gt I3.lt;have cC:∀x c,X.env.cells.lookup x=some c->c≠s3.heap.objs.size:=fun x c e=>let ⟨v,o,e1,_⟩:=I3.cell x c e;Nat.ne_of_lt (lt3 c o e1);have cP:∀p∈X.pn++pins,p.1≠s3.heap.objs.size:=fun p hp=>Nat.ne_of_lt (lt3 p.1 _ (I3.pin p hp).1);show wpAny (model X.prog X.w) X.A (assign (.Name y py) X.env (.ref D)) _ X.xe s6;refine wpAny_assign_Name (X6 (v:=.ref D) I8 hN hiy hy rfl (fun s9 I9⟨a9,sb9,ha9⟩=>?_) hf);have na:s3.heap.objs.size≠a9:=by
    rcases ha9 with rfl|z
    ·exact cL
    ·exact(cC y a9 z).symm
   refine⟨m6,hn6.sameBut sb9 na,fun h10 sb10=>⟨_,_,?_,hq⟩⟩;have hD3':upd H5 D (.lst vs) s3.heap.objs.size=none:=by rw[Qp (Nat.ne_of_gt dl3)];exact hC6
   exact(I9.turned (h':=h10) (t':=s9.toks) (it:=s3.heap.objs.size) (fun b o hb e=>(sb10.2 b hb).trans e) hD3' cL (.inr s03) cC cP:)
  ·refine wpAny_mono (T.item (QW X (NB++FR) scope s3 H2 (D::fp)) rfl rfl rfl hcB i _ s5 _ H5 (fun _ _=>False) I5 (stat fr5) st5 go) (fun r s6⟨u,hr,h6⟩=>?_) (fun _ _ z=>z.elim);subst hr;refine wpAny_mono h6 (fun _ s7⟨x,H7,I7,r7,y7,st7,fr7⟩=>?_) (fun _ _ z=>z.elim);have I7':=I7.pinned (stat fr7) (T.obj _ _ st7);refine wpAny_mono (hg s3 H2 (D::fp) _ s7 _ H7 x u _ I7' r7 (step x H7 y7)) (fun _ s8⟨σ8,H8,I8,hk8,q8⟩=>?_) (fun _ _ z=>z.elim);refine wpAny_mono (ht s3 H2 (D::fp) _ s8 σ8 H8 _ I8 q8) (fun ok s9⟨H9,I9,q9⟩=>?_) (fun _ _ z=>z.elim);have fpK:∀{σ':St}{H':Hp}{s':Shared},Inv (QW X (NB++FR) scope s3 H2 (D::fp)) ([(D,Zw ys)]++K9 fp s7.heap) σ' H' s'->tn (i+1) s'.heap/\∀b∈fp,H' b=none:=fun J=>
    ⟨T.keep _ _ _ st7 fun b hb o e=>(J.pin (b,o) (List.mem_append_right _ (List.mem_append_right _ (Ja hb e)))).1,fun b hb=>by
     obtain⟨o,e,d⟩:=T.obj _ _ st7 b hb;exact(J.pin (b,o) (List.mem_append_right _ (List.mem_append_right _ (Ja hb e)))).2.1⟩
   have wk:∀{H':Hp}{s':Shared}{pl:List (Addr × Obj)},Inv (QW X (NB++FR) scope s3 H2 (D::fp)) pl σ8 H' s'->Inv (QW X (NB++FR) scope s3 H2 (D::fp)) pl (List.replicate NB.length none++fv.map some) H' s':=fun J=>
    J.weak (hlen0.trans J.len.symm) fun j v z=>by
     obtain⟨k,rfl,hk⟩:=rep j v z;have:=congrArg (fun l=>l[k]?) hk8;simp only[List.getElem?_drop,List.getElem?_map,hk]at this;exact this
   cases ok with
   |false=>
    rw[if_neg (by decide)]at q9;rw[if_neg (by decide)];obtain⟨m',hm,w9⟩:=hN vs H9 q9;obtain⟨t9,f9⟩:=fpK I9;exact⟨m',hm,i+1,vs,ys,H9,wk I9.Jx,rv,hvl,t9,f9,w9⟩
   |true=>
    rw[if_pos rfl]at q9;rw[if_pos rfl];refine wpAny_mono (he s3 H2 (D::fp) _ s9 σ8 H9 _ I9 q9) (fun y s10⟨v,H10,I10,rv10,q10⟩=>?_) (fun _ _ z=>z.elim);obtain⟨eD,nD,_,nf,_⟩:=I10.pin (D,Zw ys) (by simp);have hyl:=rv.length;refine append_at (hsz:=by show ys.toArray.size<=sizeLine;rw[List.size_toArray, ←hyl];exact hvl) eD fun h11 sb11 hD11=>?_;obtain⟨m',hm,w11⟩:=hN (vs++[v]) H10 q10;obtain⟨t10,f10⟩:=fpK I10;have I10u:=I10.Jx;have k11:∀b o,b≠D->s10.heap.get? b=some o->h11.get? b=some o:=fun b o hb e=>(sb11.2 b hb).trans e;have IE:Inv (QW X (NB++FR) scope s3 H2 (D::fp)) [] σ8 H10 s10:=I10u.ZC fun p hp=>nomatch hp;have I11:Inv (QW X (NB++FR) scope s3 H2 (D::fp)) [] σ8 H10 {s10 with heap:=h11}:=IE.turned (t':=s10.toks) k11 nD (Nat.ne_of_lt dl3) (.inl List.mem_cons_self) (fun y' c e z=>(ccl y' c e).2.2.1 z) (fun p hp=>absurd (show p∈([]:List (Addr × Obj))from hp) (by simp));have eL:({cls:=.type "list",data:=.seq (ys.toArray.push y) (ys.length+1)}:Obj)=Zw (ys++[y]):=by
     show({cls:=.type "list",data:=.seq (ys.toArray.push y) (ys.length+1)}:Obj)={cls:=.type "list",data:=.seq (ys++[y]).toArray (ys++[y]).length};rw[List.length_append,List.length_singleton,List.push_toArray]
    refine⟨m',hm,i+1,vs++[v],ys++[y],H10,wk (I11.ZC fun p hp=>?_),rv.append (.cons rv10 .nil),by rw[List.length_append,List.length_singleton];exact hlt,T.keep _ _ _ t10 fun b hb o e=>k11 b o (DfpN b hb) e,f10,w11⟩;obtain rfl:p=(D,Zw (ys++[y])):=by simpa using hp
    exact⟨by rw[←eL];exact hD11,nD,Nat.ne_of_lt dl3,nf,fun v z=>nomatch z⟩
 exact codeAny_compStart_list loop (T.self _ 0 _ _ _ st4 loop)
end
section
variable {X:Cx}
def Qaq:R2:=fun x y H Q=>∃p xs i v,x=.ref p/\y=.int i/\Rd H p (.lst xs)/\atI xs i=some v/\Q v H
theorem vj{es:List Expr}{t:TA}{b:Expr}{tb:TE}{p pos:Pos}(h:PAx X es t)(hb:PEx X b tb)(hs:zQ b):PEx X (.Subscript (.List es p) b pos) (tOp Qaq (QaV t) tb):=⟨Qv Yx (Zt h.pa) hb.pe hs⟩
theorem QR{i:Nat}{x:Str}{e:Expr}{te:TE}{pos pos':Pos}(hN:X.N.Nodup)(hi:X.N[i]? =some x)(hx:Loc X.env.scope x)(he:PEx X e te)(hs:swapsWith e (some (.Name x pos')) pos.line X.env=pure false)(hf:X.fn x=true):PSy X (.Assign [.Name x pos'] e pos) (JS te (QJ i)):=⟨QC hN hi hx he.pe hs (.inl hf)⟩
theorem ZU{tg iter:Expr}{body:List Stmt}{wi:TI}{g:TG}{tb:TS}{pos:Pos}(hp:PassesOwn (model X.prog X.w) X.A X.env X.xe)(hc:X.calm=true)(hi:PI X tg iter wi)(hg:PG X tg g)(hb:PSx X body tb)(hs:∀x,foldedSetIterable iter X.env x=pure x):PSy X (.For tg iter body [] pos) (Qdf wi g tb):=⟨X8 hp hc hi hg hb.ps hs⟩
theorem QE{e:Expr}{te:TE}{pos:Pos}(he:PEx X e te):PSy X (.Return (some e) pos) (yt te):=⟨QA he.pe⟩
end
def TaD(ta:TA)(ds:List Dv):Prop:=∀(σ:St)(H:Hp)(R:List V->Hp->Prop),(∀xs H1,Qk H H1->Deeps H1 xs ds->R xs H1)->ta σ H R
theorem Qar:TaD Wq []:=fun σ H R h=>h [] H (Qk.refl _) .nil
theorem KW{x:Str}{t:TA}{ds:List Dv}(h:TaD t ds):TaD (QX (tC (.str x)) t) (.str x::ds):=fun σ H R k=>h σ H _ fun xs H1 S t=>k _ _ S (.cons .str t)
section
variable {K:PySem.W.Frag}
section
variable {H H':Hp}{a t r:Addr}{ns:List Int}{c c':Int}
theorem Bag.Wz(B:Bag K H a t r ns c)(A:Apart t r H H'):∀b ys,H b=some (.tup ys)->H' b=some (.tup ys):=fun b ys e=>B.keep A e fun _ z=>nomatch z
theorem Bag.QcX{σ:St}{i j:Nat}{n:Int}{ta:TA}{ds:List Dv}{Q:VK}{E:XK}(B:Bag K H a t r ns c)(hi:σ[i]? =some (some (.ref a)))(hj:σ[j]? =some (some (.ref t)))(hta:TaD ta ds)(hn:n=(ds.length:Int))(h0:0<n)(h1:n<1000)(hc:c<100000)
  (k:∀(d:Nat)(x:V)(dv:Dv)(H':Hp),ds[d]? =some dv->Deep H' x dv->Bag K H' a t r ns (c+1)->Apart t r H H'->Q x H'):tOp Qaq (QaV ta) (WI (WS K) [] E (QX (XL i) (QX (XL j) (QX (tC (.int n)) Wq)))) σ H Q:=by
 have hz:1000<=sizeLine:=by decide
 refine hta _ _ _ fun xs H1 S1 T1=>⟨by have:=T1.length;omega,fun p hp=>?_⟩;have S:=Qk.new (o:=.lst xs) hp;have B1:=B.same (S1.trans S);refine B1.draw hi hj (fun R h=>h) h0 (by omega) hc fun d H' hd B' A'=>?_;have hl:=T1.length;obtain⟨x,hx⟩:∃x,xs[d]? =some x:=⟨_,List.getElem?_eq_getElem (by omega)⟩;have hpp:H' p=some (.lst xs):=B1.keep A' Qc fun _ z=>nomatch z;obtain⟨dv,hdv,ddv⟩:=T1.XZ hx;exact⟨p,xs,d,x,rfl,rfl,.inl hpp,QL hx,k d x dv H' hdv ((ddv.same S).keep (B1.Wz A')) B' (fun b o e n1 n2=>A' b o ((S1.trans S) _ _ e) n1 n2)⟩
end
end
def isStar:Expr->Bool
 | .Starred .. =>true
 |_=>false
theorem X1{e:Expr}{es:List Expr}{env:Env}(h:isStar e=false):starEach (e::es) env=(false,eval e env)::starEach es env:=by
 cases e<;>first|rfl|cases h
section
variable {X:Cx}{K0:PySem.W.Frag}{o e e1:Expr}{es:List Expr}{to te te1:TE}{t:TA}{name:Str}{apos cpos:Pos}{T id:String}{r:V->List V->Hp->VK->Prop}
theorem Qw(ha:PE X e te)(hr:PA X es t)(h:isStar e=false:=by rfl):PA X (e::es) (QX te t):=Qa ha hr (X1 h)
theorem Ux{a b:Expr}{ta tb:TE}{pos:Pos}{op:Operator}{r:R2}(hr:OpR X (binaryOp op) r)(ha:PEx X a ta)(hb:PEx X b tb):PEx X (.BinOp a op b pos) (tOp r ta tb):=⟨QM hr ha.pe hb.pe⟩
theorem QV(ha:PEx X e te)(hr:PAx X es t)(h:isStar e=false):PAx X (e::es) (QX te t):=⟨Qa ha.pe hr.pa (X1 h)⟩
theorem VN{c a b:Expr}{tA:TT}{ta tb:TE}{pos:Pos}(hc:PT X c tA)(ha:PEx X a ta)(hb:PEx X b tb):PEx X (.IfExp c a b pos) (tIf tA ta tb):=⟨Za hc ha.pe hb.pe⟩
theorem Js{k:Nat}{pos:Pos}(h:PAx X es t):PEx X (.Tuple es k pos) (QaU t):=⟨Qz h.pa⟩
theorem J1{c:Expr}{a b:List Stmt}{tc:TT}{t1 u:TS}{pos:Pos}(hc:PT X c tc)(ha:PSx X a t1)(hb:PSx X b u):PSy X (.If c a b pos) (QaT tc t1 u):=⟨QY hc ha.ps hb.ps⟩
theorem Jb:PSx X [] QQ:=⟨QD⟩
end
section
variable {prog:Program}{w:World}{A:Around}{E:Value->Shared->Prop}{s:Shared}{z TI TO i1 i2 i3:Addr}{k n1 n2 n3:Nat}{f1 f2 f3:List Addr}{P1 P2 P3:Nat->Value->Prop}{S1 S2 S3:Nat->Heap->Prop}{a b c:Value}
end
section
variable {X:Cx}
end
theorem qe:typeLookup (.type "tuple") "__reversed__"=pure none:=by rw[typeLookup_type,builtinLookup_eq_fast];kernel_rfl
theorem Va:typeLookup (.type "tuple") "__getitem__"=pure (some (.builtin "tuple.__getitem__")):=by rw[typeLookup_type,builtinLookup_eq_fast];kernel_rfl
theorem sub_tuple_dict:isSubtype (.type "tuple") (.type "dict")=pure false:=by rw[isSubtype_type];kernel_rfl
abbrev Ko(h:Heap)(it a:Addr)(i:Int):Prop:=h.get? it=some {cls:=.type "reversed",data:=.fields #[.ref a,rawInt i]}
set_option maxHeartbeats 4000000 in
theorem ze(a:Addr)(xs:Array Value):Meets (Builtin.«reversed.__new__» ⟨[.type "reversed",.ref a],[]⟩) (fun _ R s=>IsTup s.heap a xs/\((xs.size:Nat):Int)<2^63/\∀k,R (.ok (.ret (.ref s.heap.objs.size))) {s with heap:=s.heap.push {cls:=.type "reversed",data:=.fields #[.ref a,rawInt ((xs.size:Int)-1)]},toks:=k}):=
 .of_wp fun prog w A R s h=>by
  obtain⟨hp,g,d,tk,os⟩:=s;obtain⟨h1,hl,h⟩:=h;have hsub:=F.sub_reversed_self;have ht:Shared.TypeIs ⟨hp,g,d,tk,os⟩ (.ref a) "tuple":=by obtain⟨o,e,c,_⟩:=h1;exact⟨o,e,c⟩
  have hx:=qe;have hy:=Va;have hd:=sub_tuple_dict;have p1:IsTup (Shared.heap ⟨hp,g,d,tk,os⟩) a xs:=h1
  wp_walk using wpAny_specialOf ht hx ?_,wpAny_specialOf ht hy ?_,len_tuple p1 hl ?_
  exact⟨_,rfl,h _⟩
theorem JE:Slot "reversed" (Str.ofString "__next__") "reversed.__next__":=Slot.of (owner:="reversed") (n:="__next__") (by rw[typeLookup_type,builtinLookup_eq_fast];kernel_rfl) (by decide+kernel) (by decide+kernel) (by decide+kernel) (Or.inl (by decide+kernel)) F.sub_reversed_self (by decide+kernel)
theorem Kq:Slot "reversed" (Str.ofString "__iter__") "reversed.__iter__":=Slot.of (owner:="reversed") (n:="__iter__") (by rw[typeLookup_type,builtinLookup_eq_fast];kernel_rfl) (by decide+kernel) (by decide+kernel) (by decide+kernel) (Or.inl (by decide+kernel)) F.sub_reversed_self (by decide+kernel)
theorem XI:entryFor table "reversed.__next__"=some Builtin.«reversed.__next__»:=entryFor_of_tree (by kernel_rfl)
theorem Kr(a:Value):argsOk "reversed.__next__" {pos:=[a]}:=by first|with_unfolding_all rfl|kernel_rfl
theorem Yz(a:Value):argsOk "reversed.__iter__" {pos:=[a]}:=by first|with_unfolding_all rfl|kernel_rfl
theorem qf:isSubtype (.type "reversed") (.type "object")=pure true:=by rw[isSubtype_type];kernel_rfl
theorem YA:Slot "reversed" (Str.ofString "__init__") "object.__init__":=Slot.of (owner:="object") (n:="__init__") (by rw[typeLookup_type,builtinLookup_eq_fast];kernel_rfl) (by decide+kernel) (by decide+kernel) (by decide+kernel) (Or.inl (by decide+kernel)) qf (by decide+kernel)
theorem zf:TypeCalled "reversed" "reversed.__new__" "object.__init__":=⟨by decide,F.create_reversed,⟨_,_,F.mro_reversed⟩,F.made_reversed,F.plain_reversed_new,F.sub_reversed_self,YA⟩
theorem Vu:entryFor table "reversed.__iter__"=some Builtin.«dict_keyiterator.__iter__»:=entryFor_alias (id':="dict_keyiterator.__iter__") (by rw[fastTable_eq_tree];kernel_rfl) (by first|kernel_rfl|decide+kernel) (by first|kernel_rfl|decide+kernel) (by rw[fastTable_eq_tree];kernel_rfl)
section
variable {prog:Program}{w:World}{A:Around}{E:Value->Shared->Prop}{s:Shared}
set_option maxHeartbeats 4000000 in
theorem kc{it a:Addr}{i:Nat}{xs:Array Value}{x:Value}{Q:Value->Shared->Prop}(h:Ko s.heap it a (i:Int))(hT:IsTup s.heap a xs)(hi:i<xs.size)(hl:((xs.size:Nat):Int)<2^63)(hx:xs[i]? =some x)
  (hQ:∀h' k,Ko h' it a ((i:Int)-1)->Heap.SameBut it s.heap h'->Q x {s with heap:=h',toks:=k}):wpAny (model prog w) A (Builtin.«reversed.__next__» ⟨[.ref it],[]⟩) (fun fin s'=>∃v,fin=.done (.ret v)/\Q v s') E s:=by
 have ht:Shared.TypeIs s (.ref a) "tuple":=by obtain⟨o,e,c,_⟩:=hT;exact⟨o,e,c⟩
 have hn:¬ ((i:Int)<0):=by omega
 show wpAny _ _ (field (.ref it) 0>>=_) _ _ _;refine wpAny_bind (wpAny_field h rfl (x:=.ref a) rfl ?_);refine wpAny_bind (wpAny_field h rfl (x:=rawInt (i:Int)) rfl ?_);unfold rawInt;dsimp only;rw[if_neg hn];refine wpAny_bind (wpAny_specialOf ht Va ?_);rw[if_neg (by decide)];refine wpAny_bind (wpAny_mkInt ?_);refine wpAny_bind (wpAny_attempt (getItem_tuple (s:={s with toks:=s.toks+1}) (j:=i) hT (by omega) (by omega) ?_ hx ?_))
 ·unfold seqIndex?;dsimp only;rw[if_neg hn,if_pos (by simp;omega)];rfl
 dsimp only;refine wpAny_bind (wpAny_field (s:={s with toks:=s.toks+1}) h rfl (x:=rawInt (i:Int)) rfl ?_);unfold rawInt;dsimp only;refine wpAny_bind (wpAny_setField_rec (s:={s with toks:=s.toks+1}) h (by simp) fun h₁ hz₁ hs₁=>?_);exact wpAny_pure ⟨_,rfl,hQ _ _ hz₁ hs₁⟩
set_option maxHeartbeats 4000000 in
theorem vk{it a:Addr}{Q:Fin->Shared->Prop}(h:Ko s.heap it a (-1))(hh:A.handled=none)
  (hE:∀h' e k,(∀c o,c≠it->s.heap.get? c=some o->h'.get? c=some o)->(∃o,h'.get? e=some o/\o.cls=.type "StopIteration")->E (.ref e) {s with heap:=h',toks:=k}):wpAny (model prog w) A (Builtin.«reversed.__next__» ⟨[.ref it],[]⟩) Q E s:=by
 show wpAny _ _ (field (.ref it) 0>>=_) _ _ _;refine wpAny_bind (wpAny_field h rfl (x:=.ref a) rfl ?_);refine wpAny_bind (wpAny_field h rfl (x:=rawInt (-1)) rfl ?_);unfold rawInt;dsimp only;rw[if_pos (by decide)];refine wpAny_bind (wpAny_rule ?_)
 wp_walk
 refine wpAny_raiseNew_none hh ?_;refine hE _ _ _ (fun c o hc e=>?_) ⟨_,Heap.get?_push_size _ rfl,rfl⟩;refine Heap.get?_push_of_some _ (Heap.get?_push_of_some _ ?_);rw[Heap.get?_update_ne _ _ _ _ hc,Heap.get?_update_ne _ _ _ _ hc];exact e
theorem Vb{it a:Addr}{i:Int}{Q:Value->Shared->Prop}(h:Ko s.heap it a i)(hQ:Q (.ref it) s):wpAny (model prog w) A (pyIter (.ref it)) Q E s:=
 have hT:s.TypeIs (.ref it) "reversed":=⟨_,h,rfl⟩
 wpAny_pyIter_slot hT Kq (wpAny_call_entry Kq hT Vu (id (wpAny_pure ⟨_,rfl,"reversed",.builtin "reversed.__next__",hT,JE.lookup,hQ⟩)) (Yz _))
theorem qg{it a:Addr}{i:Nat}{xs:Array Value}{x:Value}{Q:Option Value->Shared->Prop}(h:Ko s.heap it a (i:Int))(hT:IsTup s.heap a xs)(hi:i<xs.size)(hl:((xs.size:Nat):Int)<2^63)(hx:xs[i]? =some x)
  (hQ:∀h' k,Ko h' it a ((i:Int)-1)->Heap.SameBut it s.heap h'->Q (some x) {s with heap:=h',toks:=k}):wpAny (model prog w) A (pyNext (.ref it)) Q E s:=by
 have hT2:s.TypeIs (.ref it) "reversed":=⟨_,h,rfl⟩;unfold pyNext;exact wpAny_bind (wpAny_attempt (wpAny_callSpecial?_slot (name:=Str.ofString "__next__") hT2 JE (wpAny_call_entry JE hT2 XI (kc h hT hi hl hx fun h' k a1 a2=>wpAny_pure (hQ h' k a1 a2)) (Kr _))))
theorem zg{it a:Addr}{Q:Option Value->Shared->Prop}(h:Ko s.heap it a (-1))(hh:A.handled=none)
  (hQ:∀h' k,(∀c o,c≠it->s.heap.get? c=some o->h'.get? c=some o)->Q none {s with heap:=h',toks:=k}):wpAny (model prog w) A (pyNext (.ref it)) Q E s:=by
 have hT2:s.TypeIs (.ref it) "reversed":=⟨_,h,rfl⟩;unfold pyNext;refine wpAny_bind (wpAny_attempt (wpAny_callSpecial?_slot (name:=Str.ofString "__next__") hT2 JE (wpAny_call_entry JE hT2 XI (vk h hh fun h' e k hk he=>?_) (Kr _))));obtain⟨o,ho,hc⟩:=he;refine wpAny_bind (wpAny_isInstance (T:="StopIteration") (b:=true) ⟨o,ho,hc⟩ isSubtype_stop ?_);exact wpAny_pure (hQ _ _ hk)
theorem ke{a:Addr}{xs:Array Value}{Q:Value->Shared->Prop}(hT:IsTup s.heap a xs)(hl:((xs.size:Nat):Int)<2^63)
  (hQ:∀k,Q (.ref s.heap.objs.size) {s with heap:=s.heap.push {cls:=.type "reversed",data:=.fields #[.ref a,rawInt ((xs.size:Int)-1)]},toks:=k}):wpAny (model prog w) A (call (.type "reversed") [.ref a]) Q E s:=
 callType_new zf (by decide) (F.typeCall_reversed_1 _) (F.newCall_reversed_1 _) (fun obj=>F.args_object_init_2 obj _) F.entry_reversed_new (ze a xs) ⟨hT,hl,fun k=>⟨⟨_,Heap.get?_push_size _ rfl,rfl⟩,hQ k⟩⟩
end
def QcY(K:PySem.W.Frag)(a:Addr)(n:Nat):It:=⟨fun i H=>∃xs x,SqT K H a xs/\xs.length=n/\i<n/\xs[n-1-i]? =some x,fun i H v H'=>H'=H/\∀xs,SqT K H a xs->xs[n-1-i]? =some v,fun i H=>i=n⟩
theorem kg{P:Program}{w:World}{K:PySem.W.Frag}{tg:Expr}(a it:Addr)(n:Nat):Turn P w K tg (QcY K a n) [it] it (fun i h=>i<=n/\Ko h it a ((n:Int)-1-(i:Int))) where
 mem:=by simp
 obj:=fun i h st b hb=>by
  have e:b=it:=by simpa using hb
  subst e;exact⟨_,st.2,fun v z=>nomatch (show Data.fields _=Data.cell v from z)⟩
 keep:=fun i h h' st k=>⟨st.1,k it (by simp) _ st.2⟩
 item:=by
  intro X hP hw hK hc i pins s σ H E I hf st hg;subst hP hw hK;obtain⟨xs,x,hq,hl,hi,hx⟩:=hg;obtain⟨its,rv,p,hz⟩:=I.tuple hq;obtain⟨u,hu,ru⟩:=rv.get hx;obtain⟨f0,f1,f2,f3,f4,f5⟩:=hf it (by simp);have e1:(n:Int)-1-(i:Int)=((n-1-i:Nat):Int):=by omega
  have st2:=st.2;rw[e1]at st2;have hlen:=rv.length;have h63:=XE;refine qg (xs:=its.toArray) (x:=u) st2 p (by rw[List.size_toArray];omega) (by rw[List.size_toArray];omega) (by simpa using hu) fun h' k st' sb=>?_;have I1:Inv X pins σ H {s with heap:=h',toks:=k}:=I.turned (t':=k) (fun b o hb e=>(sb.2 b hb).trans e) f0 f1 f3 f4 f5;have e2:((n-1-i:Nat):Int)-1=(n:Int)-1-((i+1:Nat):Int):=by omega
  rw[e2]at st';exact⟨u,rfl,zC (s:={s with heap:=h',toks:=k}) st' rfl rfl (by decide) ⟨x,H,I1,ru,⟨rfl,fun ys hy=>by rw[I.WG hy hq];exact hx⟩,⟨by omega,st'⟩,fun b hb=>(hf b hb).1⟩⟩
 done:=by
  intro X hP hw hK hc i pins s σ H E I hf st hg;subst hP hw hK;have hg:i=n:=hg;obtain⟨f0,f1,f2,f3,f4,f5⟩:=hf it (by simp);have st2:=st.2;rw[show(n:Int)-1-(i:Int)= -1 by omega]at st2;exact zg st2 (I.ok.hd hc) fun h' k eb=>⟨rfl,I.turned (t':=k) (fun b o hb e=>eb b o hb e) f0 f1 f3 f4 f5⟩
 self:=fun _ _ _ _ _ st h=>Vb st.2 h
section
variable {X:Cx}
def QdV(K:PySem.W.Frag)(ta:TA):TI:=fun σ H R=>ta σ H fun vs H1=>∃a xs,vs=[.ref a]/\SqT K H1 a xs/\R (QcY K a xs.length) H1
theorem Qas{tg e:Expr}{ta:TA}{p pos:Pos}(hg:Gl X "reversed")(hm:X.mg "reversed"=none)(ha:PA X [e] ta)(h1:isStar e=false):PI X tg (.Call (.Name "reversed" p) [e] [] pos) (QdV X.K ta):=by
 intro pins s σ H R I h;refine Call_ (X7 I hg hm boot_reversed (PyProof.Rows.callWith_type1 (thn (ha pos pins s σ H _ I h) fun us s1⟨vs,H1,I1,r1,a,xs,e,hq,q⟩=>?_) (X1 h1) rfl));subst e;obtain⟨u,rfl,rfl⟩:=vals1 r1;obtain⟨its,rv,pp,hz⟩:=I1.tuple hq;have hlen:=rv.length;have h63:=XE;refine ke (xs:=its.toArray) pp (by rw[List.size_toArray];omega) fun k=>?_;have g:Ko (s1.heap.push {cls:=.type "reversed",data:=.fields #[.ref a,rawInt ((its.toArray.size:Int)-1)]}) s1.heap.objs.size a ((xs.length:Int)-1-((0:Nat):Int)):=by
  have e:(xs.length:Int)-1-((0:Nat):Int)=(its.toArray.size:Int)-1:=by rw[List.size_toArray];omega
  rw[e];exact Heap.get?_push_size _ rfl
 refine Vb (s:={s1 with heap:=s1.heap.push {cls:=.type "reversed",data:=.fields #[.ref a,rawInt ((its.toArray.size:Int)-1)]},toks:=k}) g ?_;refine⟨s1.heap.objs.size,[s1.heap.objs.size],_,_,H1,rfl,I1.kept (t':=k) fun b o e=>Heap.get?_push_of_some _ e,kg a _ xs.length,⟨Nat.zero_le _,g⟩,fun b hb=>?_,q⟩;obtain rfl:b=s1.heap.objs.size:=by simpa using hb
 exact I1.k4 (Nat.le_refl _) (I1.hok.fresh (Nat.le_refl _))
end
theorem QcZ{K:PySem.W.Frag}{a:Addr}{xs:List V}:Fix (QcY K a xs.length) xs.length (fun H=>SqT K H a xs) (fun i H v H'=>H'=H/\xs[xs.length-1-i]? =some v):=
 ⟨fun i H ok h=>let ⟨x,e⟩:=vc (xs:=xs) (i:=xs.length-1-i) (by omega);⟨xs,x,ok,rfl,h,e⟩,fun H ok=>rfl,fun i H v H' ok _ y=>⟨y.1,y.2 _ ok⟩⟩
section
variable {X:Cx}
open Classical in
theorem Qat{pins:List (Addr × Obj)}{σ:St}{H:Hp}{s:Shared}(I:Inv X pins σ H s){n:Nat}{d:Dv}{x:V}{v:Value}(hu:X.A.units+1+n<cLine)(hx:Deep H x d)(rx:RelV x v):
  ∃f:Value->Bool,∀(its:List Value)(xs:List V)(ds:List Dv),Deeps H xs ds->Vals xs its->(∀e∈ds,e.depth<=n)->(∀y,y∈its->SeqAt.EqAt X.A.in1 s y v (f y))/\its.any f=ds.any fun e=>e.eqb d:=by
 refine⟨fun y=>decide (∃z e,RelV z y/\Deep H z e/\e.eqb d=true),?_⟩;intro its xs ds t rv
 induction rv generalizing ds with
 |nil=>
  cases t;exact fun _=>⟨fun y hy=>(by simp at hy),rfl⟩
 |@cons z y zs ys rz rr ih=>
  cases t with
  |@cons _ e _ es de dt=>
   intro hd;obtain⟨h1,h2⟩:=ih es dt fun e he=>hd e (List.mem_cons_of_mem _ he);have hf:decide (∃z e,RelV z y/\Deep H z e/\e.eqb d=true)=e.eqb d:=by
    by_cases h:e.eqb d=true
    ·rw[h];exact decide_eq_true ⟨z,e,rz,de,h⟩
    ·rw[decide_eq_false,(Bool.not_eq_true _).mp h];rintro⟨z2,e2,r2,d2,q2⟩;obtain rfl:=RelV.inj r2 rz;rw[Deep.inj I d2 de]at q2;exact h q2
   constructor
   ·intro w hw;rcases List.mem_cons.mp hw with rfl|hw
    ·show SeqAt.EqAt X.A.in1 s w v (decide (∃z e,RelV z w/\Deep H z e/\e.eqb d=true));rw[hf];exact Deep.at I n e d z x (hd e List.mem_cons_self) de hx hu rz rx
    ·exact h1 w hw
   ·rw[List.any_cons,List.any_cons,h2,hf]
theorem QbL{A:Around}{k:Nat}(hr:Room k A):A.units+1+7<cLine:=Nat.lt_of_le_of_lt (by omega:A.units+1+7<=A.units+64) hr.units
theorem YB{A:Around}{k:Nat}(hr:Room k A):A.units+16<cLine:=Nat.lt_of_le_of_lt (by omega:A.units+16<=A.units+64) hr.units
theorem Qau{tg a:Expr}{ta:TA}{p p2 pos pos2:Pos}(hg:Gl X "reversed")(hm:X.mg "reversed"=none)(hg2:Gl X "range")(hm2:X.mg "range"=none)(ha:PA X [a] ta)(h1:isStar a=false):
  PI X tg (.Call (.Name "reversed" p) [.Call (.Name "range" p2) [a] [] pos2] [] pos) (QdU (fun σ H Q=>ta σ H fun vs H1=>Q (.int 0::vs) H1)):=by
 intro pins s σ H R I h;have hs3:starEach [.Call (.Name "range" p2) [a] [] pos2] X.env=[(false,eval (.Call (.Name "range" p2) [a] [] pos2) X.env)]:=rfl;refine Call_ (X7 I hg hm boot_reversed (PyProof.Rows.callWith_type1 ?_ hs3 rfl));rw[hs3];show wpAny _ _ (spliced ((false,eval (.Call (.Name "range" p2) [a] [] pos2) X.env)::[])) _ _ s;refine Calls.spliced_cons ?_;refine Call_ (X7 I hg2 hm2 boot_range (PyProof.Rows.callWith_type1 (thn (ha pos2 pins s σ H _ I h) fun us s1⟨vs,H1,I1,r1,i,j,e,bd,q⟩=>?_) (X1 h1) rfl));obtain⟨rfl,rfl⟩:(0:Int)=i/\vs=[.int j]:=by
  injection e with e1 e2;injection e1 with e1;exact⟨e1,e2⟩
 obtain⟨v1,rfl,⟨t,rfl⟩⟩:=vals1 r1;refine call_range_1 (Calls.spliced_nil ?_);have I2:Inv X pins σ H1 {s1 with heap:=s1.heap.push {cls:=.type "range",data:=.fields #[.int 0 s1.toks,.int j t,.int 1 (s1.toks+1)]},toks:=s1.toks+1+1}:=I1.kept fun b o e=>Heap.get?_push_of_some _ e;refine Uw (s:={s1 with heap:=s1.heap.push {cls:=.type "range",data:=.fields #[.int 0 s1.toks,.int j t,.int 1 (s1.toks+1)]},toks:=s1.toks+1+1}) (IsRange.new ..) bd ?_;generalize hS2:({s1 with heap:=s1.heap.push {cls:=.type "range",data:=.fields #[.int 0 s1.toks,.int j t,.int 1 (s1.toks+1)]},toks:=s1.toks+1+1}:Shared)=s2 at I2;have hit:IsRangeIter (s2.heap.push (rvO 0 j)) s2.heap.objs.size (0+((j-0).toNat:Nat)-1+((0:Nat):Int)*(-1)) ((((j-0).toNat:Nat):Int)-((0:Nat):Int)) (-1):=by
  have e1:0+((j-0).toNat:Nat)-1+((0:Nat):Int)*(-1)=0+(Builtin.Range.rangeSize 0 j 1-1)*1:=by rw[x5];simp
  have e2:(((j-0).toNat:Nat):Int)-((0:Nat):Int)=Builtin.Range.rangeSize 0 j 1:=by rw[x5];simp
  rw[e1,e2];exact Heap.get?_push_size _ rfl
 refine wpAny_pyIter_rangeiter (s:={s2 with heap:=s2.heap.push (rvO 0 j)}) hit ?_;refine⟨s2.heap.objs.size,[s2.heap.objs.size],_,_,H1,rfl,I2.kept (t':=s2.toks) fun b o e=>Heap.get?_push_of_some _ e,WU _ _ (-1) _,hit,fun b hb=>?_,q⟩;obtain rfl:b=s2.heap.objs.size:=by simpa using hb
 exact I2.k4 (Nat.le_refl _) (I2.hok.fresh (Nat.le_refl _))
structure PPx(X:Cx)(pos:Pos)(ks:List (Option Expr))(vs:List Expr)(trs:List (TE × TE)):Prop where
 pp:PPs X pos ks vs trs
theorem Qav{pos:Pos}:PPx X pos [] [] []:=⟨z4⟩
theorem Xw{pos:Pos}{k v:Expr}{ks:List (Option Expr)}{vs:List Expr}{tk tv:TE}{trs:List (TE × TE)}(hk:PEx X k tk)(hv:PEx X v tv)(h:PPx X pos ks vs trs):PPx X pos (some k::ks) (v::vs) ((tk,tv)::trs):=⟨V1 hk.pe hv.pe h.pp⟩
theorem kh{pos:Pos}{ks:List (Option Expr)}{vs:List Expr}{trs:List (TE × TE)}(h:PPx X pos ks vs trs)(hall:ks.all (·.isSome)=true)(hl:ks.length=vs.length)(h0:ks≠[])(h15:ks.length<=15):PEx X (.Dict ks vs pos) (wn trs):=⟨z9 h.pp hall hl h0 h15⟩
theorem vm{o i:Expr}{pos:Pos}{td ty:TE}(hu:X.A.units+1<cLine)(ho:PEx X o td)(hi:PEx X i ty)(hs:Qcc i):PEx X (.Subscript o i pos) (Qbi td ty):=⟨KH hu ho.pe hi.pe hs⟩
end
set_option maxHeartbeats 6400000 in
theorem zh{prog:Program}{w:World}{A:Around}{E:Value->Shared->Prop}{s:Shared}{a:Addr}{its:Array Value}{f:Nat->Str}{Q:Value->Shared->Prop}(hh:A.handled=none)(hT0:s.heap.IsList a its)(hf:∀(i:Nat)(v:Value),its[i]? =some v->∃t:Tok,v=Value.str (f i) t) (hb:its.size+1<scanBound)
  (h:∀(h':Heap)(tk:Nat),h'.SetOf (strKind prog w) s.heap.objs.size (fun q=>(met f its.size).any (· ==q)) (met f its.size).length->(∀b o,b<s.heap.objs.size->s.heap.get? b=some o->h'.get? b=some o)->Q (.ref s.heap.objs.size) {s with heap:=h',toks:=tk}):
  wpAny (model prog w) A (call (.type "set") [.ref a]) Q E s:=by
 obtain⟨c,tl,hmro⟩:=F.called_set.mro;have hmade:=F.called_set.made;have hsub:=F.called_set.sub;refine wpAny_call (codeAny_of_tree ?_);show wpAny _ _ (callAny (.type "set") _) _ _ _;refine wpAny_pure ⟨Code.quiet_builtin _ (by decide+kernel),codeAny_builtin F.entry_type_call ?_⟩;rw[Around.under_plain (weight_type_call_type "set" [.ref a] []) rfl];have h1:=F.called_set.notType;have h2:=F.called_set.canCreate;have hct:=F.typeCall_set_1 (.ref a)
 repeat (any_goals (first|assumption|wp_step))
 refine codeAny_mono (code_set_new_1 (.ref a) (E:=E) (Q₁:=fun obj s₁=>∃led:Bool,obj=.ref s.heap.objs.size/\s₁={s with heap:=s.heap.push (x0 led)}) fun led=>⟨led,rfl,rfl⟩) fun r s₁ hr=>?_;cases r with
 |error e=>exact hr
 |ok fl=>
  cases fl with
  |ret obj=>
   obtain⟨led,rfl,rfl⟩:=hr;have hS:(s.heap.push (x0 led)).get? s.heap.objs.size=some (x0 led):=Heap.get?_push_size _ rfl;have hT:Shared.TypeIs {s with heap:=s.heap.push (x0 led)} (.ref s.heap.objs.size) "set":=⟨_,hS,rfl⟩;have hli:=F.called_set.init.lookup;have hbi:=F.called_set.init.bind (.ref s.heap.objs.size)
   repeat (any_goals (first|assumption|wp_step))
   refine codeAny_mono (codeAny_call_builtin (R:=wants (fun r s₂=>r=.none/\∃h' tk,s₂={s with heap:=h',toks:=tk}/\h'.SetOf (strKind prog w) s.heap.objs.size (fun q=>(met f its.size).any (· ==q)) (met f its.size).length/\(∀b o,b<s.heap.objs.size->s.heap.get? b=some o->h'.get? b=some o)) E) F.called_set.init.plain F.entry_set_init (check_set_init_1 hT ?_)) fun r₂ s₂ hr₂=>?_
   ·obtain⟨⟨ocls,odict,odata,oslots⟩,hol,hcl,nl,hdl⟩:=hT0;simp only at hcl hdl;subst hcl;subst hdl;have hol':(s.heap.push (x0 led)).get? a=some {cls:=.type "list",dict:=odict,data:=.seq its nl,slots:=oslots}:=Heap.get?_push_of_some _ hol;have hsls:=F.sub_list_set;have hslf:=F.sub_list_frozenset;have hne:(Value.type "list"==Value.type "dict")=false:=by decide
    have hl1:(s.heap.push (x0 led)).IsList a its:=⟨_,hol',rfl,nl,rfl⟩;unfold Builtin.«set.__init__» noKeywords Builtin.Frozenset.updateFrom;generalize hPI:pyIter=PI
    wp_walk
    subst hPI;refine wpAny_pyIter_list hl1 ?_;refine wpAny_bind (wpAny_runValue ?_);have hlS:a<s.heap.objs.size:=Heap.lt_size hol;have hh3:A.in1.in1.in1.handled=none:=by simp[hh]
    have hneI:a≠(s.heap.push (x0 led)).objs.size:=by rw[Heap.size_push];exact Nat.ne_of_lt (Nat.lt_succ_of_lt hlS)
    have hSf:s.heap.objs.size∉[(s.heap.push (x0 led)).objs.size,a]:=by rw[Heap.size_push];simp only[List.mem_cons,List.mem_singleton,List.not_mem_nil,or_false,not_or];exact⟨Nat.ne_of_lt (Nat.lt_succ_self _),Nat.ne_of_gt hlS⟩
    refine xZ ((Walks.list hh3 _ a hneI its).toS) s.heap.objs.size hSf f hf hb (its.size-0) 0 _ (by omega) (Nat.zero_le _) ⟨⟨_,Heap.get?_push_size _ rfl,rfl,rfl⟩,(hl1.push _)⟩ ?hS0 ?hR
    case hS0=>
     have hget:((s.heap.push (x0 led)).push {cls:=.type "list_iterator",data:=.fields #[.ref a,.int 0 0]}).get? s.heap.objs.size=some (x0 led):=Heap.get?_push_of_some _ hS;exact SetOf_congr ((setObjOf_fresh (knd:=strKind prog w) led).setOf hget (by unfold scanBound;omega)) (fun _=>rfl) rfl
    case hR=>
     intro s' hm hS';obtain⟨h',g',d',tk',os'⟩:=s';obtain rfl:g'=s.gens:=hm.gens;obtain rfl:d'=s.drawn:=hm.drawn;obtain rfl:os'=s.os:=hm.os;show wpAny _ _ _ _ _ _;refine wpAny_pure ?_;show wpAny _ _ (ret Value.none) _ _ _;refine wpAny_pure ⟨rfl,h',tk',rfl,hS',fun b o hb e=>?_⟩;have hb1:b≠s.heap.objs.size:=Nat.ne_of_lt hb;have hb2:b≠(s.heap.push (x0 led)).objs.size:=by rw[Heap.size_push];exact Nat.ne_of_lt (Nat.lt_succ_of_lt hb)
     exact hm.heap b o (by simp only[List.mem_cons,List.mem_singleton,List.not_mem_nil,or_false,not_or];exact⟨hb1,hb2⟩) (Heap.get?_push_of_some _ (Heap.get?_push_of_some _ e))
   ·cases r₂ with
    |error e=>exact hr₂
    |ok fl₂=>
     cases fl₂ with
     |ret r=>
      obtain⟨rfl,h',tk,rfl,hS',hk'⟩:=hr₂
      repeat (any_goals (first|assumption|wp_step))
      exact h _ _ hS' hk'
     |_=>exact hr₂.elim
  |_=>exact hr.elim
section
variable {X:Cx}
theorem kj(hc:X.calm=true):X9 X (.type "set") (fun xs H Q=>∃(p:Addr)(ys:List Str),xs=[.ref p]/\SqL X.K H p (ys.map V.str)/\ys.length<1000/\∀q,H q=none->Q (.ref q) (upd H q (Qcd X.prog X.w q (many ys)))):=by
 intro pins s σ H xs us Q I r h;obtain⟨p,ys,rfl,hq,hy,q⟩:=h;obtain⟨u,rfl,ru⟩:=vals1 r;obtain rfl:u=Value.ref p:=ru;obtain⟨its,rv,pl,hl⟩:=I.list hq;have hlen:=rv.length;rw[List.length_map]at hlen;refine zh (f:=fun i=>ys.getD i "") (I.ok.hd hc) pl.isList (Qan rv) (by rw[List.size_toArray, ←hlen];unfold scanBound;omega) fun h' tk hS hk=>?_;have esz:its.toArray.size=ys.length:=by rw[List.size_toArray,hlen]
 rw[esz]at hS;have hn:=I.hok.fresh (Nat.le_refl s.heap.objs.size);refine⟨.ref s.heap.objs.size,upd H s.heap.objs.size (Qcd X.prog X.w s.heap.objs.size (many ys)),?_,rfl,q _ hn⟩;refine I.Qam (ch:=[]) (fun b hb=>by cases hb) (fun b o _ e=>hk b o (Heap.lt_size e) e) (Nat.le_refl _) ?_;refine⟨⟨_,hS⟩,?_,fun h1 h2⟨S,z⟩ kk=>⟨S,?_⟩⟩
 ·obtain⟨o,es,ep,t,ho,_⟩:=hS;exact⟨o,ho⟩
 ·obtain⟨o,es,ep,t,ho,rest⟩:=z;exact⟨o,es,ep,t,kk o ho,rest⟩
theorem qh{f:Nat->Str}:∀{n:Nat}{x:Str},(met f n).any (· ==x)=true↔∃i,i<n/\f i=x
 |0,x=>⟨fun h=>by simp[met]at h,fun⟨i,h,_⟩=>absurd h (Nat.not_lt_zero _)⟩
 |n+1,x=>by
  show(jg (met f n) (f n)).any (· ==x)=true↔_;rw[jh,Bool.or_eq_true,qh (n:=n),decide_eq_true_iff];constructor
  ·rintro(⟨i,hi,e⟩|e)
   ·exact⟨i,by omega,e⟩
   ·exact⟨n,by omega,e.symm⟩
  ·rintro⟨i,hi,e⟩
   by_cases h:i=n
   ·subst h;exact .inr e.symm
   ·exact .inl ⟨i,by omega,e⟩
theorem YC{f:Nat->Str}:∀{n:Nat},(met f n).length=n↔∀i j,i<j->j<n->f i≠f j
 |0=>⟨fun _ i j _ h=>absurd h (Nat.not_lt_zero _),fun _=>rfl⟩
 |n+1=>by
  have hle:=xY f n;have ih:=YC (f:=f) (n:=n);show(jg (met f n) (f n)).length=n+1↔_;rw[Yw]
  by_cases ha:(met f n).any (· ==f n)=true
  ·rw[if_pos ha];obtain⟨i,hi,e⟩:=qh.mp ha;exact⟨fun z=>by omega,fun z=>absurd e (z i n hi (by omega))⟩
  ·rw[if_neg ha];constructor
   ·intro z i j hij hj
    by_cases h:j=n
    ·subst h;exact fun e=>ha (qh.mpr ⟨i,hij,e⟩)
    ·exact ih.mp (by omega) i j hij (by omega)
   ·intro z;rw[ih.mpr fun i j hij hj=>z i j hij (by omega)]
def unlike:List Str->Bool
 |[]=>true
 |y::ys=> !(ys.any (· ==y))&&unlike ys
theorem Xx:∀{ys:List Str},unlike ys=true↔∀i j,i<j->j<ys.length->ys.getD i ""≠ys.getD j ""
 |[]=>⟨fun _ i j _ h=>absurd h (Nat.not_lt_zero _),fun _=>rfl⟩
 |y::ys=>by
  have ih:=Xx (ys:=ys);rw[unlike,Bool.and_eq_true,ih];constructor
  ·rintro⟨h1,h2⟩ i j hij hj;obtain⟨j',rfl⟩:∃j',j=j'+1:=⟨j-1,by omega⟩;cases i with
   |zero=>
    intro e;have hj':j'<ys.length:=by simpa using hj
    have:ys.any (· ==y)=true:=List.any_eq_true.mpr ⟨ys.getD j' "",by rw[List.getD_eq_getElem?_getD,List.getElem?_eq_getElem hj'];exact List.getElem_mem hj',by simpa using e.symm⟩;rw[this]at h1;cases h1
   |succ i=>exact h2 i j' (by omega) (by simpa using hj)
  ·intro h;refine⟨?_,fun i j hij hj=>h (i+1) (j+1) (by omega) (by simpa using hj)⟩;cases e:ys.any (· ==y)with
   |false=>rfl
   |true=>
    obtain⟨x,hx,hxy⟩:=List.any_eq_true.mp e;obtain⟨j,hj,rfl⟩:=List.mem_iff_getElem.mp hx;exact absurd (show(y::ys).getD 0 ""=(y::ys).getD (j+1) "" by simp[List.getD,hj];exact(beq_iff_eq.mp hxy).symm) (h 0 (j+1) (by omega) (by simpa using hj))
theorem vn(ys:List Str):decide (many ys=ys.length)=unlike ys:=by
 by_cases h:unlike ys=true
 ·rw[h];exact decide_eq_true (YC.mpr (Xx.mp h))
 ·rw[(Bool.not_eq_true _).mp h];exact decide_eq_false fun z=>h (Xx.mpr (YC.mp z))
end
inductive Wx where
 |non|bl (b:Bool)|int (i:Int)|str (x:Str)|tup (ds:List Wx)|lst
mutual
inductive Ws (H:Hp):V->Wx->Prop where
 |non:Ws H .non .non
 |bl {b:Bool}:Ws H (.bl b) (.bl b)
 |int {i:Int}:Ws H (.int i) (.int i)
 |str {x:Str}:Ws H (.str x) (.str x)
 |tup {a:Addr} {xs:List V} {ds:List Wx} (h:H a=some (.tup xs)) (t:Wss H xs ds):Ws H (.ref a) (.tup ds)
 |lst {a:Addr} {xs:List V} (h:H a=some (.lst xs)):Ws H (.ref a) .lst
inductive Wss (H:Hp):List V->List Wx->Prop where
 |nil:Wss H [] []
 |cons {x:V} {d:Wx} {xs:List V} {ds:List Wx} (h:Ws H x d) (t:Wss H xs ds):Wss H (x::xs) (d::ds)
end
theorem Wss.length{H:Hp}:∀{xs:List V}{ds:List Wx},Wss H xs ds->xs.length=ds.length
 |_,_,.nil=>rfl
 |_,_,.cons _ t=>congrArg (· +1) t.length
theorem Wss.XZ{H:Hp}:∀{xs:List V}{ds:List Wx}{i:Nat}{x:V},Wss H xs ds->xs[i]? =some x->∃d,ds[i]? =some d/\Ws H x d
 |_,_,_,_,.nil,e=>by simp at e
 |_,_,0,_,.cons h _,e=>by
  simp at e;subst e;exact⟨_,rfl,h⟩
 |_,_,i+1,d,.cons _ t,e=>by
  obtain⟨x,h1,h2⟩:=Wss.XZ (i:=i) t (by simpa using e);exact⟨x,by simpa using h1,h2⟩
theorem Wss.append{H:Hp}:∀{xs ys:List V}{ds es:List Wx},Wss H xs ds->Wss H ys es->Wss H (xs++ys) (ds++es)
 |_,_,_,_,.nil,t=>t
 |_,_,_,_,.cons h t,u=>.cons h (t.append u)
theorem Wss.take{H:Hp}:∀{xs:List V}{ds:List Wx}(n:Nat),Wss H xs ds->Wss H (xs.take n) (ds.take n)
 |_,_,0,_=>by simpa using Wss.nil
 |_,_,n+1,.nil=>by simpa using Wss.nil
 |_,_,n+1,.cons h t=>by simpa using Wss.cons h (t.take n)
theorem Wss.drop{H:Hp}:∀{xs:List V}{ds:List Wx}(n:Nat),Wss H xs ds->Wss H (xs.drop n) (ds.drop n)
 |_,_,0,t=>by simpa using t
 |_,_,n+1,.nil=>by simpa using Wss.nil
 |_,_,n+1,.cons h t=>by simpa using t.drop n
mutual
theorem Ws.keep{H H':Hp}(k:∀b ys,H b=some (.tup ys)->H' b=some (.tup ys)) (kl:∀b ys,H b=some (.lst ys)->∃zs,H' b=some (.lst zs)):∀{x:V}{d:Wx},Ws H x d->Ws H' x d
 |_,_,.non=>.non
 |_,_,.bl=>.bl
 |_,_,.int=>.int
 |_,_,.str=>.str
 |_,_,.tup h t=>.tup (k _ _ h) (Wss.keep k kl t)
 |_,_,.lst h=>let ⟨_,e⟩:=kl _ _ h; .lst e
theorem Wss.keep{H H':Hp}(k:∀b ys,H b=some (.tup ys)->H' b=some (.tup ys)) (kl:∀b ys,H b=some (.lst ys)->∃zs,H' b=some (.lst zs)):∀{xs:List V}{ds:List Wx},Wss H xs ds->Wss H' xs ds
 |_,_,.nil=>.nil
 |_,_,.cons h t=>.cons (h.keep k kl) (Wss.keep k kl t)
end
theorem Ws.same{H H':Hp}{x:V}{d:Wx}(h:Ws H x d)(S:Qk H H'):Ws H' x d:=h.keep (fun b ys e=>S _ _ e) (fun b ys e=>⟨ys,S _ _ e⟩)
theorem Wss.same{H H':Hp}{xs:List V}{ds:List Wx}(h:Wss H xs ds)(S:Qk H H'):Wss H' xs ds:=h.keep (fun b ys e=>S _ _ e) (fun b ys e=>⟨ys,S _ _ e⟩)
theorem Ws.Wo{H:Hp}{q:Addr}{xs ys:List V}{x:V}{d:Wx}(h:Ws H x d)(g:H q=some (.lst xs)):Ws (upd H q (.lst ys)) x d:=h.keep (fun b zs e=>by rw[Qp (fun z=>by rw[z,g]at e;cases e)];exact e) (fun b zs e=>by
 by_cases z:b=q
 ·subst z;exact⟨ys,Qc⟩
 ·exact⟨zs,by rw[Qp z];exact e⟩)
theorem Wss.Wo{H:Hp}{q:Addr}{xs ys zs:List V}{ds:List Wx}(h:Wss H zs ds)(g:H q=some (.lst xs)):Wss (upd H q (.lst ys)) zs ds:=h.keep (fun b zs e=>by rw[Qp (fun z=>by rw[z,g]at e;cases e)];exact e) (fun b zs e=>by
 by_cases z:b=q
 ·subst z;exact⟨ys,Qc⟩
 ·exact⟨zs,by rw[Qp z];exact e⟩)
mutual
def toW:Dv->Wx
 | .non=>.non
 | .bl b=>.bl b
 | .int i=>.int i
 | .str x=>.str x
 | .tup ds=>.tup (Zr ds)
def Zr:List Dv->List Wx
 |[]=>[]
 |d::ds=>toW d::Zr ds
end
theorem YD:∀ds,Zr ds=ds.map toW
 |[]=>rfl
 |d::ds=>by rw[Zr,YD ds];rfl
mutual
theorem Deep.ws{H:Hp}:∀{v:V}{d:Dv},Deep H v d->Ws H v (toW d)
 |_,_,.non=>by rw[toW];exact .non
 |_,_,.bl=>by rw[toW];exact .bl
 |_,_,.int=>by rw[toW];exact .int
 |_,_,.str=>by rw[toW];exact .str
 |_,_,.tup h t=>by rw[toW];exact .tup h (Deeps.ws t)
theorem Deeps.ws{H:Hp}:∀{xs:List V}{ds:List Dv},Deeps H xs ds->Wss H xs (Zr ds)
 |_,_,.nil=>by rw[Zr];exact .nil
 |_,_,.cons h t=>by rw[Zr];exact .cons (Deep.ws h) (Deeps.ws t)
end
mutual
theorem Ws.deep{H:Hp}:∀{d:Dv}{v:V},Ws H v (toW d)->Deep H v d
 | .non,_,h=>by rw[toW]at h;cases h;exact .non
 | .bl b,_,h=>by rw[toW]at h;cases h;exact .bl
 | .int i,_,h=>by rw[toW]at h;cases h;exact .int
 | .str x,_,h=>by rw[toW]at h;cases h;exact .str
 | .tup ds,_,h=>by
  rw[toW]at h;cases h with
  |tup h t=>exact .tup h (Wss.deep t)
theorem Wss.deep{H:Hp}:∀{ds:List Dv}{xs:List V},Wss H xs (Zr ds)->Deeps H xs ds
 |[],_,h=>by rw[Zr]at h;cases h;exact .nil
 |d::ds,_,h=>by
  rw[Zr]at h;cases h with
  |cons h t=>exact .cons (Ws.deep h) (Wss.deep t)
end
def tyW:Wx->String
 | .non=>"NoneType"
 | .bl _=>"bool"
 | .int _=>"int"
 | .str _=>"str"
 | .tup _=>"tuple"
 | .lst=>"list"
theorem Ws.ty{K:PySem.W.Frag}{H:Hp}{v:V}{d:Wx}(h:Ws H v d):TyOf K H v (.type (tyW d)):=by
 cases h with
 |non=>exact .non
 |bl=>exact .bl _
 |int=>exact .int _
 |str=>exact .str _
 |tup h t=>exact .tup h
 |lst h=>exact .lst h
theorem Ws.X0{H:Hp}{v:V}{ds:List Wx}(h:Ws H v (.tup ds)):∃a xs,v=.ref a/\H a=some (.tup xs)/\Wss H xs ds:=by
 cases h with
 |tup h t=>exact⟨_,_,rfl,h,t⟩
theorem Ws.YX{H:Hp}{v:V}{x:Str}(h:Ws H v (.str x)):v=.str x:=by cases h;rfl
theorem Ws.ve{H:Hp}{v:V}{x:Int}(h:Ws H v (.int x)):v=.int x:=by cases h;rfl
theorem QbM{H:Hp}{xs:List V}{ds:List Wx}(t:Wss H xs ds){p:Addr}(hp:H p=none):Ws (upd H p (.tup xs)) (.ref p) (.tup ds):=.tup Qc (t.same (Qk.new hp))
def TaW(σ:St)(H0:Hp)(ta:TA)(ds:List Wx):Prop:=∀(H:Hp)(R:List V->Hp->Prop),Qk H0 H->(∀xs H1,Qk H H1->Wss H1 xs ds->R xs H1)->ta σ H R
section
variable {σ:St}{H0:Hp}{t:TA}{ds:List Wx}
theorem KY:TaW σ H0 Wq []:=fun H R _ h=>h [] H (Qk.refl _) .nil
theorem X2{x:Str}(h:TaW σ H0 t ds):TaW σ H0 (QX (tC (.str x)) t) (.str x::ds):=fun H R S0 k=>h H _ S0 fun xs H1 S t=>k _ _ S (.cons .str t)
theorem qi{i:Int}(h:TaW σ H0 t ds):TaW σ H0 (QX (tC (.int i)) t) (.int i::ds):=fun H R S0 k=>h H _ S0 fun xs H1 S t=>k _ _ S (.cons .int t)
theorem Vc{t1:TA}{es:List Wx}(h1:TaW σ H0 t1 es)(hl:es.length<=sizeLine)(h:TaW σ H0 t ds):TaW σ H0 (QX (QaU t1) t) (.tup es::ds):=fun H R S0 k=>h1 H _ S0 fun xs H1 S t1=>⟨by rw[t1.length];exact hl,fun p hp=>h _ _ ((S0.trans S).trans (Qk.new hp)) fun ys H2 S2 t2=>k _ _ ((S.trans (Qk.new hp)).trans S2) (.cons ((QbM t1 hp).same S2) t2)⟩
theorem Qc0{te:TA}{Q:VK}{H:Hp}(h:TaW σ H0 te ds)(S0:Qk H0 H)(hl:ds.length<=sizeLine)(k:∀q xs H',Qk H H'->H q=none->H' q=some (.lst xs)->Wss H' xs ds->Q (.ref q) H'):QaV te σ H Q:=h H _ S0 fun xs H1 S t=>⟨by rw[t.length];exact hl,fun p hp=>k p xs _ (S.trans (Qk.new hp)) (by
 cases e:H p with
 |none=>rfl
 |some o=>rw[S _ _ e]at hp;cases hp) Qc (t.same (Qk.new hp))⟩
end
end L2
namespace Lw
open PySem PySem.Spec PyProof.Rows L2 K02 K04
open Builtin Builtin.Str StrLaws
inductive Ly where
 |box (nm:Str) (p:Nat)
 |grp (nm:Str) (its:List (Bool × Ly))
 |tab (nm:Str) (k:Nat) (its:List (Bool × Ly))
def Uy:Nat->Str
 |0=>"9(3)"|1=>"S99V9"|2=>"X(4)"|3=>"AA"|4=>"Z9.9"|5=>"X"|6=>"X(60)"|7=>"9"|8=>"XX"|9=>"X(3)"|10=>"S9V9"|_=>"X"
def szP:Nat->Nat
 |0=>3|1=>3|2=>4|3=>2|4=>4|5=>1|6=>60|7=>1|8=>2|9=>3|10=>2|_=>1
mutual
def Ly.dv:Ly->Dv
 | .box nm p=>.tup [.str "box",.str nm,.str (Uy p)]
 | .grp nm its=>.tup [.str "group",.str nm,.tup (dvL its)]
 | .tab nm k its=>.tup [.str "table",.str nm,.int (k:Nat),.tup (dvL its)]
def dvL:List (Bool × Ly)->List Dv
 |[]=>[]
 |x::xs=>dvI x::dvL xs
def dvI:Bool × Ly->Dv
 |(ov,y)=>if ov=true then .tup [.str "over",y.dv]else y.dv
end
mutual
def Ly.sz:Ly->Nat
 | .box _ p=>szP p
 | .grp _ its=>szL its
 | .tab _ k its=>szL its*k
def szL:List (Bool × Ly)->Nat
 |[]=>0
 |x::xs=>szI x+szL xs
def szI:Bool × Ly->Nat
 |(ov,y)=>if ov=true then 0 else y.sz
end
mutual
def Ly.cn:Ly->Nat
 | .box _ _=>1
 | .grp _ its=>1+cnL its
 | .tab _ _ its=>1+cnL its
def cnL:List (Bool × Ly)->Nat
 |[]=>0
 |x::xs=>cnI x+cnL xs
def cnI:Bool × Ly->Nat
 |(_,y)=>y.cn
end
mutual
def Ly.okK:Ly->Prop
 | .box _ _=>True
 | .grp _ its=>okL its
 | .tab _ k its=>k<=1000/\okL its
def okL:List (Bool × Ly)->Prop
 |[]=>True
 |x::xs=>okI x/\okL xs
def okI:Bool × Ly->Prop
 |(_,y)=>y.okK
end
theorem Wj:∀{its:List (Bool × Ly)}{j:Nat}{x:Bool × Ly},okL its->its[j]? =some x->okI x
 |[],_,_,_,h=>by simp at h
 |y::ys,0,x,o,h=>by
  rw[okL]at o;have:y=x:=by simpa using h
  subst this;exact o.1
 |y::ys,j+1,x,o,h=>by
  rw[okL]at o;exact Wj (its:=ys) (j:=j) o.2 (by simpa using h)
theorem Q7:∀its:List (Bool × Ly),dvL its=its.map dvI
 |[]=>rfl
 |x::xs=>by rw[dvL,Q7 xs];rfl
theorem Ly.yk(y:Ly):1<=y.cn:=by cases y<;>rw[Ly.cn]<;>omega
theorem km(x:Bool × Ly):1<=cnI x:=by obtain⟨o,y⟩:=x;rw[cnI];exact y.yk
theorem Uz:∀its:List (Bool × Ly),its.length<=cnL its
 |[]=>Nat.zero_le _
 |x::xs=>by
  have:=Uz xs;have:=km x;rw[List.length_cons,cnL];omega
theorem ZB{l:List Nat}{x:Facts}{z:Str}{n:Nat}(e:z=tx l)(h1:ZP l=some x)(h2:40∉l)(h3:l.length<=100)(h4:(l.filter UK).length=n):∃(a l:List Nat)(x:Facts),z=tx l/\PicAt a l x/\(a.filter UK).length=n:=
 ⟨l,l,x,e,⟨h1,Qag l h2,h2,h3,by omega⟩,h4⟩
theorem qj{c d m:Nat}{x:Facts}{z:Str}(e:z=tx [c,40,d,41])(h1:ZP [c,40,d,41]=some x)(hc:c≠40)(hn:Num [d] (m+1))(hm:m<=50)(h4:UK c=true):∃(a l:List Nat)(x:Facts),z=tx l/\PicAt a l x/\(a.filter UK).length=m+1:=by
 refine⟨List.replicate (m+1) c,_,x,e,⟨h1,?_,?_,by rw[List.length_replicate];omega,(show 4<=500 by decide)⟩,?_⟩
 ·exact Sh.brk m Sh.nil hc hn
 ·intro h;exact hc (List.eq_of_mem_replicate h).symm
 ·rw[List.filter_eq_self.mpr (fun y hy=>by rw[List.eq_of_mem_replicate hy];exact h4),List.length_replicate]
theorem YE(p:Nat):∃(a l:List Nat)(x:Facts),Uy p=tx l/\PicAt a l x/\(a.filter UK).length=szP p:=by
 unfold Uy szP
 split
 ·exact qj (c:=57) (d:=51) (m:=2) (by decide+kernel) (by first|rfl|decide+kernel) (by decide) ⟨by decide,(fun x hx=>by obtain rfl:=List.mem_singleton.mp hx;decide),by decide,by decide⟩ (by decide) (by decide)
 ·exact ZB (l:=[83,57,57,86,57]) (by decide+kernel) (by first|rfl|decide+kernel) (by decide) (by decide) (by decide)
 ·exact qj (c:=88) (d:=52) (m:=3) (by decide+kernel) (by first|rfl|decide+kernel) (by decide) ⟨by decide,(fun x hx=>by obtain rfl:=List.mem_singleton.mp hx;decide),by decide,by decide⟩ (by decide) (by decide)
 ·exact ZB (l:=[65,65]) (by decide+kernel) (by first|rfl|decide+kernel) (by decide) (by decide) (by decide)
 ·exact ZB (l:=[90,57,46,57]) (by decide+kernel) (by first|rfl|decide+kernel) (by decide) (by decide) (by decide)
 ·exact ZB (l:=[88]) (by decide+kernel) (by first|rfl|decide+kernel) (by decide) (by decide) (by decide)
 ·refine⟨List.replicate 60 88,[88,40,54,48,41],_,by decide+kernel,⟨by first|rfl|decide+kernel,Sh.brk (c:=88) (d:=[54,48]) 59 Sh.nil (by decide) ⟨by decide,(fun x hx=>by simp only[List.mem_cons,List.not_mem_nil,or_false]at hx;rcases hx with rfl|rfl<;>decide),by decide,by decide⟩,by decide,by decide,by decide⟩,by decide⟩
 ·exact ZB (l:=[57]) (by decide+kernel) (by first|rfl|decide+kernel) (by decide) (by decide) (by decide)
 ·exact ZB (l:=[88,88]) (by decide+kernel) (by first|rfl|decide+kernel) (by decide) (by decide) (by decide)
 ·exact qj (c:=88) (d:=51) (m:=2) (by decide+kernel) (by first|rfl|decide+kernel) (by decide) ⟨by decide,(fun x hx=>by obtain rfl:=List.mem_singleton.mp hx;decide),by decide,by decide⟩ (by decide) (by decide)
 ·exact ZB (l:=[83,57,86,57]) (by decide+kernel) (by first|rfl|decide+kernel) (by decide) (by decide) (by decide)
 ·exact ZB (l:=[88]) (by decide+kernel) (by first|rfl|decide+kernel) (by decide) (by decide) (by decide)
structure LsSt(Hb H:Hp)(q:Addr)(xs:List V)(acc:List Dv):Prop where
 S:Qk Hb H
 f:Hb q=none
 g:H q=some (.lst xs)
 t:Deeps H xs acc
theorem Xy{H H2:Hp}{l:Addr}{o:HO}(S:Qk H H2)(h:H l=none):Qk H (upd H2 l o):=fun b o' e=>by rw[Qp (Qs e h)];exact S _ _ e
theorem LsSt.same{Hb H H':Hp}{q:Addr}{xs:List V}{acc:List Dv}(B:LsSt Hb H q xs acc)(S:Qk H H'):LsSt Hb H' q xs acc:=⟨B.S.trans S,B.f,S _ _ B.g,B.t.same S⟩
theorem LsSt.put{Hb H:Hp}{q:Addr}{xs ys:List V}{acc acc':List Dv}(B:LsSt Hb H q xs acc)(t:Deeps H ys acc'):LsSt Hb (upd H q (.lst ys)) q ys acc':=⟨Xy B.S B.f,B.f,Qc,t.Wo B.g (fun zs z=>nomatch z)⟩
section
variable {P:Program}{w:World}{K:PySem.W.Frag}{mg:Str->Option Value}{base:Heap}{f:Addr}{fd:FuncData}{tk:Nat->Tok}{c kr:Nat->Addr}
def Ly.word:Ly->Str
 | .box _ _=>"box"
 | .grp _ _=>"group"
 | .tab _ _ _=>"table"
def Ly.name:Ly->Str
 | .box nm _=>nm
 | .grp nm _=>nm
 | .tab nm _ _=>nm
theorem Ks{H:Hp}{v:V}{nm:Str}{p:Nat}(h:Deep H v (Ly.box nm p).dv):∃a,v=.ref a/\H a=some (.tup [.str "box",.str nm,.str (Uy p)]):=by
 rw[Ly.dv]at h;obtain⟨a,xs,rfl,g,t⟩:=Deep.X0 h;cases t with
 |cons p1 t=>cases t with
  |cons p2 t=>cases t with
   |cons p3 t=>
    cases t;obtain rfl:=p1.YX;obtain rfl:=p2.YX;obtain rfl:=p3.YX;exact⟨a,rfl,g⟩
theorem XJ{H:Hp}{v:V}{nm:Str}{its:List (Bool × Ly)}(h:Deep H v (Ly.grp nm its).dv):∃a x,v=.ref a/\H a=some (.tup [.str "group",.str nm,x])/\Deep H x (.tup (dvL its)):=by
 rw[Ly.dv]at h;obtain⟨a,xs,rfl,g,t⟩:=Deep.X0 h;cases t with
 |cons p1 t=>cases t with
  |cons p2 t=>cases t with
   |cons p3 t=>
    cases t;obtain rfl:=p1.YX;obtain rfl:=p2.YX;exact⟨a,_,rfl,g,p3⟩
theorem Xi{H:Hp}{v:V}{nm:Str}{k:Nat}{its:List (Bool × Ly)}(h:Deep H v (Ly.tab nm k its).dv):∃a x,v=.ref a/\H a=some (.tup [.str "table",.str nm,.int (k:Nat),x])/\Deep H x (.tup (dvL its)):=by
 rw[Ly.dv]at h;obtain⟨a,xs,rfl,g,t⟩:=Deep.X0 h;cases t with
 |cons p1 t=>cases t with
  |cons p2 t=>cases t with
   |cons p3 t=>cases t with
    |cons p4 t=>
     cases t;obtain rfl:=p1.YX;obtain rfl:=p2.YX;obtain rfl:=p3.ve;exact⟨a,_,rfl,g,p4⟩
theorem X3{H:Hp}{v:V}{y:Ly}(h:Deep H v (dvI (true,y))):∃a x,v=.ref a/\H a=some (.tup [.str "over",x])/\Deep H x y.dv:=by
 rw[dvI,if_pos rfl]at h;obtain⟨a,xs,rfl,g,t⟩:=Deep.X0 h;cases t with
 |cons p1 t=>cases t with
  |cons p2 t=>
   cases t;obtain rfl:=p1.YX;exact⟨a,_,rfl,g,p2⟩
theorem qk{H:Hp}{v:V}{y:Ly}(h:Deep H v y.dv):∃a xs,v=.ref a/\H a=some (.tup (.str y.word:: .str y.name::xs)):=by
 cases y with
 |box nm p=>obtain⟨a,rfl,g⟩:=Ks h;exact⟨a,_,rfl,g⟩
 |grp nm its=>obtain⟨a,x,rfl,g,_⟩:=XJ h;exact⟨a,_,rfl,g⟩
 |tab nm k its=>obtain⟨a,x,rfl,g,_⟩:=Xi h;exact⟨a,_,rfl,g⟩
theorem Qdk:decide (V.str "box"=V.str "over")=false:=by decide+kernel
theorem Qdl:decide (V.str "group"=V.str "over")=false:=by decide+kernel
theorem Qdm:decide (V.str "table"=V.str "over")=false:=by decide+kernel
theorem vo:decide (V.str "group"=V.str "box")=false:=by decide+kernel
theorem vq:decide (V.str "table"=V.str "box")=false:=by decide+kernel
theorem Qce:decide (V.str "table"=V.str "group")=false:=by decide+kernel
theorem QdW:decide (V.str "over"=V.str "box")=false:=by decide+kernel
theorem QdX:decide (V.str "over"=V.str "group")=false:=by decide+kernel
theorem QdY:decide (V.str "over"=V.str "table")=false:=by decide+kernel
theorem QbN:decide (V.str "box"=V.str "table")=false:=by decide+kernel
theorem QaY:decide (V.str "group"=V.str "table")=false:=by decide+kernel
theorem ZK(y:Ly):decide (V.str y.word=V.str "over")=false:=by
 cases y with
 |box nm p=>exact Qdk
 |grp nm its=>exact Qdl
 |tab nm k its=>exact Qdm
def ji:Sp:=fun vs H Q _=>∃(v:V)(o:Bool)(y:Ly),vs=[v]/\Deep H v (dvI (o,y))/\∀u,Deep H u y.dv->Q u H
theorem Qaw(F:Fun K "bare" "bare" qZ f fd):FnOk P w K mg base (CXE P w) 1 f fd ["item"] ji:=by
 refine WQ F xz (fun vs H Q E h=>?_) (fun cdv A outer s H vs Q E hr h=>?_)
 ·obtain⟨v,o,y,rfl,_⟩:=h;rfl
 ·obtain⟨v,o,y,rfl,D,k⟩:=h;refine⟨_,(Qt (QE (VN (Qi QU (Qv Qq (pv 0) Qd (fun _ _=>rfl)) Qm (Qo _)) (PEx.mk (Qv Qq (pv 0) Qd (fun _ _=>rfl))) (PEx.mk (pv 0))))),?_⟩;cases o with
  |true=>
   obtain⟨a,x,rfl,g,D2⟩:=X3 D;exact⟨_,rfl,a,_,0,_,rfl,rfl,.inl g,rfl,rfl,true,rfl,QH ⟨_,rfl,a,_,1,_,rfl,rfl,.inl g,rfl,k _ D2⟩⟩
  |false=>
   have D:Deep H v y.dv:=by rw[dvI,if_neg (by decide)]at D;exact D
   obtain⟨a,xs,rfl,g⟩:=qk D;exact⟨_,rfl,a,_,0,_,rfl,rfl,.inl g,QL (j:=0) rfl,rfl,false,by rw[ZK],QG ⟨_,rfl,k _ D⟩⟩
def stD(x:List (Bool × Ly) × Nat):Dv:=.tup [.tup (dvL x.1),.int (x.2:Nat)]
def wS:List (List (Bool × Ly) × Nat)->Nat
 |[]=>0
 |x::xs=>szL x.1*x.2+wS xs
def cS:List (List (Bool × Ly) × Nat)->Nat
 |[]=>0
 |x::xs=>(1+cnL x.1)+cS xs
theorem jj:∀a b,wS (a++b)=wS a+wS b
 |[],b=>by rw[List.nil_append,wS];omega
 |x::a,b=>by rw[List.cons_append,wS,wS,jj a b];omega
theorem jk:∀a b,cS (a++b)=cS a+cS b
 |[],b=>by rw[List.nil_append,cS];omega
 |x::a,b=>by rw[List.cons_append,cS,cS,jk a b];omega
theorem kn:∀st,st.length<=cS st
 |[]=>Nat.zero_le _
 |x::xs=>by
  have:=kn xs;rw[List.length_cons,cS];omega
def Xj:Sp:=fun vs H Q _=>∃(v:V)(its:List (Bool × Ly)),vs=[v]/\Deep H v (.tup (dvL its))/\cnL its<=10000/\okL its/\∀H',Qk H H'->Q (.int (szL its:Nat)) H'
theorem yl{its:List (Bool × Ly)}{j:Nat}{x:Bool × Ly}(h:its[j]? =some x):szL (its.drop j)=szI x+szL (its.drop (j+1))/\cnL (its.drop j)=cnI x+cnL (its.drop (j+1)):=by
 have hl:=(List.getElem?_eq_some_iff.mp h).1;rw[List.drop_eq_getElem_cons hl,(List.getElem?_eq_some_iff.mp h).2,szL,cnL];exact⟨rfl,rfl⟩
set_option maxHeartbeats 2000000 in
theorem Vd(F:Fun K "signs_in" "signs_in" KO f fd)(D_size_of:Def P w K mg base 7 "size_of" ["picture"] jd):FnOk P w K mg base (CXE P w) 8 f fd ["layout"] Xj:=by
 refine WQ F Jr (fun vs H Q E h=>?_) (fun cdv A outer s H vs Q E hr h=>?_)
 ·obtain⟨v,its,rfl,_⟩:=h;rfl
 ·obtain⟨v,its,rfl,D,hc,hok,k⟩:=h;have hz:100000<=sizeLine:=by rw[sizeLine_eq];decide
  refine⟨_,(Qr (QR (i:=1) Jr.nd rfl (Or.inl rfl) (PEx.mk Qd) rfl rfl)
   (Qr (QR (i:=2) Jr.nd rfl (Or.inl rfl) (XR (QV (Js (QV (PEx.mk (pv 0)) (QV (PEx.mk Qd) QN rfl) rfl)) QN rfl)) rfl rfl)
   (Qr (PSy.mk (Xo PassesOwn.never (JT (pv 2) (fun _=>rfl)) (Qe (Ju (qM PySem.F.plainAttrs_list PySem.F.slot_list_pop PySem.F.type_list_pop qN (pv 2)) (Q8 rfl (Qj (Qh (i:=3) Jr.nd rfl (Or.inl rfl)) (Qj (Qh (i:=4) Jr.nd rfl (Or.inl rfl)) QK))))
   (Qg (X8 PassesOwn.never rfl (Z3 (pv 3)) (Qh (i:=5) Jr.nd rfl (Or.inl rfl)) (Qg (QY (Qi QU (Qv Qq (pv 5) Qd (fun _ _=>rfl)) Qm (Qo _)) (Qg (K8 (i:=1) Jr.nd rfl (Or.inl rfl) (QM Wb (pv 4) (D_size_of.pe hr (by decide) rfl Qx (Qw (Qv Qq (pv 5) Qd (fun _ _=>rfl)) Qb))) WH)) (Qg (QY (Qi QU (Qv Qq (pv 5) Qd (fun _ _=>rfl)) Qm (Qo _)) (Qg (Zm (ZN PySem.F.plainAttrs_list PySem.F.slot_list_append PySem.F.type_list_append JV (pv 2) (Qw (Qz (Qw (Qv Qq (pv 5) Qd (fun _ _=>rfl)) (Qw (pv 4) Qb))) Qb)))) (Qg (QY (Qi QU (Qv Qq (pv 5) Qd (fun _ _=>rfl)) Qm (Qo _)) (Qg (Zm (ZN PySem.F.plainAttrs_list PySem.F.slot_list_append PySem.F.type_list_append JV (pv 2) (Qw (Qz (Qw (Qv Qq (pv 5) Qd (fun _ _=>rfl)) (Qw (QM Wb (pv 4) (Qv Qq (pv 5) Qd (fun _ _=>rfl))) Qb))) Qb)))) QD)))))))))))
   (Qt (QE (PEx.mk (pv 1))))))),?_⟩
  dsimp only[QJ,JS,ZI,QQ];refine⟨_,rfl,by show 2<=sizeLine;omega,fun p hp=>⟨by show 1<=sizeLine;omega,fun lf hlf=>?_⟩⟩;have S1:=Qk.new (o:=.tup [v,.int 1]) hp;have hf0:H lf=none:=by
   cases e:H lf with
   |none=>rfl
   |some o=>rw[S1 _ _ e]at hlf;cases hlf
  have B1:LsSt H (upd (upd H p (.tup [v,.int 1])) lf (.lst [.ref p])) lf [.ref p] ([(its,1)].map stD):=by
   have S2:=Qk.new (o:=.lst [V.ref p]) hlf;exact⟨S1.trans S2,hf0,Qc,.cons ((Deep.tup Qc (.cons (D.same S1) (.cons .int .nil))).same S2) .nil⟩
  generalize upd (upd H p (.tup [v,.int 1])) lf (.lst [.ref p])=H1 at B1;clear S1 hlf hp;refine⟨fun m σ H2=>∃(n:Nat)(xs:List V)(st:List (List (Bool × Ly) × Nat))(y3 y4 y5:Option V),σ=[some v,some (.int (n:Nat)),some (.ref lf),y3,y4,y5]/\LsSt H H2 lf xs (st.map stD)/\n+wS st=szL its/\cS st<=m/\m<=20000/\∀e∈st,okL e.1,⟨20000,0,_,_,none,none,none,rfl,B1,by simp[wS],by simp only[cS];omega,Nat.le_refl _,fun e he=>by rw[List.mem_singleton.mp he];exact hok⟩,?_⟩;clear B1;rintro m σ H2 ⟨n,xs,st,y3,y4,y5,rfl,B,hw,hcs,hm,hst⟩;have lxs:=B.t.length;rw[List.length_map]at lxs;have lst:=kn st;rcases List.eq_nil_or_concat st with rfl|⟨st0,e0,rfl⟩
  ·have e:xs=[]:=List.eq_nil_of_length_eq_zero (by simpa using lxs);subst e;refine⟨_,rfl,false,.inl ⟨_,.inl (.inl B.g),rfl⟩,QG ⟨_,rfl,?_⟩⟩;rw[wS,Nat.add_zero]at hw;rw[hw];exact k _ B.S
  rw[List.concat_eq_append]at B hw hcs lxs lst;rw[List.concat_eq_append]at hst;obtain⟨its0,t0⟩:=e0;have hok0:okL its0:=hst _ (List.mem_append_right _ List.mem_cons_self);have hst0:∀e∈st0,okL e.1:=fun e he=>hst e (List.mem_append_left _ he);rw[jj]at hw;rw[jk]at hcs;have hw:n+(wS st0+(szL its0*t0+0))=szL its:=hw;have hcs:cS st0+((1+cnL its0)+0)<=m:=hcs;rw[List.map_append]at B;obtain⟨xs0,xl,rfl,t1,Dl⟩:∃xs0 xl,xs=xs0++[xl]/\Deeps H2 xs0 (st0.map stD)/\Deep H2 xl (stD (its0,t0)):=by
   rcases List.eq_nil_or_concat xs with rfl|⟨xs0,xl,rfl⟩
   ·simp at lxs
   ·rw[List.concat_eq_append]at B ⊢;have l0:xs0.length=(st0.map stD).length:=by
     have:=B.t.length;rw[List.length_append,List.length_append]at this;simpa using this
    have ht:=B.t.take xs0.length;have hd:=B.t.drop xs0.length;rw[List.take_left' rfl,l0,List.take_left' rfl]at ht;rw[List.drop_left' rfl,l0,List.drop_left' rfl]at hd;cases hd with
    |cons h t=>exact⟨xs0,xl,rfl,ht,h⟩
  refine⟨_,rfl,true,.inl ⟨_,.inl (.inl B.g),by simp⟩,QH ?_⟩;refine⟨fun σ' H'=>∃m',m'<m/\∃(n:Nat)(xs:List V)(st:List (List (Bool × Ly) × Nat))(y3 y4 y5:Option V),σ'=[some v,some (.int (n:Nat)),some (.ref lf),y3,y4,y5]/\LsSt H H' lf xs (st.map stD)/\n+wS st=szL its/\cS st<=m'/\m'<=20000/\∀e∈st,okL e.1,fun _ _ h=>h,?_⟩;refine⟨_,rfl,.inl ⟨rfl,_,.inl (.inl B.g)⟩,?_⟩;refine⟨lf,_,xl,rfl,rfl,B.g,by simp,?_⟩;have B3:LsSt H (upd H2 lf (.lst (xs0++[xl]).dropLast)) lf xs0 (st0.map stD):=by
   rw[List.dropLast_concat];exact B.put t1
  have Dl3:=Dl.Wo (o':=.lst (xs0++[xl]).dropLast) B.g (fun zs z=>nomatch z);generalize upd H2 lf (.lst (xs0++[xl]).dropLast)=H3 at B3 Dl3;clear B Dl t1 lxs;obtain⟨pa,px,rfl,gp,tp⟩:=Deep.X0 (show Deep H3 xl (.tup [.tup (dvL its0),.int (t0:Nat)])from Dl3);obtain⟨xi,rfl,Di⟩:∃xi,px=[xi,.int (t0:Nat)]/\Deep H3 xi (.tup (dvL its0)):=by
   cases tp with
   |cons p1 t=>cases t with
    |cons p2 t=>
     cases t;obtain rfl:=p2.ve;exact⟨_,rfl,p1⟩
  refine⟨pa,_,rfl,.inl (.inl gp),rfl,_,_,rfl,_,_,rfl,rfl,?_⟩;obtain⟨ia,ix,rfl,gi,ti⟩:=Deep.X0 Di;rw[Q7]at ti;have lix:=ti.length;rw[List.length_map]at lix;dsimp only[QJ,JS,ZI,QQ];refine⟨_,rfl,ia,rfl,⟨_,.inl (.inl gi)⟩,?_⟩;refine Xf (xX (K:=K) (a:=ia) (xs:=ix)) (fun j σ H4=>∃(n':Nat)(xs:List V)(st:List (List (Bool × Ly) × Nat))(y5:Option V),σ=[some v,some (.int (n':Nat)),some (.ref lf),some (.ref ia),some (.int (t0:Nat)),y5]/\LsSt H H4 lf xs (st.map stD)/\n'+wS st+szL (its0.drop j)*t0=szL its/\cS st+cnL (its0.drop j)+1<=m/\H4 ia=some (.tup ix)/\Deeps H4 ix (its0.map dvI)/\∀e∈st,okL e.1) ⟨n,xs0,st0,y5,rfl,B3,by rw[List.drop_zero];omega,by rw[List.drop_zero];omega,gi,ti,hst0⟩ ?_ ?_ ?_
  ·rintro j σ H4 _ ⟨n',xs,st,y5,rfl,_,_,_,g4,_,_⟩;exact .inl (.inl g4)
  ·rintro j x σ H40 H4 hj ⟨n',xs,st,y5,rfl,B4,hw4,hc4,g4,t4,hst4⟩ ⟨rfl,hx⟩;obtain⟨d,hd,Dx⟩:=t4.XZ hx;rw[List.getElem?_map]at hd;cases eo:its0[j]? with
   |none=>rw[eo]at hd;cases hd
   |some oy=>
    rw[eo]at hd;obtain rfl:=Option.some.inj hd;obtain⟨q1,q2⟩:=yl eo;rw[q1]at hw4;rw[q2]at hc4;have hpos:=km oy;have lxs:=B4.t.length;rw[List.length_map]at lxs;have lst4:=kn st;have hoky:=Wj hok0 eo;have nia:ia≠lf:=fun z=>by rw[z,B4.g]at g4;cases g4
    obtain⟨ov,y⟩:=oy;cases ov with
    |true=>
     obtain⟨a,x2,rfl,g,_⟩:=X3 Dx;rw[szI,if_pos rfl,Nat.zero_add]at hw4;refine⟨_,rfl,a,_,0,_,rfl,rfl,.inl g,rfl,rfl,false,by rw[QdW],QG ?_⟩;refine⟨_,rfl,a,_,0,_,rfl,rfl,.inl g,rfl,rfl,false,by rw[QdX],QG ?_⟩;refine⟨_,rfl,a,_,0,_,rfl,rfl,.inl g,rfl,rfl,false,by rw[QdY],QG ?_⟩;exact⟨n',xs,st,_,rfl,B4,by omega,by omega,g4,t4,hst4⟩
    |false=>
     rw[dvI,if_neg (by decide)]at Dx;rw[szI,if_neg (by decide)]at hw4;rw[Nat.add_mul]at hw4;rw[cnI]at hc4 hpos;cases y with
     |box nm p=>
      obtain⟨a,rfl,g⟩:=Ks Dx;obtain⟨pa2,pl,px2,ep,hp,es⟩:=YE p;rw[Ly.sz]at hw4;refine⟨_,rfl,a,_,0,_,rfl,rfl,.inl g,rfl,rfl,true,rfl,QH ?_⟩;refine⟨_,rfl,_,rfl,_,rfl,a,_,2,_,rfl,rfl,.inl g,rfl,pa2,pl,px2,(by rw[ep];rfl),hp,fun H5 S5=>?_⟩;rw[es];have hszp:szP p<=60:=by unfold szP;split<;>decide
      refine⟨_,_,rfl,rfl,.inr ⟨by omega,by omega⟩,?_⟩;refine⟨_,_,rfl,rfl,?_⟩;refine⟨n'+szP p*t0,xs,st,some (.ref a),?_,B4.same S5,by omega,by rw[Ly.cn]at hc4;omega,S5 _ _ g4,t4.same S5,hst4⟩;have e:((n':Nat):Int)+((t0:Nat):Int)*((szP p:Nat):Int)=((n'+szP p*t0:Nat):Int):=by push_cast;rw[Int.mul_comm]
      rw[←e];rfl
     |grp nm its1=>
      obtain⟨a,x2,rfl,g,D2⟩:=XJ Dx;rw[Ly.sz]at hw4;rw[Ly.cn]at hc4;have hok1:okL its1:=by rw[okI,Ly.okK]at hoky;exact hoky
      refine⟨_,rfl,a,_,0,_,rfl,rfl,.inl g,rfl,rfl,false,by rw[vo],QG ?_⟩;refine⟨_,rfl,a,_,0,_,rfl,rfl,.inl g,rfl,rfl,true,rfl,QH ?_⟩;refine⟨_,rfl,.inl ⟨rfl,_,.inl (.inl B4.g)⟩,?_⟩;refine⟨_,rfl,a,_,2,_,rfl,rfl,.inl g,rfl,_,rfl,by show 2<=sizeLine;omega,fun p5 hp5=>?_⟩;have S5:=Qk.new (o:=.tup [x2,.int (t0:Nat)]) hp5;have B5:=B4.same S5;have D5:Deep (upd H4 p5 (.tup [x2,.int (t0:Nat)])) (.ref p5) (stD (its1,t0)):=.tup Qc (.cons (D2.same S5) (.cons .int .nil));have g5:=S5 _ _ g4;have t5:=t4.same S5;generalize upd H4 p5 (.tup [x2,.int (t0:Nat)])=H5 at B5 D5 g5 t5;refine⟨lf,xs,.ref p5,rfl,rfl,B5.g,by omega,?_⟩;refine⟨n',xs++[.ref p5],st++[(its1,t0)],_,rfl,?_,?_,?_,by rw[Qp nia];exact g5,t5.Wo B5.g (fun zs z=>nomatch z),?_⟩
      ·rw[List.map_append];exact B5.put (B5.t.append (.cons D5 .nil))
      ·rw[jj];show n'+(wS st+(szL its1*t0+0))+_=_;omega
      ·rw[jk];show cS st+((1+cnL its1)+0)+_+1<=m;omega
      ·intro e he;rcases List.mem_append.mp he with he|he
       ·exact hst4 e he
       ·rw[List.mem_singleton.mp he];exact hok1
     |tab nm k1 its1=>
      obtain⟨a,x2,rfl,g,D2⟩:=Xi Dx;rw[Ly.sz]at hw4;rw[Ly.cn]at hc4;obtain⟨hk1,hok1⟩:k1<=1000/\okL its1:=by rw[okI,Ly.okK]at hoky;exact hoky
      refine⟨_,rfl,a,_,0,_,rfl,rfl,.inl g,rfl,rfl,false,by rw[vq],QG ?_⟩;refine⟨_,rfl,a,_,0,_,rfl,rfl,.inl g,rfl,rfl,false,by rw[Qce],QG ?_⟩;refine⟨_,rfl,a,_,0,_,rfl,rfl,.inl g,rfl,rfl,true,rfl,QH ?_⟩;refine⟨_,rfl,.inl ⟨rfl,_,.inl (.inl B4.g)⟩,?_⟩;refine⟨_,rfl,a,_,3,_,rfl,rfl,.inl g,rfl,_,rfl,_,rfl,a,_,2,_,rfl,rfl,.inl g,rfl,_,_,rfl,rfl,.inr ⟨by omega,by omega⟩,by show 2<=sizeLine;omega,fun p5 hp5=>?_⟩;have e:((t0:Nat):Int)*((k1:Nat):Int)=((t0*k1:Nat):Int):=by push_cast;rfl
      dsimp only;rw[e];have S5:=Qk.new (o:=.tup [x2,.int (t0*k1:Nat)]) hp5;have B5:=B4.same S5;have D5:Deep (upd H4 p5 (.tup [x2,.int (t0*k1:Nat)])) (.ref p5) (stD (its1,t0*k1)):=.tup Qc (.cons (D2.same S5) (.cons .int .nil));have g5:=S5 _ _ g4;have t5:=t4.same S5;generalize upd H4 p5 (.tup [x2,.int (t0*k1:Nat)])=H5 at B5 D5 g5 t5;refine⟨lf,xs,.ref p5,rfl,rfl,B5.g,by omega,?_⟩;refine⟨n',xs++[.ref p5],st++[(its1,t0*k1)],_,rfl,?_,?_,?_,by rw[Qp nia];exact g5,t5.Wo B5.g (fun zs z=>nomatch z),?_⟩
      ·rw[List.map_append];exact B5.put (B5.t.append (.cons D5 .nil))
      ·rw[jj];show n'+(wS st+(szL its1*(t0*k1)+0))+_=_;have e2:szL its1*k1*t0=szL its1*(t0*k1):=by rw[Nat.mul_assoc,Nat.mul_comm k1 t0]
       omega
      ·rw[jk];show cS st+((1+cnL its1)+0)+_+1<=m;omega
      ·intro e he;rcases List.mem_append.mp he with he|he
       ·exact hst4 e he
       ·rw[List.mem_singleton.mp he];exact hok1
  ·rintro σ H4 ⟨n',xs,st,y5,rfl,B4,hw4,hc4,_,_,hst4⟩;rw[List.drop_eq_nil_of_le (by omega)]at hw4 hc4;simp only[szL,cnL]at hw4 hc4;exact⟨m-1,by omega,n',xs,st,_,_,_,rfl,B4,by omega,by omega,by omega,hst4⟩
end
def dfI:Bool × Ly:=(false,.box "" 0)
def under(its:List (Bool × Ly)):Nat->Nat
 |0=>0
 |j+1=>if(its.getD (j+1) dfI).1=true then under its j else j+1
def Kt(its:List (Bool × Ly)):Nat->Nat
 |0=>0
 |j+1=>under its j
theorem Ku(its:List (Bool × Ly)):∀j,under its j<=j
 |0=>Nat.le_refl _
 |j+1=>by
  rw[under]
  split
  ·exact Nat.le_succ_of_le (Ku its j)
  ·exact Nat.le_refl _
theorem Zg(its:List (Bool × Ly))(j:Nat):under its j=if(its.getD j dfI).1=true then Kt its j else j:=by
 cases j with
 |zero=>show 0=_;rw[Kt];split<;>rfl
 |succ j=>rfl
theorem jl:∀(its:List (Bool × Ly))(n:Nat),cnL (its.take n)<=cnL its
 |[],n=>by rw[List.take_nil];exact Nat.le_refl _
 |x::xs,0=>by rw[List.take_zero,cnL];exact Nat.zero_le _
 |x::xs,n+1=>by
  have:=jl xs n;rw[List.take_succ_cons,cnL,cnL];omega
theorem jm:∀(its:List (Bool × Ly))(n:Nat),okL its->okL (its.take n)
 |[],n,h=>by rw[List.take_nil];exact h
 |x::xs,0,h=>by rw[List.take_zero];rw[okL];trivial
 |x::xs,n+1,h=>by
  rw[okL]at h;rw[List.take_succ_cons,okL];exact⟨h.1,jm xs n h.2⟩
theorem YF:∀{its:List (Bool × Ly)}{j:Nat}{x:Bool × Ly},its[j]? =some x->cnI x<=cnL its
 |[],_,_,h=>by simp at h
 |y::ys,0,x,h=>by
  have:y=x:=by simpa using h
  subst this;rw[cnL];omega
 |y::ys,j+1,x,h=>by
  have:=YF (its:=ys) (j:=j) (x:=x) (by simpa using h);rw[cnL];omega
theorem Qdn{t u:TS}{D:Ends}{σ:L2.St}{H:Hp}(Good:L2.St->Hp->Prop)(rest:∀σ' H',Good σ' H'->u D σ' H') (h:(∀σ' H',Good σ' H'->u D σ' H')->t {D with nx:=u D} σ H):ZI t u D σ H:=h rest
mutual
def Ly.wt:Ly->Nat
 | .box _ _=>1
 | .grp _ its=>1+wtL its
 | .tab _ k its=>1+k*wtL its
def wtL:List (Bool × Ly)->Nat
 |[]=>0
 |x::xs=>wtI x+wtL xs
def wtI:Bool × Ly->Nat
 |(_,y)=>y.wt
end
theorem Ly.ko(y:Ly):1<=y.wt:=by cases y<;>rw[Ly.wt]<;>omega
theorem YG:∀its:List (Bool × Ly),its.length<=wtL its
 |[]=>Nat.zero_le _
 |(o,y)::xs=>by
  have:=YG xs;have:=y.ko;rw[List.length_cons,wtL,wtI];omega
theorem UA{a b:Addr}{xs ys:List V}{ds es:List Dv}{H:Hp}{Q:VK}(ga:H a=some (.tup xs))(gb:H b=some (.tup ys))(ta:Deeps H xs ds)(tb:Deeps H ys es)(hl:xs.length+ys.length<=sizeLine)(k:∀u H',Qk H H'->Deep H' u (.tup (ds++es))->Q u H'):Qap (.ref a) (.ref b) H Q:=by
 refine⟨a,b,xs,ys,rfl,rfl,.inl ga,.inl gb,hl,fun z=>?_,fun _ z=>?_,fun _ _ p hp=>?_⟩
 ·subst z;cases ta;exact k _ _ (Qk.refl _) (.tup gb tb)
 ·subst z;cases tb;rw[List.append_nil]at k;exact k _ _ (Qk.refl _) (.tup ga ta)
 ·exact k _ _ (Qk.new hp) (Yy (ta.append tb) hp)
theorem ZZ{x:List V}:∀zs:List V,(HO.lst x)≠ .tup zs:=fun zs z=>nomatch z
theorem YH{its:List (Bool × Ly)}(h:okL its){x:Bool × Ly}(hx:x∈its):x.2.okK:=by
 obtain⟨j,hj⟩:=List.mem_iff_getElem?.mp hx;have:=Wj h hj;obtain⟨o,y⟩:=x;rw[okI]at this;exact this
def isT:Wx->Bool
 | .tup _=>true
 |_=>false
def isS:Wx->Bool
 | .str _=>true
 |_=>false
structure KitL(K:PySem.W.Frag):Prop where
 t:∀d:Wx,PySem.W.kitOne K (.type (tyW d)) (.type "tuple")=some (isT d)
 s:∀d:Wx,PySem.W.kitOne K (.type (tyW d)) (.type "str")=some (isS d)
 ii:PySem.W.kitOne K (.type "int") (.type "int")=some true
 bi:PySem.W.kitOne K (.type "bool") (.type "int")=some true
 ib:PySem.W.kitOne K (.type "int") (.type "bool")=some false
 bb:PySem.W.kitOne K (.type "bool") (.type "bool")=some true
def bww:Wx->Bool
 | .tup (.str _::_)=>true
 |_=>false
def nmS(z:Str):Bool:=decide (1<=z.length)&&decide (z.length<=12)&&decide (V.str (Txt.stripChars z "abcdefghijklmnopqrstuvwxyz")=V.str "")
def nmW:Wx->Bool
 | .str z=>nmS z
 |_=>false
def Qcf:Wx->Bool
 | .str z=>(ZP z.cps.toList).isSome
 |_=>false
def whW:Wx->Bool
 | .int i=>decide (1<=i)&&decide (i<=30)
 |_=>false
def eqS(a b:Str):Bool:=decide (V.str a=V.str b)
def only{α:Type}(r:List Wx)(g:Wx->α)(e:α):α:=match r with|[x]=>g x|_=>e
def vt(r:List Wx)(g:Wx->Prop):Prop:=match r with|[x]=>g x|_=>True
def J8:Wx->Bool
 | .tup (.str w0::n::c::r)=>nmW n&&(if eqS w0 "table"=true then decide (r.length=1)&&whW c else if eqS w0 "box"=true then decide (r.length=0)&&Qcf c else decide (r.length=0)&&eqS w0 "group")
 |_=>false
def Jg:Wx->Bool
 | .tup (.str w0::r)=>if eqS w0 "over"=true then only r J8 false else J8 (.tup (.str w0::r))
 |_=>false
def kq:Wx->Prop
 | .tup (.str w0::_::c::_)=>(eqS w0 "box"=true->∃z:Str,c=.str z/\z.cps.toList.length<=500)/\(eqS w0 "table"=true->(∃i,c=.int i)\/∃b,c=.bl b)
 |_=>True
def QaZ:Wx->Prop
 | .tup (.str w0::r)=>if eqS w0 "over"=true then vt r kq else kq (.tup (.str w0::r))
 |_=>True
section
variable {P:Program}{w:World}{K:PySem.W.Frag}{mg:Str->Option Value}{base:Heap}{f:Addr}{fd:FuncData}{tk:Nat->Tok}{c kr:Nat->Addr}
theorem ym{H:Hp}{v:V}{d:Wx}(D:Ws H v d)(h:bww d=true):∃a w0 xs r,v=.ref a/\d=.tup (.str w0::r)/\H a=some (.tup (.str w0::xs))/\Wss H xs r:=by
 cases D with
 |non=>cases h
 |bl=>cases h
 |int=>cases h
 |str=>cases h
 |lst g=>cases h
 |@tup a xs ds g t=>
  cases t with
  |nil=>cases h
  |@cons x d0 xs ds hx t=>
   cases d0 with
   |str w0=>
    obtain rfl:=hx.YX;exact⟨a,w0,xs,ds,rfl,rfl,g,t⟩
   |_=>cases h
def vv:Sp:=fun vs H Q _=>∃(v:V)(d:Wx),vs=[v]/\Ws H v d/\Q (.bl (bww d)) H
theorem X4(F:Fun K "begins_with_word" "begins_with_word" JC f fd)(O:Own mg)(OT:mg "tuple"=none)(KT:KitL K):FnOk P w K mg base (CXE P w) 1 f fd ["thing"] vv:=by
 refine WQ F XX (fun vs H Q E h=>?_) (fun cdv A outer s H vs Q E hr h=>?_)
 ·obtain⟨v,d,rfl,_⟩:=h;rfl
 ·obtain⟨v,d,rfl,D,k⟩:=h;refine⟨_,(Qt (QE (PEx.mk (ZJ (Ql QI rfl O.isi PyProof.Rows.boot_isinstance (Qw (pv 0) (Qw (Zi (v:=V.ty "tuple") rfl OT PyProof.Rows.boot_tuple rfl) Qb))) (ZJ (Jp Vo (Ql Qu rfl O.len PySem.boot_len (Qw (pv 0) Qb)) Qd (Qo _)) (XD (Ql QI rfl O.isi PyProof.Rows.boot_isinstance (Qw (Qv Qq (pv 0) Qd (fun _ _=>rfl)) (Qw (Zi (v:=V.ty "str") rfl O.str PyProof.Rows.boot_str rfl) Qb))))))))),?_⟩;refine⟨_,rfl,_,_,isT d,rfl,rfl,.inl ⟨_,D.ty,KT.t d⟩,isT d,rfl,?_⟩;cases D with
  |non=>exact QG k
  |bl=>exact QG k
  |int=>exact QG k
  |str=>exact QG k
  |lst g=>exact QG k
  |@tup a xs ds g t=>
   refine QH ⟨_,rfl,a,xs,rfl,.inr (.inl (.inl g)),_,_,rfl,rfl,?_⟩;cases t with
   |nil=>exact⟨false,rfl,QG k⟩
   |@cons x d0 xs ds hx t=>
    refine⟨true,?_,QH ?_⟩
    ·exact congrArg V.bl (decide_eq_true (by rw[List.length_cons];omega))
    refine⟨_,rfl,a,_,0,_,rfl,rfl,.inl g,QL (j:=0) rfl,_,_,isS d0,rfl,rfl,.inl ⟨_,hx.ty,KT.s d0⟩,?_⟩;have e:bww (.tup (d0::ds))=isS d0:=by cases d0<;>rfl
    rw[←e];exact k
def ku:Sp:=fun vs H Q _=>∃(v:V)(d:Wx),vs=[v]/\Ws H v d/\(∀z,d=.str z->z.length<=1000)/\Q (.bl (nmW d)) H
theorem zi(F:Fun K "is_name" "is_name" W3 f fd)(O:Own mg)(T:Txt K mg tk c kr)(KT:KitL K):FnOk P w K mg base (CXE P w) 1 f fd ["thing"] ku:=by
 refine WQ F jZ (fun vs H Q E h=>?_) (fun cdv A outer s H vs Q E hr h=>?_)
 ·obtain⟨v,d,rfl,_⟩:=h;rfl
 ·obtain⟨v,d,rfl,D,hl,k⟩:=h;have hz:1000<=sizeLine:=by decide
  refine⟨_,(Qt (QE (PEx.mk (ZJ (Ql QI rfl O.isi PyProof.Rows.boot_isinstance (Qw (pv 0) (Qw (Zi (v:=V.ty "str") rfl O.str PyProof.Rows.boot_str rfl) Qb))) (ZJ (qK jF jF Qd (Ql Zv rfl O.len PySem.boot_len (Qw (pv 0) Qb)) (QF (v:=V.int 12) rfl T.m_LONGEST_NAME ⟨_,rfl⟩)) (XD (Jp QU (ZN PySem.F.plainAttrs_str PySem.F.slot_str_strip PySem.F.type_str_strip qV (pv 0) (Qw (QF (v:=V.str "abcdefghijklmnopqrstuvwxyz") rfl T.m_SMALL_LETTERS ⟨_,rfl⟩) Qb)) Qm (Qo _)))))))),?_⟩;refine⟨_,rfl,_,_,isS d,rfl,rfl,.inl ⟨_,D.ty,KT.s d⟩,isS d,rfl,?_⟩;cases D with
  |non=>exact QG k
  |bl=>exact QG k
  |int=>exact QG k
  |lst g=>exact QG k
  |tup g t=>exact QG k
  |@str z=>
   have hl:=hl z rfl;have k:Q (.bl (nmS z)) H:=k;unfold nmS at k;refine QH ⟨_,rfl,z,rfl,by omega,_,_,rfl,rfl,_,rfl,?_⟩;refine ifB (fun h1=>?_) (fun h1=>?_)
   ·have h1:decide ((1:Int)<=(z.length:Nat))=true:=h1;have h1':decide (1<=z.length)=true:=decide_eq_true (by have:=of_decide_eq_true h1;omega);rw[h1',Bool.true_and]at k;refine⟨_,_,rfl,rfl,_,rfl,?_⟩;refine ifB (fun h2=>?_) (fun h2=>?_)
    ·have h2':decide (z.length<=12)=true:=decide_eq_true (by have:=of_decide_eq_true h2;omega);rw[h2',Bool.true_and]at k;exact⟨_,rfl,rfl,z,_,rfl,rfl,Nat.le_trans hl hz,rfl,k⟩
    ·have h2':decide (z.length<=12)=false:=decide_eq_false (by have:=of_decide_eq_false h2;omega);rw[h2',Bool.false_and]at k;exact k
   ·have h1':decide (1<=z.length)=false:=decide_eq_false (by have:=of_decide_eq_false h1;omega);rw[h1',Bool.false_and,Bool.false_and]at k;exact⟨_,rfl,QG k⟩
def isW:Wx->Bool
 | .int _=>true
 |_=>false
def WA:Sp:=fun vs H Q _=>∃(v:V)(d:Wx),vs=[v]/\Ws H v d/\((∃i,d=.int i)\/∃b,d=.bl b)/\Q (.bl (isW d)) H
theorem ql(F:Fun K "is_whole" "is_whole" KP f fd)(O:Own mg)(KT:KitL K):FnOk P w K mg base (CXE P w) 1 f fd ["thing"] WA:=by
 refine WQ F U2 (fun vs H Q E h=>?_) (fun cdv A outer s H vs Q E hr h=>?_)
 ·obtain⟨v,d,rfl,_⟩:=h;rfl
 ·obtain⟨v,d,rfl,D,hd,k⟩:=h;refine⟨_,(Qt (QE (PEx.mk (ZJ (Ql QI rfl O.isi PyProof.Rows.boot_isinstance (Qw (pv 0) (Qw (Zi (v:=V.ty "int") rfl O.int PyProof.Rows.boot_int rfl) Qb))) (XD (Qa6 (Ql QI rfl O.isi PyProof.Rows.boot_isinstance (Qw (pv 0) (Qw (Zi (v:=V.ty "bool") rfl O.bool PyProof.Rows.boot_bool rfl) Qb))))))))),?_⟩;rcases hd with⟨i,rfl⟩|⟨b,rfl⟩
  ·cases D;refine⟨_,rfl,_,_,true,rfl,rfl,.inl ⟨_,.int _,KT.ii⟩,true,rfl,QH ?_⟩;exact⟨_,rfl,_,_,false,rfl,rfl,.inl ⟨_,.int _,KT.ib⟩,_,rfl,k⟩
  ·cases D;refine⟨_,rfl,_,_,true,rfl,rfl,.inl ⟨_,.bl _,KT.bi⟩,true,rfl,QH ?_⟩;exact⟨_,rfl,_,_,true,rfl,rfl,.inl ⟨_,.bl _,KT.bb⟩,_,rfl,k⟩
def Wp:Wx->Prop
 | .tup (.str _:: .str z::_)=>z.length<=1000
 |_=>True
def qm:Sp:=fun vs H Q _=>∃(v:V)(d:Wx),vs=[v]/\Ws H v d/\kq d/\Wp d/\∀H',Qk H H'->Q (.bl (J8 d)) H'
set_option maxHeartbeats 1000000 in
theorem Ve(F:Fun K "is_bare_item" "is_bare_item" ZH f fd)(O:Own mg)(T:Txt K mg tk c kr)(D_begins_with_word:Def P w K mg base 1 "begins_with_word" ["thing"] vv)(D_is_name:Def P w K mg base 1 "is_name" ["thing"] ku)(D_is_whole:Def P w K mg base 1 "is_whole" ["thing"] WA)(D_is_picture:Def P w K mg base 6 "is_picture" ["thing"] (U9 K)):FnOk P w K mg base (CXE P w) 7 f fd ["thing"] qm:=by
 refine WQ F W2 (fun vs H Q E h=>?_) (fun cdv A outer s H vs Q E hr h=>?_)
 ·obtain⟨v,d,rfl,_⟩:=h;rfl
 ·obtain⟨v,d,rfl,D,hA,hN,k⟩:=h;refine⟨_,(Qr (J1 (PW.pt (Z0 (ZX (Zj (D_begins_with_word.pe hr (by decide) rfl Qx (Qw (pv 0) Qb)))) (Z0 (Qi Vn (Ql Qu rfl O.len PySem.boot_len (Qw (pv 0) Qb)) Qd (Qo _)) (Zk (ZX (Zj (D_is_name.pe hr (by decide) rfl Qx (Qw (Qv Qq (pv 0) Qd (fun _ _=>rfl)) Qb)))))))) (Qt (QE (PEx.mk Zs))) Jb)
   (Qr (J1 (Qi QU (Qv Qq (pv 0) Qd (fun _ _=>rfl)) Qm (Qo _)) (Qt (QE (PEx.mk (ZJ (Jp QU (Ql Qu rfl O.len PySem.boot_len (Qw (pv 0) Qb)) Qd (Qo _)) (ZJ (D_is_whole.pe hr (by decide) rfl Qx (Qw (Qv Qq (pv 0) Qd (fun _ _=>rfl)) Qb)) (XD (qK jF jF Qd (Qv Qq (pv 0) Qd (fun _ _=>rfl)) (QF (v:=V.int 30) rfl T.m_MOST_TIMES ⟨_,rfl⟩)))))))) Jb)
   (Qr (J1 (Qi QU (Qv Qq (pv 0) Qd (fun _ _=>rfl)) Qm (Qo _)) (Qt (QE (PEx.mk (ZJ (Jp QU (Ql Qu rfl O.len PySem.boot_len (Qw (pv 0) Qb)) Qd (Qo _)) (XD (D_is_picture.pe hr (by decide) rfl Qx (Qw (Qv Qq (pv 0) Qd (fun _ _=>rfl)) Qb))))))) Jb)
   (Qt (QE (PEx.mk (ZJ (Jp QU (Ql Qu rfl O.len PySem.boot_len (Qw (pv 0) Qb)) Qd (Qo _)) (XD (Jp QU (Qv Qq (pv 0) Qd (fun _ _=>rfl)) Qm (Qo _)))))))))),?_⟩
  dsimp only[QJ,JS,ZI,QQ];refine⟨_,rfl,v,d,rfl,D,bww d,rfl,?_⟩;cases hb:bww d with
  |false=>
   refine QH (QH ?_);have:J8 d=false:=by
    cases d with
    |tup ds=>cases ds with
     |nil=>rfl
     |cons d0 ds=>cases d0 with
      |str w0=>cases hb
      |_=>rfl
    |_=>rfl
   rw[this]at k;exact k _ (Qk.refl _)
  |true=>
   obtain⟨a,w0,xs,r,rfl,rfl,g,t⟩:=ym D hb;have lx:=t.length;cases t with
   |nil=>exact QG ⟨_,rfl,a,_,rfl,.inr (.inl (.inl g)),_,_,rfl,rfl,true,rfl,QH (QH (k _ (Qk.refl _)))⟩
   |@cons x1 d1 xs r hx1 t=>
    cases t with
    |nil=>exact QG ⟨_,rfl,a,_,rfl,.inr (.inl (.inl g)),_,_,rfl,rfl,true,rfl,QH (QH (k _ (Qk.refl _)))⟩
    |@cons x2 d2 xs r hx2 t=>
     have lx:=t.length;have hN:∀z,d1=.str z->z.length<=1000:=fun z e=>by subst e;exact hN
     have hA:(eqS w0 "box"=true->∃z:Str,d2=.str z/\z.cps.toList.length<=500)/\(eqS w0 "table"=true->(∃i,d2=.int i)\/∃b,d2=.bl b):=hA;have k:∀H',Qk H H'->Q (.bl (nmW d1&&(if eqS w0 "table"=true then decide (r.length=1)&&whW d2 else if eqS w0 "box"=true then decide (r.length=0)&&Qcf d2 else decide (r.length=0)&&eqS w0 "group"))) H':=k;have len3:(V.bl (decide ((((V.str w0::x1::x2::xs).length:Nat):Int)<3)))=.bl false:=congrArg V.bl (decide_eq_false (by simp only[List.length_cons];omega));refine QG ⟨_,rfl,a,_,rfl,.inr (.inl (.inl g)),_,_,rfl,rfl,false,len3,QG ?_⟩;refine⟨_,rfl,a,_,1,_,rfl,rfl,.inl g,QL (j:=1) rfl,x1,d1,rfl,hx1,hN,nmW d1,rfl,?_⟩;cases hn:nmW d1 with
     |false=>
      rw[hn,Bool.false_and]at k;exact QH (k _ (Qk.refl _))
     |true=>
      rw[hn,Bool.true_and]at k;refine QG ⟨_,rfl,a,_,0,_,rfl,rfl,.inl g,QL (j:=0) rfl,rfl,eqS w0 "table",rfl,?_⟩;cases ht:eqS w0 "table" with
      |true=>
       rw[if_pos ht]at k;refine QH ⟨_,rfl,a,_,rfl,.inr (.inl (.inl g)),rfl,?_⟩
       by_cases h4:r.length=1
       ·rw[decide_eq_true h4,Bool.true_and]at k;refine⟨true,congrArg V.bl (decide_eq_true (by rw[show(V.str w0::x1::x2::xs).length=4 by simp only[List.length_cons];omega];rfl)),QH ?_⟩;refine⟨_,rfl,a,_,2,_,rfl,rfl,.inl g,QL (j:=2) rfl,x2,d2,rfl,hx2,hA.2 ht,isW d2,rfl,?_⟩;rcases hA.2 ht with⟨i,rfl⟩|⟨b,rfl⟩
        ·obtain rfl:=hx2.ve;refine QH ⟨_,rfl,a,_,2,_,rfl,rfl,.inl g,QL (j:=2) rfl,_,_,rfl,rfl,_,rfl,?_⟩;have k:∀H',Qk H H'->Q (.bl (decide (1<=i)&&decide (i<=30))) H':=k;refine ifB (fun h1=>?_) (fun h1=>?_)
         ·rw[show decide (1<=i)=true from h1,Bool.true_and]at k;exact⟨_,_,rfl,rfl,k _ (Qk.refl _)⟩
         ·rw[show decide (1<=i)=false from h1,Bool.false_and]at k;exact k _ (Qk.refl _)
        ·exact QG (k _ (Qk.refl _))
       ·rw[decide_eq_false h4,Bool.false_and]at k;refine⟨false,congrArg V.bl (decide_eq_false (fun z=>?_)),QG (k _ (Qk.refl _))⟩;injection z with z;simp only[List.length_cons]at z;omega
      |false=>
       rw[if_neg (by rw[ht];decide)]at k;refine QG ⟨_,rfl,a,_,0,_,rfl,rfl,.inl g,QL (j:=0) rfl,rfl,eqS w0 "box",rfl,?_⟩;have l3t:r.length=0->(V.bl (decide (V.int (((V.str w0::x1::x2::xs).length:Nat):Int)=V.int 3)))=.bl true:=fun h3=>congrArg V.bl (decide_eq_true (by rw[show(V.str w0::x1::x2::xs).length=3 by simp only[List.length_cons];omega];rfl));have l3f:r.length≠0->(V.bl (decide (V.int (((V.str w0::x1::x2::xs).length:Nat):Int)=V.int 3)))=.bl false:=fun h3=>congrArg V.bl (decide_eq_false (fun z=>by
        injection z with z;simp only[List.length_cons]at z;omega))
       cases hx:eqS w0 "box" with
       |true=>
        rw[if_pos hx]at k;refine QH ⟨_,rfl,a,_,rfl,.inr (.inl (.inl g)),rfl,?_⟩
        by_cases h3:r.length=0
        ·rw[decide_eq_true h3,Bool.true_and]at k;obtain⟨z,rfl,hzl⟩:=hA.1 hx;obtain rfl:=hx2.YX;refine⟨true,l3t h3,QH ?_⟩;exact⟨_,rfl,a,_,2,_,rfl,rfl,.inl g,QL (j:=2) rfl,_,_,rfl,.inl ⟨z.cps.toList,by rw[←jV z],hzl,rfl⟩,fun H' S'=>k _ S'⟩
        ·rw[decide_eq_false h3,Bool.false_and]at k;exact⟨false,l3f h3,QG (k _ (Qk.refl _))⟩
       |false=>
        rw[if_neg (by rw[hx];decide)]at k;refine QG ⟨_,rfl,a,_,rfl,.inr (.inl (.inl g)),rfl,?_⟩
        by_cases h3:r.length=0
        ·rw[decide_eq_true h3,Bool.true_and]at k;refine⟨true,l3t h3,QH ?_⟩;exact⟨_,rfl,a,_,0,_,rfl,rfl,.inl g,QL (j:=0) rfl,rfl,k _ (Qk.refl _)⟩
        ·rw[decide_eq_false h3,Bool.false_and]at k;exact⟨false,l3f h3,QG (k _ (Qk.refl _))⟩
def NmI:Wx->Prop
 | .tup (.str w0::r)=>if eqS w0 "over"=true then vt r Wp else Wp (.tup (.str w0::r))
 |_=>True
def kw:Sp:=fun vs H Q _=>∃(v:V)(d:Wx),vs=[v]/\Ws H v d/\QaZ d/\NmI d/\∀H',Qk H H'->Q (.bl (Jg d)) H'
theorem Qax{d:Wx}(hb:bww d=false):J8 d=false/\Wp d/\kq d/\J8 d=Jg d:=by
 cases d with
 |tup ds=>cases ds with
  |nil=>exact⟨rfl,trivial,trivial,rfl⟩
  |cons d0 ds=>cases d0 with
   |str w0=>cases hb
   |_=>exact⟨rfl,trivial,trivial,rfl⟩
 |_=>exact⟨rfl,trivial,trivial,rfl⟩
theorem zk(F:Fun K "is_item" "is_item" W1 f fd)(O:Own mg)(D_begins_with_word:Def P w K mg base 1 "begins_with_word" ["thing"] vv)(D_is_bare_item:Def P w K mg base 7 "is_bare_item" ["thing"] qm):FnOk P w K mg base (CXE P w) 8 f fd ["thing"] kw:=by
 refine WQ F jY (fun vs H Q E h=>?_) (fun cdv A outer s H vs Q E hr h=>?_)
 ·obtain⟨v,d,rfl,_⟩:=h;rfl
 ·obtain⟨v,d,rfl,D,hA,hN,k⟩:=h;refine⟨_,(Qr (J1 (PW.pt (Zl (Zj (D_begins_with_word.pe hr (by decide) rfl Qx (Qw (pv 0) Qb))) (J2 (Qi QU (Qv Qq (pv 0) Qd (fun _ _=>rfl)) Qm (Qo _))))) (Qt (QE (PEx.mk (ZJ (Jp QU (Ql Qu rfl O.len PySem.boot_len (Qw (pv 0) Qb)) Qd (Qo _)) (XD (D_is_bare_item.pe hr (by decide) rfl Qx (Qw (Qv Qq (pv 0) Qd (fun _ _=>rfl)) Qb))))))) Jb)
   (Qt (QE (PEx.mk (D_is_bare_item.pe hr (by decide) rfl Qx (Qw (pv 0) Qb)))))),?_⟩
  dsimp only[QJ,JS,ZI,QQ];refine⟨_,rfl,v,d,rfl,D,bww d,rfl,?_⟩;cases hb:bww d with
  |false=>
   obtain⟨h1,h2,h3,h4⟩:=Qax hb;exact QG (QG ⟨_,rfl,v,d,rfl,D,h3,h2,fun H' S'=>by rw[h4];exact k _ S'⟩)
  |true=>
   obtain⟨a,w0,xs,r,rfl,rfl,g,t⟩:=ym D hb;have hA:if eqS w0 "over"=true then vt r kq else kq (.tup (.str w0::r)):=hA;have hN:if eqS w0 "over"=true then vt r Wp else Wp (.tup (.str w0::r)):=hN;have k:∀H',Qk H H'->Q (.bl (if eqS w0 "over"=true then only r J8 false else J8 (.tup (.str w0::r)))) H':=k;refine QH ⟨_,rfl,a,_,0,_,rfl,rfl,.inl g,QL (j:=0) rfl,rfl,eqS w0 "over",rfl,?_⟩;cases ho:eqS w0 "over" with
   |false=>
    rw[if_neg (by rw[ho];decide)]at k hA hN;exact QG ⟨_,rfl,_,_,rfl,D,hA,hN,k⟩
   |true=>
    rw[if_pos ho]at k hA hN;refine QH ⟨_,rfl,a,_,rfl,.inr (.inl (.inl g)),rfl,?_⟩;cases t with
    |nil=>exact⟨false,rfl,QG (k _ (Qk.refl _))⟩
    |@cons x1 d1 xs r hx1 t=>
     cases t with
     |nil=>exact⟨true,rfl,QH ⟨_,rfl,a,_,1,_,rfl,rfl,.inl g,rfl,x1,d1,rfl,hx1,hA,hN,k⟩⟩
     |@cons x2 d2 xs r hx2 t=>
      refine⟨false,congrArg V.bl (decide_eq_false (fun z=>?_)),QG (k _ (Qk.refl _))⟩;injection z with z;simp only[List.length_cons]at z;omega
end
abbrev Step:=Str × Option Int
def Je:Step->Dv
 |(nm,none)=>.str nm
 |(nm,some i)=>.tup [.str nm,.int i]
def Qcg:Option Int->V
 |none=>.non
 |some i=>.int i
section
variable {P:Program}{w:World}{K:PySem.W.Frag}{mg:Str->Option Value}{base:Heap}{f:Addr}{fd:FuncData}{tk:Nat->Tok}{c kr:Nat->Addr}
def qo:Sp:=fun vs H Q _=>∃(v:V)(st:Step),vs=[v]/\Deep H v (Je st)/\∀q H',Qk H H'->H' q=some (.tup [.str st.1,Qcg st.2])->Q (.ref q) H'
theorem YI(F:Fun K "step_parts" "step_parts" Xb f fd)(O:Own mg)(OT:mg "tuple"=none)(KT:KitL K)(D_is_whole:Def P w K mg base 1 "is_whole" ["thing"] WA):FnOk P w K mg base (CXE P w) 2 f fd ["step"] qo:=by
 refine WQ F Yg (fun vs H Q E h=>?_) (fun cdv A outer s H vs Q E hr h=>?_)
 ·obtain⟨v,st,rfl,_⟩:=h;rfl
 ·obtain⟨v,⟨nm,o⟩,rfl,D,k⟩:=h;have hz:1000<=sizeLine:=by decide
  refine⟨_,(Qr (J1 (PW.pt (Zl (Zj (Ql QI rfl O.isi PyProof.Rows.boot_isinstance (Qw (pv 0) (Qw (Zi (v:=V.ty "tuple") rfl OT PyProof.Rows.boot_tuple rfl) Qb)))) (Zl (Qi QU (Ql Qu rfl O.len PySem.boot_len (Qw (pv 0) Qb)) Qd (Qo _)) (J2 (Zj (D_is_whole.pe hr (by decide) rfl Qx (Qw (Qv Qq (pv 0) Qd (fun _ _=>rfl)) Qb))))))) (Qt (QE (PEx.mk (pv 0)))) Jb)
   (Qt (QE (Js (QV (PEx.mk (pv 0)) (QV (PEx.mk JF) QN rfl) rfl))))),?_⟩
  cases o with
  |none=>
   obtain rfl:=Deep.YX (show Deep H v (.str nm)from D);refine⟨_,rfl,_,_,false,rfl,rfl,.inl ⟨_,.str _,KT.t (.str nm)⟩,_,rfl,QG ?_⟩;exact⟨_,rfl,by show 2<=sizeLine;omega,fun p hp=>k _ _ (Qk.new hp) Qc⟩
  |some i=>
   obtain⟨a,xs,rfl,g,t⟩:=Deep.X0 (show Deep H v (.tup [.str nm,.int i])from D);obtain rfl:xs=[.str nm,.int i]:=by
    cases t with
    |cons p1 t=>cases t with
     |cons p2 t=>cases t;rw[p1.YX,p2.ve]
   refine⟨_,rfl,_,_,true,rfl,rfl,.inl ⟨_,D.ty,KT.t (.tup [])⟩,_,rfl,QH ?_⟩;refine⟨_,rfl,a,_,rfl,.inr (.inl (.inl g)),rfl,true,rfl,QH ?_⟩;refine⟨_,rfl,a,_,1,_,rfl,rfl,.inl g,rfl,_,.int i,rfl,.int,.inl ⟨i,rfl⟩,true,rfl,QH ⟨_,rfl,k _ _ (Qk.refl _) g⟩⟩
def pairD(path:Dv)(y:Ly):Dv:=.tup [path,y.dv]
def kx:Sp:=fun vs H Q _=>∃(wv iv:V)(pd:Dv)(its:List (Bool × Ly)),vs=[wv,iv]/\Deep H wv pd/\Deep H iv (.tup (dvL its))/\its.length<=10000/\∀q xs H',Qk H H'->H q=none->H' q=some (.lst xs)->Deeps H' xs ((its.map fun x=>pairD pd x.2).reverse)->Q (.ref q) H'
theorem YJ(F:Fun K "last_first" "last_first" Xa f fd)(O:Own mg)(D_bare:Def P w K mg base 1 "bare" ["item"] ji):FnOk P w K mg base (CXE P w) 2 f fd ["path","items"] kx:=by
 refine WQ F Yf (fun vs H Q E h=>?_) (fun cdv A outer s H vs Q E hr h=>?_)
 ·obtain⟨wv,iv,pd,its,rfl,_⟩:=h;rfl
 ·obtain⟨wv,iv,pd,its,rfl,DP,DI,hl,k⟩:=h;have hz:100000<=sizeLine:=by rw[sizeLine_eq];decide
  refine⟨_,(Qt (QE (PEx.mk (xS (NB:=[".0","item"]) (FR:=["path"]) (fi:=[0]) rfl ⟨rfl,by decide+kernel,by decide+kernel,by decide+kernel,by decide+kernel,by decide+kernel⟩ rfl rfl (Qas rfl O.reversed (Qw (pv 1) Qb) rfl) (fun _ _ _=>(Qh (i:=1) (show([".0","item","path"]:List Str).Nodup by decide+kernel) rfl (Or.inl rfl))) (fun _ _ _=>J3) (fun _ _ _=>(Qz (Qw (pv 2) (Qw (D_bare.pe hr (by decide) rfl Qx (Qw (pv 1) Qb)) Qb)))))))),?_⟩;obtain⟨a,xs,rfl,g,t⟩:=Deep.X0 DI;rw[Q7]at t;have lx:=t.length;rw[List.length_map]at lx;refine QbK ?_;refine x9 ?_;refine⟨_,rfl,a,xs,rfl,.inl (.inl g),?_⟩;refine VM (fv:=[wv]) (QcZ (K:=K) (a:=a) (xs:=xs)) ((its.map fun x=>pairD pd x.2).reverse) (by rw[List.length_reverse,List.length_map];omega) (fun R h=>h H (Qk.refl _)) rfl (fun H1 S=>.inl (.inl (S _ _ g))) ?_ ?_ (by omega)
  ·rintro i v H1 H2 d R hd S ⟨rfl,hv⟩ kk;obtain⟨dv,hdv,ddv⟩:=t.XZ hv;rw[List.getElem?_map]at hdv;cases e:its[xs.length-1-i]? with
   |none=>rw[e]at hdv;cases hdv
   |some oy=>
    rw[e]at hdv;obtain rfl:=Option.some.inj hdv;obtain⟨o,y⟩:=oy;have hil:i<its.length:=by
     have:=(List.getElem?_eq_some_iff.mp hd).1;rw[List.length_reverse,List.length_map]at this;exact this
    have ed:d=pairD pd y:=by
     rw[List.getElem?_reverse (by rw[List.length_map];exact hil),List.length_map,List.getElem?_map, ←lx,e]at hd;exact(Option.some.inj hd).symm
    refine⟨rfl,_,rfl,_,rfl,v,o,y,rfl,ddv.same S,fun u Du=>⟨by show 2<=sizeLine;omega,fun p hp=>kk _ _ (Qk.new hp) ?_⟩⟩;rw[ed];exact .tup Qc (.cons ((DP.same S).same (Qk.new hp)) (.cons (Du.same (Qk.new hp)) .nil))
  ·rintro ys H1 p S t2 hp;refine k _ _ _ (S.trans (Qk.new hp)) ?_ Qc (t2.same (Qk.new hp));cases e:H p with
   |none=>rfl
   |some o=>rw[S _ _ e]at hp;cases hp
def J5:Ly->Option Int->Option Nat
 | .box _ _,none=>some 0
 | .grp _ _,none=>some 0
 | .tab _ k its,some i=>if 0<=i/\i<(k:Nat)then some (i.toNat*szL its)else none
 |_,_=>none
def Ly.cnt(y:Ly):Prop:=y.cn<=10000/\y.okK
def qp(c:Nat->Addr):Sp:=fun vs H Q E=>∃(v:V)(y:Ly)(o:Option Int),vs=[v,Qcg o]/\Deep H v y.dv/\y.cnt/\((∃n,J5 y o=some n/\∀H',Qk H H'->Q (.int (n:Nat)) H')\/(J5 y o=none/\∀H',Qk H H'->E (.ref (c 8)) none H'))
theorem KZ(F:Fun K "ahead_in_table" "ahead_in_table" Jm f fd)(T:Txt K mg tk c kr)(D_signs_in:Def P w K mg base 8 "signs_in" ["layout"] Xj):FnOk P w K mg base (CXE P w) 9 f fd ["item","number"] (qp c):=by
 refine okE F KQ (fun vs H Q E h=>?_) (fun cdv A outer s H vs Q E hr h=>?_)
 ·obtain⟨v,y,o,rfl,_⟩:=h;rfl
 ·obtain⟨v,y,o,rfl,D,⟨hcn,hok⟩,hk⟩:=h;have fr:=KI (P:=P) (w:=w) (K:=K) (mg:=mg) (base:=base) (N:=["item","number"]) (qual:="ahead_in_table") (scope:=Qf Jm) (f:=f) (cd:=cdv) (A:=A) (outer:=outer) (s:=s) (H:=H) (E:=E);have ht:=Kg fr;have hx:=JH fr;have hz:1000<=sizeLine:=by decide
  refine⟨_,(Qe (QY (PW.pt (Zl (Qi XA (Qv Qq (pv 0) Qd (fun _ _=>rfl)) Qm (Qo _)) (J2 (XC (K6 (pv 1)))))) (Qg (QA Qd)) QD)
   (Qe (QY (PW.pt (Z0 (Qi XA (Qv Qq (pv 0) Qd (fun _ _=>rfl)) Qm (Qo _)) (Z0 (XC (K6 (pv 1))) (Zk (ZX (wd jF Vn Qd (pv 1) (Qv Qq (pv 0) Qd (fun _ _=>rfl)))))))) (Qg (Wu ht rfl rfl T.m_NoPath T.e_NoPath (Qw Qm Qb))) QD)
   (Qg (QA (QM Wb (pv 1) (D_signs_in.pe hr (by decide) rfl hx (Qw (Qv Qq (pv 0) Qd (fun _ _=>rfl)) Qb))))))),?_⟩
  cases y with
  |box nm p=>
   obtain⟨a,rfl,g⟩:=Ks D;cases o with
   |some i=>
    rcases hk with⟨n,ha,_⟩|⟨_,k⟩
    ·cases ha
    ·exact⟨_,rfl,a,_,0,_,rfl,rfl,.inl g,rfl,rfl,true,by rw[QbN];rfl,QH ⟨_,rfl,false,rfl,QG ⟨_,rfl,a,_,0,_,rfl,rfl,.inl g,rfl,rfl,true,by rw[QbN];rfl,QH (QH ⟨by show 1<=sizeLine;omega,k _ (Qk.refl _)⟩)⟩⟩⟩
   |none=>
    rcases hk with⟨n,ha,k⟩|⟨ha,_⟩
    ·have:n=0:=(Option.some.inj ha).symm;subst this;exact⟨_,rfl,a,_,0,_,rfl,rfl,.inl g,rfl,rfl,true,by rw[QbN];rfl,QH ⟨_,rfl,true,rfl,QH (k _ (Qk.refl _))⟩⟩
    ·cases ha
  |grp nm its=>
   obtain⟨a,x,rfl,g,_⟩:=XJ D;cases o with
   |some i=>
    rcases hk with⟨n,ha,_⟩|⟨_,k⟩
    ·cases ha
    ·exact⟨_,rfl,a,_,0,_,rfl,rfl,.inl g,rfl,rfl,true,by rw[QaY];rfl,QH ⟨_,rfl,false,rfl,QG ⟨_,rfl,a,_,0,_,rfl,rfl,.inl g,rfl,rfl,true,by rw[QaY];rfl,QH (QH ⟨by show 1<=sizeLine;omega,k _ (Qk.refl _)⟩)⟩⟩⟩
   |none=>
    rcases hk with⟨n,ha,k⟩|⟨ha,_⟩
    ·have:n=0:=(Option.some.inj ha).symm;subst this;exact⟨_,rfl,a,_,0,_,rfl,rfl,.inl g,rfl,rfl,true,by rw[QaY];rfl,QH ⟨_,rfl,true,rfl,QH (k _ (Qk.refl _))⟩⟩
    ·cases ha
  |tab nm k1 its=>
   obtain⟨a,x,rfl,g,D2⟩:=Xi D;rw[Ly.cn]at hcn;rw[Ly.okK]at hok;refine⟨_,rfl,a,_,0,_,rfl,rfl,.inl g,rfl,rfl,false,by decide+kernel,QG ?_⟩;refine⟨_,rfl,a,_,0,_,rfl,rfl,.inl g,rfl,rfl,false,by decide+kernel,QG ?_⟩;cases o with
   |none=>
    rcases hk with⟨n,ha,_⟩|⟨_,k⟩
    ·cases ha
    ·exact⟨_,rfl,true,rfl,QH (QH ⟨by show 1<=sizeLine;omega,k _ (Qk.refl _)⟩)⟩
   |some i=>
    refine⟨_,rfl,false,rfl,QG ?_⟩;have key:(J5 (.tab nm k1 its) (some i))=if 0<=i/\i<(k1:Nat)then some (i.toNat*szL its)else none:=rfl;rw[key]at hk;clear key
    by_cases h0:0<=i
    ·refine⟨_,rfl,_,_,rfl,rfl,true,congrArg V.bl (decide_eq_true h0),QH ?_⟩
     by_cases hik:i<(k1:Nat)
     ·rw[if_pos ⟨h0,hik⟩]at hk;refine⟨_,rfl,a,_,2,_,rfl,rfl,.inl g,rfl,_,_,rfl,rfl,true,congrArg V.bl (decide_eq_true hik),QG ?_⟩;rcases hk with⟨n,ha,k⟩|⟨ha,_⟩
      ·have:n=i.toNat*szL its:=(Option.some.inj ha).symm;subst this;refine⟨_,rfl,_,rfl,a,_,3,_,rfl,rfl,.inl g,rfl,x,its,rfl,D2,by omega,hok.2,fun H1 S1=>⟨_,_,rfl,rfl,.inl ⟨by omega,by omega⟩,?_⟩⟩;have e:i*((szL its:Nat):Int)=((i.toNat*szL its:Nat):Int):=by
        rw[Int.natCast_mul,Int.toNat_of_nonneg h0]
       dsimp only;rw[e];exact k _ S1
      ·cases ha
     ·rw[if_neg (fun z=>hik z.2)]at hk;rcases hk with⟨n,ha,_⟩|⟨_,k⟩
      ·cases ha
      ·exact⟨_,rfl,a,_,2,_,rfl,rfl,.inl g,rfl,_,_,rfl,rfl,false,congrArg V.bl (decide_eq_false hik),QH ⟨by show 1<=sizeLine;omega,k _ (Qk.refl _)⟩⟩
    ·rw[if_neg (fun z=>h0 z.1)]at hk;rcases hk with⟨n,ha,_⟩|⟨_,k⟩
     ·cases ha
     ·exact⟨_,rfl,_,_,rfl,rfl,false,congrArg V.bl (decide_eq_false h0),QG ⟨false,rfl,QH ⟨by show 1<=sizeLine;omega,k _ (Qk.refl _)⟩⟩⟩
end
structure AtI(its:List (Bool × Ly))(st:Step)(j:Nat)(o:Bool)(y:Ly)(n:Nat):Prop where
 at_:its[j]? =some (o,y)
 nm:y.name=st.1
 no:∀(i:Nat)(x:Bool × Ly),i<j->its[i]? =some x->x.2.name≠st.1
 ah:J5 y st.2=some n
structure AtJ(its:List (Bool × Ly))(st:Step)(j:Nat)(o:Bool)(y:Ly):Prop where
 at_:its[j]? =some (o,y)
 nm:y.name=st.1
 no:∀(i:Nat)(x:Bool × Ly),i<j->its[i]? =some x->x.2.name≠st.1
theorem AtI.j{its:List (Bool × Ly)}{st:Step}{j:Nat}{o:Bool}{y:Ly}{n:Nat}(h:AtI its st j o y n):AtJ its st j o y:=⟨h.at_,h.nm,h.no⟩
def Qdo(its:List (Bool × Ly))(st:Step):Prop:=(∃j o y,AtJ its st j o y/\J5 y st.2=none)\/∀x∈its,x.2.name≠st.1
section
variable {P:Program}{w:World}{K:PySem.W.Frag}{mg:Str->Option Value}{base:Heap}{f:Addr}{fd:FuncData}{tk:Nat->Tok}{c kr:Nat->Addr}
def YK(c:Nat->Addr):Sp:=fun vs H Q E=>∃(iv sv:V)(its:List (Bool × Ly))(st:Step),vs=[iv,sv]/\Deep H iv (.tup (dvL its))/\Deep H sv (Je st)/\cnL its<=10000/\okL its/\((∃(j:Nat)(o:Bool)(y:Ly),AtJ its st j o y/\((∃n,J5 y st.2=some n/\∀q u H',Qk H H'->H' q=some (.tup [.int ((szL (its.take (under its j))+n:Nat)),u])->Deep H' u y.dv->Q (.ref q) H')\/(J5 y st.2=none/\∀H',Qk H H'->E (.ref (c 8)) none H')))\/((∀x∈its,x.2.name≠st.1)/\∀H',Qk H H'->E (.ref (c 8)) none H'))
set_option maxHeartbeats 2000000 in
theorem zl(F:Fun K "item_at" "item_at" Km f fd)(O:Own mg)(OE:mg "enumerate"=none)(T:Txt K mg tk c kr)(D_step_parts:Def P w K mg base 2 "step_parts" ["step"] qo)(D_bare:Def P w K mg base 1 "bare" ["item"] ji)(D_signs_in:Def P w K mg base 8 "signs_in" ["layout"] Xj)(D_ahead_in_table:Def P w K mg base 9 "ahead_in_table" ["item","number"] (qp c)):FnOk P w K mg base (CXE P w) 10 f fd ["items","step"] (YK c):=by
 refine okE F JN (fun vs H Q E h=>?_) (fun cdv A outer s H vs Q E hr h=>?_)
 ·obtain⟨iv,sv,its,st,rfl,_⟩:=h;rfl
 ·obtain⟨iv,sv,its,st,rfl,DI,DS,hc,hok,hcase⟩:=h;have fr:=KI (P:=P) (w:=w) (K:=K) (mg:=mg) (base:=base) (N:=["items","step","name","number","under","at","item"]) (qual:="item_at") (scope:=Qf Km) (f:=f) (cd:=cdv) (A:=A) (outer:=outer) (s:=s) (H:=H) (E:=E);have ht:=Kg fr;have hx:=JH fr;have hz:100000<=sizeLine:=by rw[sizeLine_eq];decide
  refine⟨_,(Qe (Ju (D_step_parts.pe hr (by decide) rfl hx (Qw (pv 1) Qb)) (Q8 rfl (Qj (Qh (i:=2) JN.nd rfl (Or.inl rfl)) (Qj (Qh (i:=3) JN.nd rfl (Or.inl rfl)) QK))))
   (Qe (QC (i:=4) JN.nd rfl (Or.inl rfl) Qd)
   (Qe (X8 xV rfl (vb .tp rfl OE (Qw (pv 0) Qb)) (Q8 rfl (Qj (Qh (i:=5) JN.nd rfl (Or.inl rfl)) (Qj (Qh (i:=6) JN.nd rfl (Or.inl rfl)) QK))) (Qe (QY (Qi XA (Qv Qq (pv 6) Qd (fun _ _=>rfl)) Qm (Qo _)) (Qg (QC (i:=4) JN.nd rfl (Or.inl rfl) (pv 5))) QD)
   (Qg (QY (Qi QU (Qv Qq (D_bare.pe hr (by decide) rfl hx (Qw (pv 6) Qb)) Qd (fun _ _=>rfl)) (pv 2) (Qo _)) (Qg (QA (Qz (Qw (QM Jl (D_signs_in.pe hr (by decide) rfl hx (Qw (Zu x8 (pv 0) WJ (Zn (pv 4))) Qb)) (D_ahead_in_table.pe hr (by decide) rfl hx (Qw (D_bare.pe hr (by decide) rfl hx (Qw (pv 6) Qb)) (Qw (pv 3) Qb)))) (Qw (D_bare.pe hr (by decide) rfl hx (Qw (pv 6) Qb)) Qb))))) QD))))
   (Qg (Wu ht rfl rfl T.m_NoPath T.e_NoPath (Qw Qm Qb)))))),?_⟩
  refine⟨_,rfl,sv,st,rfl,DS,fun q0 H1 S1 g0=>?_⟩;refine⟨q0,_,rfl,.inl (.inl g0),rfl,_,_,rfl,_,_,rfl,rfl,?_⟩;obtain⟨ia,ix,rfl,gi,ti⟩:=Deep.X0 DI;have ti2:=ti;rw[Q7]at ti2;have lix:=ti2.length;rw[List.length_map]at lix;dsimp only[QJ,JS,ZI,QQ];refine⟨_,rfl,ia,rfl,⟨_,.inl (.inl (S1 _ _ gi))⟩,?_⟩;refine Xf (QdT (k:=.tp) (K:=K) (a:=ia) (xs:=ix)) (fun i σ H2=>∃(y5 y6:Option V),σ=[some (.ref ia),some sv,some (.str st.1),some (Qcg st.2),some (.int (Kt its i:Nat)),y5,y6]/\Qk H1 H2/\∀(m:Nat)(x:Bool × Ly),m<i->its[m]? =some x->x.2.name≠st.1) ⟨none,none,rfl,Qk.refl _,fun m x hm=>absurd hm (Nat.not_lt_zero _)⟩ ?_ ?_ ?_
  ·rintro i σ H2 _ ⟨y5,y6,rfl,S2,_⟩;exact .inl (.inl (S2 _ _ (S1 _ _ gi)))
  ·rintro i x σ H2 H3 hi ⟨y5,y6,rfl,S2,hij⟩ ⟨p,x,hp,rfl,hx3,rfl⟩;obtain⟨d,hd,Dx⟩:=ti2.XZ hx3;rw[List.getElem?_map]at hd;cases eo:its[i]? with
   |none=>rw[eo]at hd;cases hd
   |some oy=>
    rw[eo]at hd;obtain rfl:=Option.some.inj hd;obtain⟨ov,yi⟩:=oy;have S3:=(S1.trans S2).trans (Qk.new (o:=.tup [.int ((i:Nat):Int),x]) hp);have S13:=S2.trans (Qk.new (o:=.tup [.int ((i:Nat):Int),x]) hp);refine⟨p,_,rfl,.inl (.inl Qc),rfl,_,_,rfl,_,_,rfl,rfl,?_⟩;generalize upd H2 p (.tup [.int ((i:Nat):Int),x])=H3 at S3 S13;clear S2 hp;have Dx3:=Dx.same S3;have eg:its.getD i dfI=(ov,yi):=by rw[List.getD_eq_getElem?_getD,eo];rfl
    have eu:(if ov=true then Kt its i else i)=under its i:=by rw[Zg,eg]
    dsimp only[QJ,JS,QQ];refine Qdn (fun σ' H4=>σ'=[some (.ref ia),some sv,some (.str st.1),some (Qcg st.2),some (.int (under its i:Nat)),some (.int (i:Nat)),some x]/\H4=H3) ?_ (fun rest=>?_);rotate_left
    ·cases ov with
     |true=>
      obtain⟨a,x2,rfl,g,_⟩:=X3 Dx3;rw[if_pos rfl]at eu;refine⟨_,rfl,a,_,0,_,rfl,rfl,.inl g,rfl,rfl,false,by decide+kernel,QG (rest _ _ ⟨by rw[←eu];rfl,rfl⟩)⟩
     |false=>
      rw[if_neg (by decide)]at eu;have D:Deep H3 x yi.dv:=by rw[dvI,if_neg (by decide)]at Dx3;exact Dx3
      obtain⟨a,xs,rfl,g⟩:=qk D;refine⟨_,rfl,a,_,0,_,rfl,rfl,.inl g,QL (j:=0) rfl,rfl,true,by rw[ZK];rfl,QH ⟨_,rfl,rest _ _ ⟨by rw[←eu];rfl,rfl⟩⟩⟩
    rintro σ4 H4 ⟨rfl,rfl⟩;refine⟨_,rfl,x,ov,yi,rfl,Dx3,fun u Du=>?_⟩;obtain⟨ua,uxs,rfl,gu⟩:=qk Du;refine⟨ua,_,1,_,rfl,rfl,.inl gu,QL (j:=1) rfl,_,rfl,rfl,_,rfl,?_⟩
    by_cases hnm:yi.name=st.1
    ·obtain⟨j,o,y,HA,hend⟩:∃(j:Nat)(o:Bool)(y:Ly),AtJ its st j o y/\((∃n,J5 y st.2=some n/\∀q u H',Qk H H'->H' q=some (.tup [.int ((szL (its.take (under its j))+n:Nat)),u])->Deep H' u y.dv->Q (.ref q) H')\/(J5 y st.2=none/\∀H',Qk H H'->E (.ref (c 8)) none H')):=by
      rcases hcase with h|⟨h,_⟩
      ·exact h
      ·exact absurd hnm (h _ (List.mem_of_getElem? eo))
     obtain rfl:i=j:=by
      rcases Nat.lt_trichotomy i j with h|h|h
      ·exact absurd hnm (HA.no i _ h eo)
      ·exact h
      ·exact absurd HA.nm (hij j _ h HA.at_)
     obtain⟨rfl,rfl⟩:ov=o/\yi=y:=by
      have:=HA.at_;rw[eo]at this;have:=Option.some.inj this;exact⟨congrArg (·.1) this,congrArg (·.2) this⟩
     rw[decide_eq_true (by rw[hnm])];refine QH ?_;refine⟨_,rfl,_,rfl,_,rfl,?_⟩;refine yj.QcW (hi:=under its i) (ds:=dvL its) ((Deep.tup gi ti).same S3) fun v5 H5 S5 D5=>?_;have et:(dvL its).take (under its i)=dvL (its.take (under its i)):=by rw[Q7,Q7,List.map_take]
     rw[et]at D5;refine⟨v5,its.take (under its i),rfl,D5,Nat.le_trans (jl _ _) hc,jm _ _ hok,fun H6 S6=>?_⟩;have S36:=S5.trans S6;refine⟨_,rfl,x,ov,yi,rfl,Dx3.same S36,fun u7 Du7=>⟨_,rfl,u7,yi,st.2,rfl,Du7,⟨?_,?_⟩,?_⟩⟩
     ·have:=YF eo;rw[cnI]at this;omega
     ·have:=Wj hok eo;rw[okI]at this;exact this
     rcases hend with⟨n,hah,k⟩|⟨hah,k⟩;rotate_left
     ·exact .inr ⟨hah,fun H8 S8=>k _ ((S3.trans S36).trans S8)⟩
     refine .inl ⟨n,hah,fun H8 S8=>?_⟩;refine⟨_,_,rfl,rfl,_,rfl,x,ov,yi,rfl,(Dx3.same S36).same S8,fun u9 Du9=>⟨by show 2<=sizeLine;omega,fun p10 hp10=>?_⟩⟩;have S10:=Qk.new (o:=.tup [.int (((szL (its.take (under its i)):Nat):Int)+((n:Nat):Int)),u9]) hp10;refine k _ u9 _ ((S3.trans S36).trans (S8.trans S10)) ?_ (Du9.same S10);rw[Qc]
     congr 3
    ·rw[decide_eq_false (fun z=>hnm (V.str.inj z))];refine QG ⟨some (.int (i:Nat)),some x,rfl,S13,fun m z hm hz2=>?_⟩
     by_cases e:m=i
     ·subst e;rw[eo]at hz2;rw[←Option.some.inj hz2];exact hnm
     ·exact hij m z (by omega) hz2
  ·rintro σ H2 ⟨y5,y6,rfl,S2,hij⟩;rcases hcase with⟨j,o,y,HA,_⟩|⟨_,k⟩
   ·exact absurd HA.nm (hij j _ (by have:=(List.getElem?_eq_some_iff.mp HA.at_).1;omega) HA.at_)
   ·exact⟨by show 1<=sizeLine;omega,k _ (S1.trans S2)⟩
inductive Res:List (Bool × Ly)->List Step->Nat->Ly->Prop where
 |one {its:List (Bool × Ly)} {st:Step} {j:Nat} {o:Bool} {y:Ly} {n:Nat} (h:AtI its st j o y n):Res its [st] (szL (its.take (under its j))+n) y
 |grp {its in_:List (Bool × Ly)} {st st2:Step} {ss:List Step} {j:Nat} {o:Bool} {nm:Str} {n m:Nat} {y:Ly} (h:AtI its st j o (.grp nm in_) n) (r:Res in_ (st2::ss) m y):Res its (st::st2::ss) (szL (its.take (under its j))+n+m) y
 |tab {its in_:List (Bool × Ly)} {st st2:Step} {ss:List Step} {j k:Nat} {o:Bool} {nm:Str} {n m:Nat} {y:Ly} (h:AtI its st j o (.tab nm k in_) n) (r:Res in_ (st2::ss) m y):Res its (st::st2::ss) (szL (its.take (under its j))+n+m) y
def Jt(ss:List Step):Dv:=.tup (ss.map Je)
theorem Res.ne{its:List (Bool × Ly)}{ss:List Step}{n:Nat}{y:Ly}(h:Res its ss n y):ss≠[]:=by cases h<;>exact fun z=>nomatch z
structure LyBd(its:List (Bool × Ly)):Prop where
 cn:cnL its<=10000
 ok:okL its
theorem LyBd.grp{its in_:List (Bool × Ly)}{j:Nat}{o:Bool}{nm:Str}(h:LyBd its)(e:its[j]? =some (o,.grp nm in_)):LyBd in_:=by
 have h1:=YF e;have h2:=Wj h.ok e;have h3:=h.cn;rw[cnI,Ly.cn]at h1;rw[okI,Ly.okK]at h2;exact⟨by omega,h2⟩
theorem LyBd.tab{its in_:List (Bool × Ly)}{j k:Nat}{o:Bool}{nm:Str}(h:LyBd its)(e:its[j]? =some (o,.tab nm k in_)):LyBd in_:=by
 have h1:=YF e;have h2:=Wj h.ok e;have h3:=h.cn;rw[cnI,Ly.cn]at h1;rw[okI,Ly.okK]at h2;exact⟨by omega,h2.2⟩
def jn:Ly->List (Bool × Ly)
 | .box _ _=>[]
 | .grp _ its=>its
 | .tab _ _ its=>its
inductive NoRes:List (Bool × Ly)->List Step->Prop where
 |one {its:List (Bool × Ly)} {st:Step} {ss:List Step} (h:Qdo its st):NoRes its (st::ss)
 |inn {its:List (Bool × Ly)} {st:Step} {ss:List Step} {j:Nat} {o:Bool} {y:Ly} {n:Nat} (h:AtI its st j o y n) (r:NoRes (jn y) ss):NoRes its (st::ss)
theorem LyBd.ins{its:List (Bool × Ly)}{j:Nat}{o:Bool}{y:Ly}(h:LyBd its)(e:its[j]? =some (o,y)):LyBd (jn y):=by
 cases y with
 |box nm p=>exact⟨by show cnL []<=10000;rw[cnL];omega,by show okL [];rw[okL];trivial⟩
 |grp nm in_=>exact h.grp e
 |tab nm k in_=>exact h.tab e
def qr(c:Nat->Addr):Sp:=fun vs H Q E=>∃(iv wv:V)(its:List (Bool × Ly))(ss:List Step),vs=[iv,wv]/\Deep H iv (.tup (dvL its))/\Deep H wv (Jt ss)/\LyBd its/\ss.length<=1000/\((∃(n:Nat)(y:Ly),Res its ss n y/\∀q u H',Qk H H'->H' q=some (.tup [.int (n:Nat),u])->Deep H' u y.dv->Q (.ref q) H')\/((ss=[]\/NoRes its ss)/\∀H',Qk H H'->E (.ref (c 8)) none H'))
set_option maxHeartbeats 2000000 in
theorem vw(F:Fun K "found" "found" Ye f fd)(O:Own mg)(OT:mg "tuple"=none)(KT:KitL K)(T:Txt K mg tk c kr)(D_item_at:Def P w K mg base 10 "item_at" ["items","step"] (YK c)):FnOk P w K mg base (CXE P w) 11 f fd ["layout","path"] (qr c):=by
 refine okE F Zd (fun vs H Q E h=>?_) (fun cdv A outer s H vs Q E hr h=>?_)
 ·obtain⟨iv,wv,its,ss,rfl,_⟩:=h;rfl
 ·obtain⟨iv,wv,its,ss,rfl,DI,DW,hb,hl,hcase0⟩:=h;have fr:=KI (P:=P) (w:=w) (K:=K) (mg:=mg) (base:=base) (N:=["layout","path","start","items","item","step","ahead"]) (qual:="found") (scope:=Qf Ye) (f:=f) (cd:=cdv) (A:=A) (outer:=outer) (s:=s) (H:=H) (E:=E);have ht:=Kg fr;have hx:=JH fr;have hz:100000<=sizeLine:=by rw[sizeLine_eq];decide
  refine⟨_,(Qe (QY (PW.pt (Z0 (ZX (Zj (Ql QI rfl O.isi PyProof.Rows.boot_isinstance (Qw (pv 1) (Qw (Zi (v:=V.ty "tuple") rfl OT PyProof.Rows.boot_tuple rfl) Qb))))) (Zk (Qi QU (Ql Qu rfl O.len PySem.boot_len (Qw (pv 1) Qb)) Qd (Qo _))))) (Qg (Wu ht rfl rfl T.m_NoPath T.e_NoPath (Qw Qm Qb))) QD)
   (Qe (QC (i:=2) Zd.nd rfl (Or.inl rfl) Qd)
   (Qe (QC (i:=3) Zd.nd rfl (Or.inl rfl) (pv 0))
   (Qe (QC (i:=4) Zd.nd rfl (Or.inl rfl) JF)
   (Qe (X8 xV rfl (Z3 (pv 1)) (Qh (i:=5) Zd.nd rfl (Or.inl rfl)) (Qe (Ju (D_item_at.pe hr (by decide) rfl hx (Qw (pv 3) (Qw (pv 5) Qb))) (Q8 rfl (Qj (Qh (i:=6) Zd.nd rfl (Or.inl rfl)) (Qj (Qh (i:=4) Zd.nd rfl (Or.inl rfl)) QK))))
   (Qe (K8 (i:=2) Zd.nd rfl (Or.inl rfl) (pv 6) WH)
   (Qg (QC (i:=3) Zd.nd rfl (Or.inl rfl) (Za (Qi QU (Qv Qq (pv 4) Qd (fun _ _=>rfl)) Qm (Qo _)) (Qz Qb) (Qv Qq (pv 4) (YZ Wc Qd) (fun _ _=>rfl))))))))
   (Qg (QA (Qz (Qw (pv 2) (Qw (pv 4) Qb)))))))))),?_⟩
  obtain⟨wa,wx,rfl,gw,tw⟩:=Deep.X0 (show Deep H wv (.tup (ss.map Je))from DW);have lwx:=tw.length;rw[List.length_map]at lwx;refine⟨_,rfl,_,_,true,rfl,rfl,.inl ⟨_,DW.ty,KT.t (.tup [])⟩,_,rfl,QG ?_⟩
  by_cases hss:ss=[]
  ·rcases hcase0 with⟨n,y,HR,_⟩|⟨_,k⟩
   ·exact absurd hss HR.ne
   ·refine⟨_,rfl,wa,_,rfl,.inr (.inl (.inl gw)),rfl,true,?_,QH ⟨by show 1<=sizeLine;omega,k _ (Qk.refl _)⟩⟩;show V.bl (decide (V.int ((wx.length:Nat):Int)=V.int 0))=_;rw[show wx.length=0 by rw[lwx,hss];rfl];rfl
  refine⟨_,rfl,wa,_,rfl,.inr (.inl (.inl gw)),rfl,false,?_,QG ?_⟩
  ·show V.bl (decide (V.int ((wx.length:Nat):Int)=V.int 0))=_;rw[decide_eq_false (fun z=>by injection z with z;exact hss (List.eq_nil_of_length_eq_zero (by omega)))]
  dsimp only[QJ,JS,ZI,QQ];refine⟨_,rfl,?_⟩;refine⟨_,rfl,wa,rfl,⟨_,.inl (.inl gw)⟩,?_⟩;rcases hcase0 with⟨n,y,HR,k⟩|⟨hno,k⟩;rotate_left
  ·have hno:NoRes its ss:=by
    rcases hno with h|h
    ·exact absurd h hss
    ·exact h
   refine Xf (xX (K:=K) (a:=wa) (xs:=wx)) (fun i σ H2=>∃(s0:Nat)(cur:V)(it:V)(y5 y6:Option V),σ=[some iv,some (.ref wa),some (.int (s0:Nat)),some cur,some it,y5,y6]/\Qk H H2/\∃in_:List (Bool × Ly),Deep H2 cur (.tup (dvL in_))/\LyBd in_/\NoRes in_ (ss.drop i)) ⟨0,iv,.non,none,none,rfl,Qk.refl _,its,DI,hb,by rw[List.drop_zero];exact hno⟩ ?_ ?_ ?_
   ·rintro i σ H2 _ ⟨s0,cur,it,y5,y6,rfl,S2,_⟩;exact .inl (.inl (S2 _ _ gw))
   ·rintro i x σ H20 H2 hi ⟨s0,cur,it,y5,y6,rfl,S2,in_,Dc,hbc,hres⟩ ⟨rfl,hx2⟩;obtain⟨d,hd,Dx⟩:=tw.XZ hx2;have hil:i<ss.length:=by omega
    have hdr:ss.drop i=ss[i]::ss.drop (i+1):=List.drop_eq_getElem_cons hil;have ed:d=Je ss[i]:=by
     rw[List.getElem?_map,List.getElem?_eq_getElem hil]at hd;exact(Option.some.inj hd).symm
    subst ed;rw[hdr]at hres;generalize ss[i]=st at hres Dx;generalize ss.drop (i+1)=rest at hres;dsimp only[QJ,JS,ZI,QQ];refine⟨_,rfl,_,rfl,cur,x,in_,st,rfl,Dc,Dx.same S2,hbc.cn,hbc.ok,?_⟩;cases hres with
    |one h=>
     rcases h with⟨j,o,y,HA,hah⟩|h
     ·exact .inl ⟨j,o,y,HA,.inr ⟨hah,fun H3 S3=>k _ (S2.trans S3)⟩⟩
     ·exact .inr ⟨h,fun H3 S3=>k _ (S2.trans S3)⟩
    |@inn _ _ _ j o y1 n1 HA r=>
     refine .inl ⟨j,o,y1,HA.j,.inl ⟨n1,HA.ah,fun q u H3 S3 g3 Du=>?_⟩⟩;refine⟨q,_,rfl,.inl (.inl g3),rfl,_,_,rfl,_,_,rfl,rfl,?_⟩;dsimp only[QJ,JS,ZI,QQ];refine⟨_,rfl,_,rfl,_,_,rfl,rfl,?_⟩;have es:((s0:Nat):Int)+((szL (in_.take (under in_ j))+n1:Nat):Int)=((s0+(szL (in_.take (under in_ j))+n1):Nat):Int):=by push_cast;rfl
     dsimp only;rw[es];have hbi:=hbc.ins HA.at_;cases y1 with
     |box nm p=>
      obtain⟨a,rfl,g⟩:=Ks Du;refine⟨_,rfl,a,_,0,_,rfl,rfl,.inl g,rfl,rfl,true,rfl,QH ⟨by show 0<=sizeLine;omega,fun p4 hp4=>?_⟩⟩;exact⟨_,_,_,_,_,rfl,(S2.trans S3).trans (Qk.new hp4),[],.tup Qc (by rw[dvL];exact .nil),hbi,r⟩
     |grp nm in2=>
      obtain⟨a,x2,rfl,g,D2⟩:=XJ Du;refine⟨_,rfl,a,_,0,_,rfl,rfl,.inl g,rfl,rfl,false,by rw[vo],QG ⟨_,rfl,_,rfl,a,_,_,_,rfl,rfl,.inl g,rfl,?_⟩⟩;exact⟨_,_,_,_,_,rfl,S2.trans S3,in2,D2,hbi,r⟩
     |tab nm k2 in2=>
      obtain⟨a,x2,rfl,g,D2⟩:=Xi Du;refine⟨_,rfl,a,_,0,_,rfl,rfl,.inl g,rfl,rfl,false,by rw[vq],QG ⟨_,rfl,_,rfl,a,_,_,_,rfl,rfl,.inl g,rfl,?_⟩⟩;exact⟨_,_,_,_,_,rfl,S2.trans S3,in2,D2,hbi,r⟩
   ·rintro σ H2 ⟨s0,cur,it,y5,y6,rfl,S2,in_,_,_,hres⟩;rw[lwx,List.drop_length]at hres;cases hres
  refine Xf (xX (K:=K) (a:=wa) (xs:=wx)) (fun i σ H2=>∃(s0:Nat)(cur:V)(it:V)(y5 y6:Option V),σ=[some iv,some (.ref wa),some (.int (s0:Nat)),some cur,some it,y5,y6]/\Qk H H2/\((ss.drop i=[]/\s0=n/\Deep H2 it y.dv)\/∃(in_:List (Bool × Ly))(m:Nat),Deep H2 cur (.tup (dvL in_))/\LyBd in_/\Res in_ (ss.drop i) m y/\s0+m=n)) ⟨0,iv,.non,none,none,rfl,Qk.refl _,.inr ⟨its,n,DI,hb,by rw[List.drop_zero];exact HR,Nat.zero_add _⟩⟩ ?_ ?_ ?_
  ·rintro i σ H2 _ ⟨s0,cur,it,y5,y6,rfl,S2,_⟩;exact .inl (.inl (S2 _ _ gw))
  ·rintro i x σ H20 H2 hi ⟨s0,cur,it,y5,y6,rfl,S2,hcase⟩ ⟨rfl,hx2⟩;obtain⟨d,hd,Dx⟩:=tw.XZ hx2;have hil:i<ss.length:=by omega
   have hdr:ss.drop i=ss[i]::ss.drop (i+1):=List.drop_eq_getElem_cons hil;have ed:d=Je ss[i]:=by
    rw[List.getElem?_map,List.getElem?_eq_getElem hil]at hd;exact(Option.some.inj hd).symm
   subst ed;rcases hcase with⟨h1,_⟩|⟨in_,m,Dc,hbc,hres,hsum⟩
   ·rw[hdr]at h1;cases h1
   rw[hdr]at hres;generalize ss[i]=st at hres Dx;generalize hgo:ss.drop (i+1)=rest at hres;dsimp only[QJ,JS,ZI,QQ];obtain⟨j,o,y1,n1,HA,hnext⟩:∃(j:Nat)(o:Bool)(y1:Ly)(n1:Nat),AtI in_ st j o y1 n1/\((rest=[]/\y1=y/\szL (in_.take (under in_ j))+n1=m)\/∃(nm:Str)(in2:List (Bool × Ly))(m2:Nat),(y1=.grp nm in2\/∃k2,y1=.tab nm k2 in2)/\LyBd in2/\Res in2 rest m2 y/\szL (in_.take (under in_ j))+n1+m2=m):=by
    cases hres with
    |one h=>exact⟨_,_,_,_,h,.inl ⟨rfl,rfl,rfl⟩⟩
    |grp h r=>exact⟨_,_,_,_,h,.inr ⟨_,_,_,.inl rfl,hbc.grp h.at_,r,rfl⟩⟩
    |tab h r=>exact⟨_,_,_,_,h,.inr ⟨_,_,_,.inr ⟨_,rfl⟩,hbc.tab h.at_,r,rfl⟩⟩
   refine⟨_,rfl,_,rfl,cur,x,in_,st,rfl,Dc,Dx.same S2,hbc.cn,hbc.ok,.inl ⟨j,o,y1,HA.j,.inl ⟨n1,HA.ah,fun q u H3 S3 g3 Du=>?_⟩⟩⟩;refine⟨q,_,rfl,.inl (.inl g3),rfl,_,_,rfl,_,_,rfl,rfl,?_⟩;dsimp only[QJ,JS,ZI,QQ];refine⟨_,rfl,_,rfl,_,_,rfl,rfl,?_⟩;have es:((s0:Nat):Int)+((szL (in_.take (under in_ j))+n1:Nat):Int)=((s0+(szL (in_.take (under in_ j))+n1):Nat):Int):=by push_cast;rfl
   dsimp only;rw[es];rcases hnext with⟨rfl,rfl,hm⟩|⟨nm,in2,m2,hy,hb2,hr2,hm⟩
   ·
    cases y1 with
    |box nm p=>
     obtain⟨a,rfl,g⟩:=Ks Du;refine⟨_,rfl,a,_,0,_,rfl,rfl,.inl g,rfl,rfl,true,rfl,QH ⟨by show 0<=sizeLine;omega,fun p4 hp4=>?_⟩⟩;exact⟨_,_,_,_,_,rfl,(S2.trans S3).trans (Qk.new hp4),.inl ⟨rfl,by omega,Du.same (Qk.new hp4)⟩⟩
    |grp nm in2=>
     obtain⟨a,x2,rfl,g,D2⟩:=XJ Du;refine⟨_,rfl,a,_,0,_,rfl,rfl,.inl g,rfl,rfl,false,by rw[vo],QG ⟨_,rfl,_,rfl,a,_,_,_,rfl,rfl,.inl g,rfl,?_⟩⟩;exact⟨_,_,_,_,_,rfl,S2.trans S3,.inl ⟨rfl,by omega,Du⟩⟩
    |tab nm k2 in2=>
     obtain⟨a,x2,rfl,g,D2⟩:=Xi Du;refine⟨_,rfl,a,_,0,_,rfl,rfl,.inl g,rfl,rfl,false,by rw[vq],QG ⟨_,rfl,_,rfl,a,_,_,_,rfl,rfl,.inl g,rfl,?_⟩⟩;exact⟨_,_,_,_,_,rfl,S2.trans S3,.inl ⟨rfl,by omega,Du⟩⟩
   ·rcases hy with rfl|⟨k2,rfl⟩
    ·obtain⟨a,x2,rfl,g,D2⟩:=XJ Du;refine⟨_,rfl,a,_,0,_,rfl,rfl,.inl g,rfl,rfl,false,by rw[vo],QG ⟨_,rfl,_,rfl,a,_,_,_,rfl,rfl,.inl g,rfl,?_⟩⟩;exact⟨_,_,_,_,_,rfl,S2.trans S3,.inr ⟨in2,m2,D2,hb2,hr2,by omega⟩⟩
    ·obtain⟨a,x2,rfl,g,D2⟩:=Xi Du;refine⟨_,rfl,a,_,0,_,rfl,rfl,.inl g,rfl,rfl,false,by rw[vq],QG ⟨_,rfl,_,rfl,a,_,_,_,rfl,rfl,.inl g,rfl,?_⟩⟩;exact⟨_,_,_,_,_,rfl,S2.trans S3,.inr ⟨in2,m2,D2,hb2,hr2,by omega⟩⟩
  ·rintro σ H2 ⟨s0,cur,it,y5,y6,rfl,S2,hcase⟩;rw[lwx,List.drop_length]at hcase;rcases hcase with⟨_,rfl,Dit⟩|⟨in_,m,_,_,hres,_⟩
   ·refine⟨_,rfl,_,rfl,by show 2<=sizeLine;omega,fun p hp=>?_⟩;exact k _ _ _ (S2.trans (Qk.new hp)) Qc (Dit.same (Qk.new hp))
   ·exact absurd rfl hres.ne
def Zq:Ly->Nat
 | .box _ p=>szP p
 | .grp _ its=>szL its
 | .tab _ _ its=>szL its
def qt:Ly->Dv
 | .box _ p=>.str (Uy p)
 |_=>.non
def UB(n:Nat)(y:Ly):Dv:=.tup [.int (n:Nat),.int (Zq y:Nat),qt y]
theorem Res.bd{its:List (Bool × Ly)}{ss:List Step}{n:Nat}{y:Ly}(h:Res its ss n y):LyBd its->y.cnt:=by
 induction h with
 |one h=>
  intro hb;have h1:=YF h.at_;have h2:=Wj hb.ok h.at_;have h3:=hb.cn;rw[cnI]at h1;rw[okI]at h2;exact⟨by omega,h2⟩
 |grp h r ih=>exact fun hb=>ih (hb.grp h.at_)
 |tab h r ih=>exact fun hb=>ih (hb.tab h.at_)
def ZV(c:Nat->Addr):Sp:=fun vs H Q E=>∃(iv wv:V)(its:List (Bool × Ly))(ss:List Step),vs=[iv,wv]/\Deep H iv (.tup (dvL its))/\Deep H wv (Jt ss)/\LyBd its/\ss.length<=1000/\((∃(n:Nat)(y:Ly),Res its ss n y/\∀u H',Qk H H'->Deep H' u (UB n y)->Q u H')\/((ss=[]\/NoRes its ss)/\∀H',Qk H H'->E (.ref (c 8)) none H'))
theorem jo(F:Fun K "where" "where" Yc f fd)(D_found:Def P w K mg base 11 "found" ["layout","path"] (qr c))(D_size_of:Def P w K mg base 7 "size_of" ["picture"] jd)(D_signs_in:Def P w K mg base 8 "signs_in" ["layout"] Xj):FnOk P w K mg base (CXE P w) 12 f fd ["layout","path"] (ZV c):=by
 refine okE F Yd (fun vs H Q E h=>?_) (fun cdv A outer s H vs Q E hr h=>?_)
 ·obtain⟨iv,wv,its,ss,rfl,_⟩:=h;rfl
 ·obtain⟨iv,wv,its,ss,rfl,DI,DW,hb,hl,hcase0⟩:=h;have fr:=KI (P:=P) (w:=w) (K:=K) (mg:=mg) (base:=base) (N:=["layout","path","start","item"]) (qual:="where") (scope:=Qf Yc) (f:=f) (cd:=cdv) (A:=A) (outer:=outer) (s:=s) (H:=H) (E:=E);have hx:=JH fr;have hz:100000<=sizeLine:=by rw[sizeLine_eq];decide
  refine⟨_,(Qe (Ju (D_found.pe hr (by decide) rfl hx (Qw (pv 0) (Qw (pv 1) Qb))) (Q8 rfl (Qj (Qh (i:=2) Yd.nd rfl (Or.inl rfl)) (Qj (Qh (i:=3) Yd.nd rfl (Or.inl rfl)) QK))))
   (Qe (QY (Qi QU (Qv Qq (pv 3) Qd (fun _ _=>rfl)) Qm (Qo _)) (Qg (QA (Qz (Qw (pv 2) (Qw (D_size_of.pe hr (by decide) rfl hx (Qw (Qv Qq (pv 3) Qd (fun _ _=>rfl)) Qb)) (Qw (Qv Qq (pv 3) Qd (fun _ _=>rfl)) Qb)))))) QD)
   (Qg (QA (Qz (Qw (pv 2) (Qw (D_signs_in.pe hr (by decide) rfl hx (Qw (Qv Qq (pv 3) (YZ Wc Qd) (fun _ _=>rfl)) Qb)) (Qw JF Qb)))))))),?_⟩
  refine⟨_,rfl,_,rfl,iv,wv,its,ss,rfl,DI,DW,hb,hl,?_⟩;rcases hcase0 with⟨n,y,HR,k⟩|⟨hno,k⟩;rotate_left
  ·exact .inr ⟨hno,fun H' S'=>k _ S'⟩
  obtain⟨hcn,hok⟩:=HR.bd hb;refine .inl ⟨n,y,HR,fun q u H1 S1 g1 Du=>?_⟩;refine⟨q,_,rfl,.inl (.inl g1),rfl,_,_,rfl,_,_,rfl,rfl,?_⟩;dsimp only[QJ,JS,ZI,QQ];cases y with
  |box nm p=>
   obtain⟨a,rfl,g⟩:=Ks Du;obtain⟨pa,pl,px,ep,hp,es⟩:=YE p;refine⟨_,rfl,a,_,0,_,rfl,rfl,.inl g,rfl,rfl,true,rfl,QH ?_⟩;refine⟨_,rfl,_,rfl,a,_,2,_,rfl,rfl,.inl g,rfl,pa,pl,px,(by rw[ep];rfl),hp,fun H2 S2=>?_⟩;rw[es];refine⟨_,rfl,a,_,2,_,rfl,rfl,.inl (S2 _ _ g),rfl,by show 3<=sizeLine;omega,fun p3 hp3=>?_⟩;exact k _ _ ((S1.trans S2).trans (Qk.new hp3)) (.tup Qc (.cons .int (.cons .int (.cons .str .nil))))
  |grp nm in_=>
   obtain⟨a,x,rfl,g,D2⟩:=XJ Du;rw[Ly.cn]at hcn;rw[Ly.okK]at hok;refine⟨_,rfl,a,_,0,_,rfl,rfl,.inl g,rfl,rfl,false,by rw[vo],QG ?_⟩;refine⟨_,rfl,_,rfl,_,rfl,a,_,_,_,rfl,rfl,.inl g,rfl,x,in_,rfl,D2,by omega,hok,fun H2 S2=>⟨by show 3<=sizeLine;omega,fun p3 hp3=>?_⟩⟩;exact k _ _ ((S1.trans S2).trans (Qk.new hp3)) (.tup Qc (.cons .int (.cons .int (.cons .non .nil))))
  |tab nm k2 in_=>
   obtain⟨a,x,rfl,g,D2⟩:=Xi Du;rw[Ly.cn]at hcn;rw[Ly.okK]at hok;refine⟨_,rfl,a,_,0,_,rfl,rfl,.inl g,rfl,rfl,false,by rw[vq],QG ?_⟩;refine⟨_,rfl,_,rfl,_,rfl,a,_,_,_,rfl,rfl,.inl g,rfl,x,in_,rfl,D2,by omega,hok.2,fun H2 S2=>⟨by show 3<=sizeLine;omega,fun p3 hp3=>?_⟩⟩;exact k _ _ ((S1.trans S2).trans (Qk.new hp3)) (.tup Qc (.cons .int (.cons .int (.cons .non .nil))))
end
mutual
def Ly.bx:Ly->List Step->List (List Step)
 | .box nm _,pre=>[pre++[(nm,none)]]
 | .grp nm its,pre=>bxL its (pre++[(nm,none)])
 | .tab nm k its,pre=>(List.range k).flatMap fun(i:Nat)=>bxL its (pre++[(nm,some ((i:Nat):Int))])
def bxL:List (Bool × Ly)->List Step->List (List Step)
 |[],_=>[]
 |x::xs,pre=>bxI x pre++bxL xs pre
def bxI:Bool × Ly->List Step->List (List Step)
 |(_,y),pre=>y.bx pre
end
abbrev Pt:=List Step × Ly
def ptD(x:Pt):Dv:=.tup [Jt x.1,x.2.dv]
def ptW:List Pt->Nat
 |[]=>0
 |x::xs=>x.2.wt+ptW xs
theorem K1:∀a b,ptW (a++b)=ptW a+ptW b
 |[],b=>by rw[List.nil_append,ptW];omega
 |x::a,b=>by rw[List.cons_append,ptW,ptW,K1 a b];omega
theorem qu:∀st,st.length<=ptW st
 |[]=>Nat.zero_le _
 |x::xs=>by
  have:=qu xs;have:=x.2.ko;rw[List.length_cons,ptW];omega
def ptB(st:List Pt):List (List Step):=st.reverse.flatMap fun x=>x.2.bx x.1
theorem YL(a b:List Pt):ptB (a++b)=ptB b++ptB a:=by unfold ptB;rw[List.reverse_append,List.flatMap_append]
def pts(pre:List Step)(its:List (Bool × Ly)):List Pt:=(its.map fun x=>(pre,x.2)).reverse
theorem vz(pre:List Step):∀its:List (Bool × Ly),ptB (pts pre its)=bxL its pre
 |[]=>rfl
 |(o,y)::xs=>by
  have ih:=vz pre xs;unfold ptB pts at ih ⊢;rw[List.reverse_reverse]at ih ⊢;rw[List.map_cons,List.flatMap_cons,ih,bxL,bxI]
theorem Qay(pre:List Step)(its:List (Bool × Ly)):ptW (pts pre its)=wtL its:=by
 have rev:∀l:List Pt,ptW l.reverse=ptW l:=by
  intro l
  induction l with
  |nil=>rfl
  |cons x xs ih=>
   rw[List.reverse_cons,K1,ih];simp only[ptW];omega
 unfold pts;rw[rev]
 induction its with
 |nil=>rfl
 |cons x xs ih=>
  obtain⟨o,y⟩:=x;rw[List.map_cons,ptW,ih,wtL,wtI]
theorem Qaz(pre:List Step)(its:List (Bool × Ly)):(its.map fun x=>pairD (Jt pre) x.2).reverse=(pts pre its).map ptD:=by
 unfold pts;rw[←List.map_reverse, ←List.map_reverse,List.map_map];rfl
section
variable {P:Program}{w:World}{K:PySem.W.Frag}{mg:Str->Option Value}{base:Heap}{f:Addr}{fd:FuncData}{tk:Nat->Tok}{c kr:Nat->Addr}
structure TwoL(Hb H:Hp)(a1 a2:Addr)(x1 x2:List V)(d1 d2:List Dv):Prop where
 S:Qk Hb H
 f1:Hb a1=none
 f2:Hb a2=none
 n12:a1≠a2
 g1:H a1=some (.lst x1)
 g2:H a2=some (.lst x2)
 t1:Deeps H x1 d1
 t2:Deeps H x2 d2
theorem TwoL.same{Hb H H':Hp}{a1 a2:Addr}{x1 x2:List V}{d1 d2:List Dv}(B:TwoL Hb H a1 a2 x1 x2 d1 d2)(S:Qk H H'):TwoL Hb H' a1 a2 x1 x2 d1 d2:=⟨B.S.trans S,B.f1,B.f2,B.n12,S _ _ B.g1,S _ _ B.g2,B.t1.same S,B.t2.same S⟩
theorem TwoL.jg{Hb H:Hp}{a1 a2:Addr}{x1 x2 x:List V}{d1 d2 d:List Dv}(B:TwoL Hb H a1 a2 x1 x2 d1 d2)(t:Deeps H x d):TwoL Hb (upd H a1 (.lst x)) a1 a2 x x2 d d2:=⟨Xy B.S B.f1,B.f1,B.f2,B.n12,Qc,by rw[Qp B.n12.symm];exact B.g2,t.Wo B.g1 ZZ,B.t2.Wo B.g1 ZZ⟩
theorem TwoL.put2{Hb H:Hp}{a1 a2:Addr}{x1 x2 x:List V}{d1 d2 d:List Dv}(B:TwoL Hb H a1 a2 x1 x2 d1 d2)(t:Deeps H x d):TwoL Hb (upd H a2 (.lst x)) a1 a2 x1 x d1 d:=⟨Xy B.S B.f2,B.f1,B.f2,B.n12,by rw[Qp B.n12];exact B.g1,Qc,B.t1.Wo B.g2 ZZ,t.Wo B.g2 ZZ⟩
theorem Xk{pre:List Step}{st:Step}:(pre.map Je)++[Je st]=(pre++[st]).map Je:=by rw[List.map_append];rfl
theorem QbO:∀{its:List (Bool × Ly)}{x:Bool × Ly},x∈its->x.2.wt<=wtL its
 |[],_,h=>nomatch h
 |(o,y)::ys,x,h=>by
  rcases List.mem_cons.mp h with rfl|h
  ·rw[wtL,wtI];show y.wt<=_;omega
  ·have:=QbO (its:=ys) h;rw[wtL];omega
def Qa0(e:Pt):Prop:=e.2.okK/\e.1.length+e.2.wt<=10000
theorem ky{pre:List Step}{its:List (Bool × Ly)}(h:okL its)(hl:pre.length+wtL its<=10000):∀e∈pts pre its,Qa0 e:=by
 intro e he;unfold pts at he;obtain⟨x,hx,rfl⟩:=List.mem_map.mp (List.mem_reverse.mp he);have:=QbO hx;exact⟨YH h hx,by show pre.length+x.2.wt<=10000;omega⟩
def psh(pre:List Step)(nm:Str)(k:Nat)(its:List (Bool × Ly)):Nat->List Pt
 |0=>[]
 |t+1=>psh pre nm k its t++pts (pre++[(nm,some ((k-1-t:Nat):Int))]) its
theorem QaA(pre:List Step)(nm:Str)(k:Nat)(its:List (Bool × Ly)):∀t,ptW (psh pre nm k its t)=t*wtL its
 |0=>by rw[psh,Nat.zero_mul];rfl
 |t+1=>by rw[psh,K1,QaA pre nm k its t,Qay,Nat.succ_mul]
theorem QbP(pre:List Step)(nm:Str)(k:Nat)(its:List (Bool × Ly)):∀t,t<=k->ptB (psh pre nm k its t)=((List.range k).drop (k-t)).flatMap fun(i:Nat)=>bxL its (pre++[(nm,some ((i:Nat):Int))])
 |0,_=>by rw[psh,Nat.sub_zero,List.drop_eq_nil_of_le (by rw[List.length_range];omega)];rfl
 |t+1,h=>by
  have e:(List.range k).drop (k-(t+1))=(k-1-t)::(List.range k).drop (k-t):=by
   rw[List.drop_eq_getElem_cons (by rw[List.length_range];omega),List.getElem_range,show k-(t+1)+1=k-t by omega,show k-(t+1)=k-1-t by omega]
  rw[psh,YL,vz,QbP pre nm k its t (by omega),e,List.flatMap_cons]
def qv:Sp:=fun vs H Q _=>∃(iv:V)(its:List (Bool × Ly)),vs=[iv,.bl true]/\Deep H iv (.tup (dvL its))/\wtL its<=10000/\okL its/\∀q xs H',Qk H H'->H' q=some (.lst xs)->Deeps H' xs ((bxL its []).map Jt)->Q (.ref q) H'
set_option maxHeartbeats 4000000 in
theorem K2(F:Fun K "paths_of_boxes" "paths_of_boxes" J4 f fd)(O:Own mg)(D_last_first:Def P w K mg base 2 "last_first" ["path","items"] kx):FnOk P w K mg base (CXE P w) 3 f fd ["items","with_tables"] qv:=by
 refine WQ F QT (fun vs H Q E h=>?_) (fun cdv A outer s H vs Q E hr h=>?_)
 ·obtain⟨iv,its,rfl,_⟩:=h;rfl
 ·obtain⟨iv,its,rfl,DI,hw,hok,k⟩:=h;have hz:100000<=sizeLine:=by rw[sizeLine_eq];decide
  refine⟨_,(Qr (QR (i:=2) QT.nd rfl (Or.inl rfl) (XR QN) rfl rfl)
   (Qr (QR (i:=3) QT.nd rfl (Or.inl rfl) (PEx.mk (D_last_first.pe hr (by decide) rfl Qx (Qw (Qz Qb) (Qw (pv 0) Qb)))) rfl rfl)
   (Qr (PSy.mk (Xo PassesOwn.never (JT (pv 3) (fun _=>rfl)) (Qe (Ju (qM PySem.F.plainAttrs_list PySem.F.slot_list_pop PySem.F.type_list_pop qN (pv 3)) (Q8 rfl (Qj (Qh (i:=4) QT.nd rfl (Or.inl rfl)) (Qj (Qh (i:=5) QT.nd rfl (Or.inl rfl)) QK))))
   (Qg (QY (Qi QU (Qv Qq (pv 5) Qd (fun _ _=>rfl)) Qm (Qo _)) (Qg (Zm (ZN PySem.F.plainAttrs_list PySem.F.slot_list_append PySem.F.type_list_append JV (pv 2) (Qw (QM Xg (pv 4) (Qz (Qw (Qv Qq (pv 5) Qd (fun _ _=>rfl)) Qb))) Qb)))) (Qg (QY (Qi QU (Qv Qq (pv 5) Qd (fun _ _=>rfl)) Qm (Qo _)) (Qg (Zm (ZN PySem.F.plainAttrs_list PySem.F.slot_list_extend PySem.F.type_list_extend WM (pv 3) (Qw (D_last_first.pe hr (by decide) rfl Qx (Qw (QM Xg (pv 4) (Qz (Qw (Qv Qq (pv 5) Qd (fun _ _=>rfl)) Qb))) (Qw (Qv Qq (pv 5) Qd (fun _ _=>rfl)) Qb))) Qb)))) (Qg (QY (JT (pv 1) (fun _=>rfl)) (Qg (X8 PassesOwn.never rfl (Qau rfl O.reversed rfl O.range (Qw (Qv Qq (pv 5) Qd (fun _ _=>rfl)) Qb) rfl) (Qh (i:=6) QT.nd rfl (Or.inl rfl)) (Qg (Zm (ZN PySem.F.plainAttrs_list PySem.F.slot_list_extend PySem.F.type_list_extend WM (pv 3) (Qw (D_last_first.pe hr (by decide) rfl Qx (Qw (QM Xg (pv 4) (Qz (Qw (Qz (Qw (Qv Qq (pv 5) Qd (fun _ _=>rfl)) (Qw (pv 6) Qb))) Qb))) (Qw (Qv Qq (pv 5) Qd (fun _ _=>rfl)) Qb))) Qb)))))) QD)))))))))
   (Qt (QE (PEx.mk (pv 2))))))),?_⟩
  dsimp only[QJ,JS,ZI,QQ];refine⟨by show 0<=sizeLine;omega,fun pa hpa=>?_⟩;have S1:=Qk.new (o:=.lst []) hpa;have g1:upd H pa (.lst []) pa=some (.lst []):=Qc;generalize upd H pa (.lst [])=H1 at S1 g1;refine⟨by show 0<=sizeLine;omega,fun e0 he0=>?_⟩;have S2:=Qk.new (o:=.tup []) he0;refine⟨_,rfl,.ref e0,iv,Jt [],its,rfl,.tup Qc .nil,(DI.same S1).same S2,Nat.le_trans (YG its) hw,fun lf xs H3 S3 hlf gl tl=>?_⟩;rw[Qaz]at tl;have S13:=S2.trans S3;have T3:TwoL H H3 pa lf [] xs [] ((pts [] its).map ptD):=by
   refine⟨S1.trans S13,hpa,?_,?_,S13 _ _ g1,gl,.nil,tl⟩
   ·cases e:H lf with
    |none=>rfl
    |some o=>rw[S2 _ _ (S1 _ _ e)]at hlf;cases hlf
   ·intro z;rw[←z,S2 _ _ g1]at hlf;cases hlf
  clear S1 g1 S2 S3 S13 hlf gl tl he0 hpa;have hB:([]:List (List Step))++ptB (pts [] its)=bxL its []:=by rw[vz];rfl
  have hW:ptW (pts [] its)<=10000:=by rw[Qay];exact hw
  have hO:∀e∈pts [] its,Qa0 e:=ky hok (by simpa using hw);generalize pts [] its=st0 at T3 hB hW hO;refine⟨fun m σ H4=>∃(x1 x2:List V)(acc:List (List Step))(st:List Pt)(y4 y5 y6:Option V),σ=[some iv,some (.bl true),some (.ref pa),some (.ref lf),y4,y5,y6]/\TwoL H H4 pa lf x1 x2 (acc.map Jt) (st.map ptD)/\acc++ptB st=bxL its []/\ptW st<=m/\acc.length+m<=10000/\∀e∈st,Qa0 e,⟨10000,[],xs,[],st0,none,none,none,rfl,T3,hB,hW,by simp,hO⟩,?_⟩;clear T3 hB hW hO;rintro m σ H4 ⟨x1,x2,acc,st,y4,y5,y6,rfl,T4,hB,hW,hm,hO⟩;have l1:=T4.t1.length;have l2:=T4.t2.length;rw[List.length_map]at l1 l2;rcases List.eq_nil_or_concat st with rfl|⟨st0,e0,rfl⟩
  ·have e:x2=[]:=List.eq_nil_of_length_eq_zero (by simpa using l2);subst e;refine⟨_,rfl,false,.inl ⟨_,.inl (.inl T4.g2),rfl⟩,QG ⟨_,rfl,?_⟩⟩;have hB:acc++[]=bxL its []:=hB;rw[List.append_nil]at hB;rw[←hB]at k;exact k _ _ _ T4.S T4.g1 T4.t1
  rw[List.concat_eq_append]at T4 hB hW l2 hO;obtain⟨pre,y⟩:=e0;rw[YL]at hB;rw[K1]at hW;have hB:acc++(y.bx pre++[]++ptB st0)=bxL its []:=hB;rw[List.append_nil]at hB;have hW:ptW st0+(y.wt+0)<=m:=hW;obtain⟨hOy,hOl⟩:y.okK/\pre.length+y.wt<=10000:=hO _ (List.mem_append_right _ List.mem_cons_self);have hO0:∀e∈st0,Qa0 e:=fun e he=>hO e (List.mem_append_left _ he);have hyw:=y.ko;have lst0:=qu st0;rw[List.map_append]at T4;obtain⟨xs0,xl,rfl,t1,Dl⟩:∃xs0 xl,x2=xs0++[xl]/\Deeps H4 xs0 (st0.map ptD)/\Deep H4 xl (ptD (pre,y)):=by
   rcases List.eq_nil_or_concat x2 with rfl|⟨xs0,xl,rfl⟩
   ·simp at l2
   ·rw[List.concat_eq_append]at T4 ⊢;have l0:xs0.length=(st0.map ptD).length:=by
     have:=T4.t2.length;rw[List.length_append,List.length_append]at this;simpa using this
    have ht:=T4.t2.take xs0.length;have hd:=T4.t2.drop xs0.length;rw[List.take_left' rfl,l0,List.take_left' rfl]at ht;rw[List.drop_left' rfl,l0,List.drop_left' rfl]at hd;cases hd with
    |cons h t=>exact⟨xs0,xl,rfl,ht,h⟩
  refine⟨_,rfl,true,.inl ⟨_,.inl (.inl T4.g2),by simp⟩,QH ?_⟩;refine⟨fun σ' H'=>∃m',m'<m/\∃(x1 x2:List V)(acc:List (List Step))(st:List Pt)(y4 y5 y6:Option V),σ'=[some iv,some (.bl true),some (.ref pa),some (.ref lf),y4,y5,y6]/\TwoL H H' pa lf x1 x2 (acc.map Jt) (st.map ptD)/\acc++ptB st=bxL its []/\ptW st<=m'/\acc.length+m'<=10000/\∀e∈st,Qa0 e,fun _ _ h=>h,?_⟩;refine⟨_,rfl,.inl ⟨rfl,_,.inl (.inl T4.g2)⟩,?_⟩;refine⟨lf,_,xl,rfl,rfl,T4.g2,by simp,?_⟩;have T5:TwoL H (upd H4 lf (.lst (xs0++[xl]).dropLast)) pa lf x1 xs0 (acc.map Jt) (st0.map ptD):=by
   rw[List.dropLast_concat];exact T4.put2 t1
  have Dl5:=Dl.Wo (o':=.lst (xs0++[xl]).dropLast) T4.g2 ZZ;generalize upd H4 lf (.lst (xs0++[xl]).dropLast)=H5 at T5 Dl5;clear T4 Dl t1 l2;obtain⟨pb,px,rfl,gp,tp⟩:=Deep.X0 (show Deep H5 xl (.tup [Jt pre,y.dv])from Dl5);obtain⟨vp,vy,rfl,DP,DY⟩:∃vp vy,px=[vp,vy]/\Deep H5 vp (.tup (pre.map Je))/\Deep H5 vy y.dv:=by
   cases tp with
   |cons p1 t=>cases t with
    |cons p2 t=>cases t;exact⟨_,_,rfl,p1,p2⟩
  refine⟨pb,_,rfl,.inl (.inl gp),rfl,_,_,rfl,_,_,rfl,rfl,?_⟩;obtain⟨va,vx,rfl,gv,tv⟩:=Deep.X0 DP;have lvx:=tv.length;rw[List.length_map]at lvx;dsimp only[QJ,JS,ZI,QQ];cases y with
  |box nm p=>
   obtain⟨a,rfl,g⟩:=Ks DY;refine⟨_,rfl,a,_,0,_,rfl,rfl,.inl g,rfl,rfl,true,rfl,QH ?_⟩;refine⟨_,rfl,.inl ⟨rfl,_,.inl (.inl T5.g1)⟩,?_⟩;refine⟨_,rfl,_,rfl,a,_,1,_,rfl,rfl,.inl g,rfl,by show 1<=sizeLine;omega,fun p6 hp6=>?_⟩;have S6:=Qk.new (o:=.tup [.str nm]) hp6;refine UA (S6 _ _ gv) Qc (tv.same S6) (ds:=pre.map Je) (es:=[Je (nm,none)]) (.cons .str .nil) (by show vx.length+1<=sizeLine;omega) fun u7 H7 S7 D7=>?_;rw[Xk]at D7;have T7:=(T5.same S6).same S7;refine⟨pa,x1,u7,rfl,rfl,T7.g1,by omega,?_⟩;rw[Ly.wt]at hW;rw[Ly.bx]at hB;refine⟨m-1,by omega,x1++[u7],xs0,acc++[pre++[(nm,none)]],st0,_,_,_,rfl,?_,by rw[List.append_assoc];exact hB,by omega,by rw[List.length_append,List.length_singleton];omega,hO0⟩;rw[List.map_append];exact T7.jg (T7.t1.append (.cons D7 .nil))
  |grp nm in_=>
   obtain⟨a,x3,rfl,g,D3⟩:=XJ DY;rw[Ly.wt]at hW hOl;rw[Ly.bx]at hB;rw[Ly.okK]at hOy;have hlen:=YG in_;refine⟨_,rfl,a,_,0,_,rfl,rfl,.inl g,rfl,rfl,false,by rw[vo],QG ?_⟩;refine⟨_,rfl,a,_,0,_,rfl,rfl,.inl g,rfl,rfl,true,rfl,QH ?_⟩;refine⟨_,rfl,.inl ⟨rfl,_,.inl (.inl T5.g2)⟩,?_⟩;refine⟨_,rfl,_,rfl,a,_,1,_,rfl,rfl,.inl g,rfl,by show 1<=sizeLine;omega,fun p6 hp6=>?_⟩;have S6:=Qk.new (o:=.tup [.str nm]) hp6;refine UA (S6 _ _ gv) Qc (tv.same S6) (ds:=pre.map Je) (es:=[Je (nm,none)]) (.cons .str .nil) (by show vx.length+1<=sizeLine;omega) fun u7 H7 S7 D7=>?_;rw[Xk]at D7;have S67:=S6.trans S7;refine⟨_,rfl,a,_,2,_,rfl,rfl,.inl (S67 _ _ g),rfl,u7,x3,Jt (pre++[(nm,none)]),in_,rfl,D7,D3.same S67,by omega,fun q8 xs8 H8 S8 hq8 g8 t8=>?_⟩;rw[Qaz]at t8;have T8:=(T5.same S67).same S8;have lx0:=T8.t2.length;rw[List.length_map]at lx0;have lx8:=t8.length;have lp8:((pts (pre++[(nm,none)]) in_).map ptD).length=in_.length:=by unfold pts;simp
   refine⟨lf,q8,xs0,xs8,rfl,rfl,T8.g2,g8,by omega,?_⟩;refine⟨m-1,by omega,x1,xs0++xs8,acc,st0++pts (pre++[(nm,none)]) in_,_,_,_,rfl,?_,?_,?_,by omega,?_⟩
   ·rw[List.map_append];exact T8.put2 (T8.t2.append t8)
   ·rw[YL,vz];exact hB
   ·rw[K1,Qay];omega
   ·intro e he;rcases List.mem_append.mp he with he|he
    ·exact hO0 e he
    ·exact ky hOy (by rw[List.length_append,List.length_singleton];omega) e he
  |tab nm k1 in_=>
   obtain⟨a,x3,rfl,g,D3⟩:=Xi DY;rw[Ly.wt]at hW hOl;rw[Ly.bx]at hB;rw[Ly.okK]at hOy;have hlen:=YG in_;refine⟨_,rfl,a,_,0,_,rfl,rfl,.inl g,rfl,rfl,false,by rw[vq],QG ?_⟩;refine⟨_,rfl,a,_,0,_,rfl,rfl,.inl g,rfl,rfl,false,by rw[Qce],QG ?_⟩;refine⟨_,rfl,true,rfl,QH ?_⟩;refine⟨_,rfl,a,_,2,_,rfl,rfl,.inl g,rfl,0,(k1:Nat),rfl,⟨by decide,by decide,by omega,by omega⟩,?_⟩;have hn:(((k1:Nat):Int)-0).toNat=k1:=by omega
   rw[hn];refine Xf (QcV (lo:=0+((k1:Nat):Int)-1) (c:= -1) (n:=k1)) (fun t σ H6=>∃(x2:List V)(y6:Option V),σ=[some iv,some (.bl true),some (.ref pa),some (.ref lf),some (.ref va),some (.ref a),y6]/\TwoL H H6 pa lf x1 x2 (acc.map Jt) ((st0++psh pre nm k1 in_ t).map ptD)/\H6 va=some (.tup vx)/\Deeps H6 vx (pre.map Je)/\H6 a=some (.tup [.str "table",.str nm,.int (k1:Nat),x3])/\Deep H6 x3 (.tup (dvL in_))) ⟨xs0,y6,rfl,by rw[psh,List.append_nil];exact T5,gv,tv,g,D3⟩ ?_ ?_ ?_
   ·intro t σ H6 _ _;trivial
   ·rintro t v σ H60 H6 ht ⟨x2,y6,rfl,T6,gv6,tv6,g6,D6⟩ ⟨rfl,rfl⟩;have e1:0+((k1:Nat):Int)-1+((t:Nat):Int)*(-1)=((k1-1-t:Nat):Int):=by omega
    rw[e1];dsimp only[QJ,JS,ZI,QQ];refine⟨_,rfl,.inl ⟨rfl,_,.inl (.inl T6.g2)⟩,?_⟩;refine⟨_,rfl,_,rfl,a,_,1,_,rfl,rfl,.inl g6,rfl,_,rfl,by show 2<=sizeLine;omega,fun p7 hp7=>⟨by show 1<=sizeLine;omega,fun p8 hp8=>?_⟩⟩;have S7:=Qk.new (o:=.tup [.str nm,.int (k1-1-t:Nat)]) hp7;have S8:=Qk.new (o:=.tup [.ref p7]) hp8;have D8:Deep (upd (upd H6 p7 (.tup [.str nm,.int (k1-1-t:Nat)])) p8 (.tup [.ref p7])) (.ref p7) (Je (nm,some ((k1-1-t:Nat):Int))):=(Deep.tup Qc (.cons .str (.cons .int .nil))).same S8;refine UA ((S7.trans S8) _ _ gv6) Qc (tv6.same (S7.trans S8)) (ds:=pre.map Je) (es:=[Je (nm,some ((k1-1-t:Nat):Int))]) (.cons D8 .nil) (by show vx.length+1<=sizeLine;omega) fun u9 H9 S9 D9=>?_;rw[Xk]at D9;have S69:=(S7.trans S8).trans S9;have hlw:in_.length<=k1*wtL in_:=Nat.le_trans hlen (Nat.le_mul_of_pos_left _ (by omega));have hww:wtL in_<=k1*wtL in_:=Nat.le_mul_of_pos_left _ (by omega);refine⟨_,rfl,a,_,3,_,rfl,rfl,.inl (S69 _ _ g6),rfl,u9,x3,Jt (pre++[(nm,some ((k1-1-t:Nat):Int))]),in_,rfl,D9,D6.same S69,by omega,fun q10 xs10 H10 S10 hq10 g10 t10=>?_⟩;rw[Qaz]at t10;have T10:=(T6.same S69).same S10;have S610:=S69.trans S10;have lx2:=T10.t2.length;rw[List.length_map,List.length_append]at lx2;have lpsh:=qu (psh pre nm k1 in_ t);rw[QaA]at lpsh;have hmul:t*wtL in_<=k1*wtL in_:=Nat.mul_le_mul_right _ (by omega);have lx10:=t10.length;have lp10:((pts (pre++[(nm,some ((k1-1-t:Nat):Int))]) in_).map ptD).length=in_.length:=by unfold pts;simp
    refine⟨lf,q10,x2,xs10,rfl,rfl,T10.g2,g10,by omega,?_⟩;have nva:va≠lf:=fun z=>by rw[z,T6.g2]at gv6;cases gv6
    have na:a≠lf:=fun z=>by rw[z,T6.g2]at g6;cases g6
    refine⟨x2++xs10,_,rfl,?_,by rw[Qp nva];exact S610 _ _ gv6,(tv6.same S610).Wo T10.g2 ZZ,by rw[Qp na];exact S610 _ _ g6,(D6.same S610).Wo T10.g2 ZZ⟩;rw[psh, ←List.append_assoc,List.map_append];exact T10.put2 (T10.t2.append t10)
   ·rintro σ H6 ⟨x2,y6,rfl,T6,_,_,_,_⟩;refine⟨m-1,by omega,x1,x2,acc,st0++psh pre nm k1 in_ k1,_,_,_,rfl,T6,?_,?_,by omega,?_⟩
    ·rw[YL,QbP _ _ _ _ _ (Nat.le_refl _),Nat.sub_self,List.drop_zero];exact hB
    ·rw[K1,QaA];omega
    ·intro e he;rcases List.mem_append.mp he with he|he
     ·exact hO0 e he
     ·have key:∀t,t<=k1->∀e∈psh pre nm k1 in_ t,Qa0 e:=by
       intro t
       induction t with
       |zero=>intro _ e he;exact nomatch he
       |succ t ih=>
        intro ht e he;rcases List.mem_append.mp he with he|he
        ·exact ih (by omega) e he
        ·have hww:wtL in_<=k1*wtL in_:=Nat.le_mul_of_pos_left _ (by omega);exact ky hOy.2 (by rw[List.length_append,List.length_singleton];omega) e he
      exact key k1 (Nat.le_refl _) e he
def qw:Sp:=fun vs H Q _=>∃(iv:V)(its:List (Bool × Ly)),vs=[iv]/\Deep H iv (.tup (dvL its))/\wtL its<=10000/\okL its/\∀u H',Qk H H'->Deep H' u (.tup ((bxL its []).map Jt))->Q u H'
theorem vA(F:Fun K "boxes" "boxes" U1 f fd)(OT:mg "tuple"=none)(D_paths_of_boxes:Def P w K mg base 3 "paths_of_boxes" ["items","with_tables"] qv):FnOk P w K mg base (CXE P w) 4 f fd ["layout"] qw:=by
 refine WQ F wO (fun vs H Q E h=>?_) (fun cdv A outer s H vs Q E hr h=>?_)
 ·obtain⟨iv,its,rfl,_⟩:=h;rfl
 ·obtain⟨iv,its,rfl,DI,hw,hok,k⟩:=h;refine⟨_,(Qt (QE (PEx.mk (Ka Kb rfl OT PyProof.Rows.boot_tuple (Qw (D_paths_of_boxes.pe hr (by decide) rfl Qx (Qw (pv 0) (Qw Zs Qb))) Qb))))),?_⟩;refine⟨_,rfl,iv,its,rfl,DI,hw,hok,fun q xs H1 S1 g1 t1=>⟨q,xs,rfl,.inl ⟨.inl (.inl g1),fun l hl=>?_⟩⟩⟩;exact k _ _ (S1.trans (Qk.new hl)) (Yy t1 hl)
end
open PySem PySem.Spec PyProof.Rows L2 K02
section
variable {P:Program}{w:World}{K:PySem.W.Frag}{mg:Str->Option Value}{base:Heap}{f:Addr}{fd:FuncData}{tk:Nat->Tok}{c kr:Nat->Addr}
theorem YM{H:Hp}{a:Addr}{ns:List Int}(h:SqL K H a (ns.map V.int)):Qcv K (.ref a) H (!ns.isEmpty):=.inl ⟨_,h,by cases ns<;>rfl⟩
theorem UC(F:Fun K "_law_draw" "_law_draw" XY f fd)(O:Own mg):FnOk P w K mg base (CXE P w) 1 f fd ["_law_script","_law_town","_law_many"] (WS K):=by
 refine okN F J0 (fun vs H Q E h=>?_) (fun cdv A outer s H vs Q E hr h=>?_)
 ·obtain⟨a,t,r,ns,c,many,rs,rfl,_⟩:=h;rfl
 ·obtain⟨a,t,r,ns,c,many,rs,rfl,hS,T,nat,nar,hl,hc,hm0,hm1,k⟩:=h;have hu:=Qbm hr;have T1:TownAt (upd H t (.dK [(Sum.inr "count",.int (c+1)),(Sum.inr "rests",.ref r)])) t r (c+1) rs:=⟨Qc,by rw[Qp T.ne.symm];exact T.rt,T.vs,by have:=T.c0;omega,by have:=T.ln;omega,T.ne⟩;have hS1:=hS.upd (o:=.dK [(Sum.inr "count",.int (c+1)),(Sum.inr "rests",.ref r)]) nat;have A1:Apart t r H (upd H t (.dK [(Sum.inr "count",.int (c+1)),(Sum.inr "rests",.ref r)])):=fun b o e n1 n2=>by rw[Qp n1];exact e
  refine⟨_,(Qe (zZ hu (pv 1) Qm (QM Jl (KH hu (pv 1) Qm (fun _ _=>rfl)) Qd) rfl)
   (Qe (QC (i:=3) J0.nd rfl (Or.inl rfl) (Za (JT (pv 0) (fun _=>rfl)) (QM Vy (KH hu (pv 1) Qm (fun _ _=>rfl)) (Ql Qu rfl O.len PySem.boot_len (Qa (pv 0) Qb))) Qd))
   (Qe (QC (i:=4) J0.nd rfl (Or.inl rfl) (wo hu (KH hu (pv 1) Qm (fun _ _=>rfl)) (pv 3) (Za (JT (pv 0) (fun _=>rfl)) (Qv QZ (pv 0) (pv 3) (fun _ _=>rfl)) Qd) ⟨rfl,rfl,rfl,rfl⟩))
   (Qe (QY (Qi yw (pv 4) (QM vU Qd Qd) (Qo _)) (Qe (zZ hu (KH hu (pv 1) Qm (fun _ _=>rfl)) (pv 3) (QM VW (pv 4) (pv 2)) rfl)
   (Qg (QA (QM Vy (pv 4) (pv 2))))) QD)
   (Qe (QC (i:=5) J0.nd rfl (Or.inl rfl) (QM Vy (QM Jl (pv 4) (QM Wb Qd (KH hu (pv 1) Qm (fun _ _=>rfl)))) Qd))
   (Qe (QC (i:=5) J0.nd rfl (Or.inl rfl) (QM Vy (QM vU (pv 5) Qd) Qd))
   (Qg (QA (QM Vy (QM VW (QM Vy (QM Jl (QM Wb (QM VW (pv 5) Qd) Qd) (pv 5)) Qd) Qd) (pv 2)))))))))),?_⟩
  refine⟨_,rfl,t,_,rfl,Xp T.tw,_,_,rfl,rfl,_,rfl,t,_,rfl,jQ _ T.tw,?_⟩;refine⟨_,rfl,_,YM hS1,?_⟩;refine ifB (fun hz=>?_) (fun hz=>?_)
  ·have hp:0<ns.length:=by cases ns with|nil=>cases hz|cons a r=>exact Nat.succ_pos _
   have hp':(0:Int)<((ns.map V.int).length:Int):=by rw[List.length_map];omega
   refine⟨_,rfl,t,_,rfl,Xp T1.tw,_,rfl,a,_,rfl,.inl hS1,_,_,rfl,rfl,hp',?_⟩;have m1:=Int.emod_nonneg (c+1) (Int.ne_of_gt hp');have m2:=Int.emod_lt_of_pos (c+1) hp';obtain⟨j,hj⟩:=Int.eq_ofNat_of_zero_le m1;have hjl:j<ns.length:=by rw[hj,List.length_map]at m2;omega
   refine⟨_,rfl,t,_,rfl,Xq T1.tw,r,rfl,.inl ⟨rs,.inl T1.rt⟩,_,rfl,_,rfl,_,YM hS1,?_⟩;rw[hz];refine QH ⟨_,rfl,_,rfl,a,_,_,V.int ns[j],rfl,rfl,hS1,?_,_,qQ.k (k:=Sum.inl ((c+1) % ((ns.map V.int).length:Int))) T1.rt,?_⟩
   ·show atI (ns.map V.int) ((c+1) % ((ns.map V.int).length:Int))=_;rw[hj];refine QL ?_;rw[List.getElem?_map,List.getElem?_eq_getElem hjl];rfl
   obtain⟨z,hz⟩:=Uf T1.vs ((c+1) % ((ns.map V.int).length:Int)) (ns[j]);rw[hz];refine⟨_,rfl,_,_,rfl,rfl,⟨by decide,by decide,by decide⟩,_,_,rfl,rfl,_,rfl,?_⟩;refine ifB (fun g=>?_) (fun g=>?_)
   ·have P2:=Ug T1.vs ((c+1) % ((ns.map V.int).length:Int)) (z/many);refine⟨_,rfl,_,rfl,_,_,rfl,rfl,⟨hm0,by omega⟩,_,rfl,t,_,rfl,Xq T1.tw,_,rfl,r,_,rfl,v8.k (k:=Sum.inl ((c+1) % ((ns.map V.int).length:Int))) T1.rt (Nat.lt_of_lt_of_le (m:=100001) (by have:=T.ln;omega) (by decide)),?_⟩;refine⟨_,rfl,_,rfl,_,_,rfl,rfl,hm0,?_⟩;refine k _ (putK rs (Sum.inl ((c+1) % ((ns.map V.int).length:Int))) (.int (z/many))) _ (Int.emod_nonneg _ (Int.ne_of_gt hm0)) (Int.emod_lt_of_pos _ hm0) ⟨?_,Qc,P2.1,T1.c0,?_,T.ne⟩ (A1.trans fun b o e n1 n2=>by rw[Qp n2];exact e)
    ·rw[Qp T.ne];exact T1.tw
    ·have:=P2.2;have:=T.ln;omega
   ·refine⟨_,rfl,_,rfl,t,_,rfl,Xp T1.tw,_,_,rfl,rfl,.inl ⟨by decide,by decide⟩,_,_,rfl,rfl,_,_,rfl,rfl,(show(0:Int)<4294967291 by decide),?_⟩;have n1:=Int.emod_nonneg (z+104729*(c+1)) (show(4294967291:Int)≠0 by decide);have n2:=Int.emod_lt_of_pos (z+104729*(c+1)) (show(0:Int)<4294967291 by decide);refine⟨_,rfl,_,_,rfl,rfl,⟨by decide,by decide,by show Int.natAbs _<2^64;omega⟩,_,_,rfl,rfl,(show(0:Int)<4294967279 by decide),?_⟩;refine⟨_,rfl,_,_,rfl,rfl,⟨by decide,by decide⟩,_,_,rfl,rfl,.inr ⟨by decide,by decide⟩,_,rfl,_,_,rfl,rfl,_,_,rfl,rfl,(show(0:Int)<4294967231 by decide),_,_,rfl,rfl,⟨by decide,by decide⟩,_,rfl,_,_,rfl,rfl,hm0,?_⟩;exact k _ rs _ (Int.emod_nonneg _ (Int.ne_of_gt hm0)) (Int.emod_lt_of_pos _ hm0) T1 A1
  ·refine⟨_,rfl,t,_,rfl,Xq T1.tw,r,rfl,.inl ⟨rs,.inl T1.rt⟩,_,rfl,_,rfl,_,YM hS1,?_⟩;rw[hz];refine QG ⟨_,qQ.k (k:=Sum.inl (0:Int)) T1.rt,?_⟩;obtain⟨z,hz⟩:=Uf T1.vs ((0:Int)) (0);rw[hz];refine⟨_,rfl,_,_,rfl,rfl,⟨by decide,by decide,by decide⟩,_,_,rfl,rfl,_,rfl,?_⟩;refine ifB (fun g=>?_) (fun g=>?_)
   ·have P2:=Ug T1.vs ((0:Int)) (z/many);refine⟨_,rfl,_,rfl,_,_,rfl,rfl,⟨hm0,by omega⟩,_,rfl,t,_,rfl,Xq T1.tw,_,rfl,r,_,rfl,v8.k (k:=Sum.inl ((0:Int))) T1.rt (Nat.lt_of_lt_of_le (m:=100001) (by have:=T.ln;omega) (by decide)),?_⟩;refine⟨_,rfl,_,rfl,_,_,rfl,rfl,hm0,?_⟩;refine k _ (putK rs (Sum.inl ((0:Int))) (.int (z/many))) _ (Int.emod_nonneg _ (Int.ne_of_gt hm0)) (Int.emod_lt_of_pos _ hm0) ⟨?_,Qc,P2.1,T1.c0,?_,T.ne⟩ (A1.trans fun b o e n1 n2=>by rw[Qp n2];exact e)
    ·rw[Qp T.ne];exact T1.tw
    ·have:=P2.2;have:=T.ln;omega
   ·refine⟨_,rfl,_,rfl,t,_,rfl,Xp T1.tw,_,_,rfl,rfl,.inl ⟨by decide,by decide⟩,_,_,rfl,rfl,_,_,rfl,rfl,(show(0:Int)<4294967291 by decide),?_⟩;have n1:=Int.emod_nonneg (z+104729*(c+1)) (show(4294967291:Int)≠0 by decide);have n2:=Int.emod_lt_of_pos (z+104729*(c+1)) (show(0:Int)<4294967291 by decide);refine⟨_,rfl,_,_,rfl,rfl,⟨by decide,by decide,by show Int.natAbs _<2^64;omega⟩,_,_,rfl,rfl,(show(0:Int)<4294967279 by decide),?_⟩;refine⟨_,rfl,_,_,rfl,rfl,⟨by decide,by decide⟩,_,_,rfl,rfl,.inr ⟨by decide,by decide⟩,_,rfl,_,_,rfl,rfl,_,_,rfl,rfl,(show(0:Int)<4294967231 by decide),_,_,rfl,rfl,⟨by decide,by decide⟩,_,rfl,_,_,rfl,rfl,hm0,?_⟩;exact k _ rs _ (Int.emod_nonneg _ (Int.ne_of_gt hm0)) (Int.emod_lt_of_pos _ hm0) T1 A1
theorem YN(F:Fun K "_law_begun" "_law_begun" Xc f fd):FnOk P w K mg base (CXE P w) 1 f fd [] UW:=by
 refine WQ F Yh (fun vs H Q E h=>?_) (fun cdv A outer s H vs Q E hr h=>?_)
 ·obtain⟨rfl,_⟩:=h;rfl
 ·obtain⟨rfl,k⟩:=h;refine⟨_,jP,?_⟩;intro p hp d hd;have npd:d≠p:=fun z=>by rw[z,Qc]at hd;cases hd
  have hd0:H d=none:=by rw[Qp npd]at hd;exact hd
  refine⟨by rw[Qp npd.symm,Qc],[(Sum.inr "count",.int 0),(Sum.inr "rests",.ref d)],rfl,Nat.le_of_ble_eq_true rfl,?_⟩;have e:Ke [] [((Sum.inr "count":Key),V.int 0),((Sum.inr "rests":Key),V.ref d)]=[((Sum.inr "count":Key),V.int 0),((Sum.inr "rests":Key),V.ref d)]:=by
   have h:¬ ((Sum.inr "count":Key)=(Sum.inr "rests":Key)):=xm;unfold Ke putK;simp[h]
  rw[e];refine k p d _ hp hd0 ⟨Qc,by rw[Qp npd,Qc],(fun kv hm=>nomatch hm),by decide,by decide,npd.symm⟩ fun b o z=>?_;rw[Qp (Qs z hp),Qp (Qs z hd0),Qp (Qs z hp)];exact z
end
structure Kind(K:PySem.W.Frag)(c:Nat->Addr)(i:Nat):Prop where
 lo:1<=i
 hi:i<=14
 er:ErrK K (c i)
 ki:∀j,j<14->PySem.W.kitOne K (.ref (c i)) (.ref (c (j+1)))=some (decide (j+1=i))
 va:PySem.W.kitOne K (.ref (c i)) (.type "ValueError")=some true
 bo:PySem.W.exmOne K (.ref (c i)) (.ref (c 0))=some true
def QaB(i:Nat):Str:=(["no picture","no room","no quotient","no text","no figures","no letters","no move","no path","no amount","no group","bad size","no back","bad row","closed"]:List Str).getD (i-1) ""
def kinds(i:Nat):List V:=[.bl (decide (0+1=i)),.bl (decide (1+1=i)),.bl (decide (2+1=i)),.bl (decide (3+1=i)),.bl (decide (4+1=i)),.bl (decide (5+1=i)),.bl (decide (6+1=i)),.bl (decide (7+1=i)),.bl (decide (8+1=i)),.bl (decide (9+1=i)),.bl (decide (10+1=i)),.bl (decide (11+1=i)),.bl (decide (12+1=i)),.bl (decide (13+1=i))]
theorem qx:∀i,i<15->1<=i->(kinds i).countP (fun z=>eqV z (.bl true))=1:=by decide
theorem vB:∀i,i<15->1<=i->(kinds i)[i-1]? =some (.bl true):=by decide
theorem vC:∀i,i<15->1<=i->∀j,j<i-1->(kinds i)[j]? =some (.bl false):=by decide
theorem VO(i:Nat):(kinds i).all XN=true:=rfl
def nms:List V:=[.str "no picture",.str "no room",.str "no quotient",.str "no text",.str "no figures",.str "no letters",.str "no move",.str "no path",.str "no amount",.str "no group",.str "bad size",.str "no back",.str "bad row",.str "closed"]
theorem QbQ:∀i,i<15->1<=i->nms[i-1]? =some (.str (QaB i)):=by decide
def Vf(K:PySem.W.Frag)(c:Nat->Addr):Sp:=fun vs H Q _=>∃(a:Addr)(i:Nat),vs=[.ref a]/\H a=some (xf a (.ref (c i)))/\Kind K c i/\∀H',Qk H H'->Q (.str (QaB i)) H'
section
variable {P:Program}{w:World}{K:PySem.W.Frag}{mg:Str->Option Value}{base:Heap}{f:Addr}{fd:FuncData}{tk:Nat->Tok}{c kr:Nat->Addr}
set_option maxHeartbeats 8000000 in
theorem YO(F:Fun K "_law_class" "_law_class" Xd f fd)(O:Own mg)(T:Txt K mg tk c kr):FnOk P w K mg base (CXE P w) 1 f fd ["_law_kept"] (Vf K c):=by
 refine okN F Q6 (fun vs H Q E h=>?_) (fun cdv A outer s H vs Q E hr h=>?_)
 ·obtain⟨a,i,rfl,_⟩:=h;rfl
 ·obtain⟨a,i,rfl,hH,G,k⟩:=h;have isi:∀(H1:Hp)(j:Nat),Qk H H1->j<14->(∃t,TyOf K H1 (.ref a) t/\PySem.W.kitOne K t (yL (.ref (c (j+1))))=some (decide (j+1=i)))\/∃b C,V.ref a=.ref b/\H1 b=some (xf b (.ref C))/\ErrK K C/\PySem.W.kitOne K (.ref C) (yL (.ref (c (j+1))))=some (decide (j+1=i)):=
   fun H1 j e hj=>.inr ⟨a,c i,rfl,e _ _ hH,G.er,G.ki j hj⟩
  refine⟨_,(Qe (QC (i:=1) Q6.nd rfl (Or.inl rfl) (Zt (Qa (Ql QI rfl O.isi PyProof.Rows.boot_isinstance (Qa (pv 0) (Qa (QF (v:=V.ref (c 1)) rfl T.m_NoPicture rfl) Qb))) (Qa (Ql QI rfl O.isi PyProof.Rows.boot_isinstance (Qa (pv 0) (Qa (QF (v:=V.ref (c 2)) rfl T.m_NoRoom rfl) Qb))) (Qa (Ql QI rfl O.isi PyProof.Rows.boot_isinstance (Qa (pv 0) (Qa (QF (v:=V.ref (c 3)) rfl T.m_NoQuotient rfl) Qb))) Qb)))))
   (Qe (QC (i:=1) Q6.nd rfl (Or.inl rfl) (QM Y7 (pv 1) (Zt (Qa (Ql QI rfl O.isi PyProof.Rows.boot_isinstance (Qa (pv 0) (Qa (QF (v:=V.ref (c 4)) rfl T.m_NoText rfl) Qb))) (Qa (Ql QI rfl O.isi PyProof.Rows.boot_isinstance (Qa (pv 0) (Qa (QF (v:=V.ref (c 5)) rfl T.m_NoFigures rfl) Qb))) (Qa (Ql QI rfl O.isi PyProof.Rows.boot_isinstance (Qa (pv 0) (Qa (QF (v:=V.ref (c 6)) rfl T.m_NoLetters rfl) Qb))) Qb))))))
   (Qe (QC (i:=1) Q6.nd rfl (Or.inl rfl) (QM Y7 (pv 1) (Zt (Qa (Ql QI rfl O.isi PyProof.Rows.boot_isinstance (Qa (pv 0) (Qa (QF (v:=V.ref (c 7)) rfl T.m_NoMove rfl) Qb))) (Qa (Ql QI rfl O.isi PyProof.Rows.boot_isinstance (Qa (pv 0) (Qa (QF (v:=V.ref (c 8)) rfl T.m_NoPath rfl) Qb))) (Qa (Ql QI rfl O.isi PyProof.Rows.boot_isinstance (Qa (pv 0) (Qa (QF (v:=V.ref (c 9)) rfl T.m_NoAmount rfl) Qb))) Qb))))))
   (Qe (QC (i:=1) Q6.nd rfl (Or.inl rfl) (QM Y7 (pv 1) (Zt (Qa (Ql QI rfl O.isi PyProof.Rows.boot_isinstance (Qa (pv 0) (Qa (QF (v:=V.ref (c 10)) rfl T.m_NoGroup rfl) Qb))) (Qa (Ql QI rfl O.isi PyProof.Rows.boot_isinstance (Qa (pv 0) (Qa (QF (v:=V.ref (c 11)) rfl T.m_BadSize rfl) Qb))) (Qa (Ql QI rfl O.isi PyProof.Rows.boot_isinstance (Qa (pv 0) (Qa (QF (v:=V.ref (c 12)) rfl T.m_NoBack rfl) Qb))) Qb))))))
   (Qe (QC (i:=1) Q6.nd rfl (Or.inl rfl) (QM Y7 (pv 1) (Zt (Qa (Ql QI rfl O.isi PyProof.Rows.boot_isinstance (Qa (pv 0) (Qa (QF (v:=V.ref (c 13)) rfl T.m_BadRow rfl) Qb))) (Qa (Ql QI rfl O.isi PyProof.Rows.boot_isinstance (Qa (pv 0) (Qa (QF (v:=V.ref (c 14)) rfl T.m_Closed rfl) Qb))) Qb)))))
   (Qe (QY (PW.pt (Z0 (Qi XA (ZN PySem.F.plainAttrs_list PySem.F.slot_list_count PySem.F.type_list_count wz (pv 1) (Qa Zs Qb)) Qd (Qo _)) (Zk (ZX (Zj (Ql QI rfl O.isi PyProof.Rows.boot_isinstance (Qa (pv 0) (Qa (Zi (v:=V.ty "ValueError") rfl O.val PyProof.Rows.Boot.«ValueError» rfl) Qb)))))))) (Qg (QA Qm)) QD)
   (Qe (QC (i:=2) Q6.nd rfl (Or.inl rfl) (Zt (Qa Qm (Qa Qm (Qa Qm (Qa Qm (Qa Qm (Qa Qm (Qa Qm (Qa Qm Qb))))))))))
   (Qg (QA (Qv QZ (QM Y7 (pv 2) (Zt (Qa Qm (Qa Qm (Qa Qm (Qa Qm (Qa Qm (Qa Qm Qb)))))))) (ZN PySem.F.plainAttrs_list PySem.F.slot_list_index PySem.F.type_list_index wA (pv 1) (Qa Zs Qb)) (fun _ _=>rfl))))))))))),?_⟩
  have e0:=Qk.refl H;refine⟨_,rfl,_,_,_,rfl,rfl,isi _ 0 e0 (by decide),_,rfl,_,_,_,rfl,rfl,isi _ 1 e0 (by decide),_,rfl,_,_,_,rfl,rfl,isi _ 2 e0 (by decide),by show 3<=sizeLine;decide,fun p1 h1=>?_⟩;generalize hG:upd H p1 _=H1;have e1:Qk H H1:=by rw[←hG];exact Qk.new h1
  have g1:H1 p1=some (.lst [.bl (decide (0+1=i)),.bl (decide (1+1=i)),.bl (decide (2+1=i))]):=by rw[←hG];exact Qc
  clear hG h1;refine⟨_,rfl,_,rfl,_,_,_,rfl,rfl,isi _ 3 e1 (by decide),_,rfl,_,_,_,rfl,rfl,isi _ 4 e1 (by decide),_,rfl,_,_,_,rfl,rfl,isi _ 5 e1 (by decide),by show 3<=sizeLine;decide,fun q2 h2=>⟨p1,q2,_,_,rfl,rfl,by rw[Qp (Qs g1 h2)];exact g1,Qc,by show 6<=sizeLine;decide,fun p2 h3=>?_⟩⟩;generalize hG:upd (upd H1 q2 _) p2 _=H2;have e2:Qk H H2:=by rw[←hG];exact(e1.trans (Qk.new h2)).trans (Qk.new h3)
  have g2:H2 p2=some (.lst [.bl (decide (0+1=i)),.bl (decide (1+1=i)),.bl (decide (2+1=i)),.bl (decide (3+1=i)),.bl (decide (4+1=i)),.bl (decide (5+1=i))]):=by rw[←hG];exact Qc
  clear hG h2 h3;refine⟨_,rfl,_,rfl,_,_,_,rfl,rfl,isi _ 6 e2 (by decide),_,rfl,_,_,_,rfl,rfl,isi _ 7 e2 (by decide),_,rfl,_,_,_,rfl,rfl,isi _ 8 e2 (by decide),by show 3<=sizeLine;decide,fun q3 h2=>⟨p2,q3,_,_,rfl,rfl,by rw[Qp (Qs g2 h2)];exact g2,Qc,by show 9<=sizeLine;decide,fun p3 h3=>?_⟩⟩;generalize hG:upd (upd H2 q3 _) p3 _=H3;have e3:Qk H H3:=by rw[←hG];exact(e2.trans (Qk.new h2)).trans (Qk.new h3)
  have g3:H3 p3=some (.lst [.bl (decide (0+1=i)),.bl (decide (1+1=i)),.bl (decide (2+1=i)),.bl (decide (3+1=i)),.bl (decide (4+1=i)),.bl (decide (5+1=i)),.bl (decide (6+1=i)),.bl (decide (7+1=i)),.bl (decide (8+1=i))]):=by rw[←hG];exact Qc
  clear hG h2 h3;refine⟨_,rfl,_,rfl,_,_,_,rfl,rfl,isi _ 9 e3 (by decide),_,rfl,_,_,_,rfl,rfl,isi _ 10 e3 (by decide),_,rfl,_,_,_,rfl,rfl,isi _ 11 e3 (by decide),by show 3<=sizeLine;decide,fun q4 h2=>⟨p3,q4,_,_,rfl,rfl,by rw[Qp (Qs g3 h2)];exact g3,Qc,by show 12<=sizeLine;decide,fun p4 h3=>?_⟩⟩;generalize hG:upd (upd H3 q4 _) p4 _=H4;have e4:Qk H H4:=by rw[←hG];exact(e3.trans (Qk.new h2)).trans (Qk.new h3)
  have g4:H4 p4=some (.lst [.bl (decide (0+1=i)),.bl (decide (1+1=i)),.bl (decide (2+1=i)),.bl (decide (3+1=i)),.bl (decide (4+1=i)),.bl (decide (5+1=i)),.bl (decide (6+1=i)),.bl (decide (7+1=i)),.bl (decide (8+1=i)),.bl (decide (9+1=i)),.bl (decide (10+1=i)),.bl (decide (11+1=i))]):=by rw[←hG];exact Qc
  clear hG h2 h3;refine⟨_,rfl,_,rfl,_,_,_,rfl,rfl,isi _ 12 e4 (by decide),_,rfl,_,_,_,rfl,rfl,isi _ 13 e4 (by decide),by show 2<=sizeLine;decide,fun q5 h2=>⟨p4,q5,_,_,rfl,rfl,by rw[Qp (Qs g4 h2)];exact g4,Qc,by show 14<=sizeLine;decide,fun p5 h3=>?_⟩⟩;generalize hG:upd (upd H4 q5 _) p5 _=H5;have e5:Qk H H5:=by rw[←hG];exact(e4.trans (Qk.new h2)).trans (Qk.new h3)
  have g5:H5 p5=some (.lst [.bl (decide (0+1=i)),.bl (decide (1+1=i)),.bl (decide (2+1=i)),.bl (decide (3+1=i)),.bl (decide (4+1=i)),.bl (decide (5+1=i)),.bl (decide (6+1=i)),.bl (decide (7+1=i)),.bl (decide (8+1=i)),.bl (decide (9+1=i)),.bl (decide (10+1=i)),.bl (decide (11+1=i)),.bl (decide (12+1=i)),.bl (decide (13+1=i))]):=by rw[←hG];exact Qc
  clear hG h2 h3;have hi:i<15:=by have:=G.hi;omega
  have g6:H5 p5=some (.lst (kinds i)):=g5;clear g5;have ty5:∀H':Hp,H' p5=some (.lst (kinds i))->tyV K "list" (V.ref p5) H':=fun H' g=>.inl ⟨rfl,_,.inl (.inl g)⟩;refine⟨_,rfl,ty5 _ g6,p5,kinds i,_,rfl,rfl,g6,rfl,VO i,?_⟩;rw[qx i hi G.lo];refine⟨rfl,_,rfl,?_⟩;refine ifB (fun z=>absurd z (by decide)) (fun _=>?_);refine⟨_,rfl,_,_,_,rfl,rfl,.inr ⟨a,c i,rfl,e5 _ _ hH,G.er,G.va⟩,_,rfl,?_⟩;refine ifB (fun z=>absurd z (by decide)) (fun _=>?_);refine⟨by show 8<=sizeLine;decide,fun p6 h6=>?_⟩;generalize hG:upd H5 p6 _=H6;have e6:Qk H H6:=by rw[←hG];exact e5.trans (Qk.new h6)
  have k6:H6 p5=some (.lst (kinds i)):=by rw[←hG,Qp (Qs g6 h6)];exact g6
  have g7:H6 p6=some (.lst [.str "no picture",.str "no room",.str "no quotient",.str "no text",.str "no figures",.str "no letters",.str "no move",.str "no path"]):=by rw[←hG];exact Qc
  clear hG h6 g6;refine⟨_,rfl,by show 6<=sizeLine;decide,fun q6 h7=>⟨p6,q6,_,_,rfl,rfl,by rw[Qp (Qs g7 h7)];exact g7,Qc,by show 14<=sizeLine;decide,fun p7 h8=>?_⟩⟩;generalize hG:upd (upd H6 q6 _) p7 _=H7;have e7:Qk H H7:=by rw[←hG];exact(e6.trans (Qk.new h7)).trans (Qk.new h8)
  have k7:H7 p5=some (.lst (kinds i)):=by
   have z:Qk H6 H7:=by rw[←hG];exact(Qk.new h7).trans (Qk.new h8)
   exact z _ _ k6
  have g8:H7 p7=some (.lst nms):=by rw[←hG];exact Qc
  clear hG h7 h8;refine⟨_,rfl,ty5 _ k7,p5,kinds i,_,i-1,rfl,rfl,k7,rfl,VO i,⟨_,vB i hi G.lo,rfl⟩,fun j z hj hz=>?_,p7,nms,_,.str (QaB i),rfl,rfl,.inl (.inl g8),QL (QbQ i hi G.lo),k _ e7⟩;rw[vC i hi G.lo j hj]at hz;cases hz;rfl
end
def tHd(K:PySem.W.Frag)(c:Nat->Addr)(te:XK->TE):L2.St->Hp->VK->Prop:=fun σ H1 Q=>∀H0,Qk H1 H0->
 te (fun cls _ H2=>∃i,cls=.ref (c i)/\Kind K c i/\∀a p H3,H2 a=none->Qk (upd H2 a (xf a cls)) H3->H3 p=none->Q (.ref p) (upd H3 p (.tup [.str (QaB i)]))) σ H0
  (fun v H2=>∀p,H2 p=none->Q (.ref p) (upd H2 p (.tup [.str "told",v])))
theorem kz{P:Program}{w:World}{X:Cx}:Passes (CXE P w) X E00:=fun _ _ _ _ _ _ _⟨_,_,_,_,_,_,_,_,_,_,_,_,_,_,h⟩=>False.elim h
theorem zm{P:Program}{w:World}{K:PySem.W.Frag}{mg:Str->Option Value}{base:Heap}{k:Nat}{fa:Addr}{q:Str}{params:Arguments}{body:Expr}{scope:Scope}{tk:Nat->Tok}{c kr:Nat->Addr}{te:XK->TE}{A:Around}{outer:List Env}{cdv:Value}{N:List Str}{σ:L2.St}{f c':Addr}{cl:List (Str × Addr)}{pm ctv:Value}{s1:Shared}{H1:Hp}{Q:VK}
  (T:Txt K mg tk c kr) (D__law_class:Def P w K mg base 1 "_law_class" ["_law_kept"] (Vf K c))
  (LA:LamAt (Wm (CXE P w) P w K mg base ["_law_deed","_law_kept","_law_found","e"] "_law_heard" (Qf Q2) fa cdv A outer s1 H1 E00) N σ q params body scope f c' cl pm ctv)
  (hlo:∀x c,cl.lookup x=some c->c<s1.heap.objs.size) (hr1:Room (k+1) (A.deeper (envOfC "_law_heard" (Qf Q2) s1.heap.objs.size fa cdv)))
  (hlam:∀(f c':Addr)(cl:List (Str × Addr))(A:Around)(outer:List Env)(s:Shared)(H:Hp)(E:XK),Room k (A.deeper (PySem.W.envX q scope s.heap.objs.size f (.ref c') cl))->PE (jN P w K mg base N q scope f c' cl A outer s H E) body (te E))
  (hmono:∀(σ:L2.St)(H:Hp)(Q Q':VK)(E E':XK),(∀cls x H,E cls x H->E' cls x H)->(∀v H,Q v H->Q' v H)->te E σ H Q->te E' σ H Q')
  (hcd:H1 c'=some (Kh c' q)) (h:tHd K c te σ H1 Q):
  ∃t,PSs (Wm (CXE P w) P w K mg base ["_law_deed","_law_kept","_law_found","e"] "_law_heard" (Qf Q2) fa cdv A outer s1 H1 E00) (Q0 Q2) t/\t {nx:=fun _ H'=>Q .non H',rt:=Q} (start ["_law_deed","_law_kept","_law_found","e"] [.ref f]) H1:=by
 refine⟨_,(Qe (Ju (Qz (Qa JF (Qa JF Qb))) (Q8 rfl (Qj (Qh (i:=1) Jj.nd rfl (Or.inl rfl)) (Qj (Qh (i:=2) Jj.nd rfl (Or.inl rfl)) QK))))
   (Qe (Qbp (i:=3) (tb:=fun E=>_) rfl rfl rfl rfl rfl T.m_BoxError Jj.nd rfl rfl (fun E pn xe hx=>Qg (QC (i:=2) Jj.nd rfl (Or.inl rfl) (yI (i:=0) (te:=te E) LA.alt rfl rfl rfl (Or.inl rfl) hr1 hx hlo (fun s H hr2=>hlam f c' cl _ _ s H E hr2)))) (fun v=>Qg (QC (i:=1) Jj.nd rfl (Or.inl rfl) (pv 3))))
   (Qg (QA (Za (XC (K6 (pv 1))) (Qz (Qa Qm (Qa (pv 2) Qb))) (Qz (Qa (D__law_class.pe hr1 (Nat.succ_le_succ (Nat.zero_le k)) rfl kz (Qa (pv 1) Qb)) Qb))))))),?_⟩
 refine⟨by show 2<=sizeLine;decide,fun p0 h0=>⟨p0,_,rfl,SqT.of Qc,rfl,_,_,rfl,_,_,rfl,rfl,?_⟩⟩;have S0:=Qk.new (o:=.tup [.non,.non]) h0;refine⟨rfl,S0 _ _ hcd,hmono σ _ _ _ _ _ (fun cls x H2 hE=>?_) (fun v H2 hQ=>?_) (h _ S0)⟩
 ·obtain⟨i,rfl,G,hE⟩:=hE;refine⟨G.bo,fun a ha=>⟨_,rfl,?_⟩⟩;refine⟨_,rfl,_,rfl,?_⟩;refine ifB (fun z=>nomatch (of_decide_eq_true z)) (fun _=>?_);exact⟨_,rfl,a,i,rfl,Qc,G,fun H3 e3=>⟨by show 1<=sizeLine;decide,fun p hp=>hE a p H3 ha e3 hp⟩⟩
 ·refine⟨_,rfl,_,rfl,?_⟩;refine ifB (fun _=>?_) (fun z=>absurd z (by decide));exact⟨_,rfl,by show 2<=sizeLine;decide,fun p hp=>hQ p hp⟩
section
variable {X:Cx}{k:Nat}{fa:Addr}{fd:FuncData}{ca Pa:Addr}{q:Str}{params:Arguments}{body:Expr}{scope:Scope}{p lpos cpos:Pos}{tk:Nat->Tok}{c kr:Nat->Addr}{te:XK->TE}
theorem vD{K0:PySem.W.Frag}(hK:X.K=K0)(F:Fun X.K "_law_heard" "_law_heard" Q2 fa fd)(hm:X.mg "_law_heard"=some (.ref fa))(hb:Binds X.K fd ["_law_deed"] [])(T:Txt X.K X.mg tk c kr)(D__law_class:Def X.prog X.w X.K X.mg X.base 1 "_law_class" ["_law_kept"] (Vf X.K c))
  (hr:Room (k+2) X.A) (hg:Gl X "_law_heard")
  (L:Lamb X.mg X.base ca Pa) (hcode:X.env.code=.ref ca) (hq:q=X.env.qual++"<lambda>") (hdef:defaultsOf params X.env=([],[])) (hfn:∀y,X.fn y=true)
  (sk:scope.kind=.function) (sco:scope.isCoroutine=false) (sgen:scope.isGenerator=false) (snone:∀y∈scope.names,y.2≠ .local/\y.2≠ .cell) (sfree:qU scope X.env.scope=true)
  (hbind:∀cl pm c' ctv,bindArgs (PySem.W.kla_fn "<lambda>" q params body scope cl pm (.ref c') ctv) ⟨[],[]⟩=pure [])
  (hlam:∀(f c':Addr)(cl:List (Str × Addr))(A:Around)(outer:List Env)(s:Shared)(H:Hp)(E:XK),Room k (A.deeper (PySem.W.envX q scope s.heap.objs.size f (.ref c') cl))->PE (jN X.prog X.w X.K X.mg X.base X.N q scope f c' cl A outer s H E) body (te E))
  (hmono:∀(σ:L2.St)(H:Hp)(Q Q':VK)(E E':XK),(∀cls x H,E cls x H->E' cls x H)->(∀v H,Q v H->Q' v H)->te E σ H Q->te E' σ H Q'):
  PE X (.Call (.Name "_law_heard" p) [.Lambda params body scope lpos] [] cpos) (QcJ Pa q (fun σ f c' H1 Q=>H1 c'=some (Kh c' q)/\tHd K0 c te σ H1 Q)):=by
 subst hK;refine jR F Jj hm hg hb hr kz L hcode hq hdef hfn sk sco sgen snone (WT sfree) hbind (fun cdv σ f c' cl pm ctv s1 H1 Q LA hlo hr1 h=>?_);exact zm T D__law_class LA hlo hr1 hlam hmono h.1 h.2
end
mutual
def Ly.dp:Ly->Nat
 | .box _ _=>0
 | .grp _ its=>1+dpL its
 | .tab _ _ its=>1+dpL its
def dpL:List (Bool × Ly)->Nat
 |[]=>0
 |x::xs=>max (dpI x) (dpL xs)
def dpI:Bool × Ly->Nat
 |(_,y)=>y.dp
end
theorem YQ:∀{its:List (Bool × Ly)}{x:Bool × Ly},x∈its->x.2.dp<=dpL its
 |[],_,h=>nomatch h
 |(o,y)::ys,x,h=>by
  rcases List.mem_cons.mp h with rfl|h
  ·rw[dpL,dpI];show y.dp<=_;omega
  ·have:=YQ (its:=ys) h;rw[dpL];omega
mutual
def Ly.s6:Ly->Prop
 | .box _ p=>p<6
 | .grp _ its=>s6L its
 | .tab _ _ its=>s6L its
def s6L:List (Bool × Ly)->Prop
 |[]=>True
 |x::xs=>s6I x/\s6L xs
def s6I:Bool × Ly->Prop
 |(_,y)=>y.s6
end
theorem YR:∀{its:List (Bool × Ly)}{x:Bool × Ly},s6L its->x∈its->x.2.s6
 |[],_,_,h=>nomatch h
 |(o,y)::ys,x,hs,h=>by
  rw[s6L,s6I]at hs;rcases List.mem_cons.mp h with rfl|h
  ·exact hs.1
  ·exact YR hs.2 h
theorem kA:∀{its:List (Bool × Ly)},(∀x∈its,x.2.s6)->s6L its
 |[],_=>by rw[s6L];trivial
 |(o,y)::xs,h=>by
  rw[s6L,s6I];exact⟨h _ List.mem_cons_self,kA fun x hx=>h x (List.mem_cons_of_mem _ hx)⟩
theorem YS:∀its:List (Bool × Ly),(its.map fun x=>((szI x:Nat):Int)).sum=((szL its:Nat):Int)
 |[]=>rfl
 |x::xs=>by rw[List.map_cons,List.sum_cons,YS xs,szL];push_cast;rfl
def qy:List (Key × V):=[(Sum.inr "9(3)",.int 3),(Sum.inr "S99V9",.int 3),(Sum.inr "X(4)",.int 4),(Sum.inr "AA",.int 2),(Sum.inr "Z9.9",.int 4),(Sum.inr "X",.int 1)]
theorem vE:Ke [] qy=qy:=by decide+kernel
theorem vF(p:Nat)(hp:p<6):V0 qy (Sum.inr (Uy p))=some (.int (szP p:Nat)):=by
 obtain rfl|rfl|rfl|rfl|rfl|rfl:p=0\/p=1\/p=2\/p=3\/p=4\/p=5:=by omega
 all_goals decide+kernel
section
variable {P:Program}{w:World}{K:PySem.W.Frag}{mg:Str->Option Value}{base:Heap}{f:Addr}{fd:FuncData}{tk:Nat->Tok}{c kr:Nat->Addr}
def Vv(d:Nat):Sp:=fun vs H Q _=>∃(v:V)(x:Bool × Ly),vs=[v]/\Deep H v (dvI x)/\x.2.dp<d/\x.2.cn<=10000/\x.2.okK/\x.2.s6/\∀H',Qk H H'->Q (.int (szI x:Nat)) H'
theorem Kv(F:Fun K "_law_item_size" "_law_item_size" Jn f fd):FnOk P w K mg base (CXE P w) 1 f fd ["_law_item"] (Vv 0):=by
 refine WQ F JO (fun vs H Q E h=>?_) (fun cdv A outer s H vs Q E hr h=>?_)
 ·obtain⟨v,x,rfl,_⟩:=h;rfl
 ·obtain⟨v,x,rfl,_,hd,_⟩:=h;exact absurd hd (Nat.not_lt_zero _)
set_option maxHeartbeats 2000000 in
theorem JQ(d:Nat)(F:Fun K "_law_item_size" "_law_item_size" Jn f fd)(O:Own mg)(D__law_item_size:Def P w K mg base (d+1) "_law_item_size" ["_law_item"] (Vv d)):FnOk P w K mg base (CXE P w) (d+2) f fd ["_law_item"] (Vv (d+1)):=by
 refine WQ F JO (fun vs H Q E h=>?_) (fun cdv A outer s H vs Q E hr h=>?_)
 ·obtain⟨v,x,rfl,_⟩:=h;rfl
 ·obtain⟨v,⟨ov,y⟩,rfl,D,hd,hcn,hok,hs6,k⟩:=h;have hz:100000<=sizeLine:=by rw[sizeLine_eq];decide
  have hu:=Qbm hr;refine⟨_,(Qr (J1 (Qi QU (Qv Qq (pv 0) Qd (fun _ _=>rfl)) Qm (Qo _)) (Qt (QE (PEx.mk Qd))) Jb)
   (Qr (J1 (Qi QU (Qv Qq (pv 0) Qd (fun _ _=>rfl)) Qm (Qo _)) (Qt (QE (vm hu (kh (Xw (PEx.mk Qm) (PEx.mk Qd) (Xw (PEx.mk Qm) (PEx.mk Qd) (Xw (PEx.mk Qm) (PEx.mk Qd) (Xw (PEx.mk Qm) (PEx.mk Qd) (Xw (PEx.mk Qm) (PEx.mk Qd) (Xw (PEx.mk Qm) (PEx.mk Qd) Qav)))))) rfl rfl (List.cons_ne_nil _ _) (Nat.le_of_ble_eq_true rfl)) (PEx.mk (Qv Qq (pv 0) Qd (fun _ _=>rfl))) (fun _ _=>rfl)))) Jb)
   (Qr (QR (i:=1) JO.nd rfl (Or.inl rfl) (PEx.mk (Ql (Ww rfl) rfl O.sum L2.boot_sum (Qw (JU (NB:=[".0","_law_one"]) rfl ⟨rfl,by decide+kernel,by decide+kernel,by decide+kernel⟩ (Z3 (Qv Qq (pv 0) (YZ Wc Qd) (fun _ _=>rfl))) (fun _ _ _=>(Qh (i:=1) (show([".0","_law_one"]:List Str).Nodup by decide+kernel) rfl (Or.inl rfl))) (fun _ _ _=>J3) (fun _ _ _=>(D__law_item_size.pe hr (by omega) rfl Qx (Qw (pv 1) Qb)))) Qb))) rfl rfl)
   (Qt (QE (VN (Qi QU (Qv Qq (pv 0) Qd (fun _ _=>rfl)) Qm (Qo _)) (Ux Wb (PEx.mk (pv 1)) (PEx.mk (Qv Qq (pv 0) Qd (fun _ _=>rfl)))) (PEx.mk (pv 1)))))))),?_⟩
  cases ov with
  |true=>
   obtain⟨a,x2,rfl,g,_⟩:=X3 D;rw[szI,if_pos rfl]at k;exact⟨_,rfl,a,_,0,_,rfl,rfl,.inl g,rfl,rfl,true,rfl,QH (k _ (Qk.refl _))⟩
  |false=>
   rw[dvI,if_neg (by decide)]at D;rw[szI,if_neg (by decide)]at k;have hd:y.dp<d+1:=hd;have hcn:y.cn<=10000:=hcn;have hok:y.okK:=hok;have hs6:y.s6:=hs6;cases y with
   |box nm p=>
    obtain⟨a,rfl,g⟩:=Ks D;rw[Ly.sz]at k;refine⟨_,rfl,a,_,0,_,rfl,rfl,.inl g,rfl,rfl,false,by rw[Qdk],QG ?_⟩;refine⟨_,rfl,a,_,0,_,rfl,rfl,.inl g,rfl,rfl,true,rfl,QH ?_⟩;refine fun pd hpd=>⟨Qc,qy,rfl,by decide,?_⟩;have S2:Qk H (upd (upd H pd (.dK [])) pd (.dK (Ke [] qy))):=Xy (Qk.new hpd) hpd;rw[vE]at S2 ⊢;refine⟨_,rfl,a,_,2,_,rfl,rfl,.inl (S2 _ _ g),rfl,pd,_,rfl,?_,k _ S2⟩;have:=qQ.k (k:=Sum.inr (Uy p)) (show upd (upd H pd (.dK [])) pd (.dK qy) pd=some (.dK qy)from Qc);rw[Ly.s6]at hs6;rw[vF p hs6]at this;exact this
   |grp nm in_=>
    obtain⟨a,x,rfl,g,D2⟩:=XJ D;rw[Ly.sz]at k;rw[Ly.cn]at hcn;rw[Ly.okK]at hok;rw[Ly.dp]at hd;rw[Ly.s6]at hs6;refine⟨_,rfl,a,_,0,_,rfl,rfl,.inl g,rfl,rfl,false,by rw[Qdl],QG ?_⟩;refine⟨_,rfl,a,_,0,_,rfl,rfl,.inl g,rfl,rfl,false,by rw[vo],QG ?_⟩;dsimp only[QJ,JS,ZI,QQ];refine cb1 ?_;obtain⟨xa,ys,rfl,gx,tx⟩:=Deep.X0 D2;rw[Q7]at tx;have lx:=tx.length;rw[List.length_map]at lx;have ln:=Uz in_;have hok2:okL in_:=hok;refine Xh (xX (K:=K) (a:=xa) (xs:=ys)) (in_.map fun x=>Dv.int (szI x:Nat)) (by rw[List.length_map];omega) (fun R h=>⟨_,rfl,_,rfl,a,_,_,_,rfl,rfl,.inl g,rfl,xa,rfl,⟨_,.inl (.inl gx)⟩,h _ (Qk.refl _)⟩) (fun H1 S=>.inl (.inl (S _ _ gx))) ?_ ?_ (by omega)
    ·rintro i v H1 H2 dd R hd2 S ⟨rfl,hv⟩ kk;obtain⟨dv,hdv,ddv⟩:=tx.XZ hv;rw[List.getElem?_map]at hdv hd2;cases e:in_[i]? with
     |none=>rw[e]at hdv;cases hdv
     |some z=>
      rw[e]at hdv hd2;obtain rfl:=Option.some.inj hdv;have hm:=List.mem_of_getElem? e;have h1:=YF e;have h2:=YH hok2 hm;have h3:=YQ hm;refine⟨_,rfl,v,z,rfl,ddv.same S,by omega,by obtain⟨o,yy⟩:=z;rw[cnI]at h1;show yy.cn<=10000;omega,h2,YR hs6 hm,fun H3 S3=>kk _ _ S3 ?_⟩;rw[←Option.some.inj hd2];exact .int
    rintro zs H1' p' S' t2 hp';have e:zs=(in_.map fun x=>((szI x:Nat):Int)).map V.int:=by
     have:=Xv (ns:=in_.map fun x=>((szI x:Nat):Int)) (by rw[List.map_map];exact t2);exact this
    subst e;have S1:=S'.trans (Qk.new (o:=.lst ((in_.map fun x=>((szI x:Nat):Int)).map V.int)) hp');refine⟨p',_,rfl,.inl (.inl Qc),?_⟩;rw[YS];generalize upd H1' p' (.lst ((in_.map fun x=>((szI x:Nat):Int)).map V.int))=H1 at S1;refine⟨_,rfl,a,_,0,_,rfl,rfl,.inl (S1 _ _ g),rfl,rfl,false,by rw[QaY],QG ⟨_,rfl,k _ S1⟩⟩
   |tab nm k1 in_=>
    obtain⟨a,x,rfl,g,D2⟩:=Xi D;rw[Ly.sz]at k;rw[Ly.cn]at hcn;rw[Ly.okK]at hok;rw[Ly.dp]at hd;rw[Ly.s6]at hs6;refine⟨_,rfl,a,_,0,_,rfl,rfl,.inl g,rfl,rfl,false,by rw[Qdm],QG ?_⟩;refine⟨_,rfl,a,_,0,_,rfl,rfl,.inl g,rfl,rfl,false,by rw[vq],QG ?_⟩;dsimp only[QJ,JS,ZI,QQ];refine cb1 ?_;obtain⟨xa,ys,rfl,gx,tx⟩:=Deep.X0 D2;rw[Q7]at tx;have lx:=tx.length;rw[List.length_map]at lx;have ln:=Uz in_;have hok2:okL in_:=hok.2;refine Xh (xX (K:=K) (a:=xa) (xs:=ys)) (in_.map fun x=>Dv.int (szI x:Nat)) (by rw[List.length_map];omega) (fun R h=>⟨_,rfl,_,rfl,a,_,_,_,rfl,rfl,.inl g,rfl,xa,rfl,⟨_,.inl (.inl gx)⟩,h _ (Qk.refl _)⟩) (fun H1 S=>.inl (.inl (S _ _ gx))) ?_ ?_ (by omega)
    ·rintro i v H1 H2 dd R hd2 S ⟨rfl,hv⟩ kk;obtain⟨dv,hdv,ddv⟩:=tx.XZ hv;rw[List.getElem?_map]at hdv hd2;cases e:in_[i]? with
     |none=>rw[e]at hdv;cases hdv
     |some z=>
      rw[e]at hdv hd2;obtain rfl:=Option.some.inj hdv;have hm:=List.mem_of_getElem? e;have h1:=YF e;have h2:=YH hok2 hm;have h3:=YQ hm;refine⟨_,rfl,v,z,rfl,ddv.same S,by omega,by obtain⟨o,yy⟩:=z;rw[cnI]at h1;show yy.cn<=10000;omega,h2,YR hs6 hm,fun H3 S3=>kk _ _ S3 ?_⟩;rw[←Option.some.inj hd2];exact .int
    rintro zs H1' p' S' t2 hp';have e:zs=(in_.map fun x=>((szI x:Nat):Int)).map V.int:=by
     have:=Xv (ns:=in_.map fun x=>((szI x:Nat):Int)) (by rw[List.map_map];exact t2);exact this
    subst e;have S1:=S'.trans (Qk.new (o:=.lst ((in_.map fun x=>((szI x:Nat):Int)).map V.int)) hp');refine⟨p',_,rfl,.inl (.inl Qc),?_⟩;rw[YS];generalize upd H1' p' (.lst ((in_.map fun x=>((szI x:Nat):Int)).map V.int))=H1 at S1;refine⟨_,rfl,a,_,0,_,rfl,rfl,.inl (S1 _ _ g),rfl,rfl,true,rfl,QH ?_⟩;refine⟨_,rfl,_,rfl,a,_,2,_,rfl,rfl,.inl (S1 _ _ g),rfl,_,_,rfl,rfl,.inr ⟨by have:=hok.1;omega,by have:=hok.1;omega⟩,?_⟩;have e:((szL in_:Nat):Int)*((k1:Nat):Int)=((szL in_*k1:Nat):Int):=by push_cast;rfl
    dsimp only;rw[e];exact k _ S1
end
def VP(j:Nat):Str:=⟨#[97+j]⟩
def ZL(its:List (Bool × Ly)):Nat:=if its=[]then 0 else(its.getD (under its (its.length-1)) dfI).2.sz
structure PB(its:List (Bool × Ly)):Prop where
 len:its.length<=4
 nm:∀(j:Nat)(x:Bool × Ly),its[j]? =some x->x.2.name=VP j
 first:∀x,its[0]? =some x->x.1=false
 ov:∀(j:Nat)(y:Ly),its[j]? =some (true,y)->y.sz<=(its.getD (under its j) dfI).2.sz
def Good:Nat->List (Bool × Ly)->Prop
 |0,its=>its≠[]/\PB its/\∀x∈its,∃nm p,x.2=.box nm p/\p<6
 |d+1,its=>its≠[]/\PB its/\∀x∈its,(∃nm p,x.2=.box nm p/\p<6)\/(∃nm in_,x.2=.grp nm in_/\Good d in_)\/(∃nm k in_,x.2=.tab nm k in_/\1<=k/\k<=3/\Good d in_)
def Vw:Nat->Ly->Prop
 |0,y=>∃nm p,y=.box nm p/\p<6
 |d+1,y=>(∃nm p,y=.box nm p/\p<6)\/(∃nm in_,y=.grp nm in_/\Good d in_)\/(∃nm k in_,y=.tab nm k in_/\1<=k/\k<=3/\Good d in_)
theorem ZW(d:Nat)(its:List (Bool × Ly)):Good d its↔its≠[]/\PB its/\∀x∈its,Vw d x.2:=by
 cases d<;>rfl
def cnB:Nat->Nat
 |0=>4
 |d+1=>4*(1+cnB d)
def wtB:Nat->Nat
 |0=>4
 |d+1=>4*(1+3*wtB d)
theorem UD{g:Bool × Ly->Nat}{gl:List (Bool × Ly)->Nat}(h0:gl []=0)(hc:∀x xs,gl (x::xs)=g x+gl xs) {B:Nat}:∀{its:List (Bool × Ly)},(∀x∈its,g x<=B)->gl its<=its.length*B
 |[],_=>by rw[h0];exact Nat.zero_le _
 |x::xs,h=>by
  have h1:=h x List.mem_cons_self;have h2:=UD h0 hc (its:=xs) fun y hy=>h y (List.mem_cons_of_mem _ hy);rw[hc,List.length_cons,Nat.succ_mul];omega
theorem kB:∀{its:List (Bool × Ly)},(∀x∈its,x.2.okK)->okL its
 |[],_=>by rw[okL];trivial
 |(o,y)::xs,h=>by
  rw[okL,okI];exact⟨h _ List.mem_cons_self,kB fun x hx=>h x (List.mem_cons_of_mem _ hx)⟩
theorem jp{B:Nat}:∀{its:List (Bool × Ly)},(∀x∈its,x.2.dp<=B)->dpL its<=B
 |[],_=>by rw[dpL];exact Nat.zero_le _
 |(o,y)::xs,h=>by
  have h1:=h _ List.mem_cons_self;have h2:=jp (its:=xs) fun x hx=>h x (List.mem_cons_of_mem _ hx);rw[dpL,dpI];show max y.dp (dpL xs)<=B;have:y.dp<=B:=h1;omega
structure LBd(d:Nat)(its:List (Bool × Ly)):Prop where
 cn:cnL its<=cnB d
 wt:wtL its<=wtB d
 ok:okL its
 dp:dpL its<=d
theorem X5:∀(d:Nat)(its:List (Bool × Ly)),Good d its->LBd d its
 |0,its,h=>by
  obtain⟨_,hp,hx⟩:=h;have hl:=hp.len;refine⟨?_,?_,kB fun x hx'=>?_,jp fun x hx'=>?_⟩
  ·have:=UD (g:=cnI) (gl:=cnL) (by rw[cnL]) (fun x xs=>by rw[cnL]) (B:=1) (its:=its) fun x hx'=>by
    obtain⟨o,y⟩:=x;obtain⟨nm,p,e,hp6⟩:=hx _ hx';rw[cnI,show y=.box nm p from e,Ly.cn];exact Nat.le_refl _
   show cnL its<=4;omega
  ·have:=UD (g:=wtI) (gl:=wtL) (by rw[wtL]) (fun x xs=>by rw[wtL]) (B:=1) (its:=its) fun x hx'=>by
    obtain⟨o,y⟩:=x;obtain⟨nm,p,e,hp6⟩:=hx _ hx';rw[wtI,show y=.box nm p from e,Ly.wt];exact Nat.le_refl _
   show wtL its<=4;omega
  ·obtain⟨nm,p,e,hp6⟩:=hx _ hx';rw[e,Ly.okK];trivial
  ·obtain⟨nm,p,e,hp6⟩:=hx _ hx';rw[e,Ly.dp];exact Nat.le_refl _
 |d+1,its,h=>by
  obtain⟨_,hp,hx⟩:=h;have hl:=hp.len;have each:∀x∈its,x.2.cn<=1+cnB d/\x.2.wt<=1+3*wtB d/\x.2.okK/\x.2.dp<=d+1:=by
   intro x hx';rcases hx x hx' with⟨nm,p,e,hp6⟩|⟨nm,in_,e,hg⟩|⟨nm,k,in_,e,hk1,hk3,hg⟩
   ·rw[e,Ly.cn,Ly.wt,Ly.okK,Ly.dp];exact⟨by omega,by omega,trivial,by omega⟩
   ·have b:=X5 d in_ hg;have b1:=b.cn;have b2:=b.wt;have b4:=b.dp;rw[e,Ly.cn,Ly.wt,Ly.okK,Ly.dp];exact⟨by omega,by omega,b.ok,by omega⟩
   ·have b:=X5 d in_ hg;have b1:=b.cn;have b2:=b.wt;have b4:=b.dp;have:k*wtL in_<=3*wtB d:=Nat.mul_le_mul hk3 b2;rw[e,Ly.cn,Ly.wt,Ly.okK,Ly.dp];exact⟨by omega,by omega,⟨by omega,b.ok⟩,by omega⟩
  refine⟨?_,?_,kB fun x hx'=>(each x hx').2.2.1,jp fun x hx'=>(each x hx').2.2.2⟩
  ·have:=UD (g:=cnI) (gl:=cnL) (by rw[cnL]) (fun x xs=>by rw[cnL]) (B:=1+cnB d) (its:=its) fun x hx'=>by
    obtain⟨o,y⟩:=x;rw[cnI];exact(each _ hx').1
   show cnL its<=4*(1+cnB d);exact Nat.le_trans this (Nat.mul_le_mul_right _ hl)
  ·have:=UD (g:=wtI) (gl:=wtL) (by rw[wtL]) (fun x xs=>by rw[wtL]) (B:=1+3*wtB d) (its:=its) fun x hx'=>by
    obtain⟨o,y⟩:=x;rw[wtI];exact(each _ hx').2.1
   show wtL its<=4*(1+3*wtB d);exact Nat.le_trans this (Nat.mul_le_mul_right _ hl)
theorem YT(d:Nat)(hd:d<=2){y:Ly}(h:Vw d y):y.cn<=1000/\y.wt<=1000/\y.okK/\y.dp<=d:=by
 cases d with
 |zero=>
  obtain⟨nm,p,rfl,hp6⟩:=h;rw[Ly.cn,Ly.wt,Ly.okK,Ly.dp];exact⟨by omega,by omega,trivial,by omega⟩
 |succ d=>
  have c1:cnB d<=20/\wtB d<=52:=by
   obtain rfl|rfl:d=0\/d=1:=by omega
   ·decide
   ·decide
  rcases h with⟨nm,p,rfl,hp6⟩|⟨nm,in_,rfl,hg⟩|⟨nm,k,in_,rfl,hk1,hk3,hg⟩
  ·rw[Ly.cn,Ly.wt,Ly.okK,Ly.dp];exact⟨by omega,by omega,trivial,by omega⟩
  ·have b:=X5 d in_ hg;have b1:=b.cn;have b2:=b.wt;have b4:=b.dp;rw[Ly.cn,Ly.wt,Ly.okK,Ly.dp];exact⟨by omega,by omega,b.ok,by omega⟩
  ·have b:=X5 d in_ hg;have b1:=b.cn;have b2:=b.wt;have b4:=b.dp;have:k*wtL in_<=3*wtB d:=Nat.mul_le_mul hk3 b2;rw[Ly.cn,Ly.wt,Ly.okK,Ly.dp];exact⟨by omega,by omega,⟨by omega,b.ok⟩,by omega⟩
theorem Vg:∀(d:Nat)(its:List (Bool × Ly)),Good d its->s6L its
 |0,its,h=>by
  obtain⟨_,hp,hx⟩:=h;exact kA fun x hx'=>by
   obtain⟨nm,p,e,hp6⟩:=hx _ hx';rw[e,Ly.s6];exact hp6
 |d+1,its,h=>by
  obtain⟨_,hp,hx⟩:=h;exact kA fun x hx'=>by
   rcases hx x hx' with⟨nm,p,e,hp6⟩|⟨nm,in_,e,hg⟩|⟨nm,k,in_,e,hk1,hk3,hg⟩
   ·rw[e,Ly.s6];exact hp6
   ·rw[e,Ly.s6];exact Vg d in_ hg
   ·rw[e,Ly.s6];exact Vg d in_ hg
theorem jq(d:Nat){y:Ly}(h:Vw d y):y.s6:=by
 cases d with
 |zero=>
  obtain⟨nm,p,rfl,hp6⟩:=h;rw[Ly.s6];exact hp6
 |succ d=>
  rcases h with⟨nm,p,rfl,hp6⟩|⟨nm,in_,rfl,hg⟩|⟨nm,k,in_,rfl,hk1,hk3,hg⟩
  ·rw[Ly.s6];exact hp6
  ·rw[Ly.s6];exact Vg d in_ hg
  ·rw[Ly.s6];exact Vg d in_ hg
theorem Kw{its:List (Bool × Ly)}{x:Bool × Ly}{j:Nat}(h:j<its.length):(its++[x]).getD j dfI=its.getD j dfI:=by
 rw[List.getD_eq_getElem?_getD,List.getD_eq_getElem?_getD,List.getElem?_append_left h]
theorem WB(its:List (Bool × Ly))(x:Bool × Ly):(its++[x]).getD its.length dfI=x:=by
 rw[List.getD_eq_getElem?_getD,List.getElem?_append_right (Nat.le_refl _),Nat.sub_self];rfl
theorem Xl{its:List (Bool × Ly)}{x:Bool × Ly}:∀{j:Nat},j<its.length->under (its++[x]) j=under its j
 |0,_=>rfl
 |j+1,h=>by
  rw[under,under,Kw h,Xl (j:=j) (by omega)]
theorem zo(its:List (Bool × Ly))(y:Ly):ZL (its++[(false,y)])=y.sz:=by
 unfold ZL;rw[if_neg (by simp),List.length_append,List.length_singleton,Nat.add_sub_cancel,Zg,WB];show(((its++[(false,y)]).getD (if false=true then _ else its.length) dfI).2).sz=y.sz;rw[if_neg (by decide),WB]
theorem qA{its:List (Bool × Ly)}(hne:its≠[])(y:Ly):ZL (its++[(true,y)])=ZL its:=by
 obtain⟨n,hn⟩:∃n,its.length=n+1:=⟨its.length-1,by
  have:its.length≠0:=fun z=>hne (List.eq_nil_of_length_eq_zero z);omega⟩
 have hu:=Ku its n;unfold ZL;rw[if_neg (by simp),if_neg hne,List.length_append,List.length_singleton,Nat.add_sub_cancel,Zg,WB];show(((its++[(true,y)]).getD (if true=true then Kt (its++[(true,y)]) its.length else its.length) dfI).2).sz=_;rw[if_pos rfl,hn,Kt,Xl (by omega),Kw (by omega),Nat.add_sub_cancel]
theorem PB.add{its:List (Bool × Ly)}(h:PB its){y:Ly}(hl:its.length<4)(hn:y.name=VP its.length):PB (its++[(false,y)]):=by
 refine⟨by rw[List.length_append,List.length_singleton];omega,fun j x hj=>?_,fun x hx=>?_,fun j y' hj=>?_⟩
 ·by_cases e:j<its.length
  ·rw[List.getElem?_append_left e]at hj;exact h.nm j x hj
  ·have e2:j=its.length:=by
    have:=(List.getElem?_eq_some_iff.mp hj).1;rw[List.length_append,List.length_singleton]at this;omega
   subst e2;rw[List.getElem?_append_right (Nat.le_refl _),Nat.sub_self]at hj;rw[←Option.some.inj hj];exact hn
 ·cases its with
  |nil=>rw[←Option.some.inj hx]
  |cons z zs=>exact h.first x hx
 ·by_cases e:j<its.length
  ·rw[List.getElem?_append_left e]at hj;have:=h.ov j y' hj;have hu:=Ku its j;rw[Xl e,Kw (by omega)];exact this
  ·have e2:j=its.length:=by
    have:=(List.getElem?_eq_some_iff.mp hj).1;rw[List.length_append,List.length_singleton]at this;omega
   subst e2;rw[List.getElem?_append_right (Nat.le_refl _),Nat.sub_self]at hj;cases hj
theorem PB.QdZ{its:List (Bool × Ly)}(h:PB its)(hne:its≠[]){y:Ly}(hl:its.length<4)(hn:y.name=VP its.length)(hs:y.sz<=ZL its):PB (its++[(true,y)]):=by
 obtain⟨n,hn2⟩:∃n,its.length=n+1:=⟨its.length-1,by
  have:its.length≠0:=fun z=>hne (List.eq_nil_of_length_eq_zero z);omega⟩
 have hu:=Ku its n;refine⟨by rw[List.length_append,List.length_singleton];omega,fun j x hj=>?_,fun x hx=>?_,fun j y' hj=>?_⟩
 ·by_cases e:j<its.length
  ·rw[List.getElem?_append_left e]at hj;exact h.nm j x hj
  ·have e2:j=its.length:=by
    have:=(List.getElem?_eq_some_iff.mp hj).1;rw[List.length_append,List.length_singleton]at this;omega
   subst e2;rw[List.getElem?_append_right (Nat.le_refl _),Nat.sub_self]at hj;rw[←Option.some.inj hj];exact hn
 ·cases its with
  |nil=>exact absurd rfl hne
  |cons z zs=>exact h.first x hx
 ·by_cases e:j<its.length
  ·rw[List.getElem?_append_left e]at hj;have:=h.ov j y' hj;have hu:=Ku its j;rw[Xl e,Kw (by omega)];exact this
  ·have e2:j=its.length:=by
    have:=(List.getElem?_eq_some_iff.mp hj).1;rw[List.length_append,List.length_singleton]at this;omega
   subst e2;rw[List.getElem?_append_right (Nat.le_refl _),Nat.sub_self]at hj;have hj:(true,y)=(true,y'):=Option.some.inj hj;have e3:y=y':=congrArg (·.2) hj;subst e3;rw[Zg,WB];show y.sz<=((its++[(true,y)]).getD (if true=true then Kt (its++[(true,y)]) its.length else its.length) dfI).2.sz;rw[if_pos rfl,hn2,Kt,Xl (by omega),Kw (by omega)];unfold ZL at hs;rw[if_neg hne,hn2,Nat.add_sub_cancel]at hs;exact hs
def cb:Nat->Int
 |0=>20
 |d+1=>4*cb d+20
theorem jr{i j:Nat}{te1 te2:TE}{D:Ends}{σ:L2.St}{H:Hp}(h:te1 σ H fun v H1=>te2 σ H1 fun w H2=>∃v' w',[v,w]=[v',w']/\D.nx ((σ.set i (some v')).set j (some w')) H2):Qcr i j (QX te1 (QX te2 Wq)) D σ H:=h
def six:List Dv:=[.str "9(3)",.str "S99V9",.str "X(4)",.str "AA",.str "Z9.9",.str "X"]
theorem QbR{d:Nat}{dv:Dv}(h:six[d]? =some dv):dv=.str (Uy d):=by
 unfold six at h
 match d,h with
 |0,h=>exact(Option.some.inj h).symm
 |1,h=>exact(Option.some.inj h).symm
 |2,h=>exact(Option.some.inj h).symm
 |3,h=>exact(Option.some.inj h).symm
 |4,h=>exact(Option.some.inj h).symm
 |5,h=>exact(Option.some.inj h).symm
 |n+6,h=>simp at h
theorem Jk(x:Str)(n:Nat):(Dv.str x).depth<=n:=by unfold Dv.depth;omega
theorem UE{n:Nat}:∀{ds:List Dv},(∀d∈ds,d.depth<=n)->Dv.Kn ds<=n
 |[],_=>by unfold Dv.Kn;omega
 |d::ds,h=>by
  have h1:=h d List.mem_cons_self;have h2:=UE (ds:=ds) fun x hx=>h x (List.mem_cons_of_mem _ hx);unfold Dv.Kn;omega
theorem Q9{n:Nat}{ds:List Dv}(h:∀d∈ds,d.depth<=n):(Dv.tup ds).depth<=n+1:=by
 have:=UE h;unfold Dv.depth;omega
theorem vG{a:Addr}{its:List (Bool × Ly)}{σ:L2.St}{H:Hp}{Q:Bool->Hp->Prop}(D:Deep H (.ref a) (.tup (dvL its)))(hd:(Dv.tup (dvL its)).depth<=16)(k:∀H' b,Qk H H'->(b=true↔its≠[])->Q b H'):QaU Wq σ H fun y H1=>QbD 16 true (.ref a) y H1 fun x H2=>∃k',x=.bl k'/\Q k' H2:=by
 refine⟨Nat.zero_le _,fun l0 hl0=>?_⟩;have S:=Qk.new (o:=.tup []) hl0;refine⟨_,.tup [],D.same S,.tup Qc .nil,hd,_,rfl,k _ _ S ?_⟩;cases its with
 |nil=>simp[dvL,Dv.eqb,Dv.ye]
 |cons x xs=>simp[dvL,Dv.eqb,Dv.ye]
mutual
theorem Qc1:∀y:Ly,y.dv.depth<=3*y.dp+1
 | .box nm p=>by
  rw[Ly.dv,Ly.dp];exact Q9 (n:=0) fun d hd=>by
   simp only[List.mem_cons,List.not_mem_nil,or_false]at hd;rcases hd with rfl|rfl|rfl<;>exact Jk _ _
 | .grp nm its=>by
  have h:=vH its;rw[Ly.dv,Ly.dp];have h2:=Q9 h;have:=Q9 (n:=3*dpL its+3) (ds:=[.str "group",.str nm,.tup (dvL its)]) fun d hd=>by
   simp only[List.mem_cons,List.not_mem_nil,or_false]at hd;rcases hd with rfl|rfl|rfl
   ·exact Jk _ _
   ·exact Jk _ _
   ·exact h2
  omega
 | .tab nm k its=>by
  have h:=vH its;rw[Ly.dv,Ly.dp];have h2:=Q9 h;have:=Q9 (n:=3*dpL its+3) (ds:=[.str "table",.str nm,.int (k:Nat),.tup (dvL its)]) fun d hd=>by
   simp only[List.mem_cons,List.not_mem_nil,or_false]at hd;rcases hd with rfl|rfl|rfl|rfl
   ·exact Jk _ _
   ·exact Jk _ _
   ·unfold Dv.depth;omega
   ·exact h2
  omega
theorem vH:∀its:List (Bool × Ly),∀d∈dvL its,d.depth<=3*dpL its+2
 |[],d,hd=>by rw[dvL]at hd;cases hd
 |x::xs,d,hd=>by
  have h1:=Qc2 x;have h2:=vH xs;rw[dvL]at hd;rw[dpL];rcases List.mem_cons.mp hd with rfl|hd
  ·omega
  ·have:=h2 d hd;omega
theorem Qc2:∀x:Bool × Ly,(dvI x).depth<=3*dpI x+2
 |(o,y)=>by
  have h:=Qc1 y;rw[dvI,dpI]
  split
  ·have:=Q9 (n:=3*y.dp+1) (ds:=[.str "over",y.dv]) fun e he=>by
    simp only[List.mem_cons,List.not_mem_nil,or_false]at he;rcases he with rfl|rfl
    ·exact Jk _ _
    ·exact h
   omega
  ·omega
end
theorem QaC:∀i:Nat,i<4->atI ("abcdef":Str).cps.toList (0+(i:Int))=some (97+i):=by decide+kernel
theorem zq:ZL []=0:=by unfold ZL;rw[if_pos rfl]
section
variable {P:Program}{w:World}{K:PySem.W.Frag}{mg:Str->Option Value}{base:Heap}{f:Addr}{fd:FuncData}{tk:Nat->Tok}{c kr:Nat->Addr}
def Wk(K:PySem.W.Frag)(e:Nat):Sp:=fun vs H Q _=>∃(a t r:Addr)(ns:List Int)(c:Int)(deep:Nat),vs=[.ref a,.ref t,.int (deep:Nat)]/\deep<e/\deep<=2/\Bag K H a t r ns c/\c+cb deep<90000/\∀(v:V)(H':Hp)(its:List (Bool × Ly))(c':Int),Bag K H' a t r ns c'->c'<=c+cb deep->Apart t r H H'->Deep H' v (.tup (dvL its))->Good deep its->Q v H'
theorem K3(F:Fun K "_law_a_layout" "_law_a_layout" JD f fd):FnOk P w K mg base (CXE P w) 4 f fd ["_law_script","_law_town","_law_deep"] (Wk K 0):=by
 refine WQ F Qy (fun vs H Q E h=>?_) (fun cdv A outer s H vs Q E hr h=>?_)
 ·obtain⟨a,t,r,ns,c,deep,rfl,_⟩:=h;rfl
 ·obtain⟨a,t,r,ns,c,deep,rfl,hd,_⟩:=h;exact absurd hd (Nat.not_lt_zero _)
structure LaySt(K:PySem.W.Frag)(H0 H:Hp)(a t r:Addr)(ns:List Int)(c:Int)(fv:V)(its:List (Bool × Ly))(deep:Nat):Prop where
 B:Bag K H a t r ns c
 A:Apart t r H0 H
 D:Deep H fv (.tup (dvL its))
 P:PB its
 G:∀x∈its,Vw deep x.2
theorem kC{H0 H:Hp}{a t r:Addr}{ns:List Int}{c:Int}{fv:V}{its:List (Bool × Ly)}{deep:Nat}{σ:L2.St}{E:XK}{Q:VK}{nm:Str}(L:LaySt K H0 H a t r ns c fv its deep)(h0:σ[0]? =some (some (.ref a)))(h1:σ[1]? =some (some (.ref t)))(h8:σ[8]? =some (some (.str nm)))(hc:c<99000)(k:∀(p:Nat)(iv:V)(H':Hp),p<6->LaySt K H0 H' a t r ns (c+1) fv its deep->Deep H' iv (Ly.box nm p).dv->Q iv H'):
  QaU (QX (tC (.str "box")) (QX (XL 8) (QX (tOp Qaq (QaV (QX (tC (.str "9(3)")) (QX (tC (.str "S99V9")) (QX (tC (.str "X(4)")) (QX (tC (.str "AA")) (QX (tC (.str "Z9.9")) (QX (tC (.str "X")) Wq))))))) (WI (WS K) [] E (QX (XL 0) (QX (XL 1) (QX (tC (.int 6)) Wq))))) Wq))) σ H Q:=by
 have hz:1000<=sizeLine:=by decide
 refine⟨_,h8,?_⟩;refine L.B.QcX (ds:=six) h0 h1 (KW (KW (KW (KW (KW (KW Qar)))))) rfl (by decide) (by decide) (by omega) fun d x dv H1 hdv Dx B1 A1=>⟨by show 3<=sizeLine;omega,fun p hp=>?_⟩;have hdv0:=hdv;obtain rfl:=QbR hdv;obtain rfl:=Dx.YX;have S:=Qk.new (o:=.tup [.str "box",.str nm,.str (Uy d)]) hp;have hd6:d<6:=(List.getElem?_eq_some_iff.mp hdv0).1;refine k d _ _ hd6 ⟨B1.same S,(L.A.trans A1).trans (Apart.of S),(L.D.keep (L.B.Wz A1)).same S,L.P,L.G⟩ ?_;rw[Ly.dv];exact .tup Qc (.cons .str (.cons .str (.cons .str .nil)))
theorem kD{deep:Nat}{its:List (Bool × Ly)}(hd:deep<=2)(h:∀x∈its,Vw deep x.2):(Dv.tup (dvL its)).depth<=16:=by
 have h1:dpL its<=2:=jp fun x hx=>by
  obtain⟨_,_,_,b4⟩:=YT deep hd (h x hx);omega
 have:=Q9 (vH its);omega
set_option maxHeartbeats 4000000 in
theorem J6(e:Nat)(F:Fun K "_law_a_layout" "_law_a_layout" JD f fd)(O:Own mg)(D__law_draw:Def P w K mg base 1 "_law_draw" ["_law_script","_law_town","_law_many"] (WS K))(D__law_item_size:Def P w K mg base 4 "_law_item_size" ["_law_item"] (Vv 3))(D__law_a_layout:Def P w K mg base (e+4) "_law_a_layout" ["_law_script","_law_town","_law_deep"] (Wk K e)):FnOk P w K mg base (CXE P w) (e+5) f fd ["_law_script","_law_town","_law_deep"] (Wk K (e+1)):=by
 refine WQ F Qy (fun vs H Q E h=>?_) (fun cdv A outer s H vs Q E hr h=>?_)
 ·obtain⟨a,t,r,ns,c,deep,rfl,_⟩:=h;rfl
 ·obtain⟨a,t,r,ns,c,deep,rfl,hde,hd2,B0,hc,k⟩:=h;have hz:100000<=sizeLine:=by rw[sizeLine_eq];decide
  have hcb:20<=cb deep:=by
   cases deep with
   |zero=>exact Int.le_refl _
   |succ d=>
    have:∀d,20<=cb d:=by
     intro d
     induction d with
     |zero=>exact Int.le_refl _
     |succ d ih=>show 20<=4*cb d+20;omega
    exact this _
  refine⟨_,(Qr (PSy.mk (Ju (Qz (Qw (Qz Qb) (Qw Qd (Qw Qm Qb)))) (Q8 rfl (Qj (Qh (i:=3) Qy.nd rfl (Or.inl rfl)) (Qj (Qh (i:=4) Qy.nd rfl (Or.inl rfl)) (Qj (Qh (i:=5) Qy.nd rfl (Or.inl rfl)) QK))))))
   (Qr (ZU PassesOwn.never rfl (Z4 rfl O.range (Qw (QM Jl Qd (D__law_draw.pe hr (by omega) rfl Qx (Qw (pv 0) (Qw (pv 1) (Qw Qd Qb))))) Qb)) (Qh (i:=6) Qy.nd rfl (Or.inl rfl)) (Qr (PSy.mk (qJ (i:=7) (j:=8) rfl Qy.nd rfl rfl (by decide) rfl rfl (Qw (D__law_draw.pe hr (by omega) rfl Qx (Qw (pv 0) (Qw (pv 1) (Qw Qd Qb)))) (Qw (Qv zR (pv 5) (pv 6) (fun _ _=>rfl)) Qb)) rfl))
   (Qr (J1 (PW.pt (Z0 (Qi QU (pv 2) Qd (Qo _)) (Zk (Qi Vn (pv 7) Qd (Qo _))))) (Qt (QR (i:=9) Qy.nd rfl (Or.inl rfl) (Js (QV (PEx.mk Qm) (QV (PEx.mk (pv 8)) (QV (vj (KJ (KJ (KJ (KJ (KJ (KJ QN)))))) (PEx.mk (D__law_draw.pe hr (by omega) rfl Qx (Qw (pv 0) (Qw (pv 1) (Qw Qd Qb))))) (fun _ _=>rfl)) QN rfl) rfl) rfl)) rfl rfl)) (Qt (J1 (Qi Vn (pv 7) Qd (Qo _)) (Qt (QR (i:=9) Qy.nd rfl (Or.inl rfl) (Js (QV (PEx.mk Qm) (QV (PEx.mk (pv 8)) (QV (PEx.mk (D__law_a_layout.pe hr (by omega) rfl Qx (Qw (pv 0) (Qw (pv 1) (Qw (QM zF (pv 2) Qd) Qb))))) QN rfl) rfl) rfl)) rfl rfl)) (Qt (QR (i:=9) Qy.nd rfl (Or.inl rfl) (Js (QV (PEx.mk Qm) (QV (PEx.mk (pv 8)) (QV (Ux Jl (PEx.mk Qd) (PEx.mk (D__law_draw.pe hr (by omega) rfl Qx (Qw (pv 0) (Qw (pv 1) (Qw Qd Qb)))))) (QV (PEx.mk (D__law_a_layout.pe hr (by omega) rfl Qx (Qw (pv 0) (Qw (pv 1) (Qw (QM zF (pv 2) Qd) Qb))))) QN rfl) rfl) rfl) rfl)) rfl rfl)))))
   (Qr (QR (i:=10) Qy.nd rfl (Or.inl rfl) (PEx.mk (D__law_item_size.pe hr (by omega) rfl Qx (Qw (pv 9) Qb))) rfl rfl)
   (Qt (J1 (PW.pt (Zl (Qi (Yv (n:=16) (YB hr)) (pv 3) (Qz Qb) (Qo _)) (Zl (Qi QU (D__law_draw.pe hr (by omega) rfl Qx (Qw (pv 0) (Qw (pv 1) (Qw Qd Qb)))) Qd (Qo _)) (J2 (Qi jF (pv 10) (pv 4) (Qo _)))))) (Qt (QR (i:=3) Qy.nd rfl (Or.inl rfl) (Ux Xg (PEx.mk (pv 3)) (Js (QV (Js (QV (PEx.mk Qm) (QV (PEx.mk (pv 9)) QN rfl) rfl)) QN rfl))) rfl rfl)) (Qt (PSy.mk (qJ (i:=3) (j:=4) rfl Qy.nd rfl rfl (by decide) rfl rfl (Qw (QM Xg (pv 3) (Qz (Qw (pv 9) Qb))) (Qw (pv 10) Qb)) rfl)))))))) (fun _=>rfl))
   (Qt (QE (PEx.mk (pv 3)))))),?_⟩
  refine⟨by show 0<=sizeLine;omega,fun p0 hp0=>⟨by show 3<=sizeLine;omega,fun p1 hp1=>?_⟩⟩;refine⟨p1,_,rfl,.inl (.inl Qc),rfl,_,_,rfl,_,_,rfl,_,_,rfl,rfl,?_⟩;have S0:=Qk.new (o:=.tup []) hp0;have S01:=Qk.new (o:=.tup [.ref p0,.int 0,.str "abcdef"]) hp1;have L0:LaySt K H (upd (upd H p0 (.tup [])) p1 (.tup [.ref p0,.int 0,.str "abcdef"])) a t r ns c (.ref p0) [] deep:=⟨B0.same (S0.trans S01),Apart.of (S0.trans S01),(Deep.tup Qc (by rw[dvL];exact .nil)).same S01,⟨Nat.zero_le _,fun j x h=>by simp at h,fun x h=>by simp at h,fun j y h=>by simp at h⟩,fun x hx=>nomatch hx⟩;generalize upd (upd H p0 (.tup [])) p1 (.tup [.ref p0,.int 0,.str "abcdef"])=H1 at L0;clear S0 S01 hp0 hp1;dsimp only[QJ,JS,ZI,QQ];refine L0.B.draw rfl rfl (fun R h=>h) (by decide) (by decide) (by omega) fun n4 H2 hn4 B2 A2=>?_;have L2':LaySt K H H2 a t r ns (c+1) (.ref p0) [] deep:=⟨B2,L0.A.trans A2,L0.D.keep (L0.B.Wz A2),L0.P,L0.G⟩;clear L0 B2 A2;refine⟨_,_,rfl,rfl,_,rfl,by omega,by omega,?_⟩;have en:(1+((n4:Nat):Int)).toNat=n4+1:=by omega
  rw[en];refine Xf (Qdj (lo:=0) (n:=n4+1)) (fun i σ H3=>∃(fv:V)(its:List (Bool × Ly))(c3:Int)(y6 y7 y8 y9 y10:Option V),σ=[some (.ref a),some (.ref t),some (.int (deep:Nat)),some fv,some (.int (ZL its:Nat)),some (.str "abcdef"),y6,y7,y8,y9,y10]/\LaySt K H H3 a t r ns c3 fv its deep/\its.length=i/\c3<=c+1+i*((cb deep-1)/4)) ⟨.ref p0,[],c+1,none,none,none,none,none,by rw[zq];rfl,L2',rfl,by omega⟩ ?_ ?_ ?_
  ·intro i σ H3 _ _;trivial
  ·rintro i v σ H30 H3 hi ⟨fv,its,c3,y6,y7,y8,y9,y10,rfl,L3,hli,hc3⟩ ⟨rfl,rfl⟩;have hi4:i<4:=by omega
   have per:∃q:Int,(cb deep-1)/4=q/\4<=q/\∀d,deep=d+1->q=cb d+4:=by
    refine⟨_,rfl,by omega,fun d hd=>?_⟩;subst hd;show(4*cb d+20-1)/4=cb d+4;omega
   obtain⟨q,hq,hq4,hqd⟩:=per;rw[hq]at hc3 ⊢;have hiq:((i:Nat):Int)*q<=3*q:=Int.mul_le_mul_of_nonneg_right (by omega) (by omega);have h4q:4*q<=cb deep-1:=by omega
   dsimp only[QJ,JS,QQ];refine jr (L3.B.draw rfl rfl (fun R h=>h) (by decide) (by decide) (by omega) fun tn H4 htn B4 A4=>?_);have L4:LaySt K H H4 a t r ns (c3+1) fv its deep:=⟨B4,L3.A.trans A4,L3.D.keep (L3.B.Wz A4),L3.P,L3.G⟩;clear L3 B4 A4;refine⟨_,rfl,_,rfl,"abcdef",_,_,rfl,rfl,by decide+kernel,QaC i hi4,?_⟩;refine⟨_,_,rfl,?_⟩;have hlt:(⟨#[97+i]⟩:Str)=VP i:=rfl;rw[hlt];dsimp only;refine Qdn (fun σ' H6=>∃(y:Ly)(iv:V)(c6:Int),σ'=[some (.ref a),some (.ref t),some (.int (deep:Nat)),some fv,some (.int (ZL its:Nat)),some (.str "abcdef"),some (.int (0+(i:Int))),some (.int (tn:Nat)),some (.str (VP i)),some iv,y10]/\LaySt K H H6 a t r ns c6 fv its deep/\Deep H6 iv y.dv/\Vw deep y/\y.name=VP i/\c6<=c3+q-1) ?_ (fun rest=>?_);rotate_left
   ·refine⟨_,rfl,rfl,_,rfl,?_⟩;refine ifB (fun z=>?_) (fun z=>?_)
    ·have gy:∀p,p<6->Vw deep (.box (VP i) p):=fun p hp6=>by
      cases deep with
      |zero=>exact⟨_,_,rfl,hp6⟩
      |succ d=>exact .inl ⟨_,_,rfl,hp6⟩
     refine QH ?_;exact kC L4 rfl rfl rfl (by omega) fun p iv H5 hp6 L5 D5=>rest _ _ ⟨.box (VP i) p,iv,_,rfl,L5,D5,gy p hp6,rfl,by omega⟩
    have hdz:deep≠0:=fun e=>by rw[e]at z;exact absurd z (by decide)
    obtain⟨d,rfl⟩:∃d,deep=d+1:=⟨deep-1,by omega⟩;have hqd':=hqd d rfl;refine⟨_,rfl,_,_,rfl,rfl,_,rfl,?_⟩;refine ifB (fun z3=>?_) (fun z3=>?_)
    ·exact kC L4 rfl rfl rfl (by omega) fun p iv H5 hp6 L5 D5=>rest _ _ ⟨.box (VP i) p,iv,_,rfl,L5,D5,.inl ⟨_,_,rfl,hp6⟩,rfl,by omega⟩
    have ed:(((d+1:Nat):Nat):Int)-1=((d:Nat):Int):=by omega
    refine⟨_,rfl,_,_,rfl,rfl,_,rfl,?_⟩;refine ifB (fun z5=>?_) (fun z5=>?_)
    ·refine⟨_,rfl,_,rfl,_,rfl,_,rfl,_,_,rfl,rfl,a,t,r,ns,c3+1,d,by dsimp only;rw[ed];rfl,by omega,by omega,L4.B,by omega,fun v5 H5 in_ c5 B5 hc5 A5 D5 G5=>⟨by show 3<=sizeLine;omega,fun p6 hp6=>?_⟩⟩;have S6:=Qk.new (o:=.tup [.str "group",.str (VP i),v5]) hp6;have L5:LaySt K H H5 a t r ns c5 fv its (d+1):=⟨B5,L4.A.trans A5,L4.D.keep (L4.B.Wz A5),L4.P,L4.G⟩;refine rest _ _ ⟨.grp (VP i) in_,.ref p6,c5,rfl,⟨L5.B.same S6,L5.A.trans (Apart.of S6),L5.D.same S6,L5.P,L5.G⟩,?_,.inr (.inl ⟨_,_,rfl,G5⟩),rfl,by omega⟩;rw[Ly.dv];exact .tup Qc (.cons .str (.cons .str (.cons (D5.same S6) .nil)))
    ·refine⟨_,rfl,?_⟩;refine L4.B.draw rfl rfl (fun R h=>h) (by decide) (by decide) (by omega) fun kd H5 hkd B5 A5=>?_;have L5:LaySt K H H5 a t r ns (c3+1+1) fv its (d+1):=⟨B5,L4.A.trans A5,L4.D.keep (L4.B.Wz A5),L4.P,L4.G⟩;refine⟨_,_,rfl,rfl,?_⟩;have ek:(1:Int)+((kd:Nat):Int)=((kd+1:Nat):Int):=by omega
     dsimp only;rw[ek];refine⟨_,rfl,_,rfl,_,rfl,_,_,rfl,rfl,a,t,r,ns,c3+1+1,d,by dsimp only;rw[ed];rfl,by omega,by omega,L5.B,by omega,fun v6 H6 in_ c6 B6 hc6 A6 D6 G6=>⟨by show 4<=sizeLine;omega,fun p7 hp7=>?_⟩⟩;have S7:=Qk.new (o:=.tup [.str "table",.str (VP i),.int (kd+1:Nat),v6]) hp7;have L6:LaySt K H H6 a t r ns c6 fv its (d+1):=⟨B6,L5.A.trans A6,L5.D.keep (L5.B.Wz A6),L5.P,L5.G⟩;refine rest _ _ ⟨.tab (VP i) (kd+1) in_,.ref p7,c6,rfl,⟨L6.B.same S7,L6.A.trans (Apart.of S7),L6.D.same S7,L6.P,L6.G⟩,?_,.inr (.inr ⟨_,_,_,rfl,by omega,by omega,G6⟩),rfl,by omega⟩;rw[Ly.dv];exact .tup Qc (.cons .str (.cons .str (.cons .int (.cons (D6.same S7) .nil))))
   rintro σ6 H6 ⟨y,iv,c6,rfl,L6,Dy,Gy,hyn,hc6⟩;obtain⟨b1,b2,b3,b4⟩:=YT deep hd2 Gy;refine⟨_,rfl,iv,(false,y),rfl,by rw[dvI,if_neg (by decide)];exact Dy,by show y.dp<3;omega,by show y.cn<=10000;omega,b3,jq deep Gy,fun H7 S7=>?_⟩;have esz:szI (false,y)=y.sz:=by rw[szI,if_neg (by decide)]
   rw[esz];have L7:LaySt K H H7 a t r ns c6 fv its deep:=⟨L6.B.same S7,L6.A.trans (Apart.of S7),L6.D.same S7,L6.P,L6.G⟩;have Dy7:=Dy.same S7;clear L6 Dy;obtain⟨fa,fx,rfl,gf,tf⟩:=Deep.X0 L7.D;have lfx:=tf.length;rw[Q7,List.length_map]at lfx;have plain:∀H8 c8,LaySt K H H8 a t r ns c8 (.ref fa) its deep->Deep H8 iv y.dv->c8<=c6+1->∀De:Ends,(∀σ' H',(∃(fv:V)(its:List (Bool × Ly))(c3:Int)(y6 y7 y8 y9 y10:Option V),σ'=[some (.ref a),some (.ref t),some (.int (deep:Nat)),some fv,some (.int (ZL its:Nat)),some (.str "abcdef"),y6,y7,y8,y9,y10]/\LaySt K H H' a t r ns c3 fv its deep/\its.length=i+1/\c3<=c+1+((i+1:Nat):Int)*q)->De.nx σ' H')->Qcr 3 4 (QX (tOp Qap (XL 3) (QaU (QX (XL 9) Wq))) (QX (XL 10) Wq)) De [some (.ref a),some (.ref t),some (.int (deep:Nat)),some (.ref fa),some (.int (ZL its:Nat)),some (.str "abcdef"),some (.int (0+(i:Int))),some (.int (tn:Nat)),some (.str (VP i)),some iv,some (.int (y.sz:Nat))] H8:=by
    intro H8 c8 L8 D8 hc8 De hnx;obtain⟨fa',fx',e',gf8,tf8⟩:=Deep.X0 L8.D;cases e';have l8:=tf8.length;rw[Q7,List.length_map]at l8;refine jr ⟨_,rfl,_,rfl,by show 1<=sizeLine;omega,fun p9 hp9=>?_⟩;have S9:=Qk.new (o:=.tup [iv]) hp9;refine UA (S9 _ _ gf8) Qc (tf8.same S9) (.cons (D8.same S9) .nil) (by show fx'.length+1<=sizeLine;omega) fun u10 H10 S10 D10=>?_;refine⟨_,rfl,_,_,rfl,?_⟩;have S810:=S9.trans S10;refine hnx _ _ ⟨u10,its++[(false,y)],c8,_,_,_,_,_,by rw[zo];rfl,⟨L8.B.same S810,L8.A.trans (Apart.of S810),?_,L8.P.add (by omega) (by rw[hyn,hli]),?_⟩,by rw[List.length_append,List.length_singleton,hli],?_⟩
    ·rw[Q7,List.map_append, ←Q7];have:[(false,y)].map dvI=[y.dv]:=by rw[List.map_cons,List.map_nil,dvI,if_neg (by decide)]
     rw[this];exact D10
    ·intro x hx;rcases List.mem_append.mp hx with hx|hx
     ·exact L8.G x hx
     ·rw[List.mem_singleton.mp hx];exact Gy
    ·have:((i+1:Nat):Int)*q=((i:Nat):Int)*q+q:=by push_cast;rw[Int.add_mul,Int.one_mul]
     omega
   dsimp only[QJ,JS,ZI,QQ];refine⟨_,rfl,?_⟩;refine vG L7.D (kD hd2 L7.G) fun H8 b8 S8 hb8=>?_;have L8:LaySt K H H8 a t r ns c6 (.ref fa) its deep:=⟨L7.B.same S8,L7.A.trans (Apart.of S8),L7.D.same S8,L7.P,L7.G⟩;refine ifB (fun z=>?_) (fun z=>?_);rotate_left
   ·exact plain H8 c6 L8 (Dy7.same S8) (by omega) _ (fun _ _ h=>h)
   have hne:=hb8.mp z;refine L8.B.draw rfl rfl (fun R h=>h) (by decide) (by decide) (by omega) fun d9 H9 hd9 B9 A9=>?_;have L9:LaySt K H H9 a t r ns (c6+1) (.ref fa) its deep:=⟨B9,L8.A.trans A9,L8.D.keep (L8.B.Wz A9),L8.P,L8.G⟩;have Dy9:=(Dy7.same S8).keep (L8.B.Wz A9);refine⟨rfl,_,rfl,?_⟩;refine ifB (fun z2=>?_) (fun z2=>?_);rotate_left
   ·exact plain H9 (c6+1) L9 Dy9 (by omega) _ (fun _ _ h=>h)
   refine⟨_,rfl,_,rfl,_,_,rfl,rfl,_,rfl,?_⟩;refine ifB (fun z3=>?_) (fun z3=>?_);rotate_left
   ·exact plain H9 (c6+1) L9 Dy9 (by omega) _ (fun _ _ h=>h)
   have z3:=of_decide_eq_true z3;obtain⟨fa',fx',e',gf9,tf9⟩:=Deep.X0 L9.D;cases e';have l9:=tf9.length;rw[Q7,List.length_map]at l9;refine⟨_,rfl,_,rfl,by show 2<=sizeLine;omega,fun p10 hp10=>⟨by show 1<=sizeLine;omega,fun p11 hp11=>?_⟩⟩;have S10:=Qk.new (o:=.tup [.str "over",iv]) hp10;have S11:=Qk.new (o:=.tup [.ref p10]) hp11;have D11:Deep (upd (upd H9 p10 (.tup [.str "over",iv])) p11 (.tup [.ref p10])) (.ref p10) (.tup [.str "over",y.dv]):=(Deep.tup Qc (.cons .str (.cons (Dy9.same S10) .nil))).same S11;refine UA ((S10.trans S11) _ _ gf9) Qc (tf9.same (S10.trans S11)) (.cons D11 .nil) (by show fx'.length+1<=sizeLine;omega) fun u12 H12 S12 D12=>?_;have S912:=(S10.trans S11).trans S12;refine⟨u12,its++[(true,y)],c6+1,_,_,_,_,_,by rw[qA hne];rfl,⟨L9.B.same S912,L9.A.trans (Apart.of S912),?_,L9.P.QdZ hne (by omega) (by rw[hyn,hli]) (by omega),?_⟩,by rw[List.length_append,List.length_singleton,hli],?_⟩
   ·rw[Q7,List.map_append, ←Q7];have:[(true,y)].map dvI=[.tup [.str "over",y.dv]]:=by rw[List.map_cons,List.map_nil,dvI,if_pos rfl]
    rw[this];exact D12
   ·intro x hx;rcases List.mem_append.mp hx with hx|hx
    ·exact L9.G x hx
    ·rw[List.mem_singleton.mp hx];exact Gy
   ·have:((i+1:Nat):Int)*q=((i:Nat):Int)*q+q:=by push_cast;rw[Int.add_mul,Int.one_mul]
    omega
  ·rintro σ H3 ⟨fv,its,c3,y6,y7,y8,y9,y10,rfl,L3,hli,hc3⟩;refine⟨_,rfl,k _ _ its c3 L3.B ?_ L3.A L3.D ((ZW _ _).mpr ⟨fun z=>by rw[z]at hli;simp at hli,L3.P,L3.G⟩)⟩;have:n4=0\/n4=1\/n4=2\/n4=3:=by omega
   rcases this with rfl|rfl|rfl|rfl<;>(push_cast at hc3;omega)
end
def Vh:Wx->Wx
 | .tup (.str w0::r)=>if eqS w0 "over"=true then only r id .non else .tup (.str w0::r)
 |d=>d
def Qc3:Wx->Str
 | .tup (_:: .str z::_)=>z
 |_=>""
def Qc4:Wx->Str
 | .tup (.str z::_)=>z
 |_=>""
def QbS:Wx->Wx
 | .tup ds=>ds.getLastD .non
 |_=>.non
def nmB(x:Wx):Str:=Qc3 (Vh x)
def Vi:Wx->Bool
 | .tup []=>false
 | .tup (d::ds)=>(d::ds).all Jg&&unlike ((d::ds).map nmB)
 |_=>false
def Jv(x:Wx):Bool:= !(eqS (Qc4 (Vh x)) "box")
def inB(x:Wx):Wx:=QbS (Vh x)
def inr:Wx->List Wx
 | .tup ds=>(ds.filter Jv).map inB
 |_=>[]
theorem Vj{d:Wx}(h:J8 d=true):∃w0 z c r,d=.tup (.str w0:: .str z::c::r)/\nmS z=true/\(if eqS w0 "table"=true then decide (r.length=1)&&whW c else if eqS w0 "box"=true then decide (r.length=0)&&Qcf c else decide (r.length=0)&&eqS w0 "group")=true:=by
 cases d with
 |tup ds=>
  rcases ds with _|⟨d0,_|⟨n,_|⟨c,r⟩⟩⟩
  ·cases h
  ·cases d0<;>cases h
  ·cases d0<;>cases h
  ·cases d0 with
   |str w0=>
    have h:(nmW n&&(if eqS w0 "table"=true then decide (r.length=1)&&whW c else if eqS w0 "box"=true then decide (r.length=0)&&Qcf c else decide (r.length=0)&&eqS w0 "group"))=true:=h;rw[Bool.and_eq_true]at h;cases n with
    |str z=>exact⟨w0,z,c,r,rfl,h.1,h.2⟩
    |_=>cases h.1
   |_=>cases h
 |_=>cases h
theorem Kx{d:Wx}(h:Jg d=true):J8 (Vh d)=true/\∃w0 r,d=.tup (.str w0::r)/\((eqS w0 "over"=true/\r=[Vh d])\/(eqS w0 "over"=false/\Vh d=d)):=by
 cases d with
 |tup ds=>
  cases ds with
  |nil=>cases h
  |cons d0 r=>
   cases d0 with
   |str w0=>
    have h:(if eqS w0 "over"=true then only r J8 false else J8 (.tup (.str w0::r)))=true:=h;have e:Vh (.tup (.str w0::r))=if eqS w0 "over"=true then only r id .non else .tup (.str w0::r):=rfl;rw[e];cases ho:eqS w0 "over" with
    |true=>
     rw[if_pos ho]at h;rw[if_pos rfl];rcases r with _|⟨x,_|⟨y,r⟩⟩
     ·cases h
     ·exact⟨h,w0,_,rfl,.inl ⟨ho,rfl⟩⟩
     ·cases h
    |false=>
     rw[if_neg (by rw[ho];decide)]at h;rw[if_neg (by decide)];exact⟨h,w0,_,rfl,.inr ⟨ho,rfl⟩⟩
   |_=>cases h
 |_=>cases h
section
variable {P:Program}{w:World}{K:PySem.W.Frag}{mg:Str->Option Value}{base:Heap}{f:Addr}{fd:FuncData}{tk:Nat->Tok}{c kr:Nat->Addr}
def YU:Sp:=fun vs H Q _=>∃(v:V)(d:Wx),vs=[v]/\Ws H v d/\Jg d=true/\∀u,Ws H u (Vh d)->Q u H
theorem vI(F:Fun K "bare" "bare" qZ f fd):FnOk P w K mg base (CXE P w) 1 f fd ["item"] YU:=by
 refine WQ F xz (fun vs H Q E h=>?_) (fun cdv A outer s H vs Q E hr h=>?_)
 ·obtain⟨v,d,rfl,_⟩:=h;rfl
 ·obtain⟨v,d,rfl,D,hi,k⟩:=h;obtain⟨_,w0,r,rfl,hc⟩:=Kx hi;obtain⟨a,xs,rfl,g,t⟩:=D.X0;refine⟨_,(Qt (QE (VN (Qi QU (Qv Qq (pv 0) Qd (fun _ _=>rfl)) Qm (Qo _)) (PEx.mk (Qv Qq (pv 0) Qd (fun _ _=>rfl))) (PEx.mk (pv 0))))),?_⟩;cases t with
  |@cons x d0 xs ds hx t=>
   obtain rfl:=hx.YX;rcases hc with⟨ho,hr'⟩|⟨ho,hr'⟩
   ·rw[hr']at t;cases t with
    |@cons x1 d1 xs ds hx1 t=>
     cases t;exact⟨_,rfl,a,_,0,_,rfl,rfl,.inl g,rfl,rfl,true,congrArg V.bl ho,QH ⟨_,rfl,a,_,1,_,rfl,rfl,.inl g,rfl,k _ hx1⟩⟩
   ·rw[hr']at k;exact⟨_,rfl,a,_,0,_,rfl,rfl,.inl g,QL (j:=0) rfl,rfl,false,congrArg V.bl ho,QG ⟨_,rfl,k _ D⟩⟩
def Qc5:Wx->Prop
 | .tup ds=>ds.length<900/\∀x∈ds,QaZ x/\NmI x
 |_=>True
def QaD:Sp:=fun vs H Q _=>∃(v:V)(d:Wx),vs=[v]/\Ws H v d/\Qc5 d/\∀H',Qk H H'->Q (.bl (Vi d)) H'
theorem Ky(F:Fun K "is_row_of_items" "is_row_of_items" JL f fd)(O:Own mg)(OT:mg "tuple"=none)(OA:mg "all"=none)(OS:mg "set"=none)(KT:KitL K)(D_is_item:Def P w K mg base 8 "is_item" ["thing"] kw)(D_bare:Def P w K mg base 1 "bare" ["item"] YU):FnOk P w K mg base (CXE P w) 9 f fd ["thing"] QaD:=by
 refine WQ F ZA (fun vs H Q E h=>?_) (fun cdv A outer s H vs Q E hr h=>?_)
 ·obtain⟨v,d,rfl,_⟩:=h;rfl
 ·obtain⟨v,d,rfl,D,hA,k⟩:=h;have hz:1000<=sizeLine:=by decide
  refine⟨_,(Qr (J1 (PW.pt (Z0 (ZX (Zj (Ql QI rfl O.isi PyProof.Rows.boot_isinstance (Qw (pv 0) (Qw (Zi (v:=V.ty "tuple") rfl OT PyProof.Rows.boot_tuple rfl) Qb))))) (Zk (Qi QU (Ql Qu rfl O.len PySem.boot_len (Qw (pv 0) Qb)) Qd (Qo _))))) (Qt (QE (PEx.mk Zs))) Jb)
   (Qr (J1 (ZX (Zj (Ql (jf rfl) rfl OA PyProof.Rows.boot_all (Qw (JU (NB:=[".0","item"]) rfl ⟨rfl,by decide+kernel,by decide+kernel,by decide+kernel⟩ (Z3 (pv 0)) (fun _ _ _=>(Qh (i:=1) (show([".0","item"]:List Str).Nodup by decide+kernel) rfl (Or.inl rfl))) (fun _ _ _=>J3) (fun _ _ _=>(D_is_item.pe hr (by decide) rfl Qx (Qw (pv 1) Qb)))) Qb)))) (Qt (QE (PEx.mk Zs))) Jb)
   (Qr (PSy.mk (Wy (NB:=[".0","item"]) (iy:=1) rfl ⟨rfl,by decide+kernel,by decide+kernel,by decide+kernel⟩ (Z3 (pv 0)) (fun _ _ _=>(Qh (i:=1) (show([".0","item"]:List Str).Nodup by decide+kernel) rfl (Or.inl rfl))) (fun _ _ _=>J3) (fun _ _ _=>(Qv Qq (D_bare.pe hr (by decide) rfl Qx (Qw (pv 1) Qb)) Qd (fun _ _=>rfl))) ZA.nd rfl (Or.inl rfl) rfl))
   (Qt (QE (PEx.mk (Jp QU (Ql qd rfl O.len PySem.boot_len (Qw (Ka (kj rfl) rfl OS PyProof.Rows.boot_set (Qw (pv 1) Qb)) Qb)) (Ql Qu rfl O.len PySem.boot_len (Qw (pv 1) Qb)) (Qo _)))))))),?_⟩
  dsimp only[QJ,JS,ZI,QQ];refine⟨_,rfl,_,_,isT d,rfl,rfl,.inl ⟨_,D.ty,KT.t d⟩,isT d,rfl,?_⟩;cases D with
  |non=>exact QH (QH (k _ (Qk.refl _)))
  |bl=>exact QH (QH (k _ (Qk.refl _)))
  |int=>exact QH (QH (k _ (Qk.refl _)))
  |str=>exact QH (QH (k _ (Qk.refl _)))
  |lst g=>exact QH (QH (k _ (Qk.refl _)))
  |@tup a xs ds g t=>
   obtain⟨hA1,hA2⟩:=hA;refine QG ⟨_,rfl,a,xs,rfl,.inr (.inl (.inl g)),rfl,?_⟩;have lx:=t.length;cases ds with
   |nil=>
    cases t;exact⟨true,rfl,QH (k _ (Qk.refl _))⟩
   |cons d0 ds0=>
    generalize hds:d0::ds0=ds at t hA1 hA2 lx;have hn:xs.length≠0:=by rw[lx, ←hds,List.length_cons];omega
    have k:∀H',Qk H H'->Q (.bl (ds.all Jg&&unlike (ds.map nmB))) H':=by rw[←hds];exact k
    clear hds;refine⟨false,congrArg V.bl (decide_eq_false fun z=>by injection z with z;exact hn (by omega)),QG ?_⟩;dsimp only[QJ,JS,ZI,QQ,QaT,Qcm,tB];refine cb1 ?_;refine Xu (xX (K:=K) (a:=a) (xs:=xs)) (fun i vs H1=>Qk H H1/\vs=((ds.take i).map Jg).map V.bl) (fun R h=>⟨_,rfl,a,rfl,⟨_,.inl (.inl g)⟩,h _ ⟨Qk.refl _,rfl⟩⟩) ?_ ?_ ?_ (by omega)
    ·rintro i vs H1 hi ⟨S,rfl⟩;refine⟨.inl (.inl (S _ _ g)),?_⟩;rw[List.length_map,List.length_map,List.length_take];omega
    ·rintro i v vs H1 H2 hi ⟨S,rfl⟩ ⟨rfl,hv⟩;obtain⟨d,hd,Dd⟩:=t.XZ hv;obtain⟨h1,h2⟩:=hA2 d (List.mem_of_getElem? hd);refine⟨_,rfl,v,d,rfl,Dd.same S,h1,h2,fun H3 S3=>⟨S.trans S3,?_⟩⟩;rw[List.take_add_one,hd];simp
    rintro vs H1 ⟨S1,rfl⟩ p hp;rw[List.take_of_length_le (by omega)];have S2:=S1.trans (Qk.new (o:=.lst ((ds.map Jg).map V.bl)) hp);refine⟨p,_,rfl,.inl (.inl Qc),_,rfl,?_⟩;generalize upd H1 p (.lst ((ds.map Jg).map V.bl))=H2 at S2;have ea:(ds.map Jg).all id=ds.all Jg:=by rw[List.all_map];rfl
    rw[ea];cases hall:ds.all Jg with
    |false=>
     rw[hall,Bool.false_and]at k;exact QH (k _ S2)
    |true=>
     rw[hall,Bool.true_and]at k;have hit:∀x∈ds,Jg x=true:=fun x hx=>List.all_eq_true.mp hall x hx;refine QG ?_;refine Xu (xX (K:=K) (a:=a) (xs:=xs)) (fun i vs H1=>Qk H H1/\vs=((ds.take i).map nmB).map V.str) (fun R h=>⟨_,rfl,a,rfl,⟨_,.inl (.inl (S2 _ _ g))⟩,h _ ⟨S2,rfl⟩⟩) ?_ ?_ ?_ (by omega)
     ·rintro i vs H1 hi ⟨S,rfl⟩;refine⟨.inl (.inl (S _ _ g)),?_⟩;rw[List.length_map,List.length_map,List.length_take];omega
     ·rintro i v vs H3 H4 hi ⟨S,rfl⟩ ⟨rfl,hv⟩;obtain⟨d,hd,Dd⟩:=t.XZ hv;have hid:=hit d (List.mem_of_getElem? hd);refine⟨_,rfl,v,d,rfl,Dd.same S,hid,fun u Du=>?_⟩;obtain⟨w0,z,c,r,e,_,_⟩:=Vj (Kx hid).1;have en:nmB d=z:=by rw[nmB,e];rfl
      rw[e]at Du;obtain⟨b,ys,rfl,gb,tb⟩:=Du.X0;cases tb with
      |@cons y1 _ ys _ h1 tb=>
       cases tb with
       |@cons y2 _ ys _ h2 tb=>
        obtain rfl:=h2.YX;refine⟨b,_,1,_,rfl,rfl,.inl gb,QL (j:=1) rfl,S,?_⟩;rw[List.take_add_one,hd];simp[en]
     rintro vs H3 ⟨S3,rfl⟩ q hq;rw[List.take_of_length_le (by omega)];have S4:=S3.trans (Qk.new (o:=.lst ((ds.map nmB).map V.str)) hq);have g4:upd H3 q (.lst ((ds.map nmB).map V.str)) q=some (.lst ((ds.map nmB).map V.str)):=Qc;generalize upd H3 q (.lst ((ds.map nmB).map V.str))=H4 at S4 g4;refine⟨_,rfl,q,_,rfl,.inl (.inl g4),by rw[List.length_map];omega,fun s hs=>?_⟩;have S5:=Qk.new (o:=Qcd P w s (many (ds.map nmB))) hs;refine⟨s,_,rfl,Qc,?_⟩;refine⟨_,rfl,q,_,rfl,.inl (.inl (.inl (S5 _ _ g4))),rfl,?_⟩;have e:decide (V.int ((many (ds.map nmB):Nat):Int)=V.int (((ds.map nmB).map V.str).length:Nat))=unlike (ds.map nmB):=by
      rw[←vn];refine decide_eq_decide.mpr ⟨fun z=>?_,fun z=>?_⟩
      ·injection z with z;rw[List.length_map]at z;omega
      ·rw[z,List.length_map,List.length_map,List.length_map]
     rw[←e]at k;exact k _ (S4.trans S5)
end
def ovB:Nat->List (Bool × Ly)->Bool
 |_,[]=>true
 |u,(ov,y)::xs=>if ov=true then decide (y.sz<=u)&&ovB u xs else ovB y.sz xs
mutual
def Ly.ov:Ly->Bool
 | .box _ _=>true
 | .grp _ its=>ovB 0 its&&QaE its
 | .tab _ _ its=>ovB 0 its&&QaE its
def QaE:List (Bool × Ly)->Bool
 |[]=>true
 |x::xs=>ovI x&&QaE xs
def ovI:Bool × Ly->Bool
 |(_,y)=>y.ov
end
def ovL(its:List (Bool × Ly)):Bool:=ovB 0 its&&QaE its
def QbT:Ly->Option (List (Bool × Ly))
 | .box _ _=>none
 | .grp _ its=>some its
 | .tab _ _ its=>some its
def inn(its:List (Bool × Ly)):List (List (Bool × Ly)):=its.filterMap fun x=>QbT x.2
theorem YV:∀its,QaE its=(inn its).all ovL
 |[]=>by rw[QaE];rfl
 |(o,y)::xs=>by
  rw[QaE,ovI,YV xs];cases y with
  |box nm p=>rw[Ly.ov,Bool.true_and];rfl
  |grp nm i=>rw[Ly.ov];rfl
  |tab nm k i=>rw[Ly.ov];rfl
def wI(x:Bool × Ly):Wx:=toW (dvI x)
def wR(its:List (Bool × Ly)):Wx:=.tup (its.map wI)
theorem kE(its:List (Bool × Ly)):wR its=toW (.tup (dvL its)):=by rw[wR,toW,YD,Q7,List.map_map];rfl
def Ly.w:Ly->Wx
 | .box nm p=>.tup [.str "box",.str nm,.str (Uy p)]
 | .grp nm its=>.tup [.str "group",.str nm,wR its]
 | .tab nm k its=>.tup [.str "table",.str nm,.int (k:Nat),wR its]
theorem Ly.w_eq(y:Ly):toW y.dv=y.w:=by
 cases y with
 |box nm p=>rw[Ly.dv,Ly.w,toW,Zr,Zr,Zr,Zr,toW,toW,toW]
 |grp nm its=>rw[Ly.dv,Ly.w,toW,Zr,Zr,Zr,Zr,toW,toW,kE]
 |tab nm k its=>rw[Ly.dv,Ly.w,toW,Zr,Zr,Zr,Zr,Zr,toW,toW,toW,kE]
theorem QaF(x:Bool × Ly):wI x=if x.1=true then .tup [.str "over",x.2.w]else x.2.w:=by
 obtain⟨o,y⟩:=x;rw[wI,dvI];cases o with
 |true=>rw[if_pos rfl,if_pos rfl,toW,Zr,Zr,Zr,toW,Ly.w_eq]
 |false=>rw[if_neg Bool.false_ne_true,if_neg (show ¬ ((false,y):Bool × Ly).1=true from Bool.false_ne_true),Ly.w_eq]
theorem VQ:eqS "over" "over"=true:=by decide+kernel
theorem Xz(y:Ly):eqS y.word "over"=false:=ZK y
theorem Ly.Qch(y:Ly):∃r,y.w=.tup (.str y.word:: .str y.name::r):=by cases y<;>exact⟨_,rfl⟩
theorem WC(x:Bool × Ly):Vh (wI x)=x.2.w:=by
 obtain⟨o,y⟩:=x;rw[QaF];cases o with
 |true=>
  rw[if_pos rfl];show(if eqS "over" "over"=true then only (y.w::[]) id .non else .tup [.str "over",y.w])=y.w;rw[if_pos VQ];rfl
 |false=>
  rw[if_neg (show ¬ ((false,y):Bool × Ly).1=true from Bool.false_ne_true)];obtain⟨r,e⟩:=y.Qch;rw[e];show(if eqS y.word "over"=true then _ else _)=_;rw[if_neg (by rw[Xz];decide)]
theorem kF(x:Bool × Ly):Jv (wI x)=(QbT x.2).isSome:=by
 rw[Jv,WC];obtain⟨o,y⟩:=x;cases y with
 |box nm p=>show(!(eqS "box" "box"))=false;decide+kernel
 |grp nm its=>show(!(eqS "group" "box"))=true;decide+kernel
 |tab nm k its=>show(!(eqS "table" "box"))=true;decide+kernel
theorem QbU{x:Bool × Ly}{i:List (Bool × Ly)}(h:QbT x.2=some i):inB (wI x)=wR i:=by
 rw[inB,WC];obtain⟨o,y⟩:=x;cases y with
 |box nm p=>cases h
 |grp nm its=>obtain rfl:=Option.some.inj h;rfl
 |tab nm k its=>obtain rfl:=Option.some.inj h;rfl
theorem kG:∀its,inr (wR its)=(inn its).map wR
 |[]=>rfl
 |x::xs=>by
  have ih:((xs.map wI).filter Jv).map inB=(inn xs).map wR:=kG xs;show(((wI x::xs.map wI).filter Jv).map inB)=(inn (x::xs)).map wR;rw[List.filter_cons,kF,inn,List.filterMap_cons];cases h:QbT x.2 with
  |none=>rw[if_neg (by decide)];exact ih
  |some i=>rw[Option.isSome_some,if_pos rfl,List.map_cons,List.map_cons,QbU h,ih];rfl
inductive Bad:Wx->Prop where
 |row {d:Wx} (h:Vi d=false):Bad d
 |inn {d x:Wx} (h:x∈inr d) (b:Bad x):Bad d
inductive Args:Wx->Prop where
 |mk {d:Wx} (h:Qc5 d) (t:Vi d=true->∀x∈inr d,Args x):Args d
theorem Args.here{d:Wx}(h:Args d):Qc5 d:=by cases h with|mk h t=>exact h
theorem Args.inr{d:Wx}(h:Args d)(hr:Vi d=true):∀x∈inr d,Args x:=by cases h with|mk h t=>exact t hr
inductive Rows:List (Bool × Ly)->Prop where
 |mk {its:List (Bool × Ly)} (h:Vi (wR its)=true) (c:cnL its<=800) (o:okL its) (t:∀x∈inn its,Rows x):Rows its
mutual
def szW:Wx->Nat
 | .tup ds=>1+Xm ds
 | .non=>1
 | .bl _=>1
 | .int _=>1
 | .str _=>1
 | .lst=>1
def Xm:List Wx->Nat
 |[]=>0
 |d::ds=>szW d+Xm ds
end
theorem YW:szW .non=1:=by rw[szW]
theorem K4(d:Wx):1<=szW d:=by cases d<;>rw[szW]<;>omega
theorem WD:∀a b,Xm (a++b)=Xm a+Xm b
 |[],b=>by rw[List.nil_append,Xm];omega
 |x::a,b=>by rw[List.cons_append,Xm,Xm,WD a b];omega
theorem Kz:∀ds,ds.length<=Xm ds
 |[]=>Nat.zero_le _
 |d::ds=>by
  have:=Kz ds;have:=K4 d;rw[List.length_cons,Xm];omega
theorem vJ(d:Wx):szW (QbS d)<=szW d:=by
 have hp:=K4 d;cases d with
 |tup ds=>
  show szW (ds.getLastD .non)<=_;rcases List.eq_nil_or_concat ds with rfl|⟨l,x,rfl⟩
  ·show szW .non<=_;rw[YW];exact hp
  ·rw[List.concat_eq_append];have:(l++[x]).getLastD .non=x:=by simp
   rw[this,szW,WD,Xm,Xm];omega
 |_=>show szW .non<=_;rw[YW];exact hp
theorem vK(d:Wx):szW (Vh d)<=szW d:=by
 cases d with
 |tup ds=>
  cases ds with
  |nil=>exact Nat.le_refl _
  |cons d0 r=>
   cases d0 with
   |str w0=>
    show szW (if eqS w0 "over"=true then only r id .non else .tup (.str w0::r))<=_
    split
    ·rcases r with _|⟨x,_|⟨y,r⟩⟩
     ·show szW .non<=_;rw[YW];exact K4 _
     ·show szW x<=_;rw[szW,Xm,Xm,Xm];omega
     ·show szW .non<=_;rw[YW];exact K4 _
    ·exact Nat.le_refl _
   |_=>exact Nat.le_refl _
 |_=>exact Nat.le_refl _
theorem QaG(d:Wx):szW (inB d)<=szW d:=Nat.le_trans (vJ _) (vK d)
theorem js:∀ds,Xm ((ds.filter Jv).map inB)<=Xm ds
 |[]=>Nat.le_refl _
 |d::ds=>by
  have ih:=js ds;have h:=QaG d;rw[List.filter_cons,Xm]
  split
  ·rw[List.map_cons,Xm];omega
  ·omega
theorem QaH(d:Wx):Xm (inr d)<szW d:=by
 cases d with
 |tup ds=>
  have:=js ds;show Xm ((ds.filter Jv).map inB)<_;rw[szW];omega
 |_=>show 0<_;exact K4 _
section
variable {P:Program}{w:World}{K:PySem.W.Frag}{mg:Str->Option Value}{base:Heap}{f:Addr}{fd:FuncData}{tk:Nat->Tok}{c kr:Nat->Addr}
theorem dv1(y:Ly):dvL [(false,y)]=[y.dv]:=by rw[dvL,dvL,dvI,if_neg (by decide)]
theorem sz1(y:Ly):szL [(false,y)]=y.sz:=by rw[szL,szL,szI,if_neg (by decide)];omega
theorem cn1(y:Ly):cnL [(false,y)]=y.cn:=by rw[cnL,cnL,cnI];omega
theorem ok1{y:Ly}(h:y.okK):okL [(false,y)]:=by rw[okL,okL,okI];exact⟨h,trivial⟩
def qB:Sp:=fun vs H Q _=>∃(v:V)(its:List (Bool × Ly)),vs=[v]/\Deep H v (.tup (dvL its))/\cnL its<=9000/\okL its/\∀H',Qk H H'->Q (.bl (ovB 0 its)) H'
theorem KA(F:Fun K "overs_have_room" "overs_have_room" JM f fd)(D_signs_in:Def P w K mg base 8 "signs_in" ["layout"] Xj):FnOk P w K mg base (CXE P w) 9 f fd ["items"] qB:=by
 refine WQ F Jc (fun vs H Q E h=>?_) (fun cdv A outer s H vs Q E hr h=>?_)
 ·obtain⟨v,its,rfl,_⟩:=h;rfl
 ·obtain⟨v,its,rfl,D,hc,hok,k⟩:=h;have hz:10000<=sizeLine:=by rw[sizeLine_eq];decide
  have ln:=Uz its;refine⟨_,(Qr (QR (i:=1) Jc.nd rfl (Or.inl rfl) (Js QN) rfl rfl)
   (Qr (ZU PassesOwn.never rfl (Z3 (pv 0)) (Qh (i:=2) Jc.nd rfl (Or.inl rfl)) (Qt (J1 (Qi XA (Qv Qq (pv 2) Qd (fun _ _=>rfl)) Qm (Qo _)) (Qt (QR (i:=1) Jc.nd rfl (Or.inl rfl) (Js (QV (PEx.mk (pv 2)) QN rfl)) rfl rfl)) (Qt (J1 (Qi Vo (D_signs_in.pe hr (by decide) rfl Qx (Qw (Qz (Qw (Qv Qq (pv 2) Qd (fun _ _=>rfl)) Qb)) Qb)) (D_signs_in.pe hr (by decide) rfl Qx (Qw (pv 1) Qb)) (Qo _)) (Qt (QE (PEx.mk Zs))) Jb)))) (fun _=>rfl))
   (Qt (QE (PEx.mk Zs))))),?_⟩
  dsimp only[QJ,JS,ZI,QQ];obtain⟨a,xs,rfl,g,t⟩:=Deep.X0 D;rw[Q7]at t;have lx:=t.length;rw[List.length_map]at lx;refine⟨Nat.zero_le _,fun p hp=>?_⟩;have S1:=Qk.new (o:=.tup []) hp;have D1:Deep (upd H p (.tup [])) (.ref p) (.tup (dvL [])):=.tup Qc (by rw[dvL];exact .nil);generalize upd H p (.tup [])=H1 at S1 D1;refine⟨_,rfl,a,rfl,⟨_,.inl (.inl (S1 _ _ g))⟩,?_⟩;refine Xf (xX (K:=K) (a:=a) (xs:=xs)) (fun j σ H4=>∃(uv:V)(un:List (Bool × Ly))(y2:Option V),σ=[some (.ref a),some uv,y2]/\Qk H H4/\Deep H4 uv (.tup (dvL un))/\cnL un<=10000/\okL un/\ovB 0 its=ovB (szL un) (its.drop j)) ⟨_,[],none,rfl,S1,D1,by rw[cnL];omega,by rw[okL];trivial,by rw[szL,List.drop_zero]⟩ ?_ ?_ ?_
  ·rintro j σ H4 _ ⟨uv,un,y2,rfl,S4,_,_,_,_⟩;exact .inl (.inl (S4 _ _ g))
  ·rintro j x σ H40 H4 hj ⟨uv,un,y2,rfl,S4,Du,hcu,hou,he⟩ ⟨rfl,hx⟩;obtain⟨d,hd,Dx⟩:=t.XZ hx;rw[List.getElem?_map]at hd;cases eo:its[j]? with
   |none=>rw[eo]at hd;cases hd
   |some oy=>
    rw[eo]at hd;obtain rfl:=Option.some.inj hd;have Dx:=Dx.same S4;obtain⟨q1,q2⟩:=yl eo;have hoky:=Wj hok eo;have hcy:cnI oy<=9000:=by
     have:=YF eo;omega
    have hl:=(List.getElem?_eq_some_iff.mp eo).1;rw[List.drop_eq_getElem_cons hl,(List.getElem?_eq_some_iff.mp eo).2]at he;obtain⟨ov,y⟩:=oy;rw[cnI]at hcy;rw[okI]at hoky;rw[ovB]at he;cases ov with
    |true=>
     rw[if_pos rfl]at he;obtain⟨b,x2,rfl,gb,Dy⟩:=X3 Dx;refine⟨_,rfl,b,_,0,_,rfl,rfl,.inl gb,rfl,rfl,false,rfl,QG ?_⟩;refine⟨_,rfl,b,_,1,_,rfl,rfl,.inl gb,rfl,by show 1<=sizeLine;omega,fun p5 hp5=>?_⟩;have S5:=Qk.new (o:=.tup [x2]) hp5;have D5:Deep (upd H4 p5 (.tup [x2])) (.ref p5) (.tup (dvL [(false,y)])):=by rw[dv1];exact .tup Qc (.cons (Dy.same S5) .nil)
     generalize upd H4 p5 (.tup [x2])=H5 at S5 D5;refine⟨_,[(false,y)],rfl,D5,by rw[cn1];omega,ok1 hoky,fun H6 S6=>?_⟩;have S56:=S5.trans S6;refine⟨_,rfl,_,un,rfl,Du.same S56,hcu,hou,fun H7 S7=>?_⟩;have S57:=S56.trans S7;rw[sz1];refine⟨_,_,rfl,rfl,_,rfl,?_⟩;refine ifB (fun h1=>?_) (fun h1=>?_)
     ·have h1:=of_decide_eq_true h1;rw[decide_eq_false (show ¬ y.sz<=szL un by omega),Bool.false_and]at he;rw[he]at k;exact k _ (S4.trans S57)
     ·have h1:=of_decide_eq_false h1;rw[decide_eq_true (show y.sz<=szL un by omega),Bool.true_and]at he;exact⟨_,un,_,rfl,S4.trans S57,Du.same S57,hcu,hou,he⟩
    |false=>
     rw[if_neg (by decide)]at he;rw[dvI,if_neg (by decide)]at Dx;obtain⟨b,ys,rfl,gb⟩:=qk Dx;refine⟨_,rfl,b,_,0,_,rfl,rfl,.inl gb,QL (j:=0) rfl,rfl,true,by rw[ZK];rfl,QH ?_⟩;refine⟨_,rfl,by show 1<=sizeLine;omega,fun p5 hp5=>?_⟩;have S5:=Qk.new (o:=.tup [V.ref b]) hp5;exact⟨_,[(false,y)],_,rfl,S4.trans S5,by rw[dv1];exact .tup Qc (.cons (Dx.same S5) .nil),by rw[cn1];omega,ok1 hoky,by rw[sz1];exact he⟩
  ·rintro σ H4 ⟨uv,un,y2,rfl,S4,_,_,_,he⟩;rw[List.drop_eq_nil_of_le (by omega),ovB]at he;rw[he]at k;exact k _ S4
end
structure LaSt(Hb H:Hp)(q l:Addr)(ls xs:List V)(lz st:List Wx):Prop where
 S:Qk Hb H
 f1:Hb q=none
 f2:Hb l=none
 ne:q≠l
 g1:H q=some (.lst ls)
 g2:H l=some (.lst xs)
 t1:Wss H ls lz
 t2:Wss H xs st
section
variable {Hb H H':Hp}{q l:Addr}{ls xs ys:List V}{lz st dz:List Wx}
theorem LaSt.same(B:LaSt Hb H q l ls xs lz st)(S:Qk H H'):LaSt Hb H' q l ls xs lz st:=⟨B.S.trans S,B.f1,B.f2,B.ne,S _ _ B.g1,S _ _ B.g2,B.t1.same S,B.t2.same S⟩
theorem LaSt.jg(B:LaSt Hb H q l ls xs lz st)(t:Wss H ys dz):LaSt Hb (upd H q (.lst ys)) q l ys xs dz st:=⟨Xy B.S B.f1,B.f1,B.f2,B.ne,Qc,by rw[Qp (Ne.symm B.ne)];exact B.g2,t.Wo B.g1,B.t2.Wo B.g1⟩
theorem LaSt.put2(B:LaSt Hb H q l ls xs lz st)(t:Wss H ys dz):LaSt Hb (upd H l (.lst ys)) q l ls ys lz dz:=⟨Xy B.S B.f2,B.f1,B.f2,B.ne,by rw[Qp B.ne];exact B.g1,Qc,B.t1.Wo B.g2,t.Wo B.g2⟩
end
def Gl(r:Bool)(st lz:List Wx):Prop:=(r=false/\∃x∈st,Bad x)\/∃sL dL:List (List (Bool × Ly)),st=sL.map wR/\lz=dL.map wR/\(∀i∈sL,Rows i)/\(∀i∈dL,cnL i<=9000/\okL i)/\r=(dL.all (ovB 0)&&sL.all ovL)
theorem Gl.no{r:Bool}{st lz:List Wx}{e:Wx}(h:Gl r (st++[e]) lz)(he:Vi e=false):r=false:=by
 rcases h with⟨h,_⟩|⟨sL,dL,e1,e2,h1,h2,h3⟩
 ·exact h
 ·obtain⟨i,hi,rfl⟩:=List.mem_map.mp (show e∈sL.map wR by rw[←e1];exact List.mem_append_right _ List.mem_cons_self);cases h1 i hi with
  |mk h c o t=>rw[h]at he;cases he
theorem Gl.go{r:Bool}{st lz:List Wx}{e:Wx}(h:Gl r (st++[e]) lz)(he:Vi e=true):Gl r (st++inr e) (lz++[e]):=by
 rcases h with⟨h,x,hx,hb⟩|⟨sL,dL,e1,e2,h1,h2,h3⟩
 ·refine .inl ⟨h,?_⟩;rcases List.mem_append.mp hx with hx|hx
  ·exact⟨x,List.mem_append_left _ hx,hb⟩
  ·obtain rfl:=List.mem_singleton.mp hx;cases hb with
   |row h=>rw[h]at he;cases he
   |@inn _ y h b=>exact⟨y,List.mem_append_right _ h,b⟩
 ·rcases List.eq_nil_or_concat sL with rfl|⟨s0,i,rfl⟩
  ·have:=congrArg List.length e1;rw[List.length_append]at this;simp at this
  ·rw[List.concat_eq_append]at e1 h1 h3;rw[List.map_append]at e1;have l0:st.length=(s0.map wR).length:=by
    have:=congrArg List.length e1;rw[List.length_append,List.length_append]at this;simpa using this
   obtain⟨ea,eb⟩:=List.append_inj e1 l0;obtain rfl:e=wR i:=by simpa using eb
   refine .inr ⟨s0++inn i,dL++[i],by rw[ea,List.map_append,kG],by rw[e2,List.map_append];rfl,?_,?_,?_⟩
   ·intro j hj;rcases List.mem_append.mp hj with hj|hj
    ·exact h1 j (List.mem_append_left _ hj)
    ·cases h1 i (List.mem_append_right _ List.mem_cons_self)with
     |mk h c o t=>exact t j hj
   ·intro j hj;rcases List.mem_append.mp hj with hj|hj
    ·exact h2 j hj
    ·obtain rfl:=List.mem_singleton.mp hj;cases h1 j (List.mem_append_right _ List.mem_cons_self)with
     |mk h c o t=>exact⟨by omega,o⟩
   ·rw[h3,List.all_append,List.all_append,List.all_append];simp only[List.all_cons,List.all_nil,Bool.and_true];rw[ovL,YV];cases dL.all (ovB 0)<;>cases s0.all ovL<;>cases ovB 0 i<;>rfl
theorem Gl.nil{r:Bool}{lz:List Wx}(h:Gl r [] lz):∃dL:List (List (Bool × Ly)),lz=dL.map wR/\(∀i∈dL,cnL i<=9000/\okL i)/\r=dL.all (ovB 0):=by
 rcases h with⟨h,x,hx,hb⟩|⟨sL,dL,e1,e2,h1,h2,h3⟩
 ·cases hx
 ·cases sL with
  |nil=>exact⟨dL,e2,h2,by simpa using h3⟩
  |cons s sL=>cases e1
section
variable {P:Program}{w:World}{K:PySem.W.Frag}{mg:Str->Option Value}{base:Heap}{f:Addr}{fd:FuncData}{tk:Nat->Tok}{c kr:Nat->Addr}
theorem ta1{te:TE}{σ:L2.St}{H:Hp}{R:List V->Hp->Prop}(h:te σ H fun v H1=>R [v] H1):QX te Wq σ H R:=h
def Qci(d:Wx)(r:Bool):Prop:=(r=false/\Bad d)\/∃its,d=wR its/\Rows its/\r=ovL its
theorem Qci.gl{d:Wx}{r:Bool}(h:Qci d r):Gl r [d] []:=by
 rcases h with⟨h1,h2⟩|⟨its,rfl,h1,h2⟩
 ·exact .inl ⟨h1,d,List.mem_cons_self,h2⟩
 ·exact .inr ⟨[its],[],rfl,rfl,(fun i hi=>by rw[List.mem_singleton.mp hi];exact h1),(fun i hi=>nomatch hi),by rw[h2];simp⟩
theorem kH{H:Hp}{u:V}{d:Wx}(hid:Jg d=true)(D:Ws H u (Vh d)):∃b w0 x1 x2 ys,u=.ref b/\H b=some (.tup (.str w0::x1::x2::ys))/\Jv d= !(eqS w0 "box")/\(Jv d=true->∃z,atI (.str w0::x1::x2::ys) (-1)=some z/\Ws H z (inB d)):=by
 obtain⟨w0,z,c,r,e,_,hb⟩:=Vj (Kx hid).1;rw[e]at D;obtain⟨b,ys,rfl,gb,tb⟩:=D.X0;have en:Jv d= !(eqS w0 "box"):=by rw[Jv,e];rfl
 cases tb with
 |@cons y1 _ ys _ h1 tb=>
  cases tb with
  |@cons y2 _ ys _ h2 tb=>
   cases tb with
   |@cons y3 _ ys _ h3 tb=>
    obtain rfl:=h1.YX;refine⟨b,w0,y2,y3,ys,rfl,gb,en,fun hn=>?_⟩;rw[en]at hn;have hn:eqS w0 "box"=false:=by cases h:eqS w0 "box" with
     |true=>rw[h]at hn;cases hn
     |false=>rfl
    rw[inB,e];cases ht:eqS w0 "table" with
    |true=>
     rw[if_pos ht,Bool.and_eq_true]at hb;have hl:=of_decide_eq_true hb.1;cases r with
     |nil=>cases hl
     |cons r0 r=>
      cases r with
      |nil=>
       cases tb with
       |cons h4 tb=>
        cases tb;exact⟨_,rfl,h4⟩
      |cons r1 r=>simp at hl
    |false=>
     rw[if_neg (by rw[ht];decide),if_neg (by rw[hn];decide),Bool.and_eq_true]at hb;have hl:=of_decide_eq_true hb.1;cases r with
     |nil=>
      cases tb;exact⟨_,rfl,h3⟩
     |cons r1 r=>cases hl
def qC:Sp:=fun vs H Q _=>∃(v:V)(d:Wx)(r:Bool),vs=[v]/\Ws H v d/\Args d/\szW d<=9000/\Qci d r/\∀H',Qk H H'->Q (.bl r) H'
set_option maxHeartbeats 2000000 in
theorem UF(F:Fun K "is_layout" "is_layout" XW f fd)(O:Own mg)(OA:mg "all"=none)(D_is_row_of_items:Def P w K mg base 9 "is_row_of_items" ["thing"] QaD)(D_bare:Def P w K mg base 1 "bare" ["item"] YU)(D_overs_have_room:Def P w K mg base 9 "overs_have_room" ["items"] qB):FnOk P w K mg base (CXE P w) 10 f fd ["thing"] qC:=by
 refine WQ F Zz (fun vs H Q E h=>?_) (fun cdv A outer s H vs Q E hr h=>?_)
 ·obtain⟨v,d,r,rfl,_⟩:=h;rfl
 ·obtain⟨v,d,r,rfl,D,hA,hsz,hL,k⟩:=h;have hz:100000<=sizeLine:=by rw[sizeLine_eq];decide
  refine⟨_,(Qr (QR (i:=1) Zz.nd rfl (Or.inl rfl) (XR QN) rfl rfl)
   (Qr (QR (i:=2) Zz.nd rfl (Or.inl rfl) (XR (QV (PEx.mk (pv 0)) QN rfl)) rfl rfl)
   (Qr (PSy.mk (Xo PassesOwn.never (JT (pv 2) (fun _=>rfl)) (Qe (QC (i:=3) Zz.nd rfl (Or.inl rfl) (qM PySem.F.plainAttrs_list PySem.F.slot_list_pop PySem.F.type_list_pop qN (pv 2)))
   (Qe (QY (ZX (Zj (D_is_row_of_items.pe hr (by decide) rfl Qx (Qw (pv 3) Qb)))) (Qg (QA Zs)) QD)
   (Qe (Zm (ZN PySem.F.plainAttrs_list PySem.F.slot_list_append PySem.F.type_list_append JV (pv 1) (Qw (pv 3) Qb)))
   (Qg (Zm (ZN PySem.F.plainAttrs_list PySem.F.slot_list_extend PySem.F.type_list_extend WM (pv 2) (Qw (JU (NB:=[".0","item"]) rfl ⟨rfl,by decide+kernel,by decide+kernel,by decide+kernel⟩ (Z3 (pv 3)) (fun _ _ _=>(Qh (i:=1) (show([".0","item"]:List Str).Nodup by decide+kernel) rfl (Or.inl rfl))) (fun _ _ _=>(V5 (Qi XA (Qv Qq (D_bare.pe hr (by decide) rfl Qx (Qw (pv 1) Qb)) Qd (fun _ _=>rfl)) Qm (Qo _)))) (fun _ _ _=>(Qv Qq (D_bare.pe hr (by decide) rfl Qx (Qw (pv 1) Qb)) (YZ Wc Qd) (fun _ _=>rfl)))) Qb)))))))))
   (Qt (QE (PEx.mk (Ql (jf rfl) rfl OA PyProof.Rows.boot_all (Qw (JU (NB:=[".0","items"]) rfl ⟨rfl,by decide+kernel,by decide+kernel,by decide+kernel⟩ (JG (pv 1)) (fun _ _ _=>(Qh (i:=1) (show([".0","items"]:List Str).Nodup by decide+kernel) rfl (Or.inl rfl))) (fun _ _ _=>J3) (fun _ _ _=>(D_overs_have_room.pe hr (by decide) rfl Qx (Qw (pv 1) Qb)))) Qb)))))))),?_⟩
  dsimp only[QJ,JS,ZI,QQ];refine⟨Nat.zero_le _,fun ly hly=>⟨_,rfl,by show 1<=sizeLine;omega,fun lf hlf=>?_⟩⟩;have B1:LaSt H (upd (upd H ly (.lst [])) lf (.lst [v])) ly lf [] [v] [] [d]:=by
   have S1:=Qk.new (o:=.lst []) hly;have S2:=Qk.new (o:=.lst [v]) hlf;have hf2:H lf=none:=by
    cases e:H lf with
    |none=>rfl
    |some o=>rw[S1 _ _ e]at hlf;cases hlf
   have hne:ly≠lf:=fun z=>by rw[←z,Qc]at hlf;cases hlf
   exact⟨S1.trans S2,hly,hf2,hne,S2 _ _ Qc,Qc,.nil,.cons (D.same (S1.trans S2)) .nil⟩
  generalize upd (upd H ly (.lst [])) lf (.lst [v])=H1 at B1;clear hlf hly;refine⟨fun m σ H2=>∃(ls xs:List V)(lz st:List Wx)(y3:Option V),σ=[some v,some (.ref ly),some (.ref lf),y3]/\LaSt H H2 ly lf ls xs lz st/\Xm st<=m/\ls.length+m<=20000/\(∀x∈st,Args x)/\Gl r st lz,⟨20000,_,_,_,_,none,rfl,B1,by rw[Xm,Xm];omega,Nat.le_refl _,fun x hx=>by rw[List.mem_singleton.mp hx];exact hA,hL.gl⟩,?_⟩;clear B1 hA hL;rintro m σ H2 ⟨ls,xs,lz,st,y3,rfl,B,hs,hm,hAs,hG⟩;have lxs:=B.t2.length;have lls:=B.t1.length;have lst:=Kz st;rcases List.eq_nil_or_concat st with rfl|⟨st0,e,rfl⟩
  ·have e:xs=[]:=List.eq_nil_of_length_eq_zero (by simpa using lxs);subst e;refine⟨_,rfl,false,.inl ⟨_,.inl (.inl B.g2),rfl⟩,QG ?_⟩;obtain⟨dL,rfl,hdL,hr2⟩:=hG.nil;dsimp only[QJ,JS,ZI,QQ,yt];refine cb1 ?_;rw[List.length_map]at lls;refine Xu (yh (K:=K) (a:=ly) (xs:=ls)) (fun i vs H1=>Qk H2 H1/\vs=((dL.take i).map (ovB 0)).map V.bl) (fun R h=>⟨_,rfl,ly,rfl,⟨_,.inl (.inl B.g1)⟩,h _ ⟨Qk.refl _,rfl⟩⟩) ?_ ?_ ?_ (by omega)
   ·rintro i vs H3 hi ⟨S,rfl⟩;refine⟨.inl (.inl (S _ _ B.g1)),?_⟩;rw[List.length_map,List.length_map,List.length_take];omega
   ·rintro i v vs H3 H4 hi ⟨S,rfl⟩ ⟨rfl,hv⟩;obtain⟨d,hd,Dd⟩:=B.t1.XZ hv;rw[List.getElem?_map]at hd;cases ei:dL[i]? with
    |none=>rw[ei]at hd;cases hd
    |some i0=>
     rw[ei]at hd;obtain rfl:=Option.some.inj hd;obtain⟨h1,h2⟩:=hdL i0 (List.mem_of_getElem? ei);rw[kE]at Dd;refine⟨_,rfl,v,i0,rfl,(Ws.deep Dd).same S,h1,h2,fun H5 S5=>⟨S.trans S5,?_⟩⟩;rw[List.take_add_one,ei];simp
   rintro vs H3 ⟨S1,rfl⟩ p hp;rw[List.take_of_length_le (by omega)];refine⟨p,_,rfl,.inl (.inl Qc),?_⟩;have ea:(dL.map (ovB 0)).all id=r:=by rw[List.all_map,hr2];rfl
   rw[ea];exact k _ ((B.S.trans S1).trans (Qk.new hp))
  rw[List.concat_eq_append]at B hs lxs lst hAs hG;obtain⟨xs0,xl,rfl,t1,Dl⟩:∃xs0 xl,xs=xs0++[xl]/\Wss H2 xs0 st0/\Ws H2 xl e:=by
   rcases List.eq_nil_or_concat xs with rfl|⟨xs0,xl,rfl⟩
   ·simp at lxs
   ·rw[List.concat_eq_append]at B ⊢;have l0:xs0.length=st0.length:=by
     have:=B.t2.length;rw[List.length_append,List.length_append]at this;simpa using this
    have ht:=B.t2.take xs0.length;have hd:=B.t2.drop xs0.length;rw[List.take_left' rfl,l0,List.take_left' rfl]at ht;rw[List.drop_left' rfl,l0,List.drop_left' rfl]at hd;cases hd with
    |cons h t=>exact⟨xs0,xl,rfl,ht,h⟩
  have hAe:Args e:=hAs _ (List.mem_append_right _ List.mem_cons_self);have hA0:∀x∈st0,Args x:=fun x hx=>hAs _ (List.mem_append_left _ hx);rw[WD,Xm,Xm]at hs;refine⟨_,rfl,true,.inl ⟨_,.inl (.inl B.g2),by simp⟩,QH ?_⟩;refine⟨fun σ' H'=>∃m',m'<m/\∃(ls xs:List V)(lz st:List Wx)(y3:Option V),σ'=[some v,some (.ref ly),some (.ref lf),y3]/\LaSt H H' ly lf ls xs lz st/\Xm st<=m'/\ls.length+m'<=20000/\(∀x∈st,Args x)/\Gl r st lz,fun _ _ h=>h,?_⟩;refine⟨_,rfl,.inl ⟨rfl,_,.inl (.inl B.g2)⟩,?_⟩;refine⟨lf,_,xl,rfl,rfl,B.g2,by simp,?_⟩;have B3:LaSt H (upd H2 lf (.lst (xs0++[xl]).dropLast)) ly lf ls xs0 lz st0:=by
   rw[List.dropLast_concat];exact B.put2 t1
  have Dl3:=Dl.Wo (ys:=(xs0++[xl]).dropLast) B.g2;generalize upd H2 lf (.lst (xs0++[xl]).dropLast)=H3 at B3 Dl3;clear B Dl t1 lxs;dsimp only[QJ,JS,ZI,QQ];refine⟨_,rfl,xl,e,rfl,Dl3,hAe.here,fun H4 S4=>⟨_,rfl,?_⟩⟩;have B4:=B3.same S4;have D4:=Dl3.same S4;cases he:Vi e with
  |false=>
   have:=hG.no he;subst this;exact QH (k _ B4.S)
  |true=>
   have hG2:=hG.go he;have hAi:=hAe.inr he;have hpos:=K4 e;have hin:=QaH e;refine QG ?_;refine⟨_,rfl,.inl ⟨rfl,_,.inl (.inl B4.g1)⟩,⟨_,rfl,ly,ls,xl,rfl,rfl,B4.g1,by omega,?_⟩⟩;have B5:=B4.jg (ys:=ls++[xl]) (dz:=lz++[e]) (B4.t1.append (.cons D4 .nil));have D5:=D4.Wo (ys:=ls++[xl]) B4.g1;generalize upd H4 ly (.lst (ls++[xl]))=H5 at B5 D5;refine⟨_,rfl,.inl ⟨rfl,_,.inl (.inl B5.g2)⟩,?_⟩;cases D5 with
   |non=>cases he
   |bl=>cases he
   |int=>cases he
   |str=>cases he
   |lst g=>cases he
   |@tup ea ex es g t=>
    have hit:∀x∈es,Jg x=true:=by
     cases es with
     |nil=>cases he
     |cons d0 ds=>
      have he:((d0::ds).all Jg&&unlike ((d0::ds).map nmB))=true:=he;rw[Bool.and_eq_true]at he;exact fun x hx=>List.all_eq_true.mp he.1 x hx
    have lex:=t.length;have les:=Kz es;have hse:szW (.tup es)=1+Xm es:=by rw[szW]
    refine ta1 ?_;refine Xu (xX (K:=K) (a:=ea) (xs:=ex)) (fun i vs H1=>Qk H5 H1/\Wss H1 vs (((es.take i).filter Jv).map inB)) (fun R h=>⟨_,rfl,ea,rfl,⟨_,.inl (.inl g)⟩,h _ ⟨Qk.refl _,.nil⟩⟩) ?_ ?_ ?_ (by omega)
    ·rintro i vs H6 hi ⟨S,tt⟩;refine⟨.inl (.inl (S _ _ g)),?_⟩;have:=tt.length;rw[List.length_map]at this;have:=List.length_filter_le Jv (es.take i);rw[List.length_take]at this;omega
    ·rintro i x vs H6 H7 hi ⟨S,tt⟩ ⟨rfl,hv⟩;obtain⟨d,hd,Dd⟩:=t.XZ hv;have hid:=hit d (List.mem_of_getElem? hd);have Dd:=Dd.same S;refine⟨_,rfl,x,d,rfl,Dd,hid,fun u Du=>?_⟩;obtain⟨b,w0,x1,x2,ys,rfl,gb,en,hlast⟩:=kH hid Du;refine⟨b,_,0,_,rfl,rfl,.inl gb,QL (j:=0) rfl,rfl,Jv d,congrArg V.bl en.symm,?_⟩;rw[List.take_add_one,hd];cases hn:Jv d with
     |true=>
      refine QH ⟨_,rfl,x,d,rfl,Dd,hid,fun u2 Du2=>?_⟩;obtain⟨b2,w2,x21,x22,ys2,rfl,gb2,_,hlast2⟩:=kH hid Du2;obtain⟨z,hz1,hz2⟩:=hlast2 hn;refine⟨_,rfl,b2,_,_,_,rfl,rfl,.inl gb2,hz1,S,?_⟩;have ef:(es.take i++(some d).toList).filter Jv=(es.take i).filter Jv++[d]:=by rw[List.filter_append];simp[hn]
      rw[ef,List.map_append];exact tt.append (.cons hz2 .nil)
     |false=>
      refine QG ⟨S,?_⟩;have ef:(es.take i++(some d).toList).filter Jv=(es.take i).filter Jv:=by rw[List.filter_append];simp[hn]
      rw[ef];exact tt
    rintro vs H6 ⟨S6,t6⟩ q1 hq1;rw[List.take_of_length_le (by omega)]at t6;have S7:=Qk.new (o:=.lst vs) hq1;have B7:=(B5.same S6).same S7;have t7:=t6.same S7;have g7:upd H6 q1 (.lst vs) q1=some (.lst vs):=Qc;generalize upd H6 q1 (.lst vs)=H7 at B7 t7 g7;have lvs:=t7.length;have hinr:inr (.tup es)=(es.filter Jv).map inB:=rfl;rw[←hinr]at t7 lvs;have l2:=Kz (inr (.tup es));have lx0:=B7.t2.length;have ls0:=Kz st0;refine⟨lf,q1,xs0,vs,rfl,rfl,B7.g2,g7,by omega,?_⟩;refine⟨m-1,by omega,ls++[.ref ea],xs0++vs,_,_,_,rfl,B7.put2 (B7.t2.append t7),?_,?_,?_,hG2⟩
    ·rw[WD];omega
    ·rw[List.length_append];show ls.length+1+(m-1)<=20000;omega
    ·intro x hx;rcases List.mem_append.mp hx with hx|hx
     ·exact hA0 x hx
     ·exact hAi x hx
end
def okN(y:Ly):Prop:=nmS y.name=true/\∀nm k its,y=.tab nm k its->1<=k/\k<=30
theorem jt(p:Nat):(Uy p).cps.toList.length<=500/\(ZP (Uy p).cps.toList).isSome=true:=by
 obtain⟨a,l,x,e,h,_⟩:=YE p;rw[e];have e2:(tx l).cps.toList=l:=rfl;rw[e2];exact⟨h.ll,by rw[h.pc];rfl⟩
theorem Qdp:eqS "box" "table"=false:=QbN
theorem Qdq:eqS "group" "table"=false:=QaY
theorem Qdr:eqS "group" "box"=false:=vo
theorem Qd0:eqS "table" "box"=false:=vq
theorem Qd1:eqS "box" "box"=true:=by decide+kernel
theorem Qd2:eqS "group" "group"=true:=by decide+kernel
theorem Qd3:eqS "table" "table"=true:=by decide+kernel
theorem Qd4{y:Ly}(h:okN y):J8 y.w=true:=by
 obtain⟨h1,h2⟩:=h;cases y with
 |box nm p=>
  show(nmS nm&&(if eqS "box" "table"=true then _ else if eqS "box" "box"=true then decide ((0:Nat)=0)&&(ZP (Uy p).cps.toList).isSome else _))=true;rw[if_neg (by rw[Qdp];decide),if_pos Qd1,(jt p).2,show nmS nm=true from h1];rfl
 |grp nm its=>
  show(nmS nm&&(if eqS "group" "table"=true then _ else if eqS "group" "box"=true then _ else decide ((0:Nat)=0)&&eqS "group" "group"))=true;rw[if_neg (by rw[Qdq];decide),if_neg (by rw[Qdr];decide),Qd2,show nmS nm=true from h1];rfl
 |tab nm k its=>
  obtain⟨h3,h4⟩:=h2 nm k its rfl;show(nmS nm&&(if eqS "table" "table"=true then decide ((1:Nat)=1)&&(decide ((1:Int)<=(k:Nat))&&decide (((k:Nat):Int)<=30))else _))=true;rw[if_pos Qd3,decide_eq_true (show(1:Int)<=(k:Nat) by omega),decide_eq_true (show((k:Nat):Int)<=30 by omega),show nmS nm=true from h1];rfl
theorem QbV(y:Ly):kq y.w:=by
 cases y with
 |box nm p=>exact⟨fun _=>⟨_,rfl,(jt p).1⟩,fun z=>absurd (show eqS "box" "table"=true from z) (by rw[Qdp];decide)⟩
 |grp nm its=>exact⟨fun z=>absurd (show eqS "group" "box"=true from z) (by rw[Qdr];decide),fun z=>absurd (show eqS "group" "table"=true from z) (by rw[Qdq];decide)⟩
 |tab nm k its=>exact⟨fun z=>absurd (show eqS "table" "box"=true from z) (by rw[Qd0];decide),fun _=>.inl ⟨_,rfl⟩⟩
theorem QaI{z:Str}(h:nmS z=true):z.length<=12:=by
 unfold nmS at h;rw[Bool.and_eq_true,Bool.and_eq_true]at h;exact of_decide_eq_true h.1.2
theorem Qds{y:Ly}(h:nmS y.name=true):Wp y.w:=by
 have:=QaI h;cases y with
 |box nm p=>show nm.length<=1000;exact Nat.le_trans this (by decide)
 |grp nm its=>show nm.length<=1000;exact Nat.le_trans this (by decide)
 |tab nm k its=>show nm.length<=1000;exact Nat.le_trans this (by decide)
theorem Qc6{x:Bool × Ly}(h:okN x.2):Jg (wI x)=true/\QaZ (wI x)/\NmI (wI x):=by
 obtain⟨o,y⟩:=x;have h1:=Qd4 h;have h2:=QbV y;have h3:=Qds h.1;rw[QaF];cases o with
 |true=>
  rw[if_pos rfl];refine⟨?_,?_,?_⟩
  ·show(if eqS "over" "over"=true then J8 y.w else J8 (.tup [.str "over",y.w]))=true;rw[if_pos VQ];exact h1
  ·show if eqS "over" "over"=true then kq y.w else kq (.tup [.str "over",y.w]);rw[if_pos VQ];exact h2
  ·show if eqS "over" "over"=true then Wp y.w else Wp (.tup [.str "over",y.w]);rw[if_pos VQ];exact h3
 |false=>
  rw[if_neg (show ¬ ((false,y):Bool × Ly).1=true from Bool.false_ne_true)];have h1:J8 y.w=true:=h1;obtain⟨r,e⟩:=y.Qch;show Jg y.w=true/\QaZ y.w/\NmI y.w;rw[e]at h1 h2 h3 ⊢;refine⟨?_,?_,?_⟩
  ·show(if eqS y.word "over"=true then _ else _)=true;rw[if_neg (by rw[Xz];decide)];exact h1
  ·show if eqS y.word "over"=true then _ else _;rw[if_neg (by rw[Xz];decide)];exact h2
  ·show if eqS y.word "over"=true then _ else _;rw[if_neg (by rw[Xz];decide)];exact h3
theorem QbW(x:Bool × Ly):nmB (wI x)=x.2.name:=by
 rw[nmB,WC];cases x.2<;>rfl
theorem QbX{its:List (Bool × Ly)}(hne:its≠[])(h:∀x∈its,okN x.2) (hu:unlike (its.map fun x=>x.2.name)=true):Vi (wR its)=true:=by
 cases its with
 |nil=>exact absurd rfl hne
 |cons x xs=>
  show(((x::xs).map wI).all Jg&&unlike (((x::xs).map wI).map nmB))=true;rw[List.map_map,Bool.and_eq_true];refine⟨List.all_eq_true.mpr fun d hd=>?_,?_⟩
  ·obtain⟨y,hy,rfl⟩:=List.mem_map.mp hd;exact(Qc6 (h y hy)).1
  ·rw[show(nmB∘wI)=fun x:Bool × Ly=>x.2.name from funext fun x=>QbW x];exact hu
theorem kI{d0:Wx}{ds:List Wx}(h:Vi (.tup (d0::ds))=true):∀x∈d0::ds,Jg x=true:=by
 have h:((d0::ds).all Jg&&unlike ((d0::ds).map nmB))=true:=h;rw[Bool.and_eq_true]at h;exact fun x hx=>List.all_eq_true.mp h.1 x hx
theorem qD{ds:List Wx}(h:Vi (.tup ds)=true):∀x∈ds,Jg x=true:=by
 cases ds with
 |nil=>exact fun x hx=>nomatch hx
 |cons d0 ds=>exact kI h
theorem kJ{x:Bool × Ly}(h:Jg (wI x)=true):nmS x.2.name=true:=by
 obtain⟨hb,_⟩:=Kx h;rw[WC]at hb;obtain⟨w0,z,c,r,e,h1,_⟩:=Vj hb;obtain⟨r',e'⟩:=x.2.Qch;rw[e']at e;injection e with e;injection e with _ e;injection e with e _;injection e with e;rw[e];exact h1
theorem QaJ{x:Bool × Ly}(h:nmS x.2.name=true):QaZ (wI x)/\NmI (wI x):=by
 obtain⟨o,y⟩:=x;have h2:=QbV y;have h3:=Qds h;rw[QaF];cases o with
 |true=>
  rw[if_pos rfl];refine⟨?_,?_⟩
  ·show if eqS "over" "over"=true then kq y.w else kq (.tup [.str "over",y.w]);rw[if_pos VQ];exact h2
  ·show if eqS "over" "over"=true then Wp y.w else Wp (.tup [.str "over",y.w]);rw[if_pos VQ];exact h3
 |false=>
  rw[if_neg (show ¬ ((false,y):Bool × Ly).1=true from Bool.false_ne_true)];obtain⟨r,e⟩:=y.Qch;show QaZ y.w/\NmI y.w;have h3:Wp y.w:=h3;rw[e]at h2 h3 ⊢;refine⟨?_,?_⟩
  ·show if eqS y.word "over"=true then _ else _;rw[if_neg (by rw[Xz];decide)];exact h2
  ·show if eqS y.word "over"=true then _ else _;rw[if_neg (by rw[Xz];decide)];exact h3
theorem Rows.args{its:List (Bool × Ly)}(h:Rows its):Args (wR its):=by
 induction h with
 |mk h c o t ih=>
  rename_i its;refine .mk ⟨?_,fun d hd=>?_⟩ fun _ x hx=>?_
  ·have:=Uz its;rw[List.length_map];omega
  ·have hi:=qD h d hd;obtain⟨x,hx,rfl⟩:=List.mem_map.mp hd;exact QaJ (kJ hi)
  ·rw[kG]at hx;obtain⟨i,hi,rfl⟩:=List.mem_map.mp hx;exact ih i hi
mutual
theorem Qc7:∀y:Ly,szW (toW y.dv)+2<=7*y.cn
 | .box nm p=>by
  rw[Ly.dv,Ly.cn,toW,Zr,Zr,Zr,Zr,toW,toW,toW];simp only[szW,Xm];omega
 | .grp nm its=>by
  have:=vL its;rw[Ly.dv,Ly.cn,toW,Zr,Zr,Zr,Zr,toW,toW,toW];simp only[szW,Xm];omega
 | .tab nm k its=>by
  have:=vL its;rw[Ly.dv,Ly.cn,toW,Zr,Zr,Zr,Zr,Zr,toW,toW,toW,toW];simp only[szW,Xm];omega
theorem vL:∀its:List (Bool × Ly),Xm (Zr (dvL its))<=7*cnL its
 |[]=>by rw[dvL,Zr,Xm];exact Nat.zero_le _
 |x::xs=>by
  have h1:=Qc8 x;have h2:=vL xs;rw[dvL,Zr,Xm,cnL];omega
theorem Qc8:∀x:Bool × Ly,szW (toW (dvI x))<=7*cnI x
 |(o,y)=>by
  have h:=Qc7 y;have hp:=y.yk;rw[dvI,cnI];cases o with
  |true=>
   rw[if_pos rfl,toW,Zr,Zr,Zr,toW];simp only[szW,Xm];omega
  |false=>
   rw[if_neg (by decide)];omega
end
theorem QbY(its:List (Bool × Ly)):szW (wR its)<=1+7*cnL its:=by
 have:=vL its;rw[kE,toW,szW];omega
theorem QaK:∀j:Nat,j<4->nmS (VP j)=true:=by decide+kernel
theorem ju{i j:Nat}(h:VP i=VP j):i=j:=by
 have:=congrArg (fun s:Str=>s.cps.toList) h;simp[VP]at this;omega
theorem jv{its:List (Bool × Ly)}(hp:PB its){i:Nat}(hi:i<its.length):(its.map fun x=>x.2.name).getD i ("":Str)=VP i:=by
 rw[List.getD_eq_getElem?_getD,List.getElem?_map,List.getElem?_eq_getElem hi];exact hp.nm i _ (List.getElem?_eq_getElem hi)
theorem PB.un{its:List (Bool × Ly)}(hp:PB its):unlike (its.map fun x=>x.2.name)=true:=Xx.mpr fun i j hij hj=>by
 rw[List.length_map]at hj;rw[jv hp (by omega),jv hp hj];exact fun z=>absurd (ju z) (by omega)
theorem PB.QaL{its:List (Bool × Ly)}(hp:PB its){x:Bool × Ly}(hx:x∈its):∃j,j<4/\x.2.name=VP j:=by
 obtain⟨j,hj,rfl⟩:=List.mem_iff_getElem.mp hx;have:=hp.len;exact⟨j,by omega,hp.nm j _ (List.getElem?_eq_getElem hj)⟩
theorem vM{d:Nat}{its:List (Bool × Ly)}(h:Good d its):∀x∈its,okN x.2:=by
 obtain⟨_,hp,hx⟩:=(ZW d its).mp h;intro x hm;obtain⟨j,hj,e⟩:=hp.QaL hm;refine⟨by rw[e];exact QaK j hj,fun nm k i ey=>?_⟩;have hy:=hx x hm;rw[ey]at hy;cases d with
 |zero=>obtain⟨_,_,e2,_⟩:=hy;cases e2
 |succ d=>
  rcases hy with⟨_,_,e2,_⟩|⟨_,_,e2,_⟩|⟨_,_,_,e2,h1,h2,_⟩
  ·cases e2
  ·cases e2
  ·cases e2;exact⟨h1,by omega⟩
def uOf(its:List (Bool × Ly)):Nat->Nat
 |0=>0
 |j+1=>(its.getD (under its j) dfI).2.sz
theorem PB.ovb{its:List (Bool × Ly)}(hp:PB its):∀(n j:Nat),n=its.length-j->j<=its.length->ovB (uOf its j) (its.drop j)=true
 |0,j,e,hj=>by rw[List.drop_eq_nil_of_le (by omega),ovB]
 |n+1,j,e,hj=>by
  have hl:j<its.length:=by omega
  have ih:=PB.ovb hp n (j+1) (by omega) (by omega);rw[List.drop_eq_getElem_cons hl];have ej:its[j]? =some its[j]:=List.getElem?_eq_getElem hl;have eg:its.getD j dfI=its[j]:=by rw[List.getD_eq_getElem?_getD,ej];rfl
  revert ej eg
  generalize its[j]=x;obtain⟨o,y⟩:=x;intro ej eg;rw[ovB];cases o with
  |true=>
   cases j with
   |zero=>exact absurd (show true=false from hp.first _ ej) (by decide)
   |succ j=>
    have hov:=hp.ov _ _ ej;have eu:under its (j+1)=under its j:=by rw[under,eg,if_pos rfl]
    rw[uOf,eu]at ih;rw[eu]at hov;rw[if_pos rfl,uOf,decide_eq_true hov,Bool.true_and];exact ih
  |false=>
   have eu:under its j=j:=by rw[Zg,eg];rfl
   rw[uOf,eu,eg]at ih;rw[if_neg (by decide)];exact ih
theorem PB.ov0{its:List (Bool × Ly)}(hp:PB its):ovB 0 its=true:=by
 have:=hp.ovb its.length 0 (by omega) (Nat.zero_le _);rw[List.drop_zero]at this;exact this
theorem QaM{its i:List (Bool × Ly)}(hi:i∈inn its):∃x∈its,QbT x.2=some i:=by
 obtain⟨x,hx,e⟩:=List.mem_filterMap.mp hi;exact⟨x,hx,e⟩
theorem vN{d:Nat}{its i:List (Bool × Ly)}(h:Good d its)(hi:i∈inn its):∃e,d=e+1/\Good e i:=by
 obtain⟨_,hp,hx⟩:=(ZW d its).mp h;obtain⟨x,hm,e⟩:=QaM hi;have hy:=hx x hm;cases d with
 |zero=>obtain⟨_,_,e2,_⟩:=hy;rw[e2]at e;cases e
 |succ d=>
  rcases hy with⟨_,_,e2,_⟩|⟨_,_,e2,hg⟩|⟨_,_,_,e2,h1,h2,hg⟩
  ·rw[e2]at e;cases e
  ·rw[e2]at e;obtain rfl:=Option.some.inj e;exact⟨d,rfl,hg⟩
  ·rw[e2]at e;obtain rfl:=Option.some.inj e;exact⟨d,rfl,hg⟩
theorem UG:∀(d:Nat)(its:List (Bool × Ly)),d<=2->Good d its->Rows its/\ovL its=true
 |d,its,hd,h=>by
  have hb:=X5 d its h;have hcn:cnL its<=84:=by
   refine Nat.le_trans hb.cn ?_;obtain rfl|rfl|rfl:d=0\/d=1\/d=2:=by omega
   all_goals decide
  obtain⟨hne,hp,hx⟩:=(ZW d its).mp h;have key:∀i∈inn its,Rows i/\ovL i=true:=fun i hi=>by
   obtain⟨e,rfl,hg⟩:=vN h hi;exact UG e i (by omega) hg
  refine⟨.mk (QbX hne (vM h) hp.un) (by omega) hb.ok fun i hi=>(key i hi).1,?_⟩;rw[ovL,hp.ov0,YV,Bool.true_and];exact List.all_eq_true.mpr fun i hi=>(key i hi).2
termination_by d=>d
theorem vO{its:List (Bool × Ly)}(h:Good 2 its):Args (wR its)/\szW (wR its)<=9000/\Qci (wR its) true:=by
 obtain⟨h1,h2⟩:=UG 2 its (Nat.le_refl _) h;have hb:=X5 2 its h;have hcn:cnL its<=84:=hb.cn;have:=QbY its;exact⟨h1.args,by omega,.inr ⟨its,rfl,h1,h2.symm⟩⟩
abbrev Wa:=List Step × Nat × Ly
def waD(x:Wa):Dv:=.tup [Jt x.1,.int (x.2.1:Nat),.int (Zq x.2.2:Nat),qt x.2.2]
def jw(st:Step)(x:Wa):Wa:=(st::x.1,x.2)
mutual
def Ly.wa:Ly->Nat->List Wa
 | .box nm p,h=>[([(nm,none)],h,.box nm p)]
 | .grp nm its,h=>([(nm,none)],h,.grp nm its)::(waL its h h).map (jw (nm,none))
 | .tab nm k its,h=>(List.range k).flatMap fun(i:Nat)=>([(nm,some (i:Int))],h+i*szL its,.tab nm k its)::(waL its (h+i*szL its) (h+i*szL its)).map (jw (nm,some (i:Int)))
def waL:List (Bool × Ly)->Nat->Nat->List Wa
 |[],_,_=>[]
 |x::xs,u,b=>waI x u b++waL xs (if x.1=true then u else b) (b+szI x)
def waI:Bool × Ly->Nat->Nat->List Wa
 |(o,y),u,b=>y.wa (if o=true then u else b)
end
def hdY:Ly->Nat->List Wa
 | .box nm p,h=>[([(nm,none)],h,.box nm p)]
 |_,_=>[]
def stY:Ly->Nat->List (Step × Nat)
 | .box _ _,_=>[]
 | .grp nm _,h=>[((nm,none),h)]
 | .tab nm k its,h=>(List.range k).map fun(i:Nat)=>((nm,some (i:Int)),h+i*szL its)
def UL(y:Ly)(x:Step × Nat):List Wa:=([x.1],x.2,y)::(waL (jn y) x.2 x.2).map (jw x.1)
theorem QbZ(y:Ly)(h:Nat):y.wa h=hdY y h++(stY y h).flatMap (UL y):=by
 cases y with
 |box nm p=>rw[Ly.wa];rfl
 |grp nm its=>
  rw[Ly.wa];show _=[]++[((nm,none),h)].flatMap (UL (.grp nm its));rw[List.nil_append,List.flatMap_cons,List.flatMap_nil,List.append_nil];rfl
 |tab nm k its=>
  rw[Ly.wa];show _=[]++((List.range k).map fun(i:Nat)=>(((nm,some (i:Int)):Step),h+i*szL its)).flatMap (UL (.tab nm k its));rw[List.nil_append,List.flatMap_map];rfl
theorem WE(x:Bool × Ly)(xs:List (Bool × Ly))(u b:Nat):waL (x::xs) u b=x.2.wa (if x.1=true then u else b)++waL xs (if x.1=true then u else b) (b+szI x):=by
 obtain⟨o,y⟩:=x;rw[waL,waI]
def waB:Nat->Nat
 |0=>4
 |d+1=>4*(3*(1+waB d))
theorem kK{α β:Type}{f:α->List β}{B:Nat}:∀{l:List α},(∀x∈l,(f x).length<=B)->(l.flatMap f).length<=l.length*B
 |[],_=>Nat.zero_le _
 |x::l,h=>by
  have h1:=h x List.mem_cons_self;have h2:=kK (l:=l) fun y hy=>h y (List.mem_cons_of_mem _ hy);rw[List.flatMap_cons,List.length_append,List.length_cons,Nat.succ_mul];omega
theorem kL{B:Nat}:∀{its:List (Bool × Ly)}{u b:Nat},(∀x∈its,∀h,(x.2.wa h).length<=B)->(waL its u b).length<=its.length*B
 |[],u,b,_=>by rw[waL];exact Nat.zero_le _
 |x::xs,u,b,h=>by
  have h1:=h x List.mem_cons_self (if x.1=true then u else b);have h2:=kL (its:=xs) (u:=if x.1=true then u else b) (b:=b+szI x) fun y hy=>h y (List.mem_cons_of_mem _ hy);rw[WE,List.length_append,List.length_cons,Nat.succ_mul];omega
theorem KB:∀(d:Nat)(its:List (Bool × Ly)),Good d its->∀u b,(waL its u b).length<=waB d
 |0,its,h,u,b=>by
  obtain⟨_,hp,hx⟩:=h;have:=kL (B:=1) (its:=its) (u:=u) (b:=b) fun x hm h=>by
   obtain⟨nm,p,e,_⟩:=hx x hm;rw[e,Ly.wa];exact Nat.le_refl _
  have hl:=hp.len;show _<=4;omega
 |d+1,its,h,u,b=>by
  obtain⟨_,hp,hx⟩:=h;have:=kL (B:=3*(1+waB d)) (its:=its) (u:=u) (b:=b) fun x hm h=>by
   rcases hx x hm with⟨nm,p,e,_⟩|⟨nm,in_,e,hg⟩|⟨nm,k,in_,e,hk1,hk3,hg⟩
   ·rw[e,Ly.wa];show 1<=_;omega
   ·have:=KB d in_ hg h h;rw[e,Ly.wa,List.length_cons,List.length_map];omega
   ·rw[e,Ly.wa];have h1:=kK (l:=List.range k) (B:=1+waB d) (f:=fun(i:Nat)=>(([(nm,some (i:Int))],h+i*szL in_,.tab nm k in_):Wa)::(waL in_ (h+i*szL in_) (h+i*szL in_)).map (jw (nm,some (i:Int)))) fun i _=>by
     have:=KB d in_ hg (h+i*szL in_) (h+i*szL in_);rw[List.length_cons,List.length_map];omega
    rw[List.length_range]at h1;exact Nat.le_trans h1 (Nat.mul_le_mul_right _ hk3)
  exact Nat.le_trans this (Nat.mul_le_mul_right _ hp.len)
theorem PB.ati{its:List (Bool × Ly)}(h:PB its){j:Nat}{o:Bool}{y:Ly}{st:Step}{n:Nat}(e:its[j]? =some (o,y))(hs:st.1=y.name)(ha:J5 y st.2=some n):AtI its st j o y n:=by
 have hn:=h.nm j (o,y) e;refine⟨e,hs.symm,fun i x hi hx z=>?_,ha⟩;rw[h.nm i x hx,hs]at z;have:=ju (z.trans hn);omega
theorem kM:∀a b:List (Bool × Ly),szL (a++b)=szL a+szL b
 |[],b=>by rw[List.nil_append,szL];omega
 |x::a,b=>by rw[List.cons_append,szL,szL,kM a b];omega
theorem yn{its:List (Bool × Ly)}{b:Nat}{z:Wa}:∀(r a:List (Bool × Ly))(u:Nat),its=a++r->(u=b+szL (its.take (Kt its a.length)))->(z∈waL r u (b+szL a)↔∃(j:Nat)(o:Bool)(y:Ly),a.length<=j/\its[j]? =some (o,y)/\z∈y.wa (b+szL (its.take (under its j))))
 |[],a,u,e,hu=>by
  rw[waL];refine⟨(fun h=>nomatch h),?_⟩;rintro⟨j,o,y,h1,h2,_⟩;have:=(List.getElem?_eq_some_iff.mp h2).1;rw[e,List.append_nil]at this;omega
 |(o,y)::r,a,u,e,hu=>by
  have ej:its[a.length]? =some (o,y):=by rw[e,List.getElem?_append_right (Nat.le_refl _),Nat.sub_self];rfl
  have et:its.take a.length=a:=by rw[e,List.take_left' rfl]
  have eg:its.getD a.length dfI=(o,y):=by rw[List.getD_eq_getElem?_getD,ej];rfl
  have hh:(if o=true then u else b+szL a)=b+szL (its.take (under its a.length)):=by
   rw[Zg,eg];cases o with
   |true=>rw[if_pos rfl,hu];rfl
   |false=>rw[if_neg (by decide)];show _=b+szL (its.take a.length);rw[et]
  have ih:=yn (its:=its) (b:=b) (z:=z) r (a++[(o,y)]) (if o=true then u else b+szL a) (by rw[e,List.append_assoc];rfl) (by rw[hh,List.length_append,List.length_singleton];rfl);rw[kM,show szL [(o,y)]=szI (o,y) by rw[szL,szL];omega, ←Nat.add_assoc]at ih;rw[WE];show z∈y.wa (if o=true then u else b+szL a)++waL r (if o=true then u else b+szL a) (b+szL a+szI (o,y))↔_;rw[List.mem_append,ih];constructor
  ·rintro(h|⟨j,o2,y2,h1,h2,h3⟩)
   ·rw[hh]at h;exact⟨a.length,o,y,Nat.le_refl _,ej,h⟩
   ·rw[List.length_append,List.length_singleton]at h1;exact⟨j,o2,y2,by omega,h2,h3⟩
  ·rintro⟨j,o2,y2,h1,h2,h3⟩
   by_cases hj:j=a.length
   ·subst hj;rw[ej]at h2;obtain⟨rfl,rfl⟩:o=o2/\y=y2:=⟨congrArg (·.1) (Option.some.inj h2),congrArg (·.2) (Option.some.inj h2)⟩;rw[hh];exact .inl h3
   ·exact .inr ⟨j,o2,y2,by rw[List.length_append,List.length_singleton];omega,h2,h3⟩
theorem Vk{its:List (Bool × Ly)}{b:Nat}{z:Wa}:z∈waL its b b↔∃(j:Nat)(o:Bool)(y:Ly),its[j]? =some (o,y)/\z∈y.wa (b+szL (its.take (under its j))):=by
 have h:=yn (its:=its) (b:=b) (z:=z) its [] b rfl (by show b=b+szL (its.take 0);rw[List.take_zero,szL];omega);have e:b+szL []=b:=by rw[szL];omega
 rw[e]at h;rw[h];exact⟨fun⟨j,o,y,_,h2,h3⟩=>⟨j,o,y,h2,h3⟩,fun⟨j,o,y,h2,h3⟩=>⟨j,o,y,Nat.zero_le _,h2,h3⟩⟩
theorem Res.len{its:List (Bool × Ly)}{ss:List Step}{n:Nat}{y:Ly}(h:Res its ss n y):∃s t,ss=s::t:=by
 cases ss with
 |nil=>exact absurd rfl h.ne
 |cons s t=>exact⟨s,t,rfl⟩
theorem WF:∀(d:Nat)(its:List (Bool × Ly)),Good d its->∀(b:Nat)(z:Wa),z∈waL its b b->∃n,Res its z.1 n z.2.2/\z.2.1=b+n/\z.1.length<=d+1
 |0,its,h,b,z,hz=>by
  obtain⟨_,hp,hx⟩:=h;obtain⟨j,o,y,ej,hm⟩:=Vk.mp hz;obtain⟨nm,p,e,_⟩:=hx _ (List.mem_of_getElem? ej);have e:y=.box nm p:=e;subst e;rw[Ly.wa]at hm;rw[List.mem_singleton.mp hm];exact⟨_,Res.one (hp.ati (st:=(nm,none)) (n:=0) ej rfl rfl),rfl,Nat.le_refl _⟩
 |d+1,its,h,b,z,hz=>by
  obtain⟨_,hp,hx⟩:=h;obtain⟨j,o,y,ej,hm⟩:=Vk.mp hz;rcases hx _ (List.mem_of_getElem? ej)with⟨nm,p,e,_⟩|⟨nm,in_,e,hg⟩|⟨nm,k,in_,e,hk1,hk3,hg⟩
  ·have e:y=.box nm p:=e;subst e;rw[Ly.wa]at hm;rw[List.mem_singleton.mp hm];exact⟨_,Res.one (hp.ati (st:=(nm,none)) (n:=0) ej rfl rfl),rfl,by show 1<=_;omega⟩
  ·have e:y=.grp nm in_:=e;subst e;have HA:=hp.ati (st:=(nm,none)) (n:=0) ej rfl rfl;rw[Ly.wa]at hm;rcases List.mem_cons.mp hm with rfl|hm
   ·exact⟨_,Res.one HA,rfl,by show 1<=_;omega⟩
   ·obtain⟨z',hz',rfl⟩:=List.mem_map.mp hm;obtain⟨n,r,e1,e2⟩:=WF d in_ hg _ z' hz';obtain⟨s,t,es⟩:=r.len;refine⟨szL (its.take (under its j))+0+n,?_,?_,?_⟩
    ·show Res its ((nm,none)::z'.1) _ z'.2.2;rw[es]at r ⊢;exact Res.grp HA r
    ·show z'.2.1=_;omega
    ·show z'.1.length+1<=_;omega
  ·have e:y=.tab nm k in_:=e;subst e;rw[Ly.wa]at hm;obtain⟨i,hi,hm⟩:=List.mem_flatMap.mp hm;have hi:=List.mem_range.mp hi;have ha:J5 (.tab nm k in_) (some (i:Int))=some (i*szL in_):=by
    show(if 0<=(i:Int)/\(i:Int)<(k:Nat)then some ((i:Int).toNat*szL in_)else none)=_;rw[if_pos ⟨by omega,by omega⟩,Int.toNat_natCast]
   have HA:=hp.ati (st:=(nm,some (i:Int))) ej rfl ha;rcases List.mem_cons.mp hm with rfl|hm
   ·exact⟨_,Res.one HA,by show _+_=_;omega,by show 1<=_;omega⟩
   ·obtain⟨z',hz',rfl⟩:=List.mem_map.mp hm;obtain⟨n,r,e1,e2⟩:=WF d in_ hg _ z' hz';obtain⟨s,t,es⟩:=r.len;refine⟨szL (its.take (under its j))+i*szL in_+n,?_,?_,?_⟩
    ·show Res its ((nm,some (i:Int))::z'.1) _ z'.2.2;rw[es]at r ⊢;exact Res.tab HA r
    ·show z'.2.1=_;omega
    ·show z'.1.length+1<=_;omega
theorem QaN{its:List (Bool × Ly)}{ss:List Step}{n:Nat}{y:Ly}(h:Res its ss n y):∀b,∃m,(ss,m,y)∈waL its b b:=by
 induction h with
 |@one its st j o y n h=>
  intro b;obtain⟨e,hn,_,ha⟩:=h;obtain⟨nm,q⟩:=st;have key:∃m,(([(nm,q)],m,y):Wa)∈y.wa (b+szL (its.take (under its j))):=by
   cases y with
   |box nm2 p=>
    obtain rfl:nm2=nm:=hn;cases q with
    |none=>exact⟨_,by rw[Ly.wa];exact List.mem_cons_self⟩
    |some i=>cases ha
   |grp nm2 in_=>
    obtain rfl:nm2=nm:=hn;cases q with
    |none=>exact⟨_,by rw[Ly.wa];exact List.mem_cons_self⟩
    |some i=>cases ha
   |tab nm2 k in_=>
    obtain rfl:nm2=nm:=hn;cases q with
    |none=>cases ha
    |some i=>
     have ha:(if 0<=i/\i<(k:Nat)then some (i.toNat*szL in_)else none)=some n:=ha
     by_cases hi:0<=i/\i<(k:Nat)
     ·obtain⟨i',rfl⟩:∃i':Nat,i=i':=⟨i.toNat,by omega⟩;exact⟨_,by rw[Ly.wa];exact List.mem_flatMap.mpr ⟨i',List.mem_range.mpr (by omega),List.mem_cons_self⟩⟩
     ·rw[if_neg hi]at ha;cases ha
  obtain⟨m,hm⟩:=key;exact⟨m,Vk.mpr ⟨j,o,y,e,hm⟩⟩
 |@grp its in_ st st2 ss j o nm n m y h r ih=>
  intro b;obtain⟨e,hn,_,ha⟩:=h;obtain⟨nm2,q⟩:=st;obtain rfl:nm=nm2:=hn;cases q with
  |some i=>cases ha
  |none=>
   obtain⟨m2,hm⟩:=ih (b+szL (its.take (under its j)));exact⟨m2,Vk.mpr ⟨j,o,_,e,by rw[Ly.wa];exact List.mem_cons_of_mem _ (List.mem_map.mpr ⟨_,hm,rfl⟩)⟩⟩
 |@tab its in_ st st2 ss j k o nm n m y h r ih=>
  intro b;obtain⟨e,hn,_,ha⟩:=h;obtain⟨nm2,q⟩:=st;obtain rfl:nm=nm2:=hn;cases q with
  |none=>cases ha
  |some i=>
   have ha:(if 0<=i/\i<(k:Nat)then some (i.toNat*szL in_)else none)=some n:=ha
   by_cases hi:0<=i/\i<(k:Nat)
   ·obtain⟨i',rfl⟩:∃i':Nat,i=i':=⟨i.toNat,by omega⟩;obtain⟨m2,hm⟩:=ih (b+szL (its.take (under its j))+i'*szL in_);exact⟨m2,Vk.mpr ⟨j,o,_,e,by rw[Ly.wa];exact List.mem_flatMap.mpr ⟨i',List.mem_range.mpr (by omega),List.mem_cons_of_mem _ (List.mem_map.mpr ⟨_,hm,rfl⟩)⟩⟩⟩
   ·rw[if_neg hi]at ha;cases ha
theorem vP(its:List (Bool × Ly))(nm:Str):(∃(j:Nat)(o:Bool)(y:Ly),its[j]? =some (o,y)/\y.name=nm/\∀(i:Nat)(x:Bool × Ly),i<j->its[i]? =some x->x.2.name≠nm)\/∀x∈its,x.2.name≠nm:=by
 induction its with
 |nil=>exact .inr fun x hx=>nomatch hx
 |cons x xs ih=>
  obtain⟨o,y⟩:=x
  by_cases h:y.name=nm
  ·exact .inl ⟨0,o,y,rfl,h,fun i x hi=>absurd hi (Nat.not_lt_zero _)⟩
  ·rcases ih with⟨j,o2,y2,e,hn,hno⟩|hno
   ·refine .inl ⟨j+1,o2,y2,by simpa using e,hn,fun i x hi hx=>?_⟩;cases i with
    |zero=>
     have:(o,y)=x:=by simpa using hx
     rw[←this];exact h
    |succ i=>exact hno i x (by omega) (by simpa using hx)
   ·refine .inr fun x hx=>?_;rcases List.mem_cons.mp hx with rfl|hx
    ·exact h
    ·exact hno x hx
theorem jx(its:List (Bool × Ly))(st:Step):(∃(j:Nat)(o:Bool)(y:Ly)(n:Nat),AtI its st j o y n)\/Qdo its st:=by
 rcases vP its st.1 with⟨j,o,y,e,hn,hno⟩|hno
 ·cases ha:J5 y st.2 with
  |some n=>exact .inl ⟨j,o,y,n,e,hn,hno,ha⟩
  |none=>exact .inr (.inl ⟨j,o,y,⟨e,hn,hno⟩,ha⟩)
 ·exact .inr (.inr hno)
theorem jy:∀(ss:List Step)(its:List (Bool × Ly)),ss≠[]->(∃n y,Res its ss n y)\/NoRes its ss
 |[],its,h=>absurd rfl h
 |[st],its,_=>by
  rcases jx its st with⟨j,o,y,n,h⟩|h
  ·exact .inl ⟨_,_,Res.one h⟩
  ·exact .inr (.one h)
 |st::st2::ss,its,_=>by
  rcases jx its st with⟨j,o,y,n,h⟩|h
  ·rcases jy (st2::ss) (jn y) (by simp)with⟨m,z,r⟩|r
   ·cases y with
    |box nm p=>
     have r:Res [] (st2::ss) m z:=r;cases r with
     |one h=>have:=h.at_;simp at this
     |grp h _=>have:=h.at_;simp at this
     |tab h _=>have:=h.at_;simp at this
    |grp nm in_=>exact .inl ⟨_,_,Res.grp h r⟩
    |tab nm k in_=>exact .inl ⟨_,_,Res.tab h r⟩
   ·exact .inr (.inn h r)
  ·exact .inr (.one h)
def Vx(x:Wa):Bool:=match x.2.2 with| .box _ _=>true|_=>false
theorem VR{α β:Type}{f g:α->List β}:∀{l:List α},(∀x∈l,f x=g x)->l.flatMap f=l.flatMap g
 |[],_=>rfl
 |x::l,h=>by rw[List.flatMap_cons,List.flatMap_cons,h x List.mem_cons_self,VR (l:=l) fun y hy=>h y (List.mem_cons_of_mem _ hy)]
theorem Vl{α β:Type}{f:α->List β}{p:β->Bool}:∀{l:List α},(l.flatMap f).filter p=l.flatMap fun x=>(f x).filter p
 |[]=>rfl
 |x::l=>by rw[List.flatMap_cons,List.filter_append,Vl (l:=l),List.flatMap_cons]
theorem kN{l:List Wa}{st:Step}{pre:List Step}:((l.map (jw st)).filter Vx).map (fun x=>pre++x.1)=(l.filter Vx).map fun x=>(pre++[st])++x.1:=by
 induction l with
 |nil=>rfl
 |cons x l ih=>
  rw[List.map_cons,List.filter_cons,List.filter_cons];have e:Vx (jw st x)=Vx x:=rfl;rw[e]
  split
  ·rw[List.map_cons,List.map_cons,ih]
   congr 1
   show pre++(st::x.1)=pre++[st]++x.1;rw[List.append_assoc];rfl
  ·exact ih
mutual
theorem Qc9:∀(y:Ly)(pre:List Step)(h:Nat),y.bx pre=((y.wa h).filter Vx).map fun x=>pre++x.1
 | .box nm p,pre,h=>by rw[Ly.bx,Ly.wa];rfl
 | .grp nm its,pre,h=>by
  rw[Ly.bx,Ly.wa,List.filter_cons];show _=((if false=true then _ else((waL its h h).map (jw (nm,none))).filter Vx)).map _;rw[if_neg (by decide),kN];exact jz its (pre++[(nm,none)]) h h
 | .tab nm k its,pre,h=>by
  rw[Ly.bx,Ly.wa,Vl,List.map_flatMap];refine VR fun i _=>?_;rw[List.filter_cons];show _=((if false=true then _ else((waL its (h+i*szL its) (h+i*szL its)).map (jw (nm,some (i:Int)))).filter Vx)).map _;rw[if_neg (by decide),kN];exact jz its _ _ _
theorem jz:∀(its:List (Bool × Ly))(pre:List Step)(u b:Nat),bxL its pre=((waL its u b).filter Vx).map fun x=>pre++x.1
 |[],pre,u,b=>by rw[bxL,waL];rfl
 |x::xs,pre,u,b=>by
  have h1:=Qb0 x pre u b;have h2:=jz xs pre (if x.1=true then u else b) (b+szI x);rw[bxL,waL,List.filter_append,List.map_append,h1,h2]
theorem Qb0:∀(x:Bool × Ly)(pre:List Step)(u b:Nat),bxI x pre=((waI x u b).filter Vx).map fun x=>pre++x.1
 |(o,y),pre,u,b=>by rw[bxI,waI];exact Qc9 y pre _
end
def spD(x:Step × Nat):Dv:=.tup [Je x.1,.int (x.2:Nat)]
theorem Qdt:decide (V.str "box"=V.str "group")=false:=by decide+kernel
theorem Qdu:decide (V.str "group"=V.str "group")=true:=by decide+kernel
theorem Qd5:decide (V.str "table"=V.str "table")=true:=by decide+kernel
theorem kO{H:Hp}{x:V}{o:Bool}{y:Ly}(D:Deep H x (dvI (o,y))):∃a xs w0,x=.ref a/\H a=some (.tup xs)/\atI xs 0=some (.str w0)/\decide (V.str w0=V.str "over")=o:=by
 cases o with
 |true=>
  obtain⟨a,x2,rfl,g,_⟩:=X3 D;exact⟨a,_,"over",rfl,g,rfl,by decide+kernel⟩
 |false=>
  rw[dvI,if_neg (by decide)]at D;obtain⟨a,xs,rfl,g⟩:=qk D;exact⟨a,_,_,rfl,g,QL (j:=0) rfl,ZK y⟩
theorem vQ{H:Hp}{x:V}{y:Ly}{h:Nat}(D:Deep H x y.dv)(hs:stY y h≠[]):∃a xs xl,x=.ref a/\H a=some (.tup xs)/\atI xs (-1)=some xl/\Deep H xl (.tup (dvL (jn y))):=by
 cases y with
 |box nm p=>exact absurd rfl hs
 |grp nm in_=>
  obtain⟨a,x3,rfl,g,D3⟩:=XJ D;exact⟨a,_,x3,rfl,g,rfl,D3⟩
 |tab nm k1 in_=>
  obtain⟨a,x3,rfl,g,D3⟩:=Xi D;exact⟨a,_,x3,rfl,g,rfl,D3⟩
theorem kP{d:Nat}{y:Ly}{h:Nat}(g:Vw d y)(hs:stY y h≠[]):∃e,d=e+1/\Good e (jn y):=by
 cases d with
 |zero=>obtain⟨nm,p,rfl,_⟩:=g;exact absurd rfl hs
 |succ d=>
  rcases g with⟨nm,p,rfl,_⟩|⟨nm,in_,rfl,hg⟩|⟨nm,k,in_,rfl,_,_,hg⟩
  ·exact absurd rfl hs
  ·exact⟨d,rfl,hg⟩
  ·exact⟨d,rfl,hg⟩
theorem zr{y:Ly}{sts:List (Step × Nat)}{t:Nat}{st:Step × Nat}(h:sts[t]? =some st):(sts.take (t+1)).flatMap (UL y)=(sts.take t).flatMap (UL y)++UL y st:=by
 rw[List.take_add_one,h,List.flatMap_append];show _++([st].flatMap (UL y))=_;rw[List.flatMap_cons,List.flatMap_nil,List.append_nil]
theorem kQ(y:Ly)(sts:List (Step × Nat))(t:Nat):((sts.take t).flatMap (UL y)).length<=(sts.flatMap (UL y)).length:=by
 have:=congrArg (fun l=>(l.flatMap (UL y)).length) (List.take_append_drop t sts);simp only[List.flatMap_append,List.length_append]at this;omega
theorem kR{t u:TS}{D:Ends}{σ:L2.St}{H:Hp}(h:∀N:L2.St->Hp->Prop,(∀σ H,u D σ H->N σ H)->t {D with nx:=N} σ H):ZI t u D σ H:=h _ fun _ _ h=>h
theorem VS{lo:Int}{n:Nat}{g:TG}{tb:TS}{D:Ends}{σ:L2.St}{H:Hp}(Pv:Nat->L2.St->Hp->Prop)(h0:Pv 0 σ H)
  (hs:∀(N B:L2.St->Hp->Prop)(R:VK) i σ H,(∀σ H,Pv (i+1) σ H->N σ H)->i<n->Pv i σ H->g (.int (lo+i)) σ H fun σ2 H2=>tb {nx:=N,ct:=N,bk:=B,rt:=R} σ2 H2) (hd:∀σ H,Pv n σ H->D.nx σ H):
  ∃W:Nat->Nat->L2.St->Hp->Prop,(∃m,W 0 m σ H)/\∀i m σ H,W i m σ H->
   ((Itr lo n).stop i H/\D.nx σ H)\/((Itr lo n).go i H/\∃N:L2.St->Hp->Prop,(∀σ' H',N σ' H'->∃m',m'<m/\W (i+1) m' σ' H')/\∀x H',(Itr lo n).yld i H x H'->g x σ H' fun σ2 H2=>tb {D with nx:=N,ct:=N,bk:=D.nx} σ2 H2):=
 YY Pv h0 (fun i σ H=>hs _ _ _ i σ H fun _ _ h=>h) hd
theorem Qda{t u:TS}{D:Ends}{σ:L2.St}{H:Hp}(Good:L2.St->Hp->Prop)(rest:∀σ' H',Good σ' H'->u D σ' H') (h:∀N:L2.St->Hp->Prop,(∀σ' H',Good σ' H'->N σ' H')->t {D with nx:=N} σ H):ZI t u D σ H:=h _ rest
theorem Qdb{t1 t2 t3 u:TS}{D:Ends}{σ:L2.St}{H:Hp}(Good:L2.St->Hp->Prop)(rest:∀σ' H',Good σ' H'->u D σ' H') (h:∀N:L2.St->Hp->Prop,(∀σ' H',Good σ' H'->N σ' H')->t1 {D with nx:=t2 {D with nx:=t3 {D with nx:=N}}} σ H):ZI t1 (ZI t2 (ZI t3 u)) D σ H:=h _ rest
theorem KC{J:It}{n:Nat}{Ok:Hp->Prop}{item:Nat->Hp->V->Hp->Prop}{g:TG}{tb:TS}{D:Ends}{σ:L2.St}{H:Hp}(F:Fix J n Ok item)(Pv:Nat->L2.St->Hp->Prop)(h0:Pv 0 σ H)(ho:∀i σ H,i<=n->Pv i σ H->Ok H)
  (hs:∀(N B:L2.St->Hp->Prop)(R:VK) i v σ H H',(∀σ H,Pv (i+1) σ H->N σ H)->i<n->Pv i σ H->item i H v H'->g v σ H' fun σ2 H2=>tb {nx:=N,ct:=N,bk:=B,rt:=R} σ2 H2) (hd:∀σ H,Pv n σ H->D.nx σ H):
  ∃W:Nat->Nat->L2.St->Hp->Prop,(∃m,W 0 m σ H)/\∀i m σ H,W i m σ H->
   (J.stop i H/\D.nx σ H)\/(J.go i H/\∃N:L2.St->Hp->Prop,(∀σ' H',N σ' H'->∃m',m'<m/\W (i+1) m' σ' H')/\∀x H',J.yld i H x H'->g x σ H' fun σ2 H2=>tb {D with nx:=N,ct:=N,bk:=D.nx} σ2 H2):=
 Xf F Pv h0 ho (fun i v σ H H'=>hs _ _ _ i v σ H H' fun _ _ h=>h) hd
theorem KE{H:Hp}{u:V}{z:Wa}(D:Deep H u (waD z)):∃q pv zv,u=.ref q/\H q=some (.tup [pv,.int (z.2.1:Nat),.int (Zq z.2.2:Nat),zv])/\Deep H pv (Jt z.1)/\Deep H zv (qt z.2.2):=by
 obtain⟨a,xs,rfl,g,t⟩:=Deep.X0 (show Deep H u (.tup [Jt z.1,.int (z.2.1:Nat),.int (Zq z.2.2:Nat),qt z.2.2])from D);cases t with
 |cons p1 t=>cases t with
  |cons p2 t=>cases t with
   |cons p3 t=>cases t with
    |cons p4 t=>
     cases t;obtain rfl:=p2.ve;obtain rfl:=p3.ve;exact⟨a,_,_,rfl,g,p1,p4⟩
section
variable {P:Program}{w:World}{K:PySem.W.Frag}{mg:Str->Option Value}{base:Heap}{f:Addr}{fd:FuncData}{tk:Nat->Tok}{c kr:Nat->Addr}
def Wl(e:Nat):Sp:=fun vs H Q _=>∃(v:V)(its:List (Bool × Ly))(b dd:Nat),vs=[v,.int (b:Nat)]/\Deep H v (.tup (dvL its))/\dd<e/\dd<=2/\Good dd its/\∀q xs H',Qk H H'->H q=none->H' q=some (.lst xs)->Deeps H' xs ((waL its b b).map waD)->Q (.ref q) H'
theorem KF(F:Fun K "_law_where_all" "_law_where_all" Jo f fd):FnOk P w K mg base (CXE P w) 4 f fd ["_law_items","_law_begun_here"] (Wl 0):=by
 refine WQ F Qn (fun vs H Q E h=>?_) (fun cdv A outer s H vs Q E hr h=>?_)
 ·obtain⟨v,its,b,dd,rfl,_⟩:=h;rfl
 ·obtain⟨v,its,b,dd,rfl,_,hd,_⟩:=h;exact absurd hd (Nat.not_lt_zero _)
set_option maxHeartbeats 4000000 in
theorem JR(e:Nat)(F:Fun K "_law_where_all" "_law_where_all" Jo f fd)(O:Own mg)(D__law_item_size:Def P w K mg base 4 "_law_item_size" ["_law_item"] (Vv 3))(D__law_where_all:Def P w K mg base (e+4) "_law_where_all" ["_law_items","_law_begun_here"] (Wl e)):FnOk P w K mg base (CXE P w) (e+5) f fd ["_law_items","_law_begun_here"] (Wl (e+1)):=by
 refine WQ F Qn (fun vs H Q E h=>?_) (fun cdv A outer s H vs Q E hr h=>?_)
 ·obtain⟨v,its,b,dd,rfl,_⟩:=h;rfl
 ·obtain⟨v,its,b,dd,rfl,DI,hde,hd2,G,k⟩:=h;have hz:100000<=sizeLine:=by rw[sizeLine_eq];decide
  have hB:waB dd<=732:=by
   obtain rfl|rfl|rfl:dd=0\/dd=1\/dd=2:=by omega
   all_goals decide
  have htot:=KB dd its G b b;obtain⟨_,hp,hgx⟩:=(ZW dd its).mp G;refine⟨_,(Qr (PSy.mk (qJ (i:=2) (j:=3) rfl Qn.nd rfl rfl (by decide) rfl rfl (Qw (Zt Qb) (Qw (pv 1) Qb)) rfl))
   (Qr (ZU PassesOwn.never rfl (Z3 (pv 0)) (Qh (i:=4) Qn.nd rfl (Or.inl rfl)) (Qr (QR (i:=5) Qn.nd rfl (Or.inl rfl) (VN (Qi QU (Qv Qq (pv 4) Qd (fun _ _=>rfl)) Qm (Qo _)) (PEx.mk (Qv Qq (pv 4) Qd (fun _ _=>rfl))) (PEx.mk (pv 4))) rfl rfl)
   (Qr (PSy.mk (Ju (Qz (Qw (D__law_item_size.pe hr (by omega) rfl Qx (Qw (pv 5) Qb)) (Qw (Qv Qq (pv 5) Qd (fun _ _=>rfl)) (Qw (Qv Qq (pv 5) Qd (fun _ _=>rfl)) Qb)))) (Q8 rfl (Qj (Qh (i:=6) Qn.nd rfl (Or.inl rfl)) (Qj (Qh (i:=7) Qn.nd rfl (Or.inl rfl)) (Qj (Qh (i:=8) Qn.nd rfl (Or.inr rfl)) QK))))))
   (Qr (QR (i:=9) Qn.nd rfl (Or.inr rfl) (VN (Qi QU (Qv Qq (pv 4) Qd (fun _ _=>rfl)) Qm (Qo _)) (PEx.mk (pv 3)) (PEx.mk (pv 1))) rfl rfl)
   (Qr (J1 (Qi QU (pv 7) Qm (Qo _)) (Qt (PSy.mk (Zm (ZN PySem.F.plainAttrs_list PySem.F.slot_list_append PySem.F.type_list_append JV (pv 2) (Qw (Qz (Qw (Qz (Qw (pv 8) Qb)) (Qw (pv 9) (Qw (pv 6) (Qw (Qv Qq (pv 5) Qd (fun _ _=>rfl)) Qb))))) Qb))))) Jb)
   (Qr (QR (i:=10) Qn.nd rfl (Or.inl rfl) (VN (Qi QU (pv 7) Qm (Qo _)) (XR (QV (Js (QV (PEx.mk (pv 8)) (QV (PEx.mk (pv 9)) QN rfl) rfl)) QN rfl)) (XR QN)) rfl rfl)
   (Qr (J1 (Qi QU (pv 7) Qm (Qo _)) (Qr (QR (i:=11) Qn.nd rfl (Or.inr rfl) (Ux VW (PEx.mk (pv 6)) (PEx.mk (Qv Qq (pv 5) Qd (fun _ _=>rfl)))) rfl rfl)
   (Qt (PSy.mk (ka (NB:=[".0","_law_number"]) (FR:=["_law_each","_law_here","_law_name"]) (fi:=[11,9,8]) (iy:=10) rfl ⟨rfl,by decide+kernel,by decide+kernel,by decide+kernel,by decide+kernel,by decide+kernel⟩ rfl rfl (Z4 rfl O.range (Qw (Qv Qq (pv 5) Qd (fun _ _=>rfl)) Qb)) (fun _ _ _=>(Qh (i:=1) (show([".0","_law_number","_law_each","_law_here","_law_name"]:List Str).Nodup by decide+kernel) rfl (Or.inl rfl))) (fun _ _ _=>J3) (fun _ _ _=>(Qz (Qw (Qz (Qw (pv 4) (Qw (pv 1) Qb))) (Qw (QM Jl (pv 3) (QM Wb (pv 1) (pv 2))) Qb)))) Qn.nd rfl (Or.inl rfl) rfl)))) Jb)
   (Qr (ZU PassesOwn.never rfl (JG (pv 10)) (Q8 rfl (Qj (Qh (i:=12) Qn.nd rfl (Or.inl rfl)) (Qj (Qh (i:=13) Qn.nd rfl (Or.inl rfl)) QK))) (Qr (PSy.mk (Zm (ZN PySem.F.plainAttrs_list PySem.F.slot_list_append PySem.F.type_list_append JV (pv 2) (Qw (Qz (Qw (Qz (Qw (pv 12) Qb)) (Qw (pv 13) (Qw (Za (Qi QU (pv 7) Qm (Qo _)) (pv 6) (pv 11)) (Qw JF Qb))))) Qb))))
   (Qt (ZU PassesOwn.never rfl (JG (D__law_where_all.pe hr (by omega) rfl Qx (Qw (Qv Qq (pv 5) (YZ Wc Qd) (fun _ _=>rfl)) (Qw (pv 13) Qb)))) (Q8 rfl (Qj (Qh (i:=14) Qn.nd rfl (Or.inl rfl)) (Qj (Qh (i:=15) Qn.nd rfl (Or.inl rfl)) (Qj (Qh (i:=16) Qn.nd rfl (Or.inl rfl)) (Qj (Qh (i:=17) Qn.nd rfl (Or.inl rfl)) QK))))) (Qt (PSy.mk (Zm (ZN PySem.F.plainAttrs_list PySem.F.slot_list_append PySem.F.type_list_append JV (pv 2) (Qw (Qz (Qw (QM Xg (Qz (Qw (pv 12) Qb)) (pv 14)) (Qw (pv 15) (Qw (pv 16) (Qw (pv 17) Qb))))) Qb))))) (fun _=>rfl)))) (fun _=>rfl))
   (Qt (J1 (Qi XA (Qv Qq (pv 4) Qd (fun _ _=>rfl)) Qm (Qo _)) (Qt (PSy.mk (qJ (i:=3) (j:=1) rfl Qn.nd rfl rfl (by decide) rfl rfl (Qw (pv 1) (Qw (QM Jl (pv 1) (pv 6)) Qb)) rfl))) Jb))))))))) (fun _=>rfl))
   (Qt (QE (PEx.mk (pv 2)))))),?_⟩
  dsimp only[QJ,JS,ZI,QQ];refine jr ⟨by show 0<=sizeLine;omega,fun q0 hq0=>⟨_,rfl,_,_,rfl,?_⟩⟩;have B0:LsSt H (upd H q0 (.lst [])) q0 [] []:=⟨Qk.new hq0,hq0,Qc,.nil⟩;generalize upd H q0 (.lst [])=H1 at B0;obtain⟨ia,ix,rfl,gi,ti⟩:=Deep.X0 DI;have ti2:=ti;rw[Q7]at ti2;have lix:=ti2.length;rw[List.length_map]at lix;dsimp only;refine⟨_,rfl,ia,rfl,⟨_,.inl (.inl (B0.S _ _ gi))⟩,?_⟩;refine KC (xX (K:=K) (a:=ia) (xs:=ix)) (fun i σ H2=>∃(acc:List Wa)(xs:List V)(u b':Nat)(y4 y5 y6 y7 y8 y9 y10 y11 y12 y13 y14 y15 y16 y17:Option V),σ=[some (.ref ia),some (.int (b':Nat)),some (.ref q0),some (.int (u:Nat)),y4,y5,y6,y7,y8,y9,y10,y11,y12,y13,y14,y15,y16,y17]/\LsSt H H2 q0 xs (acc.map waD)/\acc++waL (its.drop i) u b'=waL its b b) ⟨[],[],b,b,none,none,none,none,none,none,none,none,none,none,none,none,none,none,rfl,B0,by rw[List.drop_zero];rfl⟩ ?_ ?_ ?_
  ·rintro i σ H2 _ ⟨acc,xs,u,b',y4,y5,y6,y7,y8,y9,y10,y11,y12,y13,y14,y15,y16,y17,rfl,B,_⟩;exact .inl (.inl (B.S _ _ gi))
  ·rintro N1 Bk1 Rt1 i x σ H20 H2 hN1 hi ⟨acc,xs,u,b',y4,y5,y6,y7,y8,y9,y10,y11,y12,y13,y14,y15,y16,y17,rfl,B,hacc⟩ ⟨rfl,hx⟩;obtain⟨d0,hd0,Dx⟩:=ti2.XZ hx;rw[List.getElem?_map]at hd0;cases eo:its[i]? with
   |none=>rw[eo]at hd0;cases hd0
   |some oy=>
    rw[eo]at hd0;obtain rfl:=Option.some.inj hd0;have hil:=(List.getElem?_eq_some_iff.mp eo).1;rw[List.drop_eq_getElem_cons hil,(List.getElem?_eq_some_iff.mp eo).2,WE]at hacc;have hgy:=hgx oy (List.mem_of_getElem? eo);obtain⟨o,y⟩:=oy;have hgy:Vw dd y:=hgy;obtain⟨b1,b2,b3,b4⟩:=YT dd hd2 hgy;have b6:=jq dd hgy;dsimp only at hacc;generalize hh:(if o=true then u else b')=here at hacc;have hlen:(acc++y.wa here).length<=732:=by
     have:=congrArg List.length hacc;rw[←List.append_assoc,List.length_append]at this;omega
    rw[QbZ, ←List.append_assoc, ←List.append_assoc]at hacc;rw[QbZ, ←List.append_assoc,List.length_append]at hlen;dsimp only[QJ,JS,QQ];refine Qda (fun σ' H3=>H3=H2/\∃v5,σ'=[some (.ref ia),some (.int (b':Nat)),some (.ref q0),some (.int (u:Nat)),some x,some v5,y6,y7,y8,y9,y10,y11,y12,y13,y14,y15,y16,y17]/\Deep H v5 y.dv) ?_ (fun N rest=>?_);rotate_left
    ·cases o with
     |true=>
      obtain⟨a,x2,rfl,g,Dy⟩:=X3 Dx;exact⟨_,rfl,a,_,0,_,rfl,rfl,.inl (B.S _ _ g),rfl,rfl,true,rfl,QH ⟨_,rfl,a,_,1,_,rfl,rfl,.inl (B.S _ _ g),rfl,rest _ _ ⟨rfl,_,rfl,Dy⟩⟩⟩
     |false=>
      have Dy:Deep H x y.dv:=by rw[dvI,if_neg (by decide)]at Dx;exact Dx
      obtain⟨a,xs2,rfl,g⟩:=qk Dy;exact⟨_,rfl,a,_,0,_,rfl,rfl,.inl (B.S _ _ g),QL (j:=0) rfl,rfl,false,by rw[ZK],QG ⟨_,rfl,rest _ _ ⟨rfl,_,rfl,Dy⟩⟩⟩
    rintro σ3 H3 ⟨rfl,v5,rfl,Dy⟩;dsimp only[QJ,JS,ZI,QQ];refine⟨_,rfl,v5,(false,y),rfl,by rw[dvI,if_neg (by decide)];exact Dy.same B.S,by show y.dp<3;omega,by show y.cn<=10000;omega,b3,b6,fun H4 S4=>?_⟩;rw[show szI (false,y)=y.sz by rw[szI,if_neg (by decide)]];have B4:=B.same S4;obtain⟨ya,yxs,rfl,gy⟩:=qk Dy;have gy4:=B4.S _ _ gy;refine⟨_,rfl,ya,_,0,_,rfl,rfl,.inl gy4,QL (j:=0) rfl,_,rfl,ya,_,1,_,rfl,rfl,.inl gy4,QL (j:=1) rfl,by show 3<=sizeLine;omega,fun p5 hp5=>?_⟩;have S5:=Qk.new (o:=.tup [.int (y.sz:Nat),.str y.word,.str y.name]) hp5;have B5:=B4.same S5;refine⟨p5,_,rfl,.inl (.inl Qc),rfl,_,_,rfl,_,_,rfl,_,_,rfl,rfl,?_⟩;generalize upd H4 p5 (.tup [.int (y.sz:Nat),.str y.word,.str y.name])=H5 at B5;clear B B4 S4 S5 hp5 gy4;refine Qda (fun σ' H6=>H6=H5/\σ'=[some (.ref ia),some (.int (b':Nat)),some (.ref q0),some (.int (u:Nat)),some x,some (.ref ya),some (.int (y.sz:Nat)),some (.str y.word),some (.str y.name),some (.int (here:Nat)),y10,y11,y12,y13,y14,y15,y16,y17]) ?_ (fun N rest=>?_);rotate_left
    ·obtain⟨xa,xxs,w0,rfl,gx,h0,hw0⟩:=kO (Dx.same B5.S);refine⟨_,rfl,xa,_,0,_,rfl,rfl,.inl gx,h0,rfl,o,congrArg V.bl hw0,?_⟩;subst hh;cases o with
     |true=>exact QH ⟨_,rfl,rest _ _ ⟨rfl,rfl⟩⟩
     |false=>exact QG ⟨_,rfl,rest _ _ ⟨rfl,rfl⟩⟩
    rintro σ6 H6 ⟨rfl,rfl⟩;have lxs:=B5.t.length;rw[List.length_map]at lxs;rw[List.length_append]at hlen;refine Qdb (fun σ' H7=>∃(l:Addr)(zs xs7:List V)(y11:Option V),σ'=[some (.ref ia),some (.int (b':Nat)),some (.ref q0),some (.int (u:Nat)),some x,some (.ref ya),some (.int (y.sz:Nat)),some (.str y.word),some (.str y.name),some (.int (here:Nat)),some (.ref l),y11,y12,y13,y14,y15,y16,y17]/\LsSt H H7 q0 xs7 ((acc++hdY y here).map waD)/\l≠q0/\H7 l=some (.lst zs)/\Deeps H7 zs ((stY y here).map spD)/\(decide (V.str y.word=V.str "group")=true->y.sz=Zq y)/\(decide (V.str y.word=V.str "group")=false->stY y here≠[]->y11=some (.int (Zq y:Nat)))) ?_ (fun N rest=>?_);rotate_left
    ·have Dy5:=Dy.same B5.S;cases y with
     |box nm p=>
      obtain⟨a,ea,g⟩:=Ks Dy5;cases ea;refine⟨_,rfl,rfl,true,rfl,QH ?_⟩;refine⟨_,rfl,.inl ⟨rfl,_,.inl (.inl B5.g)⟩,?_⟩;refine⟨_,rfl,by show 1<=sizeLine;omega,fun p6 hp6=>?_⟩;have S6:=Qk.new (o:=.tup [.str (Ly.box nm p).name]) hp6;refine⟨_,rfl,_,rfl,_,rfl,ya,_,2,_,rfl,rfl,.inl (S6 _ _ g),rfl,by show 4<=sizeLine;omega,fun p7 hp7=>?_⟩;have S7:=Qk.new (o:=.tup [.ref p6,.int (here:Nat),.int ((Ly.box nm p).sz:Nat),.str (Uy p)]) hp7;have B7:=(B5.same S6).same S7;have D7:Deep (upd (upd H6 p6 (.tup [.str (Ly.box nm p).name])) p7 (.tup [.ref p6,.int (here:Nat),.int ((Ly.box nm p).sz:Nat),.str (Uy p)])) (.ref p7) (waD ([(nm,none)],here,.box nm p)):=by
       refine .tup Qc (.cons ((Deep.tup Qc (.cons .str .nil)).same S7) (.cons .int (.cons ?_ (.cons .str .nil))));rw[show(Ly.box nm p).sz=Zq (.box nm p) by rw[Ly.sz];rfl];exact .int
      generalize upd (upd H6 p6 (.tup [.str (Ly.box nm p).name])) p7 (.tup [.ref p6,.int (here:Nat),.int ((Ly.box nm p).sz:Nat),.str (Uy p)])=H7 at B7 D7;refine⟨q0,xs,.ref p7,rfl,rfl,B7.g,by omega,?_⟩;have B8:LsSt H (upd H7 q0 (.lst (xs++[.ref p7]))) q0 (xs++[.ref p7]) ((acc++hdY (.box nm p) here).map waD):=by
       rw[List.map_append];exact B7.put (B7.t.append (.cons D7 .nil))
      generalize upd H7 q0 (.lst (xs++[.ref p7]))=H8 at B8;refine⟨_,rfl,rfl,false,congrArg V.bl Qdt,QG ⟨by show 0<=sizeLine;omega,fun l hl=>?_⟩⟩;refine⟨_,rfl,rfl,false,congrArg V.bl QbN,QG ?_⟩;exact rest _ _ ⟨l,[],_,_,rfl,B8.same (Qk.new hl),(Qs B8.g hl).symm,Qc,.nil,(fun z=>absurd (Qdt.symm.trans z) (by decide)),(fun _ z=>absurd rfl z)⟩
     |grp nm in_=>
      refine⟨_,rfl,rfl,false,congrArg V.bl vo,QG ?_⟩;refine⟨_,rfl,rfl,true,congrArg V.bl Qdu,QH ?_⟩;refine⟨_,rfl,_,rfl,by show 2<=sizeLine;omega,fun p6 hp6=>⟨by show 1<=sizeLine;omega,fun l hl=>?_⟩⟩;have S6:=Qk.new (o:=.tup [.str (Ly.grp nm in_).name,.int (here:Nat)]) hp6;have S7:=Qk.new (o:=.lst [.ref p6]) hl;refine⟨_,rfl,rfl,false,congrArg V.bl QaY,QG ?_⟩;have B8:=(B5.same S6).same S7;refine rest _ _ ⟨l,_,xs,_,rfl,?_,(Qs (B5.same S6).g hl).symm,Qc,.cons ((Deep.tup Qc (.cons .str (.cons .int .nil))).same S7) .nil,(fun _=>by rw[Ly.sz];rfl),(fun z=>absurd (Qdu.symm.trans z) (by decide))⟩;show LsSt H _ q0 xs ((acc++[]).map waD);rw[List.append_nil];exact B8
     |tab nm k1 in_=>
      obtain⟨a,x3,ea,g,D3⟩:=Xi Dy5;cases ea;have hk:1<=k1/\k1<=3:=by
       cases dd with
       |zero=>obtain⟨_,_,e2,_⟩:=hgy;cases e2
       |succ dd=>
        rcases hgy with⟨_,_,e2,_⟩|⟨_,_,e2,_⟩|⟨_,_,_,e2,h1,h2,_⟩
        ·cases e2
        ·cases e2
        ·cases e2;exact⟨h1,h2⟩
      refine⟨_,rfl,rfl,false,congrArg V.bl vq,QG ?_⟩;refine⟨_,rfl,rfl,false,congrArg V.bl Qce,QG ⟨by show 0<=sizeLine;omega,fun l0 hl0=>?_⟩⟩;have S6:=Qk.new (o:=.lst []) hl0;have B6:=B5.same S6;have g6:=S6 _ _ g;generalize upd H6 l0 (.lst [])=H7 at B6 g6;refine⟨_,rfl,rfl,true,congrArg V.bl Qd5,QH ?_⟩;refine⟨_,rfl,_,rfl,ya,_,2,_,rfl,rfl,.inl g6,rfl,_,_,rfl,rfl,⟨by omega,by omega⟩,?_⟩;have ediv:(((Ly.tab nm k1 in_).sz:Nat):Int)/((k1:Nat):Int)=((szL in_:Nat):Int):=by
       rw[Ly.sz,Int.natCast_mul,Int.mul_ediv_cancel _ (by omega)]
      dsimp only[QJ,JS,ZI,QQ];rw[ediv];refine VM (fv:=[.int (szL in_:Nat),.int (here:Nat),.str (Ly.tab nm k1 in_).name]) (Qdj (lo:=0) (n:=k1)) ((stY (.tab nm k1 in_) here).map spD) (by unfold stY;simp) (fun R h=>⟨_,rfl,ya,_,2,_,rfl,rfl,.inl g6,rfl,_,rfl,by omega,by omega,by rw[Int.toNat_natCast];exact h _ (Qk.refl _)⟩) rfl (fun H1 S=>trivial) ?_ ?_ (by omega)
      ·rintro j v H8 H9 dd2 R hdd S ⟨rfl,rfl⟩ kk;have hj:j<k1:=by
        have:=(List.getElem?_eq_some_iff.mp hdd).1;unfold stY at this;simpa using this
       have ed:dd2=spD ((nm,some (j:Int)),here+j*szL in_):=by
        unfold stY at hdd;rw[List.getElem?_map,List.getElem?_map,List.getElem?_range hj]at hdd;exact(Option.some.inj hdd).symm
       refine⟨rfl,_,rfl,_,rfl,by show 2<=sizeLine;omega,fun p7 hp7=>⟨_,rfl,_,rfl,_,rfl,_,_,rfl,rfl,.inl ⟨by omega,by omega⟩,_,_,rfl,rfl,by show 2<=sizeLine;omega,fun p8 hp8=>kk _ _ ((Qk.new hp7).trans (Qk.new hp8)) ?_⟩⟩;rw[ed];refine .tup Qc (.cons ((Deep.tup Qc (.cons .str (.cons ?_ .nil))).same (Qk.new hp8)) (.cons ?_ .nil))
       ·rw[show(0:Int)+(j:Int)=(j:Int) by omega];exact .int
       ·dsimp only;rw[show((here:Nat):Int)+((0:Int)+(j:Int))*((szL in_:Nat):Int)=((here+j*szL in_:Nat):Int) by push_cast;rw[Int.zero_add]];exact .int
      ·rintro ys H8 p8 S8 t8 hp8;have B8:=B6.same S8;refine rest _ _ ⟨p8,ys,xs,_,rfl,?_,(Qs B8.g hp8).symm,Qc,t8.same (Qk.new hp8),(fun z=>absurd (Qce.symm.trans z) (by decide)),(fun _ _=>rfl)⟩;show LsSt H _ q0 xs ((acc++[]).map waD);rw[List.append_nil];exact B8.same (Qk.new hp8)
    rintro σ7 H7 ⟨l,zs,xs7,y11',rfl,B7,hlq,gl7,tl7,hwg,hwt⟩;clear B5 lxs xs y11;generalize hac3:acc++hdY y here=acc3 at B7 hacc;have ha3:acc3.length=acc.length+(hdY y here).length:=by rw[←hac3,List.length_append]
    have lzs:=tl7.length;rw[List.length_map]at lzs;have la3:=B7.t.length;rw[List.length_map]at la3;refine Qda (fun σ' H8=>∃(xs8:List V)(y11 y12 y13 y14 y15 y16 y17:Option V),σ'=[some (.ref ia),some (.int (b':Nat)),some (.ref q0),some (.int (u:Nat)),some x,some (.ref ya),some (.int (y.sz:Nat)),some (.str y.word),some (.str y.name),some (.int (here:Nat)),some (.ref l),y11,y12,y13,y14,y15,y16,y17]/\LsSt H H8 q0 xs8 ((acc3++(stY y here).flatMap (UL y)).map waD)) ?_ (fun N rest=>?_);rotate_left
    ·refine⟨_,rfl,l,rfl,⟨_,.inl (.inl gl7)⟩,?_⟩;refine KC (yh (K:=K) (a:=l) (xs:=zs)) (fun t σ H8=>∃(xs8:List V)(y12 y13 y14 y15 y16 y17:Option V),σ=[some (.ref ia),some (.int (b':Nat)),some (.ref q0),some (.int (u:Nat)),some x,some (.ref ya),some (.int (y.sz:Nat)),some (.str y.word),some (.str y.name),some (.int (here:Nat)),some (.ref l),y11',y12,y13,y14,y15,y16,y17]/\LsSt H H8 q0 xs8 ((acc3++((stY y here).take t).flatMap (UL y)).map waD)/\H8 l=some (.lst zs)/\Deeps H8 zs ((stY y here).map spD)) ⟨xs7,y12,y13,y14,y15,y16,y17,rfl,by rw[List.take_zero,List.flatMap_nil,List.append_nil];exact B7,gl7,tl7⟩ ?_ ?_ ?_
     ·rintro t σ H8 _ ⟨xs8,y12,y13,y14,y15,y16,y17,rfl,_,gl8,_⟩;exact .inl (.inl gl8)
     ·rintro N2 Bk2 Rt2 t zt σ H80 H8 hN2 ht ⟨xs8,y12,y13,y14,y15,y16,y17,rfl,B8,gl8,tl8⟩ ⟨rfl,hzt⟩;obtain⟨dz,hdz,Dz⟩:=tl8.XZ hzt;have htl:t<(stY y here).length:=by omega
      rw[List.getElem?_map,List.getElem?_eq_getElem htl]at hdz;obtain rfl:=Option.some.inj hdz;have hst:(stY y here)[t]? =some (stY y here)[t]:=List.getElem?_eq_getElem htl;generalize (stY y here)[t]=sf at hst Dz;obtain⟨st,fst⟩:=sf;have hsne:stY y here≠[]:=fun z=>by rw[z]at htl;exact absurd htl (Nat.not_lt_zero _)
      obtain⟨dd',rfl,hgin⟩:=kP hgy hsne;obtain⟨a,axs,xl,ea,ga,hla,Dl⟩:=vQ Dy hsne;cases ea;obtain⟨pz,pzx,rfl,gz,tz⟩:=Deep.X0 (show Deep H8 zt (.tup [Je st,.int (fst:Nat)])from Dz);obtain⟨sv,rfl,Ds⟩:∃sv,pzx=[sv,.int (fst:Nat)]/\Deep H8 sv (Je st):=by
       cases tz with
       |cons p1 t=>cases t with
        |cons p2 t=>
         cases t;obtain rfl:=p2.ve;exact⟨_,rfl,p1⟩
      have l8:=B8.t.length;rw[List.length_map,List.length_append]at l8;have lfw:=kQ y (stY y here) t;refine⟨pz,_,rfl,.inl (.inl gz),rfl,_,_,rfl,_,_,rfl,rfl,?_⟩;dsimp only[QJ,JS,ZI,QQ];refine⟨_,rfl,.inl ⟨rfl,_,.inl (.inl B8.g)⟩,?_⟩;refine⟨_,rfl,by show 1<=sizeLine;omega,fun p9 hp9=>?_⟩;have S9:=Qk.new (o:=.tup [sv]) hp9;have B9:=B8.same S9;have Dp9:Deep (upd H8 p9 (.tup [sv])) (.ref p9) (Jt [st]):=.tup Qc (.cons (Ds.same S9) .nil);have gl9:=S9 _ _ gl8;have tl9:=tl8.same S9;have Ds9:=Ds.same S9;generalize upd H8 p9 (.tup [sv])=H9 at B9 Dp9 gl9 tl9 Ds9 S9;refine⟨_,rfl,_,rfl,rfl,decide (V.str y.word=V.str "group"),rfl,?_⟩;have fin:∀H',H'=H9->∀(R:V->Hp->Prop),R (.int (Zq y:Nat)) H9->(if decide (V.str y.word=V.str "group")=true then(∃v,([some (.ref ia),some (.int (b':Nat)),some (.ref q0),some (.int (u:Nat)),some x,some (.ref ya),some (.int (y.sz:Nat)),some (.str y.word),some (.str y.name),some (.int (here:Nat)),some (.ref l),y11',some sv,some (.int (fst:Nat)),y14,y15,y16,y17]:L2.St)[6]? =some (some v)/\R v H9)else(∃v,([some (.ref ia),some (.int (b':Nat)),some (.ref q0),some (.int (u:Nat)),some x,some (.ref ya),some (.int (y.sz:Nat)),some (.str y.word),some (.str y.name),some (.int (here:Nat)),some (.ref l),y11',some sv,some (.int (fst:Nat)),y14,y15,y16,y17]:L2.St)[11]? =some (some v)/\R v H9)):=by
       intro H' _ R hR;cases hw:decide (V.str y.word=V.str "group")with
       |true=>
        rw[←hwg hw]at hR;exact QH ⟨_,rfl,hR⟩
       |false=>
        have hw11:=hwt hw hsne;subst hw11;exact QG ⟨_,rfl,hR⟩
      refine fin H9 rfl _ ?_;refine⟨by show 4<=sizeLine;omega,fun p10 hp10=>?_⟩;have S10:=Qk.new (o:=.tup [.ref p9,.int (fst:Nat),.int (Zq y:Nat),.non]) hp10;have B10:=B9.same S10;have hpn:qt y=.non:=by cases y with
       |box nm p=>exact absurd rfl hsne
       |grp nm in_=>rfl
       |tab nm k1 in_=>rfl
      have D10:Deep (upd H9 p10 (.tup [.ref p9,.int (fst:Nat),.int (Zq y:Nat),.non])) (.ref p10) (waD ([st],fst,y)):=by
       refine .tup Qc (.cons (Dp9.same S10) (.cons .int (.cons .int (.cons ?_ .nil))));show Deep _ _ (qt y);rw[hpn];exact .non
      have gl10:=S10 _ _ gl9;have tl10:=tl9.same S10;have Ds10:=Ds9.same S10;generalize upd H9 p10 (.tup [.ref p9,.int (fst:Nat),.int (Zq y:Nat),.non])=H10 at B10 D10 gl10 tl10 Ds10;refine⟨q0,xs8,.ref p10,rfl,rfl,B10.g,by omega,?_⟩;have B11:LsSt H (upd H10 q0 (.lst (xs8++[.ref p10]))) q0 (xs8++[.ref p10]) (((acc3++((stY y here).take t).flatMap (UL y))++[([st],fst,y)]).map waD):=by
       rw[List.map_append];exact B10.put (B10.t.append (.cons D10 .nil))
      have gl11:upd H10 q0 (.lst (xs8++[.ref p10])) l=some (.lst zs):=by rw[Qp hlq];exact gl10
      have tl11:=tl10.Wo (o':=.lst (xs8++[.ref p10])) B10.g ZZ;have Ds11:=Ds10.Wo (o':=.lst (xs8++[.ref p10])) B10.g ZZ;generalize upd H10 q0 (.lst (xs8++[.ref p10]))=H11 at B11 gl11 tl11 Ds11;generalize hacc4:(acc3++((stY y here).take t).flatMap (UL y))++[([st],fst,y)]=acc4 at B11;have hlen4:acc4.length<=733:=by
       rw[←hacc4,List.length_append,List.length_append];show _+_+1<=733;omega
      have hB2:(waL (jn y) fst fst).length<=732:=Nat.le_trans (KB dd' _ hgin _ _) (by
       obtain rfl|rfl:dd'=0\/dd'=1:=by omega
       all_goals decide)
      refine⟨_,rfl,_,rfl,ya,_,_,_,rfl,rfl,.inl (B11.S _ _ ga),hla,_,rfl,xl,jn y,fst,dd',rfl,Dl.same B11.S,by omega,by omega,hgin,fun q12 xs12 H12 S12 hq12 g12 t12=>?_⟩;have B12:=B11.same S12;have l12:=t12.length;rw[List.length_map]at l12;refine⟨q12,rfl,⟨_,.inl (.inl g12)⟩,?_⟩;have hq12q:q12≠q0:=(Qs B11.g hq12).symm;have hq12l:q12≠l:=(Qs gl11 hq12).symm;refine KC (yh (K:=K) (a:=q12) (xs:=xs12)) (fun j σ H13=>∃(xs13:List V)(y14 y15 y16 y17:Option V),σ=[some (.ref ia),some (.int (b':Nat)),some (.ref q0),some (.int (u:Nat)),some x,some (.ref ya),some (.int (y.sz:Nat)),some (.str y.word),some (.str y.name),some (.int (here:Nat)),some (.ref l),y11',some sv,some (.int (fst:Nat)),y14,y15,y16,y17]/\LsSt H H13 q0 xs13 ((acc4++((waL (jn y) fst fst).take j).map (jw st)).map waD)/\H13 l=some (.lst zs)/\Deeps H13 zs ((stY y here).map spD)/\H13 q12=some (.lst xs12)/\Deeps H13 xs12 ((waL (jn y) fst fst).map waD)/\Deep H13 sv (Je st)) ⟨_,y14,y15,y16,y17,rfl,by rw[List.take_zero,List.map_nil,List.append_nil];exact B12,S12 _ _ gl11,tl11.same S12,g12,t12,Ds11.same S12⟩ ?_ ?_ ?_
      ·rintro j σ H13 _ ⟨xs13,y14,y15,y16,y17,rfl,_,_,_,g13,_,_⟩;exact .inl (.inl g13)
      ·rintro N3 Bk3 Rt3 j zj σ H130 H13 hN3 hj ⟨xs13,y14,y15,y16,y17,rfl,B13,gl13,tl13,g13,t13,Ds13⟩ ⟨rfl,hzj⟩;obtain⟨dj,hdj,Dj⟩:=t13.XZ hzj;rw[List.getElem?_map]at hdj;cases ez:(waL (jn y) fst fst)[j]? with
       |none=>rw[ez]at hdj;cases hdj
       |some z=>
        rw[ez]at hdj;obtain rfl:=Option.some.inj hdj;obtain⟨qz,pv,zv,rfl,gz3,Dpv,Dzv⟩:=KE Dj;obtain⟨_,_,_,hzl⟩:=WF dd' _ hgin fst z (List.mem_of_getElem? ez);refine⟨qz,_,rfl,.inl (.inl gz3),rfl,_,_,rfl,_,_,rfl,_,_,rfl,_,_,rfl,rfl,?_⟩;dsimp only[QJ,JS,ZI,QQ];obtain⟨pa,px,rfl,gp,tp⟩:=Deep.X0 (show Deep H13 pv (.tup (z.1.map Je))from Dpv);have lpx:=tp.length;rw[List.length_map]at lpx;refine⟨_,rfl,.inl ⟨rfl,_,.inl (.inl B13.g)⟩,?_⟩;refine⟨_,rfl,by show 1<=sizeLine;omega,fun p14 hp14=>⟨_,rfl,?_⟩⟩;have S14:=Qk.new (o:=.tup [sv]) hp14;refine UA (ds:=[Je st]) (es:=z.1.map Je) Qc (S14 _ _ gp) (.cons (Ds13.same S14) .nil) (tp.same S14) (by show 1+px.length<=sizeLine;omega) fun u15 H15 S15 D15=>?_;have S1315:=S14.trans S15;refine⟨_,rfl,_,rfl,_,rfl,by show 4<=sizeLine;omega,fun p16 hp16=>?_⟩;have S16:=S1315.trans (Qk.new (o:=.tup [u15,.int (z.2.1:Nat),.int (Zq z.2.2:Nat),zv]) hp16);have B16:=B13.same S16;have D16:Deep (upd H15 p16 (.tup [u15,.int (z.2.1:Nat),.int (Zq z.2.2:Nat),zv])) (.ref p16) (waD (jw st z)):=.tup Qc (.cons (D15.same (Qk.new hp16)) (.cons .int (.cons .int (.cons (Dzv.same S16) .nil))));have gl16:=S16 _ _ gl13;have tl16:=tl13.same S16;have g16:=S16 _ _ g13;have t16:=t13.same S16;have Ds16:=Ds13.same S16;generalize upd H15 p16 (.tup [u15,.int (z.2.1:Nat),.int (Zq z.2.2:Nat),zv])=H16 at B16 D16 gl16 tl16 g16 t16 Ds16;have l16:=B16.t.length;rw[List.length_map,List.length_append,List.length_map,List.length_take]at l16;refine⟨q0,xs13,.ref p16,rfl,rfl,B16.g,by omega,?_⟩;refine hN3 _ _ ⟨xs13++[.ref p16],_,_,_,_,rfl,?_,by rw[Qp hlq];exact gl16,tl16.Wo B16.g ZZ,by rw[Qp hq12q];exact g16,t16.Wo B16.g ZZ,Ds16.Wo B16.g ZZ⟩;have e4:acc4++((waL (jn y) fst fst).take (j+1)).map (jw st)=(acc4++((waL (jn y) fst fst).take j).map (jw st))++[jw st z]:=by
         rw[List.take_add_one,ez,List.map_append,List.append_assoc];rfl
        rw[e4,List.map_append];exact B16.put (B16.t.append (.cons D16 .nil))
      ·rintro σ H13 ⟨xs13,y14,y15,y16,y17,rfl,B13,gl13,tl13,_,_,_⟩;rw[List.take_of_length_le (by omega)]at B13;refine hN2 _ _ ⟨xs13,_,_,_,_,_,_,rfl,?_,gl13,tl13⟩;rw[zr hst, ←List.append_assoc];have e:acc3++((stY y here).take t).flatMap (UL y)++UL y (st,fst)=acc4++(waL (jn y) fst fst).map (jw st):=by
        rw[←hacc4,List.append_assoc _ [_] _];rfl
       rw[e];exact B13
     ·rintro σ H8 ⟨xs8,y12,y13,y14,y15,y16,y17,rfl,B8,_,_⟩;rw[List.take_of_length_le (by omega)]at B8;exact rest _ _ ⟨xs8,_,_,_,_,_,_,_,rfl,B8⟩
    rintro σ8 H8 ⟨xs8,z11,z12,z13,z14,z15,z16,z17,rfl,B8⟩;obtain⟨xa,xxs,w0,rfl,gx,h0,hw0⟩:=kO (Dx.same B8.S);refine⟨_,rfl,xa,_,0,_,rfl,rfl,.inl gx,h0,rfl, !o,congrArg V.bl (by rw[hw0]),?_⟩;cases o with
    |true=>
     refine QG<|hN1 _ _ ⟨_,xs8,u,b',_,_,_,_,_,_,_,_,_,_,_,_,_,_,rfl,B8,?_⟩;rw[if_pos rfl]at hh;subst hh;have e0:b'+szI (true,y)=b':=by rw[szI,if_pos rfl];rfl
     rw[e0]at hacc;exact hacc
    |false=>
     rw[if_neg (by decide)]at hh;refine QH (jr ⟨_,rfl,_,rfl,_,rfl,_,_,rfl,rfl,_,_,rfl,?_⟩);have es:((b':Nat):Int)+((y.sz:Nat):Int)=((b'+y.sz:Nat):Int):=by push_cast;rfl
     dsimp only;rw[es];refine hN1 _ _ ⟨_,xs8,b',b'+y.sz,_,_,_,_,_,_,_,_,_,_,_,_,_,_,rfl,B8,?_⟩
     ·subst hh;have e0:b'+szI (false,y)=b'+y.sz:=by rw[szI,if_neg (by decide)]
      rw[e0]at hacc;exact hacc
  ·rintro σ H2 ⟨acc,xs,u,b',y4,y5,y6,y7,y8,y9,y10,y11,y12,y13,y14,y15,y16,y17,rfl,B,hacc⟩;rw[List.drop_eq_nil_of_le (by omega),waL,List.append_nil]at hacc;rw[hacc]at B;exact⟨_,rfl,k _ _ _ B.S hq0 B.g B.t⟩
end
end Lw
namespace L2
open PySem PySem.Spec PyProof.Rows
structure PTx(X:Cx)(e:Expr)(t:TT):Prop where
 pt:PT X e t
section
variable {X:Cx}{E:XK}{o e f a b c:Expr}{es rest:List Expr}{ks:List Keyword}{pos p apos cpos:Pos}{te ta tb to:TE}{t1 t2:TT}{t:TA}{k k':Nat}{x:Str}{ps:List Str}{sp:Sp}{T id:String}{name:Str}{r:V->List V->Hp->VK->Prop}
theorem vR(h:PEx X (.Call f es ks pos) te):PTx X (.Call f es ks pos) (tB te):=⟨Zj h.pe⟩
theorem QaO(h:PTx X a t1):PTx X (.UnaryOp .Not a pos) (Qcm t1):=⟨ZX h.pt⟩
theorem Vm{s1 s2:List Stmt}{u1 u2:TS}(hc:PTx X c t1)(ha:PSx X s1 u1)(hb:PSx X s2 u2):PSy X (.If c s1 s2 pos) (QaT t1 u1 u2):=⟨QY hc.pt ha.ps hb.ps⟩
theorem kS(D:Def X.prog X.w X.K X.mg X.base k x ps sp)(hr:Room k' X.A)(hk:k<=k')(hg:Gl X x)(hx:Passes (CXE X.prog X.w) X E)(ha:PAx X [e] t)(h:isStar e=false)(hdb:(x==("__debug__":Str))=false):PEx X (.Call (.Name x p) [e] [] pos) (WI sp [] E t):=⟨D.pe hr hk hg hx ha.pa hdb (X1 h) rfl⟩
theorem UH(D:Def X.prog X.w X.K X.mg X.base k x ps sp)(hr:Room k' X.A)(hk:k<=k')(hg:Gl X x)(hx:Passes (CXE X.prog X.w) X E)(ha:PAx X [e,f] t)(h:isStar e=false)(h2:isStar f=false)(hdb:(x==("__debug__":Str))=false):PEx X (.Call (.Name x p) [e,f] [] pos) (WI sp [] E t):=⟨D.pe hr hk hg hx ha.pa hdb (X1 h) (by rw[X1 h2];rfl)⟩
end
section
variable {X:Cx}
def Qb1(n:Nat)(neg:Bool):R2:=fun x y H Q=>∃d ds a xs,Deep H x d/\y=.ref a/\H a=some (.lst xs)/\Deeps H xs ds/\(∀e∈ds,e.depth<=n)/\Q (.bl (if neg then !(ds.any fun e=>e.eqb d)else ds.any fun e=>e.eqb d)) H
theorem qE{n:Nat}(hu:X.A.units+1+n<cLine):OpR X (compareOp .NotIn) (Qb1 n true):=by
 intro pins s σ H x y v u Q I rx ry h;obtain⟨d,ds,a,xs,hx,rfl,ha,t,hd,q⟩:=h;cases ry;obtain⟨its,r,pl,hz⟩:=I.list (.inl (.inl ha));obtain⟨f,hf⟩:=Qat I hu hx rx;obtain⟨h1,h2⟩:=hf its xs ds t r hd;refine SeqAt.notIn_listAt f pl.isList (fun w hw=>h1 w (by simpa using hw)) ⟨.bl _,H,I,rfl,?_⟩;rw[show its.toArray.any f=its.any f by simp,h2];exact q
end
end L2
namespace Lw
open PySem PySem.Spec PyProof.Rows L2 K02 K04
open Builtin Builtin.Str StrLaws
def qq:Str:=(envOfC "law" (Qf Wn) 0 0 .none).qual++"<lambda>"
def QaP(Pa:Addr):Sp:=fun vs H Q _=>∃(a:Addr)(ns:List Int),vs=[.ref a]/\ns.length<=63/\wC Pa H/\(∃o,H a=some (.frz o (.lst (ns.map V.int))))/\∀H',Q (.bl true) H'
theorem QaQ{H:Hp}{P:Addr}{q:Str}(h:H P=some (.tbl #[])):Vp H P q:=⟨#[],h,trivial,fun pos cv z=>by cases z⟩
theorem kT{K:PySem.W.Frag}{c:Nat->Addr}{te:XK->TE}{σ:L2.St}{H:Hp}{Q:VK}{a t r Pa:Addr}{ns:List Int}{cc:Int}{q:Str}(i:Nat)(St:LawSt H a t r Pa q ns cc)(G:Kind K c i)
  (hte:∀(E:XK)(H0:Hp)(Q':VK),(∀b o,H b=some o->(∀ps,o≠ .tbl ps)->H0 b=some o)->(∀H',Qk H0 H'->E (.ref (c i)) none H')->te E σ H0 Q')
  (k:∀pw H',LawSt H' a t r Pa q ns cc->H' pw=some (.tup [.str (QaB i)])->(∀b o,H b=some o->(∀ps,o≠ .tbl ps)->H' b=some o)->H pw=none->Q (.ref pw) H'):
  QcJ Pa q (fun σ f c' H1 Q=>H1 c'=some (Kh c' q)/\tHd K c te σ H1 Q) σ H Q:=by
 refine⟨St.tab,fun fl c' H1 un code T1 keep=>⟨code,fun H2 S2=>hte _ _ _ (fun b o e n=>S2 _ _ (St.xo keep e n)) fun H3 S3=>⟨i,rfl,G,fun ex pw H4 hex S4 hpw=>?_⟩⟩⟩;have Sx:=S2.trans (S3.trans ((Qk.new hex).trans S4));have Sp:=Qk.new (o:=.tup [.str (QaB i)]) hpw;refine k pw _ (((St.lam keep T1).same Sx).same Sp) Qc (fun b o e n=>Sp _ _ (Sx _ _ (St.xo keep e n))) ?_;cases e:H pw with
 |none=>rfl
 |some o=>
  by_cases z:pw=Pa
  ·obtain⟨ps,h1,_⟩:=T1;have:=Sx _ _ h1;rw[←z,hpw]at this;cases this
  ·have:=Sx _ _ (keep _ _ e z);rw[hpw]at this;cases this
def Kp(H H':Hp):Prop:=∀b o,H b=some o->(∀ps,o≠ .tbl ps)->(∀kvs,o≠ .dK kvs)->H' b=some o
theorem Kp.refl(H:Hp):Kp H H:=fun b o e _ _=>e
theorem Kp.trans{H H1 H2:Hp}(a:Kp H H1)(b:Kp H1 H2):Kp H H2:=fun c o e n1 n2=>b c o (a c o e n1 n2) n1 n2
theorem Kp.of{H H1:Hp}(a:Qk H H1):Kp H H1:=fun c o e _ _=>a c o e
theorem Kp.lam{H H1:Hp}(a:∀b o,H b=some o->(∀ps,o≠ .tbl ps)->H1 b=some o):Kp H H1:=fun c o e n _=>a c o e n
theorem Kp.Qdv{H H1:Hp}{a t r Pa:Addr}{q:Str}{ns:List Int}{c:Int}(St:LawSt H a t r Pa q ns c)(A:Apart t r H H1):Kp H H1:=fun b o e _ n=>St.keep A e n
theorem Kp.tup{H H1:Hp}(a:Kp H H1){b:Addr}{xs:List V}(e:H b=some (.tup xs)):H1 b=some (.tup xs):=a b _ e (fun _ z=>nomatch z) (fun _ z=>nomatch z)
theorem Kp.lst{H H1:Hp}(a:Kp H H1){b:Addr}{xs:List V}(e:H b=some (.lst xs)):H1 b=some (.lst xs):=a b _ e (fun _ z=>nomatch z) (fun _ z=>nomatch z)
theorem Kp.deep{H H1:Hp}(a:Kp H H1){x:V}{d:Dv}(D:Deep H x d):Deep H1 x d:=D.keep fun b ys e=>a.tup e
theorem Kp.Qb2{H H1:Hp}(a:Kp H H1){xs:List V}{ds:List Dv}(D:Deeps H xs ds):Deeps H1 xs ds:=D.keep fun b ys e=>a.tup e
theorem slM{x:V}{H:Hp}{Q:VK}{ds:List Dv}(hne:ds≠[])(hx:Deep H x (.tup ds))(k:∀v H',Qk H H'->Deep H' v (.tup (ds.take (ds.length-1)))->Q v H'):yj x none (some (-1)) H Q:=by
 obtain⟨a,xs,rfl,h1,t1⟩:=hx.X0;have l1:=t1.length;have hp:0<ds.length:=List.length_pos_iff.mpr hne;have e1:HT.sIx xs.length xs.length (some (-1))=xs.length-1:=by
  show(if(-1:Int)<0 then(-1+(xs.length:Int)).toNat else min (-1:Int).toNat xs.length)=_;rw[if_pos (by decide)];omega
 refine⟨a,xs,rfl,.inl h1,fun z=>?_,fun _ p hp=>?_⟩
 ·rw[e1]at z;omega
 ·have S:=Qk.new (o:=.tup (VB xs none (some (-1)))) hp;have t2:Deeps H (VB xs none (some (-1))) (ds.take (ds.length-1)):=by
   have e:VB xs none (some (-1))=xs.take (xs.length-1):=by
    unfold VB;rw[e1,HT.VX,List.drop_zero,Nat.sub_zero]
   rw[e,l1];exact t1.take _
  exact k _ _ S (.tup Qc (t2.same S))
theorem kU{σ:L2.St}{H0:Hp}{t:TA}{ds:List Wx}{te:TE}{v:V}{d:Wx}(h1:∀(H:Hp)(R:VK),R v H->te σ H R) (hd:∀H,Ws H v d) (h:TaW σ H0 t ds):TaW σ H0 (QX te t) (d::ds):=fun H R S0 k=>h1 H _ (h H _ S0 fun xs H1 S t=>k _ _ S (.cons (hd H1) t))
def abc(k:Nat):Str:=if k=0 then "a" else "b"
def od(k j:Nat):List Step:=[("zz",none),("a",some 0),("b",some 5),("a",none),("b",none),("c",some (-1)),("d",some 1),(abc k,some (1+(j:Int)))]
theorem Qb3(k j:Nat):(od k j).length=8:=rfl
def odW(k j:Nat):List Wx:=[.str "zz",.tup [.str "a",.int 0],.tup [.str "b",.int 5],.str "a",.str "b",.tup [.str "c",.int (-1)],.tup [.str "d",.int 1],.tup [.str (abc k),.int (1+(j:Int))]]
theorem Qb4(k j:Nat):odW k j=(od k j).map fun s=>toW (Je s):=by
 simp only[odW,od,List.map_cons,List.map_nil,Je,toW,Zr]
theorem cb2{r:List V->Hp->VK->Prop}{te te2:TE}{σ:L2.St}{H:Hp}{Q:VK}(h:te σ H fun v H1=>te2 σ H1 fun w H2=>r [v,w] H2 Q):tCB r (QX te (QX te2 Wq)) σ H Q:=h
theorem Qb5{k:Nat}(hk:k<2):atI ("abc":Str).cps.toList (0+(k:Int))=some (if k=0 then 97 else 98):=by
 obtain rfl|rfl:k=0\/k=1:=by omega
 ·decide+kernel
 ·decide+kernel
theorem QaR{k:Nat}:(⟨#[if k=0 then 97 else 98]⟩:Str)=abc k:=by
 unfold abc
 split
 ·decide+kernel
 ·decide+kernel
theorem kW{H:Hp}{xs:List V}{ss:List Step}(h:Wss H xs (ss.map fun s=>toW (Je s))):Deeps H xs (ss.map Je):=by
 refine Wss.deep ?_;rw[YD,List.map_map];exact h
theorem zu(st:Step):(Je st).depth<=1:=by
 obtain⟨nm,o⟩:=st;cases o with
 |none=>exact Jk _ _
 |some i=>
  refine Q9 (n:=0) fun d hd=>?_;simp only[List.mem_cons,List.not_mem_nil,or_false]at hd;rcases hd with rfl|rfl
  ·exact Jk _ _
  ·unfold Dv.depth;omega
theorem VT(ss:List Step):(Jt ss).depth<=2:=Q9 (n:=1) fun d hd=>by
 obtain⟨st,_,rfl⟩:=List.mem_map.mp hd;exact zu st
theorem vS{ps:List (List Step)}{p:List Step}(h:p∈ps):((ps.map Jt).any fun e=>e.eqb (Jt p))=true:=List.any_eq_true.mpr ⟨Jt p,List.mem_map.mpr ⟨p,h,rfl⟩,Dv.Xt _⟩
theorem qF(n:Nat)(y:Ly):(UB n y).depth<=16:=by
 have h:(UB n y).depth<=0+1:=Q9 (n:=0) fun d hd=>by
  simp only[List.mem_cons,List.not_mem_nil,or_false]at hd;rcases hd with rfl|rfl|rfl
  ·unfold Dv.depth;omega
  ·unfold Dv.depth;omega
  ·cases y<;>unfold qt<;>unfold Dv.depth<;>omega
 omega
theorem UI{c:Nat->Addr}{vs:List V}{H:Hp}{Q Q':VK}{E E':XK}(hE:∀cls x H,E cls x H->E' cls x H) (hQ:∀v H,Q v H->Q' v H) (h:ZV c vs H Q E):ZV c vs H Q' E':=by
 obtain⟨iv,wv,its,ss,e,D1,D2,hb,hl,h⟩:=h;refine⟨iv,wv,its,ss,e,D1,D2,hb,hl,?_⟩;rcases h with⟨n,y,hr,k⟩|⟨hno,k⟩
 ·exact .inl ⟨n,y,hr,fun u H' S D=>hQ _ _ (k u H' S D)⟩
 ·exact .inr ⟨hno,fun H' S=>hE _ _ _ (k H' S)⟩
theorem yo{H:Hp}{v:V}(h:Deep H v .non):v=.non:=by cases h;rfl
theorem KitL.of{K:PySem.W.Frag}(t1:PySem.W.kitOne K (.type "NoneType") (.type "tuple")=some false)(t2:PySem.W.kitOne K (.type "bool") (.type "tuple")=some false)(t3:PySem.W.kitOne K (.type "int") (.type "tuple")=some false)(t4:PySem.W.kitOne K (.type "str") (.type "tuple")=some false)(t5:PySem.W.kitOne K (.type "tuple") (.type "tuple")=some true)(t6:PySem.W.kitOne K (.type "list") (.type "tuple")=some false)
  (s1:PySem.W.kitOne K (.type "NoneType") (.type "str")=some false) (s2:PySem.W.kitOne K (.type "bool") (.type "str")=some false) (s3:PySem.W.kitOne K (.type "int") (.type "str")=some false) (s4:PySem.W.kitOne K (.type "str") (.type "str")=some true) (s5:PySem.W.kitOne K (.type "tuple") (.type "str")=some false) (s6:PySem.W.kitOne K (.type "list") (.type "str")=some false)
  (ii:PySem.W.kitOne K (.type "int") (.type "int")=some true) (bi:PySem.W.kitOne K (.type "bool") (.type "int")=some true) (ib:PySem.W.kitOne K (.type "int") (.type "bool")=some false) (bb:PySem.W.kitOne K (.type "bool") (.type "bool")=some true):KitL K:=
 ⟨fun d=>by cases d<;>assumption,fun d=>by cases d<;>assumption,ii,bi,ib,bb⟩
section
variable {P:Program}{w:World}{K:PySem.W.Frag}{mg:Str->Option Value}{base:Heap}{f:Addr}{fd:FuncData}{tk:Nat->Tok}{c kr:Nat->Addr}
def Qdc:Sp:=fun vs H Q _=>∃(a b:Bool),vs=[.bl a,.bl b]/\Q (.bl (a==b)) H
theorem zw(F:Fun K "_law_is" "_law_is" W4 f fd)(O:Own mg)(KT:KitL K):FnOk P w K mg base (CXE P w) 1 f fd ["_law_told","_law_due"] Qdc:=by
 refine WQ F j0 (fun vs H Q E h=>?_) (fun cdv A outer s H vs Q E hr h=>?_)
 ·obtain⟨a,b,rfl,_⟩:=h;rfl
 ·obtain⟨a,b,rfl,k⟩:=h;refine⟨_,(Qt (QE (PEx.mk (ZJ (Ql QI rfl O.isi PyProof.Rows.boot_isinstance (Qw (pv 0) (Qw (Zi (v:=V.ty "bool") rfl O.bool PyProof.Rows.boot_bool rfl) Qb))) (XD (Jp QU (pv 0) (pv 1) (Qo _))))))),?_⟩;refine⟨_,rfl,_,_,true,rfl,rfl,.inl ⟨_,.bl _,KT.bb⟩,true,rfl,QH ⟨_,rfl,_,rfl,rfl,?_⟩⟩;have e:decide (V.bl a=V.bl b)=(a==b):=by cases a<;>cases b<;>rfl
  rw[e];exact k
end
section
variable {P:Program}{w:World}{K:PySem.W.Frag}{mg:Str->Option Value}{base:Heap}{f:Addr}{fd:FuncData}{tk:Nat->Tok}{c kr:Nat->Addr}{ca Pa fh:Addr}{fdh:FuncData}
set_option maxHeartbeats 8000000 in
theorem Qb6(F:FunC K "law" "law" Wn f fd (.ref ca))(O:Own mg)(OT:mg "tuple"=none)(OM:mg "min"=none)(T:Txt K mg tk c kr)(L:Lamb mg base ca Pa)(Fh:Fun K "_law_heard" "_law_heard" Q2 fh fdh)(hmh:mg "_law_heard"=some (.ref fh))(hbh:Binds K fdh ["_law_deed"] [])(G8:Kind K c 8)
  (D__law_class:Def P w K mg base 1 "_law_class" ["_law_kept"] (Vf K c)) (D__law_begun:Def P w K mg base 1 "_law_begun" [] UW) (D__law_draw:Def P w K mg base 1 "_law_draw" ["_law_script","_law_town","_law_many"] (WS K))
  (D__law_a_layout:Def P w K mg base 7 "_law_a_layout" ["_law_script","_law_town","_law_deep"] (Wk K 3)) (D__law_item_size:Def P w K mg base 4 "_law_item_size" ["_law_item"] (Vv 3)) (D__law_where_all:Def P w K mg base 7 "_law_where_all" ["_law_items","_law_begun_here"] (Wl 3)) (D__law_is:Def P w K mg base 1 "_law_is" ["_law_told","_law_due"] Qdc)
  (D_is_layout:Def P w K mg base 10 "is_layout" ["thing"] qC) (DK0_signs_in:DefK0 P w K mg base 8 "signs_in" "layout" Xj) (D_boxes:Def P w K mg base 4 "boxes" ["layout"] qw) (D_where:Def P w K mg base 12 "where" ["layout","path"] (ZV c)) (DK_where:DefK P w K mg base 12 "where" ["layout","path"] ["path"] (ZV c)):
  FnOk P w K mg base (CXE P w) 15 f fd ["_law_script"] (QaP Pa):=by
 refine QcL F J7 (fun vs H Q E h=>?_) (fun A outer s H vs Q E hr h=>?_)
 ·obtain⟨a,ns,rfl,_⟩:=h;rfl
 ·obtain⟨a,ns,rfl,hln,hO,hsc,k⟩:=h;have mono1:∀(σ:L2.St)(H:Hp)(Q Q':VK)(E E':XK),(∀cls x H,E cls x H->E' cls x H)->(∀v H,Q v H->Q' v H)->WI (ZV c) [] E (QX (XL 12) (QX (XL 13) Wq)) σ H Q->WI (ZV c) [] E' (QX (XL 12) (QX (XL 13) Wq)) σ H Q':=by
   rintro σ H Q Q' E E' hE hQ ⟨v1,e1,v2,e2,sp⟩;exact⟨v1,e1,v2,e2,UI hE hQ sp⟩
  have hz:100000<=sizeLine:=by rw[sizeLine_eq];decide
  refine⟨_,(Qr (QR (i:=1) J7.nd rfl (Or.inl rfl) (PEx.mk (D__law_begun.pe0 hr (by decide) rfl Qx)) rfl rfl)
   (Qr (ZU PassesOwn.never rfl (Z4 rfl O.range (Qw Qd Qb)) (Qh (i:=2) J7.nd rfl (Or.inl rfl)) (Qr (QR (i:=12) J7.nd rfl (Or.inr rfl) (PEx.mk (D__law_a_layout.pe hr (by decide) rfl Qx (Qw (pv 0) (Qw (pv 1) (Qw Qd Qb))))) rfl rfl)
   (Qr (QR (i:=3) J7.nd rfl (Or.inl rfl) (UH D__law_where_all hr (by decide) rfl Qx (QV (PEx.mk (pv 12)) (QV (PEx.mk Qd) QN rfl) rfl) rfl rfl rfl) rfl rfl)
   (Qr (Vm (QaO (vR (UH D__law_is hr (by decide) rfl Qx (QV (kS D_is_layout hr (by decide) rfl Qx (QV (PEx.mk (pv 12)) QN rfl) rfl rfl) (QV (PEx.mk Zs) QN rfl) rfl) rfl rfl rfl))) (Qt (QE (PEx.mk Zs))) Jb)
   (Qr (Vm (PTx.mk (Qi XA (DK0_signs_in.pe hr (by decide) rfl Qx (pv 12)) (Ql (Ww rfl) rfl O.sum L2.boot_sum (Qw (JU (NB:=[".0","_law_one"]) rfl ⟨rfl,by decide+kernel,by decide+kernel,by decide+kernel⟩ (Z3 (pv 12)) (fun _ _ _=>(Qh (i:=1) (show([".0","_law_one"]:List Str).Nodup by decide+kernel) rfl (Or.inl rfl))) (fun _ _ _=>J3) (fun _ _ _=>(D__law_item_size.pe hr (by decide) rfl Qx (Qw (pv 1) Qb)))) Qb)) (Qo _))) (Qt (QE (PEx.mk Zs))) Jb)
   (Qr (PSy.mk (Wy (NB:=[".0","_law_one"]) (iy:=4) rfl ⟨rfl,by decide+kernel,by decide+kernel,by decide+kernel⟩ (JG (pv 3)) (fun _ _ _=>(Qh (i:=1) (show([".0","_law_one"]:List Str).Nodup by decide+kernel) rfl (Or.inl rfl))) (fun _ _ _=>(V5 (XC (zB (Qv Qq (pv 1) Qd (fun _ _=>rfl)))))) (fun _ _ _=>(pv 1)) J7.nd rfl (Or.inl rfl) rfl))
   (Qr (Vm (PTx.mk (Qi (Yv (n:=16) (YB hr)) (D_boxes.pe hr (by decide) rfl Qx (Qw (pv 12) Qb)) (Ka Kb rfl OT PyProof.Rows.boot_tuple (Qw (JU (NB:=[".0","_law_one"]) rfl ⟨rfl,by decide+kernel,by decide+kernel,by decide+kernel⟩ (JG (pv 4)) (fun _ _ _=>(Qh (i:=1) (show([".0","_law_one"]:List Str).Nodup by decide+kernel) rfl (Or.inl rfl))) (fun _ _ _=>J3) (fun _ _ _=>(Qv Qq (pv 1) Qd (fun _ _=>rfl)))) Qb)) (Qo _))) (Qt (QE (PEx.mk Zs))) Jb)
   (Qr (ZU PassesOwn.never rfl (JG (pv 3)) (Q8 rfl (Qj (Qh (i:=5) J7.nd rfl (Or.inl rfl)) (Qj (Qh (i:=6) J7.nd rfl (Or.inl rfl)) (Qj (Qh (i:=7) J7.nd rfl (Or.inl rfl)) (Qj (Qh (i:=8) J7.nd rfl (Or.inl rfl)) QK))))) (Qt (Vm (PTx.mk (Qi (Yv (n:=16) (YB hr)) (D_where.pe hr (by decide) rfl Qx (Qw (pv 12) (Qw (pv 5) Qb))) (Qz (Qw (pv 6) (Qw (pv 7) (Qw (pv 8) Qb)))) (Qo _))) (Qt (QE (PEx.mk Zs))) Jb)) (fun _=>rfl))
   (Qr (PSy.mk (Wy (NB:=[".0","_law_one"]) (iy:=9) rfl ⟨rfl,by decide+kernel,by decide+kernel,by decide+kernel⟩ (JG (pv 3)) (fun _ _ _=>(Qh (i:=1) (show([".0","_law_one"]:List Str).Nodup by decide+kernel) rfl (Or.inl rfl))) (fun _ _ _=>J3) (fun _ _ _=>(Qv Qq (pv 1) Qd (fun _ _=>rfl))) J7.nd rfl (Or.inl rfl) rfl))
   (Qt (ZU PassesOwn.never rfl (Z4 rfl O.range (Qw Qd Qb)) (Qh (i:=10) J7.nd rfl (Or.inl rfl)) (Qr (QR (i:=5) J7.nd rfl (Or.inl rfl) (PEx.mk (Qv Yx (pv 9) (D__law_draw.pe hr (by decide) rfl Qx (Qw (pv 0) (Qw (pv 1) (Qw (Ql Qu rfl O.len PySem.boot_len (Qw (pv 9) Qb)) Qb)))) (fun _ _=>rfl))) rfl rfl)
   (Qr (QR (i:=4) J7.nd rfl (Or.inl rfl) (XR (QV (PEx.mk Qm) (QV (Js (QV (PEx.mk Qm) (QV (PEx.mk Qd) QN rfl) rfl)) (QV (Js (QV (PEx.mk Qm) (QV (PEx.mk Qd) QN rfl) rfl)) (QV (PEx.mk Qm) (QV (PEx.mk Qm) (QV (Js (QV (PEx.mk Qm) (QV (PEx.mk (YZ Wc Qd)) QN rfl) rfl)) (QV (Js (QV (PEx.mk Qm) (QV (PEx.mk Qd) QN rfl) rfl)) (QV (Js (QV (PEx.mk (Qv zR Qm (pv 2) (fun _ _=>rfl))) (QV (Ux Jl (PEx.mk Qd) (PEx.mk (pv 10))) QN rfl) rfl)) QN rfl) rfl) rfl) rfl) rfl) rfl) rfl) rfl)) rfl rfl)
   (Qr (QR (i:=11) J7.nd rfl (Or.inl rfl) (PEx.mk (Qv Yx (pv 4) (Ql (zK rfl) rfl OM PyProof.Rows.boot_min (Qw Qd (Qw (D__law_draw.pe hr (by decide) rfl Qx (Qw (pv 0) (Qw (pv 1) (Qw Qd Qb)))) Qb))) (fun _ _=>rfl))) rfl rfl)
   (Qt (ZU PassesOwn.never rfl (JG (Zt (Qw (QM Xg (pv 5) (Qz (Qw (pv 11) Qb))) (Qw (QM Xg (Zu x8 (pv 5) WJ (Zn (YZ Wc Qd))) (Qz (Qw (pv 11) Qb))) (Qw (Qz Qb) Qb))))) (Qh (i:=13) J7.nd rfl (Or.inr rfl)) (Qt (Vm (PTx.mk (PW.pt (Zl (Qi (qE (n:=7) (QbL hr)) (pv 13) (pv 9) (by with_unfolding_all rfl)) (J2 (Qi (Yv (n:=16) (YB hr)) (vD (K0:=K) (q:=qq) rfl Fh hmh hbh T D__law_class hr rfl L rfl rfl rfl (fun _=>rfl) rfl rfl rfl (by decide+kernel) rfl (fun _ _ _ _=>rfl) (fun _ _ _ _ _ _ _ _ hr2=>(DK_where.pe hr2 (by decide) rfl (JH ww) (Qw (pv 12) Qb) (zN (pv 13) vY))) mono1) (Qz (Qw Qm Qb)) (Qo _)))))) (Qt (QE (PEx.mk Zs))) Jb)) (fun _=>rfl)))))) (fun _=>rfl))))))))))) (fun _=>rfl))
   (Qt (QE (PEx.mk Zs))))),?_⟩
  refine⟨rfl,fun t r H1 ht hr1 T1 S1=>?_⟩;have St1:LawSt H1 a t r Pa qq ns 0:=⟨let ⟨o,h⟩:=hsc;⟨o,S1 _ _ h⟩,⟨[],T1⟩,(QaQ hO.1).same S1,hln⟩;clear T1 S1 ht hr1 hsc hO;dsimp only[QJ,JS,ZI,QQ];refine⟨2,rfl,by decide,by decide,VS (n:=2) (fun i σ H3=>∃(y2 y3 y4 y5 y6 y7 y8 y9 y10 y11 y12 y13:Option V)(c3:Int),σ=[some (.ref a),some (.ref t),y2,y3,y4,y5,y6,y7,y8,y9,y10,y11,y12,y13]/\LawSt H3 a t r Pa qq ns c3/\c3<=500*i) ⟨none,none,none,none,none,none,none,none,none,none,none,none,0,rfl,St1,by decide⟩ ?_ ?_⟩;rotate_left
  ·rintro σ H2 _;exact k _
  clear St1 H1;rintro N0 Bk0 Rt0 kk σ H2 hN0 hkk ⟨y2,y3,y4,y5,y6,y7,y8,y9,y10,y11,y12,y13,c2,rfl,St2,hc2⟩;refine kR fun N1 n1=>?_
  try dsimp only[QJ,JS,QQ]
  have hcb:cb 2=420:=rfl;refine⟨_,rfl,_,rfl,a,t,r,ns,c2,2,rfl,by decide,by decide,St2.bag,by omega,fun v H3 its c3 B3 hc3 A3 DI G=>?_⟩;obtain⟨rs3,T3⟩:=B3.tw;have St3:=St2.drawn A3 T3;clear St2 B3 A3 T3;have bd:=X5 2 its G;have hcn:cnL its<=84:=bd.cn;have hwt:wtL its<=628:=bd.wt;have hdp:dpL its<=2:=bd.dp;have hs6:=Vg 2 its G;have hbd:LyBd its:=⟨by omega,bd.ok⟩;obtain⟨hne,hp,_⟩:=(ZW 2 its).mp G;have hlen:=hp.len;refine n1 _ _ (kR fun N2 n2=>?_)
  try dsimp only[QJ,JS,QQ]
  refine⟨_,rfl,v,its,0,2,rfl,DI,by decide,by decide,G,fun q3 xs3 H4 S4 hq3 g3 t3=>?_⟩;have hwl:(waL its 0 0).length<=732:=KB 2 its G 0 0;have hsound:=WF 2 its G 0;have St4:=St3.same S4;have DI4:=DI.same S4;clear St3 DI;have l3:=t3.length;rw[List.length_map]at l3;obtain⟨gl1,gl2,gl3⟩:=vO G;refine n2 _ _ (kR fun N3 n3=>?_)
  try dsimp only[QJ,JS,QQ]
  refine⟨_,rfl,v,wR its,true,rfl,by rw[kE];exact DI4.ws,gl1,gl2,gl3,fun H5 S5=>⟨true,true,rfl,true,rfl,QG ?_⟩⟩;have St5:=St4.same S5;have DI5:=DI4.same S5;have g5:=S5 _ _ g3;have t5:=t3.same S5;clear St4 DI4 g3 t3 S4 S5 hq3;refine n3 _ _ (kR fun N4 n4=>?_);dsimp only[QJ,JS,QQ,QaT,jG,tOp];refine⟨_,rfl,v,its,rfl,DI5,by omega,bd.ok,fun H6 S6=>?_⟩;have St6:=St5.same S6;have DI6:=DI5.same S6;have g6:=S6 _ _ g5;have t6:=t5.same S6;clear St5 DI5 g5 t5 S6;refine cb1 ?_;obtain⟨ia,ix,rfl,gi,ti⟩:=Deep.X0 DI6;have ti2:=ti;rw[Q7]at ti2;have lix:=ti2.length;rw[List.length_map]at lix;refine Xh (xX (K:=K) (a:=ia) (xs:=ix)) (its.map fun x=>Dv.int (szI x:Nat)) (by rw[List.length_map];omega) (fun R h=>⟨_,rfl,ia,rfl,⟨_,.inl (.inl gi)⟩,h _ (Qk.refl _)⟩) (fun H1 S=>.inl (.inl (S _ _ gi))) ?_ ?_ (by omega)
  ·rintro i x H7 H8 dd R hd2 S ⟨rfl,hv⟩ kk2;obtain⟨dv,hdv,ddv⟩:=ti2.XZ hv;rw[List.getElem?_map]at hdv hd2;cases e:its[i]? with
   |none=>rw[e]at hdv;cases hdv
   |some z=>
    rw[e]at hdv hd2;obtain rfl:=Option.some.inj hdv;have hm:=List.mem_of_getElem? e;have h1:=YF e;have h2:=YH bd.ok hm;have h3:=YQ hm;refine⟨_,rfl,x,z,rfl,ddv.same S,by omega,by obtain⟨o,yy⟩:=z;rw[cnI]at h1;show yy.cn<=10000;omega,h2,YR hs6 hm,fun H9 S9=>kk2 _ _ S9 ?_⟩;rw[←Option.some.inj hd2];exact .int
  rintro zs H7' p7 S7 t7 hp7;have e:zs=(its.map fun x=>((szI x:Nat):Int)).map V.int:=Xv (ns:=its.map fun x=>((szI x:Nat):Int)) (by rw[List.map_map];exact t7);subst e;have S7:=S7.trans (Qk.new (o:=.lst ((its.map fun x=>((szI x:Nat):Int)).map V.int)) hp7);refine⟨p7,_,rfl,.inl (.inl Qc),?_⟩;rw[YS];refine⟨rfl,false,by simp,QG ?_⟩;generalize upd H7' p7 (.lst ((its.map fun x=>((szI x:Nat):Int)).map V.int))=H7 at S7;clear t7 hp7;have St7:=St6.same S7;have DI7:=DI6.same S7;have g7:=S7 _ _ g6;have t7:=t6.same S7;clear St6 g6 t6 gi ti ti2 S7;refine n4 _ _ (kR fun N5 n5=>?_)
  try dsimp only[QJ,JS,QQ]
  refine Xu (yh (K:=K) (a:=q3) (xs:=xs3)) (fun i vs H8=>Qk H7 H8/\Deeps H8 vs ((((waL its 0 0).take i).filter Vx).map waD)) (fun R h=>⟨_,rfl,q3,rfl,⟨_,.inl (.inl g7)⟩,h _ ⟨Qk.refl _,.nil⟩⟩) ?_ ?_ ?_ (by omega)
  ·rintro i vs H8 hi ⟨S,tt⟩;refine⟨.inl (.inl (S _ _ g7)),?_⟩;have h1:=tt.length;rw[List.length_map]at h1;have h2:=List.length_filter_le Vx ((waL its 0 0).take i);rw[List.length_take]at h2;omega
  ·rintro i x vs H8 H9 hi ⟨S,tt⟩ ⟨rfl,hv⟩;obtain⟨dv,hdv,ddv⟩:=t7.XZ hv;rw[List.getElem?_map]at hdv;cases e:(waL its 0 0)[i]? with
   |none=>rw[e]at hdv;cases hdv
   |some z=>
    rw[e]at hdv;obtain rfl:=Option.some.inj hdv;have ddv:=ddv.same S;obtain⟨qz,pv,zv,rfl,gz,Dpv,Dzv⟩:=KE ddv;refine⟨_,rfl,qz,_,3,_,rfl,rfl,.inl gz,rfl,Vx z,?_,?_⟩
    ·obtain⟨zp,zn,zy⟩:=z;cases zy with
     |box nm p=>obtain rfl:=Deep.YX (show Deep H9 zv (.str (Uy p))from Dzv);rfl
     |grp nm in_=>
      obtain rfl:zv=.non:=yo (show Deep H9 zv .non from Dzv);rfl
     |tab nm k1 in_=>
      obtain rfl:zv=.non:=yo (show Deep H9 zv .non from Dzv);rfl
    ·rw[List.take_add_one,e];cases hb:Vx z with
     |true=>
      refine QH ⟨_,rfl,S,?_⟩;have ef:((waL its 0 0).take i++(some z).toList).filter Vx=((waL its 0 0).take i).filter Vx++[z]:=by rw[List.filter_append];simp[hb]
      rw[ef,List.map_append];exact tt.append (.cons ddv .nil)
     |false=>
      refine QG ⟨S,?_⟩;have ef:((waL its 0 0).take i++(some z).toList).filter Vx=((waL its 0 0).take i).filter Vx:=by rw[List.filter_append];simp[hb]
      rw[ef];exact tt
  rintro vs8 H8' ⟨S8,t8⟩ q8 hq8;rw[List.take_of_length_le (by omega)]at t8;have S9:=Qk.new (o:=.lst vs8) hq8;have t9:=t8.same S9;have g9:upd H8' q8 (.lst vs8) q8=some (.lst vs8):=Qc;have S8:=S8.trans S9;generalize upd H8' q8 (.lst vs8)=H8 at S8 t9 g9;clear t8 hq8 S9;have St8:=St7.same S8;have DI8:=DI7.same S8;have g8:=S8 _ _ g7;have t8:=t7.same S8;clear St7 g7 t7 DI7 DI6 S8;have l9:=t9.length;rw[List.length_map]at l9;have lfl:=List.length_filter_le Vx (waL its 0 0);have hbx:bxL its []=((waL its 0 0).filter Vx).map (·.1):=by
   rw[jz its [] 0 0];exact List.map_congr_left fun x _=>List.nil_append _
  refine n5 _ _ (kR fun N6 n6=>?_)
  try dsimp only[QJ,JS,QQ]
  refine⟨_,rfl,.ref ia,its,rfl,DI8,by omega,bd.ok,fun u10 H10 S10 D10=>?_⟩;have St10:=St8.same S10;have DI10:=DI8.same S10;have g10:=S10 _ _ g8;have t10:=t8.same S10;have gb10:=S10 _ _ g9;have tb10:=t9.same S10;clear St8 DI8 g8 t8 g9 t9 S10;refine cb1 ?_;refine Xh (yh (K:=K) (a:=q8) (xs:=vs8)) ((((waL its 0 0).filter Vx).map (·.1)).map Jt) (by rw[List.length_map,List.length_map];omega) (fun R h=>⟨_,rfl,q8,rfl,⟨_,.inl (.inl gb10)⟩,h _ (Qk.refl _)⟩) (fun H1 S=>.inl (.inl (S _ _ gb10))) ?_ ?_ (by omega)
  ·rintro i x H11 H12 dd R hd2 S ⟨rfl,hv⟩ kk2;obtain⟨dv,hdv,ddv⟩:=tb10.XZ hv;rw[List.getElem?_map]at hdv;rw[List.getElem?_map,List.getElem?_map]at hd2;cases e:((waL its 0 0).filter Vx)[i]? with
   |none=>rw[e]at hdv;cases hdv
   |some z=>
    rw[e]at hdv hd2;obtain rfl:=Option.some.inj hdv;obtain⟨qz,pv,zv,rfl,gz,Dpv,Dzv⟩:=KE (ddv.same S);refine⟨_,rfl,qz,_,0,_,rfl,rfl,.inl gz,rfl,kk2 _ _ (Qk.refl _) ?_⟩;rw[←Option.some.inj hd2];exact Dpv
  rintro zs H11' p11 S11 t11 hp11;refine⟨p11,zs,rfl,.inl ⟨.inl (.inl Qc),fun l12 hl12=>?_⟩⟩;have S12:=S11.trans ((Qk.new (o:=.lst zs) hp11).trans (Qk.new (o:=.tup zs) hl12));have D12:=Yy (t11.same (Qk.new (o:=.lst zs) hp11)) hl12;have D10:=D10.same S12;generalize upd (upd H11' p11 (.lst zs)) l12 (.tup zs)=H12 at S12 D12 D10;clear t11 hp11 hl12 S11;refine⟨_,_,D10,D12,?_,false,?_,QG ?_⟩
  ·have:=Q9 (n:=2) (ds:=(bxL its []).map Jt) fun d hd=>by
    obtain⟨ss,_,rfl⟩:=List.mem_map.mp hd;exact VT ss
   omega
  ·rw[hbx,Dv.Xt];rfl
  have St12:=St10.same S12;have DI12:=DI10.same S12;have g12:=S12 _ _ g10;have t12:=t10.same S12;clear St10 DI10 g10 t10 gb10 tb10 S12 D12 D10 hbx;refine n6 _ _ (kR fun N7 n7=>?_)
  try dsimp only[QJ,JS,QQ]
  refine⟨_,rfl,q3,rfl,⟨_,.inl (.inl g12)⟩,?_⟩;refine KC (yh (K:=K) (a:=q3) (xs:=xs3)) (fun i σ H13=>∃(y5 y6 y7 y8:Option V),σ=[some (.ref a),some (.ref t),some (.int (0+(kk:Int))),some (.ref q3),some (.ref q8),y5,y6,y7,y8,y9,y10,y11,some (.ref ia),y13]/\Qk H12 H13) ⟨y5,y6,y7,y8,rfl,Qk.refl _⟩ ?_ ?_ ?_
  ·rintro i σ H13 _ ⟨y5,y6,y7,y8,rfl,S13⟩;exact .inl (.inl (S13 _ _ g12))
  ·rintro N20 Bk20 Rt20 i x σ H130 H13 hN20 hi ⟨y5,y6,y7,y8,rfl,S13⟩ ⟨rfl,hx⟩;obtain⟨dz,hdz,Dz⟩:=t12.XZ hx;rw[List.getElem?_map]at hdz;cases e:(waL its 0 0)[i]? with
   |none=>rw[e]at hdz;cases hdz
   |some z=>
    rw[e]at hdz;obtain rfl:=Option.some.inj hdz;obtain⟨qz,pv,zv,rfl,gz,Dpv,Dzv⟩:=KE (Dz.same S13);obtain⟨n,hres,hzn,hzl⟩:=hsound z (List.mem_of_getElem? e);refine⟨qz,_,rfl,.inl (.inl gz),rfl,_,_,rfl,_,_,rfl,_,_,rfl,_,_,rfl,rfl,?_⟩;dsimp only[QJ,JS,ZI,QQ];refine⟨_,rfl,_,rfl,.ref ia,pv,its,z.1,rfl,DI12.same S13,Dpv,hbd,by omega,.inl ⟨n,z.2.2,hres,fun u14 H14 S14 D14=>?_⟩⟩;refine⟨_,rfl,_,rfl,_,rfl,by show 3<=sizeLine;omega,fun p15 hp15=>?_⟩;have S15:=Qk.new (o:=.tup [.int (z.2.1:Nat),.int (Zq z.2.2:Nat),zv]) hp15;refine⟨UB n z.2.2,UB n z.2.2,D14.same S15,.tup Qc (.cons ?_ (.cons .int (.cons ((Dzv.same S14).same S15) .nil))),qF _ _,false,?_,QG ?_⟩
    ·rw[hzn,Nat.zero_add];exact .int
    ·rw[Dv.Xt];rfl
    ·exact hN20 _ _ ⟨_,_,_,_,rfl,(S13.trans S14).trans S15⟩
  rintro σ H13 ⟨z5,z6,z7,z8,rfl,S13⟩;have St13:=St12.same S13;have DI13:=DI12.same S13;have g13:=S13 _ _ g12;have t13:=t12.same S13;clear St12 DI12 g12 t12 S13 y5 y6 y7 y8;refine n7 _ _ (kR fun N8 n8=>?_)
  try dsimp only[QJ,JS,QQ]
  refine Xh (yh (K:=K) (a:=q3) (xs:=xs3)) (((waL its 0 0).map (·.1)).map Jt) (by rw[List.length_map,List.length_map];omega) (fun R h=>⟨_,rfl,q3,rfl,⟨_,.inl (.inl g13)⟩,h _ (Qk.refl _)⟩) (fun H1 S=>.inl (.inl (S _ _ g13))) ?_ ?_ (by omega)
  ·rintro i x H14 H15 dd R hd2 S ⟨rfl,hv⟩ kk2;obtain⟨dv,hdv,ddv⟩:=t13.XZ hv;rw[List.getElem?_map]at hdv;rw[List.getElem?_map,List.getElem?_map]at hd2;cases e:(waL its 0 0)[i]? with
   |none=>rw[e]at hdv;cases hdv
   |some z=>
    rw[e]at hdv hd2;obtain rfl:=Option.some.inj hdv;obtain⟨qz,pv,zv,rfl,gz,Dpv,Dzv⟩:=KE (ddv.same S);refine⟨_,rfl,qz,_,0,_,rfl,rfl,.inl gz,rfl,kk2 _ _ (Qk.refl _) ?_⟩;rw[←Option.some.inj hd2];exact Dpv
  rintro ps H14' q9 S14 t14 hq9;have S14:=S14.trans (Qk.new (o:=.lst ps) hq9);have t9:=t14.same (Qk.new (o:=.lst ps) hq9);have g9:upd H14' q9 (.lst ps) q9=some (.lst ps):=Qc;generalize upd H14' q9 (.lst ps)=Hb at S14 t9 g9;have St:=St13.same S14;have DI:=DI13.same S14;clear t14 hq9 St13 DI13 g13 t13 S14;have l9:=t9.length;rw[List.length_map,List.length_map]at l9;have hwp:0<(waL its 0 0).length:=by
   cases its with
   |nil=>exact absurd rfl hne
   |cons x xs=>
    rw[WE,List.length_append];have:0<(x.2.wa (if x.1=true then 0 else 0)).length:=by
     obtain⟨o,y⟩:=x;have hy:Vw 2 y:=((ZW 2 _).mp G).2.2 (o,y) List.mem_cons_self;rcases hy with⟨nm,p,rfl,_⟩|⟨nm,in_,rfl,_⟩|⟨nm,k1,in_,rfl,h1,_,_⟩
     ·show 0<((Ly.box nm p).wa _).length;rw[Ly.wa];exact Nat.zero_lt_one
     ·show 0<((Ly.grp nm in_).wa _).length;rw[Ly.wa];exact Nat.zero_lt_succ _
     ·show 0<((Ly.tab nm k1 in_).wa _).length;rw[Ly.wa];obtain⟨k',rfl⟩:∃k',k1=k'+1:=⟨k1-1,by omega⟩;rw[List.range_succ_eq_map,List.flatMap_cons];simp
    omega
  refine n8 _ _ ?_
  try dsimp only[QJ,JS,QQ]
  refine⟨4,rfl,by decide,by decide,VS (n:=4) (fun j σ H15=>∃(y4 y5 y6 y7 y8 y10 y11 y13:Option V)(c4:Int),σ=[some (.ref a),some (.ref t),some (.int (0+(kk:Int))),some (.ref q3),y4,y5,y6,y7,y8,some (.ref q9),y10,y11,some (.ref ia),y13]/\LawSt H15 a t r Pa qq ns c4/\c4<=c3+2*j/\Kp Hb H15) ⟨some (.ref q8),z5,z6,z7,z8,y10,y11,y13,c3,rfl,St,by omega,Kp.refl _⟩ ?_ ?_⟩;rotate_left
  ·rintro σ H15 ⟨y4,y5,y6,y7,y8,y10,y11,y13,c4,rfl,St15,hc4,_⟩;exact hN0 _ _ ⟨_,_,_,_,_,_,_,_,_,_,_,_,c4,rfl,St15,by push_cast;omega⟩
  clear St z5 z6 z7 z8 y10 y11 y13;rintro N9 Bk9 Rt9 j σ H15 hN9 hj ⟨y4,y5,y6,y7,y8,y10,y11,y13,c4,rfl,St15,hc4,K15⟩;refine kR fun N10 n10=>?_
  try dsimp only[QJ,JS,QQ]
  refine⟨_,rfl,?_⟩;refine St15.bag.draw (K:=K) (n:=((ps.length:Nat):Int)) rfl rfl (fun R h=>⟨_,rfl,q9,_,rfl,.inl (.inl (.inl (K15.lst g9))),h⟩) (by omega) (by omega) (by omega) fun d H16 hd B16 A16=>?_;obtain⟨rs16,T16⟩:=B16.tw;have St16:=St15.drawn A16 T16;have K16:=K15.trans (Kp.Qdv St15 A16);clear B16 A16 T16 St15 K15;obtain⟨pv,hpv⟩:∃pv,ps[d]? =some pv:=⟨_,List.getElem?_eq_getElem (by omega)⟩;obtain⟨pd,hpd,Dpv⟩:=t9.XZ hpv;obtain⟨ss,hss,rfl⟩:∃ss,ss∈(waL its 0 0).map (·.1)/\Jt ss=pd:=by
   have:=List.mem_of_getElem? hpd;obtain⟨ss,h1,h2⟩:=List.mem_map.mp this;exact⟨ss,h1,h2⟩
  obtain⟨hsl,hsn⟩:ss.length<=3/\ss≠[]:=by
   obtain⟨z,hz1,rfl⟩:=List.mem_map.mp hss;obtain⟨n,h1,h2,h3⟩:=hsound z hz1;exact⟨h3,h1.ne⟩
  refine⟨q9,ps,d,pv,rfl,rfl,.inl (K16.lst g9),QL hpv,?_⟩;refine n10 _ _ (kR fun N11 n11=>?_)
  try dsimp only[QJ,JS,QQ]
  refine Qc0 (ds:=odW kk j) (H0:=H16) (X2 (Vc (X2 (qi KY)) (by show 2<=sizeLine;omega) (Vc (X2 (qi KY)) (by show 2<=sizeLine;omega) (X2 (X2 (Vc (X2 (kU (v:=.int (-1)) (fun H R h=>⟨1,rfl,h⟩) (fun H=>.int) KY)) (by show 2<=sizeLine;omega) (Vc (X2 (qi KY)) (by show 2<=sizeLine;omega) (Vc (kU (v:=.str (abc kk)) (fun H R h=>⟨_,rfl,"abc",_,_,rfl,rfl,Nat.le_trans (show("abc":Str).length<=3 by decide+kernel) (by omega),Qb5 hkk,by rw[QaR];exact h⟩) (fun H=>.str) (kU (v:=.int (1+(j:Int))) (fun H R h=>⟨_,rfl,_,_,rfl,rfl,by rw[Int.zero_add];exact h⟩) (fun H=>.int) KY)) (by show 2<=sizeLine;omega) KY)))))))) (Qk.refl _) (by show 8<=sizeLine;omega) fun q4 os H17 S17 hq4 g17 t17=>?_;rw[Qb4]at t17;have t17:=kW t17;have St17:=St16.same S17;have K17:=K16.trans (Kp.of S17);clear St16 K16 S17 hq4;have l17:=t17.length;rw[List.length_map,Qb3]at l17;refine n11 _ _ (kR fun N12 n12=>?_)
  try dsimp only[QJ,JS,QQ]
  refine⟨_,rfl,cb2 ?_⟩;dsimp only[tC];refine St17.bag.draw (K:=K) (n:=12) rfl rfl (fun R h=>h) (by omega) (by omega) (by omega) fun d2 H18 hd2 B18 A18=>?_;obtain⟨rs18,T18⟩:=B18.tw;have St18:=St17.drawn A18 T18;have Kt18:=Kp.Qdv St17 A18;have K18:=K17.trans Kt18;have g18:=Kt18.lst g17;have t18:=Kt18.Qb2 t17;clear B18 A18 T18 St17 K17 Kt18 g17 t17;obtain⟨m,hm,hm8⟩:∃m:Nat,(if((d2:Nat):Int)<7 then((d2:Nat):Int)else 7)=(m:Int)/\m<8:=by
   by_cases h:((d2:Nat):Int)<7
   ·exact⟨d2,by rw[if_pos h],by omega⟩
   ·exact⟨7,by rw[if_neg h];rfl,by omega⟩
  refine⟨7,_,rfl,?_⟩;rw[hm];obtain⟨ov,hov⟩:∃ov,os[m]? =some ov:=⟨_,List.getElem?_eq_getElem (by omega)⟩;obtain⟨odv,hodv,Dov⟩:=t18.XZ hov;obtain⟨st,rfl⟩:∃st,Je st=odv:=by
   obtain⟨st,_,h2⟩:=List.mem_map.mp (List.mem_of_getElem? hodv);exact⟨st,h2⟩
  refine⟨q4,os,m,ov,rfl,rfl,.inl g18,QL hov,?_⟩;have Dp18:=K18.deep Dpv;obtain⟨pa,px,rfl,gp,tp⟩:=Deep.X0 (show Deep H18 pv (.tup (ss.map Je))from Dp18);have lpx:=tp.length;rw[List.length_map]at lpx;refine n12 _ _ ?_
  try dsimp only[QJ,JS,QQ]
  refine⟨_,rfl,_,rfl,by show 1<=sizeLine;omega,fun p1 hp1=>?_⟩;have S1:=Qk.new (o:=.tup [ov]) hp1;refine UA (ds:=ss.map Je) (es:=[Je st]) (S1 _ _ gp) Qc (tp.same S1) (.cons (Dov.same S1) .nil) (by show px.length+1<=sizeLine;omega) fun u1 H19 S2 D19=>?_;have S19:=S1.trans S2;refine⟨_,rfl,_,rfl,_,rfl,?_⟩;refine slM (ds:=ss.map Je) (by simpa using hsn) (Dp18.same S19) fun u2 H20 S20 D20=>?_;have S1820:=S19.trans S20;refine⟨_,rfl,by show 1<=sizeLine;omega,fun p2 hp2=>?_⟩;have S3:=Qk.new (o:=.tup [ov]) hp2;obtain⟨pb,pbx,rfl,gpb,tpb⟩:=Deep.X0 D20;have lpb:=tpb.length;rw[List.length_take,List.length_map]at lpb;refine UA (es:=[Je st]) (S3 _ _ gpb) Qc (tpb.same S3) (.cons (Dov.same (S1820.trans S3)) .nil) (by show pbx.length+1<=sizeLine;omega) fun u3 H21 S21 D21=>?_;have S1921:=(S20.trans S3).trans S21;have S1821:=S19.trans S1921;refine⟨by show 0<=sizeLine;omega,fun p3 hp3=>⟨by show 3<=sizeLine;omega,fun l hl=>?_⟩⟩;have S4:=Qk.new (o:=.tup []) hp3;have S5:=Qk.new (o:=.lst [u1,u3,.ref p3]) hl;have tl:Deeps (upd (upd H21 p3 (.tup [])) l (.lst [u1,u3,.ref p3])) [u1,u3,.ref p3] ([ss++[st],ss.take (ss.length-1)++[st],[]].map Jt):=by
   refine .cons ?_ (.cons ?_ (.cons ?_ .nil))
   ·have:=((D19.same S1921).same S4).same S5;rw[Xk]at this;exact this
   ·have:=(D21.same S4).same S5;rw[List.length_map, ←List.map_take,Xk]at this;exact this
   ·exact(Deep.tup Qc .nil).same S5
  have gl:upd (upd H21 p3 (.tup [])) l (.lst [u1,u3,.ref p3]) l=some (.lst [u1,u3,.ref p3]):=Qc;have S22:=(S1821.trans S4).trans S5;generalize upd (upd H21 p3 (.tup [])) l (.lst [u1,u3,.ref p3])=Hc at tl gl S22;have Stc:=St18.same S22;have Kc:=K18.trans (Kp.of S22);clear St18 K18 S1 S2 S3 S4 S5 S19 S20 S21 S1820 S1821 S1921 S22 hp1 hp2 hp3 hl gp tp gpb tpb D19 D20 D21 Dp18 g18 t18 Dov;refine⟨l,rfl,⟨_,.inl (.inl gl)⟩,?_⟩;refine KC (yh (K:=K) (a:=l) (xs:=[u1,u3,.ref p3])) (fun i σ H23=>∃(y13:Option V),σ=[some (.ref a),some (.ref t),some (.int (0+(kk:Int))),some (.ref q3),some (.ref q4),some (.ref pa),y6,y7,y8,some (.ref q9),some (.int (0+(j:Int))),some ov,some (.ref ia),y13]/\LawSt H23 a t r Pa qq ns (c4+1+1)/\Kp Hc H23) ⟨y13,rfl,Stc,Kp.refl _⟩ ?_ ?_ ?_
  ·rintro i σ H23 _ ⟨y13,rfl,_,K23⟩;exact .inl (.inl (K23.lst gl))
  rotate_left
  ·rintro σ H23 ⟨y13,rfl,St23,K23⟩;exact hN9 _ _ ⟨_,_,_,_,_,_,_,_,c4+1+1,rfl,St23,by push_cast;omega,Kc.trans K23⟩
  rintro N30 Bk30 Rt30 i x σ H230 H23 hN30 hi ⟨y13,rfl,St23,K23⟩ ⟨rfl,hx⟩;obtain⟨dx,hdx,Dx⟩:=tl.XZ hx;obtain⟨oth,hoth,rfl⟩:∃oth:List Step,oth.length<=4/\Jt oth=dx:=by
   obtain⟨oth,h1,h2⟩:=List.mem_map.mp (List.mem_of_getElem? hdx);refine⟨oth,?_,h2⟩;simp only[List.mem_cons,List.not_mem_nil,or_false]at h1;rcases h1 with rfl|rfl|rfl
   ·rw[List.length_append,List.length_singleton];omega
   ·rw[List.length_append,List.length_singleton,List.length_take];omega
   ·exact Nat.zero_le _
  have Dx23:=K23.deep Dx;have Kb23:=Kc.trans K23;dsimp only[QJ,JS,ZI,QQ];refine⟨_,rfl,_,rfl,Jt oth,_,q9,ps,Dx23,rfl,Kb23.lst g9,Kb23.Qb2 t9,fun e he=>?_,_,rfl,?_⟩
  ·obtain⟨s2,_,rfl⟩:=List.mem_map.mp he;exact Nat.le_trans (VT s2) (by decide)
  cases hany:(((waL its 0 0).map (·.1)).map Jt).any fun e=>e.eqb (Jt oth)with
  |true=>exact QG (QG (hN30 _ _ ⟨_,rfl,St23,K23⟩))
  |false=>
   have hno:oth=[]\/NoRes its oth:=by
    by_cases ho:oth=[]
    ·exact .inl ho
    ·rcases jy oth its ho with⟨n,y,hr2⟩|h
     ·obtain⟨m2,hm2⟩:=QaN hr2 0;have:=vS (ps:=(waL its 0 0).map (·.1)) (p:=oth) (List.mem_map.mpr ⟨_,hm2,rfl⟩);rw[this]at hany;cases hany
     ·exact .inr h
   refine QH ?_;refine kT 8 St23 G8 (fun E H0 Q' kp hE=>⟨_,rfl,_,rfl,.ref ia,x,its,oth,rfl,(Kp.lam kp).deep (Kb23.deep DI),(Kp.lam kp).deep Dx23,hbd,by omega,.inr ⟨hno,hE⟩⟩) fun pw H24 St24 gw keep _=>?_;have e8:QaB 8="no path":=by decide+kernel
   rw[e8]at gw;refine⟨by show 1<=sizeLine;omega,fun p25 hp25=>?_⟩;have S25:=Qk.new (o:=.tup [.str "no path"]) hp25;refine⟨.tup [.str "no path"],.tup [.str "no path"],(Deep.tup gw (.cons .str .nil)).same S25,.tup Qc (.cons .str .nil),?_,false,?_,QG ?_⟩
   ·have:=Q9 (n:=0) (ds:=[.str "no path"]) fun d hd=>by
     rw[List.mem_singleton.mp hd];exact Jk _ _
    omega
   ·rw[Dv.Xt];rfl
   ·exact hN30 _ _ ⟨_,rfl,St24.same S25,(K23.trans (Kp.lam keep)).trans (Kp.of S25)⟩
end
end Lw
namespace L2
open PySem PySem.Spec PyProof.Rows
section
variable {P:Program}{w:World}{K:PySem.W.Frag}{mg:Str->Option Value}{base h:Heap}{x:Str}{st:Stmt}{k:Nat}{sp:Sp}{p1 p2 p3 p4:Str}
theorem DefAt.d0(D:DefAt K x st)(X:K.In h)(G:h.Ns mainGlobals mg)(hok:∀f fd,Fun K x x st f fd->FnOk P w K mg base (CXE P w) k f fd [] sp)
  (hb:∀(kV doc pm:Value)(an:Option Addr)(cdv ct:Value),bindArgs (PySem.W.fnOf x x (Jy st) (Q0 st) (Qf st) .none kV doc pm an cdv ct) ⟨[],[]⟩=pure []):Def P w K mg base k x [] sp:=
 D.def X G hok fun kV doc pm an cdv ct us hl=>match us,hl with|[],_=>hb kV doc pm an cdv ct
theorem DefAt.d1(D:DefAt K x st)(X:K.In h)(G:h.Ns mainGlobals mg)(hok:∀f fd,Fun K x x st f fd->FnOk P w K mg base (CXE P w) k f fd [p1] sp)
  (hb:∀(kV doc pm:Value)(an:Option Addr)(cdv ct:Value)(u1:Value),bindArgs (PySem.W.fnOf x x (Jy st) (Q0 st) (Qf st) .none kV doc pm an cdv ct) ⟨[u1],[]⟩=pure [(p1,u1)]):Def P w K mg base k x [p1] sp:=
 D.def X G hok fun kV doc pm an cdv ct us hl=>match us,hl with|[u1],_=>hb kV doc pm an cdv ct u1
theorem DefAt.d2(D:DefAt K x st)(X:K.In h)(G:h.Ns mainGlobals mg)(hok:∀f fd,Fun K x x st f fd->FnOk P w K mg base (CXE P w) k f fd [p1,p2] sp)
  (hb:∀(kV doc pm:Value)(an:Option Addr)(cdv ct:Value)(u1 u2:Value),bindArgs (PySem.W.fnOf x x (Jy st) (Q0 st) (Qf st) .none kV doc pm an cdv ct) ⟨[u1,u2],[]⟩=pure [(p1,u1),(p2,u2)]):Def P w K mg base k x [p1,p2] sp:=
 D.def X G hok fun kV doc pm an cdv ct us hl=>match us,hl with|[u1,u2],_=>hb kV doc pm an cdv ct u1 u2
theorem DefAt.d3(D:DefAt K x st)(X:K.In h)(G:h.Ns mainGlobals mg)(hok:∀f fd,Fun K x x st f fd->FnOk P w K mg base (CXE P w) k f fd [p1,p2,p3] sp)
  (hb:∀(kV doc pm:Value)(an:Option Addr)(cdv ct:Value)(u1 u2 u3:Value),bindArgs (PySem.W.fnOf x x (Jy st) (Q0 st) (Qf st) .none kV doc pm an cdv ct) ⟨[u1,u2,u3],[]⟩=pure [(p1,u1),(p2,u2),(p3,u3)]):Def P w K mg base k x [p1,p2,p3] sp:=
 D.def X G hok fun kV doc pm an cdv ct us hl=>match us,hl with|[u1,u2,u3],_=>hb kV doc pm an cdv ct u1 u2 u3
end
theorem yp{K:PySem.W.Frag}{a:Addr}{xs:List V}{its:Array Value}{n:Nat}{od:Option Addr}{osl:Array (Option Value)}(l:K.lookup a=some ⟨.type "tuple",od,.seq its n,osl⟩)(z:its.size<=sizeLine)(v:Vals xs its.toList)(H:Hp):SqT K H a xs:=.inr ⟨_,its,n,l,rfl,rfl,z,v⟩
theorem kX{P:Program}{w:World}{K:PySem.W.Frag}{a:Addr}{h1 h2:Int}{x1 x2 y1 y2:Str}{t1 t2 u1 u2:Tok}{n:Nat}(ne:(a==sysModules)=false)(l:K.lookup a=some ⟨.type "dict",none,.dict #[⟨h1,.str x1 t1,.str y1 u1⟩,⟨h2,.str x2 t2,.str y2 u2⟩] n, #[]⟩)
  (e1:h1=Qcj w (.inr x1)) (e2:h2=Qcj w (.inr x2)) (hx:x1≠x2):KDict P w K a [(Sum.inr x1,.str y1),(Sum.inr x2,.str y2)]:=by
 refine⟨ne,fun h KX=>⟨[(Sum.inr x1,.str y1 u1),(Sum.inr x2,.str y2 u2)],.cons ⟨rfl,_,rfl⟩ (.cons ⟨rfl,_,rfl⟩ .nil),_,_,_,KX a _ l,⟨rfl,rfl,rfl⟩,rfl,fun e he=>?_,.cons (Zh P w x1 t1) rfl (.cons (Zh P w x2 t2) rfl .nil),?_⟩⟩
 ·have he:e=⟨h1,.str x1 t1,.str y1 u1⟩\/e=⟨h2,.str x2 t2,.str y2 u2⟩:=by simpa using he
  rcases he with rfl|rfl
  ·exact⟨_,Zh P w x1 t1,e1⟩
  ·exact⟨_,Zh P w x2 t2,e2⟩
 ·have hk:¬ (Sum.inr x1:Key)=Sum.inr x2:=fun q=>hx (Sum.inr.inj q);simp[hk]
end L2
namespace Lw
open PySem PySem.Spec PyProof.Rows L2 K02 K04
set_option maxHeartbeats 8000000 in
theorem all_mk{l:PySem.W.OpenLaw}{w:World}{K:PySem.W.Frag}{h:Heap}{mg:Str->Option Value}{fa fl ca R0 R1 R2 C0 C1 C2 C3 C4 C5 C6 C7 C8 C9 C10 C11 C12 C13 C14:Addr}{t0 t1 t2 t3 t4 t5 t6 t7 t8 t9 t10:Tok}{oc kV doc pm ct:Value}{od an:Option Addr}{osl:Array (Option Value)}(X:K.In h)(G:h.Ns mainGlobals mg)(hfa:mg "law"=some (.ref fa))
  (d_ten_to:DefAt K "ten_to" V9)
  (d_is_figures:DefAt K "is_figures" Z7)
  (d_number_of:DefAt K "number_of" XS)
  (d_times_at:DefAt K "times_at" KM)
  (d_rows_of:DefAt K "rows_of" WX)
  (d_floats_at:DefAt K "floats_at" XU)
  (d_places_of:DefAt K "places_of" XV)
  (d_whole_part:DefAt K "whole_part" Z9)
  (d_broken_part:DefAt K "broken_part" ZT)
  (d_lead_of:DefAt K "lead_of" WY)
  (d_tail_of:DefAt K "tail_of" W0)
  (d_number_facts:DefAt K "number_facts" ZD)
  (d_plain_facts:DefAt K "plain_facts" ZS)
  (d_body_of:DefAt K "body_of" WZ)
  (d_edited_facts:DefAt K "edited_facts" ZF)
  (d_facts_of:DefAt K "facts_of" KN)
  (d_is_picture:DefAt K "is_picture" Z8)
  (d_understood:DefAt K "understood" Zx)
  (d_size_of:DefAt K "size_of" Kl)
  (d_bare:DefAt K "bare" qZ)
  (d_signs_in:DefAt K "signs_in" KO)
  (d__law_draw:DefAt K "_law_draw" XY)
  (d__law_begun:DefAt K "_law_begun" Xc)
  (d__law_class:DefAt K "_law_class" Xd)
  (d__law_item_size:DefAt K "_law_item_size" Jn)
  (d__law_a_layout:DefAt K "_law_a_layout" JD)
  (d_begins_with_word:DefAt K "begins_with_word" JC)
  (d_is_name:DefAt K "is_name" W3)
  (d_is_whole:DefAt K "is_whole" KP)
  (d_is_bare_item:DefAt K "is_bare_item" ZH)
  (d_is_item:DefAt K "is_item" W1)
  (d_is_row_of_items:DefAt K "is_row_of_items" JL)
  (d_overs_have_room:DefAt K "overs_have_room" JM)
  (d_is_layout:DefAt K "is_layout" XW)
  (d_step_parts:DefAt K "step_parts" Xb)
  (d_last_first:DefAt K "last_first" Xa)
  (d_ahead_in_table:DefAt K "ahead_in_table" Jm)
  (d_item_at:DefAt K "item_at" Km)
  (d_found:DefAt K "found" Ye)
  (d_where:DefAt K "where" Yc)
  (d_paths_of_boxes:DefAt K "paths_of_boxes" J4)
  (d_boxes:DefAt K "boxes" U1)
  (d__law_where_all:DefAt K "_law_where_all" Jo)
  (d__law_is:DefAt K "_law_is" W4)
  (d_heard:DefAt K "_law_heard" Q2)
  (k_0:PySem.W.nsIn K mainGlobals "BoxError"=some (some (.ref C0)))
  (k_1:PySem.W.nsIn K mainGlobals "NoPicture"=some (some (.ref C1)))
  (k_2:PySem.W.nsIn K mainGlobals "NoRoom"=some (some (.ref C2)))
  (k_3:PySem.W.nsIn K mainGlobals "NoQuotient"=some (some (.ref C3)))
  (k_4:PySem.W.nsIn K mainGlobals "NoText"=some (some (.ref C4)))
  (k_5:PySem.W.nsIn K mainGlobals "NoFigures"=some (some (.ref C5)))
  (k_6:PySem.W.nsIn K mainGlobals "NoLetters"=some (some (.ref C6)))
  (k_7:PySem.W.nsIn K mainGlobals "NoMove"=some (some (.ref C7)))
  (k_8:PySem.W.nsIn K mainGlobals "NoPath"=some (some (.ref C8)))
  (k_9:PySem.W.nsIn K mainGlobals "NoAmount"=some (some (.ref C9)))
  (k_10:PySem.W.nsIn K mainGlobals "NoGroup"=some (some (.ref C10)))
  (k_11:PySem.W.nsIn K mainGlobals "BadSize"=some (some (.ref C11)))
  (k_12:PySem.W.nsIn K mainGlobals "NoBack"=some (some (.ref C12)))
  (k_13:PySem.W.nsIn K mainGlobals "BadRow"=some (some (.ref C13)))
  (k_14:PySem.W.nsIn K mainGlobals "Closed"=some (some (.ref C14)))
  (m_FIGURES:PySem.W.nsIn K mainGlobals "FIGURES"=some (some (.str "0123456789" t0)))
  (m_INSERTED:PySem.W.nsIn K mainGlobals "INSERTED"=some (some (.str ",B0/" t2)))
  (m_SIGNS:PySem.W.nsIn K mainGlobals "SIGNS"=some (some (.str "+-" t3)))
  (m_FLOATING:PySem.W.nsIn K mainGlobals "FLOATING"=some (some (.str "+-$" t4)))
  (m_PLACES:PySem.W.nsIn K mainGlobals "PLACES"=some (some (.str "9Z*+-$" t5)))
  (m_SMALL_LETTERS:PySem.W.nsIn K mainGlobals "SMALL_LETTERS"=some (some (.str "abcdefghijklmnopqrstuvwxyz" t8)))
  (m_PART:PySem.W.nsIn K mainGlobals "PART"=some (some (.int 18 t1)))
  (m_MOST_FIGURES:PySem.W.nsIn K mainGlobals "MOST_FIGURES"=some (some (.int 18 t6)))
  (m_MOST_SIGNS:PySem.W.nsIn K mainGlobals "MOST_SIGNS"=some (some (.int 60 t7)))
  (m_LONGEST_NAME:PySem.W.nsIn K mainGlobals "LONGEST_NAME"=some (some (.int 12 t9)))
  (m_MOST_TIMES:PySem.W.nsIn K mainGlobals "MOST_TIMES"=some (some (.int 30 t10)))
  (m_NUMBER_FORMS:PySem.W.nsIn K mainGlobals "NUMBER_FORMS"=some (some (.ref R0)))
  (m_SHOWN:PySem.W.nsIn K mainGlobals "SHOWN"=some (some (.ref R1)))
  (m_PLAIN_KINDS:PySem.W.nsIn K mainGlobals "PLAIN_KINDS"=some (some (.ref R2)))
  (q_NUMBER_FORMS:∀H,SqT K H R0 [.str "9",.str "S9",.str "V9",.str "SV9",.str "9V9",.str "S9V9"])
  (q_SHOWN:∀H,SqT K H R1 [.str "+",.str "-",.str "CR",.str "DB"])
  (kd:KDict l.prog w K R2 Ul)
  (z2_tuple:PySem.W.nsIn K mainGlobals "tuple"=some none)
  (z2_all:PySem.W.nsIn K mainGlobals "all"=some none)
  (z2_set:PySem.W.nsIn K mainGlobals "set"=some none)
  (z2_enumerate:PySem.W.nsIn K mainGlobals "enumerate"=some none)
  (z2_min:PySem.W.nsIn K mainGlobals "min"=some none)
  (t_NoneType_tuple:PySem.W.kitOne K (.type "NoneType") (.type "tuple")=some false)
  (t_bool_tuple:PySem.W.kitOne K (.type "bool") (.type "tuple")=some false)
  (t_int_tuple:PySem.W.kitOne K (.type "int") (.type "tuple")=some false)
  (t_str_tuple:PySem.W.kitOne K (.type "str") (.type "tuple")=some false)
  (t_tuple_tuple:PySem.W.kitOne K (.type "tuple") (.type "tuple")=some true)
  (t_list_tuple:PySem.W.kitOne K (.type "list") (.type "tuple")=some false)
  (t_NoneType_str:PySem.W.kitOne K (.type "NoneType") (.type "str")=some false)
  (t_bool_str:PySem.W.kitOne K (.type "bool") (.type "str")=some false)
  (t_int_str:PySem.W.kitOne K (.type "int") (.type "str")=some false)
  (t_str_str:PySem.W.kitOne K (.type "str") (.type "str")=some true)
  (t_tuple_str:PySem.W.kitOne K (.type "tuple") (.type "str")=some false)
  (t_list_str:PySem.W.kitOne K (.type "list") (.type "str")=some false)
  (t_int_int:PySem.W.kitOne K (.type "int") (.type "int")=some true)
  (t_bool_int:PySem.W.kitOne K (.type "bool") (.type "int")=some true)
  (t_int_bool:PySem.W.kitOne K (.type "int") (.type "bool")=some false)
  (t_bool_bool:PySem.W.kitOne K (.type "bool") (.type "bool")=some true)
  (t_str:PySem.W.kitOne K (.type "str") (.type "str")=some true)
  (t_int:PySem.W.kitOne K (.type "int") (.type "str")=some false)
  (t_NoneType:PySem.W.kitOne K (.type "NoneType") (.type "str")=some false)
  (t_tuple:PySem.W.kitOne K (.type "tuple") (.type "str")=some false)
  (z_len:PySem.W.nsIn K mainGlobals "len"=some none)
  (z_range:PySem.W.nsIn K mainGlobals "range"=some none)
  (z_abs:PySem.W.nsIn K mainGlobals "abs"=some none)
  (z_max:PySem.W.nsIn K mainGlobals "max"=some none)
  (z_int:PySem.W.nsIn K mainGlobals "int"=some none)
  (z_isi:PySem.W.nsIn K mainGlobals "isinstance"=some none)
  (z_bool:PySem.W.nsIn K mainGlobals "bool"=some none)
  (z_val:PySem.W.nsIn K mainGlobals "ValueError"=some none)
  (z_reversed:PySem.W.nsIn K mainGlobals "reversed"=some none)
  (z_divmod:PySem.W.nsIn K mainGlobals "divmod"=some none)
  (z_str:PySem.W.nsIn K mainGlobals "str"=some none)
  (z_sum:PySem.W.nsIn K mainGlobals "sum"=some none)
  (x1_ex:PySem.W.excIn K C1 [.type "ValueError",.type "Exception",.type "BaseException",.type "object"] "ValueError.__new__"=true)
  (x8_ex:PySem.W.excIn K C8 [.type "ValueError",.type "Exception",.type "BaseException",.type "object"] "ValueError.__new__"=true)
  (x8_ga:PySem.W.findIn K (.ref C8) "__getattribute__"=some (some (.builtin "BaseException.__getattribute__")))
  (x8_gn:PySem.W.findIn K (.ref C8) "__getattr__"=some none)
  (x8_cl:PySem.W.findIn K (.ref C8) "__class__"=some (some (.builtin "object.__class__")))
  (x8_k0:PySem.W.kitOne K (.ref C8) (.ref C1)=some false)
  (x8_k1:PySem.W.kitOne K (.ref C8) (.ref C2)=some false)
  (x8_k2:PySem.W.kitOne K (.ref C8) (.ref C3)=some false)
  (x8_k3:PySem.W.kitOne K (.ref C8) (.ref C4)=some false)
  (x8_k4:PySem.W.kitOne K (.ref C8) (.ref C5)=some false)
  (x8_k5:PySem.W.kitOne K (.ref C8) (.ref C6)=some false)
  (x8_k6:PySem.W.kitOne K (.ref C8) (.ref C7)=some false)
  (x8_k7:PySem.W.kitOne K (.ref C8) (.ref C8)=some true)
  (x8_k8:PySem.W.kitOne K (.ref C8) (.ref C9)=some false)
  (x8_k9:PySem.W.kitOne K (.ref C8) (.ref C10)=some false)
  (x8_k10:PySem.W.kitOne K (.ref C8) (.ref C11)=some false)
  (x8_k11:PySem.W.kitOne K (.ref C8) (.ref C12)=some false)
  (x8_k12:PySem.W.kitOne K (.ref C8) (.ref C13)=some false)
  (x8_k13:PySem.W.kitOne K (.ref C8) (.ref C14)=some false)
  (x8_va:PySem.W.kitOne K (.ref C8) (.type "ValueError")=some true)
  (x8_bo:PySem.W.exmOne K (.ref C8) (.ref C0)=some true)
  (a_law:PySem.W.nsIn K mainGlobals "law"=some (some (.ref fl)))
  (l_law:K.lookup fl=some ⟨oc,od,.func (PySem.W.fnOf "law" "law" (Jy Wn) (Q0 Wn) (Qf Wn) .none kV doc pm an (.ref ca) ct),osl⟩)
  (c_law:PySem.W.codeIn K (.ref ca) "law"=true)
  :∃fd:FuncData,(∀(s:Shared)(v:Value),BindsTo s fd ⟨[v],[]⟩ [("_law_script",v)])/\∀(base:Heap)(c P:Addr),PySem.W.tabIn K "law"=some (c,P)->K.In base->base.Ns mainGlobals mg->Lamb mg base c P->FnOk l.prog w K mg base (CXE l.prog w) 15 fa fd ["_law_script"] (QaP P):=by
 have e:=hfa.symm.trans (PySem.W.mg_of X G a_law);cases e;have O:Own mg:=⟨PySem.W.mg_none_of X G z_len,PySem.W.mg_none_of X G z_range,PySem.W.mg_none_of X G z_abs,PySem.W.mg_none_of X G z_max,PySem.W.mg_none_of X G z_int,PySem.W.mg_none_of X G z_isi,PySem.W.mg_none_of X G z_bool,PySem.W.mg_none_of X G z_val,PySem.W.mg_none_of X G z_reversed,PySem.W.mg_none_of X G z_divmod,PySem.W.mg_none_of X G z_str,PySem.W.mg_none_of X G z_sum⟩;have G8:Kind K (fun i=>([C0,C1,C2,C3,C4,C5,C6,C7,C8,C9,C10,C11,C12,C13,C14]:List Addr).getD i 0) 8:=⟨by decide,by decide,⟨x8_ex,x8_ga,x8_gn,x8_cl⟩,fun j hj=>match j,hj with|0,_=>x8_k0|1,_=>x8_k1|2,_=>x8_k2|3,_=>x8_k3|4,_=>x8_k4|5,_=>x8_k5|6,_=>x8_k6|7,_=>x8_k7|8,_=>x8_k8|9,_=>x8_k9|10,_=>x8_k10|11,_=>x8_k11|12,_=>x8_k12|13,_=>x8_k13|n+14,h=>absurd h (by omega),x8_va,x8_bo⟩;have T:Txt K mg (fun i=>([t0,t1,t2,t3,t4,t5,t6,t7,t8,t9,t10]:List Tok).getD i 0) (fun i=>([C0,C1,C2,C3,C4,C5,C6,C7,C8,C9,C10,C11,C12,C13,C14]:List Addr).getD i 0) (fun i=>([R0,R1,R2]:List Addr).getD i 0):=⟨PySem.W.mg_of X G k_0,PySem.W.mg_of X G k_1,PySem.W.mg_of X G k_2,PySem.W.mg_of X G k_3,PySem.W.mg_of X G k_4,PySem.W.mg_of X G k_5,PySem.W.mg_of X G k_6,PySem.W.mg_of X G k_7,PySem.W.mg_of X G k_8,PySem.W.mg_of X G k_9,PySem.W.mg_of X G k_10,PySem.W.mg_of X G k_11,PySem.W.mg_of X G k_12,PySem.W.mg_of X G k_13,PySem.W.mg_of X G k_14,PySem.W.mg_of X G m_FIGURES,PySem.W.mg_of X G m_PART,PySem.W.mg_of X G m_INSERTED,PySem.W.mg_of X G m_SIGNS,PySem.W.mg_of X G m_FLOATING,PySem.W.mg_of X G m_PLACES,PySem.W.mg_of X G m_MOST_FIGURES,PySem.W.mg_of X G m_MOST_SIGNS,PySem.W.mg_of X G m_SMALL_LETTERS,PySem.W.mg_of X G m_LONGEST_NAME,PySem.W.mg_of X G m_MOST_TIMES,PySem.W.mg_of X G m_NUMBER_FORMS,PySem.W.mg_of X G m_SHOWN,PySem.W.mg_of X G m_PLAIN_KINDS,q_NUMBER_FORMS,q_SHOWN,⟨x1_ex⟩,⟨x8_ex⟩,t_str,t_int,t_NoneType,t_tuple⟩;have KD:KDict l.prog w K ((fun i=>([R0,R1,R2]:List Addr).getD i 0) 2) Ul:=kd;have OT:mg "tuple"=none:=PySem.W.mg_none_of X G z2_tuple;have OA:mg "all"=none:=PySem.W.mg_none_of X G z2_all;have OS:mg "set"=none:=PySem.W.mg_none_of X G z2_set;have OE:mg "enumerate"=none:=PySem.W.mg_none_of X G z2_enumerate;have OM:mg "min"=none:=PySem.W.mg_none_of X G z2_min;generalize (fun i=>([C0,C1,C2,C3,C4,C5,C6,C7,C8,C9,C10,C11,C12,C13,C14]:List Addr).getD i 0)=c at G8 T;generalize (fun i=>([R0,R1,R2]:List Addr).getD i 0)=kr at T KD;generalize (fun i=>([t0,t1,t2,t3,t4,t5,t6,t7,t8,t9,t10]:List Tok).getD i 0)=tk at T;refine⟨PySem.W.fnOf "law" "law" (Jy Wn) (Q0 Wn) (Qf Wn) .none kV doc pm an (.ref ca) ct,fun s v=>.of_eq rfl,fun base c' P ht kb nb L=>?_⟩;obtain rfl:c'=ca:=by
  have z:PySem.W.tabIn K "law"=some (c',P):=ht;unfold PySem.W.tabIn at z;simp only[a_law,l_law]at z
  split at z
  ·split at z
   ·cases z;rfl
   ·cases z
  ·cases z
 have KT:KitL K:=KitL.of t_NoneType_tuple t_bool_tuple t_int_tuple t_str_tuple t_tuple_tuple t_list_tuple t_NoneType_str t_bool_str t_int_str t_str_str t_tuple_str t_list_str t_int_int t_bool_int t_int_bool t_bool_bool;have D_ten_to:Def l.prog w K mg base 1 "ten_to" ["many"] (yY):=d_ten_to.d1 X G (fun f fd F=>xA F O) fun _ _ _ _ _ _ _=>rfl;have D_is_figures:Def l.prog w K mg base 1 "is_figures" ["text"] (U3):=d_is_figures.d1 X G (fun f fd F=>Yi F T) fun _ _ _ _ _ _ _=>rfl;have D_number_of:Def l.prog w K mg base 2 "number_of" ["text"] (yZ):=d_number_of.d1 X G (fun f fd F=>Um F O T D_ten_to) fun _ _ _ _ _ _ _=>rfl;have D_times_at:Def l.prog w K mg base 3 "times_at" ["text","at"] (U4):=d_times_at.d2 X G (fun f fd F=>U5 F O T D_is_figures D_number_of) fun _ _ _ _ _ _ _ _=>rfl;have D_rows_of:Def l.prog w K mg base 4 "rows_of" ["thing"] (ja K):=d_rows_of.d1 X G (fun f fd F=>j5 F O T D_times_at) fun _ _ _ _ _ _ _=>rfl;have D_floats_at:Def l.prog w K mg base 1 "floats_at" ["rows","at"] (Yj K):=d_floats_at.d2 X G (fun f fd F=>Up F O T) fun _ _ _ _ _ _ _ _=>rfl;have D_places_of:Def l.prog w K mg base 1 "places_of" ["rows","at","place"] (Yk K):=d_places_of.d3 X G (fun f fd F=>Uq F O T) fun _ _ _ _ _ _ _ _ _=>rfl;have D_whole_part:Def l.prog w K mg base 2 "whole_part" ["rows","at"] (U6 K):=d_whole_part.d2 X G (fun f fd F=>Yl F O T D_places_of) fun _ _ _ _ _ _ _ _=>rfl;have D_broken_part:Def l.prog w K mg base 1 "broken_part" ["rows","at","place"] (Ym K):=d_broken_part.d3 X G (fun f fd F=>Vs F O T) fun _ _ _ _ _ _ _ _ _=>rfl;have D_lead_of:Def l.prog w K mg base 2 "lead_of" ["rows"] (xF K):=d_lead_of.d1 X G (fun f fd F=>j7 F O T D_floats_at) fun _ _ _ _ _ _ _=>rfl;have D_tail_of:Def l.prog w K mg base 1 "tail_of" ["rows","at"] (xI K):=d_tail_of.d2 X G (fun f fd F=>j8 F O T) fun _ _ _ _ _ _ _ _=>rfl;have D_number_facts:Def l.prog w K mg base 1 "number_facts" ["rows"] (JP K Q5):=d_number_facts.d1 X G (fun f fd F=>W7 F O T) fun _ _ _ _ _ _ _=>rfl;have D_plain_facts:Def l.prog w K mg base 1 "plain_facts" ["rows"] (JP K Ze):=d_plain_facts.d1 X G (fun f fd F=>Vt F O T KD) fun _ _ _ _ _ _ _=>rfl;have D_body_of:Def l.prog w K mg base 3 "body_of" ["rows","at"] (xN K):=d_body_of.d2 X G (fun f fd F=>za F D_whole_part D_broken_part) fun _ _ _ _ _ _ _ _=>rfl;have D_edited_facts:Def l.prog w K mg base 4 "edited_facts" ["rows"] (JP K Jq):=d_edited_facts.d1 X G (fun f fd F=>W8 F O T D_lead_of D_body_of D_tail_of) fun _ _ _ _ _ _ _=>rfl;have D_facts_of:Def l.prog w K mg base 5 "facts_of" ["rows"] (JP K JA):=d_facts_of.d1 X G (fun f fd F=>U8 F D_number_facts D_plain_facts D_edited_facts) fun _ _ _ _ _ _ _=>rfl;have D_is_picture:Def l.prog w K mg base 6 "is_picture" ["thing"] (U9 K):=d_is_picture.d1 X G (fun f fd F=>Yq F D_rows_of D_facts_of) fun _ _ _ _ _ _ _=>rfl;have D_understood:Def l.prog w K mg base 6 "understood" ["picture"] (qa K c):=d_understood.d1 X G (fun f fd F=>Yr F T D_rows_of D_facts_of) fun _ _ _ _ _ _ _=>rfl;have D_size_of:Def l.prog w K mg base 7 "size_of" ["picture"] (jd):=d_size_of.d1 X G (fun f fd F=>zc F O D_understood) fun _ _ _ _ _ _ _=>rfl;have D_bare:Def l.prog w K mg base 1 "bare" ["item"] (ji):=d_bare.d1 X G (fun f fd F=>Qaw F) fun _ _ _ _ _ _ _=>rfl;have D_signs_in:Def l.prog w K mg base 8 "signs_in" ["layout"] (Xj):=d_signs_in.d1 X G (fun f fd F=>Vd F D_size_of) fun _ _ _ _ _ _ _=>rfl;have D__law_draw:Def l.prog w K mg base 1 "_law_draw" ["_law_script","_law_town","_law_many"] (WS K):=d__law_draw.d3 X G (fun f fd F=>UC F O) fun _ _ _ _ _ _ _ _ _=>rfl;have D__law_begun:Def l.prog w K mg base 1 "_law_begun" [] (UW):=d__law_begun.d0 X G (fun f fd F=>YN F) fun _ _ _ _ _ _=>rfl;have D__law_class:Def l.prog w K mg base 1 "_law_class" ["_law_kept"] (Vf K c):=d__law_class.d1 X G (fun f fd F=>YO F O T) fun _ _ _ _ _ _ _=>rfl;have D__law_item_size_0:Def l.prog w K mg base 1 "_law_item_size" ["_law_item"] (Vv 0):=d__law_item_size.d1 X G (fun f fd F=>Kv F) fun _ _ _ _ _ _ _=>rfl;have D__law_item_size_1:Def l.prog w K mg base 2 "_law_item_size" ["_law_item"] (Vv 1):=d__law_item_size.d1 X G (fun f fd F=>JQ 0 F O D__law_item_size_0) fun _ _ _ _ _ _ _=>rfl;have D__law_item_size_2:Def l.prog w K mg base 3 "_law_item_size" ["_law_item"] (Vv 2):=d__law_item_size.d1 X G (fun f fd F=>JQ 1 F O D__law_item_size_1) fun _ _ _ _ _ _ _=>rfl;have D__law_item_size_3:Def l.prog w K mg base 4 "_law_item_size" ["_law_item"] (Vv 3):=d__law_item_size.d1 X G (fun f fd F=>JQ 2 F O D__law_item_size_2) fun _ _ _ _ _ _ _=>rfl;have D__law_a_layout_0:Def l.prog w K mg base 4 "_law_a_layout" ["_law_script","_law_town","_law_deep"] (Wk K 0):=d__law_a_layout.d3 X G (fun f fd F=>K3 F) fun _ _ _ _ _ _ _ _ _=>rfl;have D__law_a_layout_1:Def l.prog w K mg base 5 "_law_a_layout" ["_law_script","_law_town","_law_deep"] (Wk K 1):=d__law_a_layout.d3 X G (fun f fd F=>J6 0 F O D__law_draw D__law_item_size_3 D__law_a_layout_0) fun _ _ _ _ _ _ _ _ _=>rfl;have D__law_a_layout_2:Def l.prog w K mg base 6 "_law_a_layout" ["_law_script","_law_town","_law_deep"] (Wk K 2):=d__law_a_layout.d3 X G (fun f fd F=>J6 1 F O D__law_draw D__law_item_size_3 D__law_a_layout_1) fun _ _ _ _ _ _ _ _ _=>rfl;have D__law_a_layout_3:Def l.prog w K mg base 7 "_law_a_layout" ["_law_script","_law_town","_law_deep"] (Wk K 3):=d__law_a_layout.d3 X G (fun f fd F=>J6 2 F O D__law_draw D__law_item_size_3 D__law_a_layout_2) fun _ _ _ _ _ _ _ _ _=>rfl;have D_begins_with_word:Def l.prog w K mg base 1 "begins_with_word" ["thing"] (vv):=d_begins_with_word.d1 X G (fun f fd F=>X4 F O OT KT) fun _ _ _ _ _ _ _=>rfl;have D_is_name:Def l.prog w K mg base 1 "is_name" ["thing"] (ku):=d_is_name.d1 X G (fun f fd F=>zi F O T KT) fun _ _ _ _ _ _ _=>rfl;have D_is_whole:Def l.prog w K mg base 1 "is_whole" ["thing"] (WA):=d_is_whole.d1 X G (fun f fd F=>ql F O KT) fun _ _ _ _ _ _ _=>rfl;have D_is_bare_item:Def l.prog w K mg base 7 "is_bare_item" ["thing"] (qm):=d_is_bare_item.d1 X G (fun f fd F=>Ve F O T D_begins_with_word D_is_name D_is_whole D_is_picture) fun _ _ _ _ _ _ _=>rfl;have D_is_item:Def l.prog w K mg base 8 "is_item" ["thing"] (kw):=d_is_item.d1 X G (fun f fd F=>zk F O D_begins_with_word D_is_bare_item) fun _ _ _ _ _ _ _=>rfl;have D_bareW:Def l.prog w K mg base 1 "bare" ["item"] (YU):=d_bare.d1 X G (fun f fd F=>vI F) fun _ _ _ _ _ _ _=>rfl;have D_is_row_of_items:Def l.prog w K mg base 9 "is_row_of_items" ["thing"] (QaD):=d_is_row_of_items.d1 X G (fun f fd F=>Ky F O OT OA OS KT D_is_item D_bareW) fun _ _ _ _ _ _ _=>rfl;have D_overs_have_room:Def l.prog w K mg base 9 "overs_have_room" ["items"] (qB):=d_overs_have_room.d1 X G (fun f fd F=>KA F D_signs_in) fun _ _ _ _ _ _ _=>rfl;have D_is_layout:Def l.prog w K mg base 10 "is_layout" ["thing"] (qC):=d_is_layout.d1 X G (fun f fd F=>UF F O OA D_is_row_of_items D_bareW D_overs_have_room) fun _ _ _ _ _ _ _=>rfl;have D_step_parts:Def l.prog w K mg base 2 "step_parts" ["step"] (qo):=d_step_parts.d1 X G (fun f fd F=>YI F O OT KT D_is_whole) fun _ _ _ _ _ _ _=>rfl;have D_last_first:Def l.prog w K mg base 2 "last_first" ["path","items"] (kx):=d_last_first.d2 X G (fun f fd F=>YJ F O D_bare) fun _ _ _ _ _ _ _ _=>rfl;have D_ahead_in_table:Def l.prog w K mg base 9 "ahead_in_table" ["item","number"] (qp c):=d_ahead_in_table.d2 X G (fun f fd F=>KZ F T D_signs_in) fun _ _ _ _ _ _ _ _=>rfl;have D_item_at:Def l.prog w K mg base 10 "item_at" ["items","step"] (YK c):=d_item_at.d2 X G (fun f fd F=>zl F O OE T D_step_parts D_bare D_signs_in D_ahead_in_table) fun _ _ _ _ _ _ _ _=>rfl;have D_found:Def l.prog w K mg base 11 "found" ["layout","path"] (qr c):=d_found.d2 X G (fun f fd F=>vw F O OT KT T D_item_at) fun _ _ _ _ _ _ _ _=>rfl;have D_where:Def l.prog w K mg base 12 "where" ["layout","path"] (ZV c):=d_where.d2 X G (fun f fd F=>jo F D_found D_size_of D_signs_in) fun _ _ _ _ _ _ _ _=>rfl;have D_paths_of_boxes:Def l.prog w K mg base 3 "paths_of_boxes" ["items","with_tables"] (qv):=d_paths_of_boxes.d2 X G (fun f fd F=>K2 F O D_last_first) fun _ _ _ _ _ _ _ _=>rfl;have D_boxes:Def l.prog w K mg base 4 "boxes" ["layout"] (qw):=d_boxes.d1 X G (fun f fd F=>vA F OT D_paths_of_boxes) fun _ _ _ _ _ _ _=>rfl;have D__law_where_all_0:Def l.prog w K mg base 4 "_law_where_all" ["_law_items","_law_begun_here"] (Wl 0):=d__law_where_all.d2 X G (fun f fd F=>KF F) fun _ _ _ _ _ _ _ _=>rfl;have D__law_where_all_1:Def l.prog w K mg base 5 "_law_where_all" ["_law_items","_law_begun_here"] (Wl 1):=d__law_where_all.d2 X G (fun f fd F=>JR 0 F O D__law_item_size_3 D__law_where_all_0) fun _ _ _ _ _ _ _ _=>rfl;have D__law_where_all_2:Def l.prog w K mg base 6 "_law_where_all" ["_law_items","_law_begun_here"] (Wl 2):=d__law_where_all.d2 X G (fun f fd F=>JR 1 F O D__law_item_size_3 D__law_where_all_1) fun _ _ _ _ _ _ _ _=>rfl;have D__law_where_all_3:Def l.prog w K mg base 7 "_law_where_all" ["_law_items","_law_begun_here"] (Wl 3):=d__law_where_all.d2 X G (fun f fd F=>JR 2 F O D__law_item_size_3 D__law_where_all_2) fun _ _ _ _ _ _ _ _=>rfl;have D__law_is:Def l.prog w K mg base 1 "_law_is" ["_law_told","_law_due"] (Qdc):=d__law_is.d2 X G (fun f fd F=>zw F O KT) fun _ _ _ _ _ _ _ _=>rfl;have DK_where:DefK l.prog w K mg base 12 "where" ["layout","path"] ["path"] (ZV c):=d_where.QdQ X G (fun f fd F=>jo F D_found D_size_of D_signs_in) fun _ _ _ _ _ _ _ _=>rfl;have DK0_signs_in:DefK0 l.prog w K mg base 8 "signs_in" "layout" (Xj):=d_signs_in.QcU X G (fun f fd F=>Vd F D_size_of) fun _ _ _ _ _ _ _=>rfl;obtain⟨fh,fdh,ah,Fh⟩:=d_heard.ex;have hbh:Binds K fdh ["_law_deed"] []:=Fh.binds (ps:=["_law_deed"]) fun _ _ _ _ _ _ us hl=>match us,hl with|[_],_=>rfl
 exact Qb6 (P:=l.prog) (w:=w) (base:=base) ⟨oc,od,kV,doc,pm,an,ct,osl,rfl,l_law,c_law⟩ O OT OM T L Fh (PySem.W.mg_of X G ah) hbh G8 D__law_class D__law_begun D__law_draw D__law_a_layout_3 D__law_item_size_3 D__law_where_all_3 D__law_is D_is_layout DK0_signs_in D_boxes D_where DK_where
theorem Qb7{P:Program}{w:World}{H:Hp}{s:Shared}{e:Value}{s':Shared}(z:CXE P w [] H s (fun _ _ _=>False) e s'):False:=by
 obtain⟨_,_,_,_,_,_,_,_,_,_,_,_,_,_,h⟩:=z;exact h
theorem QaS{K:PySem.W.Frag}{fl c P:Addr}{oc kV doc pm ct oc2:Value}{od an od2:Option Addr}{osl osl2:Array (Option Value)}{vs:Array Value}(a:PySem.W.nsIn K mainGlobals "law"=some (some (.ref fl)))
  (l:K.lookup fl=some ⟨oc,od,.func (PySem.W.fnOf "law" "law" (Jy Wn) (Q0 Wn) (Qf Wn) .none kV doc pm an (.ref c) ct),osl⟩) (lc:K.lookup c=some ⟨oc2,od2,.fields vs,osl2⟩) (hv:(vs[11]? :Option Value)=some (.ref P)):∃c P,PySem.W.tabIn K "law"=some (c,P):=⟨c,P,Qbs a l rfl lc hv⟩
end Lw
structure PySem.W.Fast:Prop where
 (tw3991753726383015968 tw2475600285469475968 tw10057169371873237344 tw8129473625116795264 tw5823592008214147488 tw12406566674337769952 tw15791352379353843200 tw6548273803054312960 tw12387731671964657248 tw13930548456001931008 tw10530441497595908896 tw15742153727058121568 tw12419348551894700000 tw16364323338600466400 tw6249292702232135777 tw10397002947288578177 tw15044718815590777985 tw7130689764055480449 tw13463824923676926113 tw11781475453031575777 tw14721587509840733633 tw15030151725021102561 tw2646620083645439457 tw11155910214151957089 tw18195609892005110497 tw17301473475617417985 tw16202637781227298689 tw4856729148702044418 tw2899965548126673218 tw7919944232710348194 tw3686824132581469634 tw7362440619763647970 tw6940996222313298690 tw1784891640869150498 tw958017589220658146 tw2299077101244506082 tw13682650320342724803 tw3010219916651301123 tw3047962577813684547 tw2724488344712539491 tw9535595793674797411 tw5898510307491538371 tw8037158950699382275 tw17292352736305456771 tw11136237331725753027 tw1354186157988303587 tw16352401628911788867 tw11473385684623980355 tw13733908583673800547 tw14044004747066431331 tw13148979154543442851 tw5783162120051138499 tw10588643146124628931 tw4781628531305704516 tw1132179141183138948 tw12607440280174968164 tw8554547391675261444 tw18380643596234773060 tw7208940283885180516 tw13121185471852602084 tw3525970082892057412 tw4148344302569298820 tw8970196680275325860 tw12736657026673096612 tw17339817113714764005 tw12900758689648724293 tw17632316367292833125 tw9520630069225142821 tw4051833007510625861 tw8577083354298648165 tw17964348575115546213 tw15725231497020006021 tw11236308189828090533 tw17601369365862478597 tw8461113867062049541 tw3722742321319030629 tw912424785337485350 tw12328612285626438 tw5769924797493896358 tw6016497106865163430 tw16126990735378799814 tw11657777510956018950 tw12368780300520564102 tw4926212154544520646 tw16656447607268216326 tw8367611835218892326 tw2863896521749055078 tw3840632399941923462 tw4324132416553131974 tw3908099728153540550 tw15516713219784847334 tw4585581027892133927 tw6407942802220251175 tw3914509906294937671 tw7509764700081598855 tw15014389707319754215 tw1258814336654153255 tw510801658457235079 tw13225757838936449703 tw13191161690809390791 tw2667466520505816871 tw8512903369285215175 tw16568565117546542023 tw4168226260795321352 tw5406382860807459912 tw2257642658287517768 tw12691858693318081896 tw4406671143059373448 tw15307433629479882120 tw4213081346695580136 tw3637391049968059976 tw12001375869586153320 tw12790522637542108040 tw10916023545830932392 tw2382412960105141192 tw17412739928386938889 tw10994377741661236361 tw3626304790666424521 tw8323000527490009417 tw669316704612831625 tw4990721823823406505 tw9260049018450336233 tw9494525467569391177 tw7856604885684799081 tw17669607858979954345 tw9308513148293849801 tw7366165149560917865 tw13837705836782831626 tw11154972494018581834 tw17357956861423414794 tw14248585220240877066 tw7432292992013852298 tw15497301083422232234 tw16967523224735505258 tw8972657984646231115 tw16405918263210736843 tw368933495608407307 tw5776375914132421931 tw6155338916184634699 tw10116028310824244555 tw16058742667376020907 tw13326212478036179659 tw17351527636052845291 tw16311816727686094667 tw7766559660679140299 tw50185720798218284 tw13896466129672524844 tw10470939311647389740 tw573200985484867660 tw17585237359930657164 tw15918776083522097612 tw7030599855337543116 tw1556829039730249196 tw8637467082538739372 tw5359043668384025292 tw16841844627532943244 tw1530814838645044140 tw12119381688616384589 tw380991434127170637 tw12574868827849842797 tw16979671788321424749 tw17366122152401488397 tw1140980263219761869 tw12411104602697480941 tw15711732643614411629 tw18238220625158111406 tw6560768970453596558 tw7560397105743534510 tw3109453882307775918 tw3088294755356513710 tw3788810844693878222 tw1132603221822325198 tw2326169156397634062 tw55675323789937166 tw13453496451058190894 tw6232634071883369006 tw346699362194251310 tw18083910575901759054 tw15563468510926143150 tw6785320220518903598 tw14948304892851320686 tw7665690112016967630 tw13638083930847229934 tw6681228281906517998 tw6095351394484673551 tw12174821074693071983 tw18210479473049208975 tw4098904573386340495 tw15272812586338283759 tw6806711069023716623 tw7574860578645051759 tw3171715093937892719 tw14525308164281568655 tw8529215757866446223 tw13697131796194866831 tw9029946997851233999 tw11895564606863466223 tw4524219212728449807 tw4096688922530267023 tw4915416024977848207 tw9164599474805794960 tw3514703478367710352 tw9344958356277269680 tw15027733494495443152 tw16175882626263568688 tw5950409779967060336 tw14608136124164323760 tw986314366586452688 tw5948536080010557264 tw18226053273607692272 tw13495113510654303249 tw11875004549678600209 tw10298478960989081681 tw1535797647491085521 tw8054172502551968081 tw9046293700420604337 tw18075045047879955921 tw1678036095864109617 tw12368488865475638865 tw14717010215141050129 tw5879057634407302961 tw13474682919901239249 tw8626395736601813170 tw2422622390810620082 tw12362501000709979346 tw15498086314689580306 tw4210394453739988338 tw17186378146788123026 tw4009647768796286450 tw4701021376896348914 tw15087481702426753842 tw18181595965589281586 tw12624758776788232082 tw4649044793377729683 tw3721182680129189043 tw4873857267850396915 tw16134829472185191795 tw8695786179292938611 tw4556011404842619283 tw5325838798836730259 tw11974956255934827955 tw7640942006956638675 tw6927574559160163827 tw4724893100425487987 tw4591401260459549395 tw3021966749676021587 tw17025035080202990547 tw14579546318718624723 tw9529617345308364148 tw16080999246016402900 tw3033887925413989012 tw7280526835306713812 tw16452706421588817652 tw17245544776945719156 tw7227730592702906389 tw17254160580607740981 tw13569159539649118389 tw10677832287816635733 tw15351434947168718325 tw9493407408512034325 tw2892285212094538261 tw15902113061839287861 tw17402424852671604277 tw13139699224554935989 tw9690039592776366837 tw3673013843243088661 tw12013369611679289141 tw9484687817668634453 tw6598256680178526037 tw17722632187388311541 tw6870333986045800598 tw12495905939397896374 tw12158621329363060022 tw6510897128301442422 tw15055157763631173046 tw5907716577017448918 tw11067197050303047190 tw4949185963212847766 tw1371925626720144118 tw8815740046455857974 tw1412276724673644374 tw17607865881427354486 tw2321876740086131702 tw6842536687266897015 tw9764787405171596439 tw5697184793134475607 tw5560798449152433559 tw14163377732138931703 tw3502678120844311095 tw5887368826504227415 tw5359076395345319607 tw17900832339643804407 tw762084965622782743 tw10793448281441714039 tw1631014116220715032 tw4310855632610976952 tw10203282781236542680 tw12174274446256561432 tw15774249399597013272 tw14926618915204638040 tw9914851270665518520 tw5270338025899002360 tw130430386872562296 tw5786295534819646104 tw15049876590734232280 tw1587135240014826360 tw16150855475078144920 tw15227308752291008408 tw10424010446329964472 tw17283240068808001785 tw16102801914499413273 tw17178428254031128057 tw7489424289924984537 tw16021644312768829337 tw1843420044371188697 tw17185830877229903865 tw16014882386874919929 tw11834697503205108762 tw10598111759464564826 tw17295273198193447002 tw17486635982097628410 tw17072909214606157082 tw6034547088794089754 tw16987718993410162042 tw11794436338960983482 tw17813572034016047610 tw14754297705146418970 tw13408393608319313690 tw17266130300805850970 tw15960229604108168090 tw18329418879182994330 tw13470066877888013242 tw4442582600760398810 tw9610829476233183194 tw16733928342770948283 tw9741411635485652187 tw16641517883784571131 tw14877084586141175067 tw2575213924200508891 tw10331935669622848027 tw18145093193581364859 tw7244561925146870491 tw3414549823776362267 tw18148604036211847035 tw12805134708795327419 tw13986405409975688155 tw13772168496336958620 tw10445554143763723452 tw14467944103535191292 tw5118776806342959388 tw10370032704661930300 tw2951069237166893436 tw15157187381539298684 tw784919625270333852 tw6810682644280844700 tw10461084268517502492 tw4288205943386970748 tw5309512180576457500 tw16183814702656764860 tw13611667227148783548 tw11185498797202859996 tw8968618414744322044 tw2109438466627769405 tw11919987104021538973 tw10622766046534169821 tw12365250400033831165 tw16236844322849431133 tw7436603898301251197 tw8232384866838621853 tw13499670257299331805 tw13542040718532207389 tw9047004436192120605 tw3169539377790511997 tw553210077167808445 tw5818614276425291934 tw10807990268050068670 tw17212277151374815422 tw13119767114187843806 tw16824505119151714750 tw10984421202102739390 tw11572292927682291294 tw7643555317529601694 tw13423899139428192958 tw13323519806323005278 tw4756488653066799006 tw2426616183737915390 tw6555270437192768575 tw10710880659383130399 tw16861320921037957503 tw16264304130575694271 tw8234109357650825663 tw11059590825131124255 tw10306164387213531679 tw3996428061923194431 tw4920662653182000703 tw7861523572983487135 tw16716314297844538047 tw1719006385385768671 tw5030734139722256095 tw6432676890710516575 tw10160734993934910367 tw8374734079757114271 tw13500239018361781673 tw7820399391330381744 tw11463015062185643580 tw17669932787535474483 tw15002463435863188016 tw13858736401411175528 tw6879939753052879969 tw4037259729681213055 tw16717917060097372029 tw10792189298927636559 tw4121516051806640678 tw12407084385368021888 tw1895028975183316854 tw3021033447562161956 tw2145870762997303041 tw726621518849446451 tw4469244293535169993 tw5411722284013817473 tw16498358543701600975 tw2432753765797771443 tw1589275154817643600 tw16457453505068711352 tw14369663815359715083 tw13357705207396625882 tw15489004286430156185 tw7530235847435100252 tw1303058231860520421 tw14612495137796170465 tw9728067271580154886 tw6415107206539428060 tw6678920002184642453 tw10889769095261259222 tw2626778847200125344 tw15836370958578852647 tw16072545970549873952 tw12634732758703036699 tw3455486093664746271 tw6834706529687752142 tw14695236189422329383 tw8081687696740968640 tw1183739861631284656 tw3962394389247463962 tw9000537549157306634 tw7974206087607405952 tw16482530813621296334 tw11961701267323017470 tw604672469195984654 tw13214191510433501475 tw6220673107196989840 tw11287623498811712045 tw1681223299114626330 tw5436977927312339365 tw12898612797462204119 tw9735263284506472638 tw16869811775598268787 tw12087023836878000803 tw3118063497209575023 tw534588121970747844 tw10268834294519719133 tw14936388096988510057 tw1909857488511321485 tw901216122333917971 tw14314104337389102246 tw68004593880691216 tw12360652588208969259 tw6594830363853869564 tw8719848661982311685 tw6426385554602522924 tw970207579071342452 tw17656808771684224393 tw16371187076928443647 tw16445477729543662230 tw9888769365289656631 tw9436380518680586585 tw11986872322587958873 tw14267868324607189488 tw6268886477714777862 tw13838930426583084638 tw8138816611465657061 tw17197662931754095792 tw6516168560676410498 tw15274831018521040079 tw16367049975599796247 tw14401555970019675808 tw10229435365678573609 tw2170926950502267808 tw5204641190338610228 tw16313194439281665934 tw9593177395731320934 tw1638430824955696242 tw11313143077025702783 tw2342855217480544014 tw4124651720519086163 tw6204012951159298166 tw1938627123811463673 tw2861247007882166368 tw7202561428398447121 tw2201929688661549521 tw9691445428338557143 tw304572745320484372 tw11551805454266815875:True)
open PySem PySem.W PyProof.Rows
set_option maxRecDepth 100000 in
set_option maxHeartbeats 0 in
theorem PySem.Challenge.cw_boxmoves_k23_layouts_holds : PySem.Challenge.rw_boxmoves_k23_layouts.Holds := by
 w_on;o_law;k_head;(case hw=>w_witness2)
 k_fill
 refine L2.wD (l:=PySem.Challenge.rw_boxmoves_k23_layouts) (n:=63) (k:=15) (x:="_law_script") (CX:=fun w=>L2.CXE PySem.Challenge.rw_boxmoves_k23_layouts.prog w) (sp:=fun _ P=>Lw.QaP P) rfl (by decide) rfl ⟨rfl,by decide,by decide⟩ (fun w h Y=>PySem.W.km_in_of Y) ?nL ?nT rfl ?hT ?F (fun w H a P ns hl hO hS=>⟨a,ns,rfl,hl,hO,hS,fun _=>rfl⟩) (fun w H s e s' z=>Lw.Qb7 z)
 case nL=>intro w;kernel_rfl
 case nT=>intro w;kernel_rfl
 case hT=>
  intro w;refine' Lw.QaS ?a ?l ?lc ?hv
  (case a=>k_is);(case l=>k_is);(case lc=>k_is);(case hv=>exact rfl)
 case F=>
  intro w mg fa h KX G hmg;refine' Lw.all_mk KX G hmg ?d_ten_to ?d_is_figures ?d_number_of ?d_times_at ?d_rows_of ?d_floats_at ?d_places_of ?d_whole_part ?d_broken_part ?d_lead_of ?d_tail_of ?d_number_facts ?d_plain_facts ?d_body_of ?d_edited_facts ?d_facts_of ?d_is_picture ?d_understood ?d_size_of ?d_bare ?d_signs_in ?d__law_draw ?d__law_begun ?d__law_class ?d__law_item_size ?d__law_a_layout ?d_begins_with_word ?d_is_name ?d_is_whole ?d_is_bare_item ?d_is_item ?d_is_row_of_items ?d_overs_have_room ?d_is_layout ?d_step_parts ?d_last_first ?d_ahead_in_table ?d_item_at ?d_found ?d_where ?d_paths_of_boxes ?d_boxes ?d__law_where_all ?d__law_is ?d_heard ?k_0 ?k_1 ?k_2 ?k_3 ?k_4 ?k_5 ?k_6 ?k_7 ?k_8 ?k_9 ?k_10 ?k_11 ?k_12 ?k_13 ?k_14 ?m_FIGURES ?m_INSERTED ?m_SIGNS ?m_FLOATING ?m_PLACES ?m_SMALL_LETTERS ?m_PART ?m_MOST_FIGURES ?m_MOST_SIGNS ?m_LONGEST_NAME ?m_MOST_TIMES ?m_NUMBER_FORMS ?m_SHOWN ?m_PLAIN_KINDS ?q_NUMBER_FORMS ?q_SHOWN ?kd ?z2_tuple ?z2_all ?z2_set ?z2_enumerate ?z2_min ?t_NoneType_tuple ?t_bool_tuple ?t_int_tuple ?t_str_tuple ?t_tuple_tuple ?t_list_tuple ?t_NoneType_str ?t_bool_str ?t_int_str ?t_str_str ?t_tuple_str ?t_list_str ?t_int_int ?t_bool_int ?t_int_bool ?t_bool_bool ?t_str ?t_int ?t_NoneType ?t_tuple ?z_len ?z_range ?z_abs ?z_max ?z_int ?z_isi ?z_bool ?z_val ?z_reversed ?z_divmod ?z_str ?z_sum ?x1_ex ?x8_ex ?x8_ga ?x8_gn ?x8_cl ?x8_k0 ?x8_k1 ?x8_k2 ?x8_k3 ?x8_k4 ?x8_k5 ?x8_k6 ?x8_k7 ?x8_k8 ?x8_k9 ?x8_k10 ?x8_k11 ?x8_k12 ?x8_k13 ?x8_va ?x8_bo ?a_law ?l_law ?c_law
  (case d_ten_to|d_is_figures|d_number_of|d_times_at|d_rows_of|d_floats_at|d_places_of|d_whole_part|d_broken_part|d_lead_of|d_tail_of|d_number_facts|d_plain_facts|d_body_of|d_edited_facts|d_facts_of|d_is_picture|d_understood|d_size_of|d_bare|d_signs_in|d__law_draw|d__law_begun|d__law_class|d__law_item_size|d__law_a_layout|d_begins_with_word|d_is_name|d_is_whole|d_is_bare_item|d_is_item|d_is_row_of_items|d_overs_have_room|d_is_layout|d_step_parts|d_last_first|d_ahead_in_table|d_item_at|d_found|d_where|d_paths_of_boxes|d_boxes|d__law_where_all|d__law_is|d_heard=>(refine' L2.wF ?a ?l ?c ?k;(case a=>k_is);(case l=>k_is);(case c=>k_is);(case k=>k_is)))
  (case k_0|k_1|k_2|k_3|k_4|k_5|k_6|k_7|k_8|k_9|k_10|k_11|k_12|k_13|k_14|m_FIGURES|m_INSERTED|m_SIGNS|m_FLOATING|m_PLACES|m_SMALL_LETTERS|m_PART|m_MOST_FIGURES|m_MOST_SIGNS|m_LONGEST_NAME|m_MOST_TIMES|m_NUMBER_FORMS|m_SHOWN|m_PLAIN_KINDS|z2_tuple|z2_all|z2_set|z2_enumerate|z2_min|z_len|z_range|z_abs|z_max|z_int|z_isi|z_bool|z_val|z_reversed|z_divmod|z_str|z_sum|x8_ga|x8_gn|x8_cl|a_law|l_law|c_law=>k_is)
  (case q_NUMBER_FORMS=>(refine' L2.yp ?l ?z ?v;(case l=>k_is);(case z=>show 6<=sizeLine;decide);(case v=>exact(.cons ⟨_,rfl⟩ (.cons ⟨_,rfl⟩ (.cons ⟨_,rfl⟩ (.cons ⟨_,rfl⟩ (.cons ⟨_,rfl⟩ (.cons ⟨_,rfl⟩ .nil)))))))))
  (case q_SHOWN=>(refine' L2.yp ?l ?z ?v;(case l=>k_is);(case z=>show 4<=sizeLine;decide);(case v=>exact(.cons ⟨_,rfl⟩ (.cons ⟨_,rfl⟩ (.cons ⟨_,rfl⟩ (.cons ⟨_,rfl⟩ .nil)))))))
  (case kd=>(refine' L2.kX ?ne ?l ?e1 ?e2 ?hx;(case l=>k_is);(case ne=>exact rfl);(case e1=>exact rfl);(case e2=>exact rfl);(case hx=>decide+kernel)))
  (case t_NoneType_tuple|t_bool_tuple|t_int_tuple|t_str_tuple|t_tuple_tuple|t_list_tuple|t_NoneType_str|t_bool_str|t_int_str|t_str_str|t_tuple_str|t_list_str|t_int_int|t_bool_int|t_int_bool|t_bool_bool|t_str|t_int|t_NoneType|t_tuple|x8_k0|x8_k1|x8_k2|x8_k3|x8_k4|x8_k5|x8_k6|x8_k7|x8_k8|x8_k9|x8_k10|x8_k11|x8_k12|x8_k13|x8_va=>kit_is)
  (case x1_ex|x8_ex=>k_exc)
  (case x8_bo=>kts_exm)
