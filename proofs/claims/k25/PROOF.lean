import PyProof.Rows.All
import Wide.All
import OpenK.AllK
import Wide.FinOn
import Lean
import PyProof.EqAt
import PyProof.EqKinds
import PyProof.TupleCall
import PyProof.NeKinds
import PyProof.WalksMore
import PyProof.Rows.SetFrom
import PyProof.FString5
import PySem.Challenge.RW_boxmoves_k25_no_layouts
set_option Elab.async false
set_option linter.all false
set_option maxRecDepth 100000
/-! THE HAND LAYER, for ints, bools, texts, own classes, LISTS and tuples (index, slices, in, append, pop ..), calls, loops. Paste it whole ahead of your own text; what your proof does not reach may be deleted. -/
namespace L2
open PySem PySem.Spec PyProof.Rows

/-- a key: an int or a str -/
abbrev Key := Sum Int Str
def keyIs : Key → Value → Bool
  | .inl k, v => Value.isInt k v
  | .inr x, v => Value.isStrOf x v
def keyH (w : World) : Key → Int
  | .inl k => hashInt k
  | .inr x => hashStr w x
theorem keyIs_shape : ∀ {k : Key} {v : Value}, keyIs k v = true → (∃ i t, k = Sum.inl i ∧ v = Value.int i t) ∨ (∃ x t, k = Sum.inr x ∧ v = Value.str x t)
  | .inl i, v, h => by
    obtain ⟨t, e⟩ := Value.isInt_shape (k := i) (v := v) h
    exact .inl ⟨i, t, rfl, e⟩
  | .inr x, v, h => by
    obtain ⟨t, e⟩ := Value.isStrOf_shape (x := x) (v := v) h
    exact .inr ⟨x, t, rfl, e⟩
theorem keyIs_int (i : Int) (t : Tok) : keyIs (.inl i) (.int i t) = true := by simp [keyIs, Value.isInt]
theorem keyIs_str (x : Str) (t : Tok) : keyIs (.inr x) (.str x t) = true := by simp [keyIs, Value.isStrOf]
theorem key_ll (a b : Int) : decide ((Sum.inl a : Key) = Sum.inl b) = (a == b) := by
  by_cases e : a = b
  · subst e; simp
  · have h : ¬ (Sum.inl a : Key) = Sum.inl b := fun q => e (Sum.inl.inj q)
    rw [decide_eq_false h]
    exact (beq_eq_false_iff_ne.mpr e).symm
theorem key_rr (a b : Str) : decide ((Sum.inr a : Key) = Sum.inr b) = decide (a = b) := by
  by_cases e : a = b
  · subst e; simp
  · have h : ¬ (Sum.inr a : Key) = Sum.inr b := fun q => e (Sum.inr.inj q)
    rw [decide_eq_false h, decide_eq_false e]
theorem key_lr (a : Int) (b : Str) : decide ((Sum.inl a : Key) = Sum.inr b) = false := decide_eq_false (fun q => nomatch q)
theorem key_rl (a : Str) (b : Int) : decide ((Sum.inr a : Key) = Sum.inl b) = false := decide_eq_false (fun q => nomatch q)

def mixKind (prog : Program) (w : World) : PySem.KeyKind prog w Key where
  is := keyIs
  hash := keyH w
  inj := fun v a b ha hb => by
    rcases keyIs_shape ha with ⟨i, t, rfl, rfl⟩ | ⟨x, t, rfl, rfl⟩
    · rcases keyIs_shape hb with ⟨j, u, rfl, e⟩ | ⟨y, u, rfl, e⟩
      · injection e with e1 _; rw [e1]
      · exact nomatch e
    · rcases keyIs_shape hb with ⟨j, u, rfl, e⟩ | ⟨y, u, rfl, e⟩
      · exact nomatch e
      · injection e with e1 _; rw [e1]
  byValue := fun k v h => by
    rcases keyIs_shape h with ⟨i, t, rfl, rfl⟩ | ⟨x, t, rfl, rfl⟩ <;> rfl
  pyHash := fun hv h => by
    rcases keyIs_shape hv with ⟨i, t, rfl, rfl⟩ | ⟨x, t, rfl, rfl⟩
    · exact wpAny_pyHash_int h
    · exact wpAny_pyHash_str h
  eqBool := fun hu hv h => by
    rcases keyIs_shape hu with ⟨i, t, rfl, rfl⟩ | ⟨x, t, rfl, rfl⟩
    · rcases keyIs_shape hv with ⟨j, u, rfl, rfl⟩ | ⟨y, u, rfl, rfl⟩
      · rw [key_ll] at h; exact wpAny_eqBool_int h
      · rw [key_lr] at h; exact SeqAt.EqAt.int_str i t y u _ _ _ _ h
    · rcases keyIs_shape hv with ⟨j, u, rfl, rfl⟩ | ⟨y, u, rfl, rfl⟩
      · rw [key_rl] at h; exact SeqAt.EqAt.str_int x t j u _ _ _ _ h
      · rw [key_rr] at h; exact wpAny_eqBool_str h
  «strs» := fun k x t v h => by
    rcases keyIs_shape h with ⟨i, u, rfl, e⟩ | ⟨y, u, rfl, e⟩
    · exact nomatch e
    · injection e with e1 _
      subst e1
      cases v <;> rfl

theorem mixKind_int (prog : Program) (w : World) (i : Int) (t : Tok) : (mixKind prog w).is (.inl i) (.int i t) = true := keyIs_int i t
theorem mixKind_str (prog : Program) (w : World) (x : Str) (t : Tok) : (mixKind prog w).is (.inr x) (.str x t) = true := keyIs_str x t
end L2

namespace L2
open PySem PySem.Spec PyProof.Rows

/-- a value, without the heap -/
inductive V where
  | non | bl (b : Bool) | int (i : Int) | str (x : Str) | byt (b : Array UInt8) | flt (b : UInt64) | ref (a : Addr) | ty (n : String)
  deriving DecidableEq

def RelV : V → Value → Prop
  | .non, u => u = Value.none
  | .bl b, u => u = Value.bool b
  | .int i, u => ∃ t, u = Value.int i t
  | .str x, u => ∃ t, u = Value.str x t
  | .byt b, u => ∃ t, u = Value.bytes b t
  | .flt b, u => ∃ t, u = Value.float b t
  | .ref a, u => u = Value.ref a
  | .ty n, u => u = Value.type n

abbrev Vals : List V → List Value → Prop := Paired RelV
theorem Vals.length {xs : List V} {us : List Value} (r : Vals xs us) : xs.length = us.length := Paired.length r
theorem Vals.get : ∀ {xs : List V} {us : List Value} {i : Nat} {x : V}, Vals xs us → xs[i]? = some x → ∃ u, us[i]? = some u ∧ RelV x u
  | _, _, _, _, .nil, e => by simp at e
  | _, _, 0, _, .cons r _, e => by simp at e; subst e; exact ⟨_, rfl, r⟩
  | _, _, i + 1, x, .cons _ t, e => by
    obtain ⟨u, h1, h2⟩ := Vals.get (i := i) (x := x) t (by simpa using e)
    exact ⟨u, by simpa using h1, h2⟩
theorem Vals.set {x : V} {u : Value} (r : RelV x u) : ∀ {xs : List V} {us : List Value} (i : Nat), Vals xs us → Vals (xs.set i x) (us.set i u)
  | _, _, _, .nil => .nil
  | _, _, 0, .cons _ t => .cons r t
  | _, _, i + 1, .cons q t => .cons q (Vals.set r i t)
theorem Vals.append : ∀ {xs ys : List V} {us ws : List Value}, Vals xs us → Vals ys ws → Vals (xs ++ ys) (us ++ ws)
  | _, _, _, _, .nil, s => s
  | _, _, _, _, .cons r t, s => .cons r (Vals.append t s)
theorem Vals.take : ∀ {xs : List V} {us : List Value} (n : Nat), Vals xs us → Vals (xs.take n) (us.take n)
  | _, _, 0, _ => .nil
  | _, _, _ + 1, .nil => .nil
  | _, _, n + 1, .cons r t => .cons r (Vals.take n t)
theorem Vals.drop : ∀ {xs : List V} {us : List Value} (n : Nat), Vals xs us → Vals (xs.drop n) (us.drop n)
  | _, _, 0, r => r
  | _, _, _ + 1, .nil => .nil
  | _, _, n + 1, .cons _ t => Vals.drop n t
def RelO : Option V → Option Value → Prop
  | some v, some u => RelV v u
  | none, none => True
  | _, _ => False
def KV {κ : Type} : List (κ × V) → List (κ × Value) → Prop := Paired fun (p : κ × V) (q : κ × Value) => p.1 = q.1 ∧ RelV p.2 q.2

/-- a key of a dict (00_mix): an int or a text -/
def kV : Key → V
  | .inl i => .int i
  | .inr x => .str x

/-- what stands at a tracked address -/
inductive HO where
  /-- a list -/
  | lst (xs : List V)
  /-- a tuple (never changes) -/
  | tup (xs : List V)
  /-- a dict whose keys are ints and texts; one whose keys are tuples of ints and texts (the empty one is both) -/
  | dK (kvs : List (Key × V)) | dT (kvs : List (List Key × V))
  /-- a set of ints: its members, its size -/
  | set (S : Int → Bool) (n : Nat)
  /-- an instance of the class at C, its dict at dx, its attributes -/
  | ins (C dx : Addr) (fs : List (Str × V))
  /-- the dict of the instance at x -/
  | own (x : Addr)
  /-- the dict of an exception -/
  | xd (fs : List (Str × V))
  /-- a bound method, f of x -/
  | met (f x : Addr)
  /-- a range object lo, lo + 1, .. below hi -/
  | rng (lo hi : Int)
  /-- a thing that is known to the object (the script; a dict while a loop walks it): read, never written while it is so -/
  | frz (o : Obj) (u : HO)
  /-- a code object's table -/
  | tbl (ps : Array Value)
  /-- any other thing, by what is true of its one object (a def of one's own: SetO a S n := HO.ext fun h => ..) -/
  | ext (φ : Heap → Prop)

abbrev Hp := Addr → Option HO
def upd (H : Hp) (a : Addr) (o : HO) : Hp := fun b => if b = a then some o else H b
theorem upd_same {H : Hp} {a : Addr} {o : HO} : upd H a o a = some o := by unfold upd; rw [if_pos rfl]
theorem upd_ne {H : Hp} {a b : Addr} {o : HO} (h : b ≠ a) : upd H a o b = H b := by unfold upd; rw [if_neg h]
/-- two objects of different content stand apart -/
theorem ne_of {H : Hp} {a b : Addr} {o u : HO} (h : H a = some o) (h' : H b = some u) (d : o ≠ u) : a ≠ b := by
  intro e; subst e; rw [h] at h'; exact d (Option.some.inj h')
theorem ne_of_none {H : Hp} {a b : Addr} {o : HO} (h : H a = some o) (h' : H b = none) : a ≠ b := by
  intro e; subst e; rw [h] at h'; cases h'

/-- a tuple, with no dict of its own -/
def IsTupX (h : Heap) (a : Addr) (items : Array Value) : Prop := ∃ o, h.get? a = some o ∧ o.cls = .type "tuple" ∧ ∃ n, o.data = .seq items n ∧ o.dict = none
theorem IsTupX.tup {h : Heap} {a : Addr} {items : Array Value} (p : IsTupX h a items) : IsTup h a items := let ⟨o, h1, h2, n, h3, _⟩ := p; ⟨o, h1, h2, n, h3⟩
theorem IsTupX.new (h : Heap) (items : Array Value) : IsTupX (h.push { cls := .type "tuple", data := .seq items }) h.objs.size items := ⟨_, Heap.get?_push_size _ rfl, rfl, _, rfl, rfl⟩
section
variable (P : Program) (w : World)
def ObjOk (H : Hp) (h : Heap) (a : Addr) : HO → Prop
  | .lst xs => xs.length ≤ sizeLine ∧ ∃ (its : List Value) (n : Nat), Vals xs its ∧ h.get? a = some { cls := .type "list", data := .seq its.toArray n }
  | .tup xs => xs.length ≤ sizeLine ∧ ∃ its : List Value, Vals xs its ∧ IsTupX h a its.toArray
  | .dK kvs => kvs.length ≤ sizeLine ∧ (a == sysModules) = false ∧ ∃ vs, KV kvs vs ∧ h.DictOf (mixKind P w) a vs
  | .dT kvs => kvs.length ≤ sizeLine ∧ (a == sysModules) = false ∧ ∃ xs : List (List Key × Addr × Value),
      Paired (fun (p : List Key × V) (q : List Key × Addr × Value) => p.1 = q.1 ∧ H q.2.1 = some (.tup (p.1.map kV)) ∧ RelV p.2 q.2.2) kvs xs ∧
      ∃ o es ep, h.get? a = some o ∧ o.ExactDict ∧ o.data = .dict es ep ∧ es.toList = xs.map (entryOfKey (tupleKind (mixKind P w))) ∧ (xs.map (·.1)).Nodup
  | .set S n => h.SetOf (intKind P w) a S n
  | .ins C dx fs => H dx = some (.own a) ∧ fs.length ≤ 1000 ∧ dx ≠ a ∧ h.get? a = some (PySem.W.instObj C dx) ∧
      ∃ mA, h.Ns1 dx mA ∧ (∀ f, RelO (fs.lookup f) (mA f)) ∧ PySem.Within mA (fs.map (·.1))
  | .own _ => ∃ o, h.get? a = some o
  | .xd fs => ∃ mA, h.Ns1 a mA ∧ ∀ f, RelO (fs.lookup f) (mA f)
  | .rng lo hi => ∃ t u v, h.get? a = some { cls := .type "range", data := .fields #[.int lo t, .int hi u, .int 1 v] }
  | .frz o u => h.get? a = some o ∧ ObjOk H h a u
  | .tbl ps => h.get? a = some { cls := .none, data := .fields ps }
  | .met f x => h.get? a = some (PySem.W.methodObj (.ref f) (.ref x))
  | .ext φ => φ h ∧ (∃ o, h.get? a = some o) ∧ ∀ h1 h2 : Heap, φ h1 → (∀ o, h1.get? a = some o → h2.get? a = some o) → φ h2
/-- the abstract heap is held -/
def HOk (H : Hp) (h : Heap) : Prop := ∀ a o, H a = some o → ObjOk P w H h a o
end

section
variable {P : Program} {w : World} {H H' : Hp} {h h' : Heap} {a : Addr} {o : HO}
theorem ObjOk.lt (x : ObjOk P w H h a o) : a < h.objs.size := by
  cases o with
  | lst xs => obtain ⟨_, _, _, _, e⟩ := x; exact Heap.lt_size e
  | tup xs => obtain ⟨_, _, _, p⟩ := x; exact p.tup.lt
  | dK kvs => obtain ⟨_, _, _, _, o, _, _, e, _⟩ := x; exact Heap.lt_size e
  | dT kvs => obtain ⟨_, _, _, _, o, _, _, e, _⟩ := x; exact Heap.lt_size e
  | set S n => obtain ⟨o, _, _, _, e, _⟩ := x; exact Heap.lt_size e
  | ins C dx fs => obtain ⟨_, _, _, e, _⟩ := x; exact Heap.lt_size e
  | own y => obtain ⟨_, e⟩ := x; exact Heap.lt_size e
  | xd fs => obtain ⟨_, ⟨_, _, _, e, _⟩, _⟩ := x; exact Heap.lt_size e
  | rng lo hi => obtain ⟨_, _, _, e⟩ := x; exact Heap.lt_size e
  | frz ob u => obtain ⟨e, _⟩ := x; exact Heap.lt_size e
  | tbl ps => exact Heap.lt_size (show h.get? a = some _ from x)
  | met f y => exact Heap.lt_size (show h.get? a = some _ from x)
  | ext φ => obtain ⟨_, ⟨_, e⟩, _⟩ := x; exact Heap.lt_size e
theorem Paired.mapP {α β : Type} {F G : α → β → Prop} : ∀ {l₁ : List α} {l₂ : List β}, Paired F l₁ l₂ → (∀ a b, F a b → G a b) → Paired G l₁ l₂
  | _, _, .nil, _ => .nil
  | _, _, .cons r t, f => .cons (f _ _ r) (Paired.mapP t f)
/-- what an object's description leans on: its own object, its own dict, the tuples -/
theorem ObjOk.stay (x : ObjOk P w H h a o) (k : ∀ b u, (b = a ∨ H b = some (.own a)) → h.get? b = some u → h'.get? b = some u)
    (ho : ∀ b, H b = some (.own a) → H' b = some (.own a)) (ht : ∀ b xs, H b = some (.tup xs) → H' b = some (.tup xs)) : ObjOk P w H' h' a o := by
  induction o with
  | lst xs => obtain ⟨z, its, n, r, e⟩ := x; exact ⟨z, its, n, r, k _ _ (.inl rfl) e⟩
  | tup xs => obtain ⟨z, its, r, ob, e, c⟩ := x; exact ⟨z, its, r, ob, k _ _ (.inl rfl) e, c⟩
  | dK kvs => obtain ⟨z, y, vs, r, ob, es, ep, e, c⟩ := x; exact ⟨z, y, vs, r, ob, es, ep, k _ _ (.inl rfl) e, c⟩
  | dT kvs =>
    obtain ⟨z, y, xs, r, ob, es, ep, e, c⟩ := x
    exact ⟨z, y, xs, Paired.mapP r fun p q z => ⟨z.1, ht _ _ z.2.1, z.2.2⟩, ob, es, ep, k _ _ (.inl rfl) e, c⟩
  | set S n => obtain ⟨ob, es, ep, t, e, c⟩ := x; exact ⟨ob, es, ep, t, k _ _ (.inl rfl) e, c⟩
  | ins C dx fs =>
    obtain ⟨d, z, ne, e, mA, ⟨od, es, ep, e2, c⟩, r⟩ := x
    exact ⟨ho _ d, z, ne, k _ _ (.inl rfl) e, mA, ⟨od, es, ep, k _ _ (.inr d) e2, c⟩, r⟩
  | own y => obtain ⟨ob, e⟩ := x; exact ⟨ob, k _ _ (.inl rfl) e⟩
  | xd fs => obtain ⟨mA, ⟨od, es, ep, e, c⟩, r⟩ := x; exact ⟨mA, ⟨od, es, ep, k _ _ (.inl rfl) e, c⟩, r⟩
  | rng lo hi => obtain ⟨t, u, v, e⟩ := x; exact ⟨t, u, v, k _ _ (.inl rfl) e⟩
  | frz ob u ih => obtain ⟨e, q⟩ := x; exact ⟨k _ _ (.inl rfl) e, ih q⟩
  | tbl ps =>
    have e : h.get? a = some { cls := .none, data := .fields ps } := x
    show h'.get? a = some { cls := .none, data := .fields ps }
    exact k a _ (.inl rfl) e
  | met f y =>
    have e : h.get? a = some (PySem.W.methodObj (.ref f) (.ref y)) := x
    show h'.get? a = some (PySem.W.methodObj (.ref f) (.ref y))
    exact k a _ (.inl rfl) e
  | ext φ => obtain ⟨p, ⟨o, e⟩, st⟩ := x; exact ⟨st _ _ p fun o q => k _ _ (.inl rfl) q, ⟨o, k _ _ (.inl rfl) e⟩, st⟩
theorem HOk.lt (x : HOk P w H h) (e : H a = some o) : a < h.objs.size := (x a o e).lt
theorem HOk.fresh (x : HOk P w H h) (e : h.objs.size ≤ a) : H a = none := by
  cases q : H a with
  | none => rfl
  | some u => exact absurd (Nat.lt_of_lt_of_le (x.lt q) e) (Nat.lt_irrefl _)
/-- every object of the heap is kept -/
theorem HOk.kept (x : HOk P w H h) (k : ∀ b u, h.get? b = some u → h'.get? b = some u) : HOk P w H h' := fun a o e =>
  (x a o e).stay (fun b u _ q => k b u q) (fun _ q => q) fun _ _ q => q
/-- a new object is laid and tracked -/
theorem HOk.laid (x : HOk P w H h) (k : ∀ b u, h.get? b = some u → h'.get? b = some u) (hp : h.objs.size ≤ a) (new : ObjOk P w (upd H a o) h' a o) : HOk P w (upd H a o) h' := fun b u e => by
  have hn := x.fresh hp
  by_cases hb : b = a
  · subst hb; rw [upd_same] at e; cases e; exact new
  · rw [upd_ne hb] at e
    exact (x b u e).stay (fun c v _ q => k c v q) (fun c q => by rw [upd_ne (ne_of_none q hn)]; exact q) fun c xs q => by rw [upd_ne (ne_of_none q hn)]; exact q
end

/-- what may be read as u: it is u, or a known u -/
def Rd (H : Hp) (a : Addr) (u : HO) : Prop := H a = some u ∨ ∃ o, H a = some (.frz o u)
theorem Rd.ok {P : Program} {w : World} {H : Hp} {h : Heap} {a : Addr} {u : HO} (r : Rd H a u) (x : HOk P w H h) : ObjOk P w H h a u := by
  rcases r with r | ⟨o, r⟩
  · exact x a u r
  · obtain ⟨_, q⟩ := x a _ r
    exact q
/-- what may be written -/
def Mut : Option HO → Prop
  | some (.lst _) => True
  | some (.dK _) => True
  | some (.dT _) => True
  | some (.set _ _) => True
  | some (.ins _ _ _) => True
  | some (.ext _) => True
  | _ => False
section
variable {P : Program} {w : World} {H : Hp} {h h' : Heap} {x e : Addr} {o' : HO}
/-- the object at e is changed: x itself, or the dict of the instance x -/
theorem HOk.write (ok : HOk P w H h) (mu : Mut (H x)) (he : e = x ∨ H e = some (.own x)) (k : ∀ b u, b ≠ e → h.get? b = some u → h'.get? b = some u) (heo : ∃ u, h'.get? e = some u)
    (new : ObjOk P w (upd H x o') h' x o') : HOk P w (upd H x o') h' := fun b u q => by
  have nown : ∀ c y, H c = some (.own y) → c ≠ x := fun c y r z => by subst z; rw [r] at mu; exact mu
  have ntup : ∀ c xs, H c = some (.tup xs) → c ≠ x := fun c xs r z => by subst z; rw [r] at mu; exact mu
  by_cases hb : b = x
  · subst hb; rw [upd_same] at q; cases q; exact new
  · rw [upd_ne hb] at q
    by_cases hbe : b = e
    · have q' : H b = some (.own x) := by
        rcases he with z | z
        · exact absurd (hbe.trans z) hb
        · rw [hbe]; exact z
      rw [q] at q'; cases q'
      obtain ⟨v, hv⟩ := heo
      exact ⟨v, by rw [hbe]; exact hv⟩
    · refine (ok b u q).stay (fun c v hc r => k c v ?_ r) (fun c r => by rw [upd_ne (nown c b r)]; exact r) fun c xs r => by rw [upd_ne (ntup c xs r)]; exact r
      rcases hc with rfl | hc
      · exact hbe
      · rintro rfl
        rcases he with z | z
        · exact nown c b hc z
        · rw [hc] at z; cases z; exact hb rfl
end

/-! ### kept unless tracked; of the frames at fs (the callers') the slots may change (an exception that passes writes there); of the records at ex (iterators) nothing is said -/
structure Un (fs ex : List Addr) (H H' : Hp) (h h' : Heap) : Prop where
  keep : ∀ b o, h.get? b = some o → H b = none → b ∉ fs → b ∉ ex → h'.get? b = some o
  slot : ∀ b o, h.get? b = some o → H b = none → b ∈ fs → b ∉ ex → ∃ sl, h'.get? b = some { o with slots := sl }
  free : ∀ b o, h.get? b = some o → H b = none → b ∉ ex → H' b = none
  there : ∀ b o, h.get? b = some o → b ∉ ex → ∃ o', h'.get? b = some o'
  tups : ∀ b xs, H b = some (.tup xs) → H' b = some (.tup xs)
  frzs : ∀ b o u, H b = some (.frz o u) → H' b = some (.frz o u)
  tbls : ∀ b ps, H b = some (.tbl ps) → ∃ more, H' b = some (.tbl (ps ++ more))
section
variable {fs fs' ex ex' : List Addr} {H H1 H2 : Hp} {h h1 h2 h' : Heap} {a x e : Addr} {o : HO}
theorem Un.any (u : Un fs ex H H1 h h1) {b : Addr} {ob : Obj} (q : h.get? b = some ob) (n : H b = none) (hx : b ∉ ex) : ∃ sl, h1.get? b = some { ob with slots := sl } := by
  by_cases hb : b ∈ fs
  · exact u.slot b ob q n hb hx
  · exact ⟨ob.slots, u.keep b ob q n hb hx⟩
theorem Un.kept (k : ∀ b u, h.get? b = some u → h'.get? b = some u) : Un fs ex H H h h' :=
  ⟨fun b ob q _ _ _ => k b ob q, fun b ob q _ _ _ => ⟨ob.slots, k b ob q⟩, fun _ _ _ n _ => n, fun b ob q _ => ⟨ob, k b ob q⟩, fun _ _ q => q, fun _ _ _ q => q, fun _ ps q => ⟨#[], by rw [q]; simp⟩⟩
theorem Un.refl : Un fs ex H H h h := Un.kept fun _ _ q => q
theorem Un.laid (k : ∀ b u, h.get? b = some u → h'.get? b = some u) (hp : h.objs.size ≤ a) (hn : H a = none) : Un fs ex H (upd H a o) h h' where
  keep := fun b u q _ _ _ => k b u q
  slot := fun b u q _ _ _ => ⟨u.slots, k b u q⟩
  free := fun b u q n _ => by rw [upd_ne (Nat.ne_of_lt (Nat.lt_of_lt_of_le (Heap.lt_size q) hp))]; exact n
  there := fun b u q _ => ⟨u, k b u q⟩
  tups := fun b xs q => by rw [upd_ne (ne_of_none q hn)]; exact q
  frzs := fun b u xs q => by rw [upd_ne (ne_of_none q hn)]; exact q
  tbls := fun b ps q => ⟨#[], by rw [upd_ne (ne_of_none q hn), q]; simp⟩
theorem Un.write (mu : Mut (H x)) (he : e = x ∨ H e = some (.own x)) (k : ∀ b u, b ≠ e → h.get? b = some u → h'.get? b = some u) (heo : ∃ u, h'.get? e = some u) : Un fs ex H (upd H x o) h h' := by
  have hx : ∀ b, H b = none → b ≠ x := fun b n z => by subst z; rw [n] at mu; exact mu
  have hb : ∀ b, H b = none → b ≠ e := fun b n z => by
    subst z
    rcases he with r | r
    · exact hx b n r
    · rw [n] at r; cases r
  have hm : ∀ b u, H b = some u → ¬ Mut (some u) → b ≠ x := fun b u q nm z => by subst z; rw [q] at mu; exact nm mu
  refine ⟨fun b u q n _ _ => k b u (hb b n) q, fun b u q n _ _ => ⟨u.slots, k b u (hb b n) q⟩, fun b u q n _ => by rw [upd_ne (hx b n)]; exact n, fun b u q _ => ?_,
    fun b xs q => by rw [upd_ne (hm b _ q fun z => z)]; exact q, fun b u xs q => by rw [upd_ne (hm b _ q fun z => z)]; exact q, fun b ps q => ⟨#[], by rw [upd_ne (hm b _ q fun z => z), q]; simp⟩⟩
  by_cases hbe : b = e
  · subst hbe; exact heo
  · exact ⟨u, k b u hbe q⟩
end

/-! ### the heap without what is tracked -/
def trk (h : Heap) (H : Hp) : List Addr := (List.range h.objs.size).filter fun a => (H a).isSome
def hidT (h : Heap) (H : Hp) : Heap := PySem.W.hideAll h (trk h H)
theorem hidT_size (h : Heap) (H : Hp) : (hidT h H).objs.size = h.objs.size := PySem.W.hideAll_size _ _
theorem hidT_get {h : Heap} {H : Hp} {b : Addr} {o : Obj} (e : h.get? b = some o) (n : H b = none) : (hidT h H).get? b = some o :=
  PySem.W.hideAll_get _ e fun hm => by
    have q : (H b).isSome = true := (List.mem_filter.mp hm).2
    rw [n] at q; simp at q
theorem of_hidT {h : Heap} {H : Hp} {b : Addr} {o : Obj} (e : (hidT h H).get? b = some o) : h.get? b = some o ∧ H b = none := by
  have e' : h.get? b = some o := PySem.W.of_hideAll (trk h H) e
  refine ⟨e', ?_⟩
  cases q : H b with
  | none => rfl
  | some x =>
    have hm : b ∈ trk h H := List.mem_filter.mpr ⟨List.mem_range.mpr (Heap.lt_size e'), by simp [q]⟩
    have z : (hidT h H).get? b = none := PySem.W.hideAll_none (trk h H) hm
    rw [z] at e; cases e

/-! ### OpenK's ledger, filled with every new object but one -/
end L2

namespace L2
open PySem PySem.Spec PyProof.Rows

/-- the module's facts, over the base: the heap at the law's entry without what is tracked there -/
structure Mod (K : PySem.W.Frag) (mg : Str → Option Value) (base : Heap) : Prop where
  kin : K.In base
  glob : base.Ns mainGlobals mg
  blt : ∃ mb, base.Ns builtinsNs mb ∧ ∀ x : Str, x ≠ "__name__" → mb x = bootBuiltins x
  nolimit : base.NoLimit

/-- the context: a def's body (or a comprehension's block) running. base: fixed through the whole law; s₀, H₀: the entry; outer: the frames whose slots others may change (a def's callers); stack: all frames that run;
   ex: iterators that were made ahead of the entry and are walked here (a comprehension's); fn: the names whose cells were made at the entry (a def: all; a comprehension's block: its own); calm: not within an except suite; pn: pins that every state bears; xe: what is wanted of an exception that leaves the code -/
structure Cx where
  prog : Program
  w : World
  K : PySem.W.Frag
  mg : Str → Option Value
  base : Heap
  A : Around
  N : List Str
  s₀ : Shared
  H₀ : Hp
  env : Env
  outer : List Env
  stack : List Env
  ex : List Addr
  fn : Str → Bool
  calm : Bool
  pn : List (Addr × Obj)
  xe : Value → Shared → Prop
/-- the callers' frames -/
def frs (l : List Env) : List Addr := l.filterMap (·.frame)
abbrev Cx.fs (X : Cx) : List Addr := frs X.outer

def Vis (sc : Scope) (x : Str) : Prop := sc.names.lookup x = some .local ∨ sc.names.lookup x = some .cell ∨ sc.names.lookup x = some .free
def Loc (sc : Scope) (x : Str) : Prop := sc.names.lookup x = some .local ∨ sc.names.lookup x = some .cell
def Look (env : Env) (h : Heap) (m : Str → Option Value) (x : Str) (u : Value) : Prop :=
  (env.kindOf x = some .local ∧ m x = some u) ∨ ((env.kindOf x = some .cell ∨ env.kindOf x = some .free) ∧ ∃ c, env.cells.lookup x = some c ∧ h.IsCell c (some u))

structure Cx.Ok (X : Cx) : Prop where
  mod : Mod X.K X.mg X.base
  kind : X.env.scope.kind = .function
  glob : X.env.globals = mainGlobals
  blt : X.env.builtins = builtinsNs
  above : X.s₀.heap.objs.size ≤ X.env.locals
  inj : ∀ x y c, X.env.cells.lookup x = some c → X.env.cells.lookup y = some c → x = y
  has : ∀ x, (X.env.kindOf x = some .cell ∨ X.env.kindOf x = some .free) → ∃ c, X.env.cells.lookup x = some c
  cab : ∀ x c, X.fn x = true → X.env.cells.lookup x = some c → X.s₀.heap.objs.size ≤ c
  hd : X.calm = true → X.A.handled = none
  frames : X.A.frames = some X.stack
  stk : X.stack = X.outer ∨ (X.stack = X.env :: X.outer ∧ X.env.frame = some X.env.locals)
  exf : ∀ b ∈ X.ex, b ≠ X.env.locals ∧ ∀ x c, X.env.cells.lookup x = some c → c ≠ b
  bs : ∀ b o, X.base.get? b = some o → X.s₀.heap.get? b = some o ∧ X.H₀ b = none
  bsz : X.base.objs.size ≤ X.s₀.heap.objs.size
  noex : ∀ b o, X.base.get? b = some o → b ∉ X.ex
  exfs : ∀ b ∈ X.ex, b ∉ X.fs
  funs : X.s₀.heap.FunFrames X.base X.outer
  frf : ∀ b ∈ X.fs, X.H₀ b = none

structure Inv (X : Cx) (pins : List (Addr × Obj)) (σ : List (Option V)) (H : Hp) (s : Shared) : Prop where
  ok : X.Ok
  os : s.os = X.s₀.os
  bare : AllBare s.gens
  base : Un X.fs X.ex X.H₀ H X.s₀.heap s.heap
  loc : ∃ m, s.heap.Ns X.env.locals m ∧ ∀ (i : Nat) (x : Str) (v : V), X.N[i]? = some x → σ[i]? = some (some v) → Vis X.env.scope x → ∃ u, RelV v u ∧ Look X.env s.heap m x u
  cell : ∀ x c, X.env.cells.lookup x = some c → ∃ v, s.heap.IsCell c v
  free : H X.env.locals = none
  freeC : ∀ x c, X.env.cells.lookup x = some c → H c = none
  pin : ∀ p ∈ X.pn ++ pins, s.heap.get? p.1 = some p.2 ∧ H p.1 = none ∧ p.1 ≠ X.env.locals ∧ p.1 ∉ X.fs ∧ ∀ v, p.2.data ≠ .cell v
  hok : HOk X.prog X.w H s.heap
  len : σ.length = X.N.length

section
variable {X : Cx} {pins : List (Addr × Obj)} {σ : List (Option V)} {H H' : Hp} {s : Shared} {h' : Heap}

theorem Cx.Ok.nofr (ok : X.Ok) {b : Addr} {o : Obj} (e : X.base.get? b = some o) : b ∉ X.fs := fun hb => by
  have := (ok.funs.mem hb).1
  rw [e] at this; cases this
theorem Inv.bs (I : Inv X pins σ H s) : ∀ b o, X.base.get? b = some o → s.heap.get? b = some o ∧ H b = none := fun b o e =>
  ⟨I.base.keep b o (I.ok.bs b o e).1 (I.ok.bs b o e).2 (I.ok.nofr e) (I.ok.noex b o e), I.base.free b o (I.ok.bs b o e).1 (I.ok.bs b o e).2 (I.ok.noex b o e)⟩
theorem Inv.bk (I : Inv X pins σ H s) : ∀ b o, X.base.get? b = some o → s.heap.get? b = some o := fun b o e => (I.bs b o e).1
theorem Inv.mod (I : Inv X pins σ H s) : Mod X.K X.mg X.base := I.ok.mod
theorem Inv.kIn (I : Inv X pins σ H s) : X.K.In s.heap := I.ok.mod.kin.keeps I.bk
theorem Inv.lt (I : Inv X pins σ H s) : X.env.locals < s.heap.objs.size := let ⟨_, hn, _⟩ := I.loc; hn.lt
theorem Inv.sz (I : Inv X pins σ H s) : X.s₀.heap.objs.size ≤ s.heap.objs.size := Nat.le_trans I.ok.above (Nat.le_of_lt I.lt)
theorem Inv.nofs (I : Inv X pins σ H s) {a : Addr} (h : s.heap.objs.size ≤ a) : a ∉ X.fs := fun hb => by
  obtain ⟨_, o, ho, _⟩ := I.ok.funs.mem hb
  exact absurd (Nat.lt_of_lt_of_le (Heap.lt_size ho) (Nat.le_trans I.sz h)) (Nat.lt_irrefl _)
theorem Inv.cne (I : Inv X pins σ H s) : ∀ x c, X.env.cells.lookup x = some c → c ≠ X.env.locals := fun x c e z => by
  obtain ⟨v, o, ho, hd⟩ := I.cell x c e
  obtain ⟨m, ⟨o', es, ep, ho', hd', _⟩, _⟩ := I.loc
  rw [z, ho'] at ho; cases ho; rw [hd'] at hd; cases hd
theorem Inv.funs (I : Inv X pins σ H s) : s.heap.FunFrames X.base X.outer := by
  have all : ∀ (l : List Env), (∀ b ∈ frs l, b ∈ X.fs) → X.s₀.heap.FunFrames X.base l → s.heap.FunFrames X.base l := by
    intro l
    induction l with
    | nil => intro _ _; trivial
    | cons env r ih =>
      intro hs hl
      obtain ⟨hk, ⟨L, o, hf, hn, ho, hd⟩, hr⟩ := hl
      have hL : L ∈ X.fs := hs L (by unfold frs; rw [List.filterMap_cons, hf]; exact List.mem_cons_self)
      obtain ⟨sl, e⟩ := I.base.slot L o ho (I.ok.frf L hL) hL fun z => I.ok.exfs L z hL
      exact ⟨hk, ⟨L, _, hf, hn, e, hd⟩, ih (fun b hb => hs b (by unfold frs; rw [List.filterMap_cons, hf]; exact List.mem_cons_of_mem _ hb)) hr⟩
  exact all X.outer (fun _ hb => hb) I.ok.funs

/-- the frames that run, for a call -/
theorem Inv.stack (I : Inv X pins σ H s) : s.heap.FunFrames X.base X.stack := by
  rcases I.ok.stk with e | ⟨e, hf⟩
  · rw [e]; exact I.funs
  · rw [e]
    obtain ⟨m, hn, _⟩ := I.loc
    refine .cons (by rw [I.ok.kind]; decide) hf hn ?_ I.funs
    exact Heap.get?_none_of_le (Nat.le_trans I.ok.bsz I.ok.above)
theorem Inv.stkSub (I : Inv X pins σ H s) : ∀ b ∈ frs X.stack, b ∈ X.env.locals :: X.fs := fun b hb => by
  rcases I.ok.stk with e | ⟨e, hf⟩
  · rw [e] at hb; exact List.mem_cons_of_mem _ hb
  · rw [e] at hb
    unfold frs at hb
    rw [List.filterMap_cons, hf] at hb
    exact hb
theorem Inv.stkFree (I : Inv X pins σ H s) : ∀ b ∈ frs X.stack, H b = none := fun b hb => by
  rcases List.mem_cons.mp (I.stkSub b hb) with e | hb
  · rw [e]; exact I.free
  · obtain ⟨_, o, ho, _⟩ := I.ok.funs.mem hb
    exact I.base.free b o ho (I.ok.frf b hb) fun z => I.ok.exfs b z hb

/-- THE STEP: the untracked objects but the frame and the records at ch are kept (the callers' frames up to slots), the frame's map is kept, the new abstract heap is held -/
theorem Inv.step {g' : Array GenState} {t' : Nat} {d' : Drawn} {ch : List Addr} (I : Inv X pins σ H s)
    (hch : ∀ b ∈ ch, (b ∈ X.ex ∨ X.s₀.heap.objs.size ≤ b) ∧ b ≠ X.env.locals ∧ (∀ x c, X.env.cells.lookup x = some c → c ≠ b) ∧ ∀ p ∈ X.pn ++ pins, p.1 ≠ b)
    (keep : ∀ b o, b ≠ X.env.locals → b ∉ X.fs → b ∉ ch → s.heap.get? b = some o → H b = none → h'.get? b = some o)
    (slot : ∀ b o, b ≠ X.env.locals → b ∈ X.fs → b ∉ ch → s.heap.get? b = some o → H b = none → ∃ sl, h'.get? b = some { o with slots := sl }) (free : ∀ b o, b ∉ ch → s.heap.get? b = some o → H b = none → H' b = none)
    (there : ∀ b o, b ∉ ch → s.heap.get? b = some o → ∃ o', h'.get? b = some o')
    (tups : ∀ b xs, H b = some (.tup xs) → H' b = some (.tup xs)) (frzs : ∀ b o u, H b = some (.frz o u) → H' b = some (.frz o u)) (tbls : ∀ b ps, H b = some (.tbl ps) → ∃ more, H' b = some (.tbl (ps ++ more)))
    (ns : ∀ m, s.heap.Ns X.env.locals m → h'.Ns X.env.locals m) (hok : HOk X.prog X.w H' h') (hg : AllBare g') :
    Inv X pins σ H' { s with heap := h', gens := g', drawn := d', toks := t' } := by
  have neL : ∀ b o, X.s₀.heap.get? b = some o → b ≠ X.env.locals := fun b o e => Nat.ne_of_lt (Nat.lt_of_lt_of_le (Heap.lt_size e) I.ok.above)
  have neC : ∀ b o, X.s₀.heap.get? b = some o → b ∉ X.ex → b ∉ ch := fun b o e hx hb => by
    rcases (hch b hb).1 with z | z
    · exact hx z
    · exact absurd (Nat.lt_of_lt_of_le (Heap.lt_size e) z) (Nat.lt_irrefl _)
  have cellK : ∀ x c, X.env.cells.lookup x = some c → ∀ v, s.heap.IsCell c v → h'.IsCell c v := fun x c e v ⟨o, ho, hd⟩ => by
    have nch : c ∉ ch := fun z => (hch c z).2.2.1 x c e rfl
    by_cases hc : c ∈ X.fs
    · obtain ⟨sl, q⟩ := slot c o (I.cne x c e) hc nch ho (I.freeC x c e)
      exact ⟨_, q, hd⟩
    · exact ⟨o, keep c o (I.cne x c e) hc nch ho (I.freeC x c e), hd⟩
  refine ⟨I.ok, I.os, hg, ⟨fun b o e n hb hx => ?_, fun b o e n hb hx => ?_, fun b o e n hx => ?_, fun b o e hx => ?_, fun b xs e => tups b xs (I.base.tups b xs e), fun b o xs e => frzs b o xs (I.base.frzs b o xs e), fun b ps e => ?_⟩, ?_, fun x c e => ?_, ?_, fun x c e => ?_, fun p hp => ?_, hok, I.len⟩
  · exact keep b o (neL b o e) hb (neC b o e hx) (I.base.keep b o e n hb hx) (I.base.free b o e n hx)
  · obtain ⟨sl, e1⟩ := I.base.slot b o e n hb hx
    obtain ⟨sl', e2⟩ := slot b _ (neL b o e) hb (neC b o e hx) e1 (I.base.free b o e n hx)
    exact ⟨sl', e2⟩
  · obtain ⟨o', e1⟩ := I.base.there b o e hx
    exact free b o' (neC b o e hx) e1 (I.base.free b o e n hx)
  · obtain ⟨o', e1⟩ := I.base.there b o e hx
    exact there b o' (neC b o e hx) e1
  · obtain ⟨m1, e1⟩ := I.base.tbls b ps e
    obtain ⟨m2, e2⟩ := tbls b _ e1
    exact ⟨m1 ++ m2, by rw [e2, Array.append_assoc]⟩
  · obtain ⟨m, hn, hl⟩ := I.loc
    refine ⟨m, ns m hn, fun i x v e1 e2 e3 => ?_⟩
    obtain ⟨u, r, l⟩ := hl i x v e1 e2 e3
    refine ⟨u, r, ?_⟩
    rcases l with l | ⟨k, c, e, z⟩
    · exact .inl l
    · exact .inr ⟨k, c, e, cellK x c e _ z⟩
  · obtain ⟨v, z⟩ := I.cell x c e
    exact ⟨v, cellK x c e v z⟩
  · obtain ⟨m, ⟨o, _, _, ho, _⟩, _⟩ := I.loc
    exact free _ o (fun z => (hch _ z).2.1 rfl) ho I.free
  · obtain ⟨v, o, ho, hd⟩ := I.cell x c e
    exact free c o (fun z => (hch c z).2.2.1 x c e rfl) ho (I.freeC x c e)
  · obtain ⟨e, n, ne, nf, d⟩ := I.pin p hp
    have nch : p.1 ∉ ch := fun z => (hch p.1 z).2.2.2 p hp rfl
    exact ⟨keep p.1 p.2 ne nf nch e n, free p.1 p.2 nch e n, ne, nf, d⟩
/-- .. where the frame's own object is kept too -/
theorem Inv.un {t' : Nat} (I : Inv X pins σ H s) (u : Un X.fs [] H H' s.heap h') (hok : HOk X.prog X.w H' h') : Inv X pins σ H' { s with heap := h', toks := t' } := by
  obtain ⟨m, ⟨o, es, ep, ho, r⟩, _⟩ := id I.loc
  obtain ⟨sl, hL⟩ := u.any ho I.free (by simp)
  exact I.step (g' := s.gens) (d' := s.drawn) (ch := []) (fun _ z => nomatch z) (fun b o _ hb _ e n => u.keep b o e n hb (by simp)) (fun b o _ hb _ e n => u.slot b o e n hb (by simp)) (fun b o _ e n => u.free b o e n (by simp)) (fun b o _ e => u.there b o e (by simp)) u.tups u.frzs u.tbls (fun m' hm => by
    obtain ⟨o', es', ep', ho', r'⟩ := hm
    rw [ho] at ho'; cases ho'
    exact ⟨_, es', ep', hL, r'⟩) hok I.bare
/-- behind a call (or a comprehension's block): the slots of this frame may have changed too, the records at ch may have turned -/
theorem Inv.call {g' : Array GenState} {t' : Nat} {d' : Drawn} {ch : List Addr} (I : Inv X pins σ H s) (u : Un (frs X.stack) ch H H' s.heap h') (hok : HOk X.prog X.w H' h') (hg : AllBare g')
    (hch : ∀ b ∈ ch, (b ∈ X.ex ∨ X.s₀.heap.objs.size ≤ b) ∧ b ≠ X.env.locals ∧ (∀ x c, X.env.cells.lookup x = some c → c ≠ b) ∧ ∀ p ∈ X.pn ++ pins, p.1 ≠ b) :
    Inv X pins σ H' { s with heap := h', gens := g', drawn := d', toks := t' } := by
  obtain ⟨m, ⟨o, es, ep, ho, r⟩, _⟩ := id I.loc
  obtain ⟨sl, hL⟩ := u.any ho I.free fun z => (hch _ z).2.1 rfl
  exact I.step (ch := ch) hch (fun b o hL hb hc e n => u.keep b o e n (fun z => (List.mem_cons.mp (I.stkSub b z)).elim hL hb) hc) (fun b o _ _ hc e n => u.any e n hc) (fun b o hc e n => u.free b o e n hc) (fun b o hc e => u.there b o e hc) u.tups u.frzs u.tbls (fun m' hm => by
    obtain ⟨o', es', ep', ho', r'⟩ := hm
    rw [ho] at ho'; cases ho'
    exact ⟨_, es', ep', hL, r'⟩) hok hg
/-- an untracked record of ours (an iterator) has turned -/
theorem Inv.turned {t' : Nat} {it : Addr} (I : Inv X pins σ H s) (k : ∀ b o, b ≠ it → s.heap.get? b = some o → h'.get? b = some o) (hn : H it = none) (hL : it ≠ X.env.locals)
    (h1 : it ∈ X.ex ∨ X.s₀.heap.objs.size ≤ it) (h2 : ∀ x c, X.env.cells.lookup x = some c → c ≠ it) (h3 : ∀ p ∈ X.pn ++ pins, p.1 ≠ it) : Inv X pins σ H { s with heap := h', toks := t' } := by
  have nit : ∀ b u, H b = some u → b ≠ it := fun b u e z => by rw [z, hn] at e; cases e
  refine I.step (g' := s.gens) (d' := s.drawn) (ch := [it]) (fun b hb => ?_) (fun b o _ _ hc e _ => k b o (fun z => hc (by simp [z])) e) (fun b o _ _ hc e _ => ⟨o.slots, k b o (fun z => hc (by simp [z])) e⟩) (fun _ _ _ _ n => n)
    (fun b o hc e => ⟨o, k b o (fun z => hc (by simp [z])) e⟩) (fun _ _ e => e) (fun _ _ _ e => e) (fun b ps e => ⟨#[], by rw [e]; simp⟩) (fun m hm => ?_) (fun b u e => ?_) I.bare
  · have e : b = it := by simpa using hb
    subst e
    exact ⟨h1, hL, h2, h3⟩
  · obtain ⟨o, es, ep, ho, r⟩ := hm
    exact ⟨o, es, ep, k _ o (Ne.symm hL) ho, r⟩
  · refine (I.hok b u e).stay (fun c v hc q => k c v ?_ q) (fun _ q => q) fun _ _ q => q
    rcases hc with z | z
    · rw [z]; exact nit b u e
    · exact nit c _ z
theorem Inv.tok (I : Inv X pins σ H s) (t : Nat) : Inv X pins σ H { s with toks := t } := I.un (h' := s.heap) (t' := t) Un.refl I.hok
/-- all objects kept -/
theorem Inv.kept {t' : Nat} (I : Inv X pins σ H s) (k : ∀ b u, s.heap.get? b = some u → h'.get? b = some u) : Inv X pins σ H { s with heap := h', toks := t' } := I.un (Un.kept k) (I.hok.kept k)
/-- a new object laid and tracked -/
theorem Inv.laid {a : Addr} {o : HO} {t' : Nat} (I : Inv X pins σ H s) (k : ∀ b u, s.heap.get? b = some u → h'.get? b = some u) (hp : s.heap.objs.size ≤ a) (new : ObjOk X.prog X.w (upd H a o) h' a o) :
    Inv X pins σ (upd H a o) { s with heap := h', toks := t' } := I.un (Un.laid k hp (I.hok.fresh hp)) (I.hok.laid k hp new)
/-- an object written -/
theorem Inv.write {x e : Addr} {o : HO} {t' : Nat} (I : Inv X pins σ H s) (mu : Mut (H x)) (he : e = x ∨ H e = some (.own x)) (k : ∀ b u, b ≠ e → s.heap.get? b = some u → h'.get? b = some u) (heo : ∃ u, h'.get? e = some u)
    (new : ObjOk X.prog X.w (upd H x o) h' x o) : Inv X pins σ (upd H x o) { s with heap := h', toks := t' } := I.un (Un.write mu he k heo) (I.hok.write mu he k heo new)
/-- forgetting slots, pins -/
theorem Inv.weak {σ' : List (Option V)} (I : Inv X pins σ H s) (hl : σ'.length = σ.length) (w : ∀ (i : Nat) v, σ'[i]? = some (some v) → σ[i]? = some (some v)) : Inv X pins σ' H s :=
  ⟨I.ok, I.os, I.bare, I.base, let ⟨m, hn, hl'⟩ := I.loc; ⟨m, hn, fun i x v e1 e2 e3 => hl' i x v e1 (w i v e2) e3⟩, I.cell, I.free, I.freeC, I.pin, I.hok, hl.trans I.len⟩
theorem Inv.pins_of {pins' : List (Addr × Obj)} (I : Inv X pins σ H s) (h : ∀ p ∈ pins', s.heap.get? p.1 = some p.2 ∧ H p.1 = none ∧ p.1 ≠ X.env.locals ∧ p.1 ∉ X.fs ∧ ∀ v, p.2.data ≠ .cell v) : Inv X pins' σ H s :=
  ⟨I.ok, I.os, I.bare, I.base, I.loc, I.cell, I.free, I.freeC, fun p hp => (List.mem_append.mp hp).elim (fun z => I.pin p (List.mem_append_left _ z)) (h p), I.hok, I.len⟩

theorem nodup_ix {N : List Str} (hN : N.Nodup) {i j : Nat} {x : Str} (a : N[i]? = some x) (b : N[j]? = some x) : i = j := by
  obtain ⟨h1, e1⟩ := List.getElem?_eq_some_iff.mp a
  obtain ⟨h2, e2⟩ := List.getElem?_eq_some_iff.mp b
  exact (List.getElem_inj hN).mp (e1.trans e2.symm)

/-- a name is stored; what changed -/
theorem store_ok2 {M : Model} {A : Around} {E : Value → Shared → Prop} {i : Nat} {x : Str} {v : V} {u : Value} {Q : Unit → Shared → Prop} (I : Inv X pins σ H s) (hN : X.N.Nodup) (hi : X.N[i]? = some x) (hx : Loc X.env.scope x) (r : RelV v u)
    (h : ∀ s', Inv X pins (σ.set i (some v)) H s' → (∃ a, Heap.SameBut a s.heap s'.heap ∧ (a = X.env.locals ∨ X.env.cells.lookup x = some a)) → Q () s') (hf : X.fn x = true ∨ X.env.scope.names.lookup x = some .local := by first | exact .inl rfl | exact .inr rfl | assumption) : wpAny M A (storeName X.env x u) Q E s := by
  obtain ⟨m, hn, hl⟩ := id I.loc
  have hcls : (X.env.scope.kind == .class || (X.env.scope.kind == .module && X.env.locals != X.env.globals)) = false := by rw [I.ok.kind]; rfl
  have hiσ : i < σ.length := by rw [I.len]; exact (List.getElem?_eq_some_iff.mp hi).1
  have cne := I.cne
  have tracked : ∀ {a : Addr} {h' : Heap}, (∃ o, s.heap.get? a = some o ∧ H a = none) → Heap.SameBut a s.heap h' → HOk X.prog X.w H h' := fun {a h'} ha hs b ob e => by
    obtain ⟨_, _, hfree⟩ := ha
    refine (I.hok b ob e).stay (fun c w' hc q => (hs.2 c ?_).trans q) (fun _ q => q) fun _ _ q => q
    rintro rfl
    rcases hc with rfl | hc
    · rw [hfree] at e; cases e
    · rw [hfree] at hc; cases hc
  rcases hx with hk | hk
  · refine wpAny_storeName_local hk hn (fun h' hn' hs => ?_) hcls
    obtain ⟨oL, _, _, hoL, _⟩ := id hn
    refine h _ ⟨I.ok, I.os, I.bare, ⟨fun b o e n hb hx => ?_, fun b o e n hb hx => ?_, I.base.free, fun b o e hx => ?_, I.base.tups, I.base.frzs, I.base.tbls⟩, ⟨_, hn', fun j y v' e1 e2 e3 => ?_⟩, fun y c e => ?_, I.free, I.freeC, fun p hp => ?_, tracked ⟨oL, hoL, I.free⟩ hs, by simpa using I.len⟩ ⟨_, hs, .inl rfl⟩
    · exact (hs.2 b (Nat.ne_of_lt (Nat.lt_of_lt_of_le (Heap.lt_size e) I.ok.above))).trans (I.base.keep b o e n hb hx)
    · obtain ⟨sl, e1⟩ := I.base.slot b o e n hb hx
      exact ⟨sl, (hs.2 b (Nat.ne_of_lt (Nat.lt_of_lt_of_le (Heap.lt_size e) I.ok.above))).trans e1⟩
    · obtain ⟨o', e1⟩ := I.base.there b o e hx
      exact ⟨o', (hs.2 b (Nat.ne_of_lt (Nat.lt_of_lt_of_le (Heap.lt_size e) I.ok.above))).trans e1⟩
    · by_cases hj : j = i
      · subst hj
        rw [hi] at e1; cases e1
        rw [List.getElem?_set_self hiσ] at e2
        cases e2
        exact ⟨u, r, .inl ⟨hk, by simp⟩⟩
      · rw [List.getElem?_set_ne (Ne.symm hj)] at e2
        obtain ⟨u', r', q⟩ := hl j y v' e1 e2 e3
        refine ⟨u', r', ?_⟩
        rcases q with ⟨k, e⟩ | ⟨k, c, e, z⟩
        · refine .inl ⟨k, ?_⟩
          have : y ≠ x := fun e => hj (nodup_ix hN e1 (e ▸ hi))
          simp [this, e]
        · exact .inr ⟨k, c, e, z.sameBut hs (cne y c e)⟩
    · obtain ⟨w', z⟩ := I.cell y c e
      exact ⟨w', z.sameBut hs (cne y c e)⟩
    · obtain ⟨e, n, ne, nf, d⟩ := I.pin p hp
      exact ⟨(hs.2 p.1 ne).trans e, n, ne, nf, d⟩
  · have hfn : X.fn x = true := by
      rcases hf with z | z
      · exact z
      · rw [z] at hk; cases hk
    obtain ⟨c, hc⟩ := I.ok.has x (.inl hk)
    obtain ⟨w', z⟩ := I.cell x c hc
    refine wpAny_storeName_cell I.ok.kind hk hc z (fun h' hc' hs => ?_)
    obtain ⟨oc, hoc, hocd⟩ := id z
    refine h { s with heap := h' } ⟨I.ok, I.os, I.bare, ⟨fun b o e n hb hx => ?_, fun b o e n hb hx => ?_, I.base.free, fun b o e hx => ?_, I.base.tups, I.base.frzs, I.base.tbls⟩, ⟨m, hn.sameBut hs (Ne.symm (cne x c hc)), fun j y v' e1 e2 e3 => ?_⟩, fun y c' e => ?_, I.free, I.freeC, fun p hp => ?_, tracked ⟨oc, hoc, I.freeC x c hc⟩ hs, by simpa using I.len⟩ ⟨c, hs, .inr hc⟩
    · exact (hs.2 b (Nat.ne_of_lt (Nat.lt_of_lt_of_le (Heap.lt_size e) (I.ok.cab x c hfn hc)))).trans (I.base.keep b o e n hb hx)
    · obtain ⟨sl, e1⟩ := I.base.slot b o e n hb hx
      exact ⟨sl, (hs.2 b (Nat.ne_of_lt (Nat.lt_of_lt_of_le (Heap.lt_size e) (I.ok.cab x c hfn hc)))).trans e1⟩
    · obtain ⟨o', e1⟩ := I.base.there b o e hx
      exact ⟨o', (hs.2 b (Nat.ne_of_lt (Nat.lt_of_lt_of_le (Heap.lt_size e) (I.ok.cab x c hfn hc)))).trans e1⟩
    · by_cases hj : j = i
      · subst hj
        rw [hi] at e1; cases e1
        rw [List.getElem?_set_self hiσ] at e2
        cases e2
        exact ⟨u, r, .inr ⟨.inl hk, c, hc, hc'⟩⟩
      · rw [List.getElem?_set_ne (Ne.symm hj)] at e2
        obtain ⟨u', r', q⟩ := hl j y v' e1 e2 e3
        refine ⟨u', r', ?_⟩
        rcases q with q | ⟨k, c', e, z'⟩
        · exact .inl q
        · refine .inr ⟨k, c', e, z'.sameBut hs ?_⟩
          rintro rfl
          exact hj (nodup_ix hN e1 (I.ok.inj _ _ _ e hc ▸ hi))
    · by_cases hcc : c' = c
      · subst hcc; exact ⟨_, hc'⟩
      · obtain ⟨w2, z2⟩ := I.cell y c' e
        exact ⟨w2, z2.sameBut hs hcc⟩
    · obtain ⟨e, n, ne, nf, d⟩ := I.pin p hp
      refine ⟨(hs.2 p.1 ?_).trans e, n, ne, nf, d⟩
      intro q
      rw [q, hoc] at e
      have q' : oc = p.2 := Option.some.inj e
      exact d w' (by rw [← q']; exact hocd)
theorem store_ok {M : Model} {A : Around} {E : Value → Shared → Prop} {i : Nat} {x : Str} {v : V} {u : Value} {Q : Unit → Shared → Prop} (I : Inv X pins σ H s) (hN : X.N.Nodup) (hi : X.N[i]? = some x) (hx : Loc X.env.scope x) (r : RelV v u)
    (h : ∀ s', Inv X pins (σ.set i (some v)) H s' → Q () s') (hf : X.fn x = true ∨ X.env.scope.names.lookup x = some .local := by first | exact .inl rfl | exact .inr rfl | assumption) : wpAny M A (storeName X.env x u) Q E s :=
  store_ok2 I hN hi hx r (fun s' I' _ => h s' I') hf
/-- behind a call or a block, the state as it is -/
theorem Inv.call' {s' : Shared} {ch : List Addr} (I : Inv X pins σ H s) (ho : s'.os = s.os) (u : Un (frs X.stack) ch H H' s.heap s'.heap) (hok : HOk X.prog X.w H' s'.heap) (hg : AllBare s'.gens)
    (hch : ∀ b ∈ ch, (b ∈ X.ex ∨ X.s₀.heap.objs.size ≤ b) ∧ b ≠ X.env.locals ∧ (∀ x c, X.env.cells.lookup x = some c → c ≠ b) ∧ ∀ p ∈ X.pn ++ pins, p.1 ≠ b) : Inv X pins σ H' s' := by
  obtain ⟨h', g', d', t', o'⟩ := s'
  have e : o' = s.os := ho
  subst e
  exact I.call (g' := g') (t' := t') (d' := d') u hok hg hch
end

/-! ### the judgements -/
/-- an exception: its class, its own dict's address (where it has one), the abstract heap behind it -/
abbrev XK := Value → Option Addr → Hp → Prop
abbrev St := List (Option V)
abbrev VK := V → Hp → Prop
/-- an expression's reading; a test's; an argument list's -/
abbrev TE := St → Hp → VK → Prop
abbrev TT := St → Hp → (Bool → Hp → Prop) → Prop
abbrev TA := St → Hp → (List V → Hp → Prop) → Prop
/-- what is wanted behind a statement -/
structure Ends where
  nx : St → Hp → Prop
  rt : VK
  bk : St → Hp → Prop := fun _ _ => False
  ct : St → Hp → Prop := fun _ _ => False
abbrev TS := Ends → St → Hp → Prop

def EP (X : Cx) (pins : List (Addr × Obj)) (σ : St) (Q : VK) (u : Value) (s' : Shared) : Prop := ∃ v H', Inv X pins σ H' s' ∧ RelV v u ∧ Q v H'
def TP (X : Cx) (pins : List (Addr × Obj)) (σ : St) (Q : Bool → Hp → Prop) (b : Bool) (s' : Shared) : Prop := ∃ H', Inv X pins σ H' s' ∧ Q b H'
def AP (X : Cx) (pins : List (Addr × Obj)) (σ : St) (Q : List V → Hp → Prop) (us : List Value) (s' : Shared) : Prop := ∃ vs H', Inv X pins σ H' s' ∧ Vals vs us ∧ Q vs H'
def SP (X : Cx) (pins : List (Addr × Obj)) (D : Ends) (f : Flow) (s' : Shared) : Prop :=
  match f with
  | .next => ∃ σ' H', Inv X pins σ' H' s' ∧ D.nx σ' H'
  | .brk => ∃ σ' H', Inv X pins σ' H' s' ∧ D.bk σ' H'
  | .cont => ∃ σ' H', Inv X pins σ' H' s' ∧ D.ct σ' H'
  | .ret u => ∃ v σ' H', Inv X pins σ' H' s' ∧ RelV v u ∧ D.rt v H'

def PE (X : Cx) (e : Expr) (t : TE) : Prop :=
  ∀ (pins : List (Addr × Obj)) (s : Shared) (σ : St) (H : Hp) (Q : VK), Inv X pins σ H s → t σ H Q → wpAny (model X.prog X.w) X.A (eval e X.env) (EP X pins σ Q) X.xe s
def PT (X : Cx) (e : Expr) (t : TT) : Prop :=
  ∀ (pins : List (Addr × Obj)) (s : Shared) (σ : St) (H : Hp) (Q : Bool → Hp → Prop), Inv X pins σ H s → t σ H Q → wpAny (model X.prog X.w) X.A (isTrue e X.env (eval e X.env)) (TP X pins σ Q) X.xe s
/-- a test whatever its 'whole' is (and, or) -/
def PW (X : Cx) (e : Expr) (t : TT) : Prop :=
  ∀ (whole : Sem Value) (pins : List (Addr × Obj)) (s : Shared) (σ : St) (H : Hp) (Q : Bool → Hp → Prop), Inv X pins σ H s → t σ H Q → wpAny (model X.prog X.w) X.A (isTrue e X.env whole) (TP X pins σ Q) X.xe s
theorem PW.pt {X : Cx} {e : Expr} {t : TT} (h : PW X e t) : PT X e t := h _
/-- an argument list (no star), from the left -/
def PA (X : Cx) (es : List Expr) (t : TA) : Prop :=
  ∀ (pos : Pos) (pins : List (Addr × Obj)) (s : Shared) (σ : St) (H : Hp) (Q : List V → Hp → Prop), Inv X pins σ H s → t σ H Q → wpAny (model X.prog X.w) X.A (spliced (backTo pos (starEach es X.env))) (AP X pins σ Q) X.xe s
def PS (X : Cx) (st : Stmt) (t : TS) : Prop :=
  ∀ (pins : List (Addr × Obj)) (s : Shared) (σ : St) (H : Hp) (D : Ends), Inv X pins σ H s → t D σ H → wpAny (model X.prog X.w) X.A (exec st X.env) (SP X pins D) X.xe s
def PSs (X : Cx) (st : List Stmt) (t : TS) : Prop :=
  ∀ (pins : List (Addr × Obj)) (s : Shared) (σ : St) (H : Hp) (D : Ends), Inv X pins σ H s → t D σ H → wpAny (model X.prog X.w) X.A (execs st X.env) (SP X pins D) X.xe s
/-- weaken the end -/
theorem thn {α : Type} {t : Sem α} {Q Q' : α → Shared → Prop} {M : Model} {A : Around} {E : Value → Shared → Prop} {s : Shared} (h : wpAny M A t Q E s) (hQ : ∀ a s, Q a s → Q' a s) : wpAny M A t Q' E s := wpAny_mono h hQ fun _ _ x => x
end L2

namespace L2
open PySem PySem.Spec PyProof.Rows
section
variable {X : Cx}

/-! ### names and constants -/
def tVar (i : Nat) : TE := fun σ H Q => ∃ v, σ[i]? = some (some v) ∧ Q v H
def tC (v : V) : TE := fun _ H Q => Q v H
theorem pe_var {i : Nat} {x : Str} {pos : Pos} (hN : X.N[i]? = some x) (hv : Vis X.env.scope x) (hd : (x == ("__debug__" : Str)) = false := by decide) (hcd : (x == ("__classdict__" : Str)) = false := by decide) : PE X (.Name x pos) (tVar i) := by
  intro pins s σ H Q I h
  obtain ⟨v, e, h⟩ := h
  obtain ⟨m, hn, hl⟩ := I.loc
  obtain ⟨u, r, l⟩ := hl i x v hN e hv
  have fin : EP X pins σ Q u s := ⟨v, H, I, r, h⟩
  rcases l with ⟨hk, hm⟩ | ⟨hk, c, hc, hcell⟩
  · exact wpAny_Name (wpAny_loadName_local I.ok.kind hk hn hm fin) hd
  · rcases hk with hk | hk
    · exact wpAny_Name (wpAny_loadName_cell I.ok.kind hk hc hcell fin) hd
    · exact wpAny_Name (wpAny_loadName_free I.ok.kind hk hc hcell fin hcd) hd
theorem pe_int {i j pos} : PE X (.Constant (.int i) j pos) (tC (.int i)) := fun _ _ _ H _ I h => wpAny_Constant_int ⟨.int i, H, I.tok _, ⟨_, rfl⟩, h⟩
theorem pe_bl {b j pos} : PE X (.Constant (.bool b) j pos) (tC (.bl b)) := fun _ _ _ H _ I h => Constant_bool ⟨.bl b, H, I, rfl, h⟩
theorem pe_non {j pos} : PE X (.Constant .none j pos) (tC .non) := fun _ _ _ H _ I h => Constant_none ⟨.non, H, I, rfl, h⟩
theorem pe_str {x j pos} : PE X (.Constant (.str x) j pos) (tC (.str x)) := fun _ _ _ H _ I h => Calls.Constant_str ⟨.str x, H, I.tok _, ⟨_, rfl⟩, h⟩

/-- a global name of the def -/
def Gl (X : Cx) (x : Str) : Prop := X.env.kindOf x = some .globalImplicit
theorem ld_glob {E : Value → Shared → Prop} {pins : List (Addr × Obj)} {s : Shared} {σ : St} {H : Hp} {x : Str} {u : Value} {pos : Pos} {Q : Value → Shared → Prop} (I : Inv X pins σ H s) (hg : Gl X x) (hm : X.mg x = some u) (h : Q u s)
    (hd : (x == ("__debug__" : Str)) = false := by decide) : wpAny (model X.prog X.w) X.A (eval (.Name x pos) X.env) Q E s :=
  Calls.Name_function_global I.ok.kind hg (Calls.loadGlobal_global (by rw [I.ok.glob]; exact I.mod.glob.keeps I.bk) hm h) hd
theorem ld_blt {E : Value → Shared → Prop} {pins : List (Addr × Obj)} {s : Shared} {σ : St} {H : Hp} {x : Str} {u : Value} {pos : Pos} {Q : Value → Shared → Prop} (I : Inv X pins σ H s) (hg : Gl X x) (hm : X.mg x = none) (hv : bootBuiltins x = some u) (h : Q u s)
    (hn : x ≠ "__name__" := by decide) (hd : (x == ("__debug__" : Str)) = false := by decide) : wpAny (model X.prog X.w) X.A (eval (.Name x pos) X.env) Q E s := by
  obtain ⟨mb, h1, h2⟩ := I.mod.blt
  exact Calls.Name_function_global I.ok.kind hg (Calls.loadGlobal_builtin (by rw [I.ok.glob]; exact I.mod.glob.keeps I.bk) hm (by rw [I.ok.blt]; exact h1.keeps I.bk) ((h2 x hn).trans hv) h) hd
/-- a module's constant, a class, a function, as a value -/
theorem pe_glob {x : Str} {v : V} {u : Value} {pos : Pos} (hg : Gl X x) (hm : X.mg x = some u) (r : RelV v u) (hd : (x == ("__debug__" : Str)) = false := by decide) : PE X (.Name x pos) (tC v) :=
  fun _ _ _ H _ I h => ld_glob I hg hm ⟨v, H, I, r, h⟩ hd
theorem pe_bltn {x : Str} {v : V} {u : Value} {pos : Pos} (hg : Gl X x) (hm : X.mg x = none) (hv : bootBuiltins x = some u) (r : RelV v u) (hn : x ≠ "__name__" := by decide) (hd : (x == ("__debug__" : Str)) = false := by decide) : PE X (.Name x pos) (tC v) :=
  fun _ _ _ H _ I h => ld_blt I hg hm hv ⟨v, H, I, r, h⟩ hn hd

/-! ### arithmetic -/
variable {a b : Expr} {ta tb : TE} {pos : Pos}
/-! ### comparisons -/
def PC (X : Cx) (op : CmpOp) (a b : Expr) (t : TE) : Prop :=
  ∀ (pins : List (Addr × Obj)) (s : Shared) (σ : St) (H : Hp) (Q : VK), Inv X pins σ H s → t σ H Q →
    wpAny (model X.prog X.w) X.A (eval a X.env) (fun v s₁ => wpAny (model X.prog X.w) X.A (eval b X.env) (fun u s₂ => wpAny (model X.prog X.w) X.A (compareOp op v u) (EP X pins σ Q) X.xe s₂) X.xe s₁) X.xe s
theorem nobehind (b : Expr) {op : CmpOp} (h : op ≠ .In) (h2 : op ≠ .NotIn) : behindInMarks op b = false := by
  have e1 : (op == CmpOp.In) = false := by cases op <;> first | rfl | exact absurd rfl h
  have e2 : (op == CmpOp.NotIn) = false := by cases op <;> first | rfl | exact absurd rfl h2
  cases b <;> simp [behindInMarks, e1, e2]
/-- is None -/
def tIsN (ta : TE) : TE := fun σ H Q => ta σ H fun x H1 => Q (.bl (decide (x = .non))) H1
def tNotN (ta : TE) : TE := fun σ H Q => ta σ H fun x H1 => Q (.bl (!decide (x = .non))) H1
theorem RelV.none_iff {x : V} {v : Value} (r : RelV x v) : (v == Value.none) = decide (x = .non) := by
  cases x with
  | non => cases r; rfl
  | bl _ => cases r; rfl
  | int _ => obtain ⟨t, rfl⟩ := r; rfl
  | str _ => obtain ⟨t, rfl⟩ := r; rfl
  | byt _ => obtain ⟨t, rfl⟩ := r; rfl
  | flt _ => obtain ⟨t, rfl⟩ := r; rfl
  | ref _ => cases r; rfl
  | ty _ => cases r; rfl
theorem pc_isN {j pos'} (ha : PE X a ta) : PC X .Is a (.Constant .none j pos') (tIsN ta) := by
  intro pins s σ H Q I h
  refine thn (ha pins s σ H _ I h) fun v s1 ⟨x, H1, I1, r1, q1⟩ => ?_
  exact Constant_none (is_none_gen ⟨.bl _, H1, I1, by rw [r1.none_iff]; rfl, q1⟩)
theorem pc_notN {j pos'} (ha : PE X a ta) : PC X .IsNot a (.Constant .none j pos') (tNotN ta) := by
  intro pins s σ H Q I h
  refine thn (ha pins s σ H _ I h) fun v s1 ⟨x, H1, I1, r1, q1⟩ => ?_
  exact Constant_none (isnot_none_gen ⟨.bl _, H1, I1, by rw [r1.none_iff]; rfl, q1⟩)
/-- a comparison as a value, as a test -/
def tB (t : TE) : TT := fun σ H Q => t σ H fun x H1 => ∃ c, x = .bl c ∧ Q c H1
theorem pe_cmp {op : CmpOp} {t : TE} (h : PC X op a b t) (h1 : behindInMarks op b = false := by first | exact nobehind _ (by decide) (by decide) | rfl) : PE X (.Compare a [op] [b] pos) t := fun pins s σ H Q I hw => wpAny_Compare1 (h pins s σ H Q I hw) h1
theorem pt_cmp {op : CmpOp} {t : TE} (h : PC X op a b t) (h1 : behindInMarks op b = false := by first | exact nobehind _ (by decide) (by decide) | rfl) : PT X (.Compare a [op] [b] pos) (tB t) := by
  intro pins s σ H Q I hw
  refine wpAny_isTrue_Compare1 (thn (h pins s σ H _ I hw) fun v s1 h1 => thn h1 fun u s2 h2 => thn h2 fun c s3 ⟨x, H1, I1, r1, q1⟩ => ?_) h1
  obtain ⟨d, rfl, q⟩ := q1
  cases r1
  exact wpAny_truthy_bool ⟨H1, I1, q⟩
/-- an expression whose value is a bool, as a test -/
theorem pt_val {e : Expr} {t : TE} (h : PE X e t) (he : ∀ whole, isTrue e X.env whole = (do let v ← whole; standAt e.pos; holding [v] (truthy v)) := by intro _; rfl) : PT X e (tB t) := by
  intro pins s σ H Q I hw
  refine isTrue_plain (thn (h pins s σ H _ I hw) fun v s1 ⟨x, H1, I1, r1, q1⟩ => ?_) (he _)
  obtain ⟨d, rfl, q⟩ := q1
  cases r1
  exact wpAny_truthy_bool ⟨H1, I1, q⟩

/-! ### and, or, not -/
variable {tA tB' : TT} {rest : List Expr}
def tAnd (t u : TT) : TT := fun σ H Q => t σ H fun c H1 => if c = true then u σ H1 Q else Q false H1
def tOr (t u : TT) : TT := fun σ H Q => t σ H fun c H1 => if c = true then Q true H1 else u σ H1 Q
def tNot (t : TT) : TT := fun σ H Q => t σ H fun c H1 => Q (!c) H1
theorem pw_and1 (ha : PT X a tA) : PW X (.BoolOp .And [a] pos) tA := by
  intro wh pins s σ H Q I h
  refine isTrue_and (thn (ha pins s σ H Q I h) fun c s1 e => ?_)
  cases c with
  | true => exact isTrue_and_nil e
  | false => exact e
theorem pw_or1 (ha : PT X a tA) : PW X (.BoolOp .Or [a] pos) tA := by
  intro wh pins s σ H Q I h
  refine isTrue_or (thn (ha pins s σ H Q I h) fun c s1 e => ?_)
  cases c with
  | false => exact isTrue_or_nil e
  | true => exact e
theorem pw_and (ha : PT X a tA) (hb : PW X (.BoolOp .And (b :: rest) pos) tB') : PW X (.BoolOp .And (a :: b :: rest) pos) (tAnd tA tB') := by
  intro wh pins s σ H Q I h
  refine isTrue_and (thn (ha pins s σ H _ I h) fun c s1 ⟨H1, I1, q1⟩ => ?_)
  cases c with
  | true => exact hb wh pins s1 σ H1 Q I1 q1
  | false => exact ⟨H1, I1, q1⟩
theorem pw_or (ha : PT X a tA) (hb : PW X (.BoolOp .Or (b :: rest) pos) tB') : PW X (.BoolOp .Or (a :: b :: rest) pos) (tOr tA tB') := by
  intro wh pins s σ H Q I h
  refine isTrue_or (thn (ha pins s σ H _ I h) fun c s1 ⟨H1, I1, q1⟩ => ?_)
  cases c with
  | true => exact ⟨H1, I1, q1⟩
  | false => exact hb wh pins s1 σ H1 Q I1 q1
theorem pt_not (ha : PT X a tA) : PT X (.UnaryOp .Not a pos) (tNot tA) := by
  intro pins s σ H Q I h
  exact isTrue_not (ha pins s σ H (fun c H1 => Q (!c) H1) I h)
/-- .. as values (bools) -/
def tAndV (ta tb : TE) : TE := fun σ H Q => ta σ H fun x H1 => ∃ c, x = .bl c ∧ if c = true then tb σ H1 Q else Q (.bl false) H1
def tNotV (ta : TE) : TE := fun σ H Q => ta σ H fun x H1 => ∃ c, x = .bl c ∧ Q (.bl (!c)) H1
theorem pe_one {op} {t : TE} (h : PE X a t) : PE X (.BoolOp op [a] pos) t := fun pins s σ H Q I hw => BoolOp_one (h pins s σ H Q I hw)
theorem pe_and (ha : PE X a ta) (hb : PE X (.BoolOp .And (b :: rest) pos) tb) : PE X (.BoolOp .And (a :: b :: rest) pos) (tAndV ta tb) := by
  intro pins s σ H Q I h
  refine BoolOp_and (thn (ha pins s σ H _ I h) fun v s1 ⟨x, H1, I1, r1, q1⟩ => ?_)
  obtain ⟨c, rfl, q1⟩ := q1
  cases r1
  refine wpAny_truthy_bool ?_
  cases c with
  | true => exact hb pins s1 σ H1 Q I1 q1
  | false => exact ⟨.bl false, H1, I1, rfl, q1⟩
theorem pe_not (ha : PE X a ta) : PE X (.UnaryOp .Not a pos) (tNotV ta) := by
  intro pins s σ H Q I h
  refine UnaryOp_ (thn (ha pins s σ H _ I h) fun v s1 ⟨x, H1, I1, r1, q1⟩ => ?_)
  obtain ⟨c, rfl, q1⟩ := q1
  cases r1
  exact not_of (wpAny_truthy_bool ⟨.bl (!c), H1, I1, rfl, q1⟩)
/-- a if t else b -/
def tIf (t : TT) (ta tb : TE) : TE := fun σ H Q => t σ H fun c H1 => if c = true then ta σ H1 Q else tb σ H1 Q
theorem pe_ifExp {c : Expr} (hc : PT X c tA) (ha : PE X a ta) (hb : PE X b tb) : PE X (.IfExp c a b pos) (tIf tA ta tb) := by
  intro pins s σ H Q I h
  refine wpAny_IfExp (thn (hc pins s σ H _ I h) fun d s1 ⟨H1, I1, q1⟩ => ?_)
  cases d with
  | true => exact ha pins s1 σ H1 Q I1 q1
  | false => exact hb pins s1 σ H1 Q I1 q1
end
end L2

namespace L2
open PySem PySem.Spec PyProof.Rows

/-! ### a list, a tuple that is read: tracked, frozen, or an object of the module -/
def SqL (K : PySem.W.Frag) (H : Hp) (a : Addr) (xs : List V) : Prop :=
  Rd H a (.lst xs) ∨
    ∃ (o : Obj) (its : Array Value) (n : Nat), K.lookup a = some o ∧ o.cls = .type "list" ∧ o.dict = none ∧ o.data = .seq its n ∧ its.size ≤ sizeLine ∧ Vals xs its.toList
def SqT (K : PySem.W.Frag) (H : Hp) (a : Addr) (xs : List V) : Prop :=
  Rd H a (.tup xs) ∨
    ∃ (o : Obj) (its : Array Value) (n : Nat), K.lookup a = some o ∧ o.cls = .type "tuple" ∧ o.data = .seq its n ∧ its.size ≤ sizeLine ∧ Vals xs its.toList
def absV : Value → Option V
  | .none => some .non
  | .bool b => some (.bl b)
  | .int i _ => some (.int i)
  | .str x _ => some (.str x)
  | .bytes b _ => some (.byt b)
  | .float b _ => some (.flt b)
  | .ref a => some (.ref a)
  | .type n => some (.ty n)
  | _ => none
theorem RelV.abs {x : V} {u : Value} (r : RelV x u) : absV u = some x := by
  cases x with
  | non => cases r; rfl
  | bl _ => cases r; rfl
  | int _ => obtain ⟨t, rfl⟩ := r; rfl
  | str _ => obtain ⟨t, rfl⟩ := r; rfl
  | byt _ => obtain ⟨t, rfl⟩ := r; rfl
  | flt _ => obtain ⟨t, rfl⟩ := r; rfl
  | ref _ => cases r; rfl
  | ty _ => cases r; rfl
theorem RelV.inj {x y : V} {u : Value} (r : RelV x u) (q : RelV y u) : x = y := Option.some.inj (r.abs.symm.trans q.abs)
theorem Vals.inj : ∀ {xs ys : List V} {us : List Value}, Vals xs us → Vals ys us → xs = ys
  | _, _, _, .nil, .nil => rfl
  | _, _, _, .cons r t, .cons r' t' => by rw [r.inj r', Vals.inj t t']
section
variable {X : Cx} {pins : List (Addr × Obj)} {σ : St} {H : Hp} {s : Shared} {a : Addr} {xs ys : List V}
theorem SqL.of {K : PySem.W.Frag} (h : H a = some (.lst xs)) : SqL K H a xs := .inl (.inl h)
theorem SqT.of {K : PySem.W.Frag} (h : H a = some (.tup xs)) : SqT K H a xs := .inl (.inl h)
theorem Inv.list (I : Inv X pins σ H s) (h : SqL X.K H a xs) : ∃ its : List Value, Vals xs its ∧ PlainL s.heap a its.toArray ∧ xs.length ≤ sizeLine := by
  rcases h with h | ⟨o, its, n, hk, hc, hd, hs, hz, r⟩
  · obtain ⟨z, its, n, r, e⟩ := h.ok I.hok
    exact ⟨its, r, ⟨_, n, e, rfl, rfl, rfl⟩, z⟩
  · refine ⟨its.toList, r, ⟨o, n, I.kIn a o hk, hc, hd, by simpa using hs⟩, ?_⟩
    have e := r.length
    simp only [Array.length_toList] at e
    omega
theorem Inv.tuple (I : Inv X pins σ H s) (h : SqT X.K H a xs) : ∃ its : List Value, Vals xs its ∧ IsTup s.heap a its.toArray ∧ xs.length ≤ sizeLine := by
  rcases h with h | ⟨o, its, n, hk, hc, hs, hz, r⟩
  · obtain ⟨z, its, r, p⟩ := h.ok I.hok
    exact ⟨its, r, p.tup, z⟩
  · refine ⟨its.toList, r, ⟨o, I.kIn a o hk, hc, n, by simpa using hs⟩, ?_⟩
    have e := r.length
    simp only [Array.length_toList] at e
    omega
theorem Inv.list_inj (I : Inv X pins σ H s) (h : SqL X.K H a xs) (h' : SqL X.K H a ys) : xs = ys := by
  obtain ⟨its, r, ⟨o, n, e, _, _, d⟩, _⟩ := I.list h
  obtain ⟨its', r', ⟨o', n', e', _, _, d'⟩, _⟩ := I.list h'
  rw [e] at e'; cases e'
  rw [d] at d'
  injection d' with d1 _
  have : its = its' := by simpa using congrArg Array.toList d1
  subst this
  exact r.inj r'
theorem Inv.tuple_inj (I : Inv X pins σ H s) (h : SqT X.K H a xs) (h' : SqT X.K H a ys) : xs = ys := by
  obtain ⟨its, r, ⟨o, e, _, n, d⟩, _⟩ := I.tuple h
  obtain ⟨its', r', ⟨o', e', _, n', d'⟩, _⟩ := I.tuple h'
  rw [e] at e'; cases e'
  rw [d] at d'
  injection d' with d1 _
  have : its = its' := by simpa using congrArg Array.toList d1
  subst this
  exact r.inj r'
end

/-! ### another wish about exceptions -/
abbrev Cx.wish (X : Cx) (E : Value → Shared → Prop) : Cx := { X with xe := E }
/-- no exception leaves -/
abbrev Cx.nox (X : Cx) : Cx := X.wish fun _ _ => False
theorem Cx.Ok.wish {X : Cx} (ok : X.Ok) (E : Value → Shared → Prop) : (X.wish E).Ok :=
  ⟨ok.mod, ok.kind, ok.glob, ok.blt, ok.above, ok.inj, ok.has, ok.cab, ok.hd, ok.frames, ok.stk, ok.exf, ok.bs, ok.bsz, ok.noex, ok.exfs, ok.funs, ok.frf⟩
theorem Cx.Ok.unwish {X : Cx} {E : Value → Shared → Prop} (ok : (X.wish E).Ok) : X.Ok :=
  ⟨ok.mod, ok.kind, ok.glob, ok.blt, ok.above, ok.inj, ok.has, ok.cab, ok.hd, ok.frames, ok.stk, ok.exf, ok.bs, ok.bsz, ok.noex, ok.exfs, ok.funs, ok.frf⟩
section
variable {X : Cx} {pins : List (Addr × Obj)} {σ : St} {H : Hp} {s : Shared} {E : Value → Shared → Prop}
theorem Inv.wish (I : Inv X pins σ H s) (E : Value → Shared → Prop) : Inv (X.wish E) pins σ H s := ⟨I.ok.wish E, I.os, I.bare, I.base, I.loc, I.cell, I.free, I.freeC, I.pin, I.hok, I.len⟩
theorem Inv.unwish (I : Inv (X.wish E) pins σ H s) : Inv X pins σ H s := ⟨I.ok.unwish, I.os, I.bare, I.base, I.loc, I.cell, I.free, I.freeC, I.pin, I.hok, I.len⟩
theorem SP.unwish {D : Ends} {f : Flow} {s' : Shared} (h : SP (X.wish E) pins D f s') : SP X pins D f s' := by
  cases f with
  | next => obtain ⟨σ', H', I, q⟩ := h; exact ⟨σ', H', I.unwish, q⟩
  | brk => obtain ⟨σ', H', I, q⟩ := h; exact ⟨σ', H', I.unwish, q⟩
  | cont => obtain ⟨σ', H', I, q⟩ := h; exact ⟨σ', H', I.unwish, q⟩
  | ret u => obtain ⟨v, σ', H', I, r, q⟩ := h; exact ⟨v, σ', H', I.unwish, r, q⟩
theorem PSs.nox {st : List Stmt} {t : TS} (h : PSs X.nox st t) : PSs X st t := fun pins s σ H D I hw =>
  wpAny_mono (h pins s σ H D (I.wish _) hw) (fun _ _ q => q.unwish) fun _ _ z => False.elim z
end

/-! ### blocks and small statements -/
section
variable {X : Cx} {st : Stmt} {rest : List Stmt} {t u : TS} {e : Expr} {te : TE} {pos : Pos}
def tNext : TS := fun D σ H => D.nx σ H
def tSeq (t u : TS) : TS := fun D σ H => t { D with nx := u D } σ H
theorem pss_nil : PSs X [] tNext := fun _ _ σ H _ I h => wpAny_execs_nil ⟨σ, H, I, h⟩
theorem pss_cons (h1 : PS X st t) (h2 : PSs X rest u) : PSs X (st :: rest) (tSeq t u) := by
  intro pins s σ H D I h
  refine wpAny_execs_cons (thn (h1 pins s σ H { D with nx := u D } I h) fun f s1 q => ?_)
  cases f with
  | next =>
    obtain ⟨σ', H', I', q⟩ := q
    exact h2 pins s1 σ' H' D I' q
  | ret v => exact q
  | brk => exact q
  | cont => exact q
theorem pss_one (h1 : PS X st t) : PSs X [st] t := by
  intro pins s σ H D I h
  refine wpAny_execs_cons (thn (h1 pins s σ H D I h) fun f s1 q => ?_)
  cases f with
  | next => exact wpAny_execs_nil q
  | ret v => exact q
  | brk => exact q
  | cont => exact q
/-- in a def's body nothing is shown -/
theorem Inv.quiet {pins : List (Addr × Obj)} {σ : St} {H : Hp} {s : Shared} (I : Inv X pins σ H s) : interactive X.env = false := by simp [interactive, I.ok.kind]
/-- an expression whose value is dropped -/
def tDrop (te : TE) : TS := fun D σ H => te σ H fun _ H1 => D.nx σ H1
theorem ps_expr (he : PE X e te) (hs : swapsWith e none pos.line X.env = pure false := by rfl) : PS X (.Expr e pos) (tDrop te) := by
  intro pins s σ H D I h
  exact wpAny_Expr_any (thn (he pins s σ H _ I h) fun v s1 ⟨x, H1, I1, r1, q1⟩ => ⟨σ, H1, I1, q1⟩) I.quiet hs
def tRet (te : TE) : TS := fun D σ H => te σ H D.rt
theorem ps_ret (he : PE X e te) : PS X (.Return (some e) pos) (tRet te) := by
  intro pins s σ H D I h
  exact wpAny_Return_some (thn (he pins s σ H _ I h) fun v s1 ⟨x, H1, I1, r1, q1⟩ => ⟨x, σ, H1, I1, r1, q1⟩)
def tIfS (c : TT) (t u : TS) : TS := fun D σ H => c σ H fun b H1 => if b = true then t D σ H1 else u D σ H1
theorem ps_if {c : Expr} {a b : List Stmt} {tc : TT} (hc : PT X c tc) (ha : PSs X a t) (hb : PSs X b u) : PS X (.If c a b pos) (tIfS tc t u) := by
  intro pins s σ H D I h
  refine wpAny_If (thn (hc pins s σ H _ I h) fun d s1 ⟨H1, I1, q1⟩ => ?_)
  cases d with
  | true => exact ha pins s1 σ H1 D I1 q1
  | false => exact hb pins s1 σ H1 D I1 q1
end

/-! ### targets -/
abbrev TG := V → St → Hp → (St → Hp → Prop) → Prop
abbrev TGs := List V → St → Hp → (St → Hp → Prop) → Prop
def PG (X : Cx) (target : Expr) (t : TG) : Prop :=
  ∀ (pins : List (Addr × Obj)) (s : Shared) (σ : St) (H : Hp) (v : V) (u : Value) (Q : St → Hp → Prop), Inv X pins σ H s → RelV v u → t v σ H Q →
    wpAny (model X.prog X.w) X.A (assign target X.env u) (fun _ s' => ∃ σ' H', Inv X pins σ' H' s' ∧ Q σ' H') X.xe s
/-- several targets, one after another -/
def PGs (X : Cx) (ts : List Expr) (t : TGs) : Prop :=
  ∀ (pins : List (Addr × Obj)) (s : Shared) (σ : St) (H : Hp) (vs : List V) (us : List Value) (Q : St → Hp → Prop), Inv X pins σ H s → Vals vs us → t vs σ H Q →
    wpAny (model X.prog X.w) X.A (assignInOrder ((assignEach ts X.env).map (·.2)) us) (fun _ s' => ∃ σ' H', Inv X pins σ' H' s' ∧ Q σ' H') X.xe s
/-- o[i] = v, by values -/
abbrev TSet := V → V → V → Hp → (Hp → Prop) → Prop
def PSet (X : Cx) (t : TSet) : Prop :=
  ∀ (pins : List (Addr × Obj)) (s : Shared) (σ : St) (H : Hp) (o i v : V) (ov iv u : Value) (Q : Hp → Prop), Inv X pins σ H s → RelV o ov → RelV i iv → RelV v u → t o i v H Q →
    wpAny (model X.prog X.w) X.A (setItem ov iv u) (fun _ s' => ∃ H', Inv X pins σ H' s' ∧ Q H') X.xe s
/-- a op= b, by values -/
abbrev TIp := V → V → Hp → VK → Prop
def PIp (X : Cx) (op : Operator) (t : TIp) : Prop :=
  ∀ (pins : List (Addr × Obj)) (s : Shared) (σ : St) (H : Hp) (x y : V) (v u : Value) (Q : VK), Inv X pins σ H s → RelV x v → RelV y u → t x y H Q →
    wpAny (model X.prog X.w) X.A (inplaceOp op v u) (EP X pins σ Q) X.xe s
section
variable {X : Cx} {pos : Pos}
def gName (i : Nat) : TG := fun v σ H Q => Q (σ.set i (some v)) H
theorem pg_name {i : Nat} {x : Str} (hN : X.N.Nodup) (hi : X.N[i]? = some x) (hx : Loc X.env.scope x) (hf : X.fn x = true ∨ X.env.scope.names.lookup x = some .local := by first | exact .inl rfl | exact .inr rfl | assumption) : PG X (.Name x pos) (gName i) := by
  intro pins s σ H v u Q I r h
  exact wpAny_assign_Name (store_ok I hN hi hx r (fun s' I' => ⟨_, H, I', h⟩) hf)
def gNil : TGs := fun vs σ H Q => vs = [] ∧ Q σ H
def gCons (t : TG) (u : TGs) : TGs := fun vs σ H Q => ∃ v r, vs = v :: r ∧ t v σ H fun σ' H' => u r σ' H' Q
theorem pgs_nil : PGs X [] gNil := by
  intro pins s σ H vs us Q I r h
  obtain ⟨e, h⟩ := h
  subst e
  cases r
  exact assignInOrder_nil ⟨σ, H, I, h⟩
theorem pgs_cons {e : Expr} {es : List Expr} {t : TG} {u : TGs} (h1 : PG X e t) (h2 : PGs X es u)
    (hs : (assignEach (e :: es) X.env).map (·.2) = assign e X.env :: (assignEach es X.env).map (·.2) := by rfl) : PGs X (e :: es) (gCons t u) := by
  intro pins s σ H vs us Q I r h
  obtain ⟨v, vr, e1, h⟩ := h
  subst e1
  cases r with
  | cons r rr =>
    rw [hs]
    refine assignInOrder_cons (thn (h1 pins s σ H _ _ _ I r h) fun _ s1 ⟨σ1, H1, I1, q1⟩ => ?_)
    exact h2 pins s1 σ1 H1 _ _ Q I1 rr q1
/-- (a, b, ..) = a tuple of that length -/
def gTup (K : PySem.W.Frag) (n : Nat) (t : TGs) : TG := fun v σ H Q => ∃ a xs, v = .ref a ∧ SqT K H a xs ∧ xs.length = n ∧ t xs σ H Q
theorem pg_tup {es : List Expr} {k : Nat} {t : TGs} {n : Nat} (hc : X.calm = true) (h : PGs X es t)
    (hn : (assignEach es X.env).length = n := by rfl) (hst : (assignEach es X.env).findIdx? (·.1) = none := by rfl) : PG X (.Tuple es k pos) (gTup X.K n t) := by
  intro pins s σ H v u Q I r hw
  obtain ⟨a, xs, e1, hq, hl, hw⟩ := hw
  subst e1
  cases r
  obtain ⟨its, rv, ht, hz⟩ := I.tuple hq
  refine assign_Tuple_tuple (I.ok.hd hc) ht (by simp [hn, ← hl, rv.length]) hst fun h' hx => ?_
  have I1 : Inv X pins σ H { s with heap := h' } := I.kept (t' := s.toks) fun b o e => hx b o (Nat.ne_of_lt (Heap.lt_size e)) e
  exact h pins _ σ H xs _ Q I1 (by simpa using rv) hw
/-- o[i] = .. -/
def gSub (to ti : TE) (t : TSet) : TG := fun v σ H Q => to σ H fun o H1 => ti σ H1 fun i H2 => t o i v H2 fun H3 => Q σ H3
theorem pg_sub {o i : Expr} {to ti : TE} {t : TSet} (ho : PE X o to) (hi : PE X i ti) (hs : PSet X t)
    (ha : ∀ v, assign (.Subscript o i pos) X.env v = (do
      let ov ← holding [v] (eval o X.env)
      let iv ← holding [v, ov] (eval i X.env)
      standAt pos
      holding [v, ov, iv] (setItem ov iv v)
      release [v, ov, iv] []) := by intro _; rfl) : PG X (.Subscript o i pos) (gSub to ti t) := by
  intro pins s σ H v u Q I r h
  rw [ha]
  refine wpAny_bind (wpAny_holding (thn (ho pins s σ H _ I h) fun ov s1 ⟨x, H1, I1, r1, q1⟩ => ?_))
  refine wpAny_bind (wpAny_holding (thn (hi pins s1 σ H1 _ I1 q1) fun iv s2 ⟨y, H2, I2, r2, q2⟩ => ?_))
  refine wpAny_bind (wpAny_standAt (wpAny_bind (wpAny_holding (thn (hs pins s2 σ H2 x y v ov iv u _ I2 r1 r2 r q2) fun _ s3 ⟨H3, I3, q3⟩ => ?_))))
  exact wpAny_release ⟨σ, H3, I3, q3⟩
/-- target = value -/
def tAsg (te : TE) (g : TG) : TS := fun D σ H => te σ H fun x H1 => g x σ H1 D.nx
theorem ps_asg {tg e : Expr} {te : TE} {g : TG} (he : PE X e te) (hg : PG X tg g) (hs : swapsWithSole [tg] e pos.line X.env = pure false := by rfl) (hw : swappedStores [tg] e X.env = pure none := by rfl)
    (h1 : (assignEach [tg] X.env).map (·.2) = [assign tg X.env] := by rfl) : PS X (.Assign [tg] e pos) (tAsg te g) := by
  intro pins s σ H D I h
  refine wpAny_Assign_stores (thn (he pins s σ H _ I h) fun v s1 ⟨x, H1, I1, r1, q1⟩ => ?_) hs hw
  rw [h1]
  exact thn (hg pins s1 σ H1 x v _ I1 r1 q1) fun _ s2 q => q
/-- name = value -/
theorem ps_set {i : Nat} {x : Str} {e : Expr} {te : TE} {pos' : Pos} (hN : X.N.Nodup) (hi : X.N[i]? = some x) (hx : Loc X.env.scope x) (he : PE X e te) (hs : swapsWith e (some (.Name x pos')) pos.line X.env = pure false := by rfl) (hf : X.fn x = true ∨ X.env.scope.names.lookup x = some .local := by first | exact .inl rfl | exact .inr rfl | assumption) :
    PS X (.Assign [.Name x pos'] e pos) (tAsg te (gName i)) := by
  intro pins s σ H D I h
  refine wpAny_Assign_Name (thn (he pins s σ H _ I h) fun v s1 ⟨y, H1, I1, r1, q1⟩ => ?_) hs
  exact store_ok I1 hN hi hx r1 (fun s2 I2 => ⟨_, H1, I2, q1⟩) hf
/-- a, b = x, y with plain local names: stored from the right; the pair itself is not tracked (the opening rows as in PyProof/Rows/TupAssign.lean:23) -/
def tPar (i j : Nat) (ta : TA) : TS := fun D σ H => ta σ H fun vs H1 => ∃ v w, vs = [v, w] ∧ D.nx ((σ.set i (some v)).set j (some w)) H1
theorem ps_par {i j : Nat} {x y : Str} {a b : Expr} {ta : TA} {px py pt : Pos} {kt k2 pt2} (hc : X.calm = true) (hN : X.N.Nodup) (hi : X.N[i]? = some x) (hj : X.N[j]? = some y) (hij : i ≠ j)
    (hx : X.env.scope.names.lookup x = some .local) (hy : X.env.scope.names.lookup y = some .local) (ha : PA X [a, b] ta)
    (hw : swappedStores [.Tuple [.Name x px, .Name y py] kt pt] (.Tuple [a, b] k2 pt2) X.env = pure (some [x, y]))
    (hs : swapsWithSole [.Tuple [.Name x px, .Name y py] kt pt] (.Tuple [a, b] k2 pt2) pos.line X.env = pure false := by rfl) :
    PS X (.Assign [.Tuple [.Name x px, .Name y py] kt pt] (.Tuple [a, b] k2 pt2) pos) (tPar i j ta) := by
  intro pins s σ H D I h
  rw [exec_Assign_arm]
  refine wpAny_bind (wpAny_standAt ?_)
  rw [hs]
  refine wpAny_bind (wpAny_pure ?_)
  rw [if_neg (by decide)]
  refine wpAny_bind (Tuple_ (thn (ha _ pins s σ H _ I h) fun us s1 ⟨vs, H1, I1, r1, q1⟩ => ?_))
  obtain ⟨v, w, e1, q1⟩ := q1
  subst e1
  obtain ⟨u1, u2, rfl, rv, rw'⟩ : ∃ u1 u2, us = [u1, u2] ∧ RelV v u1 ∧ RelV w u2 := by
    cases r1 with
    | cons p q =>
      cases q with
      | cons p' q' =>
        cases q'
        exact ⟨_, _, rfl, p, p'⟩
  refine wpAny_newObj_type ?_ (by show 2 ≤ sizeLine; decide)
  have I2 : Inv X pins σ H1 { s1 with heap := s1.heap.push { cls := .type "tuple", data := .seq [u1, u2].toArray } } := I1.kept (t' := s1.toks) fun b o e => Heap.get?_push_of_some _ e
  rw [hw]
  refine wpAny_bind (wpAny_pure ?_)
  show wpAny (model X.prog X.w) X.A (do rule "assign.swapped-stores"; let items ← unpackItems (.ref s1.heap.objs.size) 2 none; assignInOrder [fun v => bindName X.env y v, fun v => bindName X.env x v] items.reverse; pure Flow.next) _ _ _
  refine wpAny_bind (wpAny_rule (wpAny_bind (unpackItems_tuple (items := #[u1, u2]) (I.ok.hd hc) (IsTup.new s1.heap _) fun h' hx' => ?_)))
  have I3 := I2.kept (h' := h') (t' := s1.toks) fun b o e => hx' b o (Nat.ne_of_lt (Heap.lt_size e)) e
  show wpAny _ _ (assignInOrder [fun v => bindName X.env y v, fun v => bindName X.env x v] [u2, u1] >>= fun _ => pure Flow.next) _ _ _
  refine wpAny_bind (assignInOrder_cons (wpAny_bindName (store_ok I3 hN hj (.inl hy) rw' (fun s2 I4 => ?_) (.inr hy))))
  refine assignInOrder_cons (wpAny_bindName (store_ok I4 hN hi (.inl hx) rv (fun s3 I5 => assignInOrder_nil (wpAny_pure ?_)) (.inr hx)))
  rw [List.set_comm _ _ (Ne.symm hij)] at I5
  exact ⟨_, H1, I5, q1⟩
/-- name op= e -/
def tAug (i : Nat) (te : TE) (ti : TIp) : TS := fun D σ H => ∃ x, σ[i]? = some (some x) ∧ te σ H fun y H1 => ti x y H1 fun z H2 => D.nx (σ.set i (some z)) H2
theorem ps_aug {i : Nat} {x : Str} {e : Expr} {te : TE} {op : Operator} {ti : TIp} {pos' : Pos} (hN : X.N.Nodup) (hi : X.N[i]? = some x) (hx : Loc X.env.scope x) (he : PE X e te) (ho : PIp X op ti) (hf : X.fn x = true ∨ X.env.scope.names.lookup x = some .local := by first | exact .inl rfl | exact .inr rfl | assumption) :
    PS X (.AugAssign (.Name x pos') op e pos) (tAug i te ti) := by
  intro pins s σ H D I h
  obtain ⟨v, e1, h⟩ := h
  obtain ⟨m, hn, hl⟩ := I.loc
  have vis : Vis X.env.scope x := by rcases hx with k | k; exact .inl k; exact .inr (.inl k)
  obtain ⟨u, r, l⟩ := hl i x v hi e1 vis
  refine wpAny_AugAssign_Name ?_
  have go : wpAny (model X.prog X.w) X.A (eval e X.env) (fun w s₂ => wpAny (model X.prog X.w) X.A (inplaceOp op u w) (fun r s₃ => wpAny (model X.prog X.w) X.A (storeName X.env x r) (fun _ => SP X pins D .next) X.xe s₃) X.xe s₂) X.xe s := by
    refine thn (he pins s σ H _ I h) fun w s1 ⟨y, H1, I1, r1, q1⟩ => ?_
    refine thn (ho pins s1 σ H1 v y u w _ I1 r r1 q1) fun z s2 ⟨zv, H2, I2, r2, q2⟩ => ?_
    exact store_ok I2 hN hi hx r2 (fun s3 I3 => ⟨_, H2, I3, q2⟩) hf
  rcases l with ⟨hk, hm⟩ | ⟨hk, c, hc, hcell⟩
  · exact wpAny_loadName_local I.ok.kind hk hn hm go
  · rcases hk with hk | hk
    · exact wpAny_loadName_cell I.ok.kind hk hc hcell go
    · rcases hx with k | k
      · have : X.env.scope.names.lookup x = some .free := hk
        rw [k] at this; cases this
      · have : X.env.scope.names.lookup x = some .free := hk
        rw [k] at this; cases this
/-- ints -/
def ipI (f : Int → Int → Int) : TIp := fun x y H Q => ∃ i j, x = .int i ∧ y = .int j ∧ Q (.int (f i j)) H
theorem ip_add : PIp X .Add (ipI fun i j => i + j) := by
  intro pins s σ H x y v u Q I r1 r2 h
  obtain ⟨i, j, e1, e2, q⟩ := h
  subst e1; subst e2
  obtain ⟨t, rfl⟩ := r1
  obtain ⟨t', rfl⟩ := r2
  exact iadd_int ⟨.int _, H, I.tok _, ⟨_, rfl⟩, q⟩
end

/-! ### while -/
section
variable {X : Cx} {pos : Pos}
/-- the invariant W with its measure -/
def tWhile (c : TT) (tb : TS) : TS := fun D σ H => ∃ W : Nat → St → Hp → Prop, (∃ m, W m σ H) ∧ ∀ m σ H, W m σ H →
  c σ H fun b H1 => if b = true then ∃ N : St → Hp → Prop, (∀ σ' H', N σ' H' → ∃ m', m' < m ∧ W m' σ' H') ∧ tb { D with nx := N, ct := N, bk := D.nx } σ H1 else D.nx σ H1
theorem ps_while {c : Expr} {body : List Stmt} {tc : TT} {tb : TS} (hp : PassesOwn (model X.prog X.w) X.A X.env X.xe) (hc : PT X c tc) (hb : PSs X body tb) : PS X (.While c body [] pos) (tWhile tc tb) := by
  intro pins s σ H D I h
  obtain ⟨W, ⟨m0, w0⟩, turn⟩ := h
  refine wpAny_While (codeAny_whileLoop (fun n s' => ∃ σ' H', Inv X pins σ' H' s' ∧ W n σ' H') ?_ m0 ⟨σ, H, I, w0⟩)
  rintro n s1 ⟨σ1, H1, I1, w1⟩
  refine wpAny_passesOwn hp (thn (hc pins s1 σ1 H1 _ I1 (turn n σ1 H1 w1)) fun b s2 ⟨H2, I2, q2⟩ => ?_)
  cases b with
  | true =>
    obtain ⟨N, hN, q2⟩ := q2
    rw [if_pos rfl]
    refine wpAny_passesOwn hp (thn (hb pins s2 σ1 H2 _ I2 q2) fun f s3 q3 => ?_)
    cases f with
    | next =>
      obtain ⟨σ3, H3, I3, n3⟩ := q3
      obtain ⟨m', hm, w3⟩ := hN σ3 H3 n3
      exact ⟨m', hm, σ3, H3, I3, w3⟩
    | cont =>
      obtain ⟨σ3, H3, I3, n3⟩ := q3
      obtain ⟨m', hm, w3⟩ := hN σ3 H3 n3
      exact ⟨m', hm, σ3, H3, I3, w3⟩
    | brk => exact q3
    | ret v => exact q3
  | false =>
    rw [if_neg Bool.false_ne_true]
    exact wpAny_execs_nil ⟨σ1, H2, I2, q2⟩
end

/-! ### what a loop or a comprehension walks -/
/-- at turn i: it yields x (the heap may grow), or it stops -/
structure It where
  go : Nat → Hp → Prop
  yld : Nat → Hp → V → Hp → Prop
  stop : Nat → Hp → Prop
/-- the iterator's own objects may turn: they are not the frame's, not pinned, younger than the entry (or a comprehension's own) -/
def FpOk (X : Cx) (pins : List (Addr × Obj)) (H : Hp) (b : Addr) : Prop :=
  H b = none ∧ b ≠ X.env.locals ∧ b ∉ X.fs ∧ (b ∈ X.ex ∨ X.s₀.heap.objs.size ≤ b) ∧ (∀ x c, X.env.cells.lookup x = some c → c ≠ b) ∧ ∀ p ∈ X.pn ++ pins, p.1 ≠ b
theorem Inv.fpOk {X : Cx} {pins : List (Addr × Obj)} {σ : St} {H H' : Hp} {s : Shared} {b : Addr} (I : Inv X pins σ H s) (hb : s.heap.objs.size ≤ b) (hn : H' b = none) : FpOk X pins H' b := by
  refine ⟨hn, Nat.ne_of_gt (Nat.lt_of_lt_of_le I.lt hb), I.nofs hb, .inr (Nat.le_trans I.sz hb), fun x c e z => ?_, fun p hp z => ?_⟩
  · obtain ⟨v, q⟩ := I.cell x c e
    exact absurd (Nat.lt_of_lt_of_le q.lt (by rw [z]; exact hb)) (Nat.lt_irrefl _)
  · exact absurd (Nat.lt_of_lt_of_le (Heap.lt_size (I.pin p hp).1) (by rw [z]; exact hb)) (Nat.lt_irrefl _)
structure Turn (P : Program) (w : World) (K : PySem.W.Frag) (tg : Expr) (J : It) (fp : List Addr) (it : Addr) (tn : Nat → Heap → Prop) : Prop where
  mem : it ∈ fp
  obj : ∀ i h, tn i h → ∀ b ∈ fp, ∃ o, h.get? b = some o ∧ ∀ v, o.data ≠ .cell v
  keep : ∀ i h h', tn i h → (∀ b ∈ fp, ∀ o, h.get? b = some o → h'.get? b = some o) → tn i h'
  item : ∀ (X : Cx), X.prog = P → X.w = w → X.K = K → X.calm = true → ∀ (i : Nat) (pins : List (Addr × Obj)) (s : Shared) (σ : St) (H : Hp) (E : Value → Shared → Prop), Inv X pins σ H s → (∀ b ∈ fp, FpOk X pins H b) → tn i s.heap → J.go i H →
    wpAny (model P w) X.A (pyNext (.ref it)) (fun r s1 => ∃ u, r = some u ∧
      wpAny (model P w) X.A (letOwnedTupleGo tg (.ref it) u) (fun _ s2 => ∃ x H', Inv X pins σ H' s2 ∧ RelV x u ∧ J.yld i H x H' ∧ tn (i + 1) s2.heap ∧ ∀ b ∈ fp, H' b = none) E s1) E s
  done : ∀ (X : Cx), X.prog = P → X.w = w → X.K = K → X.calm = true → ∀ (i : Nat) (pins : List (Addr × Obj)) (s : Shared) (σ : St) (H : Hp) (E : Value → Shared → Prop), Inv X pins σ H s → (∀ b ∈ fp, FpOk X pins H b) → tn i s.heap → J.stop i H →
    wpAny (model P w) X.A (pyNext (.ref it)) (fun r s1 => r = none ∧ Inv X pins σ H s1) E s
  self : ∀ (A : Around) (i : Nat) (s : Shared) (Q : Value → Shared → Prop) (E : Value → Shared → Prop), tn i s.heap → Q (.ref it) s → wpAny (model P w) A (pyIter (.ref it)) Q E s
abbrev TI := St → Hp → (It → Hp → Prop) → Prop
/-- an iterator has come -/
def PIE (X : Cx) (pins : List (Addr × Obj)) (σ : St) (tg : Expr) (R : It → Hp → Prop) (itv : Value) (s2 : Shared) : Prop :=
  ∃ (it : Addr) (fp : List Addr) (tn : Nat → Heap → Prop) (J : It) (H' : Hp), itv = .ref it ∧ Inv X pins σ H' s2 ∧ Turn X.prog X.w X.K tg J fp it tn ∧ tn 0 s2.heap ∧ (∀ b ∈ fp, FpOk X pins H' b) ∧ R J H'
def PI (X : Cx) (tg iter : Expr) (wi : TI) : Prop :=
  ∀ (pins : List (Addr × Obj)) (s : Shared) (σ : St) (H : Hp) (R : It → Hp → Prop), Inv X pins σ H s → wi σ H R →
    wpAny (model X.prog X.w) X.A (eval iter X.env) (fun v s1 => wpAny (model X.prog X.w) X.A (pyIter v) (PIE X pins σ tg R) X.xe s1) X.xe s

/-- the step ahead of the store is nothing for an iterator that keeps no tuple -/
theorem go_of {M : Model} {A : Around} {E : Value → Shared → Prop} {s : Shared} {tg : Expr} {it : Addr} {u : Value} {o : Obj} {n : String} {vs : Array Value} {Q : Unit → Shared → Prop} (ho : s.heap.get? it = some o) (hc : o.cls = .type n) (hd : o.data = .fields vs)
    (hn : ["enumerate", "zip", "dict_itemiterator", "dict_reverseitemiterator", "odict_iterator", "itertools.zip_longest", "itertools.pairwise"].contains n = false) (hQ : Q () s) : wpAny M A (letOwnedTupleGo tg (.ref it) u) Q E s := by
  unfold letOwnedTupleGo
  cases tg <;> first
    | exact wpAny_pure hQ
    | (cases u <;> first
        | exact wpAny_pure hQ
        | (refine wpAny_bind (wpAny_load ho ?_)
           rw [hc, hd]
           show wpAny M A (if (["enumerate", "zip", "dict_itemiterator", "dict_reverseitemiterator", "odict_iterator", "itertools.zip_longest", "itertools.pairwise"].contains n && vs[0]? == some (rawInt _)) = true then _ else _) Q E s
           rw [if_neg (by intro h; rw [hn, Bool.false_and] at h; cases h)]
           exact wpAny_pure hQ))

/-- the list at a, as it stands at each turn (a loop may append to it) -/
def Itl (K : PySem.W.Frag) (a : Addr) : It :=
  ⟨fun i H => ∃ xs x, SqL K H a xs ∧ xs[i]? = some x, fun i H x H' => H' = H ∧ ∀ xs, SqL K H a xs → xs[i]? = some x, fun i H => ∃ xs, SqL K H a xs ∧ xs.length ≤ i⟩
def Itt (K : PySem.W.Frag) (a : Addr) : It :=
  ⟨fun i H => ∃ xs x, SqT K H a xs ∧ xs[i]? = some x, fun i H x H' => H' = H ∧ ∀ xs, SqT K H a xs → xs[i]? = some x, fun i H => ∃ xs, SqT K H a xs ∧ xs.length ≤ i⟩
/-- lo, lo + 1, .. (n of them) -/
def Itr (lo : Int) (n : Nat) : It := ⟨fun i _ => i < n, fun i H x H' => H' = H ∧ x = .int (lo + i), fun i _ => n ≤ i⟩
theorem turn_list {P : Program} {w : World} {K : PySem.W.Frag} {tg : Expr} (a it : Addr) : Turn P w K tg (Itl K a) [it] it (fun i h => h.IsListIter it a i) where
  mem := by simp
  obj := fun i h st b hb => by
    have e : b = it := by simpa using hb
    subst e
    obtain ⟨o, e, c, d⟩ := st
    exact ⟨o, e, fun v z => by rw [d] at z; cases z⟩
  keep := fun i h h' st k => st.at fun o e => k it (by simp) o e
  item := by
    intro X hP hw hK hc i pins s σ H E I hf st hg
    subst hP hw hK
    obtain ⟨xs, x, hq, hx⟩ := hg
    obtain ⟨its, rv, p, hz⟩ := I.list hq
    obtain ⟨u, hu, ru⟩ := rv.get hx
    obtain ⟨f0, f1, f2, f3, f4, f5⟩ := hf it (by simp)
    refine wpAny_pyNext_list_item st p.isList (x := u) (by simpa using hu) fun h' st' sb => ?_
    have I1 : Inv X pins σ H { s with heap := h' } := I.turned (t' := s.toks) (fun b o hb e => (sb.2 b hb).trans e) f0 f1 f3 f4 f5
    obtain ⟨o, e, c, d⟩ := id st'
    exact ⟨u, rfl, go_of (s := { s with heap := h' }) e c d (by decide) ⟨x, H, I1, ru, ⟨rfl, fun ys hy => by rw [I.list_inj hy hq]; exact hx⟩, st', fun b hb => (hf b hb).1⟩⟩
  done := by
    intro X hP hw hK hc i pins s σ H E I hf st hg
    subst hP hw hK
    obtain ⟨xs, hq, hx⟩ := hg
    obtain ⟨its, rv, p, hz⟩ := I.list hq
    obtain ⟨f0, f1, f2, f3, f4, f5⟩ := hf it (by simp)
    have hl := rv.length
    exact wpAny_pyNext_list_end (I.ok.hd hc) st p.isList (by simp; omega) fun h' eb => ⟨rfl, I.turned (t' := s.toks) (fun b o hb e => eb b o hb e) f0 f1 f3 f4 f5⟩
  self := fun _ _ _ _ _ st h => wpAny_pyIter_listiter st h
theorem turn_tuple {P : Program} {w : World} {K : PySem.W.Frag} {tg : Expr} (a it : Addr) : Turn P w K tg (Itt K a) [it] it (fun i h => h.IsTupleIter it a i) where
  mem := by simp
  obj := fun i h st b hb => by
    have e : b = it := by simpa using hb
    subst e
    obtain ⟨o, e, c, d⟩ := st
    exact ⟨o, e, fun v z => by rw [d] at z; cases z⟩
  keep := fun i h h' st k => st.at fun o e => k it (by simp) o e
  item := by
    intro X hP hw hK hc i pins s σ H E I hf st hg
    subst hP hw hK
    obtain ⟨xs, x, hq, hx⟩ := hg
    obtain ⟨its, rv, p, hz⟩ := I.tuple hq
    obtain ⟨u, hu, ru⟩ := rv.get hx
    obtain ⟨f0, f1, f2, f3, f4, f5⟩ := hf it (by simp)
    refine wpAny_pyNext_tuple_item st (show s.heap.IsTuple a its.toArray from p) (x := u) (by simpa using hu) fun h' st' sb => ?_
    have I1 : Inv X pins σ H { s with heap := h' } := I.turned (t' := s.toks) (fun b o hb e => (sb.2 b hb).trans e) f0 f1 f3 f4 f5
    obtain ⟨o, e, c, d⟩ := id st'
    exact ⟨u, rfl, go_of (s := { s with heap := h' }) e c d (by decide) ⟨x, H, I1, ru, ⟨rfl, fun ys hy => by rw [I.tuple_inj hy hq]; exact hx⟩, st', fun b hb => (hf b hb).1⟩⟩
  done := by
    intro X hP hw hK hc i pins s σ H E I hf st hg
    subst hP hw hK
    obtain ⟨xs, hq, hx⟩ := hg
    obtain ⟨its, rv, p, hz⟩ := I.tuple hq
    obtain ⟨f0, f1, f2, f3, f4, f5⟩ := hf it (by simp)
    have hl := rv.length
    exact wpAny_pyNext_tuple_end (I.ok.hd hc) st (show s.heap.IsTuple a its.toArray from p) (by simp; omega) fun h' eb => ⟨rfl, I.turned (t' := s.toks) (fun b o hb e => eb b o hb e) f0 f1 f3 f4 f5⟩
  self := fun _ _ _ _ _ st h => wpAny_pyIter_tupleiter st h
theorem turn_range {P : Program} {w : World} {K : PySem.W.Frag} {tg : Expr} (it : Addr) (lo : Int) (n : Nat) : Turn P w K tg (Itr lo n) [it] it (fun i h => IsRangeIter h it (lo + (i : Nat) * 1) ((n : Int) - (i : Nat)) 1) where
  mem := by simp
  obj := fun i h st b hb => by
    have e : b = it := by simpa using hb
    subst e
    exact ⟨_, st, fun v z => by
      have z' : Data.fields _ = Data.cell v := z
      cases z'⟩
  keep := fun i h h' st k => k it (by simp) _ st
  item := by
    intro X hP hw hK hc i pins s σ H E I hf st hg
    subst hP hw hK
    obtain ⟨f0, f1, f2, f3, f4, f5⟩ := hf it (by simp)
    have W := Walks.range (prog := X.prog) (w := X.w) (I.ok.hd hc) it lo 1 n
    refine W.item i s _ _ hg st fun v h' tk hv st' kk => ?_
    obtain ⟨t, rfl⟩ := hv
    have I1 : Inv X pins σ H { s with heap := h', toks := tk } := I.turned (fun b o hb e => kk b o (by simpa using hb) e) f0 f1 f3 f4 f5
    refine ⟨_, rfl, go_of (s := { s with heap := h', toks := tk }) (n := "range_iterator") st' rfl rfl (by decide) ⟨.int (lo + i), H, I1, ⟨t, ?_⟩, ⟨rfl, rfl⟩, st', fun b hb => (hf b hb).1⟩⟩
    rw [Int.mul_one]
  done := by
    intro X hP hw hK hc i pins s σ H E I hf st hg
    subst hP hw hK
    obtain ⟨f0, f1, f2, f3, f4, f5⟩ := hf it (by simp)
    exact wpAny_pyNext_range_end (I.ok.hd hc) st (by have : n ≤ i := hg; omega) fun h' eb => ⟨rfl, I.turned (t' := s.toks) (fun b o hb e => eb b o hb e) f0 f1 f3 f4 f5⟩
  self := fun _ _ _ _ _ st h => wpAny_pyIter_rangeiter st h
end L2

namespace L2
open PySem PySem.Spec PyProof.Rows
section
variable {X : Cx} {tg : Expr}
def iList (K : PySem.W.Frag) (tl : TE) : TI := fun σ H R => tl σ H fun x H1 => ∃ a, x = .ref a ∧ (∃ xs, SqL K H1 a xs) ∧ R (Itl K a) H1
def iTup (K : PySem.W.Frag) (tl : TE) : TI := fun σ H R => tl σ H fun x H1 => ∃ a, x = .ref a ∧ (∃ xs, SqT K H1 a xs) ∧ R (Itt K a) H1
theorem pi_list {l : Expr} {tl : TE} (hl : PE X l tl) : PI X tg l (iList X.K tl) := by
  intro pins s σ H R I h
  refine thn (hl pins s σ H _ I h) fun v s1 ⟨x, H1, I1, r1, q1⟩ => ?_
  obtain ⟨a, e, ⟨xs, hq⟩, q⟩ := q1
  subst e
  cases r1
  obtain ⟨its, rv, p, hz⟩ := I1.list hq
  refine wpAny_pyIter_list p.isList ?_
  refine ⟨s1.heap.objs.size, [s1.heap.objs.size], _, _, H1, rfl, I1.kept (t' := s1.toks) fun b o e => Heap.get?_push_of_some _ e, turn_list a _, ⟨_, Heap.get?_push_size _ rfl, rfl, rfl⟩, fun b hb => ?_, q⟩
  have e : b = s1.heap.objs.size := by simpa using hb
  subst e
  exact I1.fpOk (Nat.le_refl _) (I1.hok.fresh (Nat.le_refl _))
theorem pi_tup {l : Expr} {tl : TE} (hl : PE X l tl) : PI X tg l (iTup X.K tl) := by
  intro pins s σ H R I h
  refine thn (hl pins s σ H _ I h) fun v s1 ⟨x, H1, I1, r1, q1⟩ => ?_
  obtain ⟨a, e, ⟨xs, hq⟩, q⟩ := q1
  subst e
  cases r1
  obtain ⟨its, rv, p, hz⟩ := I1.tuple hq
  refine wpAny_pyIter_tuple (show s1.heap.IsTuple a its.toArray from p) ?_
  refine ⟨s1.heap.objs.size, [s1.heap.objs.size], _, _, H1, rfl, I1.kept (t' := s1.toks) fun b o e => Heap.get?_push_of_some _ e, turn_tuple a _, ⟨_, Heap.get?_push_size _ rfl, rfl, rfl⟩, fun b hb => ?_, q⟩
  have e : b = s1.heap.objs.size := by simpa using hb
  subst e
  exact I1.fpOk (Nat.le_refl _) (I1.hok.fresh (Nat.le_refl _))
/-- a range object just made, walked -/
theorem range_it {pins : List (Addr × Obj)} {σ : St} {H : Hp} {s : Shared} {R : It → Hp → Prop} {E : Value → Shared → Prop} {lo hi : Int} {t u v : Tok} {tk : Nat} (I : Inv X pins σ H s) (h1 : -(2 ^ 62) ≤ lo) (h2 : lo < 2 ^ 62) (h3 : -(2 ^ 62) ≤ hi) (h4 : hi < 2 ^ 62)
    (q : R (Itr lo (hi - lo).toNat) H) : wpAny (model X.prog X.w) X.A (pyIter (.ref s.heap.objs.size)) (PIE X pins σ tg R) E { s with heap := s.heap.push { cls := .type "range", data := .fields #[.int lo t, .int hi u, .int 1 v] }, toks := tk } := by
  refine wpAny_pyIter_range (IsRange.new ..) (small_one h1 h2 h3 h4) ?_
  have I1 : Inv X pins σ H { s with heap := s.heap.push { cls := .type "range", data := .fields #[.int lo t, .int hi u, .int 1 v] }, toks := tk } := I.kept fun b o e => Heap.get?_push_of_some _ e
  refine ⟨(s.heap.push { cls := .type "range", data := .fields #[.int lo t, .int hi u, .int 1 v] }).objs.size, [(s.heap.push { cls := .type "range", data := .fields #[.int lo t, .int hi u, .int 1 v] }).objs.size], _, _, H, rfl,
    I1.kept (t' := tk) fun b o e => Heap.get?_push_of_some _ e, turn_range _ lo (hi - lo).toNat, ?_, fun b hb => ?_, q⟩
  · have e1 : lo + ((0 : Nat) : Int) * 1 = lo := by simp
    have e2 : (((hi - lo).toNat : Nat) : Int) - ((0 : Nat) : Int) = Builtin.Range.rangeSize lo hi 1 := by rw [rangeSize_one]; split <;> omega
    show IsRangeIter _ _ (lo + ((0 : Nat) : Int) * 1) ((((hi - lo).toNat : Nat) : Int) - ((0 : Nat) : Int)) 1
    rw [e1, e2]
    exact Heap.get?_push_size _ rfl
  · have e : b = (s.heap.push { cls := .type "range", data := .fields #[.int lo t, .int hi u, .int 1 v] }).objs.size := by simpa using hb
    subst e
    exact I1.fpOk (Nat.le_refl _) (I1.hok.fresh (Nat.le_refl _))
def iRng1 (ta : TA) : TI := fun σ H R => ta σ H fun vs H1 => ∃ j : Int, vs = [.int j] ∧ -(2 ^ 62) ≤ j ∧ j < 2 ^ 62 ∧ R (Itr 0 j.toNat) H1
theorem pi_range1 {a : Expr} {ta : TA} {p pos : Pos} (hg : Gl X "range") (hm : X.mg "range" = none) (ha : PA X [a] ta) (hs : starEach [a] X.env = [(false, eval a X.env)] := by rfl) : PI X tg (.Call (.Name "range" p) [a] [] pos) (iRng1 ta) := by
  intro pins s σ H R I h
  refine Call_ (ld_blt I hg hm boot_range (PyProof.Rows.callWith_type1 (thn (ha pos pins s σ H _ I h) fun us s1 ⟨vs, H1, I1, r1, q1⟩ => ?_) hs rfl))
  obtain ⟨j, e, q1, q2, q⟩ := q1
  subst e
  cases r1 with
  | cons r rr =>
    cases rr
    obtain ⟨t, rfl⟩ := r
    exact call_range_1 (range_it I1 (by omega) (by omega) q1 q2 (by simpa using q))
/-! ### for -/
/-- W: the invariant by the turn and a measure; N: what the body is to reach -/
def tFor (wi : TI) (g : TG) (tb : TS) : TS := fun D σ H => wi σ H fun J H1 => ∃ W : Nat → Nat → St → Hp → Prop, (∃ m, W 0 m σ H1) ∧ ∀ i m σ H, W i m σ H →
  (J.stop i H ∧ D.nx σ H) ∨ (J.go i H ∧ ∃ N : St → Hp → Prop, (∀ σ' H', N σ' H' → ∃ m', m' < m ∧ W (i + 1) m' σ' H') ∧ ∀ x H', J.yld i H x H' → g x σ H' fun σ2 H2 => tb { D with nx := N, ct := N, bk := D.nx } σ2 H2)
/-- the records at fp as they stand -/
def pinsAt (fp : List Addr) (h : Heap) : List (Addr × Obj) := fp.filterMap fun b => (h.get? b).map fun o => (b, o)
theorem mem_pinsAt {fp : List Addr} {h : Heap} {b : Addr} {o : Obj} (hb : b ∈ fp) (e : h.get? b = some o) : (b, o) ∈ pinsAt fp h := List.mem_filterMap.mpr ⟨b, hb, by rw [e]; rfl⟩
theorem of_pinsAt {fp : List Addr} {h : Heap} {p : Addr × Obj} (hp : p ∈ pinsAt fp h) : p.1 ∈ fp ∧ h.get? p.1 = some p.2 := by
  obtain ⟨b, hb, e⟩ := List.mem_filterMap.mp hp
  cases q : h.get? b with
  | none => rw [q] at e; cases e
  | some o =>
    rw [q] at e
    have e' : (b, o) = p := Option.some.inj e
    subst e'
    exact ⟨hb, q⟩
theorem Inv.pinned {pins : List (Addr × Obj)} {σ : St} {H : Hp} {s : Shared} {fp : List Addr} (I : Inv X pins σ H s) (hf : ∀ b ∈ fp, FpOk X pins H b) (ho : ∀ b ∈ fp, ∃ o, s.heap.get? b = some o ∧ ∀ v, o.data ≠ .cell v) : Inv X (pins ++ pinsAt fp s.heap) σ H s :=
  I.pins_of fun p hp => (List.mem_append.mp hp).elim (fun z => I.pin p (List.mem_append_right _ z)) fun z => by
    obtain ⟨hb, e⟩ := of_pinsAt z
    obtain ⟨f0, f1, f2, _⟩ := hf p.1 hb
    obtain ⟨o, e', d⟩ := ho p.1 hb
    rw [e] at e'; cases e'
    exact ⟨e, f0, f1, f2, d⟩
theorem Inv.unpinned {pins pl : List (Addr × Obj)} {σ : St} {H : Hp} {s : Shared} (I : Inv X (pins ++ pl) σ H s) : Inv X pins σ H s := I.pins_of fun p hp => I.pin p (List.mem_append_right _ (List.mem_append_left _ hp))
theorem ps_for {iter : Expr} {body : List Stmt} {wi : TI} {g : TG} {tb : TS} {pos : Pos} (hp : PassesOwn (model X.prog X.w) X.A X.env X.xe) (hc : X.calm = true) (hi : PI X tg iter wi) (hg : PG X tg g) (hb : PSs X body tb)
    (hs : ∀ x, foldedSetIterable iter X.env x = pure x := by intro _; rfl) : PS X (.For tg iter body [] pos) (tFor wi g tb) := by
  intro pins s σ H D I h
  refine wpAny_For (thn (hi pins s σ H _ I h) fun v s1 h1 => thn h1 fun itv s2 h2 => ?_) hs
  obtain ⟨it, fp, tn, J, H2, e, I2, T, st2, f2, W, ⟨m0, w0⟩, turn⟩ := h2
  subst e
  -- what stays true of the iterator's objects through the loop
  have stat : ∀ {H' : Hp}, (∀ b ∈ fp, H' b = none) → ∀ b ∈ fp, FpOk X pins H' b := fun hn b hb => ⟨hn b hb, (f2 b hb).2⟩
  refine codeAny_forLoop_any (fun n s' => ∃ i σ' H', Inv X pins σ' H' s' ∧ tn i s'.heap ∧ (∀ b ∈ fp, H' b = none) ∧ W i n σ' H') ?_ m0 ⟨0, σ, H2, I2, st2, fun b hb => (f2 b hb).1, w0⟩
  rintro n s3 ⟨i, σ3, H3, I3, st3, fr3, w3⟩
  rcases turn i n σ3 H3 w3 with ⟨stop, qn⟩ | ⟨go, N, hN, step⟩
  · refine wpAny_passesOwn hp (thn (T.done X rfl rfl rfl hc i pins s3 σ3 H3 X.xe I3 (stat fr3) st3 stop) fun r s4 ⟨hr, I4⟩ => ?_)
    subst hr
    exact wpAny_execs_nil ⟨σ3, H3, I4, qn⟩
  · refine wpAny_passesOwn hp (thn (T.item X rfl rfl rfl hc i pins s3 σ3 H3 X.xe I3 (stat fr3) st3 go) fun r s4 ⟨u, hr, h4⟩ => ?_)
    subst hr
    refine wpAny_passesOwn hp (thn h4 fun _ s5 ⟨x, H5, I5, r5, y5, st5, fr5⟩ => ?_)
    have I5' := I5.pinned (stat fr5) (T.obj _ _ st5)
    refine wpAny_passesOwn hp (thn (hg _ s5 σ3 H5 x u _ I5' r5 (step x H5 y5)) fun _ s6 ⟨σ6, H6, I6, q6⟩ => ?_)
    refine wpAny_passesOwn hp (thn (hb _ s6 σ6 H6 _ I6 q6) fun f s7 q7 => ?_)
    have again : ∀ {σ7 : St} {H7 : Hp}, Inv X (pins ++ pinsAt fp s5.heap) σ7 H7 s7 → N σ7 H7 → ∃ m, m < n ∧ ∃ i σ' H', Inv X pins σ' H' s7 ∧ tn i s7.heap ∧ (∀ b ∈ fp, H' b = none) ∧ W i m σ' H' := fun {σ7 H7} I7 n7 => by
      obtain ⟨m', hm, w7⟩ := hN σ7 H7 n7
      refine ⟨m', hm, i + 1, σ7, H7, I7.unpinned, T.keep _ _ _ st5 fun b hb o e => (I7.pin (b, o) (List.mem_append_right _ (List.mem_append_right _ (mem_pinsAt hb e)))).1, fun b hb => ?_, w7⟩
      obtain ⟨o, e, d⟩ := T.obj _ _ st5 b hb
      exact (I7.pin (b, o) (List.mem_append_right _ (List.mem_append_right _ (mem_pinsAt hb e)))).2.1
    cases f with
    | next => obtain ⟨σ7, H7, I7, n7⟩ := q7; exact again I7 n7
    | cont => obtain ⟨σ7, H7, I7, n7⟩ := q7; exact again I7 n7
    | brk => obtain ⟨σ7, H7, I7, q7⟩ := q7; exact ⟨σ7, H7, I7.unpinned, q7⟩
    | ret v => obtain ⟨x7, σ7, H7, I7, r7, q7⟩ := q7; exact ⟨x7, σ7, H7, I7.unpinned, r7, q7⟩
end

/-! ### the forms one uses -/
/-- over a list that the body leaves as it is -/
theorem for_list {K : PySem.W.Frag} {a : Addr} {xs : List V} {g : TG} {tb : TS} {D : Ends} {σ : St} {H : Hp} (Pv : Nat → St → Hp → Prop) (h0 : Pv 0 σ H) (hl : ∀ i σ H, i ≤ xs.length → Pv i σ H → SqL K H a xs)
    (hs : ∀ i x σ H, xs[i]? = some x → Pv i σ H → g x σ H fun σ2 H2 => tb { D with nx := Pv (i + 1), ct := Pv (i + 1), bk := D.nx } σ2 H2) (hd : ∀ σ H, Pv xs.length σ H → D.nx σ H) :
    ∃ W : Nat → Nat → St → Hp → Prop, (∃ m, W 0 m σ H) ∧ ∀ i m σ H, W i m σ H →
      ((Itl K a).stop i H ∧ D.nx σ H) ∨ ((Itl K a).go i H ∧ ∃ N : St → Hp → Prop, (∀ σ' H', N σ' H' → ∃ m', m' < m ∧ W (i + 1) m' σ' H') ∧ ∀ x H', (Itl K a).yld i H x H' → g x σ H' fun σ2 H2 => tb { D with nx := N, ct := N, bk := D.nx } σ2 H2) := by
  refine ⟨fun i m σ H => m = xs.length - i ∧ i ≤ xs.length ∧ Pv i σ H, ⟨xs.length, by simp, Nat.zero_le _, h0⟩, ?_⟩
  rintro i m σ H ⟨rfl, hi, p⟩
  have q := hl i σ H hi p
  by_cases hlt : i < xs.length
  · refine .inr ⟨⟨xs, xs[i], q, by simp [hlt]⟩, Pv (i + 1), fun σ' H' p' => ⟨xs.length - (i + 1), by omega, rfl, hlt, p'⟩, fun x H' y => ?_⟩
    obtain ⟨e, y⟩ := y
    subst e
    exact hs i x σ _ (y xs q) p
  · have e : i = xs.length := by omega
    subst e
    exact .inl ⟨⟨xs, q, Nat.le_refl _⟩, hd σ H p⟩
theorem for_tup {K : PySem.W.Frag} {a : Addr} {xs : List V} {g : TG} {tb : TS} {D : Ends} {σ : St} {H : Hp} (Pv : Nat → St → Hp → Prop) (h0 : Pv 0 σ H) (hl : ∀ i σ H, i ≤ xs.length → Pv i σ H → SqT K H a xs)
    (hs : ∀ i x σ H, xs[i]? = some x → Pv i σ H → g x σ H fun σ2 H2 => tb { D with nx := Pv (i + 1), ct := Pv (i + 1), bk := D.nx } σ2 H2) (hd : ∀ σ H, Pv xs.length σ H → D.nx σ H) :
    ∃ W : Nat → Nat → St → Hp → Prop, (∃ m, W 0 m σ H) ∧ ∀ i m σ H, W i m σ H →
      ((Itt K a).stop i H ∧ D.nx σ H) ∨ ((Itt K a).go i H ∧ ∃ N : St → Hp → Prop, (∀ σ' H', N σ' H' → ∃ m', m' < m ∧ W (i + 1) m' σ' H') ∧ ∀ x H', (Itt K a).yld i H x H' → g x σ H' fun σ2 H2 => tb { D with nx := N, ct := N, bk := D.nx } σ2 H2) := by
  refine ⟨fun i m σ H => m = xs.length - i ∧ i ≤ xs.length ∧ Pv i σ H, ⟨xs.length, by simp, Nat.zero_le _, h0⟩, ?_⟩
  rintro i m σ H ⟨rfl, hi, p⟩
  have q := hl i σ H hi p
  by_cases hlt : i < xs.length
  · refine .inr ⟨⟨xs, xs[i], q, by simp [hlt]⟩, Pv (i + 1), fun σ' H' p' => ⟨xs.length - (i + 1), by omega, rfl, hlt, p'⟩, fun x H' y => ?_⟩
    obtain ⟨e, y⟩ := y
    subst e
    exact hs i x σ _ (y xs q) p
  · have e : i = xs.length := by omega
    subst e
    exact .inl ⟨⟨xs, q, Nat.le_refl _⟩, hd σ H p⟩
theorem for_range {lo : Int} {n : Nat} {g : TG} {tb : TS} {D : Ends} {σ : St} {H : Hp} (Pv : Nat → St → Hp → Prop) (h0 : Pv 0 σ H)
    (hs : ∀ i σ H, i < n → Pv i σ H → g (.int (lo + i)) σ H fun σ2 H2 => tb { D with nx := Pv (i + 1), ct := Pv (i + 1), bk := D.nx } σ2 H2) (hd : ∀ σ H, Pv n σ H → D.nx σ H) :
    ∃ W : Nat → Nat → St → Hp → Prop, (∃ m, W 0 m σ H) ∧ ∀ i m σ H, W i m σ H →
      ((Itr lo n).stop i H ∧ D.nx σ H) ∨ ((Itr lo n).go i H ∧ ∃ N : St → Hp → Prop, (∀ σ' H', N σ' H' → ∃ m', m' < m ∧ W (i + 1) m' σ' H') ∧ ∀ x H', (Itr lo n).yld i H x H' → g x σ H' fun σ2 H2 => tb { D with nx := N, ct := N, bk := D.nx } σ2 H2) := by
  refine ⟨fun i m σ H => m = n - i ∧ i ≤ n ∧ Pv i σ H, ⟨n, by simp, Nat.zero_le _, h0⟩, ?_⟩
  rintro i m σ H ⟨rfl, hi, p⟩
  by_cases hlt : i < n
  · refine .inr ⟨hlt, Pv (i + 1), fun σ' H' p' => ⟨n - (i + 1), by omega, rfl, hlt, p'⟩, fun x H' y => ?_⟩
    obtain ⟨e, y⟩ := y
    subst e y
    exact hs i σ _ hlt p
  · have e : i = n := by omega
    subst e
    exact .inl ⟨Nat.le_refl _, hd σ H p⟩
end L2

namespace L2
open PySem PySem.Spec PyProof.Rows

abbrev R2 := V → V → Hp → VK → Prop
/-- a two-place operation on values: f is binaryOp op, inplaceOp op or compareOp op -/
def OpR (X : Cx) (f : Value → Value → Sem Value) (r : R2) : Prop :=
  ∀ (pins : List (Addr × Obj)) (s : Shared) (σ : St) (H : Hp) (x y : V) (v u : Value) (Q : VK), Inv X pins σ H s → RelV x v → RelV y u → r x y H Q →
    wpAny (model X.prog X.w) X.A (f v u) (EP X pins σ Q) X.xe s
/-- a one-place operation -/
def UnR (X : Cx) (f : Value → Sem Value) (r : V → Hp → VK → Prop) : Prop :=
  ∀ (pins : List (Addr × Obj)) (s : Shared) (σ : St) (H : Hp) (x : V) (v : Value) (Q : VK), Inv X pins σ H s → RelV x v → r x H Q →
    wpAny (model X.prog X.w) X.A (f v) (EP X pins σ Q) X.xe s
/-- a call of a value that is known (a builtin, a type) with values -/
def CallR (X : Cx) (f : Value) (r : List V → Hp → VK → Prop) : Prop :=
  ∀ (pins : List (Addr × Obj)) (s : Shared) (σ : St) (H : Hp) (xs : List V) (us : List Value) (Q : VK), Inv X pins σ H s → Vals xs us → r xs H Q →
    wpAny (model X.prog X.w) X.A (call f us) (EP X pins σ Q) X.xe s
/-- a value's truth -/
def TruR (X : Cx) (r : V → Hp → (Bool → Hp → Prop) → Prop) : Prop :=
  ∀ (pins : List (Addr × Obj)) (s : Shared) (σ : St) (H : Hp) (x : V) (v : Value) (Q : Bool → Hp → Prop), Inv X pins σ H s → RelV x v → r x H Q →
    wpAny (model X.prog X.w) X.A (truthy v) (TP X pins σ Q) X.xe s

def tOp (r : R2) (ta tb : TE) : TE := fun σ H Q => ta σ H fun x H1 => tb σ H1 fun y H2 => r x y H2 Q
def tUn (r : V → Hp → VK → Prop) (ta : TE) : TE := fun σ H Q => ta σ H fun x H1 => r x H1 Q
/-- ints in, under C, and a value out -/
def rI (C : Int → Int → Prop) (g : Int → Int → V) : R2 := fun x y H Q => ∃ i j, x = .int i ∧ y = .int j ∧ C i j ∧ Q (g i j) H
def rI0 (g : Int → Int → V) : R2 := fun x y H Q => ∃ i j, x = .int i ∧ y = .int j ∧ Q (g i j) H
def rU (g : Int → V) : V → Hp → VK → Prop := fun x H Q => ∃ i, x = .int i ∧ Q (g i) H

section
variable {X : Cx} {a b c : Expr} {ta tb tc : TE} {pos : Pos}

theorem binT (ha : PE X a ta) (hb : PE X b tb) {pins : List (Addr × Obj)} {s : Shared} {σ : St} {H : Hp} {R : V → V → Hp → Prop} (I : Inv X pins σ H s)
    (h : ta σ H fun x H1 => tb σ H1 fun y H2 => R x y H2) {Q : Value → Shared → Prop} {f : Value → Value → Sem Value}
    (hf : ∀ v u s2 x y H2, Inv X pins σ H2 s2 → RelV x v → RelV y u → R x y H2 → wpAny (model X.prog X.w) X.A (f v u) Q X.xe s2) :
    wpAny (model X.prog X.w) X.A (eval a X.env) (fun v s₁ => wpAny (model X.prog X.w) X.A (eval b X.env) (fun u s₂ => wpAny (model X.prog X.w) X.A (f v u) Q X.xe s₂) X.xe s₁) X.xe s := by
  refine thn (ha pins s σ H _ I h) fun v s1 ⟨x, H1, I1, r1, q1⟩ => ?_
  refine thn (hb pins s1 σ H1 _ I1 q1) fun u s2 ⟨y, H2, I2, r2, q2⟩ => ?_
  exact hf v u s2 x y H2 I2 r1 r2 q2

theorem pe_op {op : Operator} {r : R2} (ho : OpR X (binaryOp op) r) (ha : PE X a ta) (hb : PE X b tb) : PE X (.BinOp a op b pos) (tOp r ta tb) := by
  intro pins s σ H Q I h
  exact wpAny_BinOp (binT ha hb I h fun v u s2 x y H2 I2 rx ry q => ho pins s2 σ H2 x y v u Q I2 rx ry q)
theorem pe_un {op : UnaryOp} {r : V → Hp → VK → Prop} (ho : UnR X (unaryOp op) r) (ha : PE X a ta) : PE X (.UnaryOp op a pos) (tUn r ta) := by
  intro pins s σ H Q I h
  exact UnaryOp_ (thn (ha pins s σ H _ I h) fun v s1 ⟨x, H1, I1, r1, q1⟩ => ho pins s1 σ H1 x v Q I1 r1 q1)
/-! ### ints -/
theorem opI {f : Value → Value → Sem Value} {C : Int → Int → Prop} {g : Int → Int → Int}
    (rule : ∀ (i j : Int) (t u : Tok) (s : Shared) (Q : Value → Shared → Prop) (E : Value → Shared → Prop), C i j → Q (.int (g i j) s.toks) { s with toks := s.toks + 1 } → wpAny (model X.prog X.w) X.A (f (.int i t) (.int j u)) Q E s) :
    OpR X f (rI C fun i j => .int (g i j)) := by
  intro pins s σ H x y v u Q I rx ry h
  obtain ⟨i, j, rfl, rfl, hc, q⟩ := h
  obtain ⟨t, rfl⟩ := rx
  obtain ⟨t', rfl⟩ := ry
  exact rule i j t t' s _ _ hc ⟨.int (g i j), H, I.tok _, ⟨_, rfl⟩, q⟩
theorem opI0 {f : Value → Value → Sem Value} {g : Int → Int → Int}
    (rule : ∀ (i j : Int) (t u : Tok) (s : Shared) (Q : Value → Shared → Prop) (E : Value → Shared → Prop), Q (.int (g i j) s.toks) { s with toks := s.toks + 1 } → wpAny (model X.prog X.w) X.A (f (.int i t) (.int j u)) Q E s) :
    OpR X f (rI0 fun i j => .int (g i j)) := by
  intro pins s σ H x y v u Q I rx ry h
  obtain ⟨i, j, rfl, rfl, q⟩ := h
  obtain ⟨t, rfl⟩ := rx
  obtain ⟨t', rfl⟩ := ry
  exact rule i j t t' s _ _ ⟨.int (g i j), H, I.tok _, ⟨_, rfl⟩, q⟩
theorem opB0 {f : Value → Value → Sem Value} {g : Int → Int → Bool}
    (rule : ∀ (i j : Int) (t u : Tok) (s : Shared) (Q : Value → Shared → Prop) (E : Value → Shared → Prop), Q (.bool (g i j)) s → wpAny (model X.prog X.w) X.A (f (.int i t) (.int j u)) Q E s) :
    OpR X f (rI0 fun i j => .bl (g i j)) := by
  intro pins s σ H x y v u Q I rx ry h
  obtain ⟨i, j, rfl, rfl, q⟩ := h
  obtain ⟨t, rfl⟩ := rx
  obtain ⟨t', rfl⟩ := ry
  exact rule i j t t' s _ _ ⟨.bl (g i j), H, I, rfl, q⟩

def CDiv (i j : Int) : Prop := 0 < j ∧ j < 1073741824
def CPow (i j : Int) : Prop := 0 ≤ j ∧ j ≤ 1000000 ∧ i.natAbs < 2 ^ 64
def CMul (i j : Int) : Prop := (-(2 ^ 64) < i ∧ i < 2 ^ 64) ∨ (-(2 ^ 64) < j ∧ j < 2 ^ 64)
theorem CMul.ok {i j : Int} (h : CMul i j) : IntMulOk i j := by
  rcases h with ⟨h1, h2⟩ | ⟨h1, h2⟩
  · exact .of_left (intBits_le_64 h1 h2)
  · exact .of_right (intBits_le_64 h1 h2)
theorem op_add : OpR X (binaryOp .Add) (rI0 fun i j => .int (i + j)) := opI0 fun _ _ _ _ _ _ _ q => add_int q
theorem op_sub : OpR X (binaryOp .Sub) (rI0 fun i j => .int (i - j)) := opI0 fun _ _ _ _ _ _ _ q => sub_int q
theorem op_mul : OpR X (binaryOp .Mult) (rI CMul fun i j => .int (i * j)) := opI fun _ _ _ _ _ _ _ hc q => mul_int q hc.ok
/-- // by a positive divisor -/
theorem op_fdiv : OpR X (binaryOp .FloorDiv) (rI CDiv fun i j => .int (i / j)) := opI fun i j _ _ _ _ _ hc q => by
  have h1 : (0 : Int) < j := hc.1
  have h2 : j < 1073741824 := hc.2
  exact floordiv_int (by omega) (by rw [Int.fdiv_eq_ediv_of_nonneg i (by omega)]; exact q) (.inl (PyProof.noPylong_small (by omega)))
/-- % by a positive divisor of any size -/
theorem op_mod : OpR X (binaryOp .Mod) (rI (fun _ j => 0 < j) fun i j => .int (i % j)) := opI fun i j _ _ _ _ _ hc q => by
  have h1 : (0 : Int) < j := hc
  exact mod_int' (by omega) (by rw [Int.fmod_eq_emod_of_nonneg i (by omega)]; exact q)
theorem op_pow : OpR X (binaryOp .Pow) (rI CPow fun i j => .int (i ^ j.toNat)) := opI fun _ _ _ _ _ _ _ hc q => pow_int_small hc.1 hc.2.1 hc.2.2 q
theorem unI {f : Value → Sem Value} {g : Int → Int}
    (rule : ∀ (i : Int) (t : Tok) (s : Shared) (Q : Value → Shared → Prop) (E : Value → Shared → Prop), Q (.int (g i) s.toks) { s with toks := s.toks + 1 } → wpAny (model X.prog X.w) X.A (f (.int i t)) Q E s) :
    UnR X f (rU fun i => .int (g i)) := by
  intro pins s σ H x v Q I rx h
  obtain ⟨i, rfl, q⟩ := h
  obtain ⟨t, rfl⟩ := rx
  exact rule i t s _ _ ⟨.int (g i), H, I.tok _, ⟨_, rfl⟩, q⟩
theorem un_neg : UnR X (unaryOp .USub) (rU fun i => .int (-i)) := unI fun _ _ _ _ _ q => neg_int q
/-! ### bools among ints: n += (a < b) -/
end

/-! ### comparisons -/
/-- the scalars that == tells apart as data does -/
def scal : V → V → Bool
  | .non, .non => true | .non, .int _ => true | .int _, .non => true | .non, .bl _ => true | .bl _, .non => true | .non, .str _ => true | .str _, .non => true
  | .int _, .int _ => true | .bl _, .bl _ => true | .str _, .str _ => true | .byt _, .byt _ => true
  | .int _, .str _ => true | .str _, .int _ => true | .bl _, .str _ => true | .str _, .bl _ => true
  | _, _ => false
def rEq : R2 := fun x y H Q => scal x y = true ∧ Q (.bl (decide (x = y))) H
def rNe : R2 := fun x y H Q => scal x y = true ∧ Q (.bl (!decide (x = y))) H

theorem dec_int {i j : Int} : decide (V.int i = V.int j) = (i == j) := by
  rw [Bool.eq_iff_iff]
  simp
theorem dec_bl {i j : Bool} : decide (V.bl i = V.bl j) = (i == j) := by
  rw [Bool.eq_iff_iff]
  simp
theorem dec_str {i j : Str} : decide (V.str i = V.str j) = (i == j) := by
  rw [Bool.eq_iff_iff]
  simp
theorem dec_byt {i j : Array UInt8} : decide (V.byt i = V.byt j) = (i.toList == j.toList) := by
  rw [Bool.eq_iff_iff]
  cases i
  cases j
  simp

section
variable {X : Cx} {a b c : Expr} {ta tb tc : TE} {pos : Pos}
theorem fin_bl {pins : List (Addr × Obj)} {σ : St} {H : Hp} {s : Shared} {Q : VK} {k k' : Bool} (I : Inv X pins σ H s) (q : Q (.bl k) H) (e : k = k') : EP X pins σ Q (.bool k') s := by
  subst e
  exact ⟨.bl k, H, I, rfl, q⟩
theorem op_eq : OpR X (compareOp .Eq) rEq := by
  intro pins s σ H x y v u Q I rx ry h
  obtain ⟨hs, q⟩ := h
  cases x with
  | non =>
    cases rx
    cases y with
    | non => cases ry; exact PySem.EqNone.eq_none_none (fin_bl I q (by simp))
    | bl j => cases ry; exact PySem.EqNone.eq_none_bool (fin_bl I q (by simp))
    | int j => obtain ⟨t', rfl⟩ := ry; exact PySem.EqNone.eq_none_int (fin_bl I q (by simp))
    | str j => obtain ⟨t', rfl⟩ := ry; exact PySem.EqNone.eq_none_str (fin_bl I q (by simp))
    | _ => exact absurd (show false = true from hs) Bool.false_ne_true
  | bl i =>
    cases rx
    cases y with
    | non => cases ry; exact PySem.EqNone.eq_bool_none (fin_bl I q (by simp))
    | bl j => cases ry; exact eq_bool (fin_bl I q dec_bl)
    | str j => obtain ⟨t', rfl⟩ := ry; exact PySem.EqMixed.eq_bool_str (fin_bl I q (by simp))
    | _ => exact absurd (show false = true from hs) Bool.false_ne_true
  | int i =>
    obtain ⟨t, rfl⟩ := rx
    cases y with
    | non => cases ry; exact PySem.EqNone.eq_int_none (fin_bl I q (by simp))
    | int j => obtain ⟨t', rfl⟩ := ry; exact eq_int (fin_bl I q dec_int)
    | str j => obtain ⟨t', rfl⟩ := ry; exact PySem.EqMixed.eq_int_str (fin_bl I q (by simp))
    | _ => exact absurd (show false = true from hs) Bool.false_ne_true
  | str i =>
    obtain ⟨t, rfl⟩ := rx
    cases y with
    | non => cases ry; exact PySem.EqNone.eq_str_none (fin_bl I q (by simp))
    | bl j => cases ry; exact PySem.EqMixed.eq_str_bool (fin_bl I q (by simp))
    | int j => obtain ⟨t', rfl⟩ := ry; exact PySem.EqMixed.eq_str_int (fin_bl I q (by simp))
    | str j => obtain ⟨t', rfl⟩ := ry; exact eq_str (fin_bl I q dec_str)
    | _ => exact absurd (show false = true from hs) Bool.false_ne_true
  | byt i =>
    obtain ⟨t, rfl⟩ := rx
    cases y with
    | byt j => obtain ⟨t', rfl⟩ := ry; exact PySem.W.eq_bytes (fin_bl I q dec_byt)
    | _ => exact absurd (show false = true from hs) Bool.false_ne_true
  | _ => cases y <;> exact absurd (show false = true from hs) Bool.false_ne_true
theorem op_ne : OpR X (compareOp .NotEq) rNe := by
  intro pins s σ H x y v u Q I rx ry h
  obtain ⟨hs, q⟩ := h
  cases x with
  | non =>
    cases rx
    cases y with
    | non => cases ry; exact PySem.EqNone.ne_none_none (fin_bl I q (by simp))
    | bl j => cases ry; exact PySem.EqNone.ne_none_bool (fin_bl I q (by simp))
    | int j => obtain ⟨t', rfl⟩ := ry; exact PySem.EqNone.ne_none_int (fin_bl I q (by simp))
    | str j => obtain ⟨t', rfl⟩ := ry; exact PySem.EqNone.ne_none_str (fin_bl I q (by simp))
    | _ => exact absurd (show false = true from hs) Bool.false_ne_true
  | bl i =>
    cases rx
    cases y with
    | non => cases ry; exact PySem.EqNone.ne_bool_none (fin_bl I q (by simp))
    | bl j => cases ry; exact ne_bool (fin_bl I q (congrArg not dec_bl))
    | str j => obtain ⟨t', rfl⟩ := ry; exact PySem.EqMixed.ne_bool_str (fin_bl I q (by simp))
    | _ => exact absurd (show false = true from hs) Bool.false_ne_true
  | int i =>
    obtain ⟨t, rfl⟩ := rx
    cases y with
    | non => cases ry; exact PySem.EqNone.ne_int_none (fin_bl I q (by simp))
    | int j => obtain ⟨t', rfl⟩ := ry; exact ne_int (fin_bl I q (congrArg not dec_int))
    | str j => obtain ⟨t', rfl⟩ := ry; exact PySem.EqMixed.ne_int_str (fin_bl I q (by simp))
    | _ => exact absurd (show false = true from hs) Bool.false_ne_true
  | str i =>
    obtain ⟨t, rfl⟩ := rx
    cases y with
    | non => cases ry; exact PySem.EqNone.ne_str_none (fin_bl I q (by simp))
    | bl j => cases ry; exact PySem.EqMixed.ne_str_bool (fin_bl I q (by simp))
    | int j => obtain ⟨t', rfl⟩ := ry; exact PySem.EqMixed.ne_str_int (fin_bl I q (by simp))
    | str j => obtain ⟨t', rfl⟩ := ry; exact ne_str (fin_bl I q (congrArg not dec_str))
    | _ => exact absurd (show false = true from hs) Bool.false_ne_true
  | byt i =>
    obtain ⟨t, rfl⟩ := rx
    cases y with
    | byt j => obtain ⟨t', rfl⟩ := ry; exact PySem.W.ne_bytes (fin_bl I q (congrArg not dec_byt))
    | _ => exact absurd (show false = true from hs) Bool.false_ne_true
  | _ => cases y <;> exact absurd (show false = true from hs) Bool.false_ne_true

theorem op_lt : OpR X (compareOp .Lt) (rI0 fun i j => .bl (decide (i < j))) := opB0 fun _ _ _ _ _ _ _ q => lt_int q
theorem op_le : OpR X (compareOp .LtE) (rI0 fun i j => .bl (decide (i ≤ j))) := opB0 fun _ _ _ _ _ _ _ q => le_int q
theorem op_gt : OpR X (compareOp .Gt) (rI0 fun i j => .bl (decide (j < i))) := opB0 fun _ _ _ _ _ _ _ q => gt_int q
theorem op_ge : OpR X (compareOp .GtE) (rI0 fun i j => .bl (decide (j ≤ i))) := opB0 fun _ _ _ _ _ _ _ q => ge_int q
/-- the one string within the other -/
theorem op_in_str : OpR X (compareOp .In) (fun x y H Q => ∃ i j, x = .str i ∧ y = .str j ∧ Q (.bl (!(Builtin.Str.occurrences j i 0 j.length 1).isEmpty)) H) := by
  intro pins s σ H x y v u Q I rx ry h
  obtain ⟨i, j, rfl, rfl, q⟩ := h
  obtain ⟨t, rfl⟩ := rx
  obtain ⟨t', rfl⟩ := ry
  exact in_str (fin_bl I q rfl)

theorem op_notin_str : OpR X (compareOp .NotIn) (fun x y H Q => ∃ i j, x = .str i ∧ y = .str j ∧ Q (.bl (!(!(Builtin.Str.occurrences j i 0 j.length 1).isEmpty))) H) := by
  intro pins s σ H x y v u Q I rx ry h
  obtain ⟨i, j, rfl, rfl, q⟩ := h
  obtain ⟨t, rfl⟩ := rx
  obtain ⟨t', rfl⟩ := ry
  exact notIn_str (fin_bl I q rfl)
theorem nomark (b : Expr) {op : CmpOp} (h : op ≠ .In := by decide) (h2 : op ≠ .NotIn := by decide) : behindInMarks op b = false := by
  have e1 : (op == CmpOp.In) = false := by cases op <;> first | rfl | exact absurd rfl h
  have e2 : (op == CmpOp.NotIn) = false := by cases op <;> first | rfl | exact absurd rfl h2
  cases b <;> simp [behindInMarks, e1, e2]
/-- a comparison as a value; hm: nomark b, or (for in, not in) by with_unfolding_all rfl -/
theorem pe_cmpR {op : CmpOp} {r : R2} (ho : OpR X (compareOp op) r) (ha : PE X a ta) (hb : PE X b tb) (hm : behindInMarks op b = false) : PE X (.Compare a [op] [b] pos) (tOp r ta tb) := by
  intro pins s σ H Q I h
  exact wpAny_Compare1 (binT ha hb I h fun v u s2 x y H2 I2 rx ry q => ho pins s2 σ H2 x y v u Q I2 rx ry q) hm
/-- a reading of a value as a test -/
def tTest (t : TE) : TT := fun σ H Q => t σ H fun x H' => ∃ k, x = .bl k ∧ Q k H'
theorem pt_cmpR {op : CmpOp} {r : R2} (ho : OpR X (compareOp op) r) (ha : PE X a ta) (hb : PE X b tb) (hm : behindInMarks op b = false) : PT X (.Compare a [op] [b] pos) (tTest (tOp r ta tb)) := by
  intro pins s σ H Q I h
  refine wpAny_isTrue_Compare1 (thn (ha pins s σ H _ I h) fun v s1 ⟨x, H1, I1, r1, q1⟩ => thn (hb pins s1 σ H1 _ I1 q1) fun u s2 ⟨y, H2, I2, r2, q2⟩ =>
    thn (ho pins s2 σ H2 x y v u _ I2 r1 r2 q2) fun c s3 ⟨z, H3, I3, r3, k, e, q3⟩ => ?_) hm
  subst e
  cases r3
  exact wpAny_truthy_bool ⟨H3, I3, q3⟩
/-- a op1 b op2 c -/
def tChain (r r' : R2) (ta tb tc : TE) : TE := fun σ H Q => ta σ H fun x H1 => tb σ H1 fun y H2 => r x y H2 fun z H3 => ∃ k, z = .bl k ∧
  (if k = true then tc σ H3 fun w' H4 => r' y w' H4 Q else Q (.bl false) H3)
theorem pe_chain {op op' : CmpOp} {r r' : R2} (ho : OpR X (compareOp op) r) (ho' : OpR X (compareOp op') r') (ha : PE X a ta) (hb : PE X b tb) (hc : PE X c tc)
    (hm : lastMarks [op, op'] [b, c] = false := by with_unfolding_all rfl) : PE X (.Compare a [op, op'] [b, c] pos) (tChain r r' ta tb tc) := by
  intro pins s σ H Q I h
  refine Compare_chain (thn (ha pins s σ H _ I h) fun v s1 ⟨x, H1, I1, r1, q1⟩ => chain_link (thn (hb pins s1 σ H1 _ I1 q1) fun u s2 ⟨y, H2, I2, r2, q2⟩ =>
    thn (ho pins s2 σ H2 x y v u _ I2 r1 r2 q2) fun d s3 ⟨z, H3, I3, r3, k, e, q3⟩ => ?_)) hm
  subst e
  cases r3
  refine wpAny_truthy_bool ?_
  cases k with
  | false => exact ite_ff ⟨.bl false, H3, I3, rfl, q3⟩
  | true => exact ite_tt (chain_last (thn (hc pins s3 σ H3 _ I3 q3) fun w' s4 ⟨z', H4, I4, r4, q4⟩ => ho' pins s4 σ H4 y z' u w' Q I4 r2 r4 q4))
/-! ### truth -/
/-- a value's truth by the abstract heap -/
def TruV (K : PySem.W.Frag) (x : V) (H : Hp) (k : Bool) : Prop :=
  match x with
  | .non => k = false
  | .bl b => k = b
  | .int i => k = (i != 0)
  | .str y => y.length ≤ sizeLine ∧ k = ((y.length : Int) != 0)
  | .byt y => y.size ≤ sizeLine ∧ k = ((y.size : Int) != 0)
  | .ref p => (∃ xs, SqL K H p xs ∧ k = !xs.isEmpty) ∨ (∃ xs, SqT K H p xs ∧ k = !xs.isEmpty) ∨ ∃ kvs, H p = some (.dK kvs) ∧ k = !kvs.isEmpty
  | _ => False
theorem isEmpty_kv {κ : Type} {kvs : List (κ × V)} {vs : List (κ × Value)} (r : KV kvs vs) : (!vs.isEmpty) = !kvs.isEmpty := by
  cases r <;> rfl
theorem isEmpty_of {xs : List V} {its : List Value} (r : Vals xs its) : (!its.toArray.isEmpty) = !xs.isEmpty := by
  cases r <;> simp
theorem line63 : (sizeLine : Nat) < 2 ^ 63 := by rw [sizeLine_eq]; decide
theorem tru_ok : TruR X (fun x H Q => ∃ k, TruV X.K x H k ∧ Q k H) := by
  intro pins s σ H x v Q I rx h
  obtain ⟨k, e, q⟩ := h
  have hl := line63
  have hs : sizeLine = 16777216 := sizeLine_eq
  cases x with
  | non =>
    cases rx
    have e' : k = false := e
    subst e'
    exact truthy_none ⟨H, I, q⟩
  | bl b =>
    cases rx
    have e' : k = b := e
    subst e'
    exact wpAny_truthy_bool ⟨H, I, q⟩
  | int i =>
    obtain ⟨t, rfl⟩ := rx
    have e' : k = (i != 0) := e
    subst e'
    exact PySem.P.truthy_int ⟨H, I, q⟩
  | str y =>
    obtain ⟨t, rfl⟩ := rx
    obtain ⟨hy, e'⟩ : y.length ≤ sizeLine ∧ k = ((y.length : Int) != 0) := e
    subst e'
    exact PySem.P.truthy_str (by omega) ⟨H, I.tok _, q⟩
  | byt y =>
    obtain ⟨t, rfl⟩ := rx
    obtain ⟨hy, e'⟩ : y.size ≤ sizeLine ∧ k = ((y.size : Int) != 0) := e
    subst e'
    exact PySem.W.truthy_bytes (by omega) ⟨H, I.tok _, q⟩
  | ref p =>
    cases rx
    have e' : (∃ xs, SqL X.K H p xs ∧ k = !xs.isEmpty) ∨ (∃ xs, SqT X.K H p xs ∧ k = !xs.isEmpty) ∨ ∃ kvs, H p = some (.dK kvs) ∧ k = !kvs.isEmpty := e
    rcases e' with ⟨xs, hx, e'⟩ | ⟨xs, hx, e'⟩ | ⟨kvs, hx, e'⟩
    · subst e'
      obtain ⟨its, r, pl, hz⟩ := I.list hx
      have hlen := r.length
      exact wpAny_truthy_list pl.isList (by simp only [List.size_toArray]; omega) ⟨H, I.tok _, by rw [isEmpty_of r]; exact q⟩
    · subst e'
      obtain ⟨its, r, pl, hz⟩ := I.tuple hx
      have hlen := r.length
      exact truthy_tuple pl (by simp only [List.size_toArray]; omega) ⟨H, I.tok _, by rw [isEmpty_of r]; exact q⟩
    · subst e'
      obtain ⟨hz, hS, vs, r, m⟩ : kvs.length ≤ sizeLine ∧ (p == sysModules) = false ∧ ∃ vs, KV kvs vs ∧ s.heap.DictOf (mixKind X.prog X.w) p vs := I.hok p _ hx
      have hlen : kvs.length = vs.length := Paired.length r
      exact wpAny_truthy_dict hS m (by omega) ⟨H, I.tok _, by rw [isEmpty_kv r]; exact q⟩
  | _ => exact (show False from e).elim
/-- any expression whose test is its value's truth (a name, a call, a subscript, a field ..: he by fun _ => rfl) -/
theorem pt_truth (ha : PE X a ta) (he : ∀ whole, isTrue a X.env whole = (do let v ← whole; standAt a.pos; holding [v] (truthy v))) :
    PT X a (fun σ H Q => ta σ H fun x H' => ∃ k, TruV X.K x H' k ∧ Q k H') := by
  intro pins s σ H Q I h
  exact isTrue_plain (thn (ha pins s σ H _ I h) fun v s1 ⟨x, H1, I1, r1, q1⟩ => tru_ok pins s1 σ H1 x v Q I1 r1 q1) (he _)

/-! ### strs and bytes -/
/-! ### scalar builtins, by CallR -/
theorem vals1 {x : V} {us : List Value} (r : Vals [x] us) : ∃ u, us = [u] ∧ RelV x u := by
  cases r with
  | cons r1 r2 => cases r2; exact ⟨_, rfl, r1⟩
theorem vals2 {x y : V} {us : List Value} (r : Vals [x, y] us) : ∃ u w', us = [u, w'] ∧ RelV x u ∧ RelV y w' := by
  cases r with
  | cons r1 r2 =>
    cases r2 with
    | cons r3 r4 => cases r4; exact ⟨_, _, rfl, r1, r3⟩
theorem call_max2 (hc : X.calm = true) : CallR X (.builtin "max") (fun xs H Q => ∃ i j, xs = [.int i, .int j] ∧ Q (.int (if j > i then j else i)) H) := by
  intro pins s σ H xs us Q I r h
  obtain ⟨i, j, rfl, q⟩ := h
  obtain ⟨u, w', rfl, ⟨t, rfl⟩, ⟨t', rfl⟩⟩ := vals2 r
  refine max_two_ints (I.ok.hd hc) fun h' tk k => ⟨_, H, I.kept k, ?_, q⟩
  by_cases hj : j > i
  · rw [if_pos hj, if_pos hj]; exact ⟨_, rfl⟩
  · rw [if_neg hj, if_neg hj]; exact ⟨_, rfl⟩
end
end L2

namespace L2
open PySem PySem.Spec PyProof.Rows

/-! ### an instance, its attributes a map -/
structure ObjM (h : Heap) (x dx C : Addr) (mA : Str → Option Value) : Prop where
  obj : h.get? x = some (PySem.W.instObj C dx)
  ns : h.Ns1 dx mA
  ne : dx ≠ x

theorem lookIn_ns {h : Heap} {dx : Addr} {mA : Str → Option Value} (n : h.Ns1 dx mA) : ∃ od, h.get? dx = some od ∧ ∀ name, PySem.W.lookIn name od = some (mA name) := by
  obtain ⟨o, es, ep, ho, hd, hk, _, hm⟩ := n
  refine ⟨o, ho, fun name => ?_⟩
  have e := hm name
  unfold nsFind findBy at e
  rw [← Array.find?_toList] at e
  unfold PySem.W.lookIn
  rw [hd]
  dsimp only
  split
  · rename_i y q
    rw [q] at e
    exact congrArg some e
  · rename_i q
    rw [q] at e
    have a : es.toList.any (·.refKey) = false := by
      rw [List.any_eq_false]
      intro y hy
      obtain ⟨z, t, hkey⟩ := hk y (Array.mem_toList_iff.mp hy)
      simp [DictEntry.refKey, hkey]
    have a' : ¬ es.toList.any (·.refKey) = true := by rw [a]; exact Bool.false_ne_true
    rw [if_neg a']
    exact congrArg some e

theorem ObjM.look {h : Heap} {x dx C : Addr} {mA : Str → Option Value} (I : ObjM h x dx C mA) : ∃ od, PySem.W.InstAt h x (PySem.W.instObj C dx) C (some od) ∧ ∀ name, PySem.W.lookIn name od = some (mA name) :=
  let ⟨od, ho, hl⟩ := lookIn_ns I.ns
  ⟨od, ⟨I.obj, rfl, rfl, ho⟩, hl⟩

section
variable {prog : Program} {w : World} {A : Around} {E : Value → Shared → Prop} {s : Shared} {K : PySem.W.Frag} {x dx C f : Addr} {mA : Str → Option Value} {name : Str} {v : Value}

end

/-! ### the attributes as a list of pairs -/
theorem RelO.some_of {v : V} {o : Option Value} (r : RelO (some v) o) : ∃ u, o = some u ∧ RelV v u := by
  cases o with
  | none => exact (show False from r).elim
  | some u => exact ⟨u, rfl, r⟩
section
variable {P : Program} {w : World} {H H' : Hp} {h h' : Heap} {a C dx : Addr} {fs fs' : List (Str × V)}
theorem ins_get (hok : HOk P w H h) (e : H a = some (.ins C dx fs)) : ∃ mA, ObjM h a dx C mA ∧ (∀ f, RelO (fs.lookup f) (mA f)) ∧ PySem.Within mA (fs.map (·.1)) ∧ fs.length ≤ 1000 ∧ H dx = some (.own a) := by
  obtain ⟨d, z, ne, ob, mA, n, r, q⟩ := (show ObjOk P w H h a (.ins C dx fs) from hok a _ e)
  exact ⟨mA, ⟨ob, n, ne⟩, r, q, z, d⟩
end

/-! ### what of the text a class must have -/
structure Cls (K : PySem.W.Frag) (C : Addr) : Prop where
  pg : PySem.W.plainGet K C Str.empty = true
  hd : PySem.W.hasDictIn K C = true
  po : PySem.W.plainOver K C = true
  sa : PySem.W.findIn K (.ref C) "__setattr__" = some (some (.builtin "object.__setattr__"))
theorem Cls.get {K : PySem.W.Frag} {C : Addr} (c : Cls K C) (f : Str) : PySem.W.plainGet K C f = true := c.pg
section
variable {X : Cx} {pins : List (Addr × Obj)} {σ : St} {H : Hp} {s : Shared} {a C dx : Addr} {fs : List (Str × V)} {f : Str} {v : V} {A : Around} {E : Value → Shared → Prop}

end

/-! ### readings and rules -/
section
variable {X : Cx} {o e value : Expr} {f : Str} {pos pos' tpos : Pos} {ta tv : TE}
end

/-! ### isinstance -/
section
variable {X : Cx} {pins : List (Addr × Obj)} {σ : St} {H : Hp} {s : Shared} {A : Around} {E : Value → Shared → Prop} {Q : Value → Shared → Prop} {c : Value} {b : Bool}
/-- the type of a value, as the fragment's deciders take it; for an instance its class -/
inductive TyOf (K : PySem.W.Frag) (H : Hp) : V → Value → Prop where
  | non : TyOf K H .non (.type "NoneType")
  | bl (x : Bool) : TyOf K H (.bl x) (.type "bool")
  | int (i : Int) : TyOf K H (.int i) (.type "int")
  | str (x : Str) : TyOf K H (.str x) (.type "str")
  | flt (x : UInt64) : TyOf K H (.flt x) (.type "float")
  | lst {a : Addr} {xs : List V} (e : H a = some (.lst xs)) : TyOf K H (.ref a) (.type "list")
  | frz {a : Addr} {o : Obj} {xs : List V} (e : H a = some (.frz o (.lst xs))) : TyOf K H (.ref a) (.type "list")
  | tup {a : Addr} {xs : List V} (e : H a = some (.tup xs)) : TyOf K H (.ref a) (.type "tuple")
  | dK {a : Addr} {kvs : List (Key × V)} (e : H a = some (.dK kvs)) : TyOf K H (.ref a) (.type "dict")
  | dT {a : Addr} {kvs : List (List Key × V)} (e : H a = some (.dT kvs)) : TyOf K H (.ref a) (.type "dict")
  | ins {a C dx : Addr} {fs : List (Str × V)} (e : H a = some (.ins C dx fs)) (cl : Cls K C) (ha : PySem.W.findIn K (.ref C) "__class__" = some (some (.builtin "object.__class__")))
      (hn : PySem.W.specialIn K (.builtin "object.__class__") "__get__" = some (some (.builtin "getset_descriptor.__get__"))) (htk : PySem.W.takesIn K (.builtin "object.__class__") = some true)
      (hm : PySem.W.mroIn K C (.type "object") = some true) : TyOf K H (.ref a) (.ref C)
/-- isinstance(x, c) for one class c, a built-in or an own one: kitOne's answer -/
theorem isinst_ok {x : V} {u t : Value} (I : Inv X pins σ H s) (rx : RelV x u) (ty : TyOf X.K H x t) (e : PySem.W.kitOne X.K t c = some b) (h : ∀ tk, Q (.bool b) { s with toks := tk }) :
    wpAny (model X.prog X.w) A (call (.builtin "isinstance") [u, c]) Q E s := by
  cases ty with
  | non => cases (show u = Value.none from rx); exact PySem.W.kia_one PySem.W.kitx_none I.kIn True.intro e (fun z => nomatch z) h
  | bl y => cases (show u = Value.bool y from rx); exact PySem.W.kia_one PySem.W.kitx_bool I.kIn True.intro e (fun z => nomatch z) h
  | int i => obtain ⟨t, q⟩ := (show ∃ t, u = Value.int i t from rx); cases q; exact PySem.W.kia_one PySem.W.kitx_int I.kIn True.intro e (fun z => nomatch z) h
  | str y => obtain ⟨t, q⟩ := (show ∃ t, u = Value.str y t from rx); cases q; exact PySem.W.kia_one PySem.W.kitx_str I.kIn True.intro e (fun z => nomatch z) h
  | flt y => obtain ⟨t, q⟩ := (show ∃ t, u = Value.float y t from rx); cases q; exact PySem.W.kia_one PySem.W.kitx_float I.kIn True.intro e (fun z => nomatch z) h
  | @lst a xs ea =>
    cases (show u = Value.ref a from rx)
    obtain ⟨_, _, n, _, h1⟩ := (show ObjOk X.prog X.w H s.heap a (.lst xs) from I.hok a _ ea)
    exact PySem.W.kia_one PySem.W.kitx_list I.kIn ⟨_, h1, rfl⟩ e (fun z => nomatch z) h
  | @frz a ob xs ea =>
    cases (show u = Value.ref a from rx)
    obtain ⟨_, _, _, n, _, h1⟩ := (show ObjOk X.prog X.w H s.heap a (.frz ob (.lst xs)) from I.hok a _ ea)
    exact PySem.W.kia_one PySem.W.kitx_list I.kIn ⟨_, h1, rfl⟩ e (fun z => nomatch z) h
  | @tup a xs ea =>
    cases (show u = Value.ref a from rx)
    obtain ⟨_, _, _, p⟩ := (show ObjOk X.prog X.w H s.heap a (.tup xs) from I.hok a _ ea)
    obtain ⟨o, h1, h2, _⟩ := p
    exact PySem.W.kia_one PySem.W.kitx_tuple I.kIn ⟨o, h1, h2⟩ e (fun z => nomatch z) h
  | @dK a kvs ea =>
    cases (show u = Value.ref a from rx)
    obtain ⟨_, _, vs, _, p⟩ := (show ObjOk X.prog X.w H s.heap a (.dK kvs) from I.hok a _ ea)
    obtain ⟨o, es, ep, h1, h2, _⟩ := p
    exact PySem.W.kia_one PySem.W.kitx_dict I.kIn ⟨o, h1, h2.1⟩ e (fun z => nomatch z) h
  | @dT a kvs ea =>
    cases (show u = Value.ref a from rx)
    obtain ⟨_, _, xs, _, o, es, ep, h1, h2, _⟩ := (show ObjOk X.prog X.w H s.heap a (.dT kvs) from I.hok a _ ea)
    exact PySem.W.kia_one PySem.W.kitx_dict I.kIn ⟨o, h1, h2.1⟩ e (fun z => nomatch z) h
  | @ins a C dx fs ea cl ha hn htk hm =>
    cases (show u = Value.ref a from rx)
    obtain ⟨mA, O, _⟩ := ins_get I.hok ea
    obtain ⟨od, J, _⟩ := O.look
    exact PySem.W.kia_one (PySem.W.kitx_own (cl.get _) cl.hd ha hn htk hm) I.kIn J e (fun z => nomatch z) h
end
end L2

namespace L2
open PySem PySem.Spec PyProof.Rows

/-! ### room -/
structure Room (k : Nat) (A : Around) : Prop where
  hd : A.handled = none
  dp : A.depth + 3 * k + 5 < recursionLimit
  un : A.units + 16 * k + 200 < cLine
theorem Room.mono {j k : Nat} {A : Around} (r : Room k A) (h : j ≤ k) : Room j A := ⟨r.hd, by have := r.dp; omega, by have := r.un; omega⟩
theorem Room.deeper {k : Nat} {A : Around} (r : Room (k + 1) A) (env : Env) : Room k (A.deeper env) :=
  ⟨r.hd, by have := r.dp; show A.depth + 1 + 3 * k + 5 < _; omega, by have := r.un; show A.units + 3 + 16 * k + 200 < _; omega⟩
theorem Room.depth {k : Nat} {A : Around} (r : Room k A) : A.depth < recursionLimit := by have := r.dp; omega
theorem Room.units {k : Nat} {A : Around} (r : Room k A) : A.units + 64 < cLine := by have := r.un; omega
/-! ### argument lists and displays -/
def tNil : TA := fun _ H Q => Q [] H
def tCons (ta : TE) (tr : TA) : TA := fun σ H Q => ta σ H fun x H1 => tr σ H1 fun xs H2 => Q (x :: xs) H2
section
variable {X : Cx} {e : Expr} {es : List Expr} {te : TE} {t : TA} {pos : Pos}
theorem pa_nil : PA X [] tNil := fun _ _ _ _ H Q I h => Calls.spliced_nil ⟨[], H, I, .nil, h⟩
theorem pa_cons (ha : PE X e te) (hr : PA X es t) (hs : starEach (e :: es) X.env = (false, eval e X.env) :: starEach es X.env := by rfl) : PA X (e :: es) (tCons te t) := by
  intro pos pins s σ H Q I h
  rw [hs]
  show wpAny _ _ (spliced ((false, eval e X.env) :: backTo pos (starEach es X.env))) _ _ s
  refine Calls.spliced_cons (thn (ha pins s σ H _ I h) fun u s1 ⟨x, H1, I1, r1, q1⟩ => ?_)
  exact thn (hr pos pins s1 σ H1 _ I1 q1) fun us s2 ⟨xs, H2, I2, r2, q2⟩ => ⟨x :: xs, H2, I2, .cons r1 r2, q2⟩

/-- a tuple, a list of written items -/
def tTup (t : TA) : TE := fun σ H Q => t σ H fun xs H1 => xs.length ≤ sizeLine ∧ ∀ p, H1 p = none → Q (.ref p) (upd H1 p (.tup xs))
def tLst (t : TA) : TE := fun σ H Q => t σ H fun xs H1 => xs.length ≤ sizeLine ∧ ∀ p, H1 p = none → Q (.ref p) (upd H1 p (.lst xs))
theorem pe_tup {x1} (h : PA X es t) : PE X (.Tuple es x1 pos) (tTup t) := by
  intro pins s σ H Q I hq
  refine wpAny_Tuple_spliced (thn (h pos pins s σ H _ I hq) fun us s1 ⟨xs, H1, I1, r, z, q⟩ => ⟨by rw [← r.length]; exact z, ?_⟩)
  have hf : H1 s1.heap.objs.size = none := I1.hok.fresh (Nat.le_refl _)
  refine ⟨.ref s1.heap.objs.size, upd H1 s1.heap.objs.size (.tup xs), I1.laid (t' := s1.toks) (fun b u e => Heap.get?_push_of_some _ e) (Nat.le_refl _) ?_, rfl, q _ hf⟩
  exact ⟨z, us, r, ⟨_, Heap.get?_push_size _ rfl, rfl, _, rfl, rfl⟩⟩
theorem pe_lst (h : PA X es t) : PE X (.List es pos) (tLst t) := by
  intro pins s σ H Q I hq
  refine wpAny_List_spliced (thn (h pos pins s σ H _ I hq) fun us s1 ⟨xs, H1, I1, r, z, q⟩ => ⟨by rw [← r.length]; exact z, ?_⟩)
  have hf : H1 s1.heap.objs.size = none := I1.hok.fresh (Nat.le_refl _)
  refine ⟨.ref s1.heap.objs.size, upd H1 s1.heap.objs.size (.lst xs), I1.laid (t' := s1.toks) (fun b u e => Heap.get?_push_of_some _ e) (Nat.le_refl _) ?_, rfl, q _ hf⟩
  exact ⟨z, us, 0, r, Heap.get?_push_size _ rfl⟩
end

/-! ### what a def promises -/
/-- a def's promise: the bound arguments in the parameters' order, the heap, the wanted end, the wanted exception -/
abbrev Sp := List V → Hp → VK → XK → Prop
/-- how an exception lies behind a call (file 08 gives it): the callers' frames, abstract heap and state ahead of the call, the wish, the exception, the state -/
abbrev CXT := List Env → Hp → Shared → XK → Value → Shared → Prop

/-- the state at a call -/
structure Env0 (P : Program) (w : World) (K : PySem.W.Frag) (mg : Str → Option Value) (base : Heap) (A : Around) (outer : List Env) (s : Shared) (H : Hp) : Prop where
  frames : A.frames = some outer
  mod : Mod K mg base
  bs : ∀ b o, base.get? b = some o → s.heap.get? b = some o ∧ H b = none
  bsz : base.objs.size ≤ s.heap.objs.size
  funs : s.heap.FunFrames base outer
  frf : ∀ b ∈ frs outer, H b = none
  hok : HOk P w H s.heap
  bare : AllBare s.gens
/-- a call's end -/
def CE (outer : List Env) (P : Program) (w : World) (H : Hp) (s : Shared) (Q : VK) (u : Value) (s' : Shared) : Prop :=
  ∃ v H', s'.os = s.os ∧ AllBare s'.gens ∧ Un (frs outer) [] H H' s.heap s'.heap ∧ HOk P w H' s'.heap ∧ RelV v u ∧ Q v H'
def CR (CX : CXT) (outer : List Env) (P : Program) (w : World) (H : Hp) (s : Shared) (Q : VK) (E : XK) (r : Result) (s' : Shared) : Prop :=
  match r with
  | .ok (.ret u) => CE outer P w H s Q u s'
  | .ok _ => False
  | .error e => CX outer H s E e s'
structure FnOk (P : Program) (w : World) (K : PySem.W.Frag) (mg : Str → Option Value) (base : Heap) (CX : CXT) (k : Nat) (f : Addr) (fd : FuncData) (ps : List Str) (sp : Sp) : Prop where
  len : ∀ vs H Q E, sp vs H Q E → vs.length = ps.length
  run : ∀ (A : Around) (outer : List Env) (s : Shared) (H : Hp) (args : Args) (us : List Value) (vs : List V) (Q : VK) (E : XK), Room k A → Env0 P w K mg base A outer s H → BindsTo s fd args (ps.zip us) → Vals vs us → sp vs H Q E →
    codeAny (model P w) A (.call (.ref f) args) (CR CX outer P w H s Q E) s
section
variable {X : Cx} {pins : List (Addr × Obj)} {σ : St} {H : Hp} {s s' : Shared}
/-- from a body: what a callee wants -/
theorem Inv.env0 (I : Inv X pins σ H s) : Env0 X.prog X.w X.K X.mg X.base X.A X.stack s H :=
  ⟨I.ok.frames, I.ok.mod, I.bs, Nat.le_trans I.ok.bsz I.sz, I.stack, I.stkFree, I.hok, I.bare⟩
/-- behind a call -/
theorem Inv.after {Q : VK} {u : Value} (I : Inv X pins σ H s) (h : CE X.stack X.prog X.w H s Q u s') : EP X pins σ Q u s' := by
  obtain ⟨v, H', os, bare, un, hok, r, q⟩ := h
  obtain ⟨hh, g, d, t, os'⟩ := s'
  obtain rfl : os' = s.os := os
  exact ⟨v, H', I.call (h' := hh) (g' := g) (d' := d) (t' := t) (ch := []) un hok bare (fun b z => absurd z (by simp)), r, q⟩
end

/-! ### calls -/
/-- f(..): the written arguments, then the defaults dvs; E: what is wanted of an exception -/
def tCall (sp : Sp) (dvs : List V) (E : XK) (t : TA) : TE := fun σ H Q => t σ H fun vs H1 => sp (vs ++ dvs) H1 Q E
/-- how the parameters are bound: us the positional arguments, kw the keywords' values by name, ds the defaults that fill up -/
def Binds (K : PySem.W.Frag) (fd : FuncData) (ps : List Str) (ds : List Value) : Prop :=
  ∀ (s : Shared) (us : List Value), K.In s.heap → (us ++ ds).length = ps.length → BindsTo s fd ⟨us, []⟩ (ps.zip (us ++ ds))
/-- every parameter is given -/
theorem Binds.all {K : PySem.W.Frag} {fd : FuncData} {ps : List Str} (h : ∀ us : List Value, us.length = ps.length → bindArgs fd ⟨us, []⟩ = pure (ps.zip us)) : Binds K fd ps [] := fun s us _ hl => by
  rw [List.append_nil] at hl ⊢
  exact .of_eq (h us hl)

/-- an exception of a callee reaches what this body wants of exceptions -/
def Passes (CX : CXT) (X : Cx) (E : XK) : Prop := ∀ (pins : List (Addr × Obj)) (σ : St) (H : Hp) (s : Shared) (e : Value) (s' : Shared), Inv X pins σ H s → CX X.stack H s E e s' → X.xe e s'

section
variable {X : Cx} {CX : CXT} {k : Nat} {f C : Addr} {fd : FuncData} {ps : List Str} {sp : Sp} {dvs : List V} {ds : List Value} {E : XK} {x m : Str} {p pos apos : Pos} {e o : Expr} {es : List Expr} {ta : TE} {t : TA}

/-- the callee runs -/
theorem run_fn {pins : List (Addr × Obj)} {σ : St} {H : Hp} {s : Shared} {Q : VK} {us : List Value} {vs : List V} (F : FnOk X.prog X.w X.K X.mg X.base CX k f fd ps sp) (hr : Room k X.A) (hb : Binds X.K fd ps ds) (hd : Vals dvs ds) (hx : Passes CX X E)
    (I : Inv X pins σ H s) (r : Vals vs us) (h : sp (vs ++ dvs) H Q E) : wpAny (model X.prog X.w) X.A (call (.ref f) us) (EP X pins σ Q) X.xe s := by
  have r2 : Vals (vs ++ dvs) (us ++ ds) := r.append hd
  have hl : (us ++ ds).length = ps.length := by rw [← r2.length]; exact F.len _ _ _ _ h
  refine wpAny_call (codeAny_mono (F.run X.A X.stack s H ⟨us, []⟩ (us ++ ds) (vs ++ dvs) Q E hr I.env0 (hb s us I.kIn hl) r2 h) fun r s' hq => ?_)
  cases r with
  | error e => exact hx pins σ H s e s' I hq
  | ok fl =>
    cases fl with
    | ret u => exact I.after hq
    | next => exact False.elim hq
    | brk => exact False.elim hq
    | cont => exact False.elim hq

theorem pe_call (F : FnOk X.prog X.w X.K X.mg X.base CX k f fd ps sp) (hr : Room k X.A) (hg : Gl X x) (hm : X.mg x = some (.ref f)) (hk : PySem.W.keepIn X.K (.ref f) = true) (hb : Binds X.K fd ps ds) (hd : Vals dvs ds) (hx : Passes CX X E)
    (ha : PA X (e :: es) t) (hdb : (x == ("__debug__" : Str)) = false := by decide) (he : starEach (e :: es) X.env = (false, eval e X.env) :: starEach es X.env := by rfl) (hpl : (backTo pos (starEach es X.env)).any (·.1) = false := by rfl) :
    PE X (.Call (.Name x p) (e :: es) [] pos) (tCall sp dvs E t) := by
  intro pins s σ H Q I h
  refine wpAny_Call_Name_kw (ld_glob I hg hm ?_ hdb)
  refine PySem.W.callWith_K (h₀ := X.base) I.ok.mod.kin hk (thn (ha pos pins s σ H _ I h) fun us s1 ⟨vs, H1, I1, r, q⟩ => ⟨I1.kIn, ?_⟩) he hpl
  exact run_fn F hr hb hd hx I1 r q
theorem pe_call0 (F : FnOk X.prog X.w X.K X.mg X.base CX k f fd ps sp) (hr : Room k X.A) (hg : Gl X x) (hm : X.mg x = some (.ref f)) (hk : PySem.W.keepIn X.K (.ref f) = true) (hb : Binds X.K fd ps ds) (hd : Vals dvs ds) (hx : Passes CX X E)
    (hdb : (x == ("__debug__" : Str)) = false := by decide) : PE X (.Call (.Name x p) [] [] pos) (tCall sp dvs E tNil) := by
  intro pins s σ H Q I h
  refine wpAny_Call_Name_kw (ld_glob I hg hm ?_ hdb)
  exact PySem.W.callWith_K0 I.kIn hk (run_fn (us := []) F hr hb hd hx I .nil h)

end

/-! ### keywords -/
section
variable {X : Cx} {CX : CXT} {k : Nat} {f C : Addr} {fd : FuncData} {ps ks : List Str} {sp : Sp} {E : XK} {x m : Str} {p pos apos kpos : Pos} {e o : Expr} {es : List Expr} {kws : List Keyword} {te ta : TE} {t tk : TA} {nm : Option Str}
variable {g : List Value → List Value → List Value} {gV : List V → List V → List V}
end

/-! ### a def's body keeps its promise -/
/-- names: the parameters first -/
structure FnScope (N P : List Str) (sc : Scope) : Prop where
  kind : sc.kind = .function
  co : sc.isCoroutine = false
  gen : sc.isGenerator = false
  nd : N.Nodup
  pre : N.take P.length = P
  par : ∀ x ∈ P, sc.names.lookup x = some .local ∨ sc.names.lookup x = some .cell
  nofree : ∀ y ∈ sc.names, y.2 ≠ .free

theorem bindL_out {kindOf : Str → Option NameKind} {x : Str} : ∀ {binds : List (Str × Value)} {m : Str → Option Value}, (∀ v, (x, v) ∉ binds) → bindL kindOf binds m x = m x
  | [], _, _ => rfl
  | (n, v) :: r, m, h => by
    unfold bindL
    rw [bindL_out fun w hw => h w (List.mem_cons_of_mem _ hw)]
    split
    · have : x ≠ n := by rintro rfl; exact h v List.mem_cons_self
      simp [this]
    · rfl
theorem bindC_out {kindOf : Str → Option NameKind} {x : Str} : ∀ {binds : List (Str × Value)} {m : Str → Option Value}, (∀ v, (x, v) ∉ binds) → bindC kindOf binds m x = m x
  | [], _, _ => rfl
  | (n, v) :: r, m, h => by
    unfold bindC
    rw [bindC_out fun w hw => h w (List.mem_cons_of_mem _ hw)]
    split
    · rfl
    · have : x ≠ n := by rintro rfl; exact h v List.mem_cons_self
      simp [this]
theorem bindL_get {kindOf : Str → Option NameKind} {x : Str} {v : Value} : ∀ {P : List Str} {vs : List Value} {i : Nat} {m : Str → Option Value}, P.Nodup → P[i]? = some x → vs[i]? = some v → kindOf x = some .local →
    bindL kindOf (P.zip vs) m x = some v
  | [], _, _, _, _, h, _, _ => by simp at h
  | _ :: _, [], _, _, _, _, h, _ => by simp at h
  | p :: P, w :: vs, 0, m, nd, h1, h2, hk => by
    simp at h1 h2; subst h1; subst h2
    show bindL kindOf ((p, w) :: P.zip vs) m p = _
    unfold bindL
    rw [bindL_out fun v hv => (List.nodup_cons.mp nd).1 (List.of_mem_zip hv).1, if_pos hk]
    simp
  | p :: P, w :: vs, i + 1, m, nd, h1, h2, hk => by
    show bindL kindOf ((p, w) :: P.zip vs) m x = _
    unfold bindL
    exact bindL_get (i := i) (List.nodup_cons.mp nd).2 (by simpa using h1) (by simpa using h2) hk
theorem bindC_get {kindOf : Str → Option NameKind} {x : Str} {v : Value} : ∀ {P : List Str} {vs : List Value} {i : Nat} {m : Str → Option Value}, P.Nodup → P[i]? = some x → vs[i]? = some v → kindOf x ≠ some .local →
    bindC kindOf (P.zip vs) m x = some v
  | [], _, _, _, _, h, _, _ => by simp at h
  | _ :: _, [], _, _, _, _, h, _ => by simp at h
  | p :: P, w :: vs, 0, m, nd, h1, h2, hk => by
    simp at h1 h2; subst h1; subst h2
    show bindC kindOf ((p, w) :: P.zip vs) m p = _
    unfold bindC
    rw [bindC_out fun v hv => (List.nodup_cons.mp nd).1 (List.of_mem_zip hv).1, if_neg hk]
    simp
  | p :: P, w :: vs, i + 1, m, nd, h1, h2, hk => by
    show bindC kindOf ((p, w) :: P.zip vs) m x = _
    unfold bindC
    exact bindC_get (i := i) (List.nodup_cons.mp nd).2 (by simpa using h1) (by simpa using h2) hk

/-- the names' values at the entry -/
def start (N : List Str) (vs : List V) : St := vs.map some ++ List.replicate (N.length - vs.length) none

/-- the context of a def's body, at its entry; an exception leaves the frame, then lies as CX says -/
def cxOf (CX : CXT) (P : Program) (w : World) (K : PySem.W.Frag) (mg : Str → Option Value) (base : Heap) (N : List Str) (qual : Str) (scope : Scope) (f : Addr) (cd : Value) (A : Around) (outer : List Env) (s : Shared) (H : Hp) (E : XK) : Cx where
  prog := P
  w := w
  K := K
  mg := mg
  base := base
  A := A.deeper (envOfC qual scope s.heap.objs.size f cd)
  N := N
  s₀ := s
  H₀ := H
  env := envOfC qual scope s.heap.objs.size f cd
  outer := outer
  stack := envOfC qual scope s.heap.objs.size f cd :: outer
  ex := []
  calm := true
  fn := fun _ => true
  pn := []
  xe := fun e s' => wpAny (model P w) (A.deeper (envOfC qual scope s.heap.objs.size f cd)) (leaving (envOfC qual scope s.heap.objs.size f cd) e) (fun _ s'' => CX outer H s E e s'') (fun e' s'' => CX outer H s E e' s'') s'

theorem cell_has {sc : Scope} {n : Nat} {x : Str} (h : sc.names.lookup x = some .cell) : ∃ c, (cellsFrom n sc.names []).lookup x = some c := by
  have q := PySem.W.cellsFrom_some sc.names n [] (.inl h)
  exact Option.isSome_iff_exists.mp q

theorem inv_start {CX : CXT} {P : Program} {w : World} {K : PySem.W.Frag} {mg : Str → Option Value} {base : Heap} {N ps : List Str} {qual : Str} {scope : Scope} {f : Addr} {cd : Value} {A : Around} {outer : List Env} {s s1 : Shared} {H : Hp} {E : XK} {us : List Value} {vs : List V}
    (S : FnScope N ps scope) (hd : A.handled = none) (e0 : Env0 P w K mg base A outer s H) (hl : vs.length = ps.length) (r : Vals vs us)
    (x : InCallC s s.heap.objs.size (bindL (envOfC qual scope s.heap.objs.size f cd).kindOf (ps.zip us) fun _ => none) (cellsFrom (s.heap.objs.size + 1) scope.names []) (bindC (envOfC qual scope s.heap.objs.size f cd).kindOf (ps.zip us) fun _ => none) s1) :
    Inv (cxOf CX P w K mg base N qual scope f cd A outer s H E) [] (start N vs) H s1 := by
  have hpl : ps.length ≤ N.length := by have := congrArg List.length S.pre; rw [List.length_take] at this; omega
  obtain ⟨h1, tk, rfl, hk⟩ := x.done
  have noA : ∀ b : Addr, b ∉ (cxOf CX P w K mg base N qual scope f cd A outer s H E).ex := fun b z => absurd (show b ∈ ([] : List Addr) from z) (by simp)
  refine ⟨⟨e0.mod, S.kind, rfl, rfl, Nat.le_refl _, fun y z c h1 h2 => ?_, fun y hy => ?_, fun y c _ h => ?_, fun _ => hd, Around.frames_deeper e0.frames, .inr ⟨rfl, rfl⟩, fun b z => absurd z (noA b), e0.bs, e0.bsz, fun b _ _ => noA b, fun b z => absurd z (noA b), e0.funs, e0.frf⟩,
    rfl, e0.bare, Un.kept hk, ⟨_, x.toInCall.ns, fun i y v h1 h2 h3 => ?_⟩, fun y c h => ⟨_, x.cell y c h⟩, e0.hok.fresh (Nat.le_refl _), fun y c h => ?_, fun p hp => absurd (show p ∈ ([] : List (Addr × Obj)) from hp) (by simp), e0.hok.kept hk, ?_⟩
  · exact name_of_addr x.apart (PySem.mem_of_lookup h1) (PySem.mem_of_lookup h2)
  · have hy : scope.names.lookup y = some .cell ∨ scope.names.lookup y = some .free := hy
    rcases hy with hy | hy
    · exact cell_has hy
    · exact absurd rfl (S.nofree _ (PySem.mem_of_lookup hy))
  · exact Nat.le_of_lt (x.above y c (PySem.mem_of_lookup h))
  · have hi : i < vs.length := by
      unfold start at h2
      by_cases hi : i < vs.length
      · exact hi
      · rw [List.getElem?_append_right (by simpa using hi)] at h2
        rw [List.getElem?_replicate] at h2
        split at h2 <;> cases h2
    have ha : vs[i]? = some v := by
      unfold start at h2
      rw [List.getElem?_append_left (by simpa using hi), List.getElem?_map] at h2
      cases e : vs[i]? with
      | none => rw [e] at h2; cases h2
      | some a => rw [e] at h2; cases h2; rfl
    obtain ⟨u, hu, rv⟩ := r.get ha
    have hp : ps[i]? = some y := by
      rw [← S.pre, List.getElem?_take_of_lt (by omega)]; exact h1
    have ndP : ps.Nodup := by rw [← S.pre]; exact S.nd.sublist (List.take_sublist _ _)
    refine ⟨u, rv, ?_⟩
    rcases S.par y (List.mem_of_getElem? hp) with k | k
    · exact .inl ⟨k, bindL_get ndP hp hu k⟩
    · obtain ⟨c, e⟩ := cell_has (n := s.heap.objs.size + 1) k
      refine .inr ⟨.inl k, c, e, ?_⟩
      have q := x.cell y c e
      rw [bindC_get ndP hp hu (by show scope.names.lookup y ≠ _; rw [k]; decide)] at q
      exact q
  · exact e0.hok.fresh (Nat.le_of_lt (x.above y c (PySem.mem_of_lookup h)))
  · unfold start
    show _ = N.length
    rw [List.length_append, List.length_map, List.length_replicate]
    omega

/-- THE RULE: a def (or a method) of the text, by its body. The body's reading t is chosen for each entry; it is run at the parameters' values -/
theorem fn_of {CX : CXT} {P : Program} {w : World} {K : PySem.W.Frag} {mg : Str → Option Value} {base : Heap} {k : Nat} {f : Addr} {name qual : Str} {params : Arguments} {body : List Stmt} {scope : Scope} {dV kV doc pm cdv ct oc : Value} {an od : Option Addr}
    {osl : Array (Option Value)} {N ps : List Str} {sp : Sp} (lk : K.lookup f = some ⟨oc, od, .func (PySem.W.fnOf name qual params body scope dV kV doc pm an cdv ct), osl⟩) (hcd : PySem.W.codeIn K cdv qual = true) (S : FnScope N ps scope)
    (len : ∀ vs H Q E, sp vs H Q E → vs.length = ps.length)
    (hbody : ∀ (A : Around) (outer : List Env) (s : Shared) (H : Hp) (vs : List V) (Q : VK) (E : XK), Room k (A.deeper (envOfC qual scope s.heap.objs.size f cdv)) → sp vs H Q E →
      ∃ t, PSs (cxOf CX P w K mg base N qual scope f cdv A outer s H E) body t ∧ t { nx := fun _ H' => Q .non H', rt := Q } (start N vs) H) :
    FnOk P w K mg base CX (k + 1) f (PySem.W.fnOf name qual params body scope dV kV doc pm an cdv ct) ps sp := by
  refine ⟨len, fun A outer s H args us vs Q E hr e0 hb r hsp => ?_⟩
  have hl := len _ _ _ _ hsp
  have KX : K.In s.heap := e0.mod.kin.keeps fun b o e => (e0.bs b o e).1
  have lim : s.heap.NoLimit := e0.mod.nolimit.keeps fun b o e => (e0.bs b o e).1
  have hkind : ∀ y ∈ ps.zip us, scope.names.lookup y.1 = some .local ∨ (scope.names.lookup y.1 = some .cell ∧ ((cellsFrom (s.heap.objs.size + 1) scope.names []).lookup y.1).isSome = true) := fun ⟨n, v⟩ hy => by
    rcases S.par n (List.of_mem_zip hy).1 with q | q
    · exact .inl q
    · exact .inr ⟨q, PySem.W.cellsFrom_some _ _ _ (.inl q)⟩
  refine codeAny_call_function hr.depth (KX _ _ lk) rfl S.co S.gen rfl (PySem.W.codeRec_of KX hcd) (hb _ _ _ _ ?_)
  refine wpAny_newFunctionEnv_cells S.kind hkind fun env he s1 x => ?_
  subst he
  refine ⟨lim.keeps x.toInCall.keep, codeAny_func ?_⟩
  obtain ⟨t, ht, hq⟩ := hbody A outer s H vs Q E (hr.deeper _) hsp
  have I : Inv (cxOf CX P w K mg base N qual scope f cdv A outer s H E) [] (start N vs) H s1 := inv_start S hr.hd e0 hl r x
  refine wpAny_mono (ht [] s1 (start N vs) H _ I hq) (fun fl s' hs => ?_) fun e s' hs => hs
  have fin : ∀ {σ' : St} {H' : Hp} {v : V} {u : Value}, Inv (cxOf CX P w K mg base N qual scope f cdv A outer s H E) [] σ' H' s' → RelV v u → Q v H' → CE outer P w H s Q u s' :=
    fun {σ' H' v u} J rv q => ⟨v, H', J.os, J.bare, J.base, J.hok, rv, q⟩
  cases fl with
  | ret u =>
    obtain ⟨v, σ', H', J, rv, q⟩ := hs
    exact fin J rv q
  | next =>
    obtain ⟨σ', H', J, q⟩ := hs
    exact fin (v := V.non) (u := Value.none) J rfl q
  | brk =>
    obtain ⟨_, _, _, q⟩ := hs
    exact False.elim q
  | cont =>
    obtain ⟨_, _, _, q⟩ := hs
    exact False.elim q
end L2

namespace L2
open PySem PySem.Spec PyProof.Rows
section
variable {X : Cx} {x : Str} {p pos : Pos} {e : Expr} {es : List Expr} {t : TA} {id T : String} {r : List V → Hp → VK → Prop}

def tCB (r : List V → Hp → VK → Prop) (t : TA) : TE := fun σ H Q => t σ H fun vs H1 => r vs H1 Q
/-- f(e, ..), f a built-in function -/
theorem pe_callB (hc : CallR X (.builtin id) r) (hg : Gl X x) (hm : X.mg x = none) (hv : bootBuiltins x = some (.builtin id)) (ha : PA X (e :: es) t) (hn : x ≠ "__name__" := by decide) (hdb : (x == ("__debug__" : Str)) = false := by decide)
    (he : starEach (e :: es) X.env = (false, eval e X.env) :: starEach es X.env := by rfl) (hpl : (backTo pos (starEach es X.env)).any (·.1) = false := by rfl) : PE X (.Call (.Name x p) (e :: es) [] pos) (tCB r t) := by
  intro pins s σ H Q I h
  refine wpAny_Call_Name_kw (ld_blt I hg hm hv ?_ hn hdb)
  exact PyProof.Rows.callWith_builtin1 (thn (ha pos pins s σ H _ I h) fun us s1 ⟨vs, H1, I1, r1, q1⟩ => hc pins s1 σ H1 vs us Q I1 r1 q1) he hpl
/-- T(e, ..), T a built-in type -/
theorem pe_callTy (hc : CallR X (.type T) r) (hg : Gl X x) (hm : X.mg x = none) (hv : bootBuiltins x = some (.type T)) (ha : PA X (e :: es) t) (hn : x ≠ "__name__" := by decide) (hdb : (x == ("__debug__" : Str)) = false := by decide)
    (he : starEach (e :: es) X.env = (false, eval e X.env) :: starEach es X.env := by rfl) (hpl : (backTo pos (starEach es X.env)).any (·.1) = false := by rfl) : PE X (.Call (.Name x p) (e :: es) [] pos) (tCB r t) := by
  intro pins s σ H Q I h
  refine wpAny_Call_Name_kw (ld_blt I hg hm hv ?_ hn hdb)
  exact PyProof.Rows.callWith_type1 (thn (ha pos pins s σ H _ I h) fun us s1 ⟨vs, H1, I1, r1, q1⟩ => hc pins s1 σ H1 vs us Q I1 r1 q1) he hpl
end
end L2

namespace HT
open PySem PyProof.Rows

section
open PySem.SeqAt
open PySem.AutoSeq1 (wpAny_loadPart')
open PySem.MeetsSeq PySem.MeetsSeq2 PySem.MeetsSeq3

end

section
variable {prog : Program} {w : World} {A : Around} {E : Value → Shared → Prop} {s : Shared}

/-- t + u, t not empty -/
theorem cat_tup {t b : Addr} {vs ws : List Value} {Q : Value → Shared → Prop} (ht : IsTup s.heap t vs.toArray) (hb : IsTup s.heap b ws.toArray) (hv : vs ≠ [])
    (h1 : ws = [] → Q (.ref t) s) (h2 : ws ≠ [] → Q (.ref s.heap.objs.size) { s with heap := s.heap.push { cls := .type "tuple", data := .seq (vs ++ ws).toArray } })
    (hsz : vs.length + ws.length ≤ sizeLine) : wpAny (model prog w) A (binaryOp .Add (.ref t) (.ref b)) Q E s := by
  obtain ⟨⟨cls, dd, data, sl⟩, ho, hc, n, hd⟩ := id ht
  obtain ⟨⟨cls2, dd2, data2, sl2⟩, ho2, hc2, n2, hd2⟩ := id hb
  simp only at hc hd hc2 hd2
  subst hc hd hc2 hd2
  have e : vs.toArray ++ ws.toArray = (vs ++ ws).toArray := by simp
  by_cases hw : ws = []
  · exact concat_meets ⟨_, ho, rfl⟩ ⟨_, ho2, rfl⟩ noFill_tuple_add seq_tuple_add PySem.F.slot_tuple_add PySem.F.entry_tuple_add (PySem.F.args_tuple_add_2 _ _)
      (tuple_addW1 t b vs.toArray ws.toArray n n2 dd dd2 sl sl2 (by simpa using hv) (by simp [hw])) ⟨ho, ho2, h1 hw⟩
  · refine concat_meets ⟨_, ho, rfl⟩ ⟨_, ho2, rfl⟩ noFill_tuple_add seq_tuple_add PySem.F.slot_tuple_add PySem.F.entry_tuple_add (PySem.F.args_tuple_add_2 _ _)
      (tuple_addW2 t b vs.toArray ws.toArray n n2 dd dd2 sl sl2 (by simpa using hv) (by simpa using hw) (by rw [List.size_toArray, List.size_toArray]; exact hsz)) ⟨ho, ho2, ?_⟩
    rw [e]
    exact h2 hw

/-! ### t[a:b], not the whole -/
/-- a slice's bound as a place among n (d where it is left out) -/
def sIx (n d : Nat) : Option Int → Nat
  | none => d
  | some v => if v < 0 then (v + (n : Int)).toNat else min v.toNat n
theorem sIx_none (n d : Nat) : sIx n d none = d := rfl
theorem sIx_nat (n d k : Nat) : sIx n d (some (k : Int)) = min k n := by
  show (if (k : Int) < 0 then ((k : Int) + (n : Int)).toNat else min (k : Int).toNat n) = min k n
  rw [if_neg (by omega), Int.toNat_natCast]
theorem sIx_le (n d : Nat) (hd : d ≤ n) (o : Option Int) : sIx n d o ≤ n := by
  cases o with
  | none => exact hd
  | some v =>
    show (if v < 0 then (v + (n : Int)).toNat else min v.toNat n) ≤ n
    by_cases hv : v < 0
    · rw [if_pos hv]; omega
    · rw [if_neg hv]; exact Nat.min_le_right _ _
theorem clip_eq (v : Int) (n d : Nat) : (if v < 0 then max (v + (n : Int)) 0 else min v (n : Int)) = ((sIx n d (some v) : Nat) : Int) := by
  show (if v < 0 then max (v + (n : Int)) 0 else min v (n : Int)) = (((if v < 0 then (v + (n : Int)).toNat else min v.toNat n) : Nat) : Int)
  by_cases hv : v < 0
  · simp only [if_pos hv]; omega
  · simp only [if_neg hv]; omega
theorem adjust_gen (lo hi : Option Int) (n : Nat) : Builtin.Slice.sliceAdjust lo hi 1 (n : Int) = (((sIx n 0 lo : Nat) : Int), ((sIx n n hi : Nat) : Int)) := by
  have h1 : ¬ ((1 : Int) < 0) := by omega
  unfold Builtin.Slice.sliceAdjust
  simp only [h1, if_false]
  refine Prod.ext ?_ ?_
  · cases lo with
    | none => rfl
    | some v => exact clip_eq v n 0
  · cases hi with
    | none => rfl
    | some v => exact clip_eq v n n
theorem places_gen (i j : Nat) : Builtin.Slice.slicePlaces (i : Int) (j : Int) 1 = j - i := by
  unfold Builtin.Slice.slicePlaces
  have h1 : (1 : Int) > 0 := by omega
  simp only [h1, if_true, Int.ediv_one]
  split <;> omega
theorem slicePart_ {v : Value} {o : Option Int} {Q : Option Int → Shared → Prop} (p : IsPart v o) (h : Q o s) : wpAny (model prog w) A (Builtin.Slice.slicePartIndex v) Q E s := by
  cases p with
  | none => exact slicePart_none h
  | int i t => exact slicePart_int h
theorem sliceApplied_gen {sl : Addr} {vl vu : Value} {lo hi : Option Int} {n : Nat} {Q : Int × Int × Nat → Shared → Prop} (hs : s.heap.IsSliceOf sl vl vu .none) (pl : IsPart vl lo) (pu : IsPart vu hi)
    (h : Q (((sIx n 0 lo : Nat) : Int), 1, sIx n n hi - sIx n 0 lo) s) : wpAny (model prog w) A (Builtin.Slice.sliceApplied (.ref sl) (pure (n : Int))) Q E s := by
  obtain ⟨os, hos, hcs, hds⟩ := id hs
  unfold Builtin.Slice.sliceApplied Builtin.Slice.sliceFields
  refine wpAny_bind (wpAny_bind (wpAny_field hos hds (x := vl) rfl (wpAny_bind (wpAny_field hos hds (x := vu) rfl (wpAny_bind (wpAny_field hos hds (x := .none) rfl (wpAny_pure ?_)))))))
  refine wpAny_bind (slicePart_none ?_)
  show wpAny _ _ (if ((1 : Int) == 0) = true then _ else _) _ _ s
  rw [if_neg (by decide)]
  refine wpAny_bind (slicePart_ pl (wpAny_bind (slicePart_ pu (wpAny_bind (wpAny_pure ?_)))))
  show wpAny _ _ (match Builtin.Slice.sliceAdjust lo hi 1 (n : Int) with | (lo, hi) => pure (lo, (1 : Int), Builtin.Slice.slicePlaces lo hi 1)) _ _ s
  rw [adjust_gen lo hi n]
  show wpAny _ _ (pure (((sIx n 0 lo : Nat) : Int), (1 : Int), Builtin.Slice.slicePlaces ((sIx n 0 lo : Nat) : Int) ((sIx n n hi : Nat) : Int) 1)) _ _ s
  rw [places_gen]
  exact wpAny_pure h
theorem pick_gen (xs : Array Value) (i k : Nat) : ((List.range k).filterMap fun (m : Nat) => xs[((i : Int) + (m : Int) * 1).toNat]?).toArray = ((xs.toList.drop i).take k).toArray := by
  have e : (fun (m : Nat) => xs[((i : Int) + (m : Int) * 1).toNat]?) = fun m => xs[i + m]? := by
    funext m
    have : ((i : Int) + (m : Int) * 1).toNat = i + m := by omega
    rw [this]
  rw [e]
  have := pick_run xs i k
  rw [List.filterMap_map] at this
  have e2 : ((fun x => xs[x]?) ∘ fun x => i + x) = fun m => xs[i + m]? := rfl
  rw [e2] at this
  rw [this]

theorem getItem_tuple_cut {t sl : Addr} {items : Array Value} {vl vu : Value} {lo hi : Option Int} {Q : Value → Shared → Prop} (ht : IsTup s.heap t items) (hs : s.heap.IsSliceOf sl vl vu .none) (pl : IsPart vl lo) (pu : IsPart vu hi)
    (hw : ¬ (sIx items.size 0 lo = 0 ∧ sIx items.size items.size hi = items.size))
    (h : Q (.ref s.heap.objs.size) { s with heap := s.heap.push { cls := .type "tuple", data := .seq ((items.toList.drop (sIx items.size 0 lo)).take (sIx items.size items.size hi - sIx items.size 0 lo)).toArray } })
    (hsz : items.size ≤ sizeLine) : wpAny (model prog w) A (getItem (.ref t) (.ref sl)) Q E s := by
  have htake : sizeOk (.seq ((items.toList.drop (sIx items.size 0 lo)).take (sIx items.size items.size hi - sIx items.size 0 lo)).toArray) := by
    show ((items.toList.drop (sIx items.size 0 lo)).take (sIx items.size items.size hi - sIx items.size 0 lo)).toArray.size ≤ sizeLine
    rw [List.size_toArray, List.length_take, List.length_drop, Array.length_toList]
    omega
  have hj : sIx items.size items.size hi ≤ items.size := sIx_le _ _ (Nat.le_refl _) hi
  obtain ⟨os, hos, hcs, hds⟩ := id hs
  have hTs : s.TypeIs (.ref sl) "slice" := ⟨os, hos, hcs⟩
  unfold getItem
  try with_reducible refine wpAny_holding ?_
  first | refine wpAny_bind (wpAny_pure ?_) | skip
  refine wpAny_bind (wpAny_sequenceKey ht.typeIs (by decide) ?_)
  refine wpAny_bind (wpAny_callSpecial?_slot (name := Str.ofString "__getitem__") ht.typeIs PyProof.Rows.slot_tuple_getitem
    (wpAny_call_entry PyProof.Rows.slot_tuple_getitem ht.typeIs entry_tuple_getitem ?_ (args_tuple_getitem _ _)))
  show wpAny _ _ (Builtin.Tuple.tupleItemsOf (.ref t) >>= _) _ _ s
  refine wpAny_bind (tupleItemsOf_ ht ?_)
  refine wpAny_bind (wpAny_typeOf hTs ?_)
  rw [if_pos (by decide)]
  refine wpAny_bind (sliceApplied_gen hs pl pu ?_)
  have hno : ¬ ((((sIx items.size 0 lo : Nat) : Int) == 0 && (1 : Int) == 1 && (sIx items.size items.size hi - sIx items.size 0 lo) == items.size) = true) := by
    intro q
    rw [Bool.and_eq_true, Bool.and_eq_true] at q
    have q1 : ((sIx items.size 0 lo : Nat) : Int) = 0 := eq_of_beq q.1.1
    have q2 : sIx items.size items.size hi - sIx items.size 0 lo = items.size := eq_of_beq q.2
    exact hw ⟨by omega, by omega⟩
  show wpAny _ _ (if (((sIx items.size 0 lo : Nat) : Int) == 0 && (1 : Int) == 1 && (sIx items.size items.size hi - sIx items.size 0 lo) == items.size) = true then _ else _) _ _ s
  rw [if_neg hno, pick_gen]
  first
    | exact wpAny_bind (m := Builtin.Tuple.tupleExact _) (wpAny_newObj_type (wpAny_pure ⟨_, rfl, wpAny_pure h⟩) htake)
    | exact wpAny_bind (m := Builtin.Tuple.tupleExact _) (wpAny_newObj_type (wpAny_bind (wpAny_pure (wpAny_pure ⟨_, rfl, wpAny_pure h⟩))) htake)
    | exact wpAny_bind (wpAny_bind (m := Builtin.Tuple.tupleExact _) (wpAny_newObj_type (wpAny_pure (wpAny_pure ⟨_, rfl, wpAny_pure h⟩)) htake))
    | exact wpAny_bind (wpAny_bind (m := Builtin.Tuple.tupleExact _) (wpAny_newObj_type (wpAny_pure ⟨_, rfl, wpAny_pure h⟩) htake))
end
end HT

namespace L2
open PySem PySem.Spec PyProof.Rows

/-! ### the parts of a slice -/
abbrev TO := St → Hp → (Option Int → Hp → Prop) → Prop
/-- a slice's part (left out, or an int) -/
def PO (X : Cx) (e : Option Expr) (t : TO) : Prop :=
  ∀ (pins : List (Addr × Obj)) (s : Shared) (σ : St) (H : Hp) (Q : Option Int → Hp → Prop), Inv X pins σ H s → t σ H Q →
    wpAny (model X.prog X.w) X.A (evalPart e X.env) (fun u s' => ∃ o H', Inv X pins σ H' s' ∧ IsPart u o ∧ Q o H') X.xe s
def tNoPart : TO := fun _ H Q => Q none H
def tPart (t : TE) : TO := fun σ H Q => t σ H fun x H1 => ∃ i, x = .int i ∧ Q (some i) H1

section
variable {X : Cx} {e : Expr} {te : TE} {lo hi : Option Expr} {tl th : TO} {pos p2 : Pos}

theorem po_none : PO X none tNoPart := by
  intro pins s σ H Q I h
  rw [evalPart_none]
  exact wpAny_pure ⟨none, H, I, .none, h⟩
theorem po_some (h : PE X e te) : PO X (some e) (tPart te) := by
  intro pins s σ H Q I hw
  rw [evalPart_some]
  refine thn (h pins s σ H _ I hw) fun u s1 ⟨x, H1, I1, r1, q1⟩ => ?_
  obtain ⟨i, rfl, q⟩ := q1
  obtain ⟨t, rfl⟩ := r1
  exact ⟨some i, H1, I1, .int i t, q⟩

/-- what a slice of a value is, by values: the slice object stands at sl -/
def SlR (X : Cx) (r : V → Option Int → Option Int → Hp → VK → Prop) : Prop :=
  ∀ (pins : List (Addr × Obj)) (s : Shared) (σ : St) (H : Hp) (x : V) (v vl vu : Value) (lo hi : Option Int) (sl : Addr) (Q : VK), Inv X pins σ H s → RelV x v → s.heap.IsSliceOf sl vl vu .none → IsPart vl lo → IsPart vu hi → r x lo hi H Q →
    ∃ T id, typeLookup (.type T) "__getitem__" = pure (some (.builtin id)) ∧ s.TypeIs v T ∧ wpAny (model X.prog X.w) X.A (getItem v (.ref sl)) (EP X pins σ Q) X.xe s
def tSl (r : V → Option Int → Option Int → Hp → VK → Prop) (te : TE) (tl th : TO) : TE := fun σ H Q => te σ H fun x H1 => tl σ H1 fun l H2 => th σ H2 fun u H3 => r x l u H3 Q
/-- a[lo:hi], any a -/
theorem pe_slice {r : V → Option Int → Option Int → Hp → VK → Prop} (hr : SlR X r) (he : PE X e te) (hl : PO X lo tl) (hu : PO X hi th) : PE X (.Subscript e (.Slice lo hi none p2) pos) (tSl r te tl th) := by
  intro pins s σ H Q I h
  refine Subscript_ (thn (he pins s σ H _ I h) fun v s1 ⟨x, H1, I1, r1, q1⟩ => ?_)
  refine wpAny_Slice (thn (hl pins s1 σ H1 _ I1 q1) fun vl s2 ⟨l, H2, I2, pl, q2⟩ => thn (hu pins s2 σ H2 _ I2 q2) fun vu s3 ⟨u, H3, I3, pu, q3⟩ => ?_)
  rw [evalPart_none]
  refine wpAny_pure ?_
  have I4 : Inv X pins σ H3 { s3 with heap := s3.heap.push { cls := .type "slice", data := .fields #[vl, vu, .none] } } := I3.kept (t' := s3.toks) fun b ob q => Heap.get?_push_of_some _ q
  obtain ⟨T, id, hT, ht, hg⟩ := hr pins { s3 with heap := s3.heap.push { cls := .type "slice", data := .fields #[vl, vu, .none] } } σ H3 x v vl vu l u s3.heap.objs.size Q I4 r1 (Heap.IsSliceOf.new ..) pl pu q3
  show wpAny (model X.prog X.w) X.A (subscriptTail e (.Slice lo hi none p2) v (.ref s3.heap.objs.size)) (EP X pins σ Q) X.xe { s3 with heap := s3.heap.push { cls := .type "slice", data := .fields #[vl, vu, .none] } }
  exact tail_any (ops := [.ref s3.heap.objs.size, v]) ht hT hg (by with_unfolding_all rfl)

/-- the items of xs[lo:hi] -/
def cutV (xs : List V) (lo hi : Option Int) : List V := (xs.drop (HT.sIx xs.length 0 lo)).take (HT.sIx xs.length xs.length hi - HT.sIx xs.length 0 lo)
theorem cutV_length (xs : List V) (lo hi : Option Int) : (cutV xs lo hi).length ≤ xs.length := by
  unfold cutV
  rw [List.length_take, List.length_drop]
  omega
/-- t[lo:hi], not the whole of it (the whole would be t itself) -/
def rSlT (K : PySem.W.Frag) : V → Option Int → Option Int → Hp → VK → Prop := fun x lo hi H Q => ∃ a xs, x = .ref a ∧ SqT K H a xs ∧
  ¬ (HT.sIx xs.length 0 lo = 0 ∧ HT.sIx xs.length xs.length hi = xs.length) ∧ ∀ p, H p = none → Q (.ref p) (upd H p (.tup (cutV xs lo hi)))
theorem sl_tup : SlR X (rSlT X.K) := by
  intro pins s σ H x v vl vu lo hi sl Q I rx hs pl pu h
  obtain ⟨a, xs, rfl, hx, hw, q⟩ := h
  cases rx
  obtain ⟨its, r, ht, hz⟩ := I.tuple hx
  have hlen : its.toArray.size = xs.length := by rw [List.size_toArray]; exact r.length.symm
  refine ⟨"tuple", _, PyProof.Rows.slot_tuple_getitem.lookup, ht.typeIs, ?_⟩
  refine HT.getItem_tuple_cut ht hs pl pu (by rw [hlen]; exact hw) ?_ (by rw [hlen]; exact hz)
  rw [hlen]
  refine ⟨.ref s.heap.objs.size, _, I.laid (t' := s.toks) (o := .tup (cutV xs lo hi)) (fun b ob q => Heap.get?_push_of_some _ q) (Nat.le_refl _) ?_, rfl, q _ (I.hok.fresh (Nat.le_refl _))⟩
  exact ⟨Nat.le_trans (cutV_length xs lo hi) hz, _, (r.drop (HT.sIx xs.length 0 lo)).take (HT.sIx xs.length xs.length hi - HT.sIx xs.length 0 lo), IsTupX.new _ _⟩

/-! ### t < u, t + u -/
/-- t + u, t not empty: u empty gives t itself -/
def rCatT (K : PySem.W.Frag) : R2 := fun x y H Q => ∃ a b xs ys, x = .ref a ∧ y = .ref b ∧ SqT K H a xs ∧ SqT K H b ys ∧ xs ≠ [] ∧ xs.length + ys.length ≤ sizeLine ∧
  (ys = [] → Q (.ref a) H) ∧ (ys ≠ [] → ∀ p, H p = none → Q (.ref p) (upd H p (.tup (xs ++ ys))))
theorem Vals.nil_iff {xs : List V} {us : List Value} (r : Vals xs us) : us = [] ↔ xs = [] := by
  cases r with
  | nil => simp
  | cons _ _ => simp
theorem op_catT : OpR X (binaryOp .Add) (rCatT X.K) := by
  intro pins s σ H x y v u Q I rx ry h
  obtain ⟨a, b, xs, ys, rfl, rfl, ha, hb, hx, hz, q1, q2⟩ := h
  cases rx
  cases ry
  obtain ⟨its, r1, p1, _⟩ := I.tuple ha
  obtain ⟨its2, r2, p2, _⟩ := I.tuple hb
  refine HT.cat_tup p1 p2 (fun z => hx (r1.nil_iff.mp z)) (fun z => ⟨.ref a, H, I, rfl, q1 (r2.nil_iff.mp z)⟩) (fun z => ?_) (by rw [← r1.length, ← r2.length]; exact hz)
  refine ⟨.ref s.heap.objs.size, _, I.laid (t' := s.toks) (o := .tup (xs ++ ys)) (fun b ob q => Heap.get?_push_of_some _ q) (Nat.le_refl _) ?_, rfl, q2 (fun w => z (r2.nil_iff.mpr w)) _ (I.hok.fresh (Nat.le_refl _))⟩
  exact ⟨by rw [List.length_append]; exact hz, _, r1.append r2, IsTupX.new _ _⟩
end
end L2

namespace L2
open PySem PySem.Spec PyProof.Rows

/-! ### places -/
/-- the place that an index of any sign means -/
def ixN (n : Nat) (i : Int) : Option Nat := if 0 ≤ i then (if i < n then some i.toNat else none) else if -(n : Int) ≤ i then some (i + n).toNat else none
def atI {α : Type} (xs : List α) (i : Int) : Option α := (ixN xs.length i).bind fun j => xs[j]?
theorem ixN_seq {n : Nat} {i : Int} {j : Nat} (h : ixN n i = some j) : seqIndex? i n = some j ∧ j < n ∧ -(n : Int) ≤ i ∧ i < n := by
  unfold ixN at h
  by_cases h0 : 0 ≤ i
  · rw [if_pos h0] at h
    by_cases h1 : i < n
    · rw [if_pos h1] at h
      have e : i.toNat = j := Option.some.inj h
      exact ⟨by rw [seqIndex_of h0 h1, e], by omega, by omega, h1⟩
    · rw [if_neg h1] at h; cases h
  · rw [if_neg h0] at h
    by_cases h1 : -(n : Int) ≤ i
    · rw [if_pos h1] at h
      have e : (i + n).toNat = j := Option.some.inj h
      exact ⟨by rw [seqIndex_neg (by omega) h1, e], by omega, h1, by omega⟩
    · rw [if_neg h1] at h; cases h
theorem atI_get {α : Type} {xs : List α} {i : Int} {v : α} (h : atI xs i = some v) : ∃ j, seqIndex? i xs.length = some j ∧ xs[j]? = some v ∧ j < xs.length ∧ -(xs.length : Int) ≤ i ∧ i < xs.length := by
  unfold atI at h
  cases e : ixN xs.length i with
  | none => rw [e] at h; cases h
  | some j =>
    rw [e] at h
    obtain ⟨h1, h2, h3, h4⟩ := ixN_seq e
    exact ⟨j, h1, h, h2, h3, h4⟩
theorem atI_nat {α : Type} {xs : List α} {j : Nat} {v : α} (h : xs[j]? = some v) : atI xs (j : Int) = some v := by
  have hj : j < xs.length := (List.getElem?_eq_some_iff.mp h).1
  have e : ixN xs.length (j : Int) = some j := by
    unfold ixN
    rw [if_pos (by omega), if_pos (by omega)]; simp
  unfold atI; rw [e]; exact h
theorem atI_last {α : Type} (xs : List α) (v : α) : atI (xs ++ [v]) (-1) = some v := by
  have hl : (xs ++ [v]).length = xs.length + 1 := by simp
  have e : ixN (xs ++ [v]).length (-1) = some xs.length := by
    unfold ixN
    rw [hl, if_neg (by decide), if_pos (by omega)]
    congr 1
    omega
  unfold atI
  rw [e]
  show (xs ++ [v])[xs.length]? = some v
  simp

/-! ### what may be subscripted -/
/-- what stands as an index of a plain subscript -/
def PlainIx (b : Expr) : Prop := ∀ o i, subscripted b false o i = operate [o, i] (getItem o i)
/-- a subscript by values -/
def IxR (X : Cx) (r : R2) : Prop :=
  ∀ (value slice : Expr) (pins : List (Addr × Obj)) (s : Shared) (σ : St) (H : Hp) (x y : V) (v u : Value) (Q : VK), Inv X pins σ H s → RelV x v → RelV y u → r x y H Q →
    subscripted slice false v u = operate [v, u] (getItem v u) → wpAny (model X.prog X.w) X.A (subscriptTail value slice v u) (EP X pins σ Q) X.xe s
/-- a call of a builtin's method by values: the receiver, the arguments -/
def MtR (X : Cx) (id : String) (r : V → List V → Hp → VK → Prop) : Prop :=
  ∀ (pins : List (Addr × Obj)) (s : Shared) (σ : St) (H : Hp) (x : V) (xs : List V) (v : Value) (us : List Value) (Q : VK), Inv X pins σ H s → RelV x v → Vals xs us → r x xs H Q →
    wpAny (model X.prog X.w) X.A (call (.builtin id) (v :: us)) (EP X pins σ Q) X.xe s
section
variable {X : Cx} {a b : Expr} {ta tb : TE} {pos : Pos}
/-- a[b] -/
theorem pe_ix {r : R2} (hr : IxR X r) (ha : PE X a ta) (hb : PE X b tb) (hs : PlainIx b) : PE X (.Subscript a b pos) (tOp r ta tb) := by
  intro pins s σ H Q I h
  exact Subscript_ (binT ha hb I h fun v u s2 x y H2 I2 rx ry q => hr a b pins s2 σ H2 x y v u Q I2 rx ry q (hs _ _))

def rIxL (K : PySem.W.Frag) : R2 := fun x y H Q => ∃ p xs i v, x = .ref p ∧ y = .int i ∧ SqL K H p xs ∧ atI xs i = some v ∧ Q v H
def rIxT (K : PySem.W.Frag) : R2 := fun x y H Q => ∃ p xs i v, x = .ref p ∧ y = .int i ∧ SqT K H p xs ∧ atI xs i = some v ∧ Q v H
def rIxS : R2 := fun x y H Q => ∃ z i c, x = .str z ∧ y = .int i ∧ z.length ≤ sizeLine ∧ atI z.cps.toList i = some c ∧ Q (.str ⟨#[c]⟩) H
theorem ix_list : IxR X (rIxL X.K) := by
  intro value slice pins s σ H x y v u Q I rx ry h hs
  obtain ⟨p, xs, i, z, rfl, rfl, hq, he, q⟩ := h
  cases rx
  obtain ⟨t, rfl⟩ := ry
  obtain ⟨its, r, pl, hz⟩ := I.list hq
  obtain ⟨j, h1, h2, h3, h4, h5⟩ := atI_get he
  obtain ⟨w, ew, rw'⟩ := r.get h2
  have hl := r.length
  have hn := line63
  have fin : EP X pins σ Q w s := ⟨z, H, I, rw', q⟩
  by_cases h0 : 0 ≤ i
  · have hj : i.toNat = j := by
      rw [seqIndex_of h0 h5] at h1
      exact Option.some.inj h1
    exact item_listR pl.isList h0 (by omega) (by rw [hj]; simpa using ew) fin hs
  · have hj : (i + (its.toArray.size : Int)).toNat = j := by
      rw [seqIndex_neg (by omega) h4] at h1
      rw [List.size_toArray, ← hl]
      exact Option.some.inj h1
    exact subscriptTail_builtinR (x := w) pl.isList.typeIs slot_list_getitem.lookup
      (wpAny_getItem_list_neg (Q := fun r s' => r = w ∧ EP X pins σ Q r s') pl.isList (by omega) (by rw [List.size_toArray] <;> omega) (by omega) (by rw [hj]; simpa using ew) ⟨rfl, fin⟩) hs
theorem ix_tup : IxR X (rIxT X.K) := by
  intro value slice pins s σ H x y v u Q I rx ry h hs
  obtain ⟨p, xs, i, z, rfl, rfl, hq, he, q⟩ := h
  cases rx
  obtain ⟨t, rfl⟩ := ry
  obtain ⟨its, r, pl, hz⟩ := I.tuple hq
  obtain ⟨j, h1, h2, h3, h4, h5⟩ := atI_get he
  obtain ⟨w, ew, rw'⟩ := r.get h2
  have hl := r.length
  have hn := line63
  have fin : EP X pins σ Q w s := ⟨z, H, I, rw', q⟩
  exact subscriptTail_builtinR (x := w) pl.typeIs slot_tuple_getitem.lookup
    (getItem_tuple (j := j) (Q := fun r s' => r = w ∧ EP X pins σ Q r s') pl (by omega) (by omega) (by rw [List.size_toArray, ← hl]; exact h1) (by simpa using ew) ⟨rfl, fin⟩) hs
theorem ix_str : IxR X rIxS := by
  intro value slice pins s σ H x y v u Q I rx ry h hs
  obtain ⟨z, i, c, rfl, rfl, hz, he, q⟩ := h
  obtain ⟨t, rfl⟩ := rx
  obtain ⟨t', rfl⟩ := ry
  obtain ⟨j, h1, h2, h3, h4, h5⟩ := atI_get he
  have hl : z.cps.toList.length = z.length := by simp [Str.length]
  rw [hl] at h1 h4 h5
  have hn := line63
  exact tail_any (typeIs_str s z t) slot_str_getitem.lookup (getItem_str (c := c) (by
    have e1 : decide (i < -(2 ^ 63 : Int)) = false := decide_eq_false (by omega)
    have e2 : decide (i ≥ 2 ^ 63) = false := decide_eq_false (by omega)
    rw [e1, e2, Bool.or_false]) (by rw [h1]; simpa using h2) ⟨.str ⟨#[c]⟩, H, I.tok _, ⟨_, rfl⟩, q⟩) hs
/-! ### xs[i] = v, any sign -/
/-- the list's object behind a store -/
theorem mapSeq_set (its : List Value) (n j : Nat) (u : Value) : Obj.mapSeq (·.setIfInBounds j u) { cls := .type "list", data := .seq its.toArray n } = { cls := .type "list", data := .seq (its.set j u).toArray n } := by
  simp [Obj.mapSeq]
theorem Inv.lst {pins : List (Addr × Obj)} {σ : St} {H : Hp} {s : Shared} {p : Addr} {xs : List V} (I : Inv X pins σ H s) (h : H p = some (.lst xs)) :
    ∃ (its : List Value) (n : Nat), Vals xs its ∧ s.heap.get? p = some { cls := .type "list", data := .seq its.toArray n } ∧ xs.length ≤ sizeLine := by
  obtain ⟨z, its, n, r, e⟩ := I.hok p _ h
  exact ⟨its, n, r, e, z⟩
/-- the list at p is written by an update of its object -/
theorem Inv.lstUpd {pins : List (Addr × Obj)} {σ : St} {H : Hp} {s : Shared} {p : Addr} {xs ys : List V} {its its' : List Value} {n n' : Nat} {f : Obj → Obj} (I : Inv X pins σ H s) (h : H p = some (.lst xs))
    (ho : s.heap.get? p = some { cls := .type "list", data := .seq its.toArray n }) (hf : f { cls := .type "list", data := .seq its.toArray n } = { cls := .type "list", data := .seq its'.toArray n' }) (r : Vals ys its') (hz : ys.length ≤ sizeLine) (t : Nat) :
    Inv X pins σ (upd H p (.lst ys)) { s with heap := s.heap.update p f, toks := t } := by
  have e : (s.heap.update p f).get? p = some { cls := .type "list", data := .seq its'.toArray n' } := by
    rw [Heap.get?_update_self f ho (by rw [hf] <;> rfl), hf]
  refine I.write (x := p) (e := p) (by rw [h]; trivial) (.inl rfl) (fun b u hb q => (Heap.get?_update_other _ _ (Ne.symm hb)).trans q) ⟨_, e⟩ ?_
  exact ⟨hz, its', n', r, e⟩
def rSetL : V → V → V → Hp → (Hp → Prop) → Prop := fun o i v H Q => ∃ p xs k j, o = .ref p ∧ i = .int k ∧ H p = some (.lst xs) ∧ ixN xs.length k = some j ∧ Q (upd H p (.lst (xs.set j v)))
theorem set_list : PSet X rSetL := by
  intro pins s σ H o i v ov iv u Q I ro ri rv h
  obtain ⟨p, xs, k, j, rfl, rfl, hp, hj, q⟩ := h
  cases ro
  obtain ⟨t, rfl⟩ := ri
  obtain ⟨its, n, r, ho, hz⟩ := I.lst hp
  obtain ⟨h1, h2, h3, h4⟩ := ixN_seq hj
  have hl := r.length
  have hn := line63
  have I' : Inv X pins σ (upd H p (.lst (xs.set j v))) { s with heap := s.heap.update p (Obj.mapSeq (·.setIfInBounds j u)) } :=
    I.lstUpd hp ho (mapSeq_set its n j u) (r.set rv j) (by rw [List.length_set]; exact hz) s.toks
  by_cases h0 : 0 ≤ k
  · have hk : k.toNat = j := by
      rw [seqIndex_of h0 h4] at h1
      exact Option.some.inj h1
    exact PySem.W.ki_setAt ho h0 (by omega) (by rw [List.size_toArray, ← hl]; exact h4) (by rw [hk]; exact ⟨_, I', q⟩)
  · have hk : (k + (its.toArray.size : Int)).toNat = j := by
      rw [seqIndex_neg (by omega) h3] at h1
      rw [List.size_toArray, ← hl]
      exact Option.some.inj h1
    exact PySem.W.ki_setBack ho (by omega) (by rw [List.size_toArray, ← hl]; exact h3) (by omega) (by rw [hk]; exact ⟨_, I', q⟩)

/-! ### slices -/
theorem slice_bounds (lo hi : Option Int) (n : Nat) : (sliceBounds lo hi none n).1 = ((HT.sIx n 0 lo : Nat) : Int) ∧ (sliceBounds lo hi none n).2.1 = ((HT.sIx n n hi : Nat) : Int) ∧ (sliceBounds lo hi none n).2.2 = 1 := by
  refine ⟨?_, ?_, rfl⟩
  · cases lo with
    | none => simp [sliceBounds, HT.sIx]
    | some i =>
      simp only [sliceBounds, HT.sIx, Option.getD_none, show (1 : Int) > 0 by decide, if_true]
      by_cases h : i < 0
      · simp only [h, if_true] <;> omega
      · simp only [h, if_false] <;> omega
  · cases hi with
    | none => simp [sliceBounds, HT.sIx]
    | some i =>
      simp only [sliceBounds, HT.sIx, Option.getD_none, show (1 : Int) > 0 by decide, if_true]
      by_cases h : i < 0
      · simp only [h, if_true] <;> omega
      · simp only [h, if_false] <;> omega
theorem slicePick_cut (its : List Value) (lo hi : Option Int) : slicePick its.toArray lo hi none = ((its.drop (HT.sIx its.length 0 lo)).take (HT.sIx its.length its.length hi - HT.sIx its.length 0 lo)).toArray := by
  obtain ⟨h1, h2, h3⟩ := slice_bounds lo hi its.toArray.size
  unfold slicePick
  rw [h1, h2, h3]
  simp only [sliceRange_one, pick_run, List.size_toArray] <;> rfl
/-- xs[lo:hi] of a list: a new list -/
def rSlL (K : PySem.W.Frag) : V → Option Int → Option Int → Hp → VK → Prop := fun x lo hi H Q => ∃ a xs, x = .ref a ∧ SqL K H a xs ∧ ∀ p, H p = none → Q (.ref p) (upd H p (.lst (cutV xs lo hi)))
theorem sl_list : SlR X (rSlL X.K) := by
  intro pins s σ H x v vl vu lo hi sl Q I rx hs pl pu h
  obtain ⟨a, xs, rfl, hx, q⟩ := h
  cases rx
  obtain ⟨its, r, ht, hz⟩ := I.list hx
  have hlen := r.length
  refine ⟨"list", _, slot_list_getitem.lookup, ht.isList.typeIs, ?_⟩
  refine wpAny_getItem_list_slice ht.isList hs pl pu .none (by simp) ?_ (by rw [List.size_toArray] <;> omega)
  rw [slicePick_cut, ← hlen]
  refine ⟨.ref s.heap.objs.size, _, I.laid (t' := s.toks) (o := .lst (cutV xs lo hi)) (fun b ob q => Heap.get?_push_of_some _ q) (Nat.le_refl _) ?_, rfl, q _ (I.hok.fresh (Nat.le_refl _))⟩
  exact ⟨Nat.le_trans (cutV_length xs lo hi) hz, _, 0, (r.drop (HT.sIx xs.length 0 lo)).take (HT.sIx xs.length xs.length hi - HT.sIx xs.length 0 lo), Heap.get?_push_size _ rfl⟩

/-! ### in, not in: flat items -/
def flatV : V → Bool
  | .non => true
  | .bl _ => true
  | .int _ => true
  | .str _ => true
  | _ => false
/-- == of flat values -/
def eqV : V → V → Bool
  | .non, .non => true
  | .bl a, .bl b => a == b
  | .bl a, .int b => (if a then 1 else 0) == b
  | .int a, .bl b => a == (if b then 1 else 0)
  | .int a, .int b => a == b
  | .str a, .str b => a == b
  | _, _ => false
theorem eqAt_V {A : Around} {s : Shared} {y x : V} {u v : Value} (ry : RelV y u) (rx : RelV x v) (fy : flatV y = true) (fx : flatV x = true) : SeqAt.EqAt A s u v (eqV y x) := by
  cases y with
  | non =>
    cases ry
    cases x with
    | non => cases rx; exact SeqAt.EqAt.same _
    | bl b => cases rx; exact SeqAt.EqAt.none_bool b
    | int b => obtain ⟨t, rfl⟩ := rx; exact SeqAt.EqAt.none_int b t
    | str b => obtain ⟨t, rfl⟩ := rx; exact SeqAt.EqAt.none_str b t
    | _ => exact absurd (show false = true from fx) Bool.false_ne_true
  | bl a =>
    cases ry
    cases x with
    | non => cases rx; exact SeqAt.EqAt.bool_none a
    | bl b => cases rx; exact SeqAt.EqAt.bool_bool a b
    | int b => obtain ⟨t, rfl⟩ := rx; exact SeqAt.EqAt.bool_int a b t
    | str b => obtain ⟨t, rfl⟩ := rx; exact SeqAt.EqAt.bool_str a b t
    | _ => exact absurd (show false = true from fx) Bool.false_ne_true
  | int a =>
    obtain ⟨t', rfl⟩ := ry
    cases x with
    | non => cases rx; exact SeqAt.EqAt.int_none a t'
    | bl b => cases rx; exact SeqAt.EqAt.int_bool a t' b
    | int b => obtain ⟨t, rfl⟩ := rx; exact SeqAt.EqAt.int_int a t' b t
    | str b => obtain ⟨t, rfl⟩ := rx; exact SeqAt.EqAt.int_str a t' b t
    | _ => exact absurd (show false = true from fx) Bool.false_ne_true
  | str a =>
    obtain ⟨t', rfl⟩ := ry
    cases x with
    | non => cases rx; exact SeqAt.EqAt.str_none a t'
    | bl b => cases rx; exact SeqAt.EqAt.str_bool a t' b
    | int b => obtain ⟨t, rfl⟩ := rx; exact SeqAt.EqAt.str_int a t' b t
    | str b => obtain ⟨t, rfl⟩ := rx; exact SeqAt.EqAt.str_str a t' b t
    | _ => exact absurd (show false = true from fx) Bool.false_ne_true
  | _ => exact absurd (show false = true from fy) Bool.false_ne_true
/-- the items' answers, read off the values (a value's own answer does not lean on its token) -/
def eqU (x : V) (u : Value) : Bool := match u with
  | .none => eqV .non x
  | .bool b => eqV (.bl b) x
  | .int i _ => eqV (.int i) x
  | .str z _ => eqV (.str z) x
  | _ => false
theorem eqU_of {x y : V} {u : Value} (r : RelV y u) (f : flatV y = true) : eqU x u = eqV y x := by
  cases y with
  | non => cases r; rfl
  | bl b => cases r; rfl
  | int i => obtain ⟨t, rfl⟩ := r; rfl
  | str z => obtain ⟨t, rfl⟩ := r; rfl
  | _ => exact absurd (show false = true from f) Bool.false_ne_true
theorem any_eqU {x : V} : ∀ {xs : List V} {us : List Value}, Vals xs us → xs.all flatV = true → us.any (eqU x) = xs.any fun y => eqV y x
  | _, _, .nil, _ => rfl
  | y :: xs, u :: us, .cons r t, f => by
    rw [List.all_cons, Bool.and_eq_true] at f
    rw [List.any_cons, List.any_cons, eqU_of r f.1, any_eqU t f.2]
theorem mem_eqAt {A : Around} {s : Shared} {x : V} {v : Value} (rx : RelV x v) (fx : flatV x = true) : ∀ {xs : List V} {us : List Value}, Vals xs us → xs.all flatV = true → ∀ u ∈ us, SeqAt.EqAt A s u v (eqU x u)
  | _, _, .nil, _ => fun u hu => by cases hu
  | y :: xs, u :: us, .cons r t, f => fun u' hu => by
    rw [List.all_cons, Bool.and_eq_true] at f
    rcases List.mem_cons.mp hu with rfl | hu
    · rw [eqU_of r f.1]; exact eqAt_V r rx f.1 fx
    · exact mem_eqAt rx fx t f.2 u' hu
def inV (x : V) (xs : List V) : Bool := xs.any fun y => eqV y x
/-- x in a list or tuple of flat items -/
def rIn (K : PySem.W.Frag) (neg : Bool) : R2 := fun x y H Q => ∃ p xs, y = .ref p ∧ (SqL K H p xs ∨ SqT K H p xs) ∧ flatV x = true ∧ xs.all flatV = true ∧ Q (.bl (if neg then !inV x xs else inV x xs)) H
theorem op_in_seq : OpR X (compareOp .In) (rIn X.K false) := by
  intro pins s σ H x y v u Q I rx ry h
  obtain ⟨p, xs, rfl, hq, fx, fs, q⟩ := h
  cases ry
  rcases hq with hq | hq
  · obtain ⟨its, r, pl, hz⟩ := I.list hq
    refine SeqAt.in_listAt (eqU x) pl.isList (fun w hw => mem_eqAt rx fx r fs w (by simpa using hw)) ⟨.bl _, H, I, rfl, ?_⟩
    rw [show its.toArray.any (eqU x) = its.any (eqU x) by simp, any_eqU r fs]
    exact q
  · obtain ⟨its, r, pl, hz⟩ := I.tuple hq
    refine SeqAt.in_tupleAt (eqU x) pl (fun w hw => mem_eqAt rx fx r fs w (by simpa using hw)) ⟨.bl _, H, I, rfl, ?_⟩
    rw [show its.toArray.any (eqU x) = its.any (eqU x) by simp, any_eqU r fs]
    exact q
theorem op_notIn_seq : OpR X (compareOp .NotIn) (rIn X.K true) := by
  intro pins s σ H x y v u Q I rx ry h
  obtain ⟨p, xs, rfl, hq, fx, fs, q⟩ := h
  cases ry
  rcases hq with hq | hq
  · obtain ⟨its, r, pl, hz⟩ := I.list hq
    refine SeqAt.notIn_listAt (eqU x) pl.isList (fun w hw => mem_eqAt rx fx r fs w (by simpa using hw)) ⟨.bl _, H, I, rfl, ?_⟩
    rw [show its.toArray.any (eqU x) = its.any (eqU x) by simp, any_eqU r fs]
    exact q
  · obtain ⟨its, r, pl, hz⟩ := I.tuple hq
    refine SeqAt.notIn_tupleAt (eqU x) pl (fun w hw => mem_eqAt rx fx r fs w (by simpa using hw)) ⟨.bl _, H, I, rfl, ?_⟩
    rw [show its.toArray.any (eqU x) = its.any (eqU x) by simp, any_eqU r fs]
    exact q
/-! ### len, list(x), tuple(x) of any list or tuple that is read -/
theorem call_len_seq : CallR X (.builtin "len") (fun xs H Q => ∃ p ys, xs = [.ref p] ∧ (SqL X.K H p ys ∨ SqT X.K H p ys) ∧ Q (.int ys.length) H) := by
  intro pins s σ H xs us Q I r h
  obtain ⟨p, ys, rfl, hq, q⟩ := h
  obtain ⟨u, rfl, rx⟩ := vals1 r
  cases rx
  have hn := line63
  rcases hq with hq | hq
  · obtain ⟨its, r', pl, hz⟩ := I.list hq
    have hlen := r'.length
    exact Calls.call_len_list pl.isList (by simp only [List.size_toArray] <;> omega) ⟨.int ys.length, H, I.tok _, ⟨s.toks + 1, by rw [List.size_toArray, hlen]⟩, q⟩
  · obtain ⟨its, r', pl, hz⟩ := I.tuple hq
    have hlen := r'.length
    exact len_tuple pl (by simp only [List.size_toArray] <;> omega) ⟨.int ys.length, H, I.tok _, ⟨s.toks + 1, by rw [List.size_toArray, hlen]⟩, q⟩
theorem call_len_str : CallR X (.builtin "len") (fun xs H Q => ∃ z, xs = [.str z] ∧ z.length ≤ sizeLine ∧ Q (.int z.length) H) := by
  intro pins s σ H xs us Q I r h
  obtain ⟨z, rfl, hz, q⟩ := h
  obtain ⟨u, rfl, t, rfl⟩ := vals1 r
  have hn := line63
  exact len_str (by omega) ⟨.int z.length, H, I.tok _, ⟨_, rfl⟩, q⟩
theorem call_list_of : CallR X (.type "list") (fun xs H Q => ∃ p ys, xs = [.ref p] ∧ (SqL X.K H p ys ∨ SqT X.K H p ys) ∧ ∀ l, H l = none → Q (.ref l) (upd H l (.lst ys))) := by
  intro pins s σ H xs us Q I r h
  obtain ⟨p, ys, rfl, hq, q⟩ := h
  obtain ⟨u, rfl, rx⟩ := vals1 r
  cases rx
  have fin : ∀ (its : List Value), Vals ys its → ys.length ≤ sizeLine → ∀ (h' : Heap) (c' : Nat), (∀ b o', s.heap.get? b = some o' → h'.get? b = some o') →
      h'.get? s.heap.objs.size = some { cls := .type "list", dict := none, data := .seq its.toArray c', slots := #[] } → EP X pins σ Q (.ref s.heap.objs.size) { s with heap := h' } := fun its r' hz h' c' kp e =>
    ⟨.ref s.heap.objs.size, _, I.laid (t' := s.toks) kp (Nat.le_refl _) (show ObjOk X.prog X.w _ h' _ (.lst ys) from ⟨hz, its, c', r', e⟩), rfl, q _ (I.hok.fresh (Nat.le_refl _))⟩
  rcases hq with hq | hq
  · obtain ⟨its, r', pl, hz⟩ := I.list hq
    have hlen := r'.length
    obtain ⟨o, ho, hc, n, hd⟩ := pl.isList
    exact call_list_seq p (.inl rfl) ho hc hd (fun h' c' kp e => fin its r' hz h' c' kp e) (by simp only [List.size_toArray] <;> omega)
  · obtain ⟨its, r', pl, hz⟩ := I.tuple hq
    have hlen := r'.length
    obtain ⟨o, ho, hc, n, hd⟩ := pl
    exact call_list_seq p (.inr rfl) ho hc hd (fun h' c' kp e => fin its r' hz h' c' kp e) (by simp only [List.size_toArray] <;> omega)
/-! ### the call of a builtin's method: o.m(..) -/
/-- the value is of that builtin type -/
def tyV (K : PySem.W.Frag) (T : String) (x : V) (H : Hp) : Prop := match x with
  | .str _ => T = "str"
  | .int _ => T = "int"
  | .ref p => (T = "list" ∧ ∃ xs, SqL K H p xs) ∨ (T = "tuple" ∧ ∃ o, K.lookup p = some o ∧ o.cls = .type "tuple" ∧ o.dict = none) ∨
      (T = "dict" ∧ ((∃ kvs, H p = some (.dK kvs)) ∨ ∃ kvs, H p = some (.dT kvs))) ∨ (T = "set" ∧ ∃ S n, H p = some (.set S n)) ∨ (T = "tuple" ∧ ∃ xs, H p = some (.tup xs))
  | _ => False
theorem tyV_is {pins : List (Addr × Obj)} {σ : St} {H : Hp} {s : Shared} {T : String} {x : V} {v : Value} (I : Inv X pins σ H s) (r : RelV x v) (ty : tyV X.K T x H) :
    s.TypeIs v T ∧ ∀ a, v = .ref a → ∃ ob, s.heap.get? a = some ob ∧ ob.dict = none := by
  cases x with
  | str z =>
    obtain ⟨t, rfl⟩ := r
    cases (show T = "str" from ty)
    exact ⟨typeIs_str s z t, fun _ e => nomatch e⟩
  | int i =>
    obtain ⟨t, rfl⟩ := r
    cases (show T = "int" from ty)
    exact ⟨typeIs_int s i t, fun _ e => nomatch e⟩
  | ref p =>
    cases r
    rcases ty with ⟨rfl, xs, hq⟩ | ⟨rfl, o, hk, hc, hd⟩ | ⟨rfl, hk⟩ | ⟨rfl, S, n, hk⟩ | ⟨rfl, xs, hk⟩
    · obtain ⟨its, _, pl, _⟩ := I.list hq
      refine ⟨pl.isList.typeIs, fun a e => ?_⟩
      cases e
      obtain ⟨o, n, e, c, hd, _⟩ := pl
      exact ⟨o, e, hd⟩
    · refine ⟨⟨o, I.kIn p o hk, hc⟩, fun a e => ?_⟩
      cases e
      exact ⟨o, I.kIn _ o hk, hd⟩
    · have z : ∃ o, s.heap.get? p = some o ∧ o.ExactDict := by
        rcases hk with ⟨kvs, hk⟩ | ⟨kvs, hk⟩
        · obtain ⟨_, _, _, _, o, _, _, e, ex, _⟩ := I.hok p _ hk
          exact ⟨o, e, ex⟩
        · obtain ⟨_, _, _, _, o, _, _, e, ex, _⟩ := I.hok p _ hk
          exact ⟨o, e, ex⟩
      obtain ⟨o, e, ex⟩ := z
      refine ⟨⟨o, e, ex.1⟩, fun a e2 => ?_⟩
      cases e2
      exact ⟨o, e, ex.2.1⟩
    · obtain ⟨o, _, _, _, e, ex, _⟩ := I.hok p _ hk
      refine ⟨⟨o, e, ex.1⟩, fun a e2 => ?_⟩
      cases e2
      exact ⟨o, e, ex.2.1⟩
    · obtain ⟨_, its, _, o, h1, h2, n, h3, h4⟩ := (show ObjOk X.prog X.w H s.heap p (.tup xs) from I.hok p _ hk)
      exact ⟨⟨o, h1, h2⟩, fun a e => by cases e; exact ⟨o, h1, h4⟩⟩
  | _ => exact False.elim ty
def tBM0 (K : PySem.W.Frag) (T : String) (r : V → List V → Hp → VK → Prop) (to : TE) : TE := fun σ H Q => to σ H fun x H1 => tyV K T x H1 ∧ r x [] H1 Q
def tBM (K : PySem.W.Frag) (T : String) (r : V → List V → Hp → VK → Prop) (to : TE) (t : TA) : TE := fun σ H Q => to σ H fun x H1 => tyV K T x H1 ∧ t σ H1 fun xs H2 => r x xs H2 Q
variable {o e : Expr} {es : List Expr} {to : TE} {t : TA} {name : Str} {apos cpos : Pos} {T id : String} {r : V → List V → Hp → VK → Prop}
theorem pe_bm0 (pa : PlainAttrs T) (slot : Slot T name id) (hty : typeOf (.builtin id) = pure (.type "method_descriptor")) (hm : MtR X id r) (ho : PE X o to)
    (hbase : attributeBase o name X.env (eval o X.env) = eval o X.env := by rfl) (hline : (apos.endLine == cpos.line) = true := by rfl) : PE X (.Call (.Attribute o name apos) [] [] cpos) (tBM0 X.K T r to) := by
  intro pins s σ H Q I h
  refine wpAny_Call_method0_late hbase hline (thn (ho pins s σ H _ I h) fun v s1 ⟨x, H1, I1, r1, ty, q1⟩ => ?_)
  obtain ⟨h1, h2⟩ := tyV_is I1 r1 ty
  exact ⟨T, id, pa, slot, hty, h1, h2, Calls.callWith_builtin rfl (PySem.evalArgs_none (hm pins s1 σ H1 x [] v [] Q I1 r1 .nil q1))⟩
theorem pe_bm (pa : PlainAttrs T) (slot : Slot T name id) (hty : typeOf (.builtin id) = pure (.type "method_descriptor")) (hm : MtR X id r) (ho : PE X o to) (ha : PA X (e :: es) t)
    (hbase : attributeBase o name X.env (eval o X.env) = eval o X.env := by rfl)
    (hfew : ((backTo cpos (starEach (e :: es) X.env)).all (fun x => !x.1) && (backToKw cpos (keywordEach [] X.env)).all (fun x => x.1.isSome)
      && decide ((e :: es).length + ([] : List Keyword).length + (if ([] : List Keyword).isEmpty then 0 else 1) < 30)) = true := by rfl)
    (hline : (apos.endLine == cpos.line) = true := by rfl) (hs : starEach (e :: es) X.env = (false, eval e X.env) :: starEach es X.env := by rfl) (hplain : (backTo cpos (starEach es X.env)).any (·.1) = false := by rfl) :
    PE X (.Call (.Attribute o name apos) (e :: es) [] cpos) (tBM X.K T r to t) := by
  intro pins s σ H Q I h
  refine wpAny_Call_method_late hbase hfew hline rfl (thn (ho pins s σ H _ I h) fun v s1 ⟨x, H1, I1, r1, ty, q1⟩ => ?_)
  obtain ⟨h1, h2⟩ := tyV_is I1 r1 ty
  refine ⟨T, id, pa, slot, hty, h1, h2, ?_⟩
  have hA := ha cpos pins s1 σ H1 _ I1 q1
  rw [hs] at hA ⊢
  refine Calls.callWith_builtin (by show (false || (backTo cpos (starEach es X.env)).any (·.1)) = false; rw [hplain] <;> rfl) (Calls.evalArgs_plain ?_)
  exact thn hA fun us s2 ⟨vs, H2, I2, r2, q2⟩ => hm pins s2 σ H2 x vs v us Q I2 r1 r2 q2
/- xs.append(e), list.index on a module's tuple .. are MtR facts of 06m -/
end
end L2

namespace L2
open PySem PySem.Spec PyProof.Rows

def MtM (X : Cx) (id : String) (r : V → List V → Hp → VK → Prop) : Prop :=
  ∀ (pins : List (Addr × Obj)) (s : Shared) (σ : St) (H : Hp) (x : V) (xs : List V) (v : Value) (us : List Value) (Q : VK), Inv X pins σ H s → RelV x v → Vals xs us → r x xs H Q →
    wpAny (model X.prog X.w) X.A (call (.builtin id) (v :: us)) (EP X pins σ Q) X.xe s

/-! ### lists of values -/
theorem Vals.one : ∀ {x : V} {us : List Value}, Vals [x] us → ∃ u, us = [u] ∧ RelV x u
  | _, _, .cons r .nil => ⟨_, rfl, r⟩
theorem Vals.zero : ∀ {us : List Value}, Vals [] us → us = []
  | _, .nil => rfl
theorem Vals.dropLast {xs : List V} {us : List Value} (h : Vals xs us) : Vals xs.dropLast us.dropLast := by
  induction h with
  | nil => exact .nil
  | cons r t ih =>
    cases t with
    | nil => exact .nil
    | cons q t' => exact .cons r ih
theorem erase_last {α : Type} (l : List α) : l.eraseIdx (l.length - 1) = l.dropLast := by
  induction l with
  | nil => rfl
  | cons a r ih =>
    cases r with
    | nil => rfl
    | cons b r =>
      have e : (a :: b :: r).length - 1 = ((b :: r).length - 1) + 1 := by
        have h1 : (a :: b :: r).length = r.length + 2 := rfl
        have h2 : (b :: r).length = r.length + 1 := rfl
        omega
      rw [e, List.eraseIdx_cons_succ, ih]
      all_goals rfl
section
variable {X : Cx} {pins : List (Addr × Obj)} {σ : St} {H : Hp} {s : Shared} {l b : Addr} {xs ys zs : List V}

/-! ### the two steps: a tracked list is rewritten, a new list is laid -/
theorem Inv.lset {its its' : List Value} {n : Nat} {f : Array Value → Array Value} {t' : Nat} (I : Inv X pins σ H s) (hH : H l = some (.lst xs))
    (e : s.heap.get? l = some { cls := .type "list", data := .seq its.toArray n }) (hf : f its.toArray = its'.toArray) (hv : Vals ys its') (hz : ys.length ≤ sizeLine) :
    Inv X pins σ (upd H l (.lst ys)) { s with heap := s.heap.update l (Obj.mapSeq f), toks := t' } := by
  have q := PySem.IsL.update e f
  rw [hf] at q
  refine I.write (x := l) (e := l) (by rw [hH]; exact trivial) (.inl rfl) (fun b' u hb hu => (Heap.get?_update_other s.heap (Obj.mapSeq f) (Ne.symm hb)).trans hu) ⟨_, q⟩ ?_
  exact ⟨hz, its', _, hv, q⟩
theorem Inv.lnew {its : List Value} {t' : Nat} (I : Inv X pins σ H s) (hv : Vals ys its) (hz : ys.length ≤ sizeLine) :
    Inv X pins σ (upd H s.heap.objs.size (.lst ys)) { s with heap := s.heap.push { cls := .type "list", data := .seq its.toArray }, toks := t' } :=
  I.laid (fun _ _ q => Heap.get?_push_of_some _ q) (Nat.le_refl _) ⟨hz, its, 0, hv, Heap.get?_push_size _ rfl⟩
theorem Inv.fresh (I : Inv X pins σ H s) : H s.heap.objs.size = none := I.hok.fresh (Nat.le_refl _)
theorem Inv.lstM (I : Inv X pins σ H s) (hH : H l = some (.lst xs)) : xs.length ≤ sizeLine ∧ ∃ (its : List Value) (n : Nat), Vals xs its ∧ xs.length = its.length ∧ s.heap.get? l = some { cls := .type "list", data := .seq its.toArray n } := by
  obtain ⟨z, its, n, r, e⟩ := I.hok l _ hH
  exact ⟨z, its, n, r, r.length, e⟩

theorem notLongL {n : Nat} (h : n ≤ sizeLine) : Builtin.List.listTooLong n = false := by
  unfold Builtin.List.listTooLong
  exact decide_eq_false (by omega)
end

section
variable {X : Cx}

/-! ### methods -/
def rAppend : V → List V → Hp → VK → Prop := fun x vs H Q => ∃ l xs y, x = .ref l ∧ vs = [y] ∧ H l = some (.lst xs) ∧ xs.length < sizeLine ∧ Q .non (upd H l (.lst (xs ++ [y])))
theorem mt_append : MtM X "list.append" rAppend := by
  intro pins s σ H x vs v us Q I rx rv h
  obtain ⟨l, xs, y, rfl, rfl, hH, hz, q⟩ := h
  cases rx
  obtain ⟨u, rfl, ru⟩ := rv.one
  obtain ⟨z, its, n, r, hl, e⟩ := I.lstM hH
  refine call_meets F.slot_list_append ⟨_, e, rfl⟩ F.entry_list_append (F.args_list_append_2 _ _) (PySem.list_append l its.toArray n u (by rw [List.size_toArray]; omega)) ⟨e, ?_⟩
  refine ⟨.non, _, I.lset (its' := its ++ [u]) hH e (by simp) (r.append (.cons ru .nil)) ?_, rfl, q⟩
  rw [List.length_append, List.length_singleton]
  omega

def rExtend : V → List V → Hp → VK → Prop := fun x vs H Q => ∃ l b xs zs, x = .ref l ∧ vs = [.ref b] ∧ H l = some (.lst xs) ∧ H b = some (.lst zs) ∧ xs.length + zs.length ≤ sizeLine ∧ Q .non (upd H l (.lst (xs ++ zs)))
theorem mt_extend : MtM X "list.extend" rExtend := by
  intro pins s σ H x vs v us Q I rx rv h
  obtain ⟨l, b, xs, zs, rfl, rfl, hH, hB, hz, q⟩ := h
  cases rx
  obtain ⟨u, rfl, ru⟩ := rv.one
  cases ru
  obtain ⟨z, its, n, r, hl, e⟩ := I.lstM hH
  obtain ⟨z2, its2, n2, r2, hl2, e2⟩ := I.lstM hB
  have hsz : its.toArray.size + its2.toArray.size ≤ sizeLine := by rw [List.size_toArray, List.size_toArray]; omega
  have hlong : ¬ (!its.toArray.isEmpty && Builtin.List.listTooLong (its.toArray.size + its2.toArray.size)) = true := by
    rw [notLongL hsz, Bool.and_false]
    exact Bool.false_ne_true
  refine call_meets F.slot_list_extend ⟨_, e, rfl⟩ F.entry_list_extend (F.args_list_extend_2 _ _)
    (AutoSeq1.list_extend_list_list_0 l its.toArray n b its2.toArray n2 hlong (by rw [List.size_toArray]; omega) (by omega)) ⟨e, e2, ?_⟩
  refine ⟨.non, _, I.lset (its' := its ++ its2) hH e (by simp) (r.append r2) ?_, rfl, q⟩
  rw [List.length_append]
  omega

def rPop : V → List V → Hp → VK → Prop := fun x vs H Q => ∃ l xs y, x = .ref l ∧ vs = [] ∧ H l = some (.lst xs) ∧ xs[xs.length - 1]? = some y ∧ Q y (upd H l (.lst xs.dropLast))
theorem mt_pop : MtM X "list.pop" rPop := by
  intro pins s σ H x vs v us Q I rx rv h
  obtain ⟨l, xs, y, rfl, rfl, hH, hy, q⟩ := h
  cases rx
  have hus := rv.zero
  subst hus
  obtain ⟨z, its, n, r, hl, e⟩ := I.lstM hH
  obtain ⟨u, hu, ru⟩ := r.get hy
  have hy' : its.toArray[its.toArray.size - 1]? = some u := by
    show its.toArray[its.length - 1]? = some u
    rw [← Array.getElem?_toList, ← hl]
    exact hu
  refine call_meets F.slot_list_pop ⟨_, e, rfl⟩ F.entry_list_pop (F.args_list_pop_1 _) (MeetsSeq.list_pop_last l its.toArray n u hy' (by rw [List.size_toArray]; omega)) ⟨e, ?_⟩
  refine ⟨y, _, I.lset (its' := its.dropLast) hH e ?_ r.dropLast ?_, ru, q⟩
  · show its.toArray.eraseIdxIfInBounds (its.toArray.size - 1) = its.dropLast.toArray
    rw [List.size_toArray, List.eraseIdxIfInBounds_toArray, erase_last]
  · rw [List.length_dropLast]
    omega

/-! ### list + list, list += list, list * int -/
def rCat : R2 := fun x y H Q => ∃ l b xs zs, x = .ref l ∧ y = .ref b ∧ H l = some (.lst xs) ∧ H b = some (.lst zs) ∧ xs.length + zs.length ≤ sizeLine ∧ ∀ p, H p = none → Q (.ref p) (upd H p (.lst (xs ++ zs)))
theorem op_cat : OpR X (binaryOp .Add) rCat := by
  intro pins s σ H x y v u Q I rx ry h
  obtain ⟨l, b, xs, zs, rfl, rfl, hH, hB, hz, q⟩ := h
  cases rx
  cases ry
  obtain ⟨z, its, n, r, hl, e⟩ := I.lstM hH
  obtain ⟨z2, its2, n2, r2, hl2, e2⟩ := I.lstM hB
  refine PySem.P.add_list e e2 ?_ (by rw [List.size_toArray, List.size_toArray]; omega)
  have ea : its.toArray ++ its2.toArray = (its ++ its2).toArray := by simp
  rw [ea]
  exact ⟨.ref _, _, I.lnew (t' := s.toks) (r.append r2) (by rw [List.length_append]; omega), rfl, q _ I.fresh⟩
/-! ### del xs[i] -/
end

/-! ### xs[a:b] = ys -/
section
variable {prog : Program} {w : World} {A : Around} {E : Value → Shared → Prop} {s : Shared}
end

section
variable {X : Cx}
end
end L2

namespace L2
open PySem PySem.Spec PyProof.Rows

/-! ### lists of pairs as tables -/
section
variable {κ : Type} [DecidableEq κ]
def valV (kvs : List (κ × V)) (k : κ) : Option V := (kvs.find? fun kv => decide (kv.1 = k)).map (·.2)
/-- in its place, or at the end -/
def putK (kvs : List (κ × V)) (k : κ) (v : V) : List (κ × V) :=
  if (kvs.any fun kv => decide (kv.1 = k)) = true then kvs.map (fun kv => if kv.1 = k then (kv.1, v) else kv) else kvs ++ [(k, v)]
theorem valV_pos {p : κ × V} {r : List (κ × V)} {k : κ} (e : p.1 = k) : valV (p :: r) k = some p.2 := by simp [valV, List.find?_cons, e]
theorem valV_neg {p : κ × V} {r : List (κ × V)} {k : κ} (e : ¬ p.1 = k) : valV (p :: r) k = valV r k := by simp [valV, List.find?_cons, e]
theorem valV_any (k : κ) : ∀ kvs : List (κ × V), (kvs.any fun kv => decide (kv.1 = k)) = (valV kvs k).isSome
  | [] => rfl
  | p :: r => by
    rw [List.any_cons]
    by_cases e : p.1 = k
    · simp only [valV_pos e, decide_eq_true e, Bool.true_or, Option.isSome_some]
    · rw [valV_neg e, decide_eq_false e, Bool.false_or]; exact valV_any k r
theorem length_putK (kvs : List (κ × V)) (k : κ) (v : V) : (putK kvs k v).length ≤ kvs.length + 1 := by
  unfold putK
  split
  · rw [List.length_map]; omega
  · rw [List.length_append, List.length_cons, List.length_nil]; omega
theorem RelO.isSome_eq {o : Option V} {u : Option Value} (r : RelO o u) : o.isSome = u.isSome := by
  cases o with
  | none => cases u with
    | none => rfl
    | some _ => exact (show False from r).elim
  | some _ => cases u with
    | none => exact (show False from r).elim
    | some _ => rfl
theorem RelO.getD {o : Option V} {u : Option Value} {d : V} {d' : Value} (r : RelO o u) (rd : RelV d d') : RelV (o.getD d) (u.getD d') := by
  cases o with
  | none => cases u with
    | none => exact rd
    | some _ => exact (show False from r).elim
  | some _ => cases u with
    | none => exact (show False from r).elim
    | some _ => exact r

/-- raw tables of the same keys -/
theorem KV.val {kvs : List (κ × V)} {vs : List (κ × Value)} (r : KV kvs vs) (k : κ) : RelO (valV kvs k) (valueAt vs k) := by
  unfold KV at r
  induction r with
  | nil => exact True.intro
  | @cons p q ps qs h t ih =>
    obtain ⟨h1, h2⟩ := h
    by_cases e : p.1 = k
    · have e' : q.1 = k := h1.symm.trans e
      have b : valueAt (q :: qs) k = some q.2 := by simp [valueAt, List.find?_cons, e']
      rw [valV_pos e, b]; exact h2
    · have e' : ¬ q.1 = k := fun z => e (h1.trans z)
      have b : valueAt (q :: qs) k = valueAt qs k := by simp [valueAt, List.find?_cons, e']
      rw [valV_neg e, b]; exact ih
theorem KV.any {kvs : List (κ × V)} {vs : List (κ × Value)} (r : KV kvs vs) (k : κ) : (kvs.any fun kv => decide (kv.1 = k)) = vs.any fun kv => decide (kv.1 = k) := by
  unfold KV at r
  induction r with
  | nil => rfl
  | cons h t ih => rw [List.any_cons, List.any_cons, ih, h.1]
theorem KV.repl {kvs : List (κ × V)} {vs : List (κ × Value)} (r : KV kvs vs) (k : κ) {y : V} {u : Value} (ry : RelV y u) :
    KV (kvs.map fun kv => if kv.1 = k then (kv.1, y) else kv) (vs.map fun kv => if kv.1 = k then (kv.1, u) else kv) := by
  unfold KV at r ⊢
  induction r with
  | nil => exact .nil
  | @cons p q ps qs h t ih =>
    rw [List.map_cons, List.map_cons]
    refine .cons ?_ ih
    obtain ⟨h1, h2⟩ := h
    by_cases e : p.1 = k
    · rw [if_pos e, if_pos (h1.symm.trans e)]; exact ⟨h1, ry⟩
    · rw [if_neg e, if_neg (fun z => e (h1.trans z))]; exact ⟨h1, h2⟩
theorem KV.put {kvs : List (κ × V)} {vs : List (κ × Value)} (r : KV kvs vs) (k : κ) {y : V} {u : Value} (ry : RelV y u) : KV (putK kvs k y) (stored vs k u) := by
  unfold putK stored
  rw [r.any k]
  by_cases e : (vs.any fun kv => decide (kv.1 = k)) = true
  · rw [if_pos e, if_pos e]; exact r.repl k ry
  · rw [if_neg e, if_neg e]; exact Paired.snoc r ⟨rfl, ry⟩
theorem KV.length {kvs : List (κ × V)} {vs : List (κ × Value)} (r : KV kvs vs) : kvs.length = vs.length := Paired.length r
end


/-! ### a tracked dict, its keys ints and texts or tuples of these -/
theorem kV_is {P : Program} {w : World} {k : Key} {u : Value} (r : RelV (kV k) u) : (mixKind P w).is k u = true := by
  cases k with
  | inl i => obtain ⟨t, e⟩ := (show ∃ t, u = Value.int i t from r); subst e; exact mixKind_int P w i t
  | inr x => obtain ⟨t, e⟩ := (show ∃ t, u = Value.str x t from r); subst e; exact mixKind_str P w x t
theorem items_are {P : Program} {w : World} : ∀ {ks : List Key} {us : List Value}, Vals (ks.map kV) us → ItemsAre (mixKind P w) ks us
  | [], _, r => by rw [List.map_nil] at r; cases r; exact .nil
  | k :: ks, _, r => by
    rw [List.map_cons] at r
    cases r with
    | cons h t => exact .cons (kV_is h) (items_are t)

/-- raw entries of a dict with tuple keys -/
abbrev KT (H : Hp) : List (List Key × V) → List (List Key × Addr × Value) → Prop := Paired fun p q => p.1 = q.1 ∧ H q.2.1 = some (.tup (p.1.map kV)) ∧ RelV p.2 q.2.2
theorem KT.val {H : Hp} {kvs : List (List Key × V)} {xs : List (List Key × Addr × Value)} (r : KT H kvs xs) (k : List Key) : RelO (valV kvs k) ((atKey xs k).map (·.2)) := by
  induction r with
  | nil => exact True.intro
  | @cons p q ps qs h t ih =>
    obtain ⟨h1, _, h2⟩ := h
    by_cases e : p.1 = k
    · have e' : q.1 = k := h1.symm.trans e
      have b : atKey (q :: qs) k = some q.2 := by simp [atKey, List.find?_cons, e']
      rw [valV_pos e, b]; exact h2
    · have e' : ¬ q.1 = k := fun z => e (h1.trans z)
      have b : atKey (q :: qs) k = atKey qs k := by simp [atKey, List.find?_cons, e']
      rw [valV_neg e, b]; exact ih
theorem KT.repl {H : Hp} {kvs : List (List Key × V)} {xs : List (List Key × Addr × Value)} (r : KT H kvs xs) (k : List Key) {y : V} {u : Value} (ry : RelV y u) :
    KT H (kvs.map fun kv => if kv.1 = k then (kv.1, y) else kv) (xs.map (putAt k u)) := by
  induction r with
  | nil => exact .nil
  | @cons p q ps qs h t ih =>
    rw [List.map_cons, List.map_cons]
    refine .cons ?_ ih
    obtain ⟨h1, h2, h3⟩ := h
    unfold putAt
    by_cases e : p.1 = k
    · rw [if_pos e, if_pos (h1.symm.trans e)]; exact ⟨h1, h2, ry⟩
    · rw [if_neg e, if_neg (fun z => e (h1.trans z))]; exact ⟨h1, h2, h3⟩
theorem KT.put {H : Hp} {kvs : List (List Key × V)} {xs : List (List Key × Addr × Value)} (r : KT H kvs xs) (k : List Key) {b : Addr} {y : V} {u : Value} (hb : H b = some (.tup (k.map kV))) (ry : RelV y u) :
    KT H (putK kvs k y) (storedH xs k b u) := by
  have e : (kvs.any fun kv => decide (kv.1 = k)) = (atKey xs k).isSome := by
    rw [valV_any, (r.val k).isSome_eq, Option.isSome_map]
  unfold putK storedH
  rw [e]
  by_cases q : (atKey xs k).isSome = true
  · rw [if_pos q, if_pos q]; exact r.repl k ry
  · rw [if_neg q, if_neg q]; exact Paired.snoc r ⟨rfl, hb, ry⟩
theorem KT.keeps {H H' : Hp} {kvs : List (List Key × V)} {xs : List (List Key × Addr × Value)} (r : KT H kvs xs) (ht : ∀ b ys, H b = some (.tup ys) → H' b = some (.tup ys)) : KT H' kvs xs :=
  Paired.mapP r fun _ _ z => ⟨z.1, ht _ _ z.2.1, z.2.2⟩

section
variable {P : Program} {w : World} {H : Hp} {h : Heap} {a : Addr}
theorem rd_of {u : HO} (ok : HOk P w H h) (e : Rd H a u) : ObjOk P w H h a u := e.ok ok
theorem dk_rd {kvs : List (Key × V)} (ok : HOk P w H h) (e : Rd H a (.dK kvs)) : kvs.length ≤ sizeLine ∧ (a == sysModules) = false ∧ ∃ vs, KV kvs vs ∧ h.DictOf (mixKind P w) a vs :=
  show ObjOk P w H h a (.dK kvs) from rd_of ok e
theorem dk_of {kvs : List (Key × V)} (ok : HOk P w H h) (e : H a = some (.dK kvs)) : kvs.length ≤ sizeLine ∧ (a == sysModules) = false ∧ ∃ vs, KV kvs vs ∧ h.DictOf (mixKind P w) a vs := dk_rd ok (.inl e)
/-- a tracked tuple of ints and texts is a key -/
theorem key_of {ks : List Key} (ok : HOk P w H h) (e : H a = some (.tup (ks.map kV))) : (tupleKind (mixKind P w)).is h ks a := by
  obtain ⟨_, its, r, o, h1, h2, n, h3, _⟩ := (show ObjOk P w H h a (.tup (ks.map kV)) from ok a _ e)
  exact ⟨o, its.toArray, n, h1, h2, h3, by simpa using items_are r⟩
theorem dt_rd {kvs : List (List Key × V)} (ok : HOk P w H h) (e : Rd H a (.dT kvs)) : kvs.length ≤ sizeLine ∧ (a == sysModules) = false ∧
    ∃ xs, KT H kvs xs ∧ h.DictOfH (tupleKind (mixKind P w)) a xs := by
  obtain ⟨z, y, xs, r, o, es, ep, h1, h2, h3, h4, h5⟩ := (show ObjOk P w H h a (.dT kvs) from rd_of ok e)
  refine ⟨z, y, xs, r, o, es, ep, h1, h2, h3, h4, fun x hx => ?_, h5⟩
  have all : ∀ {l : List (List Key × V)} {m : List (List Key × Addr × Value)}, KT H l m → ∀ x ∈ m, (tupleKind (mixKind P w)).is h x.1 x.2.1 := by
    intro l m q
    induction q with
    | nil => intro x hx; exact nomatch hx
    | @cons p q ps qs hq t ih =>
      intro x hx
      rcases List.mem_cons.mp hx with e | hx
      · subst e
        exact key_of ok (by rw [← hq.1]; exact hq.2.1)
      · exact ih x hx
  exact all r x hx
theorem dt_of {kvs : List (List Key × V)} (ok : HOk P w H h) (e : H a = some (.dT kvs)) : kvs.length ≤ sizeLine ∧ (a == sysModules) = false ∧
    ∃ xs, KT H kvs xs ∧ h.DictOfH (tupleKind (mixKind P w)) a xs := dt_rd ok (.inl e)
end

/-- what the dict at a holds at the key y -/
def DGet (H : Hp) (a : Addr) (y : V) (r : Option V) : Prop :=
  (∃ kvs k, Rd H a (.dK kvs) ∧ y = kV k ∧ r = valV kvs k) ∨ ∃ kvs k b, Rd H a (.dT kvs) ∧ y = .ref b ∧ H b = some (.tup (k.map kV)) ∧ r = valV kvs k
/-- the heap behind a[y] = v -/
def DPut (H : Hp) (a : Addr) (y v : V) (H' : Hp) : Prop :=
  (∃ kvs k, H a = some (.dK kvs) ∧ y = kV k ∧ kvs.length < sizeLine ∧ H' = upd H a (.dK (putK kvs k v))) ∨
  ∃ kvs k b, H a = some (.dT kvs) ∧ y = .ref b ∧ H b = some (.tup (k.map kV)) ∧ kvs.length < sizeLine ∧ H' = upd H a (.dT (putK kvs k v))
theorem DGet.k {H : Hp} {a : Addr} {kvs : List (Key × V)} {k : Key} (e : H a = some (.dK kvs)) : DGet H a (kV k) (valV kvs k) := .inl ⟨kvs, k, .inl e, rfl, rfl⟩
theorem DPut.k {H : Hp} {a : Addr} {kvs : List (Key × V)} {k : Key} {v : V} (e : H a = some (.dK kvs)) (hl : kvs.length < sizeLine) : DPut H a (kV k) v (upd H a (.dK (putK kvs k v))) := .inl ⟨kvs, k, e, rfl, hl, rfl⟩
section
variable {X : Cx} {pins : List (Addr × Obj)} {σ : St} {H : Hp} {s : Shared} {a : Addr} {y v : V} {u r : Value} {o : Option V} {A : Around} {E : Value → Shared → Prop}

theorem Inv.big (I : Inv X pins σ H s) : sysModules < s.heap.objs.size := by
  have h : mainGlobals < s.heap.objs.size := (I.mod.glob.keeps I.bk).lt
  exact Nat.lt_trans (by decide) h

/-- d[y], there -/
theorem d_getItem {Q : Value → Shared → Prop} (hu : A.units + 1 < cLine) (I : Inv X pins σ H s) (g : DGet H a y (some v)) (ry : RelV y u) (h : ∀ w' s', Inv X pins σ H s' → RelV v w' → Q w' s') :
    wpAny (model X.prog X.w) A (getItem (.ref a) u) Q E s := by
  rcases g with ⟨kvs, k, e, ey, l⟩ | ⟨kvs, k, b, e, ey, eb, l⟩
  · subst ey
    obtain ⟨z, hd, vs, rel, dd⟩ := dk_rd I.hok e
    obtain ⟨w', hw, rw'⟩ := RelO.some_of (v := v) (o := valueAt vs k) (by rw [l]; exact rel.val k)
    exact wpAny_getItem_of (kV_is ry) dd.mapOf hw (h w' _ (I.tok _) rw')
  · subst ey
    cases (show u = Value.ref b from ry)
    obtain ⟨z, hd, xs, rel, dd⟩ := dt_rd I.hok e
    obtain ⟨w', hw, rw'⟩ := RelO.some_of (v := v) (o := (atKey xs k).map (·.2)) (by rw [l]; exact rel.val k)
    obtain ⟨p, hp, hp2⟩ := Option.map_eq_some_iff.mp hw
    refine wpAny_getItem_heap (tupleKind_room_in1 hu) (key_of I.hok eb) dd hp ?_
    rw [hp2]
    exact h w' _ (I.tok _) rw'
/-- a dict's object is replaced -/
theorem d_write {h' : Heap} {t' : Nat} {ob : HO} (I : Inv X pins σ H s) (mu : Mut (H a)) (hs : Heap.SameBut a s.heap h') (he : ∃ q, h'.get? a = some q) (new : ObjOk X.prog X.w (upd H a ob) h' a ob) :
    Inv X pins σ (upd H a ob) { s with heap := h', toks := t' } :=
  I.write (x := a) (e := a) mu (.inl rfl) (fun b q hb z => (hs.2 b hb).trans z) he new
theorem dk_new {P : Program} {w : World} {H' : Hp} {h' : Heap} {kvs : List (Key × V)} {vs : List (Key × Value)} (z : kvs.length ≤ sizeLine) (hd : (a == sysModules) = false) (rel : KV kvs vs) (dd : h'.DictOf (mixKind P w) a vs) :
    ObjOk P w H' h' a (.dK kvs) := ⟨z, hd, vs, rel, dd⟩
/-- d[y] = v -/
theorem d_setItem {H' : Hp} {Q : Unit → Shared → Prop} (hu : A.units + 1 < cLine) (I : Inv X pins σ H s) (g : DPut H a y v H') (ry : RelV y u) (rv : RelV v r) (h : ∀ s', Inv X pins σ H' s' → Q () s') :
    wpAny (model X.prog X.w) A (setItem (.ref a) u r) Q E s := by
  rcases g with ⟨kvs, k, e, ey, l, eH⟩ | ⟨kvs, k, b, e, ey, eb, l, eH⟩
  · subst ey eH
    obtain ⟨z, hd, vs, rel, dd⟩ := dk_of I.hok e
    have hz : vs.length ≤ sizeLine := by rw [← rel.length]; exact z
    have hl : (putK kvs k v).length ≤ sizeLine := by have := length_putK kvs k v; omega
    refine wpAny_setItem_pairs (hsz := hz) (kV_is ry) dd fun h' dd' hs => h _ ?_
    have he : ∃ q, h'.get? a = some q := let ⟨q, _, _, hq, _⟩ := dd'; ⟨q, hq⟩
    exact d_write I (by rw [e]; exact True.intro) hs he (dk_new hl hd (rel.put k rv) dd')
  · subst ey eH
    cases (show u = Value.ref b from ry)
    obtain ⟨z, hd, xs, rel, dd⟩ := dt_of I.hok e
    have hz : xs.length ≤ sizeLine := by rw [← Paired.length rel]; exact z
    have hl : (putK kvs k v).length ≤ sizeLine := by have := length_putK kvs k v; omega
    refine wpAny_setItem_heap (hsz := hz) (tupleKind_room_in1 hu) (key_of I.hok eb) dd fun h' dd' hs => h _ ?_
    obtain ⟨q, es, ep, hq, h2, h3, h4, _, h5⟩ := dd'
    refine d_write I (by rw [e]; exact True.intro) hs ⟨q, hq⟩ ⟨hl, hd, _, (rel.put k eb rv).keeps fun c ys ec => ?_, q, es, ep, hq, h2, h3, h4, h5⟩
    rw [upd_ne (ne_of ec e (fun z => nomatch z))]
    exact ec
end

section
variable {X : Cx} {pins : List (Addr × Obj)} {σ : St} {H : Hp} {s : Shared} {a : Addr} {kvs : List (Key × V)} {k : Key} {u : Value} {A : Around} {E : Value → Shared → Prop}
end


/-! ### readings and rules -/
/-- the element of a subscription, not a slice -/
def NoSl (i : Expr) : Prop := ∀ ov iv, subscripted i false ov iv = operate [ov, iv] (getItem ov iv)
theorem subD_of {prog : Program} {w : World} {A : Around} {E : Value → Shared → Prop} {s : Shared} {env : Env} {value slice : Expr} {pos : Pos} {T id : String} {Q : Value → Shared → Prop}
    (hl : typeLookup (.type T) "__getitem__" = pure (some (.builtin id))) (hs : NoSl slice)
    (h : wpAny (model prog w) A (eval value env) (fun o s₁ => wpAny (model prog w) A (eval slice env) (fun i s₂ => s₂.TypeIs o T ∧ wpAny (model prog w) A (getItem o i) Q E s₂) E s₁) E s) :
    wpAny (model prog w) A (eval (.Subscript value slice pos) env) Q E s := by
  refine Subscript_ (wpAny_mono h (fun o s₁ h₁ => wpAny_mono h₁ (fun i s₂ h₂ => ?_) fun _ _ x => x) fun _ _ x => x)
  obtain ⟨hT, h₂⟩ := h₂
  unfold subscriptTail
  refine wpAny_bind ?_
  rw [getitemInPython_of_ne hT.not_modules]
  refine wpAny_bind (wpAny_specialOf hT hl ?_)
  have fin : wpAny (model prog w) A (subscripted slice false o i) (fun r s₃ => wpAny (model prog w) A (letTemporaryGo value o r >>= fun _ => pure r) Q E s₃) E s₂ := by
    rw [hs o i]
    exact wpAny_operating (wpAny_mono h₂ (fun r s₃ h₃ => wpAny_bind (wpAny_letTemporaryGo (wpAny_pure h₃))) fun _ _ x => x)
  first
    | exact wpAny_pure (wpAny_bind fin)
    | exact wpAny_bind (wpAny_pure (wpAny_bind fin))
    | exact wpAny_bind fin

theorem dict_typeIs {X : Cx} {pins : List (Addr × Obj)} {σ : St} {H : Hp} {s : Shared} {a : Addr} {y : V} {o : Option V} (I : Inv X pins σ H s) (g : DGet H a y o) : s.TypeIs (.ref a) "dict" := by
  rcases g with ⟨kvs, k, e, _, _⟩ | ⟨kvs, k, b, e, _, _, _⟩
  · obtain ⟨_, _, vs, _, dd⟩ := dk_rd I.hok e
    exact dd.typeIs
  · obtain ⟨_, _, xs, _, dd⟩ := dt_rd I.hok e
    exact dd.typeIs
/-- d[y] -/
def tDGet (td ty : TE) : TE := fun σ H Q => td σ H fun x H1 => ty σ H1 fun y H2 => ∃ a v, x = .ref a ∧ DGet H2 a y (some v) ∧ Q v H2
/-- d[y] = v -/
def sDPut (td ty tv : TE) : TS := fun D σ H => tv σ H fun v H1 => td σ H1 fun x H2 => ty σ H2 fun y H3 => ∃ a H4, x = .ref a ∧ DPut H3 a y v H4 ∧ D.nx σ H4
section
variable {X : Cx} {o i e value : Expr} {pos pos' tpos : Pos} {td ty tv : TE}
theorem pe_dget (hu : X.A.units + 1 < cLine) (ho : PE X o td) (hi : PE X i ty) (hs : NoSl i) : PE X (.Subscript o i pos) (tDGet td ty) := by
  intro pins s σ H Q I h
  refine subD_of PySem.F.slot_dict_getitem.lookup hs (thn (ho pins s σ H _ I h) fun u s1 ⟨x, H1, I1, rx, q1⟩ => thn (hi pins s1 σ H1 _ I1 q1) fun iv s2 ⟨y, H2, I2, ry, a, v, ex, g, q2⟩ => ?_)
  subst ex
  obtain rfl : u = Value.ref a := rx
  exact ⟨dict_typeIs I2 g, d_getItem hu I2 g ry fun w' s3 I3 rw' => ⟨v, H2, I3, rw', q2⟩⟩
theorem ps_dput (hu : X.A.units + 1 < cLine) (ho : PE X o td) (hi : PE X i ty) (hv : PE X value tv) (hs : swapsWith value (some (.Subscript o i pos')) pos.line X.env = pure false) :
    PS X (.Assign [.Subscript o i pos'] value pos) (sDPut td ty tv) := by
  intro pins s σ H D I h
  refine wpAny_Assign_Subscript (thn (hv pins s σ H _ I h) fun r s1 ⟨v, H1, I1, rv, q1⟩ => thn (ho pins s1 σ H1 _ I1 q1) fun u s2 ⟨x, H2, I2, rx, q2⟩ => thn (hi pins s2 σ H2 _ I2 q2) fun iv s3 ⟨y, H3, I3, ry, a, H4, ex, g, q3⟩ => ?_) hs
  subst ex
  obtain rfl : u = Value.ref a := rx
  exact d_setItem hu I3 g ry rv fun s4 I4 => ⟨σ, H4, I4, q3⟩
end


/-! ### displays -/
theorem dk_empty {P : Program} {w : World} {H : Hp} (h : Heap) (hb : sysModules < h.objs.size) : ObjOk P w H (h.push { cls := .type "dict", data := .dict #[] }) h.objs.size (.dK []) :=
  ⟨Nat.zero_le _, beq_eq_false_iff_ne.mpr (Ne.symm (Nat.ne_of_lt hb)), [], .nil, Heap.DictOf.new h⟩
/-- {}, to be a dict of the kind that is wanted -/
def tDNewK : TE := fun _ H Q => ∀ p, H p = none → Q (.ref p) (upd H p (.dK []))
section
variable {X : Cx} {pos : Pos}
theorem pe_dnewK : PE X (.Dict [] [] pos) tDNewK := fun pins s σ H Q I h =>
  wpAny_Dict_empty ⟨.ref s.heap.objs.size, _, I.laid (a := s.heap.objs.size) (o := .dK []) (t' := s.toks) (fun _ _ q => Heap.get?_push_of_some _ q) (Nat.le_refl _) (dk_empty s.heap I.big), rfl, h _ (I.hok.fresh (Nat.le_refl _))⟩
end

/-- the pairs of a display, from the left -/
def tPairs : List (TE × TE) → St → Hp → (List (V × V) → Hp → Prop) → Prop
  | [], _, H, Q => Q [] H
  | (tk, tv) :: r, σ, H, Q => tk σ H fun x H1 => tv σ H1 fun y H2 => tPairs r σ H2 fun ps H3 => Q ((x, y) :: ps) H3
abbrev VV : List (V × V) → List (Value × Value) → Prop := Paired fun p q => RelV p.1 q.1 ∧ RelV p.2 q.2
def PPs (X : Cx) (pos : Pos) (keys : List (Option Expr)) (values : List Expr) (trs : List (TE × TE)) : Prop :=
  ∀ (pins : List (Addr × Obj)) (s : Shared) (σ : St) (H : Hp) (Q : List (V × V) → Hp → Prop), Inv X pins σ H s → tPairs trs σ H Q →
    wpAny (model X.prog X.w) X.A (evalPairs (pairTrees keys values X.env pos)) (fun vs s' => ∃ ps H', Inv X pins σ H' s' ∧ VV ps vs ∧ Q ps H') X.xe s
theorem pps_nil {X : Cx} {pos : Pos} : PPs X pos [] [] [] := fun pins s σ H Q I h => pairTrees_nil_walk ⟨[], H, I, .nil, h⟩
theorem pps_cons {X : Cx} {pos : Pos} {k v : Expr} {ks : List (Option Expr)} {vs : List Expr} {tk tv : TE} {trs : List (TE × TE)} (hk : PE X k tk) (hv : PE X v tv) (hr : PPs X pos ks vs trs) :
    PPs X pos (some k :: ks) (v :: vs) ((tk, tv) :: trs) := fun pins s σ H Q I h =>
  pairTrees_cons_walk (thn (hk pins s σ H _ I h) fun u s1 ⟨x, H1, I1, rx, q1⟩ => thn (hv pins s1 σ H1 _ I1 q1) fun w2 s2 ⟨y, H2, I2, ry, q2⟩ =>
    thn (hr pins s2 σ H2 _ I2 q2) fun ws s3 ⟨ps, H3, I3, rel, q3⟩ => ⟨(x, y) :: ps, H3, I3, .cons ⟨rx, ry⟩ rel, q3⟩)

def mergeK (kvs more : List (Key × V)) : List (Key × V) := more.foldl (fun acc kv => putK acc kv.1 kv.2) kvs
theorem KV.merge : ∀ {more : List (Key × V)} {rs : List (Key × Value)} {kvs : List (Key × V)} {vs : List (Key × Value)}, KV more rs → KV kvs vs → KV (mergeK kvs more) (merged vs rs) := by
  intro more rs kvs vs r
  unfold KV at r
  induction r generalizing kvs vs with
  | nil => intro q; exact q
  | @cons p q ps qs h t ih =>
    intro r0
    have e : KV (putK kvs p.1 p.2) (stored vs q.1 q.2) := by
      have := r0.put p.1 h.2
      rw [← h.1]; exact this
    exact ih e
theorem length_mergeK : ∀ (more kvs : List (Key × V)), (mergeK kvs more).length ≤ kvs.length + more.length
  | [], kvs => by show kvs.length ≤ kvs.length + 0; omega
  | p :: r, kvs => by
    have h1 := length_mergeK r (putK kvs p.1 p.2)
    have h2 := length_putK kvs p.1 p.2
    show (mergeK (putK kvs p.1 p.2) r).length ≤ _
    rw [List.length_cons]; omega
theorem carries_of {P : Program} {w : World} : ∀ {kvs : List (Key × V)} {ws : List (Value × Value)}, VV (kvs.map fun kv => (kV kv.1, kv.2)) ws → ∃ rs, Carries (mixKind P w) ws rs ∧ KV kvs rs
  | [], _, r => by rw [List.map_nil] at r; cases r; exact ⟨[], True.intro, .nil⟩
  | p :: kvs, _, r => by
    rw [List.map_cons] at r
    cases r with
    | @cons a b as bs h t =>
      obtain ⟨rs, c, q⟩ := carries_of (P := P) (w := w) t
      obtain ⟨b1, b2⟩ := b
      exact ⟨(p.1, b2) :: rs, ⟨kV_is h.1, rfl, c⟩, .cons ⟨rfl, h.2⟩ q⟩
/-- {k: v, ..} with keys ints and texts; the new dict stands empty while the pairs are made -/
def tDisp (trs : List (TE × TE)) : TE := fun σ H Q => ∀ p, H p = none → tPairs trs σ (upd H p (.dK [])) fun ps H2 => H2 p = some (.dK []) ∧ ∃ kvs : List (Key × V), ps = kvs.map (fun kv => (kV kv.1, kv.2)) ∧ kvs.length ≤ 15 ∧ Q (.ref p) (upd H2 p (.dK (mergeK [] kvs)))
theorem pe_disp {X : Cx} {pos : Pos} {keys : List (Option Expr)} {values : List Expr} {trs : List (TE × TE)} (h : PPs X pos keys values trs) (hall : keys.all (·.isSome) = true) (hl : keys.length = values.length) (h0 : keys ≠ [])
    (h15 : keys.length ≤ 15) : PE X (.Dict keys values pos) (tDisp trs) := by
  intro pins s σ H Q I q
  have hn := I.hok.fresh (Nat.le_refl s.heap.objs.size)
  have I1 := I.laid (a := s.heap.objs.size) (o := .dK []) (h' := s.heap.push { cls := .type "dict", data := .dict #[] }) (t' := s.toks) (fun _ _ q => Heap.get?_push_of_some _ q) (Nat.le_refl _) (dk_empty s.heap I.big)
  refine wpAny_Dict_walk (knd := mixKind X.prog X.w) hall hl h0 h15 (thn (h pins _ σ _ _ I1 (q _ hn)) fun ws s2 ⟨ps, H2, I2, rel, e, kvs, ep, lk, q2⟩ => ?_)
  subst ep
  obtain ⟨rs, c, rk⟩ := carries_of (P := X.prog) (w := X.w) rel
  obtain ⟨z, hd, vs0, r0, dd⟩ := dk_of I2.hok e
  cases r0
  refine ⟨rs, c, dd, fun h' dd' hs => ⟨.ref s.heap.objs.size, _, ?_, rfl, q2⟩⟩
  have hz : (mergeK [] kvs).length ≤ sizeLine := by
    have h1 := length_mergeK kvs []
    rw [List.length_nil] at h1
    rw [sizeLine_eq]; omega
  have he : ∃ q, h'.get? s.heap.objs.size = some q := let ⟨q, _, _, hq, _⟩ := dd'; ⟨q, hq⟩
  exact d_write I2 (by rw [e]; exact True.intro) hs he (dk_new hz hd (rk.merge .nil) dd')


/-! ### methods -/
structure M2 (X : Cx) (o : Expr) (m : Str) (apos : Pos) (e f : Expr) (cpos : Pos) : Prop where
  base : attributeBase o m X.env (eval o X.env) = eval o X.env
  few : ((backTo cpos (starEach [e, f] X.env)).all (fun x => !x.1) && (backToKw cpos (keywordEach [] X.env)).all (fun x => x.1.isSome)
    && decide (([e, f] : List Expr).length + ([] : List Keyword).length + (if ([] : List Keyword).isEmpty then 0 else 1) < 30)) = true
  line : (apos.endLine == cpos.line) = true
  trees : backTo cpos (starEach [e, f] X.env) = [(false, eval e X.env), (false, eval f X.env)]

/-- a is a dict, whatever its keys -/
def IsD (H : Hp) (a : Addr) : Prop := (∃ kvs, Rd H a (.dK kvs)) ∨ ∃ kvs, Rd H a (.dT kvs)
theorem isD_at {X : Cx} {pins : List (Addr × Obj)} {σ : St} {H : Hp} {s : Shared} {a : Addr} (I : Inv X pins σ H s) (d : IsD H a) :
    s.TypeIs (.ref a) "dict" ∧ (∀ b, Value.ref a = .ref b → ∃ ob, s.heap.get? b = some ob ∧ ob.dict = none) ∧ (a == sysModules) = false := by
  rcases d with ⟨kvs, e⟩ | ⟨kvs, e⟩
  · obtain ⟨_, hd, vs, _, dd⟩ := dk_rd I.hok e
    refine ⟨dd.typeIs, fun b q => ?_, hd⟩
    cases q
    obtain ⟨ob, _, _, h1, h2, _⟩ := dd
    exact ⟨ob, h1, h2.2.1⟩
  · obtain ⟨_, hd, xs, _, dd⟩ := dt_rd I.hok e
    refine ⟨dd.typeIs, fun b q => ?_, hd⟩
    cases q
    obtain ⟨ob, _, _, h1, h2, _⟩ := dd
    exact ⟨ob, h1, h2.2.1⟩

section
variable {X : Cx} {pins : List (Addr × Obj)} {σ : St} {H : Hp} {s : Shared} {a : Addr} {y d : V} {u r : Value} {o : Option V} {A : Around} {E : Value → Shared → Prop}
/-- d.get(y, x) -/
theorem d_get2 {Q : Value → Shared → Prop} (hu : A.units + 1 < cLine) (I : Inv X pins σ H s) (g : DGet H a y o) (ry : RelV y u) (rd : RelV d r) (h : ∀ w' s', Inv X pins σ H s' → RelV (o.getD d) w' → Q w' s') :
    wpAny (model X.prog X.w) A (call (.builtin "dict.get") [.ref a, u, r]) Q E s := by
  rcases g with ⟨kvs, k, e, ey, l⟩ | ⟨kvs, k, b, e, ey, eb, l⟩
  · subst ey
    obtain ⟨z, hd, vs, rel, dd⟩ := dk_rd I.hok e
    refine call_meetsIn PySem.F.slot_dict_get dd.typeIs PySem.F.entry_dict_get (PySem.F.args_dict_get_3 _ _ _) (meets_dict_get_default (mixKind X.prog X.w) a (kV_is ry) hd r) ⟨_, dd.mapOf, h _ _ (I.tok _) ?_⟩
    rw [l]
    exact (rel.val k).getD rd
  · subst ey
    cases (show u = Value.ref b from ry)
    obtain ⟨z, hd, xs, rel, dd⟩ := dt_rd I.hok e
    refine call_meetsIn PySem.F.slot_dict_get dd.typeIs PySem.F.entry_dict_get (PySem.F.args_dict_get_3 _ _ _) (meetsH_dict_get_default (tupleKind (mixKind X.prog X.w)) a b hd r) ⟨tupleKind_room_in1 hu, k, xs, key_of I.hok eb, dd, h _ _ (I.tok _) ?_⟩
    rw [l]
    exact (rel.val k).getD rd
end

def tDGet2 (td ty tx : TE) : TE := fun σ H Q => td σ H fun x H1 => ∃ a, x = .ref a ∧ IsD H1 a ∧ ty σ H1 fun y H2 => tx σ H2 fun z H3 => ∃ o, DGet H3 a y o ∧ Q (o.getD z) H3
section
variable {X : Cx} {o e f : Expr} {apos cpos : Pos} {td ty tx : TE}
theorem pe_dget2 (hu : X.A.units + 1 < cLine) (ho : PE X o td) (he : PE X e ty) (hf : PE X f tx) (m : M2 X o "get" apos e f cpos) : PE X (.Call (.Attribute o "get" apos) [e, f] [] cpos) (tDGet2 td ty tx) := by
  intro pins s σ H Q I h
  refine wpAny_Call_method m.base m.few m.line PySem.F.plainAttrs_dict PySem.F.slot_dict_get PySem.F.type_dict_get (thn (ho pins s σ H _ I h) fun u s1 ⟨x, H1, I1, rx, a, ex, d, q1⟩ => ?_)
  subst ex
  obtain rfl : u = Value.ref a := rx
  obtain ⟨t1, t2, _⟩ := isD_at I1 d
  refine ⟨t1, t2, ?_⟩
  rw [m.trees]
  refine Calls.callWith_builtin rfl (Calls.evalArgs_plain (Calls.spliced_cons (thn (he pins s1 σ H1 _ I1 q1) fun iv s2 ⟨y, H2, I2, ry, q2⟩ =>
    Calls.spliced_cons (thn (hf pins s2 σ H2 _ I2 q2) fun fv s3 ⟨z, H3, I3, rz, ov, g, q3⟩ => Calls.spliced_nil ?_))))
  exact d_get2 hu I3 g ry rz fun w' s4 I4 rw' => ⟨_, H3, I4, rw', q3⟩
end

/-! ### dict(d): a copy -/
section
variable {X : Cx} {pins : List (Addr × Obj)} {σ : St} {H : Hp} {s : Shared} {a : Addr} {kvs : List (Key × V)} {A : Around} {E : Value → Shared → Prop}
end


section
variable {X : Cx} {pins : List (Addr × Obj)} {σ : St} {H : Hp} {s : Shared} {a : Addr} {y : V} {u : Value} {A : Around} {E : Value → Shared → Prop}
end
end L2

namespace Att
open PySem PySem.W PySem.Calls PyProof.Rows

/-! ### the script -/
theorem ints_of_wellAll {P : Params} {h : Heap} : ∀ (ns : List Int) (vs : List Value), WellAll P h vs (ns.map WData.int) → IntsAre vs ns := by
  intro ns
  induction ns with
  | nil =>
    intro vs w
    rw [List.map_nil] at w
    cases w
    exact .nil
  | cons n ns ih =>
    intro vs w
    rw [List.map_cons] at w
    cases w with
    | cons a b =>
      cases a
      exact .cons _ _ (ih _ b)

theorem script_of {l : OpenLaw} {n : Nat} (hn : l.most = some n) {P : Params} {h : Heap} {args : List WData} {vals : List Value}
    (hpre : l.row.toRowW.claim.pre args = true) (hwl : WellAll P h vals args) :
    ∃ a vs ns, vals = [Value.ref a] ∧ args = [WData.list (ns.map WData.int)] ∧ h.get? a = some { cls := .type "list", data := .seq vs.toArray } ∧ IntsAre vs ns ∧ ns.length ≤ n := by
  have hsh : WShape.hasAll [] args [.list .int] = true := (pre_splitW hpre).1
  have hc : l.pre.holds [] { args := args } = true := (pre_splitW hpre).2
  obtain ⟨d, r, rfl, h1, h2⟩ := hasAllW_cons hsh
  obtain rfl := hasAllW_nil h2
  obtain ⟨xs, rfl, h3⟩ := hasW_list h1
  obtain ⟨ns, rfl⟩ := items_int h3
  have hlen : ns.length ≤ n := by
    unfold OpenLaw.pre at hc
    have h4 : (WTm.not (.lt (.lit (.int (n : Int))) (.len (.arg 0)))).holds [] { args := [.list (ns.map .int)] } = true := by
      have h4 := (holds_andW hc).1
      rw [hn] at h4
      exact h4
    have h5 := condW_of h4 (w_not (w_lt w_lit (w_len_list (w_arg rfl))))
    rw [List.length_map] at h5
    refine Nat.le_of_not_lt fun q => ?_
    have q' : (n : Int) < ((ns.length : Nat) : Int) := by omega
    first
      | (rw [decide_eq_true q'] at h5; exact absurd h5 (by decide))
      | (simp at h5; omega)
  cases hwl with
  | cons w1 w2 =>
    cases w2
    cases w1 with
    | list ho hall => exact ⟨_, _, ns, rfl, rfl, ho, ints_of_wellAll ns _ hall, hlen⟩

theorem post_true (l : OpenLaw) (args : List WData) : l.row.toRowW.claim.post args (.bool true) args = true :=
  postW_of (r := l.row.toRowW) (X := (true == true))
    (show WShape.has [] (.bool true) .bool = true by first | rfl | decide | simp [WShape.has, WShape.arms, WShape.armsAll])
    (show (WTm.eq .res (.lit (.bool true))).value [] { args := args, res := some (.bool true), after := args } = some (.bool (true == true)) from w_eq_bool (w_res rfl) w_lit) rfl

/-! ### the attachment: holds_open's last premise (the goal 'hc' behind k_head) from a wpAny of the law's body -/
/-- the same from a codeAny of the CALL (for a layer whose function contracts speak of calls) -/
theorem attach_call {l : OpenLaw} {n : Nat} {q : Program} {loose : List Str} {XP : (Str → Option Value) → Heap → Prop} {YP : World → Heap → Prop} {d : DefRec}
    (hn : l.most = some n) (hdf : d.params.defaults = [])
    (call : ∀ (w : World) (s₀ s₁ : Shared) (mg mb : Str → Option Value) (fa : Addr) (o : Obj) (pm cd doc : Value) (a : Addr) (vs : List Value) (ns : List Int),
      Ground q loose [] XP w s₀ mg mb s₁.heap → YP w s₁.heap →
      s₁.heap.get? fa = some o → o.data = .func (docDef d.name d.params d.body d.scope pm cd doc) → s₁.heap.CodeRec cd d.name → mg d.name = some (.ref fa) →
      s₁.heap.get? a = some { cls := .type "list", data := .seq vs.toArray } → IntsAre vs ns → ns.length ≤ n → s₁.gens = #[] →
      codeAny (model l.prog w) callerA (.call (.ref fa) ⟨[.ref a], []⟩) (fun r s' => r = .ok (.ret (.bool true)) ∧ OldK s₁.heap s'.heap ∧ s'.os = s₁.os ∧ AllBare s'.gens) s₁) :
    WalkO q loose XP YP l.row.toRowW d [] (fun f vs => PySem.call f vs) := by
  intro w s₀ s₁ mg mb G Y fa o pm cd doc dV kV ho hd hcd hD hmg hg args vals as hpre hlay hrd hwl hlo
  obtain rfl : dV = .none := Dflts.none hD hdf
  obtain rfl : kV = .none := Dflts.noKw hD
  obtain ⟨a, vs, ns, rfl, rfl, hobj, hints, hlen⟩ := script_of hn hpre hwl
  refine enter_call (codeAny_mono (call w s₀ s₁ mg mb fa o pm cd doc a vs ns G Y ho (fd_plain hd) hcd hmg hobj hints hlen hg) fun r s' hq => ?_)
  obtain ⟨rfl, h2, h3, h4⟩ := hq
  exact ⟨.inl ⟨.bool true, .bool true, [], rfl, fun _ => rfl, .bool true, post_true l _, fun _ => ⟨List.Pairwise.nil, fun _ hm => (nomatch hm)⟩⟩, h2, h3, h4⟩

/-! ### rules over ANY heap (no ledger) from facts about the written part K: the library's own take a ledger (News) for what they write -/
section
variable {prog : Program} {w : World} {A : Around} {E : Value → Shared → Prop} {s : Shared} {K : Frag}

/-! the whole heap as the ledger: makes every rule that writes through a ledger a rule over any heap -/
end
end Att

namespace L2
open PySem PySem.Spec PyProof.Rows

theorem vals_ints : ∀ {vs : List Value} {ns : List Int}, IntsAre vs ns → Vals (ns.map V.int) vs
  | _, _, .nil => .nil
  | _, _, .cons n t h => .cons ⟨t, rfl⟩ (vals_ints h)

/-- nothing is tracked but the script, known to the object (or it is an object of the module) -/
def Only (H : Hp) : Prop := ∀ b, H b = none ∨ ∃ o xs, H b = some (.frz o (.lst xs))

/-- THE HEAD: the law's promise, at the heap behind the top. F, the promise of the law's def, may use that base is part of the heap (so K.In base, base.Ns mainGlobals mg stand in Mod) -/
theorem law_call {P : Program} {w : World} {K : PySem.W.Frag} {mg mb : Str → Option Value} {CX : CXT} {k : Nat} {fa a : Addr} {fd : FuncData} {x : Str} {sp : Sp} {s₁ : Shared} {vs : List Value} {ns : List Int}
    (KX : K.In s₁.heap) (hns : s₁.heap.Ns mainGlobals mg) (hb : s₁.heap.Ns builtinsNs mb) (hbb : ∀ x : Str, x ≠ "__name__" → mb x = bootBuiltins x) (hlim : s₁.heap.NoLimit) (hg : s₁.gens = #[])
    (ha : s₁.heap.get? a = some { cls := .type "list", data := .seq vs.toArray }) (hi : IntsAre vs ns) (hl : ns.length ≤ sizeLine) (hr : Room k callerA)
    (F : ∀ base : Heap, K.In base → base.Ns mainGlobals mg → FnOk P w K mg base CX k fa fd [x] sp) (hbind : ∀ (s : Shared) (u : Value), BindsTo s fd ⟨[u], []⟩ [(x, u)])
    (hsp : ∀ H : Hp, Only H → SqL K H a (ns.map V.int) → sp [.ref a] H (fun v _ => v = .bl true) fun _ _ _ => False)
    (hCX : ∀ H e s', CX [] H s₁ (fun _ _ _ => False) e s' → False) :
    codeAny (model P w) callerA (.call (.ref fa) ⟨[.ref a], []⟩) (fun r s' => r = .ok (.ret (.bool true)) ∧ OldK s₁.heap s'.heap ∧ s'.os = s₁.os ∧ AllBare s'.gens) s₁ := by
  have rv := vals_ints hi
  have lenV := hi.length
  -- from an abstract heap in which nothing but the script may be tracked
  have core : ∀ H : Hp, Only H → SqL K H a (ns.map V.int) → HOk P w H s₁.heap → (∀ b, H b ≠ none → b = a) → (H a ≠ none → K.lookup a = none) →
      codeAny (model P w) callerA (.call (.ref fa) ⟨[.ref a], []⟩) (fun r s' => r = .ok (.ret (.bool true)) ∧ OldK s₁.heap s'.heap ∧ s'.os = s₁.os ∧ AllBare s'.gens) s₁ := by
    intro H hO hS hok hA hK
    have base_of : ∀ {b : Addr} {o : Obj}, s₁.heap.get? b = some o → H b = none → (hidT s₁.heap H).get? b = some o := fun e n => hidT_get e n
    have noA : ∀ {b : Addr} {o : Obj} {es : Array DictEntry} {ep : Nat}, s₁.heap.get? b = some o → o.data = .dict es ep → H b = none := fun {b o es ep} e d => by
      cases q : H b with
      | none => rfl
      | some u =>
        have e' : b = a := hA b (by rw [q]; simp)
        subst e'
        rw [ha] at e; cases e
        have d' : Data.seq vs.toArray _ = Data.dict es ep := d
        cases d'
    have nsK : ∀ {b : Addr} {m : Str → Option Value}, s₁.heap.Ns b m → (hidT s₁.heap H).Ns b m := fun {b m} ⟨o, es, ep, e, d, r⟩ => ⟨o, es, ep, base_of e (noA e d), d, r⟩
    have hKb : K.In (hidT s₁.heap H) := fun b o e => base_of (KX b o e) (by
      cases q : H b with
      | none => rfl
      | some u =>
        have e' : b = a := hA b (by rw [q]; simp)
        subst e'
        rw [hK (by rw [q]; simp)] at e; cases e)
    have hM : Mod K mg (hidT s₁.heap H) := ⟨hKb, nsK hns, ⟨mb, nsK hb, hbb⟩, let ⟨mc, h1, h2⟩ := hlim; ⟨mc, nsK h1, h2⟩⟩
    have e0 : Env0 P w K mg (hidT s₁.heap H) callerA [] s₁ H := ⟨rfl, hM, fun b o e => of_hidT e, Nat.le_of_eq (hidT_size _ _), trivial, fun b hb => absurd (show b ∈ ([] : List Addr) from hb) (by simp), hok, .of_eq hg⟩
    refine codeAny_mono ((F _ hKb (nsK hns)).run callerA [] s₁ H ⟨[.ref a], []⟩ [.ref a] [.ref a] _ _ hr e0 (hbind s₁ (.ref a)) (.cons rfl .nil) (hsp H hO hS)) fun r s' h => ?_
    cases r with
    | error e => exact (hCX H e s' h).elim
    | ok fl =>
      cases fl with
      | next => exact False.elim h
      | brk => exact False.elim h
      | cont => exact False.elim h
      | ret u =>
        obtain ⟨v, H', os, bare, un, hok', r', q⟩ := h
        have q' : v = .bl true := q
        subst q'
        obtain rfl : u = Value.bool true := r'
        refine ⟨rfl, OldK.of_keep fun b o e => ?_, os, bare⟩
        cases q : H b with
        | none => exact un.keep b o e q (by intro z; exact absurd (show b ∈ ([] : List Addr) from z) (by simp)) (by simp)
        | some u =>
          rcases hO b with z | ⟨ob, xs, z⟩
          · rw [q] at z; cases z
          · have z2 := un.frzs b ob _ z
            obtain ⟨e1, _⟩ := hok b _ z
            obtain ⟨e2, _⟩ := hok' b _ z2
            rw [e] at e1; cases e1
            exact e2
  cases hk : K.lookup a with
  | some o =>
    -- the script is one of the module's own objects
    have e := KX a o hk
    rw [ha] at e
    cases e
    refine core (fun _ => none) (fun _ => .inl rfl) (.inr ⟨_, vs.toArray, _, hk, rfl, rfl, rfl, by rw [List.size_toArray, lenV]; exact hl, by simpa using rv⟩) (fun b u z => by have z' : (none : Option HO) = some u := z; cases z') (fun b z => absurd rfl z) fun z => absurd rfl z
  | none =>
    refine core (fun b => if b = a then some (.frz { cls := .type "list", data := .seq vs.toArray } (.lst (ns.map V.int))) else none) (fun b => ?_) (.inl (.inr ⟨{ cls := .type "list", data := .seq vs.toArray }, if_pos rfl⟩)) (fun b u z => ?_) (fun b z => ?_) fun _ => hk
    · by_cases hb : b = a
      · exact .inr ⟨_, _, if_pos hb⟩
      · exact .inl (if_neg hb)
    · by_cases hb : b = a
      · have z' := (if_pos hb).symm.trans z
        cases z'
        subst hb
        exact ⟨ha, by rw [List.length_map]; exact hl, vs, _, rv, ha⟩
      · have z' := (if_neg hb).symm.trans z
        cases z'
    · by_cases hb : b = a
      · exact hb
      · exact absurd (if_neg hb) z
end L2

namespace L2
open PySem PySem.Spec PyProof.Rows

/-- the goal that k_head leaves (case hc), from the law's promise. F gives the function object fd (K's own) once, then the promise over every base -/
theorem walk_of {l : PySem.W.OpenLaw} {n k : Nat} {q : Program} {loose : List Str} {XP : (Str → Option Value) → Heap → Prop} {YP : World → Heap → Prop} {d : DefRec} {K : Params → PySem.W.Frag} {CX : World → CXT} {sp : World → Sp} {x : Str}
    (hn : l.most = some n) (hn2 : n ≤ sizeLine) (hdf : d.params.defaults = []) (hr : Room k callerA)
    (hY : ∀ (w : World) (h : Heap), YP w h → (K w.params).In h)
    (F : ∀ (w : World) (mg : Str → Option Value) (fa : Addr) (h : Heap), (K w.params).In h → h.Ns mainGlobals mg → mg d.name = some (.ref fa) →
      ∃ fd : FuncData, (∀ (s : Shared) (u : Value), BindsTo s fd ⟨[u], []⟩ [(x, u)]) ∧
        ∀ base : Heap, (K w.params).In base → base.Ns mainGlobals mg → FnOk l.prog w (K w.params) mg base (CX w) k fa fd [x] (sp w))
    (hsp : ∀ (w : World) (H : Hp) (a : Addr) (ns : List Int), ns.length ≤ n → Only H → SqL (K w.params) H a (ns.map V.int) → sp w [.ref a] H (fun v _ => v = .bl true) fun _ _ _ => False)
    (hCX : ∀ (w : World) (H : Hp) (s : Shared) (e : Value) (s' : Shared), CX w [] H s (fun _ _ _ => False) e s' → False) :
    PySem.W.WalkO q loose XP YP l.row.toRowW d [] (fun f vs => PySem.call f vs) := by
  refine Att.attach_call hn hdf fun w s₀ s₁ mg mb fa o pm cd doc a vs ns G Y ho hd hcd hmg hobj hints hlen hg => ?_
  have KX := hY w _ Y
  obtain ⟨fd, hb, hF⟩ := F w mg fa _ KX G.T.g hmg
  exact law_call KX G.T.g G.T.b G.T.builtins G.T.nolimit hg hobj hints (Nat.le_trans hlen hn2) hr hF hb (fun H hO hS => hsp w H a ns hlen hO hS) fun H e s' => hCX w H s₁ e s'
end L2

/- THE LAST THEOREM (shape; LID, My.* are yours):
   My.Adr: a structure of the addresses that your layer names (classes, functions); My.Txt K t: a structure (Prop) of the equations over K;
   My.txt_mk : {K} {implicit addresses ..} (e1 : nsIn K mainGlobals "law" = some (some (.ref f))) (e2 : K.lookup f = some ⟨oc, od, .func (fnOf "law" "law" params body scope dV kV doc pm an cdv ct), sl⟩) (e3 : codeIn K cdv "law" = true) .. : ∃ t, My.Txt K t

set_option maxRecDepth 100000 in
set_option maxHeartbeats 0 in
theorem PySem.Challenge.cw_LID_holds : PySem.Challenge.rw_LID.Holds := by
  w_on; o_law; k_head; (case hw => w_witness2)
  k_fill
  refine L2.walk_of (l := PySem.Challenge.rw_LID) (n := 63) (k := 40) (x := "script") (CX := fun w => ..) (sp := fun _ => My.sp_law) rfl (by decide) rfl ⟨rfl, by decide, by decide⟩ (fun w h Y => PySem.W.kIn_of Y) ?F ?S ?C
  case F =>
    intro w mg fa h KX G hmg
    have T : ∃ t, My.Txt (L2.KOf KX) t := by
      dsimp only [L2.KOf]                          -- K must stand as «<heap const> w.params» for k_is
      refine' My.txt_mk ?e1 ?e2 ?e3 ..
      (case e1 => PySem.W.k_is)                    -- in the order: a name -> its address -> its object -> its parts
      (case e2 => PySem.W.k_is)
      ..
    obtain ⟨t, T⟩ := T
    have e0 := hmg.symm.trans (PySem.W.mg_of KX G T.law)
    cases e0                                       -- fa is the law's own address
    exact ⟨_, fun s u => .of_eq rfl, fun base kb nb => My.law_fn T kb nb⟩     -- if «.of_eq rfl» comes too early: refine' ⟨_, ?b, fun base kb nb => My.law_fn T kb nb⟩; exact fun s u => .of_eq rfl
  case S => exact fun w H a ns hl hO hS => ..
  case C => exact ..
(the tactic k_is has no namespace: write k_is) -/

/-! SHORT WORDS over the layer: a def of the text, its body, what a loop and a test want. -/
namespace L2
open PySem PySem.Spec PyProof.Rows

/-! ### the text by places -/
def defArgs (s : Stmt) : Arguments := match s with
  | .FunctionDef _ a _ _ _ _ _ _ _ _ => a
  | _ => { posonlyargs := [], args := [], vararg := none, kwonlyargs := [], kw_defaults := [], kwarg := none, defaults := [] }
def defBody (s : Stmt) : List Stmt := match s with
  | .FunctionDef _ _ b _ _ _ _ _ _ _ => b
  | _ => []
def defScope (s : Stmt) : Scope := match s with
  | .FunctionDef _ _ _ _ _ _ sc _ _ _ => sc
  | _ => { kind := .function, names := [], isGenerator := false, isCoroutine := false }

/-! ### no exception leaves a def -/
abbrev E0 : XK := fun _ _ _ => False
/-! ### a def (or method) of the text as it stands behind the top -/
structure Fun (K : PySem.W.Frag) (x qual : Str) (st : Stmt) (f : Addr) (fd : FuncData) : Prop where
  ex : ∃ (oc : Value) (od : Option Addr) (kV doc pm : Value) (an : Option Addr) (cdv ct : Value) (osl : Array (Option Value)),
    fd = PySem.W.fnOf x qual (defArgs st) (defBody st) (defScope st) .none kV doc pm an cdv ct ∧ K.lookup f = some ⟨oc, od, .func fd, osl⟩ ∧ PySem.W.codeIn K cdv qual = true
  kp : PySem.W.keepIn K (.ref f) = true
section
variable {P : Program} {w : World} {K : PySem.W.Frag} {mg : Str → Option Value} {base : Heap}
/-- how its arguments bind (no defaults): h is «fun _ _ _ _ _ _ us hl => match us, hl with | [_, _], _ => rfl», one _ a parameter -/
theorem Fun.binds {x qual : Str} {st : Stmt} {f : Addr} {fd : FuncData} {ps : List Str} (F : Fun K x qual st f fd)
    (h : ∀ (kV doc pm : Value) (an : Option Addr) (cdv ct : Value) (us : List Value), us.length = ps.length → bindArgs (PySem.W.fnOf x qual (defArgs st) (defBody st) (defScope st) .none kV doc pm an cdv ct) ⟨us, []⟩ = pure (ps.zip us)) : Binds K fd ps [] := by
  obtain ⟨oc, od, kV, doc, pm, an, cdv, ct, osl, rfl, lk, hcd⟩ := F.ex
  exact .all (h kV doc pm an cdv ct)
end
theorem hu_of {A : Around} {k : Nat} (hr : Room k A) : A.units + 1 < cLine := Nat.lt_of_le_of_lt (Nat.add_le_add_left (by decide : 1 ≤ 64) _) hr.units
/-! ### expressions in short: the name that stands in the i-th slot -/
section
variable {X : Cx}
theorem pv (i : Nat) {x : Str} {pos : Pos} (hN : X.N[i]? = some x := by rfl) (hv : Vis X.env.scope x := by first | exact Or.inl rfl | exact Or.inr (Or.inl rfl) | exact Or.inr (Or.inr rfl)) (hd : (x == ("__debug__" : Str)) = false := by decide)
    (hcd : (x == ("__classdict__" : Str)) = false := by decide) : PE X (.Name x pos) (tVar i) := pe_var hN hv hd hcd
end

/-! ### tests -/
theorem iteF {A B : Prop} (h : B) : if false = true then A else B := by
  rw [if_neg Bool.false_ne_true]
  exact h
theorem iteT {A B : Prop} (h : A) : if true = true then A else B := by
  rw [if_pos rfl]
  exact h
/-! ### heaps -/
/-- all that was tracked is as it was -/
def Same (H H' : Hp) : Prop := ∀ b o, H b = some o → H' b = some o
theorem Same.refl (H : Hp) : Same H H := fun _ _ h => h
theorem Same.trans {H H1 H2 : Hp} (a : Same H H1) (b : Same H1 H2) : Same H H2 := fun c o h => b c o (a c o h)
end L2
namespace L2
open PySem PySem.Spec PyProof.Rows
section
variable {X : Cx}
end
/-! ### a dict's pairs: keys that differ -/
section
variable {κ : Type} [DecidableEq κ]
end
end L2

set_option Elab.async false
set_option linter.all false
set_option maxRecDepth 100000
/-! own errors: raised, passed on, caught -/
namespace L2
open PySem PySem.Spec PyProof.Rows

theorem ObjOk.ex {P : Program} {w : World} {H : Hp} {h : Heap} {a : Addr} {o : HO} (x : ObjOk P w H h a o) : ∃ ob, h.get? a = some ob := by
  cases o with
  | lst xs => obtain ⟨_, _, _, _, e⟩ := x; exact ⟨_, e⟩
  | tup xs => obtain ⟨_, _, _, ob, e, _⟩ := x; exact ⟨_, e⟩
  | dK kvs => obtain ⟨_, _, _, _, o, _, _, e, _⟩ := x; exact ⟨_, e⟩
  | dT kvs => obtain ⟨_, _, _, _, o, _, _, e, _⟩ := x; exact ⟨_, e⟩
  | set S n => obtain ⟨o, _, _, _, e, _⟩ := x; exact ⟨_, e⟩
  | ins C dx fs => obtain ⟨_, _, _, e, _⟩ := x; exact ⟨_, e⟩
  | own y => exact x
  | xd fs => obtain ⟨_, ⟨_, _, _, e, _⟩, _⟩ := x; exact ⟨_, e⟩
  | rng lo hi => obtain ⟨_, _, _, e⟩ := x; exact ⟨_, e⟩
  | frz ob u => obtain ⟨e, _⟩ := x; exact ⟨_, e⟩
  | tbl ps => exact ⟨_, (show h.get? a = some _ from x)⟩
  | met f y => exact ⟨_, (show h.get? a = some _ from x)⟩
  | ext φ => obtain ⟨_, e, _⟩ := x; exact e

/-- an error of the class cls flies at e, its trace at T -/
def FlyAt (h : Heap) (e T : Addr) (cls : Value) : Prop :=
  ∃ oe vs oT ts a0, h.get? e = some oe ∧ oe.cls = cls ∧ oe.data = .fields vs ∧ vs[0]? = some a0 ∧ vs[1]? = some (.ref T) ∧ T ≠ e ∧ h.get? T = some oT ∧ oT.data = .fields ts ∧ ts[3]? = some .none

/-- what lies behind a call that raises -/
def CXE (P : Program) (w : World) : CXT := fun outer H s E e s' =>
  ∃ a T cls H', e = .ref a ∧ FlyAt s'.heap a T cls ∧ s.heap.get? a = none ∧ s.heap.get? T = none ∧ H' a = none ∧ H' T = none ∧ s'.os = s.os ∧ AllBare s'.gens ∧
    Un (frs outer) [] H H' s.heap s'.heap ∧ HOk P w H' s'.heap ∧ E cls none H'

theorem passE0 {P : Program} {w : World} {X : Cx} : Passes (CXE P w) X E0 := fun _ _ _ _ _ _ _ ⟨_, _, _, _, _, _, _, _, _, _, _, _, _, _, h⟩ => h.elim

section
variable {X : Cx} {pins : List (Addr × Obj)} {σ : St} {H : Hp} {s : Shared}

/-- the frame's own step: everything but the frames and ys is as it was, the frames up to slots -/
theorem left_core {E : XK} {a : Addr} {cls a0 : Value} {ys : List Addr} {h'' : Heap} (I : Inv X pins σ H s) (hex : X.ex = []) (hstk : X.stack = X.env :: X.outer)
    (hys : ∀ y ∈ ys, H y = none ∧ X.s₀.heap.get? y = none) (ha : H a = none) (ha0 : X.s₀.heap.get? a = none)
    (fl : Heap.FlyingW (PySem.W.hideAll s.heap (frs X.stack ++ ys)) X.outer a cls a0 h'') (up : ∀ b ∈ frs X.stack, ∀ o, s.heap.get? b = some o → (∀ vs, o.data ≠ .fields vs) → ∃ sl, h''.get? b = some { o with slots := sl }) (hE : E cls none H) :
    CXE X.prog X.w X.outer X.H₀ X.s₀ E (.ref a) { s with heap := h'' } := by
  obtain ⟨f1, f2, f3, oe, vs, T, oT, ts, t1, ⟨t2, t3⟩, t4, t5, t6, t7, t8, t9, t10⟩ := fl
  have nex : ∀ b : Addr, b ∉ X.ex := fun b hb => by rw [hex] at hb; cases hb
  have inB : ∀ b o, s.heap.get? b = some o → b ∉ frs X.stack → b ∉ ys → h''.get? b = some o := fun b o e n1 n2 =>
    f1 b o (PySem.W.hideAll_get _ e fun hm => (List.mem_append.mp hm).elim n1 n2)
  have fr : ∀ b ∈ frs X.stack, ∃ o, s.heap.get? b = some o ∧ ∀ vs, o.data ≠ .fields vs := fun b hb => (I.stack.mem hb).2
  have old : ∀ b o, X.s₀.heap.get? b = some o → b ∉ ys := fun b o e hb => by rw [(hys b hb).2] at e; cases e
  have notF : ∀ b, b ∈ frs X.stack → b ∈ X.env.locals :: X.fs := I.stkSub
  have neL : ∀ b o, X.s₀.heap.get? b = some o → b ≠ X.env.locals := fun b o e => Nat.ne_of_lt (Nat.lt_of_lt_of_le (Heap.lt_size e) I.ok.above)
  have noT : ∀ o, s.heap.get? T = some o → T ∉ ys → False := fun o e n2 => by
    by_cases hf : T ∈ frs X.stack
    · obtain ⟨o2, e2, d2⟩ := fr T hf
      obtain ⟨sl, e3⟩ := up T hf o2 e2 d2
      rw [t8] at e3
      cases e3
      exact d2 _ t9
    · have := PySem.W.hideAll_get (frs X.stack ++ ys) e fun hm => (List.mem_append.mp hm).elim hf n2
      rw [t6] at this
      cases this
  refine ⟨a, T, cls, H, rfl, ⟨oe, vs, oT, ts, a0, t1, t2, t4, t3, t5, t7, t8, t9, t10⟩, ha0, ?_, ha, ?_, I.os, I.bare, ⟨fun b o e n hb hx => ?_, fun b o e n hb hx => ?_, fun b o e n hx => I.base.free b o e n (nex b), fun b o e hx => ?_, I.base.tups, I.base.frzs, I.base.tbls⟩, fun b o e => ?_, hE⟩
  · cases q : X.s₀.heap.get? T with
    | none => rfl
    | some o =>
      obtain ⟨o', e'⟩ := I.base.there T o q (nex T)
      exact (noT o' e' (old T o q)).elim
  · cases q : H T with
    | none => rfl
    | some u =>
      obtain ⟨ob, e⟩ := (I.hok T u q).ex
      exact (noT ob e fun hm => by rw [(hys T hm).1] at q; cases q).elim
  · refine inB b o (I.base.keep b o e n hb (nex b)) (fun hm => ?_) (old b o e)
    rcases List.mem_cons.mp (notF b hm) with z | z
    · exact neL b o e z
    · exact hb z
  · obtain ⟨sl, e1⟩ := I.base.slot b o e n hb (nex b)
    have hm : b ∈ frs X.stack := by rw [hstk]; unfold frs; rw [List.filterMap_cons]; split <;> first | exact hb | exact List.mem_cons_of_mem _ hb
    obtain ⟨o2, e2, d2⟩ := fr b hm
    rw [e1] at e2
    cases e2
    obtain ⟨sl', e3⟩ := up b hm _ e1 d2
    exact ⟨sl', e3⟩
  · obtain ⟨o', e1⟩ := I.base.there b o e (nex b)
    by_cases hm : b ∈ frs X.stack
    · obtain ⟨o2, e2, d2⟩ := fr b hm
      obtain ⟨sl', e3⟩ := up b hm _ e2 d2
      exact ⟨_, e3⟩
    · exact ⟨o', inB b o' e1 hm (old b o e)⟩
  · refine (I.hok b o e).stay (fun c u hc q => inB c u q (fun hm => ?_) fun hm => ?_) (fun _ q => q) fun _ _ q => q
    · have z := I.stkFree c hm
      rcases hc with rfl | hc
      · rw [e] at z; cases z
      · rw [hc] at z; cases z
    · have z := (hys c hm).1
      rcases hc with rfl | hc
      · rw [e] at z; cases z
      · rw [hc] at z; cases z

theorem hide_frames (I : Inv X pins σ H s) (ys : List Addr) : s.heap.FunFrames (PySem.W.hideAll s.heap (frs X.stack ++ ys)) X.stack :=
  PySem.W.funFrames_hide I.stack fun env he a hf => List.mem_append_left _ (List.mem_filterMap.mpr ⟨env, he, hf⟩)
end

/-- an error that is made right here -/
def Takes (X : Cx) (E : XK) : Prop := ∀ (pins : List (Addr × Obj)) (σ : St) (H : Hp) (s : Shared) (h' : Heap) (a : Addr) (cls : Value) (args : List Value),
  Inv X pins σ H s → Heap.MadeExcOf s.heap h' a cls args → E cls none H → X.xe (.ref a) { s with heap := h' }

/-- a body of a frame of its own: an error leaves it -/
structure Fram (X : Cx) (E : XK) : Prop where
  ex : X.ex = []
  stk : X.stack = X.env :: X.outer
  fr : X.env.frame = some X.env.locals
  xe : ∀ e s', wpAny (model X.prog X.w) X.A (leaving X.env e) (fun _ s'' => CXE X.prog X.w X.outer X.H₀ X.s₀ E e s'') (fun e' s'' => CXE X.prog X.w X.outer X.H₀ X.s₀ E e' s'') s' → X.xe e s'
theorem fram_of {P : Program} {w : World} {K : PySem.W.Frag} {mg : Str → Option Value} {base : Heap} {N : List Str} {qual : Str} {scope : Scope} {f : Addr} {cd : Value} {A : Around} {outer : List Env} {s : Shared} {H : Hp} {E : XK} :
    Fram (cxOf (CXE P w) P w K mg base N qual scope f cd A outer s H E) E := ⟨rfl, rfl, rfl, fun _ _ h => h⟩

section
variable {X : Cx} {E : XK}
theorem takes_gen (F : Fram X E) : Takes X E := by
  intro pins σ H1 s1 h' a cls args I hx hE
  have nex : ∀ b : Addr, b ∉ X.ex := fun b hb => by rw [F.ex] at hb; cases hb
  refine F.xe _ _ ?_
  have ff : s1.heap.FunFrames (PySem.W.hideAll s1.heap (frs X.stack ++ [])) (X.env :: X.outer) := by
    have z := hide_frames I []
    rw [F.stk] at z ⊢
    exact z
  refine wpAny_leaves_madeW (s := { s1 with heap := h' }) (h := s1.heap) (base := PySem.W.hideAll s1.heap (frs X.stack ++ [])) (by rw [← F.stk]; exact I.ok.frames) F.fr
    (fun b o q => PySem.W.of_hideAll _ q) ff hx fun h'' t fl _ _ up => ?_
  refine left_core (s := s1) (ys := []) I F.ex F.stk (fun y hy => nomatch hy) ?_ ?_ fl (fun b _ o e d => ?_) hE
  · cases q : H1 a with
    | none => rfl
    | some u =>
      obtain ⟨ob, e⟩ := (I.hok a u q).ex
      have := hx.new
      rw [e] at this
      cases this
  · cases q : X.s₀.heap.get? a with
    | none => rfl
    | some o =>
      obtain ⟨o', e'⟩ := I.base.there a o q (nex a)
      have := hx.new
      rw [e'] at this
      cases this
  · exact up b o (hx.keeps b o e) d

theorem passes_gen (F : Fram X E) : Passes (CXE X.prog X.w) X E := by
  intro pins σ H1 s1 e s' I h
  obtain ⟨a, T, cls, H', rfl, ⟨oe, vs, oT, ts, a0, t1, t2, t3, t4, t5, t6, t7, t8, t9⟩, n1, n2, ha, hT, os, bare, un, hok, hE⟩ := h
  have nex : ∀ b : Addr, b ∉ X.ex := fun b hb => by rw [F.ex] at hb; cases hb
  have I' : Inv X pins σ H' s' := I.call' os un hok bare fun b hb => nomatch hb
  have old : ∀ b, s1.heap.get? b = none → X.s₀.heap.get? b = none := fun b hb => by
    cases q : X.s₀.heap.get? b with
    | none => rfl
    | some o =>
      obtain ⟨o', e'⟩ := I.base.there b o q (nex b)
      rw [hb] at e'
      cases e'
  refine F.xe _ _ ?_
  have ff : s'.heap.FunFrames (PySem.W.hideAll s'.heap (frs X.stack ++ [a, T])) (X.env :: X.outer) := by
    have z := hide_frames I' [a, T]
    rw [F.stk] at z ⊢
    exact z
  refine wpAny_leaves_onW (base := PySem.W.hideAll s'.heap (frs X.stack ++ [a, T])) (cls := cls) (a0 := a0) (by rw [← F.stk]; exact I.ok.frames) F.fr
    ⟨fun b o q => PySem.W.of_hideAll _ q, PySem.W.hideAll_none _ (List.mem_append_right _ (by simp)), ff, oe, vs, T, oT, ts, t1, ⟨t2, t4⟩, t3, t5, PySem.W.hideAll_none _ (List.mem_append_right _ (by simp)), t6, t7, t8, t9⟩
    fun h'' fl up => ?_
  refine left_core I' F.ex F.stk (fun y hy => ?_) ha (old a n1) fl (fun b _ o e d => up b o e d) hE
  rcases List.mem_cons.mp hy with rfl | hy
  · exact ⟨ha, old _ n1⟩
  · obtain rfl := List.mem_singleton.mp hy
    exact ⟨hT, old _ n2⟩
end

section
variable {X : Cx}
/-- the error class at C, right below others of the program's own and ValueError -/
structure Err (K : PySem.W.Frag) (C : Addr) : Prop where
  ex : PySem.W.excIn K C [.type "ValueError", .type "Exception", .type "BaseException", .type "object"] "ValueError.__new__" = true

def tRaise (C : Addr) (E : XK) (t : TA) : TS := fun _ σ H => t σ H fun vs H1 => vs.length ≤ sizeLine ∧ E (.ref C) none H1
/-- raise C(e, ..) -/
theorem ps_raise {C : Addr} {x : Str} {np cpos pos : Pos} {e₀ : Expr} {rest : List Expr} {t : TA} {E : XK} (T : Takes X E) (hc : X.calm = true) (hg : Gl X x) (hm : X.mg x = some (.ref C)) (hC : Err X.K C) (ha : PA X (e₀ :: rest) t)
    (he : starEach (e₀ :: rest) X.env = (false, eval e₀ X.env) :: starEach rest X.env := by rfl) (hpl : (backTo cpos (starEach rest X.env)).any (·.1) = false := by rfl) (hdb : (x == ("__debug__" : Str)) = false := by decide) :
    PS X (.Raise (some (.Call (.Name x np) (e₀ :: rest) [] cpos)) none pos) (tRaise C E t) := by
  intro pins s σ H D I h
  have q := hC.ex
  have O : ∃ bm N nm q bs hdct sn sub ab col dd k0 k1 k2 k3 k5 mN, X.base.get? C = some (excClassObj nm q C N bs bm hdct sn sub ab col dd k0 k1 k2 k3 k5 "ValueError.__new__") ∧ X.base.Ns N mN ∧ mN "__init__" = none ∧
      OwnTail X.base [.type "ValueError", .type "Exception", .type "BaseException", .type "object"] bm := by
    have KX := I.mod.kin
    unfold PySem.W.excIn at q
    split at q
    · rename_i dd cd sl ho
      split at q
      · rename_i C' bm k0 k1 k2 k3 n k5 hm hs
        simp only [Bool.and_eq_true, beq_iff_eq, Bool.not_eq_true'] at q
        obtain ⟨⟨⟨⟨⟨rfl, rfl⟩, hdel⟩, ht⟩, hok⟩, hni⟩ := q
        obtain ⟨nm, bs, mro, ns, qn, hd, sn, sub, ab, col, del⟩ := cd
        dsimp only at hm hdel hok hni
        subst hm hdel
        have hsl : sl = #[k0, k1, k2, k3, some (.builtin "ValueError.__new__"), k5] := by
          obtain ⟨l⟩ := sl
          simp only at hs
          rw [hs]
        subst hsl
        exact ⟨bm, ns, nm, qn, bs, hd, sn, sub, ab, col, dd, k0, k1, k2, k3, k5, _, KX _ _ ho, .of_isNs (PySem.W.isNs_of_in KX hok), PySem.W.nsMap_none_of_in KX hok hni, PySem.W.tail_of_in KX ht⟩
      · cases q
    · cases q
  obtain ⟨tl, Nn, nm, qq, bs, hdct, sn, sub, ab, col, dd, k0, k1, k2, k3, k5, mN, h1, h2, h3, h4⟩ := O
  refine wpAny_Raise_call_subT (C := C) (nm := nm) (q := qq) (N := Nn) (bs := bs) (bm := tl) (hdct := hdct) (sn := sn) (sub := sub) (ab := ab) (col := col) (dd := dd) (k0 := k0) (k1 := k1) (k2 := k2) (k3 := k3) (k5 := k5)
    PySem.F.excBase_ValueError (mN := mN) (h4.hasType PySem.F.excBase_ValueError.hasBase) (I.ok.hd hc) (by rw [he]; show (false || (backTo cpos (starEach rest X.env)).any (·.1)) = false; rw [hpl]; rfl) h3 ?_
  refine ld_glob I hg hm ⟨rfl, ?_⟩ (hd := hdb)
  have w1 := ha cpos pins s σ H _ I h
  rw [he] at w1 ⊢
  refine Calls.evalArgs_plain (wpAny_mono w1 (fun us s2 q2 => ?_) fun _ _ y => y)
  obtain ⟨vs, H', I2, rv, hl, hE⟩ := q2
  refine ⟨rfl, ?_, I2.bk _ _ h1, h2.keeps I2.bk, h4.keeps I2.bk, fun h' e hm => T pins σ H' s2 h' e (.ref C) _ I2 hm hE⟩
  show us.length ≤ sizeLine
  rw [← rv.length]
  exact hl
end
end L2

set_option Elab.async false
set_option linter.all false
set_option maxRecDepth 100000
/-! try .. except C as n -/
namespace L2
open PySem PySem.Spec PyProof.Rows
section
variable {X : Cx} {pins : List (Addr × Obj)} {σ : St} {H H' : Hp} {s : Shared} {h' : Heap}

/-- an error as an object of the abstract heap: its class -/
def excO (a : Addr) (cls : Value) : HO := .ext fun h => ∃ o vs, h.get? a = some o ∧ o.cls = cls ∧ o.data = .fields vs
/-- an untracked record of ours becomes tracked -/
theorem Inv.track {a : Addr} {o : HO} (I : Inv X pins σ H s) (hn : H a = none) (h0 : X.s₀.heap.get? a = none) (hL : a ≠ X.env.locals) (hc : ∀ x c, X.env.cells.lookup x = some c → c ≠ a) (hp : ∀ p ∈ X.pn ++ pins, p.1 ≠ a)
    (new : ObjOk X.prog X.w (upd H a o) s.heap a o) : Inv X pins σ (upd H a o) s := by
  refine ⟨I.ok, I.os, I.bare, ⟨I.base.keep, I.base.slot, fun b u e n hx => ?_, I.base.there, fun b xs e => ?_, fun b u xs e => ?_, fun b ps e => ?_⟩, I.loc, I.cell, ?_, fun x c e => ?_, fun p q => ?_, fun b u e => ?_, I.len⟩
  · rw [upd_ne fun z => by rw [z, h0] at e; cases e]
    exact I.base.free b u e n hx
  · have q := I.base.tups b xs e
    rw [upd_ne (ne_of_none q hn)]
    exact q
  · have q := I.base.frzs b u xs e
    rw [upd_ne (ne_of_none q hn)]
    exact q
  · obtain ⟨m, q⟩ := I.base.tbls b ps e
    exact ⟨m, by rw [upd_ne (ne_of_none q hn)]; exact q⟩
  · rw [upd_ne hL.symm]
    exact I.free
  · rw [upd_ne (hc x c e)]
    exact I.freeC x c e
  · obtain ⟨e, n, r⟩ := I.pin p q
    exact ⟨e, by rw [upd_ne (hp p q)]; exact n, r⟩
  · by_cases hb : b = a
    · subst hb
      rw [upd_same] at e
      cases e
      exact new
    · rw [upd_ne hb] at e
      exact (I.hok b u e).stay (fun c v _ q => q) (fun c q => by rw [upd_ne (ne_of_none q hn)]; exact q) fun c xs q => by rw [upd_ne (ne_of_none q hn)]; exact q
end

section
variable {X : Cx} {pins : List (Addr × Obj)} {σ : St} {H H' : Hp} {s : Shared}
end
end L2

set_option Elab.async false
set_option linter.all false
set_option maxRecDepth 100000
/-! lambdas without parameters, that read names of the frame around them -/
namespace L2
open PySem PySem.Spec PyProof.Rows

section
variable {X : Cx} {pins : List (Addr × Obj)} {σ : St} {H : Hp} {s : Shared}
end

section
variable {X : Cx} {pins : List (Addr × Obj)} {σ1 : St} {H : Hp} {s : Shared}
end
end L2

set_option Elab.async false
set_option linter.all false
set_option maxRecDepth 100000
/-! the law's own hearing of a deed: heard(lambda: ..) -/
namespace L2
open PySem PySem.Spec PyProof.Rows

section
variable {X : Cx}
end
end L2

set_option Elab.async false
set_option linter.all false
set_option maxRecDepth 100000
/-! more rules: numbers of many bits, texts, tuples compared, isinstance, count, index -/
namespace L2
open PySem PySem.Spec PyProof.Rows
section
variable {X : Cx}
theorem big_bits {i : Int} (h : i.natAbs < 2 ^ 2000) : Builtin.Int.intBits i ≤ 2 ^ 20 := Nat.le_trans (intBits_le h) (by decide)
def CBig (i j : Int) : Prop := i.natAbs < 2 ^ 2000 ∧ j.natAbs < 2 ^ 2000
theorem op_mulB : OpR X (binaryOp .Mult) (rI CBig fun i j => .int (i * j)) := opI fun _ _ _ _ _ _ _ hc q => mul_int q (IntMulOk.of_bits (big_bits hc.1) (big_bits hc.2))
theorem call_int_text : CallR X (.type "int") (fun xs H Q => ∃ x n, xs = [.str x] ∧ PySem.intText? x = some n ∧ x.length ≤ 640 ∧ Q (.int n) H) := by
  intro pins s σ H xs us Q I r h
  obtain ⟨x, n, rfl, hn, hl, q⟩ := h
  obtain ⟨u, rfl, t, rfl⟩ := vals1 r
  exact PySem.W.KIN.call_text hn hl ⟨.int n, H, I.tok _, ⟨_, rfl⟩, q⟩

/-! ### tuples compared -/
theorem tup_items {pins : List (Addr × Obj)} {σ : St} {H : Hp} {s : Shared} {A : Around} {xs ys : List V} {its its2 : List Value} {e : Nat → Bool} {n : Nat} (r1 : Vals xs its) (r2 : Vals ys its2)
    (he : ∀ j x y u v, xs[j]? = some x → ys[j]? = some y → RelV x u → RelV y v → SeqAt.EqAt A s u v (e j)) : ∀ j (h1 : j < its.toArray.size) (h2 : j < its2.toArray.size), SeqAt.EqAt A s its.toArray[j] its2.toArray[j] (e j) := by
  intro j h1 h2
  have l1 := r1.length
  have l2 := r2.length
  rw [List.size_toArray] at h1 h2
  have k1 : xs[j]? = some xs[j] := List.getElem?_eq_getElem (by omega)
  have k2 : ys[j]? = some ys[j] := List.getElem?_eq_getElem (by omega)
  obtain ⟨u, e1, q1⟩ := r1.get k1
  obtain ⟨v, e2, q2⟩ := r2.get k2
  have z1 : its.toArray[j] = u := by
    rw [List.getElem?_eq_getElem h1] at e1
    simpa using Option.some.inj e1
  have z2 : its2.toArray[j] = v := by
    rw [List.getElem?_eq_getElem h2] at e2
    simpa using Option.some.inj e2
  rw [z1, z2]
  exact he j _ _ u v k1 k2 q1 q2
/-! ### list.count, list.index over flat items -/
end
end L2

set_option Elab.async false
set_option linter.all false
set_option maxRecDepth 100000
/-! isinstance of an own error -/
namespace L2
open PySem PySem.Spec PyProof.Rows

/-- what the written part says of an error class -/
structure ErrK (K : PySem.W.Frag) (C : Addr) : Prop where
  ex : PySem.W.excIn K C [.type "ValueError", .type "Exception", .type "BaseException", .type "object"] "ValueError.__new__" = true
  ga : PySem.W.findIn K (.ref C) "__getattribute__" = some (some (.builtin "BaseException.__getattribute__"))
  gn : PySem.W.findIn K (.ref C) "__getattr__" = some none
  cl : PySem.W.findIn K (.ref C) "__class__" = some (some (.builtin "object.__class__"))
theorem ErrK.err {K : PySem.W.Frag} {C : Addr} (e : ErrK K C) : Err K C := ⟨e.ex⟩
theorem err_obj {K : PySem.W.Frag} {C : Addr} {h : Heap} (KX : K.In h) (e : Err K C) : ∃ bm N nm q bs hdct sn sub ab col dd k0 k1 k2 k3 k5, h.get? C = some (excClassObj nm q C N bs bm hdct sn sub ab col dd k0 k1 k2 k3 k5 "ValueError.__new__") ∧
    OwnTail h [.type "ValueError", .type "Exception", .type "BaseException", .type "object"] bm := by
  have q := e.ex
  unfold PySem.W.excIn at q
  split at q
  · rename_i dd cd sl ho
    split at q
    · rename_i C' bm k0 k1 k2 k3 n k5 hm hs
      simp only [Bool.and_eq_true, beq_iff_eq, Bool.not_eq_true'] at q
      obtain ⟨⟨⟨⟨⟨rfl, rfl⟩, hdel⟩, ht⟩, hok⟩, hni⟩ := q
      obtain ⟨nm, bs, mro, ns, qn, hd, sn, sub, ab, col, del⟩ := cd
      dsimp only at hm hdel hok hni
      subst hm hdel
      have hsl : sl = #[k0, k1, k2, k3, some (.builtin "ValueError.__new__"), k5] := by
        obtain ⟨l⟩ := sl
        simp only at hs
        rw [hs]
      subst hsl
      exact ⟨bm, ns, nm, qn, bs, hd, sn, sub, ab, col, dd, k0, k1, k2, k3, k5, KX _ _ ho, PySem.W.tail_of_in KX ht⟩
    · cases q
  · cases q
section
variable {prog : Program} {w : World} {A : Around} {E : Value → Shared → Prop} {h : Heap} {g : Array GenState} {d : Drawn} {t : Nat} {os : OsState} {K : PySem.W.Frag} {a C : Addr} {o : Obj}
theorem exc_class_get {R : Result → Shared → Prop} (KX : K.In h) (e : ErrK K C) (hx : h.get? a = some o) (hc : o.cls = .ref C) (hq : R (.ok (.ret (.ref C))) ⟨h, g, d, t, os⟩) :
    codeAny (model prog w) A (.call (.builtin "getset_descriptor.__get__") ⟨[.builtin "object.__class__", .ref a, .ref C], []⟩) R ⟨h, g, d, t, os⟩ := by
  obtain ⟨bm, N, nm, q, bs, hdct, sn, sub, ab, col, dd, k0, k1, k2, k3, k5, hC, T⟩ := err_obj KX e.err
  have hT5 : (⟨h, g, d, t, os⟩ : Shared).TypeIs (.builtin "object.__class__") "getset_descriptor" := F.typeOf_object_class
  have hcB : (Value.ref C :: bm).contains (.type (".".intercalate ("object.__class__".cutAt '.').dropLast)) = true := by
    rw [F.owner_object_class, List.contains_cons, T.hasType (X := "object") (b := true) (by decide)]; rfl
  refine codeAny_call_builtin F.slot_gs_get.plain F.entry_gs_get (F.slot_gs_get.check _ _ _ _ _ _ _ _ hT5 (F.args_gs_get _ _ _) ?_)
  repeat (any_goals (first | assumption | (with_reducible refine wpAny_loadPart_at hx ?_; rw [hc]) | (with_reducible refine wpAny_isSubtype_exc hC ?_; rw [hcB]) | wp_step))
  refine ⟨Code.quiet_builtin _ (by decide +kernel), codeAny_builtin F.entry_object_class ?_⟩
  repeat (any_goals (first | assumption | (with_reducible refine wpAny_loadPart_at hx ?_; rw [hc]) | wp_step))
theorem exc_class_entry {tk : Tok} {Q : Fin → Shared → Prop} (KX : K.In h) (e : ErrK K C) (hx : h.get? a = some o) (hc : o.cls = .ref C) (hq : Q (.done (.ret (.ref C))) ⟨h, g, d, t, os⟩) :
    wpAny (model prog w) A (Builtin.«object.__getattribute__» ⟨[.ref a, .str "__class__" tk], []⟩) Q E ⟨h, g, d, t, os⟩ := by
  have L := PySem.W.looks_findIn (M := model prog w) KX e.cl
  have hT5 : (⟨h, g, d, t, os⟩ : Shared).TypeIs (.builtin "object.__class__") "getset_descriptor" := F.typeOf_object_class
  have f5 := F.typeOf_object_class
  have f6 := F.slot_gs_get.lookup
  have f7 := F.slot_gs_set.lookup
  repeat (any_goals (first | assumption | (with_reducible refine wpAny_loadPart_at hx ?_; rw [hc]) | with_reducible refine PySem.W.Looks.at L ?_ | wp_step))
  refine exc_class_get KX e hx hc ?_
  repeat (any_goals (first | assumption | wp_step))
theorem exc_class_check {M : Model} {nameV : Value} {Q : Unit → Shared → Prop} (KX : K.In h) (e : ErrK K C) (hx : h.get? a = some o) (hc : o.cls = .ref C) (hq : Q () ⟨h, g, d, t, os⟩) :
    wpAny M A (checkBuiltinCall "BaseException.__getattribute__" ⟨[.ref a, nameV], []⟩) Q E ⟨h, g, d, t, os⟩ := by
  obtain ⟨bm, N, nm, q, bs, hdct, sn, sub, ab, col, dd, k0, k1, k2, k3, k5, hC, T⟩ := err_obj KX e.err
  have hk : builtinKind "BaseException.__getattribute__" = some .slot := by decide +kernel
  have hsplit : splitId "BaseException.__getattribute__" = some ("BaseException", "__getattribute__") := by decide +kernel
  have hcB : (Value.ref C :: bm).contains (.type "BaseException") = true := by rw [List.contains_cons, T.hasType (X := "BaseException") (b := true) (by decide)]; rfl
  have ha := F.args_bexc_ga (.ref a) nameV
  simp only [checkBuiltinCall, hk, hsplit]
  refine wpAny_bind ?_
  · unfold isInstance
    repeat (first | (with_reducible refine wpAny_loadPart_at hx ?_; rw [hc]) | (with_reducible refine wpAny_isSubtype_exc hC ?_; rw [hcB]) | wp_step)
    exact hq
theorem exc_class_call {tk : Tok} {R : Result → Shared → Prop} (KX : K.In h) (e : ErrK K C) (hx : h.get? a = some o) (hc : o.cls = .ref C) (hq : R (.ok (.ret (.ref C))) ⟨h, g, d, t, os⟩) :
    codeAny (model prog w) A (.call (.builtin "BaseException.__getattribute__") ⟨[.ref a, .str "__class__" tk], []⟩) R ⟨h, g, d, t, os⟩ :=
  codeAny_call_builtin F.excAttr_ValueError.ga.plain F.entry_bexc_ga (exc_class_check KX e hx hc (exc_class_entry KX e hx hc hq))
theorem exc_class_by {tk : Tok} {Q : Value → Shared → Prop} (KX : K.In h) (e : ErrK K C) (hx : h.get? a = some o) (hc : o.cls = .ref C) (hq : Q (.ref C) ⟨h, g, d, t, os⟩) :
    wpAny (model prog w) A (getAttrBy (.ref a) (.str "__class__" tk) false) Q E ⟨h, g, d, t, os⟩ := by
  have L1 := PySem.W.looks_findIn (M := model prog w) KX e.ga
  have L2 := PySem.W.looks_findIn (M := model prog w) KX e.gn
  have f3 := F.excAttr_ValueError.ga.bind (.ref a)
  have hx2 : (Value.builtin "BaseException.__getattribute__" == Value.builtin "object.__getattribute__") = false := by decide +kernel
  have hx1 : (onTheHeap (Value.ref C) && Value.builtin "BaseException.__getattribute__" == Value.builtin "object.__getattribute__") = false := by rw [hx2]; rfl
  repeat (any_goals (first | assumption | (with_reducible refine wpAny_loadPart_at hx ?_; rw [hc]) | with_reducible refine PySem.W.Looks.at L1 ?_ | with_reducible refine PySem.W.Looks.at L2 ?_ | wp_step))
  refine exc_class_call KX e hx hc ?_
  repeat (any_goals (first | assumption | wp_step))
theorem exc_class_attr {Q : Option Value → Shared → Prop} (KX : K.In h) (e : ErrK K C) (hx : h.get? a = some o) (hc : o.cls = .ref C) (hq : Q (some (.ref C)) ⟨h, g, d, t + 1, os⟩) :
    wpAny (model prog w) A (getAttr? (.ref a) "__class__") Q E ⟨h, g, d, t, os⟩ := by
  unfold getAttr? getAttrBy?
  repeat (any_goals (first | assumption | with_reducible apply exc_class_by KX e hx hc | wp_step))
end
theorem kitx_exc {K : PySem.W.Frag} {a C : Addr} (e : ErrK K C) : PySem.W.KitX K (.ref a) (.ref C) (fun h => ∃ o, h.get? a = some o ∧ o.cls = .ref C) where
  ty := fun M h X ⟨o, e1, e2⟩ => by
    rw [← e2]
    exact (PySem.W.Looks.ld e1).andThen .now
  it := fun M h X _ => by
    obtain ⟨bm, N, nm, q, bs, hdct, sn, sub, ab, col, dd, k0, k1, k2, k3, k5, hC, T⟩ := err_obj X e.err
    intro A' Q' E' s' k q
    unfold isType loadHead
    exact wpAny_bind (wpAny_loadPart (k _ _ hC) (wpAny_pure q))
  ne := fun h tp dd its n sl X htp => by
    obtain ⟨bm, N, nm, q, bs, hdct, sn, sub, ab, col, dd, k0, k1, k2, k3, k5, hC, T⟩ := err_obj X e.err
    refine Bool.eq_false_iff.mpr fun q => ?_
    have e : C = tp := Value.ref.inj (beq_iff_eq.mp q)
    subst e
    rw [hC] at htp
    exact absurd (Value.type.inj (congrArg Obj.cls (Option.some.inj htp))) (by decide)
  ca := fun {prog w A E Q s} X ⟨o, e1, e2⟩ k => by
    obtain ⟨h, g, d, t, os⟩ := s
    exact exc_class_attr X e e1 e2 k

section
variable {X : Cx}
/-- a class as a value -/
def isCls : V → Bool
  | .ref _ => true
  | .ty _ => true
  | _ => false
def clsV : V → Value
  | .ref C => .ref C
  | .ty n => .type n
  | _ => .none
theorem clsV_of {c : V} {u : Value} (h : isCls c = true) (r : RelV c u) : u = clsV c := by
  cases c <;> first | exact r | cases h
/-- isinstance(x, c): c a class as a value -/
def rIsi (K : PySem.W.Frag) : List V → Hp → VK → Prop := fun xs H Q => ∃ x c b, xs = [x, c] ∧ isCls c = true ∧ ((∃ t, TyOf K H x t ∧ PySem.W.kitOne K t (clsV c) = some b) ∨ ∃ a C, x = .ref a ∧ H a = some (excO a (.ref C)) ∧ ErrK K C ∧ PySem.W.kitOne K (.ref C) (clsV c) = some b) ∧ Q (.bl b) H
theorem call_isi : CallR X (.builtin "isinstance") (rIsi X.K) := by
  intro pins s σ H xs us Q I r h
  obtain ⟨x, c, b, rfl, hc, hx, q⟩ := h
  obtain ⟨u, u2, rfl, ru, ru2⟩ := vals2 r
  obtain rfl := clsV_of hc ru2
  rcases hx with ⟨t, ty, k⟩ | ⟨a, C, rfl, hH, e, k⟩
  · exact isinst_ok I ru ty k fun tk => ⟨.bl b, H, I.tok tk, rfl, q⟩
  · obtain rfl : u = Value.ref a := ru
    obtain ⟨⟨o, vs, e1, e2, _⟩, _⟩ := (show ObjOk X.prog X.w H s.heap a (excO a (.ref C)) from I.hok a _ hH)
    exact PySem.W.kia_one (kitx_exc e) I.kIn ⟨o, e1, e2⟩ k (fun z => nomatch z) fun tk => ⟨.bl b, H, I.tok tk, rfl, q⟩
end
end L2

set_option Elab.async false
set_option linter.all false
set_option maxRecDepth 100000
/-! the head, where the law's own code has lambdas: the table of its code is tracked -/
namespace L2
open PySem PySem.Spec PyProof.Rows

/-- no list of the written part -/
def noLists (K : PySem.W.Frag) : Bool := K.all fun p => match p.2.cls with
  | .type n => !(n == "list")
  | _ => true
theorem noLists_at {K : PySem.W.Frag} {a : Addr} {o : Obj} (h : noLists K = true) (e : K.lookup a = some o) : o.cls ≠ .type "list" := fun z => by
  have q := List.all_eq_true.mp h (a, o) (PySem.W.mem_of_lookupK e)
  dsimp only at q
  rw [z] at q
  exact absurd q (by decide)
end L2

set_option Elab.async false
set_option linter.all false
set_option maxRecDepth 100000
namespace L2
open PySem PySem.Spec PyProof.Rows
section
variable {X : Cx}
end

/-- the cells that a lambda takes along -/
def closOf (cells : List (Str × Addr)) : List (Str × NameKind) → List (Str × Addr) → List (Str × Addr)
  | [], acc => acc
  | (n, k) :: r, acc => closOf cells r (if k == .free then (n, (cells.lookup n).getD 0) :: acc else acc)
theorem clos_go {env : Env} : ∀ (names : List (Str × NameKind)) (acc : List (Str × Addr)), (∀ y ∈ names, y.2 = .free → ∃ c, env.cells.lookup y.1 = some c) →
    (forIn names acc fun x (cs : List (Str × Addr)) => (do
      let (name, kind) := x
      if kind == .free then
        let c ← cellOf env name
        pure (ForInStep.yield ((name, c) :: cs))
      else pure (ForInStep.yield cs) : Sem (ForInStep (List (Str × Addr))))) = pure (closOf env.cells names acc)
  | [], acc, _ => rfl
  | (n, k) :: r, acc, h => by
    rw [List.forIn_cons]
    have ih := fun acc' => clos_go (env := env) r acc' fun y hy => h y (List.mem_cons_of_mem _ hy)
    by_cases hk : k = .free
    · subst hk
      obtain ⟨c, hc⟩ := h (n, .free) List.mem_cons_self rfl
      have hc' : env.cells.lookup n = some c := hc
      show _ = pure (closOf env.cells r (if NameKind.free == NameKind.free then _ else _))
      have e : cellOf env n = pure c := by unfold cellOf; rw [hc']
      simp only [beq_self_eq_true, if_true, e, pure_bind, hc', Option.getD_some]
      exact ih _
    · have hb : (k == NameKind.free) = false := beq_eq_false_iff_ne.mpr hk
      show _ = pure (closOf env.cells r (if k == NameKind.free then _ else _))
      simp only [hb, Bool.false_eq_true, if_false, pure_bind]
      exact ih _
theorem closureFor_eq {scope : Scope} {env : Env} (h : ∀ y ∈ scope.names, y.2 = .free → ∃ c, env.cells.lookup y.1 = some c) : closureFor scope env = pure (closOf env.cells scope.names []) := by
  unfold closureFor
  have := clos_go (env := env) scope.names [] h
  simp only [bind_pure] at this ⊢
  exact this
end L2

set_option Elab.async false
set_option linter.all false
set_option maxRecDepth 100000
namespace L2
open PySem PySem.Spec PyProof.Rows
section
variable {P : Program} {w : World} {K : PySem.W.Frag} {mg : Str → Option Value} {base : Heap}
/-- a def whose errors are told -/
theorem okE {x qual : Str} {st : Stmt} {f : Addr} {fd : FuncData} {N ps : List Str} {k : Nat} {sp : Sp} (F : Fun K x qual st f fd) (S : FnScope N ps (defScope st)) (len : ∀ vs H Q E, sp vs H Q E → vs.length = ps.length)
    (hbody : ∀ (cdv : Value) (A : Around) (outer : List Env) (s : Shared) (H : Hp) (vs : List V) (Q : VK) (E : XK), Room k (A.deeper (envOfC qual (defScope st) s.heap.objs.size f cdv)) → sp vs H Q E →
      ∃ t, PSs (cxOf (CXE P w) P w K mg base N qual (defScope st) f cdv A outer s H E) (defBody st) t ∧ t { nx := fun _ H' => Q .non H', rt := Q } (start N vs) H) : FnOk P w K mg base (CXE P w) (k + 1) f fd ps sp := by
  obtain ⟨oc, od, kV, doc, pm, an, cdv, ct, osl, rfl, lk, hcd⟩ := F.ex
  exact fn_of lk hcd S len fun A outer s H vs Q E hr hsp => hbody cdv A outer s H vs Q E hr hsp
/-- a def that raises nothing -/
theorem okN {x qual : Str} {st : Stmt} {f : Addr} {fd : FuncData} {N ps : List Str} {k : Nat} {sp : Sp} (F : Fun K x qual st f fd) (S : FnScope N ps (defScope st)) (len : ∀ vs H Q E, sp vs H Q E → vs.length = ps.length)
    (hbody : ∀ (cdv : Value) (A : Around) (outer : List Env) (s : Shared) (H : Hp) (vs : List V) (Q : VK) (E : XK), Room k (A.deeper (envOfC qual (defScope st) s.heap.objs.size f cdv)) → sp vs H Q E →
      ∃ t, PSs (cxOf (CXE P w) P w K mg base N qual (defScope st) f cdv A outer s H E).nox (defBody st) t ∧ t { nx := fun _ H' => Q .non H', rt := Q } (start N vs) H) : FnOk P w K mg base (CXE P w) (k + 1) f fd ps sp :=
  okE F S len fun cdv A outer s H vs Q E hr hsp => by
    obtain ⟨t, h, q⟩ := hbody cdv A outer s H vs Q E hr hsp
    exact ⟨t, h.nox, q⟩
end
/-! a display of pairs: behind a veil, else the reading itself is reckoned out -/
structure PEx (X : Cx) (e : Expr) (t : TE) : Prop where
  pe : PE X e t
structure PSx (X : Cx) (e : List Stmt) (t : TS) : Prop where
  ps : PSs X e t
theorem disp2 {X : Cx} {k1 k2 v1 v2 : Expr} {pos pos' : Pos} {t1 t2 u1 u2 : TE} (h1 : PEx X k1 t1) (h2 : PEx X v1 u1) (h3 : PEx X k2 t2) (h4 : PEx X v2 u2) : PSx X [.Return (some (.Dict [some k1, some k2] [v1, v2] pos)) pos'] (tRet (tDisp [(t1, u1), (t2, u2)])) :=
  ⟨pss_one (ps_ret (pe_disp (pps_cons h1.pe h2.pe (pps_cons h3.pe h4.pe pps_nil)) rfl rfl (List.cons_ne_nil _ _) (Nat.le_of_ble_eq_true rfl)))⟩
theorem begun_body {X : Cx} {x y : Str} {i : Int} {p1 p2 p3 p4 p5 p6 : Pos} {j1 j2 j3 : Nat} : PSx X [.Return (some (.Dict [some (.Constant (.str x) j1 p1), some (.Constant (.str y) j2 p2)] [.Constant (.int i) j3 p3, .Dict [] [] p4] p5)) p6] (tRet (tDisp [(tC (.str x), tC (.int i)), (tC (.str y), tDNewK)])) :=
  disp2 ⟨pe_str⟩ ⟨pe_int⟩ ⟨pe_str⟩ ⟨pe_dnewK⟩
theorem okNx {P : Program} {w : World} {K : PySem.W.Frag} {mg : Str → Option Value} {base : Heap} {x qual : Str} {st : Stmt} {f : Addr} {fd : FuncData} {N ps : List Str} {k : Nat} {sp : Sp} (F : Fun K x qual st f fd) (S : FnScope N ps (defScope st)) (len : ∀ vs H Q E, sp vs H Q E → vs.length = ps.length)
    (hbody : ∀ (cdv : Value) (A : Around) (outer : List Env) (s : Shared) (H : Hp) (vs : List V) (Q : VK) (E : XK), Room k (A.deeper (envOfC qual (defScope st) s.heap.objs.size f cdv)) → sp vs H Q E →
      ∃ t, PSx (cxOf (CXE P w) P w K mg base N qual (defScope st) f cdv A outer s H E).nox (defBody st) t ∧ t { nx := fun _ H' => Q .non H', rt := Q } (start N vs) H) : FnOk P w K mg base (CXE P w) (k + 1) f fd ps sp :=
  okN F S len fun cdv A outer s H vs Q E hr hsp => by
    obtain ⟨t, h, q⟩ := hbody cdv A outer s H vs Q E hr hsp
    exact ⟨t, h.ps, q⟩
/-- a def of the text, with its promise -/
structure Def (P : Program) (w : World) (K : PySem.W.Frag) (mg : Str → Option Value) (base : Heap) (k : Nat) (x : Str) (ps : List Str) (sp : Sp) : Prop where
  ex : ∃ f fd, mg x = some (.ref f) ∧ PySem.W.keepIn K (.ref f) = true ∧ Binds K fd ps [] ∧ FnOk P w K mg base (CXE P w) k f fd ps sp
section
variable {X : Cx} {k k' : Nat} {x : Str} {ps : List Str} {sp : Sp} {E : XK} {p pos : Pos} {e : Expr} {es : List Expr} {t : TA}
theorem Def.pe (D : Def X.prog X.w X.K X.mg X.base k x ps sp) (hr : Room k' X.A) (hk : k ≤ k') (hg : Gl X x) (hx : Passes (CXE X.prog X.w) X E) (ha : PA X (e :: es) t) (hdb : (x == ("__debug__" : Str)) = false := by decide)
    (he : starEach (e :: es) X.env = (false, eval e X.env) :: starEach es X.env := by rfl) (hpl : (backTo pos (starEach es X.env)).any (·.1) = false := by rfl) : PE X (.Call (.Name x p) (e :: es) [] pos) (tCall sp [] E t) := by
  obtain ⟨f, fd, h1, h2, h3, h4⟩ := D.ex
  exact pe_call h4 (hr.mono hk) hg h1 h2 h3 .nil hx ha hdb he hpl
theorem Def.pe0 (D : Def X.prog X.w X.K X.mg X.base k x ps sp) (hr : Room k' X.A) (hk : k ≤ k') (hg : Gl X x) (hx : Passes (CXE X.prog X.w) X E) (hdb : (x == ("__debug__" : Str)) = false := by decide) :
    PE X (.Call (.Name x p) [] [] pos) (tCall sp [] E tNil) := by
  obtain ⟨f, fd, h1, h2, h3, h4⟩ := D.ex
  exact pe_call0 h4 (hr.mono hk) hg h1 h2 h3 .nil hx hdb
end
section
variable {X : Cx} {k k' : Nat} {x : Str} {ps ks : List Str} {sp : Sp} {E : XK} {p pos : Pos} {e : Expr} {es : List Expr} {t tk : TA} {kws : List Keyword}
end
theorem ifB {c : Bool} {A B : Prop} (hT : c = true → A) (hF : c = false → B) : if c = true then A else B := by
  cases c with
  | true => rw [if_pos rfl]; exact hT rfl
  | false => rw [if_neg (by decide)]; exact hF rfl
theorem ne_int' (x y : Int) : (!decide (V.int x = V.int y)) = decide (x ≠ y) := by
  by_cases h : x = y
  · subst h; simp
  · rw [decide_eq_false (fun e => h (V.int.inj e)), decide_eq_true h]; rfl
theorem eq_int' (x y : Int) : decide (V.int x = V.int y) = decide (x = y) := by
  by_cases h : x = y
  · subst h; simp
  · rw [decide_eq_false (fun e => h (V.int.inj e)), decide_eq_false h]
theorem SqL.upd {K : PySem.W.Frag} {H : Hp} {a b : Addr} {o : HO} {xs : List V} (h : SqL K H a xs) (n : a ≠ b) : SqL K (upd H b o) a xs := by
  rcases h with (h | ⟨o', h⟩) | h
  · exact .inl (.inl (by rw [upd_ne n]; exact h))
  · exact .inl (.inr ⟨o', by rw [upd_ne n]; exact h⟩)
  · exact .inr h
theorem Same.new {H : Hp} {p : Addr} {o : HO} (h : H p = none) : Same H (upd H p o) := fun b u e => by rw [upd_ne (ne_of_none e h)]; exact e

/-! ### the draws -/
structure TownAt (H : Hp) (t r : Addr) (c : Int) (rs : List (Key × V)) : Prop where
  tw : H t = some (.dK [(Sum.inr "count", .int c), (Sum.inr "rests", .ref r)])
  rt : H r = some (.dK rs)
  vs : ∀ kv ∈ rs, ∃ k z, kv = (Sum.inl k, V.int z)
  c0 : 0 ≤ c
  ln : (rs.length : Int) ≤ c
  ne : t ≠ r
theorem TownAt.same {H H' : Hp} {t r : Addr} {c : Int} {rs : List (Key × V)} (T : TownAt H t r c rs) (e : Same H H') : TownAt H' t r c rs := ⟨e _ _ T.tw, e _ _ T.rt, T.vs, T.c0, T.ln, T.ne⟩
def Apart (t r : Addr) (H H' : Hp) : Prop := ∀ b o, H b = some o → b ≠ t → b ≠ r → H' b = some o
theorem Apart.trans {t r : Addr} {H H1 H2 : Hp} (a : Apart t r H H1) (b : Apart t r H1 H2) : Apart t r H H2 := fun c o e n1 n2 => b c o (a c o e n1 n2) n1 n2
theorem Apart.of {t r : Addr} {H H1 : Hp} (a : Same H H1) : Apart t r H H1 := fun c o e _ _ => a c o e
theorem Apart.seq {K : PySem.W.Frag} {t r a : Addr} {H H' : Hp} {xs : List V} (e : Apart t r H H') (h : SqL K H a xs) (n1 : a ≠ t) (n2 : a ≠ r) : SqL K H' a xs := by
  rcases h with (h | ⟨o, h⟩) | h
  · exact .inl (.inl (e _ _ h n1 n2))
  · exact .inl (.inr ⟨o, e _ _ h n1 n2⟩)
  · exact .inr h
theorem rests_val {rs : List (Key × V)} (h : ∀ kv ∈ rs, ∃ k z, kv = (Sum.inl k, V.int z)) (k : Int) (d : Int) : ∃ z, (valV rs (Sum.inl k : Key)).getD (.int d) = .int z := by
  cases e : rs.find? fun kv => decide (kv.1 = (Sum.inl k : Key)) with
  | none => exact ⟨d, by unfold valV; rw [e]; rfl⟩
  | some p =>
    obtain ⟨k', z, rfl⟩ := h p (List.mem_of_find?_eq_some e)
    exact ⟨z, by unfold valV; rw [e]; rfl⟩
theorem rests_put {rs : List (Key × V)} (h : ∀ kv ∈ rs, ∃ k z, kv = (Sum.inl k, V.int z)) (k z : Int) : (∀ kv ∈ putK rs (Sum.inl k : Key) (.int z), ∃ k z, kv = (Sum.inl k, V.int z)) ∧ (putK rs (Sum.inl k : Key) (.int z)).length ≤ rs.length + 1 := by
  unfold putK
  split
  · refine ⟨fun kv hm => ?_, by rw [List.length_map]; omega⟩
    obtain ⟨p, hp, rfl⟩ := List.mem_map.mp hm
    obtain ⟨k', z', rfl⟩ := h p hp
    split
    · exact ⟨k', z, rfl⟩
    · exact ⟨k', z', rfl⟩
  · refine ⟨fun kv hm => ?_, by rw [List.length_append]; exact Nat.le_refl _⟩
    rcases List.mem_append.mp hm with hm | hm
    · exact h kv hm
    · exact ⟨k, z, List.mem_singleton.mp hm⟩
theorem cnt_ne : ¬ ((Sum.inr "count" : Key) = (Sum.inr "rests" : Key)) := by
  have h : ¬ ("count" : Str) = "rests" := by decide +kernel
  exact fun e => h (Sum.inr.inj e)
theorem town_put (c d : Int) (r : Addr) : putK [((Sum.inr "count" : Key), V.int c), (Sum.inr "rests", V.ref r)] (Sum.inr "count") (.int d) = [((Sum.inr "count" : Key), V.int d), ((Sum.inr "rests" : Key), V.ref r)] := by
  have h : ¬ ((Sum.inr "rests" : Key) = (Sum.inr "count" : Key)) := fun e => cnt_ne e.symm
  unfold putK
  rw [if_pos (by simp)]
  simp only [List.map_cons, List.map_nil, if_true, if_neg h]
theorem dget_count {H : Hp} {t r : Addr} {c : Int} (h : H t = some (.dK [(Sum.inr "count", .int c), (Sum.inr "rests", .ref r)])) : DGet H t (.str "count") (some (.int c)) := by
  have e := DGet.k (k := (Sum.inr "count" : Key)) h
  rw [valV_pos rfl] at e
  exact e
theorem dget_rests {H : Hp} {t r : Addr} {c : Int} (h : H t = some (.dK [(Sum.inr "count", .int c), (Sum.inr "rests", .ref r)])) : DGet H t (.str "rests") (some (.ref r)) := by
  have e := DGet.k (k := (Sum.inr "rests" : Key)) h
  rw [valV_neg cnt_ne, valV_pos rfl] at e
  exact e
theorem dput_count {H : Hp} {t r : Addr} {c : Int} (d : Int) (h : H t = some (.dK [(Sum.inr "count", .int c), (Sum.inr "rests", .ref r)])) : DPut H t (.str "count") (.int d) (upd H t (.dK [(Sum.inr "count", .int d), (Sum.inr "rests", .ref r)])) := by
  have e := DPut.k (k := (Sum.inr "count" : Key)) (v := .int d) h (by show 2 < sizeLine; decide)
  rw [town_put] at e
  exact e
/-- a draw: some number below many, and the town has counted it -/
def spDraw (K : PySem.W.Frag) : Sp := fun vs H Q _ => ∃ (a t r : Addr) (ns : List Int) (c many : Int) (rs : List (Key × V)), vs = [.ref a, .ref t, .int many] ∧ SqL K H a (ns.map V.int) ∧ TownAt H t r c rs ∧ a ≠ t ∧ a ≠ r ∧ ns.length ≤ 63 ∧ c < 100000 ∧ 0 < many ∧ many < 1000000 ∧
  ∀ (v : Int) (rs' : List (Key × V)) (H' : Hp), 0 ≤ v → v < many → TownAt H' t r (c + 1) rs' → Apart t r H H' → Q (.int v) H'
/-- a new town -/
def spBegun : Sp := fun vs H Q _ => vs = [] ∧ ∀ (t r : Addr) (H' : Hp), H t = none → H r = none → TownAt H' t r 0 [] → Same H H' → Q (.ref t) H'
/-- Python's own names that the text leaves -/
structure Own (mg : Str → Option Value) : Prop where
  len : mg "len" = none
  range : mg "range" = none
  abs : mg "abs" = none
  max : mg "max" = none
  int : mg "int" = none
  isi : mg "isinstance" = none
  bool : mg "bool" = none
  val : mg "ValueError" = none
  reversed : mg "reversed" = none
  divmod : mg "divmod" = none
  str : mg "str" = none
  sum : mg "sum" = none
end L2

set_option Elab.async false
set_option linter.all false
set_option maxRecDepth 100000
namespace L2
open PySem PySem.Spec PyProof.Rows
section
variable {X : Cx} {k : Nat} {x qual : Str} {st : Stmt} {fa : Addr} {fd : FuncData} {N : List Str} {p1 : Str} {E : XK} {c P : Addr} {q : Str} {params : Arguments} {body : Expr} {scope : Scope} {p lpos cpos : Pos} {th : St → Addr → Addr → Hp → VK → Prop}
end

/-- a def and its code -/
structure FunC (K : PySem.W.Frag) (x qual : Str) (st : Stmt) (f : Addr) (fd : FuncData) (cdv : Value) : Prop where
  ex : ∃ (oc : Value) (od : Option Addr) (kV doc pm : Value) (an : Option Addr) (ct : Value) (osl : Array (Option Value)),
    fd = PySem.W.fnOf x qual (defArgs st) (defBody st) (defScope st) .none kV doc pm an cdv ct ∧ K.lookup f = some ⟨oc, od, .func fd, osl⟩ ∧ PySem.W.codeIn K cdv qual = true
theorem okNC {P : Program} {w : World} {K : PySem.W.Frag} {mg : Str → Option Value} {base : Heap} {x qual : Str} {st : Stmt} {f : Addr} {fd : FuncData} {cdv : Value} {N ps : List Str} {k : Nat} {sp : Sp} (F : FunC K x qual st f fd cdv) (S : FnScope N ps (defScope st)) (len : ∀ vs H Q E, sp vs H Q E → vs.length = ps.length)
    (hbody : ∀ (A : Around) (outer : List Env) (s : Shared) (H : Hp) (vs : List V) (Q : VK) (E : XK), Room k (A.deeper (envOfC qual (defScope st) s.heap.objs.size f cdv)) → sp vs H Q E →
      ∃ t, PSs (cxOf (CXE P w) P w K mg base N qual (defScope st) f cdv A outer s H E).nox (defBody st) t ∧ t { nx := fun _ H' => Q .non H', rt := Q } (start N vs) H) : FnOk P w K mg base (CXE P w) (k + 1) f fd ps sp := by
  obtain ⟨oc, od, kV, doc, pm, an, ct, osl, rfl, lk, hcd⟩ := F.ex
  exact fn_of lk hcd S len fun A outer s H vs Q E hr hsp => by
    obtain ⟨t, h, q⟩ := hbody A outer s H vs Q E hr hsp
    exact ⟨t, h.nox, q⟩
/-- a def at the top: its name, its object -/
structure DefAt (K : PySem.W.Frag) (x : Str) (st : Stmt) : Prop where
  ex : ∃ f fd, PySem.W.nsIn K mainGlobals x = some (some (.ref f)) ∧ Fun K x x st f fd
theorem defAt_mk {K : PySem.W.Frag} {x : Str} {st : Stmt} {f : Addr} {oc : Value} {od an : Option Addr} {osl : Array (Option Value)} {kV doc pm cdv ct : Value} (a : PySem.W.nsIn K mainGlobals x = some (some (.ref f)))
    (l : K.lookup f = some ⟨oc, od, .func (PySem.W.fnOf x x (defArgs st) (defBody st) (defScope st) .none kV doc pm an cdv ct), osl⟩) (c : PySem.W.codeIn K cdv x = true) (k : PySem.W.keepIn K (.ref f) = true) : DefAt K x st :=
  ⟨f, _, a, ⟨⟨oc, od, kV, doc, pm, an, cdv, ct, osl, rfl, l, c⟩, k⟩⟩
section
variable {P : Program} {w : World} {K : PySem.W.Frag} {mg : Str → Option Value} {base h : Heap} {x : Str} {st : Stmt} {k : Nat} {ps : List Str} {sp : Sp}
theorem DefAt.def (D : DefAt K x st) (X : K.In h) (G : h.Ns mainGlobals mg) (hok : ∀ f fd, Fun K x x st f fd → FnOk P w K mg base (CXE P w) k f fd ps sp)
    (hb : ∀ (kV doc pm : Value) (an : Option Addr) (cdv ct : Value) (us : List Value), us.length = ps.length → bindArgs (PySem.W.fnOf x x (defArgs st) (defBody st) (defScope st) .none kV doc pm an cdv ct) ⟨us, []⟩ = pure (ps.zip us)) : Def P w K mg base k x ps sp := by
  obtain ⟨f, fd, a, F⟩ := D.ex
  exact ⟨f, fd, PySem.W.mg_of X G a, F.kp, F.binds hb, hok f fd F⟩
end
/-! two ways that meet again -/
theorem ifJoinE {k : Bool} {ta tb : TE} {σ : St} {H : Hp} {Q : VK} (Good : V → Hp → Prop) (hT : k = true → (∀ v H', Good v H' → Q v H') → ta σ H Q) (hF : k = false → (∀ v H', Good v H' → Q v H') → tb σ H Q) (rest : ∀ v H', Good v H' → Q v H') : if k = true then ta σ H Q else tb σ H Q := by
  cases k with
  | true => rw [if_pos rfl]; exact hT rfl rest
  | false => rw [if_neg (by decide)]; exact hF rfl rest
/-! like tuples -/
section
variable {H H' : Hp} {a t r Pa : Addr} {q : Str} {ns : List Int} {c c' : Int} {K : PySem.W.Frag}
end
end L2

set_option Elab.async false
set_option linter.all false
set_option maxRecDepth 100000
/-! comprehensions: one clause, over what a loop can walk; the block's own names only -/
namespace L2
open PySem PySem.Spec PyProof.Rows
def blkEnv (scope : Scope) (env : Env) (C : Addr) : Env :=
  { scope := scope, locals := C, globals := env.globals, cells := cellsFrom (C + 1) scope.names [], qual := env.qual, func := none, code := env.code, frame := env.frame, builtins := env.builtins }
/-- the context of a comprehension's block -/
abbrev cxBlk (X : Cx) (NB : List Str) (scope : Scope) (s : Shared) (H : Hp) (ex : List Addr) : Cx :=
  { X with N := NB, s₀ := s, H₀ := H, env := blkEnv scope X.env s.heap.objs.size, outer := X.stack, ex := ex, fn := fun _ => true, pn := [], xe := fun _ _ => False }
structure BlkScope (NB : List Str) (scope : Scope) : Prop where
  kind : scope.kind = .function
  nd : NB.Nodup
  nofree : ∀ y ∈ scope.names, y.2 ≠ .free
  loc : ∀ y ∈ scope.names, y.2 = .local → scope.names.lookup y.1 = some .local
theorem relabel_same {scope : Scope} {env : Env} (h : ∀ y ∈ scope.names, y.2 ≠ .free) : relabel scope env = scope := by
  obtain ⟨k, names, g, c, m⟩ := scope
  have e : ∀ l : List (Str × NameKind), (∀ y ∈ l, y.2 ≠ .free) → (l.map fun (n, k) => if (k == NameKind.free && env.scope.kind == .function && env.kindOf n == some .cell) then (n, NameKind.cell) else (n, k)) = l := by
    intro l
    induction l with
    | nil => intro _; rfl
    | cons y r ih =>
      intro hl
      obtain ⟨n, k⟩ := y
      have hk : (k == NameKind.free) = false := beq_eq_false_iff_ne.mpr (hl (n, k) List.mem_cons_self)
      rw [List.map_cons, ih fun y hy => hl y (List.mem_cons_of_mem _ hy)]
      simp only [hk, Bool.false_and, Bool.false_eq_true, if_false]
  unfold relabel
  simp only [e names h]
theorem clos_none {scope : Scope} {env : Env} (h : ∀ y ∈ scope.names, y.2 ≠ .free) : closureFor scope env = pure [] := by
  rw [closureFor_eq fun y hy e => absurd e (h y hy)]
  have e : ∀ (l : List (Str × NameKind)) (acc : List (Str × Addr)), (∀ y ∈ l, y.2 ≠ .free) → closOf env.cells l acc = acc := by
    intro l
    induction l with
    | nil => intro acc _; rfl
    | cons y r ih =>
      intro acc hl
      obtain ⟨n, k⟩ := y
      have hk : (k == NameKind.free) = false := beq_eq_false_iff_ne.mpr (hl (n, k) List.mem_cons_self)
      unfold closOf
      rw [hk]
      exact ih acc fun y hy => hl y (List.mem_cons_of_mem _ hy)
  rw [e _ _ h]
theorem wpAny_newBlock {M : Model} {A : Around} {E : Value → Shared → Prop} {s : Shared} {scope : Scope} {globals : Addr} {qual : Str} {env : Env} {Q : Env → Shared → Prop} (hk : scope.kind = .function)
    (hQ : ∀ cenv s', cenv = { scope := scope, locals := s.heap.objs.size, globals := globals, cells := cellsFrom (s.heap.objs.size + 1) scope.names [], qual := qual, func := none, code := env.code, frame := env.frame, builtins := env.builtins } →
      InCallC s s.heap.objs.size (fun _ => none) (cellsFrom (s.heap.objs.size + 1) scope.names []) (fun _ => none) s' → Q cenv s') :
    wpAny M A (newFunctionEnv scope globals [] [] qual none .none (some env)) Q E s := by
  simp only [newFunctionEnv, Option.isSome_some, if_true]
  refine wpAny_bind (wpAny_alloc ?_)
  refine wpAny_bind (wpAny_layCells _ (fun name kind cells => by cases hkc : kind == NameKind.cell <;> simp [hkc]) _ _ _ _ ?_)
  have ok := cellsFrom_ok scope.names (s.heap.push { cls := .type "dict", data := .dict #[] }) (s.heap.objs.size + 1) [] ⟨fun _ _ hm => (nomatch hm), List.Pairwise.nil⟩ (by rw [Heap.size_push]; exact Nat.le_refl _)
  rw [Heap.size_push] at ok
  rw [show ({ s with heap := s.heap.push { cls := .type "dict", data := .dict #[] } } : Shared).heap.objs.size = s.heap.objs.size + 1 from Heap.size_push ..]
  refine wpAny_bind (wpAny_pure (wpAny_pure (hQ _ _ rfl ?_)))
  exact ⟨⟨⟨_, _, rfl⟩, (Heap.Ns.new s.heap (.type "dict")).keeps (pushCells_keeps _ _), fun b o e => pushCells_keeps _ _ b o (Heap.get?_push_of_some _ e), Nat.le_refl _⟩,
      fun n c hc => (ok.empty n c (mem_of_lookup hc)).1, ok.apart, fun n c hm => (ok.empty n c hm).2⟩
section
variable {prog : Program} {w : World} {A : Around} {E : Value → Shared → Prop} {R : Result → Shared → Prop} {s : Shared}
theorem comp_loop {elt target iter : Expr} {ifs : List Expr} {scope : Scope} {pos : Pos} {it acc : Value} {env : Env} (I : Nat → Shared → Prop)
    (turn : ∀ n s, I n s → wpAny (model prog w) A (pyNext it) (fun r s₁ => match r with
      | none => R (.ok .next) s₁
      | some v => wpAny (model prog w) A (letOwnedTupleGo target it v) (fun _ s₁' => wpAny (model prog w) A (assign target env v) (fun _ s₂ =>
          wpAny (model prog w) A (forIn ifs true fun c r => if r = true then do let ok ← isTrue c env (eval c env); pure (ForInStep.yield ok) else pure (ForInStep.yield r)) (fun ok s₃ =>
            if ok = true then wpAny (model prog w) A (eval elt env) (fun x s₄ =>
              wpAny (model prog w) A (call (.builtin "list.append") [acc, x]) (fun _ s₅ => ∃ m, m < n ∧ I m s₅) (notedBy (model prog w) A env fun e s' => R (.error e) s') s₄) (notedBy (model prog w) A env fun e s' => R (.error e) s') s₃
            else ∃ m, m < n ∧ I m s₃) (notedBy (model prog w) A env fun e s' => R (.error e) s') s₂) (notedBy (model prog w) A env fun e s' => R (.error e) s') s₁') (notedBy (model prog w) A env fun e s' => R (.error e) s') s₁) (notedBy (model prog w) A env fun e s' => R (.error e) s') s)
    (n : Nat) (h : I n s) :
    codeAny (model prog w) A (.compLoop (.ListComp elt [⟨target, iter, ifs, 0⟩] scope pos) 0 it acc env) R s := by
  refine codeAny_loop rfl I (fun n s hI => ?_) n h
  show wpAny _ A ((compTurn (.ListComp elt [⟨target, iter, ifs, 0⟩] scope pos) 0 it acc env).onRaise (fun x => do noteFrame x env; theTreesLotGoes x)) _ _ s
  refine wpAny_noted ?_
  rw [compTurn_list]
  refine wpAny_bind (wpAny_standAt (wpAny_bind (wpAny_mono (turn n s hI) (fun r s₁ h₁ => ?_) fun _ _ h' => h')))
  cases r with
  | none => exact wpAny_pure h₁
  | some v =>
    refine wpAny_bind (wpAny_mono h₁ (fun _ s₁' h₁' => ?_) fun _ _ h' => h')
    refine wpAny_bind (wpAny_mono h₁' (fun _ s₂ h₂ => wpAny_bind (wpAny_mono h₂ (fun ok s₃ h₃ => ?_) fun _ _ h' => h')) fun _ _ h' => h')
    cases ok with
    | false => exact wpAny_pure ⟨rfl, h₃⟩
    | true =>
      exact wpAny_bind (wpAny_bind (wpAny_mono h₃ (fun x s₄ h₄ => wpAny_bind (wpAny_mono h₄ (fun _ s₅ h₅ => wpAny_pure (wpAny_pure ⟨rfl, h₅⟩)) fun _ _ h' => h')) fun _ _ h' => h'))
end
/-- the tests of a clause -/
def PTs (X : Cx) (ifs : List Expr) (t : TT) : Prop :=
  ∀ (pins : List (Addr × Obj)) (s : Shared) (σ : St) (H : Hp) (Q : Bool → Hp → Prop), Inv X pins σ H s → t σ H Q →
    wpAny (model X.prog X.w) X.A (forIn ifs true fun c r => if r = true then do let ok ← isTrue c X.env (eval c X.env); pure (ForInStep.yield ok) else pure (ForInStep.yield r)) (TP X pins σ Q) X.xe s
def tAll : TT := fun _ H Q => Q true H
theorem pts_nil {X : Cx} : PTs X [] tAll := fun pins s σ H Q I h => wpAny_tests_nil ⟨H, I, h⟩
theorem pts_one {X : Cx} {c : Expr} {t : TT} (h : PT X c t) : PTs X [c] t := fun pins s σ H Q I q => wpAny_tests_one (h pins s σ H Q I q)
/-- [elt for tg in iter if ..] -/
def tComp (NB : List Str) (wi : TI) (g : TG) (tt : TT) (te : TE) : TE := fun σ H Q => wi σ H fun J H1 => ∃ W : Nat → Nat → List V → Hp → Prop, (∃ m, W 0 m [] H1) ∧ ∀ i m vs H, W i m vs H →
  (J.stop i H ∧ ∀ p, H p = none → Q (.ref p) (upd H p (.lst vs))) ∨ (J.go i H ∧ vs.length < sizeLine ∧ ∃ N : List V → Hp → Prop, (∀ vs' H', N vs' H' → ∃ m', m' < m ∧ W (i + 1) m' vs' H') ∧
    ∀ x H', J.yld i H x H' → g x (List.replicate NB.length none) H' fun σ2 H2 => tt σ2 H2 fun b H3 => if b = true then te σ2 H3 fun v H4 => N (vs ++ [v]) H4 else N vs H3)
abbrev lstO (ys : List Value) : Obj := { cls := .type "list", data := .seq ys.toArray ys.length }
section
variable {X : Cx}
theorem pe_lcomp {elt tg iter : Expr} {ifs : List Expr} {scope : Scope} {pos : Pos} {NB : List Str} {wi : TI} {g : TG} {tt : TT} {te : TE} (hc : X.calm = true) (S : BlkScope NB scope) (hi : PI X tg iter wi)
    (hg : ∀ s H ex, PG (cxBlk X NB scope s H ex) tg g) (ht : ∀ s H ex, PTs (cxBlk X NB scope s H ex) ifs tt) (he : ∀ s H ex, PE (cxBlk X NB scope s H ex) elt te)
    (hs : ∀ x, foldedSetIterable iter X.env x = pure x := by intro _; rfl) : PE X (.ListComp elt [⟨tg, iter, ifs, 0⟩] scope pos) (tComp NB wi g tt te) := by
  intro pins s σ H Q I h
  rw [eval_ListComp]
  refine wpAny_comprehension_free (use := none) (cl := []) rfl hs (clos_none S.nofree) S.kind S.loc (thn (hi pins s σ H _ I h) fun v s1 h1 => thn h1 fun itv s2 h2 => ?_)
  obtain ⟨it, fp, tn, J, H2, e, I2, T, st2, f2, W, ⟨m0, w0⟩, turn⟩ := h2
  subst e
  refine wpAny_newObj_type ?_
  have up2 : ∀ b o, s2.heap.get? b = some o → (s2.heap.push { cls := .type "list", data := .seq ([] : List Value).toArray }).get? b = some o := fun b o e => Heap.get?_push_of_some _ e
  have I3 : Inv X pins σ H2 { s2 with heap := s2.heap.push { cls := .type "list", data := .seq ([] : List Value).toArray } } := I2.kept (t' := s2.toks) up2
  have st3 : tn 0 (s2.heap.push { cls := .type "list", data := .seq ([] : List Value).toArray }) := T.keep _ _ _ st2 fun b _ o e => up2 b o e
  have hD3 : (s2.heap.push { cls := .type "list", data := .seq ([] : List Value).toArray }).get? s2.heap.objs.size = some (lstO []) := Heap.get?_push_size _ rfl
  have hD2 : H2 s2.heap.objs.size = none := I2.hok.fresh (Nat.le_refl _)
  have lt2 : ∀ b o, s2.heap.get? b = some o → b ≠ s2.heap.objs.size := fun b o e => Nat.ne_of_lt (Heap.lt_size e)
  have fpO : ∀ b ∈ fp, ∃ o, s2.heap.get? b = some o := fun b hb => let ⟨o, e, _⟩ := T.obj _ _ st2 b hb; ⟨o, e⟩
  have hDs0 : X.s₀.heap.objs.size ≤ s2.heap.objs.size := I2.sz
  have hDL : s2.heap.objs.size ≠ X.env.locals := Nat.ne_of_gt I2.lt
  have hDC : ∀ x c, X.env.cells.lookup x = some c → c ≠ s2.heap.objs.size := fun x c e => let ⟨v, o, e1, _⟩ := I2.cell x c e; lt2 c o e1
  have hDp : ∀ p ∈ X.pn ++ pins, p.1 ≠ s2.heap.objs.size := fun p hp => lt2 p.1 _ (I2.pin p hp).1
  have hDf : s2.heap.objs.size ∉ frs X.stack := fun z => let ⟨o, e, _⟩ := (I2.stack.mem z).2; lt2 _ o e rfl
  generalize hS3 : ({ s2 with heap := s2.heap.push { cls := .type "list", data := .seq ([] : List Value).toArray } } : Shared) = s3 at I3 ⊢
  have hh3 : s3.heap = s2.heap.push { cls := .type "list", data := .seq ([] : List Value).toArray } := by rw [← hS3]
  rw [← hh3] at st3 hD3 up2
  generalize s2.heap.objs.size = D at hD3 hD2 lt2 hDs0 hDL hDC hDp hDf ⊢
  refine wpAny_newBlock S.kind fun cenv s4 hce x4 => ?_
  subst hce
  rw [relabel_same S.nofree]
  have lt3 : ∀ b o, s3.heap.get? b = some o → b < s3.heap.objs.size := fun b o e => Heap.lt_size e
  have fp3 : ∀ b ∈ fp, b < s3.heap.objs.size := fun b hb => let ⟨o, e⟩ := fpO b hb; lt3 b o (up2 b o e)
  have dl3 : D < s3.heap.objs.size := lt3 D _ hD3
  have DfpN : ∀ b ∈ fp, b ≠ D := fun b hb => let ⟨o, e⟩ := fpO b hb; lt2 b o e
  obtain ⟨h4, tk4, rfl, hk4⟩ := x4.done
  have bsN : ∀ b o, X.base.get? b = some o → b ∉ D :: fp := fun b o e hb => by
    rcases List.mem_cons.mp hb with rfl | hb
    · exact absurd (Nat.lt_of_lt_of_le (Heap.lt_size (I2.ok.bs b o e).1) hDs0) (Nat.lt_irrefl _)
    · obtain ⟨_, _, _, f3, _⟩ := f2 b hb
      rcases f3 with z | z
      · exact I2.ok.noex b o e z
      · exact absurd (Nat.lt_of_lt_of_le (Heap.lt_size (I2.ok.bs b o e).1) z) (Nat.lt_irrefl _)
  have exF : ∀ b ∈ D :: fp, b ∉ frs X.stack := fun b hb hf => by
    rcases List.mem_cons.mp hb with rfl | hb
    · exact hDf hf
    · obtain ⟨_, f1, f2', _⟩ := f2 b hb
      rcases List.mem_cons.mp (I2.stkSub b hf) with z | z
      · exact f1 z
      · exact f2' z
  have cge : ∀ y c, (cellsFrom (s3.heap.objs.size + 1) scope.names []).lookup y = some c → s3.heap.objs.size < c := fun y c e => x4.above y c (PySem.mem_of_lookup e)
  have exLt : ∀ b ∈ D :: fp, b < s3.heap.objs.size := fun b hb => by
    rcases List.mem_cons.mp hb with rfl | hb
    · exact dl3
    · exact fp3 b hb
  have okB : (cxBlk X NB scope s3 H2 (D :: fp)).Ok := by
    refine ⟨I3.ok.mod, S.kind, I3.ok.glob, I3.ok.blt, Nat.le_refl _, fun y z c h1 h2 => ?_, fun y hy => ?_, fun y c _ h => Nat.le_of_lt (cge y c h), I3.ok.hd, I3.ok.frames, .inl rfl, fun b hb => ⟨Nat.ne_of_lt (exLt b hb), fun y c e z => ?_⟩, I3.bs, Nat.le_trans I3.ok.bsz I3.sz, bsN, exF, I3.stack, I3.stkFree⟩
    · exact name_of_addr x4.apart (PySem.mem_of_lookup h1) (PySem.mem_of_lookup h2)
    · have hy : scope.names.lookup y = some .cell ∨ scope.names.lookup y = some .free := hy
      rcases hy with hy | hy
      · exact cell_has hy
      · exact absurd rfl (S.nofree _ (PySem.mem_of_lookup hy))
    · have := cge y c e
      rw [z] at this
      exact absurd (Nat.lt_trans this (exLt b hb)) (Nat.lt_irrefl _)
  have rep : ∀ (j : Nat) (v : V), (List.replicate NB.length (none : Option V))[j]? ≠ some (some v) := fun j v z => by
    rw [List.getElem?_replicate] at z
    split at z <;> cases z
  have IB : Inv (cxBlk X NB scope s3 H2 (D :: fp)) [(D, lstO [])] (List.replicate NB.length none) H2 { s3 with heap := h4, toks := tk4 } := by
    refine ⟨okB, rfl, I3.bare, Un.kept hk4, ⟨_, x4.toInCall.ns, fun i y v h1 h2 h3 => absurd h2 (rep i v)⟩, fun y c h => ⟨_, x4.cell y c h⟩, I3.hok.fresh (Nat.le_refl _), fun y c h => I3.hok.fresh (Nat.le_of_lt (cge y c h)), fun p hp => ?_, I3.hok.kept hk4, by rw [List.length_replicate]⟩
    obtain rfl : p = (D, lstO []) := by simpa using hp
    exact ⟨hk4 _ _ hD3, hD2, Nat.ne_of_lt dl3, hDf, fun v z => nomatch z⟩
  -- what stays true of the iterator's objects
  have stat : ∀ {H' : Hp} {ys : List Value}, (∀ b ∈ fp, H' b = none) → ∀ b ∈ fp, FpOk (cxBlk X NB scope s3 H2 (D :: fp)) [(D, lstO ys)] H' b := fun hn b hb =>
    ⟨hn b hb, Nat.ne_of_lt (fp3 b hb), exF b (List.mem_cons_of_mem _ hb), .inl (List.mem_cons_of_mem _ hb), fun y c e z => by
      have := cge y c e
      rw [z] at this
      exact absurd (Nat.lt_trans this (fp3 b hb)) (Nat.lt_irrefl _), fun p hp => by
        obtain rfl : p = (D, _) := by simpa using hp
        exact (DfpN b hb).symm⟩
  have st4 : tn 0 h4 := T.keep _ _ _ st3 fun b _ o e => hk4 b o e
  have fr4 : ∀ b ∈ fp, H2 b = none := fun b hb => (f2 b hb).1
  have hcB : (cxBlk X NB scope s3 H2 (D :: fp)).calm = true := hc
  have loop : codeAny (model X.prog X.w) X.A (.compLoop (.ListComp elt [⟨tg, iter, ifs, 0⟩] scope pos) 0 (.ref it) (.ref D) (blkEnv scope X.env s3.heap.objs.size))
      (compPost (model X.prog X.w) X.A X.xe none (EP X pins σ Q) (.ref D) s3.heap.objs.size) { s3 with heap := h4, toks := tk4 } := by
    refine comp_loop (fun n s' => ∃ i vs ys H', Inv (cxBlk X NB scope s3 H2 (D :: fp)) [(D, lstO ys)] (List.replicate NB.length none) H' s' ∧ Vals vs ys ∧ vs.length ≤ sizeLine ∧ tn i s'.heap ∧ (∀ b ∈ fp, H' b = none) ∧ W i n vs H') ?_ m0 ⟨0, [], [], H2, IB, .nil, Nat.zero_le _, st4, fr4, w0⟩
    rintro n s5 ⟨i, vs, ys, H5, I5, rv, hvl, st5, fr5, w5⟩
    rcases turn i n vs H5 w5 with ⟨stop, qn⟩ | ⟨go, hlt, N, hN, step⟩
    · refine wpAny_mono (T.done (cxBlk X NB scope s3 H2 (D :: fp)) rfl rfl rfl hcB i _ s5 _ H5 (fun _ _ => False) I5 (stat fr5) st5 stop) (fun r s6 ⟨hr, I6⟩ => ?_) (fun _ _ z => z.elim)
      subst hr
      obtain ⟨m6, hn6, _⟩ := id I6.loc
      refine ⟨m6, hn6, fun h7 sb7 => ?_⟩
      have kp7 : ∀ b o, b ≠ s3.heap.objs.size → s6.heap.get? b = some o → h7.get? b = some o := fun b o hb e => (sb7.2 b hb).trans e
      have hC6 : H5 s3.heap.objs.size = none := I6.free
      have un7 : Un (frs X.stack) (D :: fp) H2 H5 s3.heap h7 := by
        have u := I6.base
        refine ⟨fun b o e n hb hx => kp7 b o (Nat.ne_of_lt (Heap.lt_size e)) (u.keep b o e n hb hx), fun b o e n hb hx => ?_, u.free, fun b o e hx => ?_, u.tups, u.frzs, u.tbls⟩
        · obtain ⟨sl, q⟩ := u.slot b o e n hb hx
          exact ⟨sl, kp7 b _ (Nat.ne_of_lt (Heap.lt_size e)) q⟩
        · obtain ⟨o', q⟩ := u.there b o e hx
          exact ⟨o', kp7 b _ (Nat.ne_of_lt (Heap.lt_size e)) q⟩
      have hok7 : HOk X.prog X.w H5 h7 := fun b u e => (I6.hok b u e).stay (fun c w' hcc q => kp7 c w' (by
        rintro rfl
        rcases hcc with rfl | hcc
        · rw [hC6] at e; cases e
        · rw [hC6] at hcc; cases hcc) q) (fun _ q => q) fun _ _ q => q
      have I7 : Inv X pins σ H5 { s6 with heap := h7 } := I3.call' (s' := { s6 with heap := h7 }) I6.os un7 hok7 I6.bare fun b hb => by
        rcases List.mem_cons.mp hb with rfl | hb
        · exact ⟨.inr hDs0, hDL, hDC, hDp⟩
        · obtain ⟨_, f1, _, f3, f4, f5⟩ := f2 b hb
          exact ⟨f3, f1, f4, f5⟩
      obtain ⟨eD, nD, _⟩ := I6.pin (D, lstO ys) (by simp)
      have nD' : H5 D = none := nD
      have eD' : h7.get? D = some (lstO ys) := kp7 D _ (Nat.ne_of_lt dl3) eD
      have hD0 : X.s₀.heap.get? D = none := by
        cases q : X.s₀.heap.get? D with
        | none => rfl
        | some o => exact absurd (Nat.lt_of_lt_of_le (Heap.lt_size q) hDs0) (Nat.lt_irrefl _)
      exact ⟨.ref D, upd H5 D (.lst vs), I7.track nD' hD0 hDL hDC hDp ⟨hvl, ys, ys.length, rv, eD'⟩, rfl, qn D nD'⟩
    · refine wpAny_mono (T.item (cxBlk X NB scope s3 H2 (D :: fp)) rfl rfl rfl hcB i _ s5 _ H5 (fun _ _ => False) I5 (stat fr5) st5 go) (fun r s6 ⟨u, hr, h6⟩ => ?_) (fun _ _ z => z.elim)
      subst hr
      refine wpAny_mono h6 (fun _ s7 ⟨x, H7, I7, r7, y7, st7, fr7⟩ => ?_) (fun _ _ z => z.elim)
      have I7' := I7.pinned (stat fr7) (T.obj _ _ st7)
      refine wpAny_mono (hg s3 H2 (D :: fp) _ s7 _ H7 x u _ I7' r7 (step x H7 y7)) (fun _ s8 ⟨σ8, H8, I8, q8⟩ => ?_) (fun _ _ z => z.elim)
      refine wpAny_mono (ht s3 H2 (D :: fp) _ s8 σ8 H8 _ I8 q8) (fun ok s9 ⟨H9, I9, q9⟩ => ?_) (fun _ _ z => z.elim)
      have fpK : ∀ {σ' : St} {H' : Hp} {s' : Shared}, Inv (cxBlk X NB scope s3 H2 (D :: fp)) ([(D, lstO ys)] ++ pinsAt fp s7.heap) σ' H' s' → tn (i + 1) s'.heap ∧ ∀ b ∈ fp, H' b = none := fun J =>
        ⟨T.keep _ _ _ st7 fun b hb o e => (J.pin (b, o) (List.mem_append_right _ (List.mem_append_right _ (mem_pinsAt hb e)))).1, fun b hb => by
          obtain ⟨o, e, d⟩ := T.obj _ _ st7 b hb
          exact (J.pin (b, o) (List.mem_append_right _ (List.mem_append_right _ (mem_pinsAt hb e)))).2.1⟩
      have wk : ∀ {σ' : St} {H' : Hp} {s' : Shared} {pl : List (Addr × Obj)}, Inv (cxBlk X NB scope s3 H2 (D :: fp)) pl σ' H' s' → Inv (cxBlk X NB scope s3 H2 (D :: fp)) pl (List.replicate NB.length none) H' s' := fun J =>
        J.weak (by rw [List.length_replicate]; exact J.len.symm) fun j v z => absurd z (rep j v)
      cases ok with
      | false =>
        rw [if_neg (by decide)] at q9
        rw [if_neg (by decide)]
        obtain ⟨m', hm, w9⟩ := hN vs H9 q9
        obtain ⟨t9, f9⟩ := fpK I9
        exact ⟨m', hm, i + 1, vs, ys, H9, wk I9.unpinned, rv, hvl, t9, f9, w9⟩
      | true =>
        rw [if_pos rfl] at q9
        rw [if_pos rfl]
        refine wpAny_mono (he s3 H2 (D :: fp) _ s9 σ8 H9 _ I9 q9) (fun y s10 ⟨v, H10, I10, rv10, q10⟩ => ?_) (fun _ _ z => z.elim)
        obtain ⟨eD, nD, _, nf, _⟩ := I10.pin (D, lstO ys) (by simp)
        have hyl := rv.length
        refine append_at (hsz := by show ys.toArray.size ≤ sizeLine; rw [List.size_toArray, ← hyl]; exact hvl) eD fun h11 sb11 hD11 => ?_
        obtain ⟨m', hm, w11⟩ := hN (vs ++ [v]) H10 q10
        obtain ⟨t10, f10⟩ := fpK I10
        have I10u := I10.unpinned
        have k11 : ∀ b o, b ≠ D → s10.heap.get? b = some o → h11.get? b = some o := fun b o hb e => (sb11.2 b hb).trans e
        have IE : Inv (cxBlk X NB scope s3 H2 (D :: fp)) [] σ8 H10 s10 := I10u.pins_of fun p hp => nomatch hp
        have I11 : Inv (cxBlk X NB scope s3 H2 (D :: fp)) [] σ8 H10 { s10 with heap := h11 } := IE.turned (t' := s10.toks) k11 nD (Nat.ne_of_lt dl3) (.inl List.mem_cons_self) (fun y' c e z => by
          have := cge y' c e
          rw [z] at this
          exact absurd (Nat.lt_trans this dl3) (Nat.lt_irrefl _)) (fun p hp => absurd (show p ∈ ([] : List (Addr × Obj)) from hp) (by simp))
        have eL : ({ cls := .type "list", data := .seq (ys.toArray.push y) (ys.length + 1) } : Obj) = lstO (ys ++ [y]) := by
          show ({ cls := .type "list", data := .seq (ys.toArray.push y) (ys.length + 1) } : Obj) = { cls := .type "list", data := .seq (ys ++ [y]).toArray (ys ++ [y]).length }
          rw [List.length_append, List.length_singleton, List.push_toArray]
        refine ⟨m', hm, i + 1, vs ++ [v], ys ++ [y], H10, wk (I11.pins_of fun p hp => ?_), rv.append (.cons rv10 .nil), by rw [List.length_append, List.length_singleton]; exact hlt, T.keep _ _ _ t10 fun b hb o e => k11 b o (DfpN b hb) e, f10, w11⟩
        obtain rfl : p = (D, lstO (ys ++ [y])) := by simpa using hp
        exact ⟨by rw [← eL]; exact hD11, nD, Nat.ne_of_lt dl3, nf, fun v z => nomatch z⟩
  exact codeAny_compStart_list loop (T.self _ 0 _ _ _ st4 loop)
end
end L2

set_option Elab.async false
set_option linter.all false
set_option maxRecDepth 100000
/-! texts: methods, slices, join of a list turned round -/
namespace L2
open PySem PySem.Spec PyProof.Rows
open Builtin Builtin.Str
section
variable {prog : Program} {w : World} {A : Around} {E : Value → Shared → Prop} {s : Shared}
theorem call_gives {name : Str} {id : String} {B : Builtin} {x : Str} {t : Tok} {rest : List Value} {m : Made} {Q : Value → Shared → Prop} (slot : Slot "str" name id) (entry : entryFor table id = some B) (args : argsOk id ⟨.str x t :: rest, []⟩)
    (g : Gives (B ⟨.str x t :: rest, []⟩) m) (h : m.post Q s) : wpAny (model prog w) A (call (.builtin id) (.str x t :: rest)) Q E s :=
  wpAny_call (codeAny_call_builtin slot.plain entry (slot.check _ _ _ _ _ _ _ _ (typeIs_str _ _ _) args (g prog w A (wants Q E) s h)))
end
section
variable {X : Cx}
def rTxt (C : Str → Str → Prop) (f : Str → Str → V) : V → List V → Hp → VK → Prop := fun x vs H Q => ∃ z y, x = .str z ∧ vs = [.str y] ∧ C z y ∧ Q (f z y) H
def CLen (z _ : Str) : Prop := z.length ≤ sizeLine
theorem mt_strip : MtR X "str.strip" (rTxt CLen fun z y => .str (Txt.stripChars z y)) := by
  intro pins s σ H x vs v us Q I rx rv h
  obtain ⟨z, y, rfl, rfl, hl, q⟩ := h
  obtain ⟨t, rfl⟩ := rx
  obtain ⟨u, rfl, t', rfl⟩ := vals1 rv
  exact call_gives F.slot_str_strip F.entry_str_strip (F.args_str_strip_2 _ _) (gives_str_strip_chars z y t t') (post_val_or_made (fun _ => fits_stripped _ _ _ hl) fun t2 k => ⟨.str _, H, I.tok k, ⟨t2, rfl⟩, q⟩)
theorem mt_startswith : MtR X "str.startswith" (rTxt (fun _ _ => True) fun z y => .bl (Txt.startswith z y)) := by
  intro pins s σ H x vs v us Q I rx rv h
  obtain ⟨z, y, rfl, rfl, _, q⟩ := h
  obtain ⟨t, rfl⟩ := rx
  obtain ⟨u, rfl, t', rfl⟩ := vals1 rv
  exact call_gives F.slot_str_startswith F.entry_str_startswith (F.args_str_startswith_2 _ _) (gives_str_startswith z y t t') ⟨.bl _, H, I, rfl, q⟩
theorem sl_str : SlR X (fun x lo hi H Q => ∃ z, x = .str z ∧ z.length ≤ sizeLine ∧ Q (.str (StrLaws.sliceText z lo hi)) H) := by
  intro pins s σ H x v vl vu lo hi sl Q I rx hs pl pu h
  obtain ⟨z, rfl, hl, q⟩ := h
  obtain ⟨t, rfl⟩ := rx
  have part : ∀ {v : Value} {o : Option Int}, IsPart v o → ∃ p : Option (Int × Tok), v = partValue p ∧ p.map (·.1) = o := fun p => by
    cases p with
    | none => exact ⟨none, rfl, rfl⟩
    | int i t => exact ⟨some (i, t), rfl, rfl⟩
  obtain ⟨p, rfl, rfl⟩ := part pl
  obtain ⟨p2, rfl, rfl⟩ := part pu
  refine ⟨"str", _, F.slot_str_getitem.lookup, typeIs_str _ _ _, ?_⟩
  refine wpAny_getItem_str_slice (l := p) (u := p2) (st := none) hs rfl ?_
  unfold sliceMade slicePicked
  refine post_val_or_made (fun _ => ?_) fun t2 k => ⟨.str (StrLaws.sliceText z (p.map (·.1)) (p2.map (·.1))), H, I.tok k, ⟨t2, rfl⟩, q⟩
  show (List.filterMap _ _).toArray.size ≤ sizeLine
  rw [List.size_toArray]
  exact Nat.le_trans (List.length_filterMap_le _ _) (Nat.le_trans (sliceIndices_le _ _ _) hl)
end
end L2

set_option Elab.async false
set_option linter.all false
set_option maxRecDepth 100000
/-! join of a list turned round; lists compared; more of texts and calls -/
namespace L2
open PySem PySem.Spec PyProof.Rows
open Builtin Builtin.Str
section
variable {prog : Program} {w : World} {A : Around} {E : Value → Shared → Prop} {s : Shared}
variable {I : Addr} {fp wr : List Addr} {G : Array GenState → Array GenState → Prop} {n : Nat} {P : Nat → Value → Prop} {St : Nat → Shared → Prop}
end
end L2

set_option Elab.async false
set_option linter.all false
set_option maxRecDepth 100000
namespace L2
open PySem PySem.Spec PyProof.Rows
open Builtin Builtin.Str
section
variable {X : Cx}
end
end L2

set_option Elab.async false
set_option linter.all false
set_option maxRecDepth 100000
namespace L2
open PySem PySem.Spec PyProof.Rows
open Builtin Builtin.Str
section
variable {X : Cx}
end
section
variable {X : Cx} {k k' : Nat} {x p1 : Str} {sp : Sp} {E : XK} {p pos kpos : Pos} {e : Expr} {te : TE}
end
end L2

set_option Elab.async false
set_option linter.all false
set_option maxRecDepth 100000
namespace L2
open PySem PySem.Spec PyProof.Rows
/-- lo, lo + c, .. (n of them) -/
def Itr3 (lo c : Int) (n : Nat) : It := ⟨fun i _ => i < n, fun i H x H' => H' = H ∧ x = .int (lo + i * c), fun i _ => n ≤ i⟩
theorem turn_range3 {P : Program} {w : World} {K : PySem.W.Frag} {tg : Expr} (it : Addr) (lo c : Int) (n : Nat) : Turn P w K tg (Itr3 lo c n) [it] it (fun i h => IsRangeIter h it (lo + (i : Nat) * c) ((n : Int) - (i : Nat)) c) where
  mem := by simp
  obj := fun i h st b hb => by
    have e : b = it := by simpa using hb
    subst e
    exact ⟨_, st, fun v z => by
      have z' : Data.fields _ = Data.cell v := z
      cases z'⟩
  keep := fun i h h' st k => k it (by simp) _ st
  item := by
    intro X hP hw hK hc i pins s σ H E I hf st hg
    subst hP hw hK
    obtain ⟨f0, f1, f2, f3, f4, f5⟩ := hf it (by simp)
    have W := Walks.range (prog := X.prog) (w := X.w) (I.ok.hd hc) it lo c n
    refine W.item i s _ _ hg st fun v h' tk hv st' kk => ?_
    obtain ⟨t, rfl⟩ := hv
    have I1 : Inv X pins σ H { s with heap := h', toks := tk } := I.turned (fun b o hb e => kk b o (by simpa using hb) e) f0 f1 f3 f4 f5
    exact ⟨_, rfl, go_of (s := { s with heap := h', toks := tk }) (n := "range_iterator") st' rfl rfl (by decide) ⟨.int (lo + i * c), H, I1, ⟨t, rfl⟩, ⟨rfl, rfl⟩, st', fun b hb => (hf b hb).1⟩⟩
  done := by
    intro X hP hw hK hc i pins s σ H E I hf st hg
    subst hP hw hK
    obtain ⟨f0, f1, f2, f3, f4, f5⟩ := hf it (by simp)
    exact wpAny_pyNext_range_end (I.ok.hd hc) st (by have : n ≤ i := hg; omega) fun h' eb => ⟨rfl, I.turned (t' := s.toks) (fun b o hb e => eb b o hb e) f0 f1 f3 f4 f5⟩
  self := fun _ _ _ _ _ st h => wpAny_pyIter_rangeiter st h
section
variable {X : Cx} {tg : Expr}
def iRng3 (ta : TA) : TI := fun σ H R => ta σ H fun vs H1 => ∃ (i j c : Int) (n : Nat), vs = [.int i, .int j, .int c] ∧ (-(2 ^ 40) ≤ i ∧ i < 2 ^ 40 ∧ -(2 ^ 40) ≤ j ∧ j < 2 ^ 40 ∧ 0 < c ∧ c < 2 ^ 20) ∧ Builtin.Range.rangeSize i j c = (n : Int) ∧ R (Itr3 i c n) H1
theorem pi_range3 {a b d : Expr} {ta : TA} {p pos : Pos} (hg : Gl X "range") (hm : X.mg "range" = none) (ha : PA X [a, b, d] ta) (hs : starEach [a, b, d] X.env = (false, eval a X.env) :: starEach [b, d] X.env := by rfl) (hp : (backTo pos (starEach [b, d] X.env)).any (·.1) = false := by rfl) :
    PI X tg (.Call (.Name "range" p) [a, b, d] [] pos) (iRng3 ta) := by
  intro pins s σ H R I h
  refine Call_ (ld_blt I hg hm boot_range (PyProof.Rows.callWith_type1 (thn (ha pos pins s σ H _ I h) fun us s1 ⟨vs, H1, I1, r1, q1⟩ => ?_) hs hp))
  obtain ⟨i, j, c, n, e, ⟨b1, b2, b3, b4, b5, b6⟩, hn, q⟩ := q1
  subst e
  obtain ⟨u1, u2, u3, rfl, ⟨t1, rfl⟩, ⟨t2, rfl⟩, ⟨t3, rfl⟩⟩ : ∃ u1 u2 u3, us = [u1, u2, u3] ∧ RelV (.int i) u1 ∧ RelV (.int j) u2 ∧ RelV (.int c) u3 := by
    cases r1 with
    | cons p q =>
      cases q with
      | cons p' q' =>
        cases q' with
        | cons p'' q'' =>
          cases q''
          exact ⟨_, _, _, rfl, p, p', p''⟩
  refine call_range_3 (by omega) ?_ (.inl (PyProof.noPylong_small (by omega)))
  refine wpAny_pyIter_range (IsRange.new ..) ?_ ?_
  · have hq1 : 0 ≤ (n : Int) := Int.natCast_nonneg n
    have hq2 : (n : Int) ≤ 2 ^ 41 := by
      rw [← hn]
      unfold Builtin.Range.rangeSize
      rw [if_pos b5]
      split
      · have : (j - i - 1) / c ≤ (j - i - 1) / 1 := by
          rw [Int.ediv_one]
          exact Int.ediv_le_self _ (by omega)
        rw [Int.ediv_one] at this
        omega
      · omega
    unfold Builtin.Range.small
    simp only [hn]
    unfold Builtin.Range.rangeFitsLong
    rw [if_pos b5]
    rw [decide_eq_true (show -(2 ^ 63) ≤ i by omega), decide_eq_true (show i < 2 ^ 63 by omega), decide_eq_true (show -(2 ^ 63) ≤ j by omega), decide_eq_true (show j < 2 ^ 63 by omega), decide_eq_true (show -(2 ^ 63) ≤ c by omega), decide_eq_true (show c < 2 ^ 63 by omega), decide_eq_true (show -(2 ^ 63) ≤ (n : Int) by omega), decide_eq_true (show (n : Int) < 2 ^ 63 by omega),
      decide_eq_true (show -(2 ^ 63) ≤ j + (c - 1) by omega), decide_eq_true (show j + (c - 1) < 2 ^ 63 by omega)]
    simp
  have I2 : Inv X pins σ H1 { s1 with heap := s1.heap.push { cls := .type "range", data := .fields #[.int i t1, .int j t2, .int c t3] }, toks := s1.toks } := I1.kept fun b o e => Heap.get?_push_of_some _ e
  refine ⟨(s1.heap.push { cls := .type "range", data := .fields #[.int i t1, .int j t2, .int c t3] }).objs.size, [(s1.heap.push { cls := .type "range", data := .fields #[.int i t1, .int j t2, .int c t3] }).objs.size], _, _, H1, rfl,
    I2.kept (t' := s1.toks) fun b o e => Heap.get?_push_of_some _ e, turn_range3 _ i c n, ?_, fun b hb => ?_, q⟩
  · have e1 : i + ((0 : Nat) : Int) * c = i := by simp
    have e2 : ((n : Nat) : Int) - ((0 : Nat) : Int) = Builtin.Range.rangeSize i j c := by rw [hn]; simp
    show IsRangeIter _ _ (i + ((0 : Nat) : Int) * c) (((n : Nat) : Int) - ((0 : Nat) : Int)) c
    rw [e1, e2]
    exact Heap.get?_push_size _ rfl
  · have e : b = (s1.heap.push { cls := .type "range", data := .fields #[.int i t1, .int j t2, .int c t3] }).objs.size := by simpa using hb
    subst e
    exact I2.fpOk (Nat.le_refl _) (I2.hok.fresh (Nat.le_refl _))
theorem for_range3 {lo c : Int} {n : Nat} {g : TG} {tb : TS} {D : Ends} {σ : St} {H : Hp} (Pv : Nat → St → Hp → Prop) (h0 : Pv 0 σ H)
    (hs : ∀ i σ H, i < n → Pv i σ H → g (.int (lo + i * c)) σ H fun σ2 H2 => tb { D with nx := Pv (i + 1), ct := Pv (i + 1), bk := D.nx } σ2 H2) (hd : ∀ σ H, Pv n σ H → D.nx σ H) :
    ∃ W : Nat → Nat → St → Hp → Prop, (∃ m, W 0 m σ H) ∧ ∀ i m σ H, W i m σ H →
      ((Itr3 lo c n).stop i H ∧ D.nx σ H) ∨ ((Itr3 lo c n).go i H ∧ ∃ N : St → Hp → Prop, (∀ σ' H', N σ' H' → ∃ m', m' < m ∧ W (i + 1) m' σ' H') ∧ ∀ x H', (Itr3 lo c n).yld i H x H' → g x σ H' fun σ2 H2 => tb { D with nx := N, ct := N, bk := D.nx } σ2 H2) := by
  refine ⟨fun i m σ H => m = n - i ∧ i ≤ n ∧ Pv i σ H, ⟨n, by simp, Nat.zero_le _, h0⟩, ?_⟩
  rintro i m σ H ⟨rfl, hi, p⟩
  by_cases hlt : i < n
  · refine .inr ⟨hlt, Pv (i + 1), fun σ' H' p' => ⟨n - (i + 1), by omega, rfl, hlt, p'⟩, fun x H' y => ?_⟩
    obtain ⟨e, y⟩ := y
    subst e y
    exact hs i σ _ hlt p
  · have e : i = n := by omega
    subst e
    exact .inl ⟨Nat.le_refl _, hd σ H p⟩
end
end L2
namespace L2
open PySem PySem.Spec PyProof.Rows
/-! long displays of texts, and the statements around them: behind a veil -/
structure PAx (X : Cx) (es : List Expr) (t : TA) : Prop where
  pa : PA X es t
structure PSy (X : Cx) (st : Stmt) (t : TS) : Prop where
  ps : PS X st t
section
variable {X : Cx}
theorem pax_nil : PAx X [] tNil := ⟨pa_nil⟩
theorem pax_str {x : Str} {j : Nat} {p : Pos} {es : List Expr} {t : TA} (hr : PAx X es t) : PAx X (.Constant (.str x) j p :: es) (tCons (tC (.str x)) t) := ⟨pa_cons pe_str hr.pa rfl⟩
theorem pex_lst {es : List Expr} {t : TA} {pos : Pos} (h : PAx X es t) : PEx X (.List es pos) (tLst t) := ⟨pe_lst h.pa⟩
theorem psx_cons {st : Stmt} {rest : List Stmt} {t1 t2 : TS} (h : PSy X st t1) (hr : PSx X rest t2) : PSx X (st :: rest) (tSeq t1 t2) := ⟨pss_cons h.ps hr.ps⟩
theorem psx_one {st : Stmt} {t : TS} (h : PSy X st t) : PSx X [st] t := ⟨pss_one h.ps⟩
end
theorem okNCx {P : Program} {w : World} {K : PySem.W.Frag} {mg : Str → Option Value} {base : Heap} {x qual : Str} {st : Stmt} {f : Addr} {fd : FuncData} {cdv : Value} {N ps : List Str} {k : Nat} {sp : Sp} (F : FunC K x qual st f fd cdv) (S : FnScope N ps (defScope st)) (len : ∀ vs H Q E, sp vs H Q E → vs.length = ps.length)
    (hbody : ∀ (A : Around) (outer : List Env) (s : Shared) (H : Hp) (vs : List V) (Q : VK) (E : XK), Room k (A.deeper (envOfC qual (defScope st) s.heap.objs.size f cdv)) → sp vs H Q E →
      ∃ t, PSx (cxOf (CXE P w) P w K mg base N qual (defScope st) f cdv A outer s H E).nox (defBody st) t ∧ t { nx := fun _ H' => Q .non H', rt := Q } (start N vs) H) : FnOk P w K mg base (CXE P w) (k + 1) f fd ps sp :=
  okNC F S len fun A outer s H vs Q E hr hsp => by
    obtain ⟨t, h, q⟩ := hbody A outer s H vs Q E hr hsp
    exact ⟨t, h.ps, q⟩
end L2

set_option Elab.async false
set_option linter.all false
set_option maxRecDepth 100000
/-! more of lists and texts: join, sum, the largest, find from a place -/
namespace L2
open PySem PySem.Spec PyProof.Rows
open Builtin Builtin.Str
def find2 (z y : Str) (i : Int) : Int := match occurrences z y (fromIndex z.length i) z.length 1 with | k :: _ => (k : Int) | [] => -1
theorem vals_strs : ∀ {ys : List Str} {us : List Value}, Vals (ys.map V.str) us → ∃ l : List (Str × Tok), us = strValues l ∧ l.map (·.1) = ys
  | [], _, .nil => ⟨[], rfl, rfl⟩
  | y :: ys, _, .cons r t => by
    obtain ⟨l, e1, e2⟩ := vals_strs t
    obtain ⟨tk, rfl⟩ := r
    exact ⟨(y, tk) :: l, by rw [e1]; rfl, by rw [List.map_cons, e2]⟩
section
variable {X : Cx}
theorem mt_join : MtR X "str.join" (fun x vs H Q => ∃ (z : Str) (p : Addr) (ys : List Str), x = .str z ∧ vs = [.ref p] ∧ SqL X.K H p (ys.map V.str) ∧ JoinOk z ys = true ∧ Q (.str (Txt.join z ys)) H) := by
  intro pins s σ H x vs v us Q I rx rv h
  obtain ⟨z, p, ys, rfl, rfl, hq, hj, q⟩ := h
  obtain ⟨t, rfl⟩ := rx
  obtain ⟨u, rfl, ru⟩ := vals1 rv
  obtain rfl : u = Value.ref p := ru
  obtain ⟨its, rv, pl, hl⟩ := I.list hq
  obtain ⟨l, e1, e2⟩ := vals_strs rv
  subst e1
  have hok := hj
  unfold JoinOk at hok
  rw [Bool.not_eq_true', ← e2] at hok
  refine call_meets F.slot_str_join (typeIs_str _ _ _) F.entry_str_join (F.args_str_join_2 _ _) (meets_str_join_list z t p l hok) ⟨pl.isList, ?_⟩
  refine post_join l ⟨joinFit_length hok, fun t' k => ⟨.str (Txt.join z (l.map (·.1))), H, I.tok k, ⟨t', rfl⟩, ?_⟩⟩
  rw [e2]
  exact q
theorem mt_find2 : MtR X "str.find" (fun x vs H Q => ∃ (z y : Str) (i : Int), x = .str z ∧ vs = [.str y, .int i] ∧ Q (.int (find2 z y i)) H) := by
  intro pins s σ H x vs v us Q I rx rv h
  obtain ⟨z, y, i, rfl, rfl, q⟩ := h
  obtain ⟨t, rfl⟩ := rx
  obtain ⟨u1, u2, rfl, ⟨t1, rfl⟩, ⟨t2, rfl⟩⟩ := vals2 rv
  exact call_gives F.slot_str_find F.entry_str_find (F.args_str_find_3 _ _ _) (gives_str_find_from z y i t t1 t2) ⟨.int _, H, I.tok _, ⟨_, rfl⟩, q⟩
end
theorem walks_list {prog : Program} {w : World} {A : Around} (hh : A.handled = none) (I l : Addr) (hne : l ≠ I) (items : Array Value) :
    WalksS prog w A I [I, l] [I] (fun a b => a = b) items.size (fun i v => items[i]? = some v) (fun i s => s.heap.IsListIter I l i ∧ s.heap.IsList l items) where
  sub := fun b hb => by simp at hb; simp [hb]
  grefl := fun _ => rfl
  gtrans := fun _ _ _ a b => a.trans b
  frame := fun i s h' tk x _ hk => ⟨x.1.at fun o e => hk I (by simp) o e, x.2.at fun o e => hk l (by simp) o e⟩
  item := fun i s Q E hi x hQ => by
    have hx : items[i]? = some (items[i]'hi) := Array.getElem?_eq_getElem hi
    refine wpAny_pyNext_list_item x.1 x.2 hx fun h' st' sb => ?_
    exact hQ _ _ hx ⟨st', x.2.at fun o eo => (sb.2 l hne).trans eo⟩ ⟨fun b o hb eo => (sb.2 b (fun h => hb (by simp [h]))).trans eo, rfl, rfl, rfl, Nat.le_refl _⟩
  done := fun s Q E x hQ => wpAny_pyNext_list_end hh x.1 x.2 (Array.getElem?_eq_none (Nat.le_refl _)) fun h' eb => hQ _ ⟨fun b o hb eo => eb b o (fun h => hb (by simp [h])) eo, rfl, rfl, rfl, Nat.le_refl _⟩
  self := fun _ _ _ _ x hQ => wpAny_pyIter_listiter x.1 hQ
theorem ints_at {ns : List Int} {us : List Value} (r : Vals (ns.map V.int) us) : ∀ i v, us.toArray[i]? = some v → ∃ t, v = Value.int (ns.getD i 0) t := fun i v hv => by
  have h1 : us[i]? = some v := by simpa using hv
  have hlt := (List.getElem?_eq_some_iff.mp h1).1
  have hl := r.length
  rw [List.length_map] at hl
  have h2 : (ns.map V.int)[i]? = some (V.int (ns.getD i 0)) := by
    rw [List.getElem?_map, List.getElem?_eq_getElem (by omega)]
    simp [List.getD, List.getElem?_eq_getElem (show i < ns.length by omega)]
  obtain ⟨u, e, q⟩ := r.get h2
  rw [h1] at e
  cases e
  exact q
theorem preSum_list (ns : List Int) : ∀ k, k ≤ ns.length → preSum (fun i => ns.getD i 0) k = (ns.take k).sum := by
  intro k
  induction k with
  | zero => intro _; rfl
  | succ k ih =>
    intro hk
    have e : ns.take (k + 1) = ns.take k ++ [ns.getD k 0] := by
      rw [List.take_add_one, List.getElem?_eq_getElem (by omega)]
      simp [List.getD, List.getElem?_eq_getElem (show k < ns.length by omega)]
    show preSum _ k + ns.getD k 0 = _
    rw [ih (by omega), e, List.sum_append]
    simp
theorem best_is (val : Nat → Int) : ∀ k, argBest (fun i j => decide (val i > val j)) k ≤ k ∧ ∀ i, i ≤ k → val i ≤ val (argBest (fun i j => decide (val i > val j)) k) := by
  intro k
  induction k with
  | zero => exact ⟨Nat.le_refl _, fun i hi => by rw [Nat.le_zero.mp hi]; exact Int.le_refl _⟩
  | succ k ih =>
    unfold argBest
    by_cases h : val (k + 1) > val (argBest (fun i j => decide (val i > val j)) k)
    · rw [if_pos (decide_eq_true h)]
      refine ⟨Nat.le_refl _, fun i hi => ?_⟩
      rcases Nat.lt_or_ge i (k + 1) with h1 | h1
      · have := ih.2 i (by omega)
        omega
      · rw [show i = k + 1 by omega]; exact Int.le_refl _
    · rw [if_neg (by rw [decide_eq_true_eq]; exact h)]
      refine ⟨by omega, fun i hi => ?_⟩
      rcases Nat.lt_or_ge i (k + 1) with h1 | h1
      · exact ih.2 i (by omega)
      · rw [show i = k + 1 by omega]; omega
section
variable {X : Cx}
theorem call_sum (hc : X.calm = true) : CallR X (.builtin "sum") (fun xs H Q => ∃ (p : Addr) (ns : List Int), xs = [.ref p] ∧ SqL X.K H p (ns.map V.int) ∧ Q (.int ns.sum) H) := by
  intro pins s σ H xs us Q I r h
  obtain ⟨p, ns, rfl, hq, q⟩ := h
  obtain ⟨u, rfl, ru⟩ := vals1 r
  obtain rfl : u = Value.ref p := ru
  obtain ⟨its, rv, pl, hl⟩ := I.list hq
  have hil := pl.isList
  have hlt : p < s.heap.objs.size := by obtain ⟨o, e, _⟩ := hil; exact Heap.lt_size e
  have hlen := rv.length
  rw [List.length_map] at hlen
  refine call_sum_walkAnyS (wpAny_pyIter_list hil ?_)
  have I2 : Inv X pins σ H { s with heap := s.heap.push { cls := .type "list_iterator", data := .fields #[.ref p, .int 0 0] } } := I.kept (t' := s.toks) fun b o e => Heap.get?_push_of_some _ e
  refine ⟨s.heap.objs.size, _, _, _, _, _, _, fun i => ns.getD i 0, rfl, walks_list (A := X.A.in1) (I.ok.hd hc) _ p (Nat.ne_of_lt hlt) its.toArray, ⟨⟨_, Heap.get?_push_size _ rfl, rfl, rfl⟩, hil.push _⟩, fun b hb => ?_, ints_at rv, fun s' t' hm => ?_⟩
  · show b < (s.heap.push _).objs.size
    rw [Heap.size_push]
    rcases List.mem_cons.mp hb with rfl | hb
    · exact Nat.lt_succ_self _
    · rw [List.mem_singleton.mp hb]; exact Nat.lt_succ_of_lt hlt
  · obtain ⟨f0, f1, f2, f3, f4, f5⟩ := I.fpOk (Nat.le_refl _) (I.hok.fresh (Nat.le_refl _))
    obtain ⟨h', g', d', tk', os'⟩ := s'
    obtain rfl : g' = s.gens := hm.gens.symm
    obtain rfl : d' = s.drawn := hm.drawn
    obtain rfl : os' = s.os := hm.os
    have e : preSum (fun i => ns.getD i 0) its.toArray.size = ns.sum := by
      rw [List.size_toArray, ← hlen, preSum_list ns _ (Nat.le_refl _), List.take_length]
    rw [e]
    refine ⟨.int ns.sum, H, ?_, ⟨t', rfl⟩, q⟩
    exact (I2.turned (h' := h') (t' := tk') (it := s.heap.objs.size) (fun b o hb eo => hm.heap b o (by simpa using hb) eo) f0 f1 f3 f4 f5 :)
theorem call_maxL (hc : X.calm = true) : CallR X (.builtin "max") (fun xs H Q => ∃ (p : Addr) (ns : List Int), xs = [.ref p] ∧ SqL X.K H p (ns.map V.int) ∧ ns ≠ [] ∧ ∀ m, m ∈ ns → (∀ n ∈ ns, n ≤ m) → Q (.int m) H) := by
  intro pins s σ H xs us Q I r h
  obtain ⟨p, ns, rfl, hq, hne, q⟩ := h
  obtain ⟨u, rfl, ru⟩ := vals1 r
  obtain rfl : u = Value.ref p := ru
  obtain ⟨its, rv, pl, hl⟩ := I.list hq
  have hil := pl.isList
  have hlt : p < s.heap.objs.size := by obtain ⟨o, e, _⟩ := hil; exact Heap.lt_size e
  have hlen := rv.length
  rw [List.length_map] at hlen
  have hpos : 0 < ns.length := by cases ns with | nil => exact absurd rfl hne | cons a r => exact Nat.succ_pos _
  refine call_max_walkS (wpAny_pyIter_list hil ?_)
  have I2 : Inv X pins σ H { s with heap := s.heap.push { cls := .type "list_iterator", data := .fields #[.ref p, .int 0 0] } } := I.kept (t' := s.toks) fun b o e => Heap.get?_push_of_some _ e
  refine ⟨s.heap.objs.size, _, _, _, _, _, _, _, rfl, walks_list (A := X.A.in1) (I.ok.hd hc) _ p (Nat.ne_of_lt hlt) its.toArray, ⟨⟨_, Heap.get?_push_size _ rfl, rfl, rfl⟩, hil.push _⟩, fun b hb => ?_, by rw [List.size_toArray]; omega, CmpOf.ints_gt (fun i => ns.getD i 0) (ints_at rv), fun v s' hv hm => ?_⟩
  · show b < (s.heap.push _).objs.size
    rw [Heap.size_push]
    rcases List.mem_cons.mp hb with rfl | hb
    · exact Nat.lt_succ_self _
    · rw [List.mem_singleton.mp hb]; exact Nat.lt_succ_of_lt hlt
  · obtain ⟨f0, f1, f2, f3, f4, f5⟩ := I.fpOk (Nat.le_refl _) (I.hok.fresh (Nat.le_refl _))
    obtain ⟨h', g', d', tk', os'⟩ := s'
    obtain rfl : g' = s.gens := hm.gens.symm
    obtain rfl : d' = s.drawn := hm.drawn
    obtain rfl : os' = s.os := hm.os
    obtain ⟨t, rfl⟩ := ints_at rv _ _ hv
    obtain ⟨b1, b2⟩ := best_is (fun i => ns.getD i 0) (its.toArray.size - 1)
    generalize argBest (fun i j => decide (ns.getD i 0 > ns.getD j 0)) (its.toArray.size - 1) = j at b1 b2
    rw [List.size_toArray] at b1 b2
    have getD_eq : ∀ i, i < ns.length → ns.getD i 0 = ns[i]! := fun i hi => by simp [List.getD, List.getElem?_eq_getElem hi]
    have hj : j < ns.length := by omega
    refine ⟨.int (ns.getD j 0), H, ?_, ⟨t, rfl⟩, q _ ?_ fun n hn => ?_⟩
    · exact (I2.turned (h' := h') (t' := tk') (it := s.heap.objs.size) (fun b o hb eo => hm.heap b o (by simpa using hb) eo) f0 f1 f3 f4 f5 :)
    · have : ns.getD j 0 = ns[j] := by simp [List.getD, List.getElem?_eq_getElem hj]
      rw [this]
      exact List.getElem_mem hj
    · obtain ⟨i, hi, rfl⟩ := List.mem_iff_getElem.mp hn
      have e : ns.getD i 0 = ns[i] := by simp [List.getD, List.getElem?_eq_getElem hi]
      rw [← e]
      exact b2 i (by omega)
end
end L2

set_option Elab.async false
set_option linter.all false
set_option maxRecDepth 100000
/-! a dict of the written part: read alone -/
namespace L2
open PySem PySem.Spec PyProof.Rows
structure KDict (P : Program) (w : World) (K : PySem.W.Frag) (a : Addr) (kvs : List (Key × V)) : Prop where
  ne : (a == sysModules) = false
  ok : ∀ h : Heap, K.In h → ∃ vs, KV kvs vs ∧ h.DictOf (mixKind P w) a vs
section
variable {X : Cx} {o i : Expr} {td ty : TE} {pos : Pos} {a : Addr} {kvs : List (Key × V)}
def tKGet (a : Addr) (kvs : List (Key × V)) (td ty : TE) : TE := fun σ H Q => td σ H fun x H1 => ty σ H1 fun y H2 => ∃ k v, x = .ref a ∧ y = kV k ∧ valV kvs k = some v ∧ Q v H2
theorem pe_kdget (D : KDict X.prog X.w X.K a kvs) (ho : PE X o td) (hi : PE X i ty) (hs : NoSl i) : PE X (.Subscript o i pos) (tKGet a kvs td ty) := by
  intro pins s σ H Q I h
  refine subD_of PySem.F.slot_dict_getitem.lookup hs (thn (ho pins s σ H _ I h) fun u s1 ⟨x, H1, I1, rx, q1⟩ => thn (hi pins s1 σ H1 _ I1 q1) fun iv s2 ⟨y, H2, I2, ry, k, v, ex, ey, l, q2⟩ => ?_)
  subst ex ey
  obtain rfl : u = Value.ref a := rx
  obtain ⟨vs, rel, dd⟩ := D.ok s2.heap I2.kIn
  obtain ⟨w', hw, rw'⟩ := RelO.some_of (v := v) (o := valueAt vs k) (by rw [← l]; exact rel.val k)
  exact ⟨dd.typeIs, wpAny_getItem_of (kV_is ry) dd.mapOf hw ⟨v, H2, I2.tok _, rw', q2⟩⟩
def tKNotIn (a : Addr) (kvs : List (Key × V)) (ty td : TE) : TE := fun σ H Q => ty σ H fun y H1 => td σ H1 fun x H2 => ∃ k, x = .ref a ∧ y = kV k ∧ Q (.bl (!(valV kvs k).isSome)) H2
theorem pc_kdnotin (D : KDict X.prog X.w X.K a kvs) (hi : PE X i ty) (ho : PE X o td) : PC X .NotIn i o (tKNotIn a kvs ty td) := by
  intro pins s σ H Q I h
  refine thn (hi pins s σ H _ I h) fun iv s1 ⟨y, H1, I1, ry, q1⟩ => thn (ho pins s1 σ H1 _ I1 q1) fun u s2 ⟨x, H2, I2, rx, k, ex, ey, q2⟩ => ?_
  subst ex ey
  obtain rfl : u = Value.ref a := rx
  obtain ⟨vs, rel, dd⟩ := D.ok s2.heap I2.kIn
  refine wpAny_notIn_of (kV_is ry) D.ne dd.mapOf ?_
  rw [← (rel.val k).isSome_eq]
  exact ⟨.bl _, H2, I2.tok _, rfl, q2⟩
end
theorem boot_sum : bootBuiltins "sum" = some (.builtin "sum") := by boot_by_name
section
variable {X : Cx}
theorem ip_addS : PIp X .Add (fun x y H Q => ∃ i j, x = .str i ∧ y = .str j ∧ i.length + j.length ≤ sizeLine ∧ Q (.str (i ++ j)) H) := by
  intro pins s σ H x y v u Q I r1 r2 h
  obtain ⟨i, j, e1, e2, hl, q⟩ := h
  subst e1; subst e2
  obtain ⟨t, rfl⟩ := r1
  obtain ⟨t', rfl⟩ := r2
  exact SB.iadd (fun t2 k => ⟨.str _, H, I.tok k, ⟨t2, rfl⟩, q⟩) hl
end
end L2

set_option Elab.async false
set_option linter.all false
set_option maxRecDepth 100000
/-! a name set to a comprehension itself: stored ahead of the block's end -/
namespace L2
open PySem PySem.Spec PyProof.Rows
section
variable {X : Cx}
theorem ps_lcomp {elt tg iter : Expr} {ifs : List Expr} {scope : Scope} {pos spos py : Pos} {NB : List Str} {wi : TI} {g : TG} {tt : TT} {te : TE} {iy : Nat} {y : Str} (hc : X.calm = true) (S : BlkScope NB scope) (hi : PI X tg iter wi)
    (hg : ∀ s H ex, PG (cxBlk X NB scope s H ex) tg g) (ht : ∀ s H ex, PTs (cxBlk X NB scope s H ex) ifs tt) (he : ∀ s H ex, PE (cxBlk X NB scope s H ex) elt te)
    (hN : X.N.Nodup) (hiy : X.N[iy]? = some y) (hy : Loc X.env.scope y) (hsw : swapsWith (.ListComp elt [⟨tg, iter, ifs, 0⟩] scope pos) (some (.Name y py)) spos.line X.env = pure true)
    (hs : ∀ x, foldedSetIterable iter X.env x = pure x := by intro _; rfl) (hf : X.fn y = true ∨ X.env.scope.names.lookup y = some .local := by first | exact .inl rfl | exact .inr rfl | assumption) :
    PS X (.Assign [.Name y py] (.ListComp elt [⟨tg, iter, ifs, 0⟩] scope pos) spos) (tAsg (tComp NB wi g tt te) (gName iy)) := by
  intro pins s σ H Dn I h
  rw [exec_Assign_Name_used _ _ _ _ hsw]
  refine wpAny_bind (wpAny_standAt (wpAny_bind ?_))
  show wpAny _ X.A (do let _ ← comprehension (.ListComp elt [⟨tg, iter, ifs, 0⟩] scope pos) scope X.env _ (newList []) false (eval iter X.env) (some (assign (.Name y py) X.env))) _ _ s
  refine wpAny_bind (wpAny_mono (wpAny_comprehension_free (use := some (assign (.Name y py) X.env)) (Q := fun _ s' => SP X pins Dn .next s') (cl := []) rfl hs (clos_none S.nofree) S.kind S.loc (thn (hi pins s σ H _ I h) fun v s1 h1 => thn h1 fun itv s2 h2 => ?_)) (fun _ s' hq => wpAny_pure (wpAny_pure hq)) fun _ _ e => e)
  obtain ⟨it, fp, tn, J, H2, e, I2, T, st2, f2, W, ⟨m0, w0⟩, turn⟩ := h2
  subst e
  refine wpAny_newObj_type ?_
  have up2 : ∀ b o, s2.heap.get? b = some o → (s2.heap.push { cls := .type "list", data := .seq ([] : List Value).toArray }).get? b = some o := fun b o e => Heap.get?_push_of_some _ e
  have I3 : Inv X pins σ H2 { s2 with heap := s2.heap.push { cls := .type "list", data := .seq ([] : List Value).toArray } } := I2.kept (t' := s2.toks) up2
  have st3 : tn 0 (s2.heap.push { cls := .type "list", data := .seq ([] : List Value).toArray }) := T.keep _ _ _ st2 fun b _ o e => up2 b o e
  have hD3 : (s2.heap.push { cls := .type "list", data := .seq ([] : List Value).toArray }).get? s2.heap.objs.size = some (lstO []) := Heap.get?_push_size _ rfl
  have hD2 : H2 s2.heap.objs.size = none := I2.hok.fresh (Nat.le_refl _)
  have lt2 : ∀ b o, s2.heap.get? b = some o → b ≠ s2.heap.objs.size := fun b o e => Nat.ne_of_lt (Heap.lt_size e)
  have fpO : ∀ b ∈ fp, ∃ o, s2.heap.get? b = some o := fun b hb => let ⟨o, e, _⟩ := T.obj _ _ st2 b hb; ⟨o, e⟩
  have hDs0 : X.s₀.heap.objs.size ≤ s2.heap.objs.size := I2.sz
  have hDL : s2.heap.objs.size ≠ X.env.locals := Nat.ne_of_gt I2.lt
  have hDC : ∀ x c, X.env.cells.lookup x = some c → c ≠ s2.heap.objs.size := fun x c e => let ⟨v, o, e1, _⟩ := I2.cell x c e; lt2 c o e1
  have hDp : ∀ p ∈ X.pn ++ pins, p.1 ≠ s2.heap.objs.size := fun p hp => lt2 p.1 _ (I2.pin p hp).1
  have hDf : s2.heap.objs.size ∉ frs X.stack := fun z => let ⟨o, e, _⟩ := (I2.stack.mem z).2; lt2 _ o e rfl
  generalize hS3 : ({ s2 with heap := s2.heap.push { cls := .type "list", data := .seq ([] : List Value).toArray } } : Shared) = s3 at I3 ⊢
  have hh3 : s3.heap = s2.heap.push { cls := .type "list", data := .seq ([] : List Value).toArray } := by rw [← hS3]
  rw [← hh3] at st3 hD3 up2
  generalize s2.heap.objs.size = D at hD3 hD2 lt2 hDs0 hDL hDC hDp hDf ⊢
  refine wpAny_newBlock S.kind fun cenv s4 hce x4 => ?_
  subst hce
  rw [relabel_same S.nofree]
  have lt3 : ∀ b o, s3.heap.get? b = some o → b < s3.heap.objs.size := fun b o e => Heap.lt_size e
  have fp3 : ∀ b ∈ fp, b < s3.heap.objs.size := fun b hb => let ⟨o, e⟩ := fpO b hb; lt3 b o (up2 b o e)
  have dl3 : D < s3.heap.objs.size := lt3 D _ hD3
  have DfpN : ∀ b ∈ fp, b ≠ D := fun b hb => let ⟨o, e⟩ := fpO b hb; lt2 b o e
  obtain ⟨h4, tk4, rfl, hk4⟩ := x4.done
  have bsN : ∀ b o, X.base.get? b = some o → b ∉ D :: fp := fun b o e hb => by
    rcases List.mem_cons.mp hb with rfl | hb
    · exact absurd (Nat.lt_of_lt_of_le (Heap.lt_size (I2.ok.bs b o e).1) hDs0) (Nat.lt_irrefl _)
    · obtain ⟨_, _, _, f3, _⟩ := f2 b hb
      rcases f3 with z | z
      · exact I2.ok.noex b o e z
      · exact absurd (Nat.lt_of_lt_of_le (Heap.lt_size (I2.ok.bs b o e).1) z) (Nat.lt_irrefl _)
  have exF : ∀ b ∈ D :: fp, b ∉ frs X.stack := fun b hb hf => by
    rcases List.mem_cons.mp hb with rfl | hb
    · exact hDf hf
    · obtain ⟨_, f1, f2', _⟩ := f2 b hb
      rcases List.mem_cons.mp (I2.stkSub b hf) with z | z
      · exact f1 z
      · exact f2' z
  have cge : ∀ y c, (cellsFrom (s3.heap.objs.size + 1) scope.names []).lookup y = some c → s3.heap.objs.size < c := fun y c e => x4.above y c (PySem.mem_of_lookup e)
  have exLt : ∀ b ∈ D :: fp, b < s3.heap.objs.size := fun b hb => by
    rcases List.mem_cons.mp hb with rfl | hb
    · exact dl3
    · exact fp3 b hb
  have okB : (cxBlk X NB scope s3 H2 (D :: fp)).Ok := by
    refine ⟨I3.ok.mod, S.kind, I3.ok.glob, I3.ok.blt, Nat.le_refl _, fun y z c h1 h2 => ?_, fun y hy => ?_, fun y c _ h => Nat.le_of_lt (cge y c h), I3.ok.hd, I3.ok.frames, .inl rfl, fun b hb => ⟨Nat.ne_of_lt (exLt b hb), fun y c e z => ?_⟩, I3.bs, Nat.le_trans I3.ok.bsz I3.sz, bsN, exF, I3.stack, I3.stkFree⟩
    · exact name_of_addr x4.apart (PySem.mem_of_lookup h1) (PySem.mem_of_lookup h2)
    · have hy : scope.names.lookup y = some .cell ∨ scope.names.lookup y = some .free := hy
      rcases hy with hy | hy
      · exact cell_has hy
      · exact absurd rfl (S.nofree _ (PySem.mem_of_lookup hy))
    · have := cge y c e
      rw [z] at this
      exact absurd (Nat.lt_trans this (exLt b hb)) (Nat.lt_irrefl _)
  have rep : ∀ (j : Nat) (v : V), (List.replicate NB.length (none : Option V))[j]? ≠ some (some v) := fun j v z => by
    rw [List.getElem?_replicate] at z
    split at z <;> cases z
  have IB : Inv (cxBlk X NB scope s3 H2 (D :: fp)) [(D, lstO [])] (List.replicate NB.length none) H2 { s3 with heap := h4, toks := tk4 } := by
    refine ⟨okB, rfl, I3.bare, Un.kept hk4, ⟨_, x4.toInCall.ns, fun i y v h1 h2 h3 => absurd h2 (rep i v)⟩, fun y c h => ⟨_, x4.cell y c h⟩, I3.hok.fresh (Nat.le_refl _), fun y c h => I3.hok.fresh (Nat.le_of_lt (cge y c h)), fun p hp => ?_, I3.hok.kept hk4, by rw [List.length_replicate]⟩
    obtain rfl : p = (D, lstO []) := by simpa using hp
    exact ⟨hk4 _ _ hD3, hD2, Nat.ne_of_lt dl3, hDf, fun v z => nomatch z⟩
  -- what stays true of the iterator's objects
  have stat : ∀ {H' : Hp} {ys : List Value}, (∀ b ∈ fp, H' b = none) → ∀ b ∈ fp, FpOk (cxBlk X NB scope s3 H2 (D :: fp)) [(D, lstO ys)] H' b := fun hn b hb =>
    ⟨hn b hb, Nat.ne_of_lt (fp3 b hb), exF b (List.mem_cons_of_mem _ hb), .inl (List.mem_cons_of_mem _ hb), fun y c e z => by
      have := cge y c e
      rw [z] at this
      exact absurd (Nat.lt_trans this (fp3 b hb)) (Nat.lt_irrefl _), fun p hp => by
        obtain rfl : p = (D, _) := by simpa using hp
        exact (DfpN b hb).symm⟩
  have st4 : tn 0 h4 := T.keep _ _ _ st3 fun b _ o e => hk4 b o e
  have fr4 : ∀ b ∈ fp, H2 b = none := fun b hb => (f2 b hb).1
  have hcB : (cxBlk X NB scope s3 H2 (D :: fp)).calm = true := hc
  have loop : codeAny (model X.prog X.w) X.A (.compLoop (.ListComp elt [⟨tg, iter, ifs, 0⟩] scope pos) 0 (.ref it) (.ref D) (blkEnv scope X.env s3.heap.objs.size))
      (compPost (model X.prog X.w) X.A X.xe (some (assign (.Name y py) X.env)) (fun _ s' => SP X pins Dn .next s') (.ref D) s3.heap.objs.size) { s3 with heap := h4, toks := tk4 } := by
    refine comp_loop (fun n s' => ∃ i vs ys H', Inv (cxBlk X NB scope s3 H2 (D :: fp)) [(D, lstO ys)] (List.replicate NB.length none) H' s' ∧ Vals vs ys ∧ vs.length ≤ sizeLine ∧ tn i s'.heap ∧ (∀ b ∈ fp, H' b = none) ∧ W i n vs H') ?_ m0 ⟨0, [], [], H2, IB, .nil, Nat.zero_le _, st4, fr4, w0⟩
    rintro n s5 ⟨i, vs, ys, H5, I5, rv, hvl, st5, fr5, w5⟩
    rcases turn i n vs H5 w5 with ⟨stop, qn⟩ | ⟨go, hlt, N, hN, step⟩
    · refine wpAny_mono (T.done (cxBlk X NB scope s3 H2 (D :: fp)) rfl rfl rfl hcB i _ s5 _ H5 (fun _ _ => False) I5 (stat fr5) st5 stop) (fun r s6 ⟨hr, I6⟩ => ?_) (fun _ _ z => z.elim)
      subst hr
      obtain ⟨m6, hn6, _⟩ := id I6.loc
      have hC6 : H5 s3.heap.objs.size = none := I6.free
      have un7 : Un (frs X.stack) (D :: fp) H2 H5 s3.heap s6.heap := I6.base
      have I7 : Inv X pins σ H5 s6 := I3.call' (s' := s6) I6.os un7 I6.hok I6.bare fun b hb => by
        rcases List.mem_cons.mp hb with rfl | hb
        · exact ⟨.inr hDs0, hDL, hDC, hDp⟩
        · obtain ⟨_, f1, _, f3, f4, f5⟩ := f2 b hb
          exact ⟨f3, f1, f4, f5⟩
      obtain ⟨eD, nD, _⟩ := I6.pin (D, lstO ys) (by simp)
      have nD' : H5 D = none := nD
      have eD' : s6.heap.get? D = some (lstO ys) := eD
      have hD0 : X.s₀.heap.get? D = none := by
        cases q : X.s₀.heap.get? D with
        | none => rfl
        | some o => exact absurd (Nat.lt_of_lt_of_le (Heap.lt_size q) hDs0) (Nat.lt_irrefl _)
      have I8 : Inv X pins σ (upd H5 D (.lst vs)) s6 := I7.track nD' hD0 hDL hDC hDp ⟨hvl, ys, ys.length, rv, eD'⟩
      have hq := qn D nD'
      have s03 : X.s₀.heap.objs.size ≤ s3.heap.objs.size := I3.sz
      have cL : s3.heap.objs.size ≠ X.env.locals := Nat.ne_of_gt I3.lt
      have cC : ∀ x c, X.env.cells.lookup x = some c → c ≠ s3.heap.objs.size := fun x c e => let ⟨v, o, e1, _⟩ := I3.cell x c e; Nat.ne_of_lt (lt3 c o e1)
      have cP : ∀ p ∈ X.pn ++ pins, p.1 ≠ s3.heap.objs.size := fun p hp => Nat.ne_of_lt (lt3 p.1 _ (I3.pin p hp).1)
      show wpAny (model X.prog X.w) X.A (assign (.Name y py) X.env (.ref D)) _ X.xe s6
      refine wpAny_assign_Name (store_ok2 (v := .ref D) I8 hN hiy hy rfl (fun s9 I9 ⟨a9, sb9, ha9⟩ => ?_) hf)
      have na : s3.heap.objs.size ≠ a9 := by
        rcases ha9 with rfl | z
        · exact cL
        · exact (cC y a9 z).symm
      refine ⟨m6, hn6.sameBut sb9 na, fun h10 sb10 => ⟨_, _, ?_, hq⟩⟩
      have hD3' : upd H5 D (.lst vs) s3.heap.objs.size = none := by rw [upd_ne (Nat.ne_of_gt dl3)]; exact hC6
      exact (I9.turned (h' := h10) (t' := s9.toks) (it := s3.heap.objs.size) (fun b o hb e => (sb10.2 b hb).trans e) hD3' cL (.inr s03) cC cP :)
    · refine wpAny_mono (T.item (cxBlk X NB scope s3 H2 (D :: fp)) rfl rfl rfl hcB i _ s5 _ H5 (fun _ _ => False) I5 (stat fr5) st5 go) (fun r s6 ⟨u, hr, h6⟩ => ?_) (fun _ _ z => z.elim)
      subst hr
      refine wpAny_mono h6 (fun _ s7 ⟨x, H7, I7, r7, y7, st7, fr7⟩ => ?_) (fun _ _ z => z.elim)
      have I7' := I7.pinned (stat fr7) (T.obj _ _ st7)
      refine wpAny_mono (hg s3 H2 (D :: fp) _ s7 _ H7 x u _ I7' r7 (step x H7 y7)) (fun _ s8 ⟨σ8, H8, I8, q8⟩ => ?_) (fun _ _ z => z.elim)
      refine wpAny_mono (ht s3 H2 (D :: fp) _ s8 σ8 H8 _ I8 q8) (fun ok s9 ⟨H9, I9, q9⟩ => ?_) (fun _ _ z => z.elim)
      have fpK : ∀ {σ' : St} {H' : Hp} {s' : Shared}, Inv (cxBlk X NB scope s3 H2 (D :: fp)) ([(D, lstO ys)] ++ pinsAt fp s7.heap) σ' H' s' → tn (i + 1) s'.heap ∧ ∀ b ∈ fp, H' b = none := fun J =>
        ⟨T.keep _ _ _ st7 fun b hb o e => (J.pin (b, o) (List.mem_append_right _ (List.mem_append_right _ (mem_pinsAt hb e)))).1, fun b hb => by
          obtain ⟨o, e, d⟩ := T.obj _ _ st7 b hb
          exact (J.pin (b, o) (List.mem_append_right _ (List.mem_append_right _ (mem_pinsAt hb e)))).2.1⟩
      have wk : ∀ {σ' : St} {H' : Hp} {s' : Shared} {pl : List (Addr × Obj)}, Inv (cxBlk X NB scope s3 H2 (D :: fp)) pl σ' H' s' → Inv (cxBlk X NB scope s3 H2 (D :: fp)) pl (List.replicate NB.length none) H' s' := fun J =>
        J.weak (by rw [List.length_replicate]; exact J.len.symm) fun j v z => absurd z (rep j v)
      cases ok with
      | false =>
        rw [if_neg (by decide)] at q9
        rw [if_neg (by decide)]
        obtain ⟨m', hm, w9⟩ := hN vs H9 q9
        obtain ⟨t9, f9⟩ := fpK I9
        exact ⟨m', hm, i + 1, vs, ys, H9, wk I9.unpinned, rv, hvl, t9, f9, w9⟩
      | true =>
        rw [if_pos rfl] at q9
        rw [if_pos rfl]
        refine wpAny_mono (he s3 H2 (D :: fp) _ s9 σ8 H9 _ I9 q9) (fun y s10 ⟨v, H10, I10, rv10, q10⟩ => ?_) (fun _ _ z => z.elim)
        obtain ⟨eD, nD, _, nf, _⟩ := I10.pin (D, lstO ys) (by simp)
        have hyl := rv.length
        refine append_at (hsz := by show ys.toArray.size ≤ sizeLine; rw [List.size_toArray, ← hyl]; exact hvl) eD fun h11 sb11 hD11 => ?_
        obtain ⟨m', hm, w11⟩ := hN (vs ++ [v]) H10 q10
        obtain ⟨t10, f10⟩ := fpK I10
        have I10u := I10.unpinned
        have k11 : ∀ b o, b ≠ D → s10.heap.get? b = some o → h11.get? b = some o := fun b o hb e => (sb11.2 b hb).trans e
        have IE : Inv (cxBlk X NB scope s3 H2 (D :: fp)) [] σ8 H10 s10 := I10u.pins_of fun p hp => nomatch hp
        have I11 : Inv (cxBlk X NB scope s3 H2 (D :: fp)) [] σ8 H10 { s10 with heap := h11 } := IE.turned (t' := s10.toks) k11 nD (Nat.ne_of_lt dl3) (.inl List.mem_cons_self) (fun y' c e z => by
          have := cge y' c e
          rw [z] at this
          exact absurd (Nat.lt_trans this dl3) (Nat.lt_irrefl _)) (fun p hp => absurd (show p ∈ ([] : List (Addr × Obj)) from hp) (by simp))
        have eL : ({ cls := .type "list", data := .seq (ys.toArray.push y) (ys.length + 1) } : Obj) = lstO (ys ++ [y]) := by
          show ({ cls := .type "list", data := .seq (ys.toArray.push y) (ys.length + 1) } : Obj) = { cls := .type "list", data := .seq (ys ++ [y]).toArray (ys ++ [y]).length }
          rw [List.length_append, List.length_singleton, List.push_toArray]
        refine ⟨m', hm, i + 1, vs ++ [v], ys ++ [y], H10, wk (I11.pins_of fun p hp => ?_), rv.append (.cons rv10 .nil), by rw [List.length_append, List.length_singleton]; exact hlt, T.keep _ _ _ t10 fun b hb o e => k11 b o (DfpN b hb) e, f10, w11⟩
        obtain rfl : p = (D, lstO (ys ++ [y])) := by simpa using hp
        exact ⟨by rw [← eL]; exact hD11, nD, Nat.ne_of_lt dl3, nf, fun v z => nomatch z⟩
  exact codeAny_compStart_list loop (T.self _ 0 _ _ _ st4 loop)

theorem op_in_seqK {K0 : PySem.W.Frag} (hK : X.K = K0) : OpR X (compareOp .In) (rIn K0 false) := by
  subst hK
  exact op_in_seq
end
end L2

set_option linter.all false
namespace K01
/-- ten to the power, 1 below 0 -/
def ten (m : Int) : Int := 10 ^ m.toNat
theorem ten_pos (m : Int) : 0 < ten m := Int.pow_pos (by decide)
theorem ten_neg {m : Int} (h : m ≤ 0) : ten m = 1 := by
  unfold ten
  rw [Int.toNat_of_nonpos h]
  rfl
theorem ten_add {a b : Int} (ha : 0 ≤ a) (hb : 0 ≤ b) : ten (a + b) = ten a * ten b := by
  unfold ten
  rw [Int.toNat_add ha hb, Int.pow_add]
theorem ten_le {a b : Int} (h : a ≤ b) (hb : 0 ≤ b) : ten a ≤ ten b := by
  by_cases ha : 0 ≤ a
  · rw [show b = a + (b - a) by omega, ten_add ha (by omega)]
    have := ten_pos (b - a)
    have h2 := ten_pos a
    calc ten a = ten a * 1 := (Int.mul_one _).symm
      _ ≤ ten a * ten (b - a) := Int.mul_le_mul_of_nonneg_left (by omega) (Int.le_of_lt h2)
  · rw [ten_neg (by omega)]
    have := ten_pos b
    omega
end K01

set_option Elab.async false
set_option linter.all false
set_option maxRecDepth 100000
namespace K02
open PySem PySem.NumText Builtin Builtin.Str StrLaws
/-- a text by its signs -/
abbrev tx (l : List Nat) : Str := ⟨l.toArray⟩
theorem tx_list (l : List Nat) : (tx l).cps.toList = l := rfl
theorem tx_len (l : List Nat) : (tx l).length = l.length := by show l.toArray.size = _; rw [List.size_toArray]
theorem of_tx (z : Str) : z = tx z.cps.toList := by cases z; rfl
theorem len_list (z : Str) : z.length = z.cps.toList.length := by show z.cps.size = _; rw [Array.length_toList]
theorem tx_inj {a b : List Nat} (h : tx a = tx b) : a = b := by
  have := congrArg (fun z : Str => z.cps.toList) h
  exact this
theorem tx_app (a b : List Nat) : tx a ++ tx b = tx (a ++ b) := by
  show (⟨a.toArray ++ b.toArray⟩ : Str) = _
  rw [List.append_toArray]
theorem val_go (b : List Nat) : ∀ acc : Nat, b.foldl (fun acc c => acc * 10 + (c - 48)) acc = acc * 10 ^ b.length + b.foldl (fun acc c => acc * 10 + (c - 48)) 0 := by
  induction b with
  | nil => intro acc; simp
  | cons c r ih =>
    intro acc
    rw [List.foldl_cons, List.foldl_cons, ih (acc * 10 + (c - 48)), ih (0 * 10 + (c - 48)), List.length_cons, Nat.pow_succ]
    rw [Nat.add_mul, Nat.zero_mul, Nat.zero_add, Nat.mul_assoc, Nat.mul_comm 10, Nat.add_assoc]
theorem val_app (a b : List Nat) : digitsVal (a ++ b) = digitsVal a * 10 ^ b.length + digitsVal b := by
  unfold digitsVal
  rw [List.foldl_append, val_go]
theorem val_lt {l : List Nat} (h : AllDigits l) : digitsVal l < 10 ^ l.length := by
  induction l with
  | nil => decide
  | cons c r ih =>
    have h1 := ih h.tail
    have h2 := h.head
    rw [show c :: r = [c] ++ r from rfl, val_app, List.length_append, List.length_singleton]
    have e : digitsVal [c] = c - 48 := by simp [digitsVal]
    rw [e, Nat.pow_add]
    have h3 : (c - 48) * 10 ^ r.length ≤ 9 * 10 ^ r.length := Nat.mul_le_mul_right _ (by omega)
    omega
/-! slices -/
theorem slice_take (l : List Nat) {k : Nat} (h : k ≤ l.length) : sliceText (tx l) none (some (k : Int)) = tx (l.take k) := by
  have e := sliceText_nat (tx l) (a := 0) (b := k) (Nat.zero_le _) (by rw [tx_len]; exact h)
  have e2 : sliceText (tx l) none (some (k : Int)) = sliceText (tx l) (some ((0 : Nat) : Int)) (some (k : Int)) := by
    unfold sliceText
    rw [sliceIdx_none_lo]
    rfl
  rw [e2, e]
  simp
theorem slice_mid (l : List Nat) {a b : Nat} (h : a ≤ l.length) (hab : a ≤ b) : sliceText (tx l) (some (a : Int)) (some (b : Int)) = tx ((l.drop a).take (b - a)) := by
  by_cases hb : b ≤ l.length
  · exact sliceText_nat (tx l) hab (by rw [tx_len]; exact hb)
  · have e2 : sliceText (tx l) (some (a : Int)) (some (b : Int)) = sliceText (tx l) (some (a : Int)) (some ((l.length : Nat) : Int)) := by
      have e3 : strSliceIndices (some (a : Int)) (some (b : Int)) 1 (tx l).length = strSliceIndices (some (a : Int)) (some ((l.length : Nat) : Int)) 1 (tx l).length := by
        rw [tx_len]
        unfold strSliceIndices
        have h1 : ¬ ((b : Int) < 0) := by omega
        have h2 : ¬ (((l.length : Nat) : Int) < 0) := by omega
        have h3 : min (b : Int) (l.length : Int) = l.length := by omega
        have h4 : min ((l.length : Nat) : Int) (l.length : Int) = l.length := by omega
        simp only [h1, h2, if_false, h3, h4, show ((1 : Int) > 0) = True from by simp, if_true]
      unfold sliceText
      rw [e3]
    rw [e2, sliceText_nat (tx l) h (by rw [tx_len]; exact Nat.le_refl _)]
    have e4 : (l.drop a).take (l.length - a) = (l.drop a).take (b - a) := by
      rw [List.take_of_length_le (by rw [List.length_drop]; omega), List.take_of_length_le (by rw [List.length_drop]; omega)]
    show tx ((l.drop a).take (l.length - a)) = _
    rw [e4]
/-! the parts of a text -/
theorem sub_one (l : List Nat) (c : Nat) : subAt (tx l) ⟨#[c]⟩ 0 = (l.head? == some c) := by
  rw [subAt_eq]
  show ((l.drop 0).take 1 == [c]) = _
  cases l with
  | nil => rfl
  | cons a r =>
    simp only [List.drop_zero, List.take_succ_cons, List.take_zero, List.head?_cons]
    by_cases h : a = c
    · subst h; simp
    · rw [beq_eq_false_iff_ne.mpr (by simpa using h), beq_eq_false_iff_ne.mpr (by simpa using h)]
/-! figures alone -/
theorem goes_fig (c : Nat) : ("0123456789" : Str).cps.contains c = decide (48 ≤ c ∧ c ≤ 57) := by
  have e : ("0123456789" : Str).cps = #[48, 49, 50, 51, 52, 53, 54, 55, 56, 57] := by decide +kernel
  rw [e]
  by_cases h : 48 ≤ c ∧ c ≤ 57
  · rw [decide_eq_true h]
    have : c = 48 ∨ c = 49 ∨ c = 50 ∨ c = 51 ∨ c = 52 ∨ c = 53 ∨ c = 54 ∨ c = 55 ∨ c = 56 ∨ c = 57 := by omega
    rcases this with rfl | rfl | rfl | rfl | rfl | rfl | rfl | rfl | rfl | rfl <;> decide +kernel
  · rw [decide_eq_false h]
    simp
    omega
instance (l : List Nat) : Decidable (AllDigits l) := inferInstanceAs (Decidable (∀ c ∈ l, 48 ≤ c ∧ c ≤ 57))
theorem mem_tw {p : Nat → Bool} {l : List Nat} {c : Nat} (h : c ∈ l.takeWhile p) : p c = true := by
  induction l with
  | nil => cases h
  | cons a r ih =>
    rw [List.takeWhile_cons] at h
    cases hp : p a with
    | false => rw [hp] at h; cases h
    | true =>
      rw [hp, if_pos rfl] at h
      rcases List.mem_cons.mp h with rfl | h
      · exact hp
      · exact ih h
theorem strip_fig (l : List Nat) : decide (Txt.stripChars (tx l) "0123456789" = (Str.empty : Str)) = decide (AllDigits l) := by
  have g : ∀ c, ("0123456789" : Str).cps.contains c = true ↔ (48 ≤ c ∧ c ≤ 57) := fun c => by rw [goes_fig]; simp
  unfold Txt.stripChars Txt.stripBy stripSame stripped stripLo stripHi
  simp only [if_true, tx_len]
  generalize hp : (("0123456789" : Str).cps.contains : Nat → Bool) = p
  have g' : ∀ c, p c = true ↔ (48 ≤ c ∧ c ≤ 57) := fun c => by rw [← hp]; exact g c
  by_cases h : AllDigits l
  · rw [decide_eq_true h, decide_eq_true]
    have e1 : (tx l).cps.toList.takeWhile p = l := takeWhile_all fun c hc => (g' c).mpr (h c hc)
    rw [e1]
    have e2 : (tx l).cps.toList.drop l.length = [] := List.drop_eq_nil_of_le (Nat.le_refl _)
    rw [e2]
    show (if (l.length == 0 && l.length == l.length) = true then tx l else strSub (tx l) l.length l.length) = Str.empty
    by_cases hz : (l.length == 0 && l.length == l.length) = true
    · rw [if_pos hz]
      have : l.length = 0 := by
        simp only [Bool.and_eq_true, beq_iff_eq] at hz
        exact hz.1
      rw [List.length_eq_zero_iff.mp this]
      rfl
    · rw [if_neg hz, of_tx (strSub _ _ _), strSub_toList, Nat.sub_self, List.take_zero]
      rfl
  · rw [decide_eq_false h, decide_eq_false]
    have hlt : ((tx l).cps.toList.takeWhile p).length < l.length := by
      have hle : ((tx l).cps.toList.takeWhile p).length ≤ l.length := List.IsPrefix.length_le (List.takeWhile_prefix p)
      rcases Nat.lt_or_ge ((tx l).cps.toList.takeWhile p).length l.length with z | z
      · exact z
      · refine absurd (fun c hc => ?_) h
        have e : (tx l).cps.toList.takeWhile p = l := List.IsPrefix.eq_of_length_le (List.takeWhile_prefix p) z
        rw [← e] at hc
        exact (g' c).mp (mem_tw hc)
    generalize hlo : ((tx l).cps.toList.takeWhile p).length = lo at hlt
    have hdrop : ∃ a r, l.drop lo = a :: r ∧ p a = false := by
      have hd : l.dropWhile p = l.drop lo := by
        have := List.takeWhile_append_dropWhile (p := p) (l := l)
        have e3 : l.drop lo = ((l.takeWhile p) ++ l.dropWhile p).drop lo := by rw [this]
        rw [e3, List.drop_append_of_le_length (by rw [← hlo]; exact Nat.le_refl _), List.drop_eq_nil_of_le (by rw [← hlo]; exact Nat.le_refl _), List.nil_append]
      cases hx : l.drop lo with
      | nil =>
        have := congrArg List.length hx
        rw [List.length_drop, List.length_nil] at this
        omega
      | cons a r =>
        refine ⟨a, r, rfl, ?_⟩
        rw [hx] at hd
        have := List.head?_dropWhile_not (p := p) (l := l)
        rw [hd] at this
        simpa using this
    obtain ⟨a, r, hx, hpa⟩ := hdrop
    have hx' : (tx l).cps.toList.drop lo = a :: r := hx
    rw [hx']
    have hrl : r.length + 1 = l.length - lo := by
      have := congrArg List.length hx
      rw [List.length_drop, List.length_cons] at this
      omega
    have hk : ((a :: r).reverse.takeWhile p).length ≤ r.length := by
      rw [List.reverse_cons]
      have hle : ((r.reverse ++ [a]).takeWhile p).length ≤ r.length := by
        by_cases hall : ∀ c ∈ r.reverse, p c = true
        · rw [List.takeWhile_append_of_pos hall, List.takeWhile_cons, hpa]
          simp
        · have : ((r.reverse ++ [a]).takeWhile p).length < (r.reverse ++ [a]).length := by
            have hle : ((r.reverse ++ [a]).takeWhile p).length ≤ (r.reverse ++ [a]).length := List.IsPrefix.length_le (List.takeWhile_prefix p)
            rcases Nat.lt_or_ge ((r.reverse ++ [a]).takeWhile p).length (r.reverse ++ [a]).length with z | z
            · exact z
            · have e : (r.reverse ++ [a]).takeWhile p = r.reverse ++ [a] := List.IsPrefix.eq_of_length_le (List.takeWhile_prefix p) z
              have : p a = true := mem_tw (l := r.reverse ++ [a]) (by rw [e]; simp)
              rw [hpa] at this
              cases this
          rw [List.length_append, List.length_reverse, List.length_singleton] at this
          omega
      exact hle
    split
    · intro z
      have := congrArg (fun z : Str => z.cps.toList.length) z
      have e0 : l.length = 0 := this
      omega
    · intro z
      have := congrArg (fun z : Str => z.cps.toList.length) z
      have e0 : (strSub (tx l) lo (l.length - ((a :: r).reverse.takeWhile p).length)).cps.toList.length = 0 := this
      rw [strSub_toList, List.length_take, tx_list, hx, List.length_cons] at e0
      omega
/-! what is written is read back -/
end K02

set_option Elab.async false
set_option linter.all false
/-! pictures, reckoned as the program does -/
namespace K04
open PySem.NumText
abbrev Rw := Nat × Nat
def timesAt (t : List Nat) : Nat × List Nat := match t with
  | 40 :: r => if 41 ∈ r ∧ r.takeWhile (· != 41) ≠ [] ∧ AllDigits (r.takeWhile (· != 41)) ∧ (r.takeWhile (· != 41)).head? ≠ some 48 then (digitsVal (r.takeWhile (· != 41)), r.drop ((r.takeWhile (· != 41)).length + 1)) else (1, t)
  | _ => (1, t)
/-- a row more, at the end; one with the same symbol grows -/
def addRow (rows : List Rw) (c n : Nat) : List Rw := match rows.getLast? with
  | some (c', m) => if c' = c then rows.dropLast ++ [(c, n + m)] else rows ++ [(c, n)]
  | none => rows ++ [(c, n)]
def rowsGo : Nat → List Nat → List Rw → List Rw
  | 0, _, rows => rows
  | _, [], rows => rows
  | k + 1, c :: t, rows => rowsGo k (timesAt t).2 (addRow rows c (timesAt t).1)
def rowsOf (l : List Nat) : List Rw := rowsGo l.length l []
def ins (c : Nat) : Bool := [44, 66, 48, 47].contains c
def forms : List (List Nat) := [[57], [83, 57], [86, 57], [83, 86, 57], [57, 86, 57], [83, 57, 86, 57]]
structure Facts where
  kind : Nat
  signed : Bool
  before : Nat
  behind : Nat
deriving DecidableEq, Repr
/-- signed, behind the point, figures before and behind -/
def numGo : List Rw → Bool → Bool → Nat → Nat → Option (Bool × Nat × Nat)
  | [], s, _, a, b => some (s, a, b)
  | (c, n) :: r, s, p, a, b => if c = 57 then (if p then numGo r s p a n else numGo r s p n b) else if n > 1 then none else if c = 83 then numGo r true p a b else numGo r s true a b
def numberFacts (rows : List Rw) : Option Facts := if forms.contains (rows.map (·.1)) then (match numGo rows false false 0 0 with
  | some (s, a, b) => if a + b > 18 then none else some ⟨2, s, a, b⟩
  | none => none) else none
def plainFacts (rows : List Rw) : Option Facts := match rows with
  | [(c, n)] => if (c ≠ 88 ∧ c ≠ 65) ∨ n > 60 then none else some ⟨if c = 88 then 0 else 1, false, 0, 0⟩
  | _ => none
def floatsAt (rows : List Rw) : Bool := match rows with
  | (c, n) :: r => decide (n > 1) || (match r.dropWhile (fun x => ins x.1) with | (c', _) :: _ => c' == c | [] => false)
  | [] => false
def leadGo : List (List Nat) → List Rw → List Nat → List Nat × List Rw
  | [], rows, lead => (lead, rows)
  | ch :: more, rows, lead => match rows with
    | (c, n) :: r => if ch.contains c && !floatsAt rows then leadGo more r (lead ++ [c]) else leadGo more rows lead
    | [] => leadGo more rows lead
def leadOf (rows : List Rw) : List Nat × List Rw := leadGo [[43, 45], [36]] rows []
def placesGo (place : Nat) : List Rw → Nat → Nat × List Rw
  | [], many => (many, [])
  | (c, n) :: r, many => if c = place then placesGo place r (many + n) else if ins c then placesGo place r many else (many, (c, n) :: r)
def wholePart (rows : List Rw) : List Nat × Nat × Nat × List Rw := match rows with
  | (c, n) :: r => if [57, 90, 42, 43, 45, 36].contains c then (let x := placesGo c rows 0; let y := placesGo 57 x.2 0; ([c], x.1, y.1, y.2)) else ([], 0, 0, rows)
  | [] => ([], 0, 0, rows)
def brokenPart (rows : List Rw) (place : List Nat) : Option Nat × List Rw := match rows with
  | (46, n) :: r => if n > 1 ∨ r = [] then (none, rows) else (match r with
    | (c, m) :: r' => if c ≠ 57 ∧ ([c] ≠ place ∨ [43, 45, 36].contains c) then (none, rows) else (some m, r')
    | [] => (none, rows))
  | _ => (some 0, rows)
def shownL : List (List Nat) := [[43], [45], [67, 82], [68, 66]]
def tailOf (rows : List Rw) : Option (List Nat) := if rows = [] then some [] else if !shownL.contains (rows.map (·.1)) || rows.any (fun x => decide (x.2 > 1)) then none else some (rows.map (·.1))
def editedFacts (rows : List Rw) : Option Facts :=
  let ld := leadOf rows
  let wp := wholePart ld.2
  let bp := brokenPart wp.2.2.2 (if wp.2.2.1 = 0 then wp.1 else [57])
  let tl := tailOf bp.2
  match wp.1, bp.1, tl with
  | [place], some behind, some tail =>
    let fl : Bool := [43, 45, 36].contains place
    if fl && decide (wp.2.1 < 2) then none
    else
      let shown := [ld.1.take 1, [place], tail].filter (shownL.contains ·)
      if shown.length > 1 then none
      else
        let before := wp.2.1 + wp.2.2.1 - (if fl then 1 else 0)
        if before + behind > 18 then none else some ⟨3, shown.length == 1, before, behind⟩
  | _, _, _ => none
def factsOf (rows : List Rw) : Option Facts := match numberFacts rows with
  | some f => some f
  | none => match plainFacts rows with
    | some f => some f
    | none => editedFacts rows
def picture (l : List Nat) : Option Facts := factsOf (rowsOf l)
end K04

set_option Elab.async false
set_option linter.all false
set_option maxRecDepth 100000
/-! texts and rows, as the program's steps read them -/
namespace Lw
open PySem PySem.Spec PyProof.Rows L2 K02 K04
open Builtin Builtin.Str StrLaws
theorem in_sym (l : List Nat) (c : Nat) : (!(occurrences (tx l) (tx [c]) 0 (tx l).length 1).isEmpty) = l.contains c := by
  rcases occ_head (tx l) (tx [c]) 1 (Nat.le_refl _) with ⟨h1, h2⟩ | ⟨i, t, h1, h2, h3⟩
  · have hn : c ∉ l := fun hm => by
      obtain ⟨j, hj⟩ := List.mem_iff_getElem?.mp hm
      exact h2 j ((subAt_one (tx l) c j).mpr hj)
    rw [h1]
    simp [hn]
  · have hi : l[i]? = some c := (subAt_one (tx l) c i).mp h2
    have hm : c ∈ l := List.mem_iff_getElem?.mpr ⟨i, hi⟩
    rw [h1]
    simp [hm]
theorem starts_c (l : List Nat) (c : Nat) : Txt.startswith (tx l) (tx [c]) = (l.head? == some c) := by
  unfold Txt.startswith
  have e : (tx [c]) = (⟨#[c]⟩ : Str) := rfl
  rw [e, sub_one]
  cases l with
  | nil => rfl
  | cons a r =>
    rw [decide_eq_true (by show 0 + 1 ≤ (tx (a :: r)).length; rw [tx_len, List.length_cons]; omega)]
    rfl
theorem str_dec (a b : List Nat) : decide (V.str (tx a) = V.str (tx b)) = decide (a = b) := by
  by_cases h : a = b
  · rw [decide_eq_true h, decide_eq_true (by rw [h])]
  · rw [decide_eq_false h, decide_eq_false fun q => h (tx_inj (V.str.inj q))]
theorem sym_dec (a b : Nat) : decide (V.str (tx [a]) = V.str (tx [b])) = decide (a = b) := by
  rw [str_dec]
  by_cases h : a = b
  · rw [decide_eq_true h, decide_eq_true (by rw [h])]
  · rw [decide_eq_false h, decide_eq_false fun q => h (List.cons.inj q).1]
/-- where a sign is first found from a place on -/
theorem from_nat (n a : Nat) : fromIndex n (a : Int) = a := by
  unfold fromIndex
  rw [if_neg (by omega)]
  omega
theorem tw_at {l : List Nat} {c i : Nat} (hi : l[i]? = some c) (hn : ∀ k, k < i → l[k]? ≠ some c) : l.takeWhile (· != c) = l.take i := by
  induction l generalizing i with
  | nil => cases hi
  | cons a r ih =>
    cases i with
    | zero =>
      have : a = c := by simpa using hi
      subst this
      simp
    | succ i =>
      have hb : (a != c) = true := by
        have := hn 0 (Nat.succ_pos _)
        simpa using this
      rw [List.takeWhile_cons, hb]
      simp only [if_true, List.take_succ_cons]
      rw [ih (i := i) (by simpa using hi) fun k hk => by
        have := hn (k + 1) (by omega)
        simpa using this]
theorem find_is {l : List Nat} {a c : Nat} {r : List Nat} (h : l.drop a = 40 :: r) (hc : c ≠ 40) :
    (c ∉ r ∧ find2 (tx l) (tx [c]) (a : Int) = -1) ∨ (c ∈ r ∧ find2 (tx l) (tx [c]) (a : Int) = ((a + 1 + (r.takeWhile (· != c)).length : Nat) : Int)) := by
  have hd : ∀ i, l[a + i]? = (40 :: r)[i]? := fun i => by rw [← h, List.getElem?_drop]
  unfold find2
  rw [from_nat]
  rcases occ_head_from (tx l) (tx [c]) a 1 (Nat.le_refl _) with ⟨h1, h2⟩ | ⟨i, t, h1, h2, h3, h4⟩
  · refine .inl ⟨fun hm => ?_, by rw [h1]⟩
    obtain ⟨j, hj⟩ := List.mem_iff_getElem?.mp hm
    refine h2 (a + (j + 1)) (by omega) ((subAt_one (tx l) c _).mpr ?_)
    show l[a + (j + 1)]? = some c
    rw [hd]
    exact hj
  · have hi : l[i]? = some c := (subAt_one (tx l) c i).mp h3
    obtain ⟨k, rfl⟩ : ∃ k, i = a + k := ⟨i - a, by omega⟩
    rw [hd] at hi
    cases k with
    | zero => exact absurd (by simpa using hi) (Ne.symm hc)
    | succ k =>
      have hk : r[k]? = some c := by simpa using hi
      have e := tw_at (l := r) (c := c) (i := k) hk fun m hm z => h4 (a + (m + 1)) (by omega) (by omega) ((subAt_one (tx l) c _).mpr (by show l[a + (m + 1)]? = some c; rw [hd]; exact z))
      refine .inr ⟨List.mem_iff_getElem?.mpr ⟨k, hk⟩, ?_⟩
      have hkl := (List.getElem?_eq_some_iff.mp hk).1
      rw [h1, e, List.length_take, Nat.min_eq_left (by omega)]
      show ((a + (k + 1) : Nat) : Int) = _
      congr 1
      omega
theorem slice_none (l : List Nat) {a b : Nat} (h : b < a) (hl : 1 ≤ l.length) : sliceText (tx l) (some (a : Int)) (some (b : Int)) = tx [] := by
  have e3 : strSliceIndices (some (a : Int)) (some (b : Int)) 1 (tx l).length = [] := by
    rw [tx_len]
    unfold strSliceIndices
    have h1 : ¬ ((a : Int) < 0) := by omega
    have h2 : ¬ ((b : Int) < 0) := by omega
    have h3 : max (0 : Int) (min (a : Int) (l.length : Int)) ≥ max (0 : Int) (min (b : Int) (l.length : Int)) := by omega
    simp only [h1, h2, if_false, show ((1 : Int) > 0) = True from by simp, if_true]
    unfold sliceRange
    simp
    omega
  unfold sliceText
  rw [e3]
  split
  · rename_i h1
    have : l.length = 0 := by
      have h2 : (0 == (tx l).length) = true := by simpa using h1
      rw [tx_len] at h2
      have := beq_iff_eq.mp h2
      omega
    omega
  · rfl
/-! rows at hand -/
def rowO (x : Rw) : HO := .tup [.str (tx [x.1]), .int (x.2 : Nat)]
inductive Rws (H : Hp) : List Addr → List Rw → Prop where
  | nil : Rws H [] []
  | cons {r : Addr} {rs : List Addr} {x : Rw} {xs : List Rw} : H r = some (rowO x) → Rws H rs xs → Rws H (r :: rs) (x :: xs)
section
variable {H H' : Hp} {rs : List Addr} {rows : List Rw}
theorem Rws.len (h : Rws H rs rows) : rs.length = rows.length := by
  induction h with
  | nil => rfl
  | cons _ _ ih => rw [List.length_cons, List.length_cons, ih]
theorem Rws.keep (h : Rws H rs rows) (e : ∀ b xs, H b = some (.tup xs) → H' b = some (.tup xs)) : Rws H' rs rows := by
  induction h with
  | nil => exact .nil
  | cons a _ ih => exact .cons (e _ _ a) ih
theorem Rws.at (h : Rws H rs rows) : ∀ {i : Nat} {x : Rw}, rows[i]? = some x → ∃ r, rs[i]? = some r ∧ H r = some (rowO x) := by
  induction h with
  | nil => intro i x e; cases e
  | cons a _ ih =>
    intro i x e
    cases i with
    | zero => exact ⟨_, rfl, by have : _ = x := Option.some.inj e; rw [← this]; exact a⟩
    | succ i => exact ih (i := i) (x := x) e
theorem Rws.app (h : Rws H rs rows) {r : Addr} {x : Rw} (e : H r = some (rowO x)) : Rws H (rs ++ [r]) (rows ++ [x]) := by
  induction h with
  | nil => exact .cons e .nil
  | cons a _ ih => exact .cons a ih
theorem Rws.dr (h : Rws H rs rows) : ∀ k, Rws H (rs.drop k) (rows.drop k) := by
  induction h with
  | nil => intro k; rw [List.drop_nil, List.drop_nil]; exact .nil
  | cons a t ih =>
    intro k
    cases k with
    | zero => exact .cons a t
    | succ k => exact ih k
end
structure RowsAt (K : PySem.W.Frag) (H : Hp) (p : Addr) (rs : List Addr) (rows : List Rw) : Prop where
  sq : SqL K H p (rs.map V.ref)
  rw : Rws H rs rows
  le : rows.length ≤ 600
section
variable {K : PySem.W.Frag} {H H' : Hp} {p : Addr} {rs : List Addr} {rows : List Rw} {σ : L2.St} {i j k : Nat} {Q : VK}
theorem SqL.same {K : PySem.W.Frag} {H H' : Hp} {a : Addr} {xs : List V} (e : Same H H') (h : SqL K H a xs) : SqL K H' a xs := by
  rcases h with (h | ⟨o, h⟩) | h
  · exact .inl (.inl (e _ _ h))
  · exact .inl (.inr ⟨o, e _ _ h⟩)
  · exact .inr h
theorem RowsAt.same (R : RowsAt K H p rs rows) (e : Same H H') : RowsAt K H' p rs rows := ⟨SqL.same e R.sq, R.rw.keep fun b xs h => e _ _ h, R.le⟩
theorem RowsAt.len (R : RowsAt K H p rs rows) : (rs.map V.ref).length = rows.length := by rw [List.length_map, R.rw.len]
theorem RowsAt.at (R : RowsAt K H p rs rows) {x : Rw} (e : rows[k]? = some x) : ∃ r, atI (rs.map V.ref) (k : Int) = some (.ref r) ∧ H r = some (rowO x) := by
  obtain ⟨r, h1, h2⟩ := R.rw.at e
  exact ⟨r, atI_nat (by rw [List.getElem?_map, h1]; rfl), h2⟩
/-- the row itself -/
theorem row_at {te : TE} (h1 : σ[i]? = some (some (.ref p))) (h2 : ∀ Q : VK, Q (.int (k : Nat)) H → te σ H Q) (R : RowsAt K H p rs rows) {x : Rw} (e : rows[k]? = some x) (q : ∀ r, H r = some (rowO x) → Q (.ref r) H) : tOp (rIxL K) (tVar i) te σ H Q := by
  obtain ⟨r, a, b⟩ := R.at e
  exact ⟨_, h1, h2 _ ⟨p, _, _, _, rfl, rfl, R.sq, a, q r b⟩⟩
theorem sym_at {te : TE} (h1 : σ[i]? = some (some (.ref p))) (h2 : ∀ Q : VK, Q (.int (k : Nat)) H → te σ H Q) (R : RowsAt K H p rs rows) {x : Rw} (e : rows[k]? = some x) (q : Q (.str (tx [x.1])) H) : tOp (rIxT K) (tOp (rIxL K) (tVar i) te) (tC (.int 0)) σ H Q :=
  row_at h1 h2 R e fun r b => ⟨r, _, _, _, rfl, rfl, SqT.of b, rfl, q⟩
theorem num_at {te : TE} (h1 : σ[i]? = some (some (.ref p))) (h2 : ∀ Q : VK, Q (.int (k : Nat)) H → te σ H Q) (R : RowsAt K H p rs rows) {x : Rw} (e : rows[k]? = some x) (q : Q (.int (x.2 : Nat)) H) : tOp (rIxT K) (tOp (rIxL K) (tVar i) te) (tC (.int 1)) σ H Q :=
  row_at h1 h2 R e fun r b => ⟨r, _, _, _, rfl, rfl, SqT.of b, rfl, q⟩
theorem len_rows (h1 : σ[i]? = some (some (.ref p))) (R : RowsAt K H p rs rows) (q : Q (.int (rows.length : Nat)) H) : tCB (fun xs H Q => ∃ p ys, xs = [.ref p] ∧ (SqL K H p ys ∨ SqT K H p ys) ∧ Q (.int ys.length) H) (tCons (tVar i) tNil) σ H Q :=
  ⟨_, h1, p, _, rfl, .inl R.sq, by rw [R.len]; exact q⟩
theorem var_int (h : σ[i]? = some (some (.int (k : Nat)))) : ∀ Q : VK, Q (.int (k : Nat)) H → tVar i σ H Q := fun Q q => ⟨_, h, q⟩
end
theorem join_syms (l : List Nat) : Txt.join "" (l.map fun c => tx [c]) = tx l := by
  show Builtin.Str.glued _ _ = _
  rw [StrLaws.glued_eq_join]
  have e : ("" : Str) = ⟨#[]⟩ := by decide +kernel
  rw [e]
  exact join_ones l
theorem fold_len : ∀ (l : List Nat) (n : Nat), (l.map fun c => tx [c]).foldl (fun (m : Nat) (s : Str) => m + s.length + ("" : Str).length) n = n + l.length := by
  have e : ("" : Str).length = 0 := by decide +kernel
  intro l
  induction l with
  | nil => intro n; rfl
  | cons a r ih =>
    intro n
    show (r.map fun c => tx [c]).foldl _ (n + (tx [a]).length + ("" : Str).length) = _
    rw [ih, e, tx_len, List.length_cons, List.length_cons, List.length_nil]
    omega
theorem join_ok {l : List Nat} (h : l.length ≤ 1000) : JoinOk "" (l.map fun c => tx [c]) = true := by
  unfold JoinOk
  rw [← Array.foldl_toList, List.toList_toArray, fold_len]
  unfold tooLong
  have hz : 1000 ≤ sizeLine := by decide
  rw [decide_eq_false (by omega)]
  rfl
end Lw

set_option Elab.async false
set_option linter.all false
set_option maxRecDepth 100000
namespace Lw
open PySem PySem.Spec PyProof.Rows L2 K02 K04
def top (i : Nat) : Stmt := PySem.Challenge.pw_boxmoves_k25_no_layouts.main.body.getD i (.Pass ⟨0, 0, 0, 0⟩)
abbrev s_ten_to : Stmt := top 6
theorem sc_ten_to : FnScope ["many", "power", "turn"] ["many"] (defScope s_ten_to) := ⟨rfl, rfl, rfl, by decide +kernel, rfl, by decide +kernel, by decide +kernel⟩
abbrev s_is_figures : Stmt := top 7
theorem sc_is_figures : FnScope ["text"] ["text"] (defScope s_is_figures) := ⟨rfl, rfl, rfl, by decide +kernel, rfl, by decide +kernel, by decide +kernel⟩
abbrev s_number_of : Stmt := top 8
theorem sc_number_of : FnScope ["text", "number", "start", "part"] ["text"] (defScope s_number_of) := ⟨rfl, rfl, rfl, by decide +kernel, rfl, by decide +kernel, by decide +kernel⟩
abbrev s_is_picture : Stmt := top 19
theorem sc_is_picture : FnScope ["thing"] ["thing"] (defScope s_is_picture) := ⟨rfl, rfl, rfl, by decide +kernel, rfl, by decide +kernel, by decide +kernel⟩
abbrev s_size_of : Stmt := top 20
theorem sc_size_of : FnScope ["picture", "rows", "facts"] ["picture"] (defScope s_size_of) := ⟨rfl, rfl, rfl, by decide +kernel, rfl, by decide +kernel, by decide +kernel⟩
abbrev s_understood : Stmt := top 21
theorem sc_understood : FnScope ["picture", "rows", "facts"] ["picture"] (defScope s_understood) := ⟨rfl, rfl, rfl, by decide +kernel, rfl, by decide +kernel, by decide +kernel⟩
abbrev s_rows_of : Stmt := top 22
theorem sc_rows_of : FnScope ["thing", "rows", "at", "symbol", "many"] ["thing"] (defScope s_rows_of) := ⟨rfl, rfl, rfl, by decide +kernel, rfl, by decide +kernel, by decide +kernel⟩
abbrev s_times_at : Stmt := top 23
theorem sc_times_at : FnScope ["text", "at", "end", "number"] ["text", "at"] (defScope s_times_at) := ⟨rfl, rfl, rfl, by decide +kernel, rfl, by decide +kernel, by decide +kernel⟩
abbrev s_facts_of : Stmt := top 24
theorem sc_facts_of : FnScope ["rows", "facts"] ["rows"] (defScope s_facts_of) := ⟨rfl, rfl, rfl, by decide +kernel, rfl, by decide +kernel, by decide +kernel⟩
abbrev s_number_facts : Stmt := top 25
theorem sc_number_facts : FnScope ["rows", "symbol", "many", "signed", "behind_point", "figures"] ["rows"] (defScope s_number_facts) := ⟨rfl, rfl, rfl, by decide +kernel, rfl, by decide +kernel, by decide +kernel⟩
abbrev s_plain_facts : Stmt := top 26
theorem sc_plain_facts : FnScope ["rows", "symbol", "many"] ["rows"] (defScope s_plain_facts) := ⟨rfl, rfl, rfl, by decide +kernel, rfl, by decide +kernel, by decide +kernel⟩
abbrev s_edited_facts : Stmt := top 27
theorem sc_edited_facts : FnScope ["rows", "lead", "start", "place", "many", "nines", "behind", "end", "tail", "floats", "shown", "before"] ["rows"] (defScope s_edited_facts) := ⟨rfl, rfl, rfl, by decide +kernel, rfl, by decide +kernel, by decide +kernel⟩
abbrev s_lead_of : Stmt := top 28
theorem sc_lead_of : FnScope ["rows", "lead", "at", "choice"] ["rows"] (defScope s_lead_of) := ⟨rfl, rfl, rfl, by decide +kernel, rfl, by decide +kernel, by decide +kernel⟩
abbrev s_floats_at : Stmt := top 29
theorem sc_floats_at : FnScope ["rows", "at", "symbol", "many", "behind"] ["rows", "at"] (defScope s_floats_at) := ⟨rfl, rfl, rfl, by decide +kernel, rfl, by decide +kernel, by decide +kernel⟩
abbrev s_body_of : Stmt := top 30
theorem sc_body_of : FnScope ["rows", "at", "place", "many", "nines", "behind"] ["rows", "at"] (defScope s_body_of) := ⟨rfl, rfl, rfl, by decide +kernel, rfl, by decide +kernel, by decide +kernel⟩
abbrev s_whole_part : Stmt := top 31
theorem sc_whole_part : FnScope ["rows", "at", "place", "many", "nines"] ["rows", "at"] (defScope s_whole_part) := ⟨rfl, rfl, rfl, by decide +kernel, rfl, by decide +kernel, by decide +kernel⟩
abbrev s_places_of : Stmt := top 32
theorem sc_places_of : FnScope ["rows", "at", "place", "many"] ["rows", "at", "place"] (defScope s_places_of) := ⟨rfl, rfl, rfl, by decide +kernel, rfl, by decide +kernel, by decide +kernel⟩
abbrev s_broken_part : Stmt := top 33
theorem sc_broken_part : FnScope ["rows", "at", "place", "symbol", "many"] ["rows", "at", "place"] (defScope s_broken_part) := ⟨rfl, rfl, rfl, by decide +kernel, rfl, by decide +kernel, by decide +kernel⟩
abbrev s_tail_of : Stmt := top 34
theorem sc_tail_of : FnScope ["rows", "at", "tail"] ["rows", "at"] (defScope s_tail_of) := ⟨rfl, rfl, rfl, by decide +kernel, rfl, by decide +kernel, by decide +kernel⟩
abbrev s_is_layout : Stmt := top 39
theorem sc_is_layout : FnScope ["thing", "layouts", "left", "items"] ["thing"] (defScope s_is_layout) := ⟨rfl, rfl, rfl, by decide +kernel, rfl, by decide +kernel, by decide +kernel⟩
abbrev s_signs_in : Stmt := top 40
theorem sc_signs_in : FnScope ["layout", "signs", "left", "items", "times", "item"] ["layout"] (defScope s_signs_in) := ⟨rfl, rfl, rfl, by decide +kernel, rfl, by decide +kernel, by decide +kernel⟩
abbrev s_bare : Stmt := top 41
theorem sc_bare : FnScope ["item"] ["item"] (defScope s_bare) := ⟨rfl, rfl, rfl, by decide +kernel, rfl, by decide +kernel, by decide +kernel⟩
abbrev s_is_row_of_items : Stmt := top 42
theorem sc_is_row_of_items : FnScope ["thing", "names"] ["thing"] (defScope s_is_row_of_items) := ⟨rfl, rfl, rfl, by decide +kernel, rfl, by decide +kernel, by decide +kernel⟩
abbrev s_is_item : Stmt := top 43
theorem sc_is_item : FnScope ["thing"] ["thing"] (defScope s_is_item) := ⟨rfl, rfl, rfl, by decide +kernel, rfl, by decide +kernel, by decide +kernel⟩
abbrev s_is_bare_item : Stmt := top 44
theorem sc_is_bare_item : FnScope ["thing"] ["thing"] (defScope s_is_bare_item) := ⟨rfl, rfl, rfl, by decide +kernel, rfl, by decide +kernel, by decide +kernel⟩
abbrev s_begins_with_word : Stmt := top 45
theorem sc_begins_with_word : FnScope ["thing"] ["thing"] (defScope s_begins_with_word) := ⟨rfl, rfl, rfl, by decide +kernel, rfl, by decide +kernel, by decide +kernel⟩
abbrev s_is_name : Stmt := top 46
theorem sc_is_name : FnScope ["thing"] ["thing"] (defScope s_is_name) := ⟨rfl, rfl, rfl, by decide +kernel, rfl, by decide +kernel, by decide +kernel⟩
abbrev s_is_whole : Stmt := top 47
theorem sc_is_whole : FnScope ["thing"] ["thing"] (defScope s_is_whole) := ⟨rfl, rfl, rfl, by decide +kernel, rfl, by decide +kernel, by decide +kernel⟩
abbrev s_overs_have_room : Stmt := top 48
theorem sc_overs_have_room : FnScope ["items", "under", "item"] ["items"] (defScope s_overs_have_room) := ⟨rfl, rfl, rfl, by decide +kernel, rfl, by decide +kernel, by decide +kernel⟩
abbrev s__law_draw : Stmt := top 50
theorem sc__law_draw : FnScope ["_law_script", "_law_town", "_law_many", "_law_at", "_law_rest", "_law_number"] ["_law_script", "_law_town", "_law_many"] (defScope s__law_draw) := ⟨rfl, rfl, rfl, by decide +kernel, rfl, by decide +kernel, by decide +kernel⟩
abbrev s__law_begun : Stmt := top 51
theorem sc__law_begun : FnScope [] [] (defScope s__law_begun) := ⟨rfl, rfl, rfl, by decide +kernel, rfl, by decide +kernel, by decide +kernel⟩
abbrev s__law_is : Stmt := top 52
theorem sc__law_is : FnScope ["_law_told", "_law_due"] ["_law_told", "_law_due"] (defScope s__law_is) := ⟨rfl, rfl, rfl, by decide +kernel, rfl, by decide +kernel, by decide +kernel⟩
abbrev s__law_a_layout : Stmt := top 53
theorem sc__law_a_layout : FnScope ["_law_script", "_law_town", "_law_deep", "_law_found", "_law_under", "_law_letters", "_law_k", "_law_turn", "_law_name", "_law_item", "_law_size"] ["_law_script", "_law_town", "_law_deep"] (defScope s__law_a_layout) := ⟨rfl, rfl, rfl, by decide +kernel, rfl, by decide +kernel, by decide +kernel⟩
abbrev s__law_item_size : Stmt := top 54
theorem sc__law_item_size : FnScope ["_law_item", "_law_size"] ["_law_item"] (defScope s__law_item_size) := ⟨rfl, rfl, rfl, by decide +kernel, rfl, by decide +kernel, by decide +kernel⟩
abbrev s_law : Stmt := top 55
theorem sc_law : FnScope ["_law_script", "_law_town", "_law_items", "_law_odd", "_law_inner", "_law_at", "_law_one", "_law_big"] ["_law_script"] (defScope s_law) := ⟨rfl, rfl, rfl, by decide +kernel, rfl, by decide +kernel, by decide +kernel⟩
section
variable {P : Program} {w : World} {K : PySem.W.Frag} {mg : Str → Option Value} {base : Heap} {f : Addr} {fd : FuncData} {tk : Nat → Tok} {c kr : Nat → Addr}
/-! ### the program -/
def spTen : Sp := fun vs H Q _ => ∃ m : Int, vs = [.int m] ∧ -(2 ^ 62) ≤ m ∧ m < 2 ^ 62 ∧ Q (.int (K01.ten m)) H
theorem ok_ten_to (F : Fun K "ten_to" "ten_to" s_ten_to f fd) (O : Own mg) : FnOk P w K mg base (CXE P w) 1 f fd ["many"] spTen := by
  refine okN F sc_ten_to (fun vs H Q E h => ?_) (fun cdv A outer s H vs Q E hr h => ?_)
  · obtain ⟨m, rfl, _⟩ := h
    rfl
  · obtain ⟨m, rfl, h1, h2, k⟩ := h
    refine ⟨_, (pss_cons (ps_set (i := 1) sc_ten_to.nd rfl (Or.inl rfl) pe_int)
      (pss_cons (ps_for PassesOwn.never rfl (pi_range1 rfl O.range (pa_cons (pv 0) pa_nil)) (pg_name (i := 2) sc_ten_to.nd rfl (Or.inl rfl)) (pss_one (ps_set (i := 1) sc_ten_to.nd rfl (Or.inl rfl) (pe_op op_mul (pv 1) pe_int))))
      (pss_one (ps_ret (pv 1))))), ?_⟩
    refine ⟨_, rfl, m, rfl, h1, h2, for_range (n := m.toNat) (fun i σ H2 => ∃ v, σ = [some (.int m), some (.int (10 ^ i)), v] ∧ H2 = H) ⟨none, rfl, rfl⟩ ?_ ?_⟩
    · rintro i σ H2 hi ⟨v, rfl, rfl⟩
      refine ⟨_, rfl, _, _, rfl, rfl, .inr ⟨by decide, by decide⟩, ?_⟩
      exact ⟨_, by rw [Int.pow_succ]; rfl, rfl⟩
    · rintro σ H2 ⟨v, rfl, rfl⟩
      exact ⟨_, rfl, k⟩
theorem ten_bound {m : Int} (h : m ≤ 40) : (K01.ten m).natAbs < 2 ^ 200 := by
  have h1 := K01.ten_le (a := m) (b := 40) h (by decide)
  have h2 := K01.ten_pos m
  have h3 : K01.ten 40 < 2 ^ 200 := by decide
  omega
theorem big {a : Int} (h : a.natAbs < 2 ^ 200) : a.natAbs < 2 ^ 2000 := Nat.lt_of_lt_of_le h (by decide)
/-- the names of the text's top -/
structure Txt (K : PySem.W.Frag) (mg : Str → Option Value) (tk : Nat → Tok) (c kr : Nat → Addr) : Prop where
  m_BoxError : mg "BoxError" = some (.ref (c 0))
  m_NoPicture : mg "NoPicture" = some (.ref (c 1))
  m_FIGURES : mg "FIGURES" = some (.str "0123456789" (tk 0))
  m_PART : mg "PART" = some (.int 18 (tk 1))
  m_INSERTED : mg "INSERTED" = some (.str ",B0/" (tk 2))
  m_SIGNS : mg "SIGNS" = some (.str "+-" (tk 3))
  m_FLOATING : mg "FLOATING" = some (.str "+-$" (tk 4))
  m_PLACES : mg "PLACES" = some (.str "9Z*+-$" (tk 5))
  m_MOST_FIGURES : mg "MOST_FIGURES" = some (.int 18 (tk 6))
  m_MOST_SIGNS : mg "MOST_SIGNS" = some (.int 60 (tk 7))
  m_SMALL_LETTERS : mg "SMALL_LETTERS" = some (.str "abcdefghijklmnopqrstuvwxyz" (tk 8))
  m_LONGEST_NAME : mg "LONGEST_NAME" = some (.int 12 (tk 9))
  m_MOST_TIMES : mg "MOST_TIMES" = some (.int 30 (tk 10))
  m_NUMBER_FORMS : mg "NUMBER_FORMS" = some (.ref (kr 0))
  m_SHOWN : mg "SHOWN" = some (.ref (kr 1))
  m_PLAIN_KINDS : mg "PLAIN_KINDS" = some (.ref (kr 2))
  q_FORMS : ∀ H, SqT K H (kr 0) [.str "9", .str "S9", .str "V9", .str "SV9", .str "9V9", .str "S9V9"]
  q_SHOWN : ∀ H, SqT K H (kr 1) [.str "+", .str "-", .str "CR", .str "DB"]
  e_NoPicture : Err K (c 1)
  t_str : PySem.W.kitOne K (.type "str") (.type "str") = some true
  t_int : PySem.W.kitOne K (.type "int") (.type "str") = some false
  t_non : PySem.W.kitOne K (.type "NoneType") (.type "str") = some false
  t_tup : PySem.W.kitOne K (.type "tuple") (.type "str") = some false
def kinds2 : List (Key × V) := [(Sum.inr "X", .str "text"), (Sum.inr "A", .str "letters")]
def spIsFig : Sp := fun vs H Q _ => ∃ z : Str, vs = [.str z] ∧ z.length ≤ 1000 ∧ Q (.bl (decide (z.cps.toList ≠ [] ∧ NumText.AllDigits z.cps.toList))) H
theorem str_empty (z : Str) : decide (V.str z = V.str "") = decide (z.cps.toList = []) := by
  have e : ("" : Str) = tx [] := by decide +kernel
  rw [e]
  by_cases h : z.cps.toList = []
  · rw [decide_eq_true h, decide_eq_true]
    rw [of_tx z, h]
  · rw [decide_eq_false h, decide_eq_false]
    intro q
    exact h (by rw [V.str.inj q])
theorem strip_dec (z : Str) : decide (V.str (Txt.stripChars z "0123456789") = V.str "") = decide (NumText.AllDigits z.cps.toList) := by
  rw [str_empty, ← strip_fig z.cps.toList]
  have e : tx z.cps.toList = z := (of_tx z).symm
  rw [e]
  by_cases h : (Txt.stripChars z "0123456789").cps.toList = []
  · rw [decide_eq_true h, decide_eq_true]
    rw [of_tx (Txt.stripChars _ _), h]
    rfl
  · rw [decide_eq_false h, decide_eq_false]
    intro q
    exact h (by rw [q]; rfl)
theorem ok_is_figures (F : Fun K "is_figures" "is_figures" s_is_figures f fd) (T : Txt K mg tk c kr) : FnOk P w K mg base (CXE P w) 1 f fd ["text"] spIsFig := by
  refine okN F sc_is_figures (fun vs H Q E h => ?_) (fun cdv A outer s H vs Q E hr h => ?_)
  · obtain ⟨z, rfl, _⟩ := h
    rfl
  · obtain ⟨z, rfl, hl, k⟩ := h
    refine ⟨_, (pss_one (ps_ret (pe_and (pe_cmpR op_ne (pv 0) pe_str (nomark _)) (pe_one (pe_cmpR op_eq (pe_bm PySem.F.plainAttrs_str PySem.F.slot_str_strip PySem.F.type_str_strip mt_strip (pv 0) (pa_cons (pe_glob (v := V.str "0123456789") rfl T.m_FIGURES ⟨_, rfl⟩) pa_nil)) pe_str (nomark _)))))), ?_⟩
    refine ⟨_, rfl, rfl, _, rfl, ?_⟩
    refine ifB (fun h => ?_) (fun h => ?_)
    · refine ⟨_, rfl, rfl, z, "0123456789", rfl, rfl, Nat.le_trans hl (by decide), rfl, ?_⟩
      rw [str_empty] at h
      refine Eq.mp (congrArg (fun b => Q (.bl b) H) ?_) k
      rw [strip_dec]
      have hne : z.cps.toList ≠ [] := fun q => by rw [decide_eq_true q] at h; cases h
      by_cases hd : NumText.AllDigits z.cps.toList
      · rw [decide_eq_true hd, decide_eq_true ⟨hne, hd⟩]
      · rw [decide_eq_false hd, decide_eq_false fun q => hd q.2]
    · rw [str_empty] at h
      have hne : z.cps.toList = [] := by
        by_cases q : z.cps.toList = []
        · exact q
        · rw [decide_eq_false q] at h; cases h
      refine Eq.mp (congrArg (fun b => Q (.bl b) H) ?_) k
      exact decide_eq_false fun q => q.1 hne
def spNum : Sp := fun vs H Q _ => ∃ z : Str, vs = [.str z] ∧ NumText.AllDigits z.cps.toList ∧ 1 ≤ z.length ∧ z.length ≤ 500 ∧ Q (.int (NumText.digitsVal z.cps.toList : Nat)) H
theorem ok_number_of (F : Fun K "number_of" "number_of" s_number_of f fd) (O : Own mg) (T : Txt K mg tk c kr) (D_ten_to : Def P w K mg base 1 "ten_to" ["many"] spTen) : FnOk P w K mg base (CXE P w) 2 f fd ["text"] spNum := by
  refine okN F sc_number_of (fun vs H Q E h => ?_) (fun cdv A outer s H vs Q E hr h => ?_)
  · obtain ⟨z, rfl, _⟩ := h
    rfl
  · obtain ⟨z, rfl, hd, h1, h2, k⟩ := h
    have hll := len_list z
    refine ⟨_, (pss_cons (ps_set (i := 1) sc_number_of.nd rfl (Or.inl rfl) pe_int)
      (pss_cons (ps_for PassesOwn.never rfl (pi_range3 rfl O.range (pa_cons pe_int (pa_cons (pe_callB call_len_str rfl O.len PySem.boot_len (pa_cons (pv 0) pa_nil)) (pa_cons (pe_glob (v := V.int 18) rfl T.m_PART ⟨_, rfl⟩) pa_nil)))) (pg_name (i := 2) sc_number_of.nd rfl (Or.inl rfl)) (pss_cons (ps_set (i := 3) sc_number_of.nd rfl (Or.inl rfl) (pe_slice sl_str (pv 0) (po_some (pv 2)) (po_some (pe_op op_add (pv 2) (pe_glob (v := V.int 18) rfl T.m_PART ⟨_, rfl⟩)))))
      (pss_one (ps_set (i := 1) sc_number_of.nd rfl (Or.inl rfl) (pe_op op_add (pe_op op_mulB (pv 1) (D_ten_to.pe hr (by decide) rfl passE0 (pa_cons (pe_callB call_len_str rfl O.len PySem.boot_len (pa_cons (pv 3) pa_nil)) pa_nil))) (pe_callTy call_int_text rfl O.int PyProof.Rows.boot_int (pa_cons (pv 3) pa_nil)))))))
      (pss_one (ps_ret (pv 1))))), ?_⟩
    have hn : Builtin.Range.rangeSize 0 (z.length : Int) 18 = (((z.length - 1) / 18 + 1 : Nat) : Int) := by
      unfold Builtin.Range.rangeSize
      rw [if_pos (by decide), if_pos (by omega)]
      omega
    refine ⟨_, rfl, z, rfl, Nat.le_trans h2 (by decide), 0, (z.length : Int), 18, _, rfl, ⟨by decide, by decide, by omega, by omega, by decide, by decide⟩, hn, for_range3 (fun i σ H2 => ∃ x2 x3, σ = [some (.str z), some (.int (NumText.digitsVal (z.cps.toList.take (18 * i)) : Nat)), x2, x3] ∧ H2 = H) ⟨none, none, rfl, rfl⟩ ?_ ?_⟩
    · rintro i σ H2 hi ⟨x2, x3, rfl, rfl⟩
      have hi18 : 18 * i < z.length := by omega
      have hs : StrLaws.sliceText z (some (0 + (i : Int) * 18)) (some (0 + (i : Int) * 18 + 18)) = tx ((z.cps.toList.drop (18 * i)).take 18) := by
        have e1 : (0 + (i : Int) * 18) = ((18 * i : Nat) : Int) := by omega
        have e2 : (0 + (i : Int) * 18 + 18) = ((18 * i + 18 : Nat) : Int) := by omega
        rw [e2, e1]
        have := slice_mid z.cps.toList (a := 18 * i) (b := 18 * i + 18) (by omega) (by omega)
        rw [← of_tx z, show 18 * i + 18 - 18 * i = 18 by omega] at this
        exact this
      refine ⟨_, rfl, _, rfl, _, rfl, _, rfl, _, _, rfl, rfl, _, rfl, z, rfl, Nat.le_trans h2 (by decide), ?_⟩
      rw [hs]
      have hpd : NumText.AllDigits ((z.cps.toList.drop (18 * i)).take 18) := fun c hc => hd c (List.mem_of_mem_drop (List.mem_of_mem_take hc))
      have hpl : ((z.cps.toList.drop (18 * i)).take 18).length ≤ 18 := by rw [List.length_take]; omega
      have hp1 : 1 ≤ ((z.cps.toList.drop (18 * i)).take 18).length := by rw [List.length_take, List.length_drop]; omega
      have htk : z.cps.toList.take (18 * (i + 1)) = z.cps.toList.take (18 * i) ++ (z.cps.toList.drop (18 * i)).take 18 := by rw [show 18 * (i + 1) = 18 * i + 18 by omega, List.take_add]
      generalize (z.cps.toList.drop (18 * i)).take 18 = pl at hpd hpl hp1 htk
      have htl := tx_len pl
      have hv0 := val_lt (l := z.cps.toList.take (18 * i)) fun c hc => hd c (List.mem_of_mem_take hc)
      have hv1 : NumText.digitsVal (z.cps.toList.take (18 * i)) < 10 ^ 500 := Nat.lt_of_lt_of_le hv0 (Nat.pow_le_pow_right (by decide) (by rw [List.length_take]; omega))
      refine ⟨_, rfl, _, rfl, tx pl, rfl, by rw [htl]; exact Nat.le_trans hpl (by decide), _, rfl, by omega, by omega, _, _, rfl, rfl, ⟨Nat.lt_trans hv1 (by decide), big (ten_bound (by omega))⟩, ?_⟩
      refine ⟨_, rfl, tx pl, _, rfl, PySem.intText_digits hpd (fun q => by rw [tx_list] at q; rw [q] at hp1; exact absurd hp1 (by decide)) (by rw [htl]; omega), by rw [htl]; omega, _, _, rfl, rfl, ?_⟩
      have et : K01.ten (((tx pl).length : Nat) : Int) = ((10 ^ pl.length : Nat) : Int) := by
        unfold K01.ten
        rw [Int.toNat_natCast, htl]
        push_cast
        rfl
      have key : ((NumText.digitsVal (z.cps.toList.take (18 * i)) : Nat) : Int) * K01.ten (((tx pl).length : Nat) : Int) + ((NumText.digitsVal (tx pl).cps.toList : Nat) : Int) = ((NumText.digitsVal (z.cps.toList.take (18 * (i + 1))) : Nat) : Int) := by
        rw [htk, val_app, et, tx_list]
        push_cast
        rfl
      refine ⟨some (.int (0 + (i : Int) * 18)), some (.str (tx pl)), ?_, rfl⟩
      rw [← key]
      rfl
    · rintro σ H2 ⟨x2, x3, rfl, rfl⟩
      refine ⟨_, rfl, ?_⟩
      rw [List.take_of_length_le (by omega)]
      exact k
end
end Lw

set_option Elab.async false
set_option linter.all false
set_option maxRecDepth 100000
namespace Lw
open PySem PySem.Spec PyProof.Rows L2 K02 K04
section
variable {P : Program} {w : World} {K : PySem.W.Frag} {mg : Str → Option Value} {base : Heap} {f : Addr} {fd : FuncData} {tk : Nat → Tok} {c kr : Nat → Addr}
def spTimes : Sp := fun vs H Q _ => ∃ (l : List Nat) (a : Nat), vs = [.str (tx l), .int (a : Nat)] ∧ l.length ≤ 500 ∧ a ≤ l.length ∧ ∀ b, a ≤ b → b ≤ l.length → (timesAt (l.drop a)).2 = l.drop b → ∀ q, H q = none → Q (.ref q) (upd H q (.tup [.int ((timesAt (l.drop a)).1 : Nat), .int (b : Nat)]))
theorem times_no {t : List Nat} (h : t.take 1 ≠ [40]) : timesAt t = (1, t) := by
  unfold timesAt
  split
  · exact absurd rfl h
  · rfl
theorem times_bad {r : List Nat} (h : ¬ (41 ∈ r ∧ r.takeWhile (· != 41) ≠ [] ∧ NumText.AllDigits (r.takeWhile (· != 41)) ∧ (r.takeWhile (· != 41)).head? ≠ some 48)) : timesAt (40 :: r) = (1, 40 :: r) := if_neg h
theorem times_good {r : List Nat} (h : 41 ∈ r ∧ r.takeWhile (· != 41) ≠ [] ∧ NumText.AllDigits (r.takeWhile (· != 41)) ∧ (r.takeWhile (· != 41)).head? ≠ some 48) : timesAt (40 :: r) = (NumText.digitsVal (r.takeWhile (· != 41)), r.drop ((r.takeWhile (· != 41)).length + 1)) := if_pos h
theorem cast_succ (a : Nat) : (a : Int) + 1 = ((a + 1 : Nat) : Int) := by omega
theorem ok_times_at (F : Fun K "times_at" "times_at" s_times_at f fd) (O : Own mg) (T : Txt K mg tk c kr) (D_is_figures : Def P w K mg base 1 "is_figures" ["text"] spIsFig) (D_number_of : Def P w K mg base 2 "number_of" ["text"] spNum) :
    FnOk P w K mg base (CXE P w) 3 f fd ["text", "at"] spTimes := by
  refine okN F sc_times_at (fun vs H Q E h => ?_) (fun cdv A outer s H vs Q E hr h => ?_)
  · obtain ⟨l, a, rfl, _⟩ := h
    rfl
  · obtain ⟨l, a, rfl, hl, ha, k⟩ := h
    have hz : 1000 ≤ sizeLine := by decide
    have htl := tx_len l
    have e40 : ("(" : Str) = tx [40] := by decide +kernel
    have e41 : (")" : Str) = tx [41] := by decide +kernel
    have e48 : ("0" : Str) = tx [48] := by decide +kernel
    refine ⟨_, (pss_cons (ps_if (pt_cmpR op_ne (pe_slice sl_str (pv 0) (po_some (pv 1)) (po_some (pe_op op_add (pv 1) pe_int))) pe_str (nomark _)) (pss_one (ps_ret (pe_tup (pa_cons pe_int (pa_cons (pv 1) pa_nil))))) pss_nil)
      (pss_cons (ps_set (i := 2) sc_times_at.nd rfl (Or.inl rfl) (pe_bm PySem.F.plainAttrs_str PySem.F.slot_str_find PySem.F.type_str_find mt_find2 (pv 0) (pa_cons pe_str (pa_cons (pv 1) pa_nil))))
      (pss_cons (ps_set (i := 3) sc_times_at.nd rfl (Or.inl rfl) (pe_slice sl_str (pv 0) (po_some (pe_op op_add (pv 1) pe_int)) (po_some (pe_callB (call_max2 rfl) rfl O.max PyProof.Rows.boot_max (pa_cons (pv 2) (pa_cons (pv 1) pa_nil))))))
      (pss_cons (ps_if (PW.pt (pw_or (pt_not (pt_val (D_is_figures.pe hr (by decide) rfl passE0 (pa_cons (pv 3) pa_nil)))) (pw_or1 (pt_val (pe_bm PySem.F.plainAttrs_str PySem.F.slot_str_startswith PySem.F.type_str_startswith mt_startswith (pv 3) (pa_cons pe_str pa_nil)))))) (pss_one (ps_ret (pe_tup (pa_cons pe_int (pa_cons (pv 1) pa_nil))))) pss_nil)
      (pss_one (ps_ret (pe_tup (pa_cons (D_number_of.pe hr (by decide) rfl passE0 (pa_cons (pv 3) pa_nil)) (pa_cons (pe_op op_add (pv 2) pe_int) pa_nil))))))))), ?_⟩
    refine ⟨_, rfl, _, rfl, _, rfl, _, rfl, _, _, rfl, rfl, _, rfl, tx l, rfl, by omega, ?_⟩
    rw [cast_succ, slice_mid l (a := a) (b := a + 1) ha (by omega), show a + 1 - a = 1 by omega]
    refine ⟨rfl, _, rfl, ?_⟩
    have stop : timesAt (l.drop a) = (1, l.drop a) → ∀ q, H q = none → Q (.ref q) (upd H q (.tup [.int 1, .int (a : Nat)])) := fun e q hq => by
      have := k a (Nat.le_refl _) ha (by rw [e]) q hq
      rw [e] at this
      exact this
    rw [e40, str_dec]
    refine ifB (fun h1 => ?_) (fun h1 => ?_)
    · refine ⟨_, rfl, by show 2 ≤ sizeLine; omega, stop (times_no fun e => ?_)⟩
      rw [e] at h1
      cases h1
    have h2 : (l.drop a).take 1 = [40] := by
      by_cases e : (l.drop a).take 1 = [40]
      · exact e
      · rw [decide_eq_false e] at h1; cases h1
    obtain ⟨r, hr0⟩ : ∃ r, l.drop a = 40 :: r := by
      cases e : l.drop a with
      | nil => rw [e] at h2; cases h2
      | cons b r =>
        rw [e] at h2
        have : b = 40 := (List.cons.inj h2).1
        exact ⟨r, by rw [this]⟩
    have hrl : l.length = a + (r.length + 1) := by
      have := congrArg List.length hr0
      rw [List.length_drop, List.length_cons] at this
      omega
    have stopB : ¬ (41 ∈ r ∧ r.takeWhile (· != 41) ≠ [] ∧ NumText.AllDigits (r.takeWhile (· != 41)) ∧ (r.takeWhile (· != 41)).head? ≠ some 48) → ∀ q, H q = none → Q (.ref q) (upd H q (.tup [.int 1, .int (a : Nat)])) := fun z => stop (by rw [hr0]; exact times_bad z)
    refine ⟨_, rfl, rfl, _, rfl, tx l, ")", (a : Int), rfl, rfl, ?_⟩
    rw [e41]
    have hfind := find_is (c := 41) hr0 (by decide)
    generalize find2 (tx l) (tx [41]) (a : Int) = e at hfind
    refine ⟨_, rfl, _, rfl, _, _, rfl, rfl, _, rfl, _, rfl, _, rfl, _, _, rfl, _, rfl, tx l, rfl, by omega, ?_⟩
    rw [cast_succ]
    rcases hfind with ⟨hno, rfl⟩ | ⟨hin, rfl⟩
    · have es : StrLaws.sliceText (tx l) (some ((a + 1 : Nat) : Int)) (some (if (a : Int) > -1 then (a : Int) else -1)) = tx [] := by
        rw [if_pos (by omega)]
        exact slice_none l (by omega) (by omega)
      rw [es]
      refine ⟨_, rfl, tx [], rfl, by rw [tx_len]; decide, _, rfl, ?_⟩
      refine ifB (fun _ => ?_) (fun q => ?_)
      · exact ⟨_, rfl, by show 2 ≤ sizeLine; omega, stopB fun q => hno q.1⟩
      · have : decide ((tx []).cps.toList ≠ [] ∧ NumText.AllDigits (tx []).cps.toList) = false := decide_eq_false fun z => z.1 rfl
        rw [this] at q
        cases q
    · generalize hn : r.takeWhile (· != 41) = n
      have hnl : n.length ≤ r.length := by rw [← hn]; exact (List.takeWhile_sublist _).length_le
      have hnr : n.length < r.length := by
        rcases Nat.lt_or_ge n.length r.length with h | h
        · exact h
        · have e : n = r := by rw [← hn] at h ⊢; exact (List.takeWhile_sublist _).eq_of_length_le h
          rw [← e, ← hn] at hin
          have := mem_tw hin
          simp at this
      have htk : r.take n.length = n := by
        have := List.takeWhile_append_dropWhile (p := (· != 41)) (l := r)
        rw [hn] at this
        rw [← this, List.take_left]
      have es : StrLaws.sliceText (tx l) (some ((a + 1 : Nat) : Int)) (some (if (a : Int) > ((a + 1 + n.length : Nat) : Int) then (a : Int) else ((a + 1 + n.length : Nat) : Int))) = tx n := by
        rw [if_neg (by omega), slice_mid l (by omega) (by omega), show a + 1 + n.length - (a + 1) = n.length by omega]
        have : l.drop (a + 1) = r := by rw [← List.drop_drop, hr0]; rfl
        rw [this, htk]
      rw [es]
      have hnt := tx_len n
      refine ⟨_, rfl, tx n, rfl, by omega, _, rfl, ?_⟩
      refine ifB (fun q => ?_) (fun q => ?_)
      · refine ⟨_, rfl, by show 2 ≤ sizeLine; omega, stopB fun z => ?_⟩
        rw [hn] at z
        have : decide ((tx n).cps.toList ≠ [] ∧ NumText.AllDigits (tx n).cps.toList) = true := decide_eq_true ⟨z.2.1, z.2.2.1⟩
        rw [this] at q
        cases q
      have hfg : n ≠ [] ∧ NumText.AllDigits n := by
        by_cases z : n ≠ [] ∧ NumText.AllDigits n
        · exact z
        · have : decide ((tx n).cps.toList ≠ [] ∧ NumText.AllDigits (tx n).cps.toList) = false := decide_eq_false z
          rw [this] at q
          cases q
      refine ⟨_, rfl, rfl, tx n, "0", rfl, rfl, trivial, _, rfl, ?_⟩
      rw [e48, starts_c]
      refine ifB (fun q2 => ?_) (fun q2 => ?_)
      · refine ⟨_, rfl, by show 2 ≤ sizeLine; omega, stopB fun z => ?_⟩
        rw [hn] at z
        exact z.2.2.2 (by simpa using q2)
      have hgood : 41 ∈ r ∧ r.takeWhile (· != 41) ≠ [] ∧ NumText.AllDigits (r.takeWhile (· != 41)) ∧ (r.takeWhile (· != 41)).head? ≠ some 48 := by
        rw [hn]
        exact ⟨hin, hfg.1, hfg.2, by simpa using q2⟩
      have hn1 : 1 ≤ n.length := by cases n with | nil => exact absurd rfl hfg.1 | cons => simp
      refine ⟨_, rfl, tx n, rfl, hfg.2, by omega, by omega, _, rfl, _, _, rfl, rfl, by show 2 ≤ sizeLine; omega, fun p hp => ?_⟩
      have et := times_good hgood
      rw [hn] at et
      have := k (a + 1 + n.length + 1) (by omega) (by omega) (by
        rw [hr0, et]
        show r.drop (n.length + 1) = _
        have e1 : l.drop (a + 1) = r := by rw [← List.drop_drop, hr0]; rfl
        rw [← e1, List.drop_drop]
        congr 1) p hp
      rw [hr0, et] at this
      exact this
def tupV (v : V) (H : Hp) : Prop := v = .non ∨ (∃ i, v = .int i) ∨ ∃ a xs, v = .ref a ∧ H a = some (.tup xs)
/-- the rows of a text; none of what is no text -/
def spRows (K : PySem.W.Frag) : Sp := fun vs H Q _ => ∃ (v : V) (rows : List Rw), vs = [v] ∧ ((∃ l, v = .str (tx l) ∧ l.length ≤ 500 ∧ rows = rowsOf l) ∨ (tupV v H ∧ rows = [])) ∧ ∀ p rs H', Same H H' → RowsAt K H' p rs rows → Q (.ref p) H'
theorem times_le (t : List Nat) : (timesAt t).2.length ≤ t.length := by
  unfold timesAt
  split
  · split
    · show (List.drop _ _).length ≤ _
      rw [List.length_drop, List.length_cons]
      omega
    · exact Nat.le_refl _
  · exact Nat.le_refl _
theorem seq_join {c : TT} {t u : TS} {D : Ends} {σ : L2.St} {H : Hp} (Good : L2.St → Hp → Prop) (rest : ∀ σ' H', Good σ' H' → u D σ' H') (h : (∀ σ' H', Good σ' H' → u D σ' H') → c σ H fun b H1 => if b = true then t { D with nx := u D } σ H1 else u D σ H1) : tSeq (tIfS c t tNext) u D σ H := h rest
theorem Rws.last {H : Hp} {rs : List Addr} {rows : List Rw} (h : Rws H rs rows) : (rs = [] ∧ rows = []) ∨ ∃ rs' r rows' x, rs = rs' ++ [r] ∧ rows = rows' ++ [x] ∧ Rws H rs' rows' ∧ H r = some (rowO x) := by
  induction h with
  | nil => exact .inl ⟨rfl, rfl⟩
  | @cons r rs x xs a t ih =>
    rcases ih with ⟨rfl, rfl⟩ | ⟨rs', r', rows', x', rfl, rfl, h1, h2⟩
    · exact .inr ⟨[], r, [], x, rfl, rfl, .nil, a⟩
    · exact .inr ⟨r :: rs', r', x :: rows', x', rfl, rfl, .cons a h1, h2⟩
theorem add_nil (c n : Nat) : addRow [] c n = [] ++ [(c, n)] := rfl
theorem add_same (rows : List Rw) (c n m : Nat) : addRow (rows ++ [(c, m)]) c n = rows ++ [(c, n + m)] := by
  unfold addRow
  rw [List.getLast?_concat]
  simp
theorem add_other {rows : List Rw} {c c' n m : Nat} (h : c' ≠ c) : addRow (rows ++ [(c', m)]) c n = (rows ++ [(c', m)]) ++ [(c, n)] := by
  unfold addRow
  rw [List.getLast?_concat]
  simp [h]
theorem ok_rows_of (F : Fun K "rows_of" "rows_of" s_rows_of f fd) (O : Own mg) (T : Txt K mg tk c kr) (D_times_at : Def P w K mg base 3 "times_at" ["text", "at"] spTimes) :
    FnOk P w K mg base (CXE P w) 4 f fd ["thing"] (spRows K) := by
  refine okN F sc_rows_of (fun vs H Q E h => ?_) (fun cdv A outer s H vs Q E hr h => ?_)
  · obtain ⟨v, rows, rfl, _⟩ := h
    rfl
  · obtain ⟨v, rows, rfl, hv, k⟩ := h
    have hz : 1000 ≤ sizeLine := by decide
    refine ⟨_, (pss_cons (ps_if (pt_not (pt_val (pe_callB call_isi rfl O.isi PyProof.Rows.boot_isinstance (pa_cons (pv 0) (pa_cons (pe_bltn (v := V.ty "str") rfl O.str PyProof.Rows.boot_str rfl) pa_nil))))) (pss_one (ps_ret (pe_lst pa_nil))) pss_nil)
      (pss_cons (ps_set (i := 1) sc_rows_of.nd rfl (Or.inl rfl) (pe_lst pa_nil))
      (pss_cons (ps_set (i := 2) sc_rows_of.nd rfl (Or.inl rfl) pe_int)
      (pss_cons (ps_while PassesOwn.never (pt_cmpR op_lt (pv 2) (pe_callB call_len_str rfl O.len PySem.boot_len (pa_cons (pv 0) pa_nil)) (nomark _)) (pss_cons (ps_set (i := 3) sc_rows_of.nd rfl (Or.inl rfl) (pe_ix ix_str (pv 0) (pv 2) (fun _ _ => rfl)))
      (pss_cons (ps_asg (D_times_at.pe hr (by decide) rfl passE0 (pa_cons (pv 0) (pa_cons (pe_op op_add (pv 2) pe_int) pa_nil))) (pg_tup rfl (pgs_cons (pg_name (i := 4) sc_rows_of.nd rfl (Or.inl rfl)) (pgs_cons (pg_name (i := 2) sc_rows_of.nd rfl (Or.inl rfl)) pgs_nil))))
      (pss_cons (ps_if (PW.pt (pw_and (pt_truth (pv 1) (fun _ => rfl)) (pw_and1 (pt_cmpR op_eq (pe_ix ix_tup (pe_ix ix_list (pv 1) (pe_un un_neg pe_int) (fun _ _ => rfl)) pe_int (fun _ _ => rfl)) (pv 3) (nomark _))))) (pss_one (ps_aug (i := 4) sc_rows_of.nd rfl (Or.inl rfl) (pe_ix ix_tup (pe_bm0 PySem.F.plainAttrs_list PySem.F.slot_list_pop PySem.F.type_list_pop mt_pop (pv 1)) pe_int (fun _ _ => rfl)) ip_add)) pss_nil)
      (pss_one (ps_expr (pe_bm PySem.F.plainAttrs_list PySem.F.slot_list_append PySem.F.type_list_append mt_append (pv 1) (pa_cons (pe_tup (pa_cons (pv 3) (pa_cons (pv 4) pa_nil))) pa_nil))))))))
      (pss_one (ps_ret (pv 1))))))), ?_⟩
    rcases hv with ⟨l, rfl, hl, rfl⟩ | ⟨hv, rfl⟩
    · have htl := tx_len l
      refine ⟨_, rfl, .str (tx l), V.ty "str", true, rfl, rfl, .inl ⟨_, .str _, T.t_str⟩, true, rfl, ?_⟩
      refine iteF ⟨by show 0 ≤ sizeLine; omega, fun p hp => ?_⟩
      have S1 := Same.new (o := .lst []) hp
      refine ⟨fun m σ H2 => ∃ (a : Nat) (rs : List Addr) (rows : List Rw) (x3 x4 : Option V) (kf : Nat), m = l.length - a ∧ a ≤ l.length ∧ σ = [some (.str (tx l)), some (.ref p), some (.int (a : Nat)), x3, x4] ∧ H2 p = some (.lst (rs.map V.ref)) ∧ Rws H2 rs rows ∧ Same H H2 ∧ rows.length ≤ a ∧ (l.drop a).length ≤ kf ∧ rowsOf l = rowsGo kf (l.drop a) rows, ⟨l.length, 0, [], [], none, none, l.length, rfl, Nat.zero_le _, rfl, upd_same, .nil, S1, Nat.le_refl _, by simp, rfl⟩, ?_⟩
      rintro m σ H2 ⟨a, rs, rows, x3, x4, kf, rfl, hal, rfl, hp2, R2, S2, hra, hkf, hro⟩
      refine ⟨_, rfl, _, rfl, tx l, rfl, by omega, _, _, rfl, rfl, _, rfl, ?_⟩
      refine ifB (fun h1 => ?_) (fun h1 => ?_)
      · have ha : a < l.length := by have := of_decide_eq_true h1; omega
        obtain ⟨ch, hch⟩ : ∃ ch, l[a]? = some ch := ⟨_, List.getElem?_eq_getElem ha⟩
        have hdr : l.drop a = ch :: l.drop (a + 1) := by rw [List.drop_eq_getElem_cons ha]; congr 1; rw [List.getElem?_eq_getElem ha] at hch; exact Option.some.inj hch
        refine ⟨_, fun _ _ h => h, _, rfl, _, rfl, tx l, (a : Int), ch, rfl, rfl, by omega, atI_nat hch, ?_⟩
        refine ⟨_, rfl, _, rfl, _, _, rfl, rfl, l, a + 1, rfl, hl, by omega, fun b hb1 hb2 hb3 q hq => ⟨q, _, rfl, SqT.of upd_same, rfl, _, _, rfl, _, _, rfl, rfl, ?_⟩⟩
        have S3 := Same.new (o := .tup [.int ((timesAt (l.drop (a + 1))).1 : Nat), .int (b : Nat)]) hq
        generalize hH3 : upd H2 q (.tup [.int ((timesAt (l.drop (a + 1))).1 : Nat), .int (b : Nat)]) = H3 at S3
        have hp3 := S3 _ _ hp2
        have R3 := R2.keep fun b xs h => S3 _ _ h
        have S13 := S2.trans S3
        clear hH3 hq S3 hp2 R2 S2
        cases kf with
        | zero => rw [hdr] at hkf; exact absurd hkf (by simp)
        | succ kf =>
        rw [hdr] at hro hkf
        have hro2 : rowsOf l = rowsGo kf (timesAt (l.drop (a + 1))).2 (addRow rows ch (timesAt (l.drop (a + 1))).1) := hro
        have hkf2 : (timesAt (l.drop (a + 1))).2.length ≤ kf := by
          have := times_le (l.drop (a + 1))
          rw [List.length_cons] at hkf
          omega
        rw [hb3] at hro2 hkf2
        generalize (timesAt (l.drop (a + 1))).1 = n at hro2
        dsimp only
        refine seq_join (fun σ' H' => ∃ (rs1 : List Addr) (rows1 : List Rw) (nn : Nat), σ' = [some (.str (tx l)), some (.ref p), some (.int (b : Nat)), some (.str (tx [ch])), some (.int (nn : Nat))] ∧ H' p = some (.lst (rs1.map V.ref)) ∧ Rws H' rs1 rows1 ∧ Same H H' ∧ addRow rows ch n = rows1 ++ [(ch, nn)] ∧ rows1.length ≤ rows.length) ?_ (fun rest => ?_)
        · rintro σ' H4 ⟨rs1, rows1, nn, rfl, hp4, R4, S4, had, hle⟩
          refine ⟨_, rfl, .inl ⟨rfl, _, .inl (.inl hp4)⟩, _, rfl, _, rfl, by show 2 ≤ sizeLine; omega, fun q2 hq2 => ?_⟩
          have S5 := Same.new (o := .tup [.str (tx [ch]), .int (nn : Nat)]) hq2
          have g5 : upd H4 q2 (.tup [.str (tx [ch]), .int (nn : Nat)]) q2 = some (rowO (ch, nn)) := upd_same
          generalize upd H4 q2 (.tup [.str (tx [ch]), .int (nn : Nat)]) = H5 at S5 g5
          have hp5 := S5 _ _ hp4
          have nq : q2 ≠ p := fun z => by rw [z, hp4] at hq2; cases hq2
          have R5 := R4.keep fun b xs h => S5 _ _ h
          have S15 := S4.trans S5
          refine ⟨p, _, _, rfl, rfl, hp5, by rw [List.length_map, R4.len]; omega, l.length - b, by omega, b, rs1 ++ [q2], addRow rows ch n, _, _, kf, rfl, hb2, rfl, ?_, ?_, ?_, ?_, hkf2, hro2⟩
          · rw [upd_same, List.map_append]
            rfl
          · rw [had]
            refine Rws.app (R5.keep fun b xs h => ?_) ?_
            · rw [upd_ne fun z => by rw [z, hp5] at h; cases h]; exact h
            · rw [upd_ne nq]; exact g5
          · intro b o h
            rw [upd_ne (ne_of_none h hp)]
            exact S15 _ _ h
          · rw [had, List.length_append]
            simp
            omega
        · rcases R3.last with ⟨rfl, rfl⟩ | ⟨rs', r', rows', ⟨c', m'⟩, rfl, rfl, R4, g4⟩
          · refine ⟨_, rfl, false, .inl ⟨_, SqL.of hp3, rfl⟩, ?_⟩
            exact iteF (iteF (rest _ _ ⟨[], [], n, rfl, hp3, .nil, S13, add_nil ch n, Nat.le_refl _⟩))
          · have hp4 : H3 p = some (.lst (rs'.map V.ref ++ [V.ref r'])) := by rw [hp3, List.map_append]; rfl
            have sq4 : SqL K H3 p (rs'.map V.ref ++ [V.ref r']) := SqL.of hp4
            refine ⟨_, rfl, true, .inl ⟨_, sq4, by cases rs' <;> rfl⟩, ?_⟩
            refine iteT ⟨_, rfl, _, rfl, p, _, _, _, rfl, rfl, sq4, atI_last _ _, r', _, _, _, rfl, rfl, SqT.of g4, rfl, _, rfl, rfl, _, rfl, ?_⟩
            rw [show (⟨#[ch]⟩ : Str) = tx [ch] from rfl, sym_dec]
            refine ifB (fun h2 => ?_) (fun h2 => ?_)
            · have hc : c' = ch := of_decide_eq_true h2
              subst hc
              refine ⟨_, rfl, _, rfl, .inl ⟨rfl, _, sq4⟩, p, _, V.ref r', rfl, rfl, hp4, by rw [List.length_append]; simp, r', [.str (tx [c']), .int (m' : Nat)], 1, .int (m' : Nat), rfl, rfl, ?_, rfl, _, _, rfl, rfl, ?_⟩
              · exact SqT.of (by rw [upd_ne fun z => by rw [z, hp4] at g4; cases g4]; exact g4)
              · refine rest _ _ ⟨rs', rows', n + m', rfl, by rw [upd_same, List.dropLast_concat], R4.keep fun b xs h => ?_, fun b o h => ?_, add_same rows' c' n m', by simp⟩
                · rw [upd_ne fun z => by rw [z, hp4] at h; cases h]; exact h
                · rw [upd_ne (ne_of_none h hp)]; exact S13 _ _ h
            · have hc : c' ≠ ch := of_decide_eq_false h2
              exact rest _ _ ⟨_, _, n, rfl, hp3, R3, S13, add_other hc, Nat.le_refl _⟩
      · have ha : a = l.length := by have := of_decide_eq_false h1; omega
        subst ha
        rw [List.drop_length] at hro
        have hr2 : rowsOf l = rows := by
          rw [hro]
          cases kf <;> rfl
        refine ⟨_, rfl, k p rs H2 S2 ⟨SqL.of hp2, by rw [hr2]; exact R2, by rw [hr2]; omega⟩⟩
    · have isi : ∃ x c b, [v, V.ty "str"] = [x, c] ∧ isCls c = true ∧ ((∃ t, TyOf K H x t ∧ PySem.W.kitOne K t (clsV c) = some b) ∨ ∃ a C, x = .ref a ∧ H a = some (excO a (.ref C)) ∧ ErrK K C ∧ PySem.W.kitOne K (.ref C) (clsV c) = some b) ∧ b = false := by
        rcases hv with rfl | ⟨i, rfl⟩ | ⟨a, xs, rfl, e⟩
        · exact ⟨_, _, false, rfl, rfl, .inl ⟨_, .non, T.t_non⟩, rfl⟩
        · exact ⟨_, _, false, rfl, rfl, .inl ⟨_, .int _, T.t_int⟩, rfl⟩
        · exact ⟨_, _, false, rfl, rfl, .inl ⟨_, .tup e, T.t_tup⟩, rfl⟩
      obtain ⟨x, cc, b, e1, e2, e3, rfl⟩ := isi
      refine ⟨_, rfl, x, cc, false, e1, e2, e3, false, rfl, ?_⟩
      refine iteT ⟨by show 0 ≤ sizeLine; omega, fun p hp => ?_⟩
      exact k p [] _ (Same.new hp) ⟨SqL.of upd_same, .nil, by simp⟩
end
end Lw

set_option Elab.async false
set_option linter.all false
set_option maxRecDepth 100000
namespace Lw
open PySem PySem.Spec PyProof.Rows L2 K02 K04
section
variable {P : Program} {w : World} {K : PySem.W.Frag} {mg : Str → Option Value} {base : Heap} {f : Addr} {fd : FuncData} {tk : Nat → Tok} {c kr : Nat → Addr}
theorem drop_cons {α : Type} {l : List α} {a : Nat} {x : α} (h : l[a]? = some x) : l.drop a = x :: l.drop (a + 1) := by
  have ha := (List.getElem?_eq_some_iff.mp h).1
  rw [List.drop_eq_getElem_cons ha]
  congr 1
  rw [List.getElem?_eq_getElem ha] at h
  exact Option.some.inj h
theorem get_lt {α : Type} {l : List α} {a : Nat} (h : a < l.length) : ∃ x, l[a]? = some x := ⟨_, List.getElem?_eq_getElem h⟩
theorem e_ins : (",B0/" : Str) = tx [44, 66, 48, 47] := by decide +kernel
theorem e_flo : ("+-$" : Str) = tx [43, 45, 36] := by decide +kernel
theorem e_sig : ("+-" : Str) = tx [43, 45] := by decide +kernel
theorem e_pla : ("9Z*+-$" : Str) = tx [57, 90, 42, 43, 45, 36] := by decide +kernel
theorem e_dol : ("$" : Str) = tx [36] := by decide +kernel
theorem e_nin : ("9" : Str) = tx [57] := by decide +kernel
theorem e_dot : ("." : Str) = tx [46] := by decide +kernel
theorem e_emp : ("" : Str) = tx [] := by decide +kernel
def spFloats (K : PySem.W.Frag) : Sp := fun vs H Q _ => ∃ (p : Addr) (rs : List Addr) (rows : List Rw) (a : Nat), vs = [.ref p, .int (a : Nat)] ∧ RowsAt K H p rs rows ∧ a < rows.length ∧ Q (.bl (floatsAt (rows.drop a))) H
theorem ok_floats_at (F : Fun K "floats_at" "floats_at" s_floats_at f fd) (O : Own mg) (T : Txt K mg tk c kr) : FnOk P w K mg base (CXE P w) 1 f fd ["rows", "at"] (spFloats K) := by
  refine okN F sc_floats_at (fun vs H Q E h => ?_) (fun cdv A outer s H vs Q E hr h => ?_)
  · obtain ⟨p, rs, rows, a, rfl, _⟩ := h
    rfl
  · obtain ⟨p, rs, rows, a, rfl, R, ha, k⟩ := h
    refine ⟨_, (pss_cons (ps_asg (pe_ix ix_list (pv 0) (pv 1) (fun _ _ => rfl)) (pg_tup rfl (pgs_cons (pg_name (i := 2) sc_floats_at.nd rfl (Or.inl rfl)) (pgs_cons (pg_name (i := 3) sc_floats_at.nd rfl (Or.inl rfl)) pgs_nil))))
      (pss_cons (ps_if (pt_cmpR op_gt (pv 3) pe_int (nomark _)) (pss_one (ps_ret pe_bl)) pss_nil)
      (pss_cons (ps_set (i := 4) sc_floats_at.nd rfl (Or.inl rfl) (pe_op op_add (pv 1) pe_int))
      (pss_cons (ps_while PassesOwn.never (PW.pt (pw_and (pt_cmpR op_lt (pv 4) (pe_callB call_len_seq rfl O.len PySem.boot_len (pa_cons (pv 0) pa_nil)) (nomark _)) (pw_and1 (pt_cmpR op_in_str (pe_ix ix_tup (pe_ix ix_list (pv 0) (pv 4) (fun _ _ => rfl)) pe_int (fun _ _ => rfl)) (pe_glob (v := V.str ",B0/") rfl T.m_INSERTED ⟨_, rfl⟩) (by with_unfolding_all rfl))))) (pss_one (ps_aug (i := 4) sc_floats_at.nd rfl (Or.inl rfl) pe_int ip_add)))
      (pss_one (ps_ret (pe_and (pe_cmpR op_lt (pv 4) (pe_callB call_len_seq rfl O.len PySem.boot_len (pa_cons (pv 0) pa_nil)) (nomark _)) (pe_one (pe_cmpR op_eq (pe_ix ix_tup (pe_ix ix_list (pv 0) (pv 4) (fun _ _ => rfl)) pe_int (fun _ _ => rfl)) (pv 2) (nomark _)))))))))), ?_⟩
    obtain ⟨⟨y, n⟩, hx⟩ := get_lt ha
    rw [drop_cons hx] at k
    refine row_at rfl (var_int rfl) R hx fun r hr1 => ⟨r, _, rfl, SqT.of hr1, rfl, _, _, rfl, _, _, rfl, rfl, ?_⟩
    refine ⟨_, rfl, _, _, rfl, rfl, _, rfl, ?_⟩
    refine ifB (fun h1 => ?_) (fun h1 => ?_)
    · have hn : n > 1 := by have := of_decide_eq_true h1; omega
      have e : floatsAt ((y, n) :: rows.drop (a + 1)) = true := by unfold floatsAt; simp [hn]
      rw [e] at k
      exact k
    have hn : ¬ n > 1 := by have := of_decide_eq_false h1; omega
    have e : floatsAt ((y, n) :: rows.drop (a + 1)) = (match (rows.drop (a + 1)).dropWhile (fun x => ins x.1) with | (c', _) :: _ => c' == y | [] => false) := by
      show (decide (n > 1) || _) = _
      rw [decide_eq_false hn, Bool.false_or]
      all_goals rfl
    rw [e] at k
    clear e
    refine ⟨_, rfl, _, _, rfl, rfl, ?_⟩
    refine ⟨fun m σ H2 => ∃ b : Nat, m = rows.length - b ∧ b ≤ rows.length ∧ σ = [some (.ref p), some (.int (a : Nat)), some (.str (tx [y])), some (.int (n : Nat)), some (.int (b : Nat))] ∧ H2 = H ∧ (rows.drop (a + 1)).dropWhile (fun x => ins x.1) = (rows.drop b).dropWhile (fun x => ins x.1), ⟨_, a + 1, rfl, by omega, rfl, rfl, rfl⟩, ?_⟩
    rintro m σ H2 ⟨b, rfl, hb, rfl, rfl, hd⟩
    refine ⟨_, rfl, len_rows rfl R ⟨_, _, rfl, rfl, _, rfl, ?_⟩⟩
    rcases Nat.lt_or_ge b rows.length with hlt | hge
    · rw [decide_eq_true (by omega)]
      obtain ⟨⟨y2, n2⟩, hx2⟩ := get_lt hlt
      refine iteT (sym_at rfl (var_int rfl) R hx2 ⟨_, _, rfl, rfl, _, rfl, ?_⟩)
      rw [e_ins, in_sym]
      have hc : ([44, 66, 48, 47] : List Nat).contains y2 = ins y2 := rfl
      rw [hc]
      rw [drop_cons hx2] at hd
      refine ifB (fun h2 => ?_) (fun h2 => ?_)
      · refine ⟨_, fun _ _ h => h, ?_⟩
        refine ⟨_, rfl, _, _, rfl, rfl, _, ?_, b + 1, rfl, by omega, rfl, rfl, ?_⟩
        · omega
        · rw [hd, List.dropWhile_cons, if_pos h2]
      · rw [List.dropWhile_cons, if_neg (by rw [h2]; decide)] at hd
        rw [hd] at k
        refine ⟨_, rfl, len_rows rfl R ⟨_, _, rfl, rfl, _, rfl, ?_⟩⟩
        rw [decide_eq_true (by omega)]
        refine iteT (sym_at rfl (var_int rfl) R hx2 ⟨_, rfl, rfl, ?_⟩)
        rw [sym_dec]
        have e3 : decide (y2 = y) = (y2 == y) := by by_cases z : y2 = y <;> simp [z]
        rw [e3]
        exact k
    · rw [decide_eq_false (by omega)]
      refine iteF (iteF ?_)
      rw [List.drop_eq_nil_of_le hge] at hd
      rw [hd] at k
      refine ⟨_, rfl, len_rows rfl R ⟨_, _, rfl, rfl, _, rfl, ?_⟩⟩
      rw [decide_eq_false (by omega)]
      exact iteF k
def spPlaces (K : PySem.W.Frag) : Sp := fun vs H Q _ => ∃ (p : Addr) (rs : List Addr) (rows : List Rw) (a pc : Nat), vs = [.ref p, .int (a : Nat), .str (tx [pc])] ∧ RowsAt K H p rs rows ∧ a ≤ rows.length ∧
  ∀ b many : Nat, b ≤ rows.length → placesGo pc (rows.drop a) 0 = (many, rows.drop b) → ∀ q, H q = none → Q (.ref q) (upd H q (.tup [.int (many : Nat), .int (b : Nat)]))
theorem ok_places_of (F : Fun K "places_of" "places_of" s_places_of f fd) (O : Own mg) (T : Txt K mg tk c kr) : FnOk P w K mg base (CXE P w) 1 f fd ["rows", "at", "place"] (spPlaces K) := by
  refine okN F sc_places_of (fun vs H Q E h => ?_) (fun cdv A outer s H vs Q E hr h => ?_)
  · obtain ⟨p, rs, rows, a, pc, rfl, _⟩ := h
    rfl
  · obtain ⟨p, rs, rows, a, pc, rfl, R, ha, k⟩ := h
    have hz : 1000 ≤ sizeLine := by decide
    refine ⟨_, (pss_cons (ps_set (i := 3) sc_places_of.nd rfl (Or.inl rfl) pe_int)
      (pss_cons (ps_while PassesOwn.never (PW.pt (pw_and (pt_cmpR op_lt (pv 1) (pe_callB call_len_seq rfl O.len PySem.boot_len (pa_cons (pv 0) pa_nil)) (nomark _)) (pw_and1 (PW.pt (pw_or (pt_cmpR op_eq (pe_ix ix_tup (pe_ix ix_list (pv 0) (pv 1) (fun _ _ => rfl)) pe_int (fun _ _ => rfl)) (pv 2) (nomark _)) (pw_or1 (pt_cmpR op_in_str (pe_ix ix_tup (pe_ix ix_list (pv 0) (pv 1) (fun _ _ => rfl)) pe_int (fun _ _ => rfl)) (pe_glob (v := V.str ",B0/") rfl T.m_INSERTED ⟨_, rfl⟩) (by with_unfolding_all rfl)))))))) (pss_cons (ps_if (pt_cmpR op_eq (pe_ix ix_tup (pe_ix ix_list (pv 0) (pv 1) (fun _ _ => rfl)) pe_int (fun _ _ => rfl)) (pv 2) (nomark _)) (pss_one (ps_aug (i := 3) sc_places_of.nd rfl (Or.inl rfl) (pe_ix ix_tup (pe_ix ix_list (pv 0) (pv 1) (fun _ _ => rfl)) pe_int (fun _ _ => rfl)) ip_add)) pss_nil)
      (pss_one (ps_aug (i := 1) sc_places_of.nd rfl (Or.inl rfl) pe_int ip_add))))
      (pss_one (ps_ret (pe_tup (pa_cons (pv 3) (pa_cons (pv 1) pa_nil))))))), ?_⟩
    refine ⟨fun m σ H2 => ∃ b many : Nat, m = rows.length - b ∧ b ≤ rows.length ∧ σ = [some (.ref p), some (.int (b : Nat)), some (.str (tx [pc])), some (.int (many : Nat))] ∧ H2 = H ∧ placesGo pc (rows.drop a) 0 = placesGo pc (rows.drop b) many, ⟨_, a, 0, rfl, ha, rfl, rfl, rfl⟩, ?_⟩
    rintro m σ H2 ⟨b, many, rfl, hb, rfl, rfl, hd⟩
    refine ⟨_, rfl, len_rows rfl R ⟨_, _, rfl, rfl, _, rfl, ?_⟩⟩
    rcases Nat.lt_or_ge b rows.length with hlt | hge
    · rw [decide_eq_true (by omega)]
      obtain ⟨⟨y, n⟩, hx⟩ := get_lt hlt
      rw [drop_cons hx] at hd
      refine iteT (sym_at rfl (var_int rfl) R hx ⟨_, rfl, rfl, _, rfl, ?_⟩)
      rw [sym_dec]
      by_cases h1 : y = pc
      · rw [decide_eq_true h1]
        refine iteT (iteT ⟨_, fun _ _ h => h, sym_at rfl (var_int rfl) R hx ⟨_, rfl, rfl, _, rfl, ?_⟩⟩)
        rw [sym_dec, decide_eq_true h1]
        refine iteT ⟨_, rfl, num_at rfl (var_int rfl) R hx ⟨_, _, rfl, rfl, ?_⟩⟩
        refine ⟨_, rfl, _, _, rfl, rfl, rows.length - (b + 1), by omega, b + 1, many + n, rfl, by omega, rfl, rfl, ?_⟩
        rw [hd]
        show (if y = pc then placesGo pc (rows.drop (b + 1)) (many + n) else _) = _
        rw [if_pos h1]
      · rw [decide_eq_false h1]
        refine iteF (sym_at rfl (var_int rfl) R hx ⟨_, _, rfl, rfl, _, rfl, ?_⟩)
        rw [e_ins, in_sym]
        have hc : ([44, 66, 48, 47] : List Nat).contains y = ins y := rfl
        rw [hc]
        refine ifB (fun h2 => ?_) (fun h2 => ?_)
        · refine ⟨_, fun _ _ h => h, sym_at rfl (var_int rfl) R hx ⟨_, rfl, rfl, _, rfl, ?_⟩⟩
          rw [sym_dec, decide_eq_false h1]
          refine iteF ⟨_, rfl, _, _, rfl, rfl, rows.length - (b + 1), by omega, b + 1, many, rfl, by omega, rfl, rfl, ?_⟩
          rw [hd]
          show (if y = pc then _ else if ins y then placesGo pc (rows.drop (b + 1)) many else _) = _
          rw [if_neg h1, if_pos h2]
        · have hd2 : placesGo pc (rows.drop a) 0 = (many, rows.drop b) := by
            rw [hd, drop_cons hx]
            show (if y = pc then _ else if ins y then _ else (many, (y, n) :: rows.drop (b + 1))) = _
            rw [if_neg h1, if_neg (by rw [h2]; decide)]
          exact ⟨_, rfl, _, rfl, by show 2 ≤ sizeLine; omega, k b many (by omega) hd2⟩
    · rw [decide_eq_false (by omega)]
      refine iteF (iteF ?_)
      have hb2 : rows.drop b = [] := List.drop_eq_nil_of_le hge
      have hd2 : placesGo pc (rows.drop a) 0 = (many, rows.drop b) := by rw [hd, hb2]; rfl
      exact ⟨_, rfl, _, rfl, by show 2 ≤ sizeLine; omega, k b many (by omega) hd2⟩
def spWhole (K : PySem.W.Frag) : Sp := fun vs H Q _ => ∃ (p : Addr) (rs : List Addr) (rows : List Rw) (a : Nat), vs = [.ref p, .int (a : Nat)] ∧ RowsAt K H p rs rows ∧ a ≤ rows.length ∧
  ∀ (pl : List Nat) (many nines b : Nat), b ≤ rows.length → wholePart (rows.drop a) = (pl, many, nines, rows.drop b) → ∀ q H', Same H H' → H' q = some (.tup [.str (tx pl), .int (many : Nat), .int (nines : Nat), .int (b : Nat)]) → Q (.ref q) H'
theorem ok_whole_part (F : Fun K "whole_part" "whole_part" s_whole_part f fd) (O : Own mg) (T : Txt K mg tk c kr) (D_places_of : Def P w K mg base 1 "places_of" ["rows", "at", "place"] (spPlaces K)) : FnOk P w K mg base (CXE P w) 2 f fd ["rows", "at"] (spWhole K) := by
  refine okN F sc_whole_part (fun vs H Q E h => ?_) (fun cdv A outer s H vs Q E hr h => ?_)
  · obtain ⟨p, rs, rows, a, rfl, _⟩ := h
    rfl
  · obtain ⟨p, rs, rows, a, rfl, R, ha, k⟩ := h
    have hz : 1000 ≤ sizeLine := by decide
    refine ⟨_, (pss_cons (ps_if (PW.pt (pw_or (pt_cmpR op_ge (pv 1) (pe_callB call_len_seq rfl O.len PySem.boot_len (pa_cons (pv 0) pa_nil)) (nomark _)) (pw_or1 (pt_cmpR op_notin_str (pe_ix ix_tup (pe_ix ix_list (pv 0) (pv 1) (fun _ _ => rfl)) pe_int (fun _ _ => rfl)) (pe_glob (v := V.str "9Z*+-$") rfl T.m_PLACES ⟨_, rfl⟩) (by with_unfolding_all rfl))))) (pss_one (ps_ret (pe_tup (pa_cons pe_str (pa_cons pe_int (pa_cons pe_int (pa_cons (pv 1) pa_nil))))))) pss_nil)
      (pss_cons (ps_set (i := 2) sc_whole_part.nd rfl (Or.inl rfl) (pe_ix ix_tup (pe_ix ix_list (pv 0) (pv 1) (fun _ _ => rfl)) pe_int (fun _ _ => rfl)))
      (pss_cons (ps_asg (D_places_of.pe hr (by decide) rfl passE0 (pa_cons (pv 0) (pa_cons (pv 1) (pa_cons (pv 2) pa_nil)))) (pg_tup rfl (pgs_cons (pg_name (i := 3) sc_whole_part.nd rfl (Or.inl rfl)) (pgs_cons (pg_name (i := 1) sc_whole_part.nd rfl (Or.inl rfl)) pgs_nil))))
      (pss_cons (ps_asg (D_places_of.pe hr (by decide) rfl passE0 (pa_cons (pv 0) (pa_cons (pv 1) (pa_cons pe_str pa_nil)))) (pg_tup rfl (pgs_cons (pg_name (i := 4) sc_whole_part.nd rfl (Or.inl rfl)) (pgs_cons (pg_name (i := 1) sc_whole_part.nd rfl (Or.inl rfl)) pgs_nil))))
      (pss_one (ps_ret (pe_tup (pa_cons (pv 2) (pa_cons (pv 3) (pa_cons (pv 4) (pa_cons (pv 1) pa_nil))))))))))), ?_⟩
    refine ⟨_, rfl, len_rows rfl R ⟨_, _, rfl, rfl, _, rfl, ?_⟩⟩
    have none : wholePart (rows.drop a) = ([], 0, 0, rows.drop a) → ∀ q, H q = none → Q (.ref q) (upd H q (.tup [.str "", .int 0, .int 0, .int (a : Nat)])) := fun e q hq =>
      k [] 0 0 a ha e q _ (Same.new hq) (by rw [upd_same, e_emp]; rfl)
    rcases Nat.lt_or_ge a rows.length with hlt | hge
    · rw [decide_eq_false (by omega)]
      obtain ⟨⟨y, n⟩, hx⟩ := get_lt hlt
      refine iteF (sym_at rfl (var_int rfl) R hx ⟨_, _, rfl, rfl, _, rfl, ?_⟩)
      rw [e_pla, in_sym]
      refine ifB (fun h1 => ?_) (fun h1 => ?_)
      · refine ⟨_, rfl, by show 4 ≤ sizeLine; omega, none ?_⟩
        rw [drop_cons hx]
        show (if ([57, 90, 42, 43, 45, 36] : List Nat).contains y then _ else _) = _
        rw [if_neg (by rw [Bool.not_eq_true'] at h1; rw [h1]; decide)]
      · have h2 : ([57, 90, 42, 43, 45, 36] : List Nat).contains y = true := by
          cases e : ([57, 90, 42, 43, 45, 36] : List Nat).contains y with
          | true => rfl
          | false => rw [e] at h1; cases h1
        refine sym_at rfl (var_int rfl) R hx ?_
        refine ⟨_, rfl, _, rfl, _, rfl, p, rs, rows, a, y, rfl, R, ha, fun b many hb hp1 q hq => ⟨q, _, rfl, SqT.of upd_same, rfl, _, _, rfl, _, _, rfl, rfl, ?_⟩⟩
        have S1 := Same.new (o := .tup [.int (many : Nat), .int (b : Nat)]) hq
        generalize upd H q (.tup [.int (many : Nat), .int (b : Nat)]) = H1 at S1
        refine ⟨_, rfl, _, rfl, p, rs, rows, b, 57, by rw [e_nin]; rfl, R.same S1, hb, fun b2 nines hb2 hp2 q2 hq2 => ⟨q2, _, rfl, SqT.of upd_same, rfl, _, _, rfl, _, _, rfl, rfl, ?_⟩⟩
        have S2 := Same.new (o := .tup [.int (nines : Nat), .int (b2 : Nat)]) hq2
        generalize upd H1 q2 (.tup [.int (nines : Nat), .int (b2 : Nat)]) = H2 at S2
        refine ⟨_, rfl, _, rfl, _, rfl, _, rfl, by show 4 ≤ sizeLine; omega, fun q3 hq3 => ?_⟩
        refine k [y] many nines b2 hb2 ?_ q3 _ ((S1.trans S2).trans (Same.new hq3)) upd_same
        rw [drop_cons hx] at hp1 ⊢
        show (if ([57, 90, 42, 43, 45, 36] : List Nat).contains y then _ else _) = _
        rw [if_pos h2, hp1]
        show ([y], many, (placesGo 57 (rows.drop b) 0).1, (placesGo 57 (rows.drop b) 0).2) = _
        rw [hp2]
    · rw [decide_eq_true (by omega)]
      refine iteT (iteT ⟨_, rfl, by show 4 ≤ sizeLine; omega, none ?_⟩)
      rw [List.drop_eq_nil_of_le hge]
      rfl
def oV : Option Nat → V
  | none => .non
  | some n => .int (n : Nat)
def spBroken (K : PySem.W.Frag) : Sp := fun vs H Q _ => ∃ (p : Addr) (rs : List Addr) (rows : List Rw) (a : Nat) (pl : List Nat), vs = [.ref p, .int (a : Nat), .str (tx pl)] ∧ RowsAt K H p rs rows ∧ a ≤ rows.length ∧
  ∀ (o : Option Nat) (b : Nat), b ≤ rows.length → brokenPart (rows.drop a) pl = (o, rows.drop b) → ∀ q, H q = none → Q (.ref q) (upd H q (.tup [oV o, .int (b : Nat)]))
theorem broken_not {y n : Nat} {r : List Rw} {pl : List Nat} (h : y ≠ 46) : brokenPart ((y, n) :: r) pl = (some 0, (y, n) :: r) := by
  unfold brokenPart
  split
  · rename_i e
    exact absurd (Prod.mk.inj (List.cons.inj e).1).1 h
  · rfl
theorem ok_broken_part (F : Fun K "broken_part" "broken_part" s_broken_part f fd) (O : Own mg) (T : Txt K mg tk c kr) : FnOk P w K mg base (CXE P w) 1 f fd ["rows", "at", "place"] (spBroken K) := by
  refine okN F sc_broken_part (fun vs H Q E h => ?_) (fun cdv A outer s H vs Q E hr h => ?_)
  · obtain ⟨p, rs, rows, a, pl, rfl, _⟩ := h
    rfl
  · obtain ⟨p, rs, rows, a, pl, rfl, R, ha, k⟩ := h
    have hz : 1000 ≤ sizeLine := by decide
    have h2s : 2 ≤ sizeLine := by omega
    refine ⟨_, (pss_cons (ps_if (PW.pt (pw_or (pt_cmpR op_ge (pv 1) (pe_callB call_len_seq rfl O.len PySem.boot_len (pa_cons (pv 0) pa_nil)) (nomark _)) (pw_or1 (pt_cmpR op_ne (pe_ix ix_tup (pe_ix ix_list (pv 0) (pv 1) (fun _ _ => rfl)) pe_int (fun _ _ => rfl)) pe_str (nomark _))))) (pss_one (ps_ret (pe_tup (pa_cons pe_int (pa_cons (pv 1) pa_nil))))) pss_nil)
      (pss_cons (ps_if (PW.pt (pw_or (pt_cmpR op_gt (pe_ix ix_tup (pe_ix ix_list (pv 0) (pv 1) (fun _ _ => rfl)) pe_int (fun _ _ => rfl)) pe_int (nomark _)) (pw_or1 (pt_cmpR op_eq (pe_op op_add (pv 1) pe_int) (pe_callB call_len_seq rfl O.len PySem.boot_len (pa_cons (pv 0) pa_nil)) (nomark _))))) (pss_one (ps_ret (pe_tup (pa_cons pe_non (pa_cons (pv 1) pa_nil))))) pss_nil)
      (pss_cons (ps_asg (pe_ix ix_list (pv 0) (pe_op op_add (pv 1) pe_int) (fun _ _ => rfl)) (pg_tup rfl (pgs_cons (pg_name (i := 3) sc_broken_part.nd rfl (Or.inl rfl)) (pgs_cons (pg_name (i := 4) sc_broken_part.nd rfl (Or.inl rfl)) pgs_nil))))
      (pss_cons (ps_if (PW.pt (pw_and (pt_cmpR op_ne (pv 3) pe_str (nomark _)) (pw_and1 (PW.pt (pw_or (pt_cmpR op_ne (pv 3) (pv 2) (nomark _)) (pw_or1 (pt_cmpR op_in_str (pv 3) (pe_glob (v := V.str "+-$") rfl T.m_FLOATING ⟨_, rfl⟩) (by with_unfolding_all rfl)))))))) (pss_one (ps_ret (pe_tup (pa_cons pe_non (pa_cons (pv 1) pa_nil))))) pss_nil)
      (pss_one (ps_ret (pe_tup (pa_cons (pv 4) (pa_cons (pe_op op_add (pv 1) pe_int) pa_nil))))))))), ?_⟩
    refine ⟨_, rfl, len_rows rfl R ⟨_, _, rfl, rfl, _, rfl, ?_⟩⟩
    rcases Nat.lt_or_ge a rows.length with hlt | hge
    · rw [decide_eq_false (by omega)]
      obtain ⟨⟨y, n⟩, hx⟩ := get_lt hlt
      refine iteF (sym_at rfl (var_int rfl) R hx ⟨rfl, _, rfl, ?_⟩)
      rw [e_dot, sym_dec]
      by_cases h1 : y = 46
      · rw [decide_eq_true h1]
        subst h1
        refine iteF (num_at rfl (var_int rfl) R hx ⟨_, _, rfl, rfl, _, rfl, ?_⟩)
        by_cases h2 : n > 1
        · rw [decide_eq_true (by omega)]
          refine iteT (iteT ⟨_, rfl, h2s, k none a ha ?_⟩)
          rw [drop_cons hx]
          show (if n > 1 ∨ _ then _ else _) = _
          rw [if_pos (.inl h2)]
        · rw [decide_eq_false (by omega)]
          refine iteF ⟨_, rfl, _, _, rfl, rfl, len_rows rfl R ⟨rfl, _, rfl, ?_⟩⟩
          rw [eq_int']
          by_cases h3 : a + 1 = rows.length
          · rw [decide_eq_true (by omega)]
            refine iteT ⟨_, rfl, h2s, k none a ha ?_⟩
            rw [drop_cons hx]
            show (if n > 1 ∨ _ then _ else _) = _
            rw [if_pos (.inr (List.drop_eq_nil_of_le (by omega)))]
          · rw [decide_eq_false (by omega)]
            obtain ⟨⟨y2, n2⟩, hx2⟩ := get_lt (show a + 1 < rows.length by omega)
            refine iteF (row_at (k := a + 1) rfl (fun Q q => ⟨_, rfl, _, _, rfl, rfl, q⟩) R hx2 fun r hr1 => ⟨r, _, rfl, SqT.of hr1, rfl, _, _, rfl, _, _, rfl, rfl, ?_⟩)
            have eb : brokenPart (rows.drop a) pl = if y2 ≠ 57 ∧ ([y2] ≠ pl ∨ [43, 45, 36].contains y2 = true) then (none, rows.drop a) else (some n2, rows.drop (a + 2)) := by
              rw [drop_cons hx]
              show (if n > 1 ∨ rows.drop (a + 1) = [] then _ else _) = _
              rw [if_neg (by rw [drop_cons hx2]; simp; omega), drop_cons hx2]
            refine ⟨_, rfl, rfl, _, rfl, ?_⟩
            rw [e_nin, sym_dec]
            by_cases h4 : y2 = 57
            · rw [decide_eq_true h4]
              refine iteF (iteF ⟨_, rfl, _, rfl, _, _, rfl, rfl, h2s, k (some n2) (a + 2) (by omega) ?_⟩)
              rw [eb, if_neg fun z => z.1 h4]
            · rw [decide_eq_false h4]
              refine iteT ⟨_, rfl, _, rfl, rfl, _, rfl, ?_⟩
              rw [str_dec]
              by_cases h5 : [y2] = pl
              · rw [decide_eq_true h5]
                refine iteF ⟨_, rfl, _, _, rfl, rfl, _, rfl, ?_⟩
                rw [e_flo, in_sym]
                refine ifB (fun h6 => ?_) (fun h6 => ?_)
                · refine ⟨_, rfl, h2s, k none a ha ?_⟩
                  rw [eb, if_pos ⟨h4, .inr h6⟩]
                · refine ⟨_, rfl, _, rfl, _, _, rfl, rfl, h2s, k (some n2) (a + 2) (by omega) ?_⟩
                  rw [eb, if_neg fun z => z.2.elim (fun q => q h5) (fun q => by rw [h6] at q; cases q)]
              · rw [decide_eq_false h5]
                refine iteT (iteT ⟨_, rfl, h2s, k none a ha ?_⟩)
                rw [eb, if_pos ⟨h4, .inl h5⟩]
      · rw [decide_eq_false h1]
        refine iteT ⟨_, rfl, h2s, k (some 0) a ha ?_⟩
        rw [drop_cons hx]
        exact broken_not h1
    · rw [decide_eq_true (by omega)]
      refine iteT (iteT ⟨_, rfl, h2s, k (some 0) a ha ?_⟩)
      rw [List.drop_eq_nil_of_le hge]
      rfl
def spLead (K : PySem.W.Frag) : Sp := fun vs H Q _ => ∃ (p : Addr) (rs : List Addr) (rows : List Rw), vs = [.ref p] ∧ RowsAt K H p rs rows ∧
  ∀ (ld : List Nat) (b : Nat), b ≤ rows.length → ld.length ≤ 2 → leadOf rows = (ld, rows.drop b) → ∀ q H', Same H H' → H' q = some (.tup [.str (tx ld), .int (b : Nat)]) → Q (.ref q) H'
theorem ok_lead_of (F : Fun K "lead_of" "lead_of" s_lead_of f fd) (O : Own mg) (T : Txt K mg tk c kr) (D_floats_at : Def P w K mg base 1 "floats_at" ["rows", "at"] (spFloats K)) : FnOk P w K mg base (CXE P w) 2 f fd ["rows"] (spLead K) := by
  refine okN F sc_lead_of (fun vs H Q E h => ?_) (fun cdv A outer s H vs Q E hr h => ?_)
  · obtain ⟨p, rs, rows, rfl, _⟩ := h
    rfl
  · obtain ⟨p, rs, rows, rfl, R, k⟩ := h
    have hz : 1000 ≤ sizeLine := by decide
    have h2s : 2 ≤ sizeLine := by omega
    refine ⟨_, (pss_cons (ps_set (i := 1) sc_lead_of.nd rfl (Or.inl rfl) pe_str)
      (pss_cons (ps_set (i := 2) sc_lead_of.nd rfl (Or.inl rfl) pe_int)
      (pss_cons (ps_for PassesOwn.never rfl (pi_tup (pe_tup (pa_cons (pe_glob (v := V.str "+-") rfl T.m_SIGNS ⟨_, rfl⟩) (pa_cons pe_str pa_nil)))) (pg_name (i := 3) sc_lead_of.nd rfl (Or.inl rfl)) (pss_one (ps_if (PW.pt (pw_and (pt_cmpR op_lt (pv 2) (pe_callB call_len_seq rfl O.len PySem.boot_len (pa_cons (pv 0) pa_nil)) (nomark _)) (pw_and (pt_cmpR op_in_str (pe_ix ix_tup (pe_ix ix_list (pv 0) (pv 2) (fun _ _ => rfl)) pe_int (fun _ _ => rfl)) (pv 3) (by with_unfolding_all rfl)) (pw_and1 (pt_not (pt_val (D_floats_at.pe hr (by decide) rfl passE0 (pa_cons (pv 0) (pa_cons (pv 2) pa_nil))))))))) (pss_cons (ps_aug (i := 1) sc_lead_of.nd rfl (Or.inl rfl) (pe_ix ix_tup (pe_ix ix_list (pv 0) (pv 2) (fun _ _ => rfl)) pe_int (fun _ _ => rfl)) ip_addS)
      (pss_one (ps_aug (i := 2) sc_lead_of.nd rfl (Or.inl rfl) pe_int ip_add))) pss_nil)))
      (pss_one (ps_ret (pe_tup (pa_cons (pv 1) (pa_cons (pv 2) pa_nil)))))))), ?_⟩
    refine ⟨h2s, fun t ht => ⟨t, rfl, ⟨_, SqT.of upd_same⟩, ?_⟩⟩
    have S1 := Same.new (o := .tup [.str "+-", .str "$"]) ht
    have g1 : upd H t (.tup [.str "+-", .str "$"]) t = some (.tup [.str (tx [43, 45]), .str (tx [36])]) := by rw [upd_same, e_sig, e_dol]
    generalize upd H t (.tup [.str "+-", .str "$"]) = H1 at S1 g1
    have R1 := R.same S1
    refine for_tup (xs := [.str (tx [43, 45]), .str (tx [36])]) (fun i σ H2 => ∃ (ld : List Nat) (b : Nat) (x : Option V), σ = [some (.ref p), some (.str (tx ld)), some (.int (b : Nat)), x] ∧ H2 = H1 ∧ b ≤ rows.length ∧ ld.length ≤ i ∧ leadOf rows = leadGo (([[43, 45], [36]] : List (List Nat)).drop i) (rows.drop b) ld) ⟨[], 0, none, by rw [← e_emp]; rfl, rfl, Nat.zero_le _, Nat.le_refl _, rfl⟩ (fun i σ H2 hi hP => ?_) ?_ ?_
    · obtain ⟨_, _, _, _, rfl, _⟩ := hP
      exact SqT.of g1
    · rintro i x σ H2 hi ⟨ld, b, x3, rfl, rfl, hb, hll, hlo⟩
      have hi2 : i < 2 := (List.getElem?_eq_some_iff.mp hi).1
      obtain ⟨ch, hch, hxc⟩ : ∃ ch, ([[43, 45], [36]] : List (List Nat))[i]? = some ch ∧ x = .str (tx ch) := by
        match i, hi, hi2 with
        | 0, hi, _ => exact ⟨_, rfl, (Option.some.inj hi).symm⟩
        | 1, hi, _ => exact ⟨_, rfl, (Option.some.inj hi).symm⟩
      subst hxc
      rw [drop_cons hch] at hlo
      refine ⟨_, rfl, len_rows rfl R1 ⟨_, _, rfl, rfl, _, rfl, ?_⟩⟩
      rcases Nat.lt_or_ge b rows.length with hlt | hge
      · rw [decide_eq_true (by omega)]
        obtain ⟨⟨y, n⟩, hx⟩ := get_lt hlt
        have el : leadGo (ch :: ([[43, 45], [36]] : List (List Nat)).drop (i + 1)) (rows.drop b) ld = if (ch.contains y && !floatsAt (rows.drop b)) = true then leadGo (([[43, 45], [36]] : List (List Nat)).drop (i + 1)) (rows.drop (b + 1)) (ld ++ [y]) else leadGo (([[43, 45], [36]] : List (List Nat)).drop (i + 1)) (rows.drop b) ld := by
          rw [drop_cons hx]
          rfl
        rw [el] at hlo
        refine iteT (sym_at rfl (var_int rfl) R1 hx ⟨_, rfl, _, _, rfl, rfl, _, rfl, ?_⟩)
        rw [in_sym]
        refine ifB (fun h1 => ?_) (fun h1 => ?_)
        · refine ⟨_, rfl, _, rfl, p, rs, rows, b, rfl, R1, hlt, _, rfl, ?_⟩
          rw [h1, Bool.true_and] at hlo
          refine ifB (fun h2 => ?_) (fun h2 => ?_)
          · refine ⟨_, rfl, sym_at rfl (var_int rfl) R1 hx ⟨_, _, rfl, rfl, by rw [tx_len, tx_len]; simp; omega, ?_⟩⟩
            rw [tx_app]
            refine ⟨_, rfl, _, _, rfl, rfl, ld ++ [y], b + 1, _, rfl, rfl, by omega, by rw [List.length_append]; simp; omega, ?_⟩
            rw [hlo, if_pos h2]
          · refine ⟨ld, b, _, rfl, rfl, hb, by omega, ?_⟩
            rw [hlo, if_neg (by rw [h2]; decide)]
        · rw [h1, Bool.false_and] at hlo
          exact iteF ⟨ld, b, _, rfl, rfl, hb, by omega, by rw [hlo]; rfl⟩
      · rw [decide_eq_false (by omega)]
        refine iteF (iteF ⟨ld, b, _, rfl, rfl, hb, by omega, ?_⟩)
        rw [hlo, List.drop_eq_nil_of_le hge]
        rfl
    · rintro σ H2 ⟨ld, b, x3, rfl, rfl, hb, hll, hlo⟩
      refine ⟨_, rfl, _, rfl, h2s, fun q hq => ?_⟩
      exact k ld b hb hll hlo q _ (S1.trans (Same.new hq)) upd_same
theorem comp_list {K : PySem.W.Frag} {a : Addr} {xs : List V} {NB : List Str} {g : TG} {tt : TT} {te : TE} {Q : VK} {H : Hp} (Pv : Nat → List V → Hp → Prop) (h0 : Pv 0 [] H) (hl : ∀ i vs H, i ≤ xs.length → Pv i vs H → SqL K H a xs ∧ vs.length ≤ i)
    (hs : ∀ i x vs H, xs[i]? = some x → Pv i vs H → g x (List.replicate NB.length none) H fun σ2 H2 => tt σ2 H2 fun b H3 => if b = true then te σ2 H3 fun v H4 => Pv (i + 1) (vs ++ [v]) H4 else Pv (i + 1) vs H3)
    (hd : ∀ vs H, Pv xs.length vs H → ∀ p, H p = none → Q (.ref p) (upd H p (.lst vs))) (hz : xs.length < sizeLine) :
    ∃ W : Nat → Nat → List V → Hp → Prop, (∃ m, W 0 m [] H) ∧ ∀ i m vs H, W i m vs H →
      ((Itl K a).stop i H ∧ ∀ p, H p = none → Q (.ref p) (upd H p (.lst vs))) ∨ ((Itl K a).go i H ∧ vs.length < sizeLine ∧ ∃ N : List V → Hp → Prop, (∀ vs' H', N vs' H' → ∃ m', m' < m ∧ W (i + 1) m' vs' H') ∧
        ∀ x H', (Itl K a).yld i H x H' → g x (List.replicate NB.length none) H' fun σ2 H2 => tt σ2 H2 fun b H3 => if b = true then te σ2 H3 fun v H4 => N (vs ++ [v]) H4 else N vs H3) := by
  refine ⟨fun i m vs H => m = xs.length - i ∧ i ≤ xs.length ∧ Pv i vs H, ⟨xs.length, by simp, Nat.zero_le _, h0⟩, ?_⟩
  rintro i m vs H ⟨rfl, hi, p⟩
  obtain ⟨q, hv⟩ := hl i vs H hi p
  by_cases hlt : i < xs.length
  · refine .inr ⟨⟨xs, xs[i], q, by simp [hlt]⟩, by omega, Pv (i + 1), fun vs' H' p' => ⟨xs.length - (i + 1), by omega, rfl, hlt, p'⟩, fun x H' y => ?_⟩
    obtain ⟨e, y⟩ := y
    subst e
    exact hs i x vs _ (y xs q) p
  · have e : i = xs.length := by omega
    subst e
    exact .inl ⟨⟨xs, q, Nat.le_refl _⟩, hd vs H p⟩
end
end Lw

set_option Elab.async false
set_option linter.all false
set_option maxRecDepth 100000
namespace Lw
open PySem PySem.Spec PyProof.Rows L2 K02 K04
section
variable {P : Program} {w : World} {K : PySem.W.Frag} {mg : Str → Option Value} {base : Heap} {f : Addr} {fd : FuncData} {tk : Nat → Tok} {c kr : Nat → Addr}
theorem Rws.at' {H : Hp} {rs : List Addr} {rows : List Rw} (h : Rws H rs rows) : ∀ {i : Nat} {r : Addr}, rs[i]? = some r → ∃ x, rows[i]? = some x ∧ H r = some (rowO x) := by
  induction h with
  | nil => intro i r e; cases e
  | cons a _ ih =>
    intro i r e
    cases i with
    | zero => exact ⟨_, rfl, by have : _ = r := Option.some.inj e; rw [← this]; exact a⟩
    | succ i => exact ih (i := i) (r := r) e
theorem pg_tupK {X : Cx} {K0 : PySem.W.Frag} {es : List Expr} {k : Nat} {t : TGs} {n : Nat} {pos : Pos} (hK : X.K = K0) (hc : X.calm = true) (h : PGs X es t)
    (hn : (assignEach es X.env).length = n := by rfl) (hst : (assignEach es X.env).findIdx? (·.1) = none := by rfl) : PG X (.Tuple es k pos) (gTup K0 n t) := by
  subst hK
  exact pg_tup hc h hn hst
/-- of each row one thing -/
theorem comp_rows {p : Addr} {rs : List Addr} {rows : List Rw} {te : TE} {NB : List Str} {n : Nat} {H : Hp} {Q : VK} (val : Rw → V) (hNB : NB.length = 3) (hn : n = 2) (R : RowsAt K H p rs rows)
    (hte : ∀ (x : Rw) (Q : VK), Q (val x) H → te [none, some (.str (tx [x.1])), some (.int (x.2 : Nat))] H Q) (hd : ∀ q, H q = none → Q (.ref q) (upd H q (.lst (rows.map val)))) :
    ∃ W : Nat → Nat → List V → Hp → Prop, (∃ m, W 0 m [] H) ∧ ∀ i m vs H, W i m vs H →
      ((Itl K p).stop i H ∧ ∀ p, H p = none → Q (.ref p) (upd H p (.lst vs))) ∨ ((Itl K p).go i H ∧ vs.length < sizeLine ∧ ∃ N : List V → Hp → Prop, (∀ vs' H', N vs' H' → ∃ m', m' < m ∧ W (i + 1) m' vs' H') ∧
        ∀ x H', (Itl K p).yld i H x H' → gTup K n (gCons (gName 1) (gCons (gName 2) gNil)) x (List.replicate NB.length none) H' fun σ2 H2 => tAll σ2 H2 fun b H3 => if b = true then te σ2 H3 fun v H4 => N (vs ++ [v]) H4 else N vs H3) := by
  have hz : 1000 ≤ sizeLine := by decide
  have hl := R.le
  have hlen := R.len
  refine comp_list (xs := rs.map V.ref) (fun i vs H2 => H2 = H ∧ vs = (rows.take i).map val) ⟨rfl, rfl⟩ ?_ ?_ ?_ (by omega)
  · rintro i vs H2 hi ⟨rfl, rfl⟩
    exact ⟨R.sq, by rw [List.length_map, List.length_take]; omega⟩
  · rintro i x vs H2 hx ⟨rfl, rfl⟩
    rw [List.getElem?_map] at hx
    obtain ⟨r, hr, rfl⟩ := Option.map_eq_some_iff.mp hx
    obtain ⟨y, hy, g⟩ := R.rw.at' hr
    subst hn
    rw [hNB]
    refine ⟨r, _, rfl, SqT.of g, rfl, _, _, rfl, _, _, rfl, rfl, ?_⟩
    dsimp only [tAll]
    rw [if_pos rfl]
    refine hte y _ ⟨rfl, ?_⟩
    have hi := (List.getElem?_eq_some_iff.mp hy).1
    rw [List.take_add_one, hy, List.map_append]
    rfl
  · rintro vs H2 ⟨rfl, rfl⟩ q hq
    rw [List.take_of_length_le (by omega)]
    exact hd q hq
theorem cut_from {α : Type} (rs : List Addr) (a : Nat) : cutV (rs.map V.ref) (some (a : Int)) none = (rs.drop a).map V.ref := by
  unfold cutV
  rw [HT.sIx_nat, HT.sIx_none]
  rcases Nat.le_total a (rs.map V.ref).length with h | h
  · rw [Nat.min_eq_left h, List.take_of_length_le (by rw [List.length_drop]; exact Nat.le_refl _), List.map_drop]
  · rw [Nat.min_eq_right h, List.drop_eq_nil_of_le (Nat.le_refl _), List.take_nil, List.drop_eq_nil_of_le (by rw [List.length_map] at h; exact h)]
    rfl
theorem comp_rowsT {rows : List Rw} {tl te : TE} {NB : List Str} {n : Nat} {σ : L2.St} {H : Hp} {Q : VK} (val : Rw → V) (hNB : NB.length = 3) (hn : n = 2)
    (h : ∀ R : VK, (∀ p rs H1, Same H H1 → RowsAt K H1 p rs rows → R (.ref p) H1) → tl σ H R)
    (hte : ∀ (x : Rw) (H : Hp) (Q : VK), Q (val x) H → te [none, some (.str (tx [x.1])), some (.int (x.2 : Nat))] H Q) (hd : ∀ q H1, Same H H1 → H1 q = none → Q (.ref q) (upd H1 q (.lst (rows.map val)))) :
    tComp NB (iList K tl) (gTup K n (gCons (gName 1) (gCons (gName 2) gNil))) tAll te σ H Q :=
  h _ fun p rs H1 S1 R1 => ⟨p, rfl, ⟨_, R1.sq⟩, comp_rows val hNB hn R1 (fun x Q q => hte x H1 Q q) fun q hq => hd q H1 S1 hq⟩
theorem slice_rows {p : Addr} {rs : List Addr} {rows : List Rw} {σ : L2.St} {H : Hp} {i j a : Nat} (RA : RowsAt K H p rs rows) (h1 : σ[i]? = some (some (.ref p))) (h2 : σ[j]? = some (some (.int (a : Nat)))) :
    ∀ R : VK, (∀ p2 rs2 H1, Same H H1 → RowsAt K H1 p2 rs2 (rows.drop a) → R (.ref p2) H1) → tSl (rSlL K) (tVar i) (tPart (tVar j)) tNoPart σ H R := fun R r =>
  ⟨_, h1, _, h2, _, rfl, p, _, rfl, RA.sq, fun p2 hp2 => by
    rw [cut_from (α := Unit)]
    have S2 := Same.new (o := .lst ((rs.drop a).map V.ref)) hp2
    exact r p2 (rs.drop a) _ S2 ⟨SqL.of upd_same, (RA.rw.dr a).keep fun b xs h => S2 _ _ h, by rw [List.length_drop]; have := RA.le; omega⟩⟩
theorem var_rows {p : Addr} {rs : List Addr} {rows : List Rw} {σ : L2.St} {H : Hp} {i : Nat} (RA : RowsAt K H p rs rows) (h1 : σ[i]? = some (some (.ref p))) :
    ∀ R : VK, (∀ p2 rs2 H1, Same H H1 → RowsAt K H1 p2 rs2 rows → R (.ref p2) H1) → tVar i σ H R := fun R r => ⟨_, h1, r p rs H (Same.refl H) RA⟩
theorem eqV_tx (a b : List Nat) : eqV (.str (tx a)) (.str (tx b)) = decide (a = b) := by
  show (tx a == tx b) = _
  by_cases h : a = b
  · subst h; simp
  · rw [decide_eq_false h]
    exact beq_eq_false_iff_ne.mpr fun z => h (tx_inj z)
theorem in_list (ls : List (List Nat)) (s : List Nat) : inV (.str (tx s)) (ls.map fun l => V.str (tx l)) = ls.contains s := by
  unfold inV
  induction ls with
  | nil => rfl
  | cons a r ih =>
    rw [List.map_cons, List.any_cons, ih, eqV_tx, List.contains_cons]
    congr 1
    by_cases h : a = s
    · subst h; simp
    · rw [decide_eq_false h]
      exact (beq_eq_false_iff_ne.mpr fun z => h z.symm).symm
theorem e_forms : ([.str "9", .str "S9", .str "V9", .str "SV9", .str "9V9", .str "S9V9"] : List V) = forms.map fun l => V.str (tx l) := by decide +kernel
theorem e_shown : ([.str "+", .str "-", .str "CR", .str "DB"] : List V) = shownL.map fun l => V.str (tx l) := by decide +kernel
theorem flat_txs (ls : List (List Nat)) : (ls.map fun l => V.str (tx l)).all flatV = true := by
  induction ls with
  | nil => rfl
  | cons a r ih => rw [List.map_cons, List.all_cons, ih]; rfl
def tV : Option (List Nat) → V
  | none => .non
  | some l => .str (tx l)
def spTail (K : PySem.W.Frag) : Sp := fun vs H Q _ => ∃ (p : Addr) (rs : List Addr) (rows : List Rw) (a : Nat), vs = [.ref p, .int (a : Nat)] ∧ RowsAt K H p rs rows ∧ a ≤ rows.length ∧ ∀ H', Same H H' → Q (tV (tailOf (rows.drop a))) H'
theorem map_sym (rows : List Rw) : (rows.map fun x => V.str (tx [x.1])) = ((rows.map (·.1)).map fun c => tx [c]).map V.str := by rw [List.map_map, List.map_map]; rfl
theorem map_num (rows : List Rw) : (rows.map fun x => V.int (x.2 : Nat)) = (rows.map fun x => ((x.2 : Nat) : Int)).map V.int := by rw [List.map_map]; rfl
set_option maxHeartbeats 2000000 in
theorem ok_tail_of (F : Fun K "tail_of" "tail_of" s_tail_of f fd) (O : Own mg) (T : Txt K mg tk c kr) : FnOk P w K mg base (CXE P w) 1 f fd ["rows", "at"] (spTail K) := by
  refine okN F sc_tail_of (fun vs H Q E h => ?_) (fun cdv A outer s H vs Q E hr h => ?_)
  · obtain ⟨p, rs, rows, a, rfl, _⟩ := h
    rfl
  · obtain ⟨p, rs, rows, a, rfl, R, ha, k⟩ := h
    have hz : 1000 ≤ sizeLine := by decide
    have hle := R.le
    refine ⟨_, (pss_cons (ps_if (pt_cmpR op_eq (pv 1) (pe_callB call_len_seq rfl O.len PySem.boot_len (pa_cons (pv 0) pa_nil)) (nomark _)) (pss_one (ps_ret pe_str)) pss_nil)
      (pss_cons (ps_set (i := 2) sc_tail_of.nd rfl (Or.inl rfl) (pe_bm PySem.F.plainAttrs_str PySem.F.slot_str_join PySem.F.type_str_join mt_join pe_str (pa_cons (pe_lcomp (NB := [".0", "symbol", "many"]) rfl ⟨rfl, by decide +kernel, by decide +kernel, by decide +kernel⟩ (pi_list (pe_slice sl_list (pv 0) (po_some (pv 1)) po_none)) (fun _ _ _ => (pg_tupK (K0 := K) (n := 2) rfl rfl (pgs_cons (pg_name (i := 1) (show ([".0", "symbol", "many"] : List Str).Nodup by decide +kernel) rfl (Or.inl rfl) (Or.inr rfl)) (pgs_cons (pg_name (i := 2) (show ([".0", "symbol", "many"] : List Str).Nodup by decide +kernel) rfl (Or.inl rfl) (Or.inr rfl)) pgs_nil)))) (fun _ _ _ => pts_nil) (fun _ _ _ => (pv 1))) pa_nil)))
      (pss_cons (ps_if (PW.pt (pw_or (pt_cmpR op_notIn_seq (pv 2) (pe_glob (v := V.ref (kr 1)) rfl T.m_SHOWN rfl) (by with_unfolding_all rfl)) (pw_or1 (pt_cmpR op_gt (pe_callB (call_maxL rfl) rfl O.max PyProof.Rows.boot_max (pa_cons (pe_lcomp (NB := [".0", "symbol", "many"]) rfl ⟨rfl, by decide +kernel, by decide +kernel, by decide +kernel⟩ (pi_list (pe_slice sl_list (pv 0) (po_some (pv 1)) po_none)) (fun _ _ _ => (pg_tupK (K0 := K) (n := 2) rfl rfl (pgs_cons (pg_name (i := 1) (show ([".0", "symbol", "many"] : List Str).Nodup by decide +kernel) rfl (Or.inl rfl) (Or.inr rfl)) (pgs_cons (pg_name (i := 2) (show ([".0", "symbol", "many"] : List Str).Nodup by decide +kernel) rfl (Or.inl rfl) (Or.inr rfl)) pgs_nil)))) (fun _ _ _ => pts_nil) (fun _ _ _ => (pv 2))) pa_nil)) pe_int (nomark _))))) (pss_one (ps_ret pe_non)) pss_nil)
      (pss_one (ps_ret (pv 2)))))), ?_⟩
    refine ⟨_, rfl, len_rows rfl R ⟨rfl, _, rfl, ?_⟩⟩
    rw [eq_int']
    by_cases h1 : a = rows.length
    · rw [decide_eq_true (by omega)]
      have e : tailOf (rows.drop a) = some [] := by rw [h1, List.drop_length]; rfl
      rw [e] at k
      have := k H (Same.refl H)
      refine iteT ?_
      show Q (.str "") H
      rw [e_emp]
      exact this
    · rw [decide_eq_false (by omega)]
      have hne : rows.drop a ≠ [] := fun z => by
        have := congrArg List.length z
        rw [List.length_drop, List.length_nil] at this
        omega
      have et : tailOf (rows.drop a) = if (!shownL.contains ((rows.drop a).map (·.1)) || (rows.drop a).any (fun x => decide (x.2 > 1))) = true then none else some ((rows.drop a).map (·.1)) := by
        unfold tailOf
        rw [if_neg hne]
      rw [et] at k
      have hdl : (rows.drop a).length ≤ 600 := by rw [List.length_drop]; omega
      refine iteF ⟨rfl, comp_rowsT (fun x => .str (tx [x.1])) rfl rfl (slice_rows R rfl rfl) (fun x H Q q => ⟨_, rfl, q⟩) fun q H2 S2 hq => ?_⟩
      have RR := R.same S2
      have hsl : ∀ {H3 : Hp}, RowsAt K H3 p rs rows → ∀ {σ : L2.St} {i j : Nat}, σ[i]? = some (some (.ref p)) → σ[j]? = some (some (.int (a : Nat))) → ∀ R : VK, (∀ p2 rs2 H1, Same H3 H1 → RowsAt K H1 p2 rs2 (rows.drop a) → R (.ref p2) H1) → tSl (rSlL K) (tVar i) (tPart (tVar j)) tNoPart σ H3 R := fun {_} R3 {_ _ _} h1 h2 => slice_rows R3 h1 h2
      generalize hD : rows.drop a = D at k hne hdl hsl
      rw [map_sym]
      have S3 := S2.trans (Same.new (o := .lst (((D.map (·.1)).map fun c => tx [c]).map V.str)) hq)
      have R3 := RR.same (Same.new (o := .lst (((D.map (·.1)).map fun c => tx [c]).map V.str)) hq)
      refine ⟨"", q, _, rfl, rfl, SqL.of upd_same, join_ok (by rw [List.length_map]; omega), ?_⟩
      rw [join_syms]
      generalize upd H2 q (.lst (((D.map (·.1)).map fun c => tx [c]).map V.str)) = H3 at S3 R3
      refine ⟨_, rfl, kr 1, _, rfl, .inr (T.q_SHOWN _), rfl, by rw [e_shown]; exact flat_txs _, _, rfl, ?_⟩
      rw [e_shown, if_pos rfl, in_list]
      refine ifB (fun h2 => ?_) (fun h2 => ?_)
      · rw [h2, Bool.true_or] at k
        exact k _ S3
      · rw [h2, Bool.false_or] at k
        dsimp only [tTest, tOp, tCB, tCons]
        refine comp_rowsT (fun x => .int (x.2 : Nat)) rfl rfl (hsl R3 rfl rfl) (fun x H Q q => ⟨_, rfl, q⟩) fun q5 H4 S4 hq5 => ?_
        rw [map_num]
        have S5 := (S3.trans S4).trans (Same.new (o := .lst ((D.map fun x => ((x.2 : Nat) : Int)).map V.int)) hq5)
        refine ⟨q5, _, rfl, SqL.of upd_same, by simpa using hne, fun m hm hmx => ?_⟩
        generalize upd H4 q5 (.lst ((D.map fun x => ((x.2 : Nat) : Int)).map V.int)) = H5 at S5
        refine ⟨_, _, rfl, rfl, _, rfl, ?_⟩
        have hany : decide ((1 : Int) < m) = D.any (fun x => decide (x.2 > 1)) := by
          obtain ⟨y, hy, rfl⟩ := List.mem_map.mp hm
          by_cases h3 : y.2 > 1
          · rw [decide_eq_true (by omega), List.any_eq_true.mpr ⟨y, hy, decide_eq_true h3⟩]
          · rw [decide_eq_false (by omega)]
            refine (List.any_eq_false.mpr fun z hz2 => ?_).symm
            have := hmx _ (List.mem_map.mpr ⟨z, hz2, rfl⟩)
            rw [decide_eq_true_eq]
            omega
        rw [hany]
        refine ifB (fun h3 => ?_) (fun h3 => ?_)
        · rw [h3] at k
          exact k _ S5
        · rw [h3] at k
          exact ⟨_, rfl, k _ S5⟩
end
end Lw

set_option Elab.async false
set_option linter.all false
set_option maxRecDepth 100000
namespace Lw
open PySem PySem.Spec PyProof.Rows L2 K02 K04
section
variable {P : Program} {w : World} {K : PySem.W.Frag} {mg : Str → Option Value} {base : Heap} {f : Addr} {fd : FuncData} {tk : Nat → Tok} {c kr : Nat → Addr}
def kindS : Nat → Str
  | 0 => "text"
  | 1 => "letters"
  | 2 => "number"
  | _ => "edited"
def fO (x : Facts) : HO := .tup [.str (kindS x.kind), .bl x.signed, .int (x.before : Nat), .int (x.behind : Nat)]
def FV (o : Option Facts) (v : V) (H : Hp) : Prop := match o with
  | none => v = .non
  | some x => ∃ q, v = .ref q ∧ H q = some (fO x)
def spFacts (K : PySem.W.Frag) (fn : List Rw → Option Facts) : Sp := fun vs H Q _ => ∃ (p : Addr) (rs : List Addr) (rows : List Rw), vs = [.ref p] ∧ RowsAt K H p rs rows ∧ ∀ v H', Same H H' → FV (fn rows) v H' → Q v H'
theorem num_step {rows : List Rw} {i : Nat} {y n : Nat} {s p : Bool} {a b : Nat} (h : rows[i]? = some (y, n)) : numGo (rows.drop i) s p a b = if y = 57 then (if p then numGo (rows.drop (i + 1)) s p a n else numGo (rows.drop (i + 1)) s p n b) else if n > 1 then none else if y = 83 then numGo (rows.drop (i + 1)) true p a b else numGo (rows.drop (i + 1)) s true a b := by
  rw [drop_cons h]
  rfl
set_option maxHeartbeats 2000000 in
theorem ok_number_facts (F : Fun K "number_facts" "number_facts" s_number_facts f fd) (O : Own mg) (T : Txt K mg tk c kr) : FnOk P w K mg base (CXE P w) 1 f fd ["rows"] (spFacts K numberFacts) := by
  refine okN F sc_number_facts (fun vs H Q E h => ?_) (fun cdv A outer s H vs Q E hr h => ?_)
  · obtain ⟨p, rs, rows, rfl, _⟩ := h
    rfl
  · obtain ⟨p, rs, rows, rfl, R, k⟩ := h
    have hz : 1000 ≤ sizeLine := by decide
    have hle := R.le
    refine ⟨_, (pss_cons (ps_if (pt_cmpR op_notIn_seq (pe_bm PySem.F.plainAttrs_str PySem.F.slot_str_join PySem.F.type_str_join mt_join pe_str (pa_cons (pe_lcomp (NB := [".0", "symbol", "many"]) rfl ⟨rfl, by decide +kernel, by decide +kernel, by decide +kernel⟩ (pi_list (pv 0)) (fun _ _ _ => (pg_tupK (K0 := K) (n := 2) rfl rfl (pgs_cons (pg_name (i := 1) (show ([".0", "symbol", "many"] : List Str).Nodup by decide +kernel) rfl (Or.inl rfl) (Or.inr rfl)) (pgs_cons (pg_name (i := 2) (show ([".0", "symbol", "many"] : List Str).Nodup by decide +kernel) rfl (Or.inl rfl) (Or.inr rfl)) pgs_nil)))) (fun _ _ _ => pts_nil) (fun _ _ _ => (pv 1))) pa_nil)) (pe_glob (v := V.ref (kr 0)) rfl T.m_NUMBER_FORMS rfl) (by with_unfolding_all rfl)) (pss_one (ps_ret pe_non)) pss_nil)
      (pss_cons (ps_set (i := 3) sc_number_facts.nd rfl (Or.inl rfl) pe_bl)
      (pss_cons (ps_set (i := 4) sc_number_facts.nd rfl (Or.inl rfl) pe_bl)
      (pss_cons (ps_set (i := 5) sc_number_facts.nd rfl (Or.inl rfl) (pe_lst (pa_cons pe_int (pa_cons pe_int pa_nil))))
      (pss_cons (ps_for PassesOwn.never rfl (pi_list (pv 0)) (pg_tup rfl (pgs_cons (pg_name (i := 1) sc_number_facts.nd rfl (Or.inl rfl)) (pgs_cons (pg_name (i := 2) sc_number_facts.nd rfl (Or.inl rfl)) pgs_nil))) (pss_one (ps_if (pt_cmpR op_eq (pv 1) pe_str (nomark _)) (pss_one (ps_asg (pv 2) (pg_sub (pv 5) (pe_ifExp (pt_truth (pv 4) (fun _ => rfl)) pe_int pe_int) set_list))) (pss_one (ps_if (pt_cmpR op_gt (pv 2) pe_int (nomark _)) (pss_one (ps_ret pe_non)) (pss_one (ps_if (pt_cmpR op_eq (pv 1) pe_str (nomark _)) (pss_one (ps_set (i := 3) sc_number_facts.nd rfl (Or.inl rfl) pe_bl)) (pss_one (ps_set (i := 4) sc_number_facts.nd rfl (Or.inl rfl) pe_bl)))))))))
      (pss_cons (ps_if (pt_cmpR op_gt (pe_callB (call_sum rfl) rfl O.sum L2.boot_sum (pa_cons (pv 5) pa_nil)) (pe_glob (v := V.int 18) rfl T.m_MOST_FIGURES ⟨_, rfl⟩) (nomark _)) (pss_one (ps_ret pe_non)) pss_nil)
      (pss_one (ps_ret (pe_tup (pa_cons pe_str (pa_cons (pv 3) (pa_cons (pe_ix ix_list (pv 5) pe_int (fun _ _ => rfl)) (pa_cons (pe_ix ix_list (pv 5) pe_int (fun _ _ => rfl)) pa_nil))))))))))))), ?_⟩
    have e83 : ("S" : Str) = tx [83] := by decide +kernel
    refine ⟨rfl, comp_rowsT (fun x => .str (tx [x.1])) rfl rfl (var_rows R rfl) (fun x H Q q => ⟨_, rfl, q⟩) fun q H2 S2 hq => ?_⟩
    rw [map_sym]
    have S3 := S2.trans (Same.new (o := .lst (((rows.map (·.1)).map fun c => tx [c]).map V.str)) hq)
    refine ⟨"", q, _, rfl, rfl, SqL.of upd_same, join_ok (by rw [List.length_map]; omega), ?_⟩
    rw [join_syms]
    generalize upd H2 q (.lst (((rows.map (·.1)).map fun c => tx [c]).map V.str)) = H3 at S3
    have R3 := R.same S3
    refine ⟨kr 0, _, rfl, .inr (T.q_FORMS _), rfl, by rw [e_forms]; exact flat_txs _, _, rfl, ?_⟩
    rw [e_forms, if_pos rfl, in_list]
    refine ifB (fun h2 => ?_) (fun h2 => ?_)
    · have hn : numberFacts rows = none := by
        unfold numberFacts
        rw [if_neg (by rw [Bool.not_eq_true'] at h2; rw [h2]; decide)]
      exact k .non H3 S3 (by rw [hn]; rfl)
    have hf : forms.contains (rows.map (·.1)) = true := by
      cases e : forms.contains (rows.map (·.1)) with
      | true => rfl
      | false => rw [e] at h2; cases h2
    have en : numberFacts rows = (match numGo rows false false 0 0 with
        | some (s, a, b) => if a + b > 18 then none else some ⟨2, s, a, b⟩
        | none => none) := by
      unfold numberFacts
      rw [if_pos hf]
      all_goals rfl
    refine ⟨by show 2 ≤ sizeLine; omega, fun fl hfl => ?_⟩
    have S4 := Same.new (o := .lst [.int 0, .int 0]) hfl
    refine ⟨_, rfl, p, rfl, ⟨_, (R3.same S4).sq⟩, ?_⟩
    refine for_list (xs := rs.map V.ref) (fun i σ H5 => ∃ (x1 x2 : Option V) (sg pt : Bool) (a b : Nat), σ = [some (.ref p), x1, x2, some (.bl sg), some (.bl pt), some (.ref fl)] ∧ H5 fl = some (.lst [.int (a : Nat), .int (b : Nat)]) ∧ Same H3 H5 ∧ numGo rows false false 0 0 = numGo (rows.drop i) sg pt a b) ⟨none, none, false, false, 0, 0, rfl, upd_same, S4, rfl⟩ ?_ ?_ ?_
    · rintro i σ H5 hi ⟨x1, x2, sg, pt, a, b, rfl, g5, S5, hg⟩
      exact (R3.same S5).sq
    · rintro i x σ H5 hx ⟨x1, x2, sg, pt, a, b, rfl, g5, S5, hg⟩
      rw [List.getElem?_map] at hx
      obtain ⟨r, hr1, rfl⟩ := Option.map_eq_some_iff.mp hx
      obtain ⟨⟨y, n⟩, hy, g⟩ := (R3.same S5).rw.at' hr1
      rw [num_step hy] at hg
      refine ⟨r, _, rfl, SqT.of g, rfl, _, _, rfl, _, _, rfl, rfl, ?_⟩
      refine ⟨_, rfl, rfl, _, rfl, ?_⟩
      rw [e_nin, sym_dec]
      have keep : ∀ (o : HO), Same H3 (upd H5 fl o) := fun o b u h => by rw [upd_ne (ne_of_none h hfl)]; exact S5 _ _ h
      by_cases h1 : y = 57
      · rw [decide_eq_true h1]
        rw [if_pos h1] at hg
        refine iteT ⟨_, rfl, _, rfl, _, rfl, pt, rfl, ?_⟩
        refine ifB (fun h3 => ?_) (fun h3 => ?_)
        · rw [if_pos h3] at hg
          refine ⟨fl, _, 1, 1, rfl, rfl, g5, rfl, some (.str (tx [y])), some (.int (n : Nat)), sg, pt, a, n, rfl, ?_, keep _, hg⟩
          rw [upd_same]
          rfl
        · rw [if_neg (by rw [h3]; decide)] at hg
          refine ⟨fl, _, 0, 0, rfl, rfl, g5, rfl, some (.str (tx [y])), some (.int (n : Nat)), sg, pt, n, b, rfl, ?_, keep _, hg⟩
          rw [upd_same]
          rfl
      · rw [decide_eq_false h1]
        rw [if_neg h1] at hg
        refine iteF ⟨_, rfl, _, _, rfl, rfl, _, rfl, ?_⟩
        by_cases h3 : n > 1
        · rw [decide_eq_true (by omega)]
          rw [if_pos h3] at hg
          refine iteT (k .non H5 (S3.trans S5) ?_)
          rw [en, hg]
          rfl
        · rw [decide_eq_false (by omega)]
          rw [if_neg h3] at hg
          refine iteF ⟨_, rfl, rfl, _, rfl, ?_⟩
          rw [e83, sym_dec]
          by_cases h4 : y = 83
          · rw [decide_eq_true h4]
            rw [if_pos h4] at hg
            exact iteT ⟨some (.str (tx [y])), some (.int (n : Nat)), true, pt, a, b, rfl, g5, S5, hg⟩
          · rw [decide_eq_false h4]
            rw [if_neg h4] at hg
            exact iteF ⟨some (.str (tx [y])), some (.int (n : Nat)), sg, true, a, b, rfl, g5, S5, hg⟩
    · rintro σ H5 ⟨x1, x2, sg, pt, a, b, rfl, g5, S5, hg⟩
      rw [R.len, List.drop_length] at hg
      rw [hg] at en
      refine ⟨_, rfl, fl, [(a : Int), (b : Int)], rfl, SqL.of g5, _, _, rfl, rfl, _, rfl, ?_⟩
      have es : ([(a : Int), (b : Int)] : List Int).sum = ((a + b : Nat) : Int) := by simp
      rw [es]
      by_cases h1 : a + b > 18
      · rw [decide_eq_true (by omega)]
        refine iteT (k .non H5 (S3.trans S5) ?_)
        rw [en]
        show FV (if a + b > 18 then none else _) _ _
        rw [if_pos h1]
        rfl
      · rw [decide_eq_false (by omega)]
        refine iteF ⟨_, rfl, _, rfl, fl, _, _, _, rfl, rfl, SqL.of g5, rfl, _, rfl, fl, _, _, _, rfl, rfl, SqL.of g5, rfl, by show 4 ≤ sizeLine; omega, fun q6 hq6 => ?_⟩
        refine k _ _ ((S3.trans S5).trans (Same.new hq6)) ?_
        rw [en]
        show FV (if a + b > 18 then none else _) _ _
        rw [if_neg h1]
        exact ⟨q6, rfl, upd_same⟩
theorem val_kinds (y : Nat) : valV kinds2 (Sum.inr (tx [y]) : Key) = if y = 88 then some (.str "text") else if y = 65 then some (.str "letters") else none := by
  have eX : ("X" : Str) = tx [88] := by decide +kernel
  have eA : ("A" : Str) = tx [65] := by decide +kernel
  unfold valV kinds2
  rw [eX, eA]
  by_cases h1 : y = 88
  · subst h1
    rw [if_pos rfl]
    simp
  · rw [if_neg h1]
    have n1 : ¬ ((Sum.inr (tx [88]) : Key) = Sum.inr (tx [y])) := fun z => h1 (List.cons.inj (tx_inj (Sum.inr.inj z))).1.symm
    by_cases h2 : y = 65
    · subst h2
      rw [if_pos rfl]
      simp
    · rw [if_neg h2]
      have n2 : ¬ ((Sum.inr (tx [65]) : Key) = Sum.inr (tx [y])) := fun z => h2 (List.cons.inj (tx_inj (Sum.inr.inj z))).1.symm
      simp [n1, n2]
set_option maxHeartbeats 2000000 in
theorem ok_plain_facts (F : Fun K "plain_facts" "plain_facts" s_plain_facts f fd) (O : Own mg) (T : Txt K mg tk c kr) (KD : KDict P w K (kr 2) kinds2) : FnOk P w K mg base (CXE P w) 1 f fd ["rows"] (spFacts K plainFacts) := by
  refine okN F sc_plain_facts (fun vs H Q E h => ?_) (fun cdv A outer s H vs Q E hr h => ?_)
  · obtain ⟨p, rs, rows, rfl, _⟩ := h
    rfl
  · obtain ⟨p, rs, rows, rfl, R, k⟩ := h
    have hz : 1000 ≤ sizeLine := by decide
    refine ⟨_, (pss_cons (ps_if (pt_cmpR op_ne (pe_callB call_len_seq rfl O.len PySem.boot_len (pa_cons (pv 0) pa_nil)) pe_int (nomark _)) (pss_one (ps_ret pe_non)) pss_nil)
      (pss_cons (ps_asg (pe_ix ix_list (pv 0) pe_int (fun _ _ => rfl)) (pg_tup rfl (pgs_cons (pg_name (i := 1) sc_plain_facts.nd rfl (Or.inl rfl)) (pgs_cons (pg_name (i := 2) sc_plain_facts.nd rfl (Or.inl rfl)) pgs_nil))))
      (pss_cons (ps_if (PW.pt (pw_or (pt_cmp (pc_kdnotin KD (pv 1) (pe_glob (v := V.ref (kr 2)) rfl T.m_PLAIN_KINDS rfl)) (by with_unfolding_all rfl)) (pw_or1 (pt_cmpR op_gt (pv 2) (pe_glob (v := V.int 60) rfl T.m_MOST_SIGNS ⟨_, rfl⟩) (nomark _))))) (pss_one (ps_ret pe_non)) pss_nil)
      (pss_one (ps_ret (pe_tup (pa_cons (pe_kdget KD (pe_glob (v := V.ref (kr 2)) rfl T.m_PLAIN_KINDS rfl) (pv 1) (fun _ _ => rfl)) (pa_cons pe_bl (pa_cons pe_int (pa_cons pe_int pa_nil)))))))))), ?_⟩
    refine ⟨_, rfl, p, _, rfl, .inl R.sq, ?_⟩
    rw [R.len]
    refine ⟨rfl, _, rfl, ?_⟩
    rw [ne_int']
    match rows, R, k with
    | [], R, k => exact iteT (k .non H (Same.refl H) rfl)
    | _ :: _ :: _, R, k =>
      rw [decide_eq_true (by simp; omega)]
      exact iteT (k .non H (Same.refl H) rfl)
    | [(y, n)], R, k =>
      refine iteF (row_at (k := 0) rfl (fun Q q => q) R rfl fun r hr1 => ⟨r, _, rfl, SqT.of hr1, rfl, _, _, rfl, _, _, rfl, rfl, ?_⟩)
      refine ⟨_, rfl, Sum.inr (tx [y]), rfl, rfl, _, rfl, ?_⟩
      have ep : plainFacts [(y, n)] = if (y ≠ 88 ∧ y ≠ 65) ∨ n > 60 then none else some ⟨if y = 88 then 0 else 1, false, 0, 0⟩ := rfl
      rw [val_kinds]
      by_cases h1 : y = 88 ∨ y = 65
      · have h2 : (if y = 88 then some (V.str "text") else if y = 65 then some (.str "letters") else none) = some (.str (kindS (if y = 88 then 0 else 1))) := by
          rcases h1 with rfl | rfl
          · rfl
          · rfl
        rw [h2]
        refine iteF ⟨_, rfl, _, _, rfl, rfl, _, rfl, ?_⟩
        by_cases h3 : n > 60
        · rw [decide_eq_true (by omega)]
          refine iteT (k .non H (Same.refl H) ?_)
          rw [ep, if_pos (.inr h3)]
          rfl
        · rw [decide_eq_false (by omega)]
          refine iteF ⟨_, rfl, Sum.inr (tx [y]), .str (kindS (if y = 88 then 0 else 1)), rfl, rfl, by rw [val_kinds, h2], by show 4 ≤ sizeLine; omega, fun q hq => ?_⟩
          refine k _ _ (Same.new hq) ?_
          rw [ep, if_neg (by omega)]
          exact ⟨q, rfl, upd_same⟩
      · rw [if_neg (by omega), if_neg (by omega)]
        refine iteT (iteT (k .non H (Same.refl H) ?_))
        rw [ep, if_pos (.inl (by omega))]
        rfl
end
end Lw

set_option Elab.async false
set_option linter.all false
set_option maxRecDepth 100000
namespace Lw
open PySem PySem.Spec PyProof.Rows L2 K02 K04
theorem comp_tup {K : PySem.W.Frag} {a : Addr} {xs : List V} {NB : List Str} {g : TG} {tt : TT} {te : TE} {Q : VK} {H : Hp} (Pv : Nat → List V → Hp → Prop) (h0 : Pv 0 [] H) (hl : ∀ i vs H, i ≤ xs.length → Pv i vs H → SqT K H a xs ∧ vs.length ≤ i)
    (hs : ∀ i x vs H, xs[i]? = some x → Pv i vs H → g x (List.replicate NB.length none) H fun σ2 H2 => tt σ2 H2 fun b H3 => if b = true then te σ2 H3 fun v H4 => Pv (i + 1) (vs ++ [v]) H4 else Pv (i + 1) vs H3)
    (hd : ∀ vs H, Pv xs.length vs H → ∀ p, H p = none → Q (.ref p) (upd H p (.lst vs))) (hz : xs.length < sizeLine) :
    ∃ W : Nat → Nat → List V → Hp → Prop, (∃ m, W 0 m [] H) ∧ ∀ i m vs H, W i m vs H →
      ((Itt K a).stop i H ∧ ∀ p, H p = none → Q (.ref p) (upd H p (.lst vs))) ∨ ((Itt K a).go i H ∧ vs.length < sizeLine ∧ ∃ N : List V → Hp → Prop, (∀ vs' H', N vs' H' → ∃ m', m' < m ∧ W (i + 1) m' vs' H') ∧
        ∀ x H', (Itt K a).yld i H x H' → g x (List.replicate NB.length none) H' fun σ2 H2 => tt σ2 H2 fun b H3 => if b = true then te σ2 H3 fun v H4 => N (vs ++ [v]) H4 else N vs H3) := by
  refine ⟨fun i m vs H => m = xs.length - i ∧ i ≤ xs.length ∧ Pv i vs H, ⟨xs.length, by simp, Nat.zero_le _, h0⟩, ?_⟩
  rintro i m vs H ⟨rfl, hi, p⟩
  obtain ⟨q, hv⟩ := hl i vs H hi p
  by_cases hlt : i < xs.length
  · refine .inr ⟨⟨xs, xs[i], q, by simp [hlt]⟩, by omega, Pv (i + 1), fun vs' H' p' => ⟨xs.length - (i + 1), by omega, rfl, hlt, p'⟩, fun x H' y => ?_⟩
    obtain ⟨e, y⟩ := y
    subst e
    exact hs i x vs _ (y xs q) p
  · have e : i = xs.length := by omega
    subst e
    exact .inl ⟨⟨xs, q, Nat.le_refl _⟩, hd vs H p⟩
section
variable {P : Program} {w : World} {K : PySem.W.Frag} {mg : Str → Option Value} {base : Heap} {f : Addr} {fd : FuncData} {tk : Nat → Tok} {c kr : Nat → Addr}
def editedEnd (ld pl : List Nat) (many nines : Nat) (o : Option Nat) (tl : Option (List Nat)) : Option Facts :=
  match pl, o, tl with
  | [place], some behind, some tail =>
    let fl : Bool := [43, 45, 36].contains place
    if fl && decide (many < 2) then none
    else
      let shown := [ld.take 1, [place], tail].filter (shownL.contains ·)
      if shown.length > 1 then none
      else
        let before := many + nines - (if fl then 1 else 0)
        if before + behind > 18 then none else some ⟨3, shown.length == 1, before, behind⟩
  | _, _, _ => none
theorem edited_eq {rows : List Rw} {ld pl : List Nat} {b many nines b2 b3 : Nat} {o : Option Nat} (h1 : leadOf rows = (ld, rows.drop b)) (h2 : wholePart (rows.drop b) = (pl, many, nines, rows.drop b2)) (h3 : brokenPart (rows.drop b2) (if nines = 0 then pl else [57]) = (o, rows.drop b3)) :
    editedFacts rows = editedEnd ld pl many nines o (tailOf (rows.drop b3)) := by
  unfold editedFacts
  simp only [h1, h2, h3]
  rfl
theorem whole_one (r : List Rw) : (wholePart r).1 = [] ∨ ∃ y, (wholePart r).1 = [y] := by
  unfold wholePart
  split
  · split
    · exact .inr ⟨_, rfl⟩
    · exact .inl rfl
  · exact .inl rfl
/-- the parts that show a sign -/
theorem comp_shown {a : Addr} {ls : List (List Nat)} {H : Hp} {Q : VK} (T : Txt K mg tk c kr) (hq : H a = some (.tup (ls.map fun l => V.str (tx l)))) (hl : ls.length ≤ 3)
    (hd : ∀ q, H q = none → Q (.ref q) (upd H q (.lst ((ls.filter (shownL.contains ·)).map fun l => V.str (tx l))))) :
    ∃ W : Nat → Nat → List V → Hp → Prop, (∃ m, W 0 m [] H) ∧ ∀ i m vs H, W i m vs H →
      ((Itt K a).stop i H ∧ ∀ p, H p = none → Q (.ref p) (upd H p (.lst vs))) ∨ ((Itt K a).go i H ∧ vs.length < sizeLine ∧ ∃ N : List V → Hp → Prop, (∀ vs' H', N vs' H' → ∃ m', m' < m ∧ W (i + 1) m' vs' H') ∧
        ∀ x H', (Itt K a).yld i H x H' → gName 1 x (List.replicate 2 none) H' fun σ2 H2 => tTest (tOp (rIn K false) (tVar 1) (tC (.ref (kr 1)))) σ2 H2 fun b H3 => if b = true then tVar 1 σ2 H3 fun v H4 => N (vs ++ [v]) H4 else N vs H3) := by
  have hz : 1000 ≤ sizeLine := by decide
  refine comp_tup (NB := ["a", "b"]) (xs := ls.map fun l => V.str (tx l)) (fun i vs H2 => H2 = H ∧ vs = ((ls.take i).filter (shownL.contains ·)).map fun l => V.str (tx l)) ⟨rfl, rfl⟩ ?_ ?_ ?_ (by rw [List.length_map]; omega)
  · rintro i vs H2 hi ⟨rfl, rfl⟩
    refine ⟨SqT.of hq, ?_⟩
    rw [List.length_map]
    exact Nat.le_trans (List.length_filter_le _ _) (by rw [List.length_take]; omega)
  · rintro i x vs H2 hx ⟨rfl, rfl⟩
    rw [List.getElem?_map] at hx
    obtain ⟨l, hl1, rfl⟩ := Option.map_eq_some_iff.mp hx
    refine ⟨_, rfl, kr 1, _, rfl, .inr (T.q_SHOWN _), rfl, by rw [e_shown]; exact flat_txs _, _, rfl, ?_⟩
    rw [e_shown, if_neg (by decide), in_list]
    have ef : ((ls.take (i + 1)).filter (shownL.contains ·)) = ((ls.take i).filter (shownL.contains ·)) ++ (if shownL.contains l then [l] else []) := by
      rw [List.take_add_one, hl1, List.filter_append]
      by_cases hm : l ∈ shownL <;> simp [hm]
    refine ifB (fun h => ?_) (fun h => ?_)
    · refine ⟨_, rfl, rfl, ?_⟩
      rw [ef, h, List.map_append]
      rfl
    · refine ⟨rfl, ?_⟩
      rw [ef, h]
      simp
  · rintro vs H2 ⟨rfl, rfl⟩ q hq2
    rw [List.length_map, List.take_length]
    exact hd q hq2
theorem comp_shownT {ls : List (List Nat)} {tl : TE} {NB : List Str} {σ : L2.St} {H : Hp} {Q : VK} (T : Txt K mg tk c kr) (hNB : NB.length = 2) (hl : ls.length ≤ 3)
    (h : ∀ R : VK, (∀ p H1, Same H H1 → H1 p = some (.tup (ls.map fun l => V.str (tx l))) → R (.ref p) H1) → tl σ H R)
    (hd : ∀ q H1, Same H H1 → H1 q = none → Q (.ref q) (upd H1 q (.lst ((ls.filter (shownL.contains ·)).map fun l => V.str (tx l))))) :
    tComp NB (iTup K tl) (gName 1) (tTest (tOp (rIn K false) (tVar 1) (tC (.ref (kr 1))))) (tVar 1) σ H Q := by
  refine h _ fun p H1 S1 g1 => ⟨p, rfl, ⟨_, SqT.of g1⟩, ?_⟩
  rw [hNB]
  exact comp_shown T g1 hl fun q hq => hd q H1 S1 hq
theorem slice_one (l : List Nat) : StrLaws.sliceText (tx l) none (some 1) = tx (l.take 1) := by
  cases l with
  | nil => decide +kernel
  | cons a r => exact slice_take (a :: r) (k := 1) (by simp)
def spBody (K : PySem.W.Frag) : Sp := fun vs H Q _ => ∃ (p : Addr) (rs : List Addr) (rows : List Rw) (a : Nat), vs = [.ref p, .int (a : Nat)] ∧ RowsAt K H p rs rows ∧ a ≤ rows.length ∧
  ∀ (pl : List Nat) (many nines b2 b3 : Nat) (o : Option Nat), b3 ≤ rows.length → wholePart (rows.drop a) = (pl, many, nines, rows.drop b2) → brokenPart (rows.drop b2) (if nines = 0 then pl else [57]) = (o, rows.drop b3) → ∀ q H', Same H H' → H' q = some (.tup [.str (tx pl), .int (many : Nat), .int (nines : Nat), oV o, .int (b3 : Nat)]) → Q (.ref q) H'
theorem ok_body_of (F : Fun K "body_of" "body_of" s_body_of f fd) (D_whole_part : Def P w K mg base 2 "whole_part" ["rows", "at"] (spWhole K)) (D_broken_part : Def P w K mg base 1 "broken_part" ["rows", "at", "place"] (spBroken K)) :
    FnOk P w K mg base (CXE P w) 3 f fd ["rows", "at"] (spBody K) := by
  refine okN F sc_body_of (fun vs H Q E h => ?_) (fun cdv A outer s H vs Q E hr h => ?_)
  · obtain ⟨p, rs, rows, a, rfl, _⟩ := h
    rfl
  · obtain ⟨p, rs, rows, b, rfl, R, hb, k⟩ := h
    have hz : 1000 ≤ sizeLine := by decide
    refine ⟨_, (pss_cons (ps_asg (D_whole_part.pe hr (by decide) rfl passE0 (pa_cons (pv 0) (pa_cons (pv 1) pa_nil))) (pg_tup rfl (pgs_cons (pg_name (i := 2) sc_body_of.nd rfl (Or.inl rfl)) (pgs_cons (pg_name (i := 3) sc_body_of.nd rfl (Or.inl rfl)) (pgs_cons (pg_name (i := 4) sc_body_of.nd rfl (Or.inl rfl)) (pgs_cons (pg_name (i := 1) sc_body_of.nd rfl (Or.inl rfl)) pgs_nil))))))
      (pss_cons (ps_asg (D_broken_part.pe hr (by decide) rfl passE0 (pa_cons (pv 0) (pa_cons (pv 1) (pa_cons (pe_ifExp (pt_cmpR op_eq (pv 4) pe_int (nomark _)) (pv 2) pe_str) pa_nil)))) (pg_tup rfl (pgs_cons (pg_name (i := 5) sc_body_of.nd rfl (Or.inl rfl)) (pgs_cons (pg_name (i := 1) sc_body_of.nd rfl (Or.inl rfl)) pgs_nil))))
      (pss_one (ps_ret (pe_tup (pa_cons (pv 2) (pa_cons (pv 3) (pa_cons (pv 4) (pa_cons (pv 5) (pa_cons (pv 1) pa_nil)))))))))), ?_⟩
    refine ⟨_, rfl, _, rfl, p, rs, rows, b, rfl, R, hb, fun pl many nines b2 hb2 h2 q2 H2 S2 g2 => ⟨q2, _, rfl, SqT.of g2, rfl, _, _, rfl, _, _, rfl, _, _, rfl, _, _, rfl, rfl, ?_⟩⟩
    refine ⟨_, rfl, _, rfl, _, rfl, rfl, _, rfl, ?_⟩
    refine ifJoinE (fun x H' => x = .str (tx (if nines = 0 then pl else [57])) ∧ H' = H2) (fun z rest => ?_) (fun z rest => ?_) ?_
    · rw [eq_int'] at z
      have hn : nines = 0 := by have := of_decide_eq_true z; omega
      rw [if_pos hn] at rest
      exact ⟨_, rfl, rest _ _ ⟨rfl, rfl⟩⟩
    · rw [eq_int'] at z
      have hn : nines ≠ 0 := by have := of_decide_eq_false z; omega
      rw [if_neg hn] at rest
      exact rest _ _ ⟨by rw [e_nin], rfl⟩
    rintro x H' ⟨rfl, rfl⟩
    refine ⟨p, rs, rows, b2, _, rfl, R.same S2, hb2, fun o b3 hb3 h3 q3 hq3 => ⟨q3, _, rfl, SqT.of upd_same, rfl, _, _, rfl, _, _, rfl, rfl, ?_⟩⟩
    have S3 := S2.trans (Same.new (o := .tup [oV o, .int (b3 : Nat)]) hq3)
    generalize upd H' q3 (.tup [oV o, .int (b3 : Nat)]) = H3 at S3
    refine ⟨_, rfl, _, rfl, _, rfl, _, rfl, _, rfl, by show 5 ≤ sizeLine; omega, fun q4 hq4 => ?_⟩
    exact k pl many nines b2 b3 o hb3 h2 h3 q4 _ (S3.trans (Same.new hq4)) upd_same
set_option maxHeartbeats 4000000 in
theorem ok_edited_facts (F : Fun K "edited_facts" "edited_facts" s_edited_facts f fd) (O : Own mg) (T : Txt K mg tk c kr) (D_lead_of : Def P w K mg base 2 "lead_of" ["rows"] (spLead K)) (D_body_of : Def P w K mg base 3 "body_of" ["rows", "at"] (spBody K)) (D_tail_of : Def P w K mg base 1 "tail_of" ["rows", "at"] (spTail K)) :
    FnOk P w K mg base (CXE P w) 4 f fd ["rows"] (spFacts K editedFacts) := by
  refine okN F sc_edited_facts (fun vs H Q E h => ?_) (fun cdv A outer s H vs Q E hr h => ?_)
  · obtain ⟨p, rs, rows, rfl, _⟩ := h
    rfl
  · obtain ⟨p, rs, rows, rfl, R, k⟩ := h
    have hz : 1000 ≤ sizeLine := by decide
    refine ⟨_, (pss_cons (ps_asg (D_lead_of.pe hr (by decide) rfl passE0 (pa_cons (pv 0) pa_nil)) (pg_tup rfl (pgs_cons (pg_name (i := 1) sc_edited_facts.nd rfl (Or.inl rfl)) (pgs_cons (pg_name (i := 2) sc_edited_facts.nd rfl (Or.inl rfl)) pgs_nil))))
      (pss_cons (ps_asg (D_body_of.pe hr (by decide) rfl passE0 (pa_cons (pv 0) (pa_cons (pv 2) pa_nil))) (pg_tup rfl (pgs_cons (pg_name (i := 3) sc_edited_facts.nd rfl (Or.inl rfl)) (pgs_cons (pg_name (i := 4) sc_edited_facts.nd rfl (Or.inl rfl)) (pgs_cons (pg_name (i := 5) sc_edited_facts.nd rfl (Or.inl rfl)) (pgs_cons (pg_name (i := 6) sc_edited_facts.nd rfl (Or.inl rfl)) (pgs_cons (pg_name (i := 7) sc_edited_facts.nd rfl (Or.inl rfl)) pgs_nil)))))))
      (pss_cons (ps_set (i := 8) sc_edited_facts.nd rfl (Or.inl rfl) (D_tail_of.pe hr (by decide) rfl passE0 (pa_cons (pv 0) (pa_cons (pv 7) pa_nil))))
      (pss_cons (ps_if (PW.pt (pw_or (pt_cmpR op_eq (pv 3) pe_str (nomark _)) (pw_or (pt_cmp (pc_isN (pv 6))) (pw_or1 (pt_cmp (pc_isN (pv 8))))))) (pss_one (ps_ret pe_non)) pss_nil)
      (pss_cons (ps_set (i := 9) sc_edited_facts.nd rfl (Or.inl rfl) (pe_cmpR op_in_str (pv 3) (pe_glob (v := V.str "+-$") rfl T.m_FLOATING ⟨_, rfl⟩) (by with_unfolding_all rfl)))
      (pss_cons (ps_if (PW.pt (pw_and (pt_truth (pv 9) (fun _ => rfl)) (pw_and1 (pt_cmpR op_lt (pv 4) pe_int (nomark _))))) (pss_one (ps_ret pe_non)) pss_nil)
      (pss_cons (ps_lcomp (NB := [".0", "part"]) (iy := 10) rfl ⟨rfl, by decide +kernel, by decide +kernel, by decide +kernel⟩ (pi_tup (pe_tup (pa_cons (pe_slice sl_str (pv 1) po_none (po_some pe_int)) (pa_cons (pv 3) (pa_cons (pv 8) pa_nil))))) (fun _ _ _ => (pg_name (i := 1) (show ([".0", "part"] : List Str).Nodup by decide +kernel) rfl (Or.inl rfl))) (fun _ _ _ => (pts_one (pt_cmpR (op_in_seqK (K0 := K) rfl) (pv 1) (pe_glob (v := V.ref (kr 1)) rfl T.m_SHOWN rfl) (by with_unfolding_all rfl)))) (fun _ _ _ => (pv 1)) sc_edited_facts.nd rfl (Or.inl rfl) rfl)
      (pss_cons (ps_if (pt_cmpR op_gt (pe_callB call_len_seq rfl O.len PySem.boot_len (pa_cons (pv 10) pa_nil)) pe_int (nomark _)) (pss_one (ps_ret pe_non)) pss_nil)
      (pss_cons (ps_set (i := 11) sc_edited_facts.nd rfl (Or.inl rfl) (pe_op op_sub (pe_op op_add (pv 4) (pv 5)) (pe_ifExp (pt_truth (pv 9) (fun _ => rfl)) pe_int pe_int)))
      (pss_cons (ps_if (pt_cmpR op_gt (pe_op op_add (pv 11) (pv 6)) (pe_glob (v := V.int 18) rfl T.m_MOST_FIGURES ⟨_, rfl⟩) (nomark _)) (pss_one (ps_ret pe_non)) pss_nil)
      (pss_one (ps_ret (pe_tup (pa_cons pe_str (pa_cons (pe_cmpR op_eq (pe_callB call_len_seq rfl O.len PySem.boot_len (pa_cons (pv 10) pa_nil)) pe_int (nomark _)) (pa_cons (pv 11) (pa_cons (pv 6) pa_nil))))))))))))))))), ?_⟩
    refine ⟨_, rfl, p, rs, rows, rfl, R, fun ld b hb hll h1 q1 H1 S1 g1 => ⟨q1, _, rfl, SqT.of g1, rfl, _, _, rfl, _, _, rfl, rfl, ?_⟩⟩
    refine ⟨_, rfl, _, rfl, p, rs, rows, b, rfl, R.same S1, hb, fun pl many nines b2 b3 o hb3 h2 h3 q2 H3 S2 g2 => ⟨q2, _, rfl, SqT.of g2, rfl, _, _, rfl, _, _, rfl, _, _, rfl, _, _, rfl, _, _, rfl, rfl, ?_⟩⟩
    have S3 := S1.trans S2
    clear g1 g2 S1 S2
    have ee := edited_eq h1 h2 h3
    have hone := whole_one (rows.drop b)
    rw [h2] at hone
    refine ⟨_, rfl, _, rfl, p, rs, rows, b3, rfl, R.same S3, hb3, fun H4 S4 => ?_⟩
    have S14 := S3.trans S4
    generalize tailOf (rows.drop b3) = tl at ee
    rw [ee] at k
    clear ee h1 h2 h3 S3 S4
    refine ⟨_, rfl, rfl, _, rfl, ?_⟩
    rw [e_emp, str_dec]
    rcases hone with hp | ⟨place, hp⟩
    · have hp2 : pl = [] := hp
      subst hp2
      rw [decide_eq_true rfl]
      exact iteT (iteT (k .non H4 S14 rfl))
    have hp2 : pl = [place] := hp
    subst hp2
    rw [decide_eq_false (by simp)]
    refine iteF ⟨_, rfl, _, rfl, ?_⟩
    cases o with
    | none => exact iteT (iteT (k .non H4 S14 rfl))
    | some behind =>
    refine iteF ⟨_, rfl, _, rfl, ?_⟩
    cases tl with
    | none => exact iteT (k .non H4 S14 rfl)
    | some tail =>
    refine iteF ⟨_, rfl, _, _, rfl, rfl, ?_⟩
    rw [e_flo, in_sym]
    generalize hfl : ([43, 45, 36] : List Nat).contains place = fl
    have ek : editedEnd ld [place] many nines (some behind) (some tail) = if (fl && decide (many < 2)) = true then none else if ([ld.take 1, [place], tail].filter (shownL.contains ·)).length > 1 then none else if many + nines - (if fl = true then 1 else 0) + behind > 18 then none else some ⟨3, ([ld.take 1, [place], tail].filter (shownL.contains ·)).length == 1, many + nines - (if fl = true then 1 else 0), behind⟩ := by
      rw [← hfl]
      rfl
    rw [ek] at k
    clear ek
    dsimp only
    refine seq_join (fun σ' H' => σ' = [some (.ref p), some (.str (tx ld)), some (.int (b : Nat)), some (.str (tx [place])), some (.int (many : Nat)), some (.int (nines : Nat)), some (.int (behind : Nat)), some (.int (b3 : Nat)), some (.str (tx tail)), some (.bl fl), none, none] ∧ H' = H4 ∧ ¬ (fl && decide (many < 2)) = true) ?_ (fun rest => ?_)
    · rintro σ' H' ⟨rfl, rfl, hfm⟩
      rw [if_neg hfm] at k
      have hmm : fl = true → 2 ≤ many := fun z => by
        rcases Nat.lt_or_ge many 2 with q | q
        · exact absurd (by rw [z, decide_eq_true q]; rfl) hfm
        · exact q
      dsimp only [tSeq, tAsg]
      refine comp_shownT (ls := [ld.take 1, [place], tail]) T rfl (by simp) (fun R r => ⟨_, rfl, _, rfl, tx ld, rfl, by rw [tx_len]; omega, _, rfl, _, rfl, by show 3 ≤ sizeLine; omega, fun p5 hp5 => r p5 _ (Same.new hp5) (by rw [upd_same, slice_one]; rfl)⟩) fun q5 H5 S5 hq5 => ?_
      have S6 := (S14.trans S5).trans (Same.new (o := .lst (([ld.take 1, [place], tail].filter (shownL.contains ·)).map fun l => V.str (tx l))) hq5)
      have g6 : upd H5 q5 (.lst (([ld.take 1, [place], tail].filter (shownL.contains ·)).map fun l => V.str (tx l))) q5 = some (.lst (([ld.take 1, [place], tail].filter (shownL.contains ·)).map fun l => V.str (tx l))) := upd_same
      generalize upd H5 q5 (.lst (([ld.take 1, [place], tail].filter (shownL.contains ·)).map fun l => V.str (tx l))) = H6 at S6 g6
      generalize [ld.take 1, [place], tail].filter (shownL.contains ·) = sh at g6 k
      refine ⟨_, rfl, q5, _, rfl, .inl (SqL.of g6), _, _, rfl, rfl, _, rfl, ?_⟩
      rw [List.length_map]
      by_cases h7 : sh.length > 1
      · rw [decide_eq_true (by omega)]
        rw [if_pos h7] at k
        exact iteT (k .non H6 S6 rfl)
      · rw [decide_eq_false (by omega)]
        rw [if_neg h7] at k
        refine iteF ⟨_, rfl, _, rfl, _, _, rfl, rfl, _, rfl, fl, rfl, ?_⟩
        have hbf : ((many : Nat) : Int) + (nines : Nat) - (if fl = true then 1 else 0) = ((many + nines - (if fl = true then 1 else 0) : Nat) : Int) := by
          cases fl with
          | true => have := hmm rfl; simp; omega
          | false => simp
        refine ifJoinE (fun x H' => x = .int (if fl = true then 1 else 0) ∧ H' = H6) (fun z rest => rest _ _ ⟨by rw [if_pos z], rfl⟩) (fun z rest => rest _ _ ⟨by rw [if_neg (by rw [z]; decide)], rfl⟩) ?_
        rintro x H7 ⟨rfl, rfl⟩
        refine ⟨_, _, rfl, rfl, ?_⟩
        dsimp only [gName]
        rw [hbf]
        generalize many + nines - (if fl = true then 1 else 0) = before at k
        refine ⟨_, rfl, _, rfl, _, _, rfl, rfl, _, _, rfl, rfl, _, rfl, ?_⟩
        by_cases h8 : before + behind > 18
        · rw [decide_eq_true (by omega)]
          rw [if_pos h8] at k
          exact iteT (k .non H7 S6 rfl)
        · rw [decide_eq_false (by omega)]
          rw [if_neg h8] at k
          refine iteF ⟨_, rfl, q5, _, rfl, .inl (SqL.of g6), rfl, _, rfl, _, rfl, by show 4 ≤ sizeLine; omega, fun q9 hq9 => ?_⟩
          refine k _ _ (S6.trans (Same.new hq9)) ⟨q9, rfl, ?_⟩
          rw [upd_same, List.length_map, eq_int']
          have e9 : decide ((sh.length : Int) = 1) = (sh.length == 1) := by
            by_cases z : sh.length = 1
            · rw [z]; rfl
            · rw [decide_eq_false (by omega)]; exact (beq_eq_false_iff_ne.mpr z).symm
          rw [e9]
          rfl
    · refine ⟨_, rfl, fl, rfl, ?_⟩
      cases fl with
      | false =>
        exact iteF (iteF (rest _ _ ⟨rfl, rfl, by simp⟩))
      | true =>
        refine iteT ⟨_, rfl, _, _, rfl, rfl, _, rfl, ?_⟩
        by_cases h6 : many < 2
        · rw [decide_eq_true (by omega)]
          refine iteT (k .non H4 S14 ?_)
          rw [decide_eq_true h6]
          rfl
        · rw [decide_eq_false (by omega)]
          exact iteF (rest _ _ ⟨rfl, rfl, by rw [decide_eq_false h6]; decide⟩)
end
end Lw

set_option Elab.async false
set_option linter.all false
set_option maxRecDepth 100000
namespace Lw
open PySem PySem.Spec PyProof.Rows L2 K02 K04
section
variable {P : Program} {w : World} {K : PySem.W.Frag} {mg : Str → Option Value} {base : Heap} {f : Addr} {fd : FuncData} {tk : Nat → Tok} {c kr : Nat → Addr}
theorem FV.isN {o : Option Facts} {v : V} {H : Hp} (h : FV o v H) : decide (v = .non) = !o.isSome := by
  cases o with
  | none => rw [show v = .non from h]; rfl
  | some x => obtain ⟨q, h1, h2⟩ := h; rw [h1]; rfl
set_option maxHeartbeats 1000000 in
theorem ok_facts_of (F : Fun K "facts_of" "facts_of" s_facts_of f fd) (D_number_facts : Def P w K mg base 1 "number_facts" ["rows"] (spFacts K numberFacts)) (D_plain_facts : Def P w K mg base 1 "plain_facts" ["rows"] (spFacts K plainFacts)) (D_edited_facts : Def P w K mg base 4 "edited_facts" ["rows"] (spFacts K editedFacts)) :
    FnOk P w K mg base (CXE P w) 5 f fd ["rows"] (spFacts K factsOf) := by
  refine okN F sc_facts_of (fun vs H Q E h => ?_) (fun cdv A outer s H vs Q E hr h => ?_)
  · obtain ⟨p, rs, rows, rfl, _⟩ := h
    rfl
  · obtain ⟨p, rs, rows, rfl, R, k⟩ := h
    refine ⟨_, (pss_cons (ps_set (i := 1) sc_facts_of.nd rfl (Or.inl rfl) (D_number_facts.pe hr (by decide) rfl passE0 (pa_cons (pv 0) pa_nil)))
      (pss_cons (ps_if (pt_cmp (pc_isN (pv 1))) (pss_one (ps_set (i := 1) sc_facts_of.nd rfl (Or.inl rfl) (D_plain_facts.pe hr (by decide) rfl passE0 (pa_cons (pv 0) pa_nil)))) pss_nil)
      (pss_cons (ps_if (pt_cmp (pc_isN (pv 1))) (pss_one (ps_set (i := 1) sc_facts_of.nd rfl (Or.inl rfl) (D_edited_facts.pe hr (by decide) rfl passE0 (pa_cons (pv 0) pa_nil)))) pss_nil)
      (pss_one (ps_ret (pv 1)))))), ?_⟩
    refine ⟨_, rfl, p, rs, rows, rfl, R, fun v1 H1 S1 f1 => ?_⟩
    refine ⟨_, rfl, _, rfl, ?_⟩
    rw [f1.isN]
    cases e1 : numberFacts rows with
    | some x =>
      rw [e1] at f1
      have ef : factsOf rows = some x := by unfold factsOf; rw [e1]
      refine iteF ⟨_, rfl, _, rfl, ?_⟩
      rw [f1.isN]
      refine iteF ⟨_, rfl, k v1 H1 S1 ?_⟩
      rw [ef]
      exact f1
    | none =>
      refine iteT ⟨_, rfl, p, rs, rows, rfl, R.same S1, fun v2 H2 S2 f2 => ?_⟩
      refine ⟨_, rfl, _, rfl, ?_⟩
      rw [f2.isN]
      cases e2 : plainFacts rows with
      | some x =>
        rw [e2] at f2
        have ef : factsOf rows = some x := by unfold factsOf; rw [e1, e2]
        refine iteF ⟨_, rfl, k v2 H2 (S1.trans S2) ?_⟩
        rw [ef]
        exact f2
      | none =>
        have ef : factsOf rows = editedFacts rows := by unfold factsOf; rw [e1, e2]
        refine iteT ⟨_, rfl, p, rs, rows, rfl, (R.same S1).same S2, fun v3 H3 S3 f3 => ⟨_, rfl, k v3 H3 ((S1.trans S2).trans S3) ?_⟩⟩
        rw [ef]
        exact f3
def spIsPic (K : PySem.W.Frag) : Sp := fun vs H Q _ => ∃ (v : V) (b : Bool), vs = [v] ∧ ((∃ l, v = .str (tx l) ∧ l.length ≤ 500 ∧ b = (picture l).isSome) ∨ (tupV v H ∧ b = false)) ∧ ∀ H', Same H H' → Q (.bl b) H'
theorem facts_nil : factsOf [] = none := by decide
theorem ok_is_picture (F : Fun K "is_picture" "is_picture" s_is_picture f fd) (D_rows_of : Def P w K mg base 4 "rows_of" ["thing"] (spRows K)) (D_facts_of : Def P w K mg base 5 "facts_of" ["rows"] (spFacts K factsOf)) :
    FnOk P w K mg base (CXE P w) 6 f fd ["thing"] (spIsPic K) := by
  refine okN F sc_is_picture (fun vs H Q E h => ?_) (fun cdv A outer s H vs Q E hr h => ?_)
  · obtain ⟨v, b, rfl, _⟩ := h
    rfl
  · obtain ⟨v, b, rfl, hv, k⟩ := h
    refine ⟨_, (pss_one (ps_ret (pe_cmp (pc_notN (D_facts_of.pe hr (by decide) rfl passE0 (pa_cons (D_rows_of.pe hr (by decide) rfl passE0 (pa_cons (pv 0) pa_nil)) pa_nil)))))), ?_⟩
    obtain ⟨rows, hr1, hb⟩ : ∃ rows, ((∃ l, v = .str (tx l) ∧ l.length ≤ 500 ∧ rows = rowsOf l) ∨ (tupV v H ∧ rows = [])) ∧ b = (factsOf rows).isSome := by
      rcases hv with ⟨l, rfl, hl, rfl⟩ | ⟨hv, rfl⟩
      · exact ⟨_, .inl ⟨l, rfl, hl, rfl⟩, rfl⟩
      · exact ⟨[], .inr ⟨hv, rfl⟩, by rw [facts_nil]; rfl⟩
    refine ⟨_, rfl, v, rows, rfl, hr1, fun p rs H1 S1 R1 => ⟨p, rs, rows, rfl, R1, fun v2 H2 S2 f2 => ?_⟩⟩
    show Q (.bl (!decide (v2 = .non))) H2
    rw [f2.isN, Bool.not_not, ← hb]
    exact k H2 (S1.trans S2)
/-- understood, or refused -/
def spUnder (K : PySem.W.Frag) (c : Nat → Addr) : Sp := fun vs H Q E => ∃ l : List Nat, vs = [.str (tx l)] ∧ l.length ≤ 500 ∧ (picture l = none → ∀ H', Same H H' → E (.ref (c 1)) none H') ∧
  (∀ x, picture l = some x → ∀ q p rs r H', Same H H' → H' q = some (.tup [.ref p, .ref r]) → H' r = some (fO x) → RowsAt K H' p rs (rowsOf l) → Q (.ref q) H')
theorem ok_understood (F : Fun K "understood" "understood" s_understood f fd) (T : Txt K mg tk c kr) (D_rows_of : Def P w K mg base 4 "rows_of" ["thing"] (spRows K)) (D_facts_of : Def P w K mg base 5 "facts_of" ["rows"] (spFacts K factsOf)) :
    FnOk P w K mg base (CXE P w) 6 f fd ["picture"] (spUnder K c) := by
  refine okE F sc_understood (fun vs H Q E h => ?_) (fun cdv A outer s H vs Q E hr h => ?_)
  · obtain ⟨l, rfl, _⟩ := h
    rfl
  · obtain ⟨l, rfl, hl, k1, k2⟩ := h
    have hz : 1000 ≤ sizeLine := by decide
    have fr := fram_of (P := P) (w := w) (K := K) (mg := mg) (base := base) (N := ["picture", "rows", "facts"]) (qual := "understood") (scope := defScope s_understood) (f := f) (cd := cdv) (A := A) (outer := outer) (s := s) (H := H) (E := E)
    have ht := takes_gen fr
    have hx := passes_gen fr
    refine ⟨_, (pss_cons (ps_set (i := 1) sc_understood.nd rfl (Or.inl rfl) (D_rows_of.pe hr (by decide) rfl hx (pa_cons (pv 0) pa_nil)))
      (pss_cons (ps_set (i := 2) sc_understood.nd rfl (Or.inl rfl) (D_facts_of.pe hr (by decide) rfl hx (pa_cons (pv 1) pa_nil)))
      (pss_cons (ps_if (pt_cmp (pc_isN (pv 2))) (pss_one (ps_raise ht rfl rfl T.m_NoPicture T.e_NoPicture (pa_cons pe_str pa_nil))) pss_nil)
      (pss_one (ps_ret (pe_tup (pa_cons (pv 1) (pa_cons (pv 2) pa_nil)))))))), ?_⟩
    refine ⟨_, rfl, _, rowsOf l, rfl, .inl ⟨l, rfl, hl, rfl⟩, fun p rs H1 S1 R1 => ⟨_, rfl, p, rs, rowsOf l, rfl, R1, fun v2 H2 S2 f2 => ?_⟩⟩
    refine ⟨_, rfl, _, rfl, ?_⟩
    rw [f2.isN]
    cases e : factsOf (rowsOf l) with
    | none => exact iteT ⟨by show 1 ≤ sizeLine; omega, k1 e _ (S1.trans S2)⟩
    | some x =>
      rw [e] at f2
      obtain ⟨r, rfl, g⟩ := f2
      refine iteF ⟨_, rfl, _, rfl, by show 2 ≤ sizeLine; omega, fun q hq => ?_⟩
      have S3 := Same.new (o := .tup [.ref p, .ref r]) hq
      exact k2 x e q p rs r _ ((S1.trans S2).trans S3) upd_same (S3 _ _ g) ((R1.same S2).same S3)
end
end Lw

set_option Elab.async false
set_option linter.all false
set_option maxRecDepth 100000
/-! drawn pictures: their rows, written short or out, and their facts -/
namespace K04
open PySem PySem.NumText K02
theorem tm_le (t : List Nat) : (timesAt t).2.length ≤ t.length := by
  unfold timesAt
  split
  · split
    · show (List.drop _ _).length ≤ _
      rw [List.length_drop, List.length_cons]
      omega
    · exact Nat.le_refl _
  · exact Nat.le_refl _
theorem tm_no {t : List Nat} (h : t.head? ≠ some 40) : timesAt t = (1, t) := by
  unfold timesAt
  split
  · exact absurd rfl h
  · rfl
theorem go_fuel : ∀ (k k' : Nat) (l : List Nat) (rows : List Rw), l.length ≤ k → l.length ≤ k' → rowsGo k l rows = rowsGo k' l rows := by
  intro k
  induction k with
  | zero =>
    intro k' l rows h h'
    cases l with
    | nil => cases k' <;> rfl
    | cons a r => simp at h
  | succ k ih =>
    intro k' l rows h h'
    cases l with
    | nil => cases k' <;> rfl
    | cons c t =>
      cases k' with
      | zero => simp at h'
      | succ k' =>
        have := tm_le t
        rw [List.length_cons] at h h'
        exact ih k' _ _ (by omega) (by omega)
def run (l : List Nat) (rows : List Rw) : List Rw := rowsGo l.length l rows
theorem run_nil (rows : List Rw) : run [] rows = rows := rfl
theorem run_cons (c : Nat) (t : List Nat) (rows : List Rw) : run (c :: t) rows = run (timesAt t).2 (addRow rows c (timesAt t).1) := by
  show rowsGo t.length (timesAt t).2 (addRow rows c (timesAt t).1) = _
  exact go_fuel _ _ _ _ (tm_le t) (Nat.le_refl _)
theorem run_plain {c : Nat} {t : List Nat} (rows : List Rw) (h : t.head? ≠ some 40) : run (c :: t) rows = run t (addRow rows c 1) := by
  rw [run_cons, tm_no h]
def rle (rows : List Rw) (l : List Nat) : List Rw := l.foldl (fun r c => addRow r c 1) rows
theorem rle_app (rows : List Rw) (a b : List Nat) : rle rows (a ++ b) = rle (rle rows a) b := List.foldl_append
theorem run_rep {c : Nat} {t : List Nat} (hc : c ≠ 40) (h : t.head? ≠ some 40) : ∀ (m : Nat) (rows : List Rw), run (List.replicate m c ++ t) rows = run t (rle rows (List.replicate m c)) := by
  intro m
  induction m with
  | zero => intro rows; rfl
  | succ m ih =>
    intro rows
    rw [List.replicate_succ, List.cons_append, run_plain, ih]
    · rfl
    · cases m with
      | zero => exact h
      | succ m => rw [List.replicate_succ, List.cons_append, List.head?_cons]; exact fun z => hc (Option.some.inj z)
theorem last_cases (rows : List Rw) : rows = [] ∨ ∃ r c m, rows = r ++ [(c, m)] := by
  rcases List.eq_nil_or_concat rows with h | ⟨r, x, h⟩
  · exact .inl h
  · exact .inr ⟨r, x.1, x.2, by rw [h, List.concat_eq_append]⟩
theorem ad_nil (c n : Nat) : addRow [] c n = [(c, n)] := rfl
theorem ad_same (rows : List Rw) (c n m : Nat) : addRow (rows ++ [(c, m)]) c n = rows ++ [(c, n + m)] := by
  unfold addRow
  rw [List.getLast?_concat]
  simp
theorem ad_other {rows : List Rw} {c c' n m : Nat} (h : c' ≠ c) : addRow (rows ++ [(c', m)]) c n = (rows ++ [(c', m)]) ++ [(c, n)] := by
  unfold addRow
  rw [List.getLast?_concat]
  simp [h]
theorem add_add (rows : List Rw) (c a b : Nat) : addRow (addRow rows c a) c b = addRow rows c (b + a) := by
  rcases last_cases rows with rfl | ⟨r, c', m, rfl⟩
  · rw [ad_nil, ad_nil]
    exact ad_same [] c b a
  · by_cases h : c' = c
    · subst h
      rw [ad_same, ad_same, ad_same, Nat.add_assoc]
    · rw [ad_other h, ad_other h, ad_same]
theorem rle_rep (c : Nat) : ∀ (m : Nat) (rows : List Rw), rle rows (List.replicate (m + 1) c) = addRow rows c (m + 1) := by
  intro m
  induction m with
  | zero => intro rows; rfl
  | succ m ih =>
    intro rows
    rw [List.replicate_succ]
    show rle (addRow rows c 1) (List.replicate (m + 1) c) = _
    rw [ih, add_add]
theorem tw_all {p : Nat → Bool} {a : List Nat} {c : Nat} {t : List Nat} (h : ∀ x ∈ a, p x = true) (hc : p c = false) : (a ++ c :: t).takeWhile p = a := by
  induction a with
  | nil => simp [hc]
  | cons x r ih =>
    rw [List.cons_append, List.takeWhile_cons, h x List.mem_cons_self, if_pos rfl, ih fun y hy => h y (List.mem_cons_of_mem _ hy)]
/-- a text of figures without noughts ahead -/
def Num (d : List Nat) (n : Nat) : Prop := d ≠ [] ∧ AllDigits d ∧ d.head? ≠ some 48 ∧ digitsVal d = n
theorem tm_num {d : List Nat} {n : Nat} (h : Num d n) (t : List Nat) : timesAt (40 :: (d ++ 41 :: t)) = (n, t) := by
  have e : (d ++ 41 :: t).takeWhile (· != 41) = d := tw_all (fun x hx => by have := h.2.1 x hx; simp; omega) (by simp)
  show (if 41 ∈ (d ++ 41 :: t) ∧ _ ∧ _ ∧ _ then _ else _) = _
  rw [e, if_pos ⟨by simp, h.1, h.2.1, h.2.2.1⟩, h.2.2.2]
  congr 1
  rw [← List.drop_drop, List.drop_left]
  rfl
theorem run_num {c n : Nat} {d t : List Nat} (rows : List Rw) (h : Num d n) : run (c :: 40 :: (d ++ 41 :: t)) rows = run t (addRow rows c n) := by
  rw [run_cons, tm_num h]
/-- a text, and it written short here and there -/
inductive Sh : List Nat → List Nat → Prop
  | nil : Sh [] []
  | out {a b : List Nat} {c : Nat} (m : Nat) : Sh a b → c ≠ 40 → Sh (a ++ List.replicate (m + 1) c) (b ++ List.replicate (m + 1) c)
  | brk {a b d : List Nat} {c : Nat} (m : Nat) : Sh a b → c ≠ 40 → Num d (m + 1) → Sh (a ++ List.replicate (m + 1) c) (b ++ (c :: 40 :: (d ++ [41])))
theorem Sh.rows {a b : List Nat} (h : Sh a b) : ∀ (t : List Nat) (rows : List Rw), t.head? ≠ some 40 → run (b ++ t) rows = run t (rle rows a) := by
  induction h with
  | nil => intro t rows _; rfl
  | @out a b c m _ hc ih =>
    intro t rows ht
    rw [List.append_assoc, ih _ _ (by rw [List.replicate_succ, List.cons_append, List.head?_cons]; exact fun z => hc (Option.some.inj z)), run_rep hc ht, rle_app]
  | @brk a b d c m _ hc hd ih =>
    intro t rows ht
    have e : (c :: 40 :: (d ++ [41])) ++ t = c :: 40 :: (d ++ 41 :: t) := by simp
    rw [List.append_assoc, ih _ _ (by rw [List.cons_append, List.head?_cons]; exact fun z => hc (Option.some.inj z)), e, run_num _ hd, rle_app, rle_rep]
theorem rowsOf_sh {a b : List Nat} (h : Sh a b) : rowsOf b = rle [] a := by
  have := h.rows [] [] (by simp)
  rw [List.append_nil, run_nil] at this
  exact this
theorem sh_self : ∀ (a : List Nat), 40 ∉ a → Sh a a := by
  have key : ∀ (l a : List Nat), 40 ∉ l → Sh a a → Sh (a ++ l) (a ++ l) := by
    intro l
    induction l with
    | nil => intro a _ h; rw [List.append_nil]; exact h
    | cons c t ih =>
      intro a hl h
      have e : a ++ c :: t = (a ++ List.replicate (0 + 1) c) ++ t := by simp
      rw [e]
      exact ih _ (fun z => hl (List.mem_cons_of_mem _ z)) (Sh.out 0 h fun z => hl (by rw [z]; exact List.mem_cons_self))
  intro a h
  exact key a [] h .nil
end K04

set_option Elab.async false
set_option linter.all false
set_option maxRecDepth 100000
namespace K04
open PySem PySem.NumText K02
end K04

set_option Elab.async false
set_option linter.all false
set_option maxRecDepth 100000
namespace K04
open PySem PySem.NumText K02
section
variable {lead W N broken tail : List Nat} {first : Nat}
end
end K04

set_option Elab.async false
set_option linter.all false
set_option maxRecDepth 100000
namespace K04
open PySem PySem.NumText K02
section
variable {lead W N broken tail : List Nat} {first : Nat}
end
/-! the other kinds -/
end K04

set_option Elab.async false
set_option linter.all false
set_option maxRecDepth 100000
/-! rows written out, written short, and their sizes -/
namespace K04
open K02 PySem.NumText
/-- how many signs but S and V -/
def noSV (c : Nat) : Bool := !([83, 86] : List Nat).contains c
def szR (rows : List Rw) : Nat := ((rows.filter fun x => noSV x.1).map (·.2)).sum
theorem szR_app (a b : List Rw) : szR (a ++ b) = szR a + szR b := by simp [szR]
theorem szR_one (c n : Nat) : szR [(c, n)] = if noSV c = true then n else 0 := by
  unfold szR
  rw [List.filter_cons]
  split <;> simp
theorem szR_add (rows : List Rw) (c n : Nat) : szR (addRow rows c n) = szR rows + if noSV c = true then n else 0 := by
  rcases last_cases rows with rfl | ⟨r, c', m, rfl⟩
  · rw [ad_nil, szR_one]; simp [szR]
  · by_cases h : c' = c
    · subst h
      rw [ad_same, szR_app, szR_app, szR_one, szR_one]
      split <;> omega
    · rw [ad_other h, szR_app (r ++ [(c', m)]), szR_one]
theorem szR_rle (l : List Nat) : ∀ rows, szR (rle rows l) = szR rows + (l.filter noSV).length := by
  induction l with
  | nil => intro rows; rfl
  | cons c t ih =>
    intro rows
    show szR (rle (addRow rows c 1) t) = _
    rw [ih, szR_add, List.filter_cons]
    split <;> simp <;> omega
theorem szR_self (l : List Nat) : szR (rle [] l) = (l.filter noSV).length := by rw [szR_rle]; simp [szR]
end K04

set_option Elab.async false
set_option linter.all false
set_option maxRecDepth 100000
/-! text.count; an item of a written list, drawn -/
namespace L2
open PySem PySem.Spec PyProof.Rows
open Builtin Builtin.Str
section
variable {X : Cx}
end
/-- the script and the town, as every draw asks for them -/
structure Bag (K : PySem.W.Frag) (H : Hp) (a t r : Addr) (ns : List Int) (c : Int) : Prop where
  sq : SqL K H a (ns.map V.int)
  tw : ∃ rs, TownAt H t r c rs
  nat : a ≠ t
  nar : a ≠ r
  ln : ns.length ≤ 63
section
variable {K : PySem.W.Frag} {H H' : Hp} {a t r : Addr} {ns : List Int} {c c' : Int}
theorem Bag.drawn (B : Bag K H a t r ns c) (A : Apart t r H H') {rs : List (Key × V)} (T : TownAt H' t r c' rs) : Bag K H' a t r ns c' :=
  ⟨A.seq B.sq B.nat B.nar, ⟨rs, T⟩, B.nat, B.nar, B.ln⟩
theorem Bag.same (B : Bag K H a t r ns c) (e : Same H H') : Bag K H' a t r ns c := by
  obtain ⟨rs, T⟩ := B.tw
  exact ⟨(Apart.of e).seq B.sq B.nat B.nar, ⟨rs, T.same e⟩, B.nat, B.nar, B.ln⟩
/-- a draw by names -/
theorem Bag.draw {σ : St} {i j : Nat} {n : Int} {tn : TE} {Q : VK} {E : XK} (B : Bag K H a t r ns c) (hi : σ[i]? = some (some (.ref a))) (hj : σ[j]? = some (some (.ref t))) (hn : ∀ R : VK, R (.int n) H → tn σ H R) (h0 : 0 < n) (h1 : n < 1000000) (hc : c < 100000)
    (k : ∀ (d : Nat) (H' : Hp), (d : Int) < n → Bag K H' a t r ns (c + 1) → Apart t r H H' → Q (.int d) H') : tCall (spDraw K) [] E (tCons (tVar i) (tCons (tVar j) (tCons tn tNil))) σ H Q := by
  obtain ⟨rs, T⟩ := B.tw
  refine ⟨_, hi, _, hj, hn _ ⟨a, t, r, ns, c, n, rs, rfl, B.sq, T, B.nat, B.nar, B.ln, hc, h0, h1, fun v rs' H' v0 v1 T' A' => ?_⟩⟩
  obtain ⟨d, rfl⟩ := Int.eq_ofNat_of_zero_le v0
  exact k d H' v1 (B.drawn A' T') A'
/-- what is at hand stays so over a draw -/
theorem Bag.keep (B : Bag K H a t r ns c) (A : Apart t r H H') {b : Addr} {o : HO} (e : H b = some o) (n : ∀ kvs, o ≠ .dK kvs) : H' b = some o := by
  obtain ⟨rs, T⟩ := B.tw
  refine A b o e (fun z => ?_) fun z => ?_
  · rw [z, T.tw] at e; cases e; exact n _ rfl
  · rw [z, T.rt] at e; cases e; exact n _ rfl
end
end L2

set_option Elab.async false
set_option linter.all false
set_option maxRecDepth 100000
/-! more of long displays: a text so many times in it, a list and a display -/
namespace L2
open PySem PySem.Spec PyProof.Rows
section
variable {X : Cx}
end
end L2

set_option Elab.async false
set_option linter.all false
set_option maxRecDepth 100000
/-! texts walked sign by sign, text.index, lists of other lengths, texts in braces -/
namespace L2
open PySem PySem.Spec PyProof.Rows
open Builtin Builtin.Str
section
variable {X : Cx} {tg : Expr}
end
section
variable {X : Cx}
/-! texts in braces -/
end
end L2

set_option Elab.async false
set_option linter.all false
set_option maxRecDepth 100000
/-! text.replace(a, b) of written a and b: behind a test that made a written text -/
namespace L2
open PySem PySem.Spec PyProof.Rows
open Builtin Builtin.Str
section
variable {X : Cx}
variable {o e : Expr} {es : List Expr} {to : TE} {t : TA} {name : Str} {apos cpos : Pos} {T id : String} {r : V → List V → Hp → VK → Prop}
end
end L2

set_option Elab.async false
set_option linter.all false
set_option maxRecDepth 100000
namespace Lw
open PySem PySem.Spec PyProof.Rows L2 K02 K04
open Builtin Builtin.Str StrLaws
section
variable {P : Program} {w : World} {K : PySem.W.Frag} {mg : Str → Option Value} {base : Heap} {f : Addr} {fd : FuncData} {tk : Nat → Tok} {c kr : Nat → Addr}
theorem comp_rowsG {p : Addr} {rs : List Addr} {rows : List Rw} {te : TE} {tt : TT} {NB : List Str} {n i : Nat} {σ : L2.St} {H : Hp} {Q : VK} (val : Rw → V) (ok : Rw → Bool) (hNB : NB.length = 3) (hn : n = 2) (hσ : σ[i]? = some (some (.ref p))) (R : RowsAt K H p rs rows)
    (htt : ∀ x ∈ rows, ∀ (H1 : Hp) (R : Bool → Hp → Prop), R (ok x) H1 → tt [none, some (.str (tx [x.1])), some (.int (x.2 : Nat))] H1 R)
    (hte : ∀ x ∈ rows, ∀ (H1 : Hp) (Q : VK), (∀ H2, Same H1 H2 → Q (val x) H2) → te [none, some (.str (tx [x.1])), some (.int (x.2 : Nat))] H1 Q)
    (hd : ∀ q H1, Same H H1 → H1 q = none → Q (.ref q) (upd H1 q (.lst ((rows.filter ok).map val)))) :
    tComp NB (iList K (tVar i)) (gTup K n (gCons (gName 1) (gCons (gName 2) gNil))) tt te σ H Q := by
  have hz : 1000 ≤ sizeLine := by decide
  have hl := R.le
  have hlen := R.len
  refine ⟨_, hσ, p, rfl, ⟨_, R.sq⟩, ?_⟩
  refine comp_list (xs := rs.map V.ref) (fun i vs H2 => Same H H2 ∧ vs = ((rows.take i).filter ok).map val) ⟨Same.refl H, rfl⟩ ?_ ?_ ?_ (by omega)
  · rintro i vs H2 hi ⟨S, rfl⟩
    exact ⟨(R.same S).sq, by rw [List.length_map]; exact Nat.le_trans (List.length_filter_le _ _) (by rw [List.length_take]; omega)⟩
  · rintro i x vs H2 hx ⟨S, rfl⟩
    rw [List.getElem?_map] at hx
    obtain ⟨r, hr, rfl⟩ := Option.map_eq_some_iff.mp hx
    obtain ⟨y, hy, g⟩ := (R.same S).rw.at' hr
    subst hn
    rw [hNB]
    have hm := List.mem_of_getElem? hy
    have htk : (rows.take (i + 1)).filter ok = (rows.take i).filter ok ++ if ok y = true then [y] else [] := by
      rw [List.take_add_one, hy, List.filter_append]
      congr 1
      show List.filter ok [y] = _
      rw [List.filter_cons]
      rfl
    refine ⟨r, _, rfl, SqT.of g, rfl, _, _, rfl, _, _, rfl, rfl, ?_⟩
    refine htt y hm _ _ ?_
    rw [htk]
    cases ok y with
    | true => exact iteT (hte y hm _ _ fun H3 S3 => ⟨S.trans S3, by simp⟩)
    | false => exact iteF ⟨S, by simp⟩
  · rintro vs H2 ⟨S, rfl⟩ q hq
    rw [List.take_of_length_le (by omega)]
    exact hd q H2 S hq
structure PicAt (a l : List Nat) (x : Facts) : Prop where
  pc : picture l = some x
  sh : Sh a l
  no : 40 ∉ a
  la : a.length ≤ 100
  ll : l.length ≤ 500
def spSize : Sp := fun vs H Q _ => ∃ (a l : List Nat) (x : Facts), vs = [.str (tx l)] ∧ PicAt a l x ∧ ∀ H', Same H H' → Q (.int ((a.filter noSV).length : Nat)) H'
theorem ok_size_of (F : Fun K "size_of" "size_of" s_size_of f fd) (O : Own mg) (D_understood : Def P w K mg base 6 "understood" ["picture"] (spUnder K c)) : FnOk P w K mg base (CXE P w) 7 f fd ["picture"] spSize := by
  refine okE F sc_size_of (fun vs H Q E h => ?_) (fun cdv A outer s H vs Q E hr h => ?_)
  · obtain ⟨a, l, x, rfl, _⟩ := h
    rfl
  · obtain ⟨a, l, x, rfl, hp, k⟩ := h
    have fr := fram_of (P := P) (w := w) (K := K) (mg := mg) (base := base) (N := ["picture", "rows", "facts"]) (qual := "size_of") (scope := defScope s_size_of) (f := f) (cd := cdv) (A := A) (outer := outer) (s := s) (H := H) (E := E)
    have hx := passes_gen fr
    have hla := hp.la
    have e83 : ("S" : Str) = tx [83] := by decide +kernel
    have e86 : ("V" : Str) = tx [86] := by decide +kernel
    refine ⟨_, (pss_cons (ps_asg (D_understood.pe hr (by decide) rfl hx (pa_cons (pv 0) pa_nil)) (pg_tup rfl (pgs_cons (pg_name (i := 1) sc_size_of.nd rfl (Or.inl rfl)) (pgs_cons (pg_name (i := 2) sc_size_of.nd rfl (Or.inl rfl)) pgs_nil))))
      (pss_one (ps_ret (pe_callB (call_sum rfl) rfl O.sum L2.boot_sum (pa_cons (pe_lcomp (NB := [".0", "symbol", "many"]) rfl ⟨rfl, by decide +kernel, by decide +kernel, by decide +kernel⟩ (pi_list (pv 1)) (fun _ _ _ => (pg_tupK (K0 := K) (n := 2) rfl rfl (pgs_cons (pg_name (i := 1) (show ([".0", "symbol", "many"] : List Str).Nodup by decide +kernel) rfl (Or.inl rfl) (Or.inr rfl)) (pgs_cons (pg_name (i := 2) (show ([".0", "symbol", "many"] : List Str).Nodup by decide +kernel) rfl (Or.inl rfl) (Or.inr rfl)) pgs_nil)))) (fun _ _ _ => (pts_one (PW.pt (pw_and (pt_cmpR op_ne (pv 1) pe_str (nomark _)) (pw_and1 (pt_cmpR op_ne (pv 1) pe_str (nomark _))))))) (fun _ _ _ => (pv 2))) pa_nil))))), ?_⟩
    refine ⟨_, rfl, l, rfl, hp.ll, (fun z => by rw [hp.pc] at z; cases z), fun x2 e q p rs r H1 S1 g1 g2 R1 => ?_⟩
    refine ⟨q, _, rfl, SqT.of g1, rfl, _, _, rfl, _, _, rfl, rfl, ?_⟩
    dsimp only [tRet, tCB, tCons, tNil]
    refine comp_rowsG (p := p) (rs := rs) (rows := rowsOf l) (fun x => .int (x.2 : Nat)) (fun x => noSV x.1) rfl rfl rfl R1 (fun x hx H1 R h => ?_) (fun x hx H1 Q h => ⟨_, rfl, h _ (Same.refl _)⟩) (fun q H2 S hq => ?_)
    · have hd : noSV x.1 = (!decide (x.1 = 83) && !decide (x.1 = 86)) := by
        unfold noSV
        by_cases z1 : x.1 = 83 <;> by_cases z2 : x.1 = 86 <;> simp [z1, z2]
      rw [hd] at h
      refine ⟨_, rfl, rfl, _, rfl, ?_⟩
      rw [e83, sym_dec]
      cases h1 : decide (x.1 = 83) with
      | true => rw [h1] at h; exact iteF h
      | false =>
        rw [h1] at h
        refine iteT ⟨_, rfl, rfl, _, rfl, ?_⟩
        rw [e86, sym_dec]
        exact h
    · have em : (((rowsOf l).filter fun x => noSV x.1).map fun x => V.int (x.2 : Nat)) = (((rowsOf l).filter fun x => noSV x.1).map fun x => ((x.2 : Nat) : Int)).map V.int := by rw [List.map_map]; rfl
      have es : ∀ rows : List Rw, (rows.map fun x => ((x.2 : Nat) : Int)).sum = (((rows.map (·.2)).sum : Nat) : Int) := by
        intro rows
        induction rows with
        | nil => rfl
        | cons y r ih => rw [List.map_cons, List.sum_cons, ih, List.map_cons, List.sum_cons]; push_cast; rfl
      rw [em]
      refine ⟨q, _, rfl, SqL.of upd_same, ?_⟩
      rw [es]
      have := szR_self a
      rw [← rowsOf_sh hp.sh] at this
      unfold szR at this
      rw [this]
      exact k _ (S1.trans (S.trans (Same.new hq)))
end
end Lw

set_option Elab.async false
set_option linter.all false
set_option maxRecDepth 100000
/-! comprehensions whose block reads names of the def around it -/
namespace L2
open PySem PySem.Spec PyProof.Rows
section
variable {X : Cx}
end
end L2

set_option Elab.async false
set_option linter.all false
set_option maxRecDepth 100000
/-! enumerate(text), list(text) -/
namespace L2
open PySem PySem.Spec PyProof.Rows
open Builtin Builtin.Str
section
variable {X : Cx} {pins : List (Addr × Obj)} {σ : List (Option V)} {H : Hp} {s : Shared} {h' : Heap}
end
section
variable {X : Cx}
end
end L2

set_option Elab.async false
set_option linter.all false
set_option maxRecDepth 100000
/-! list(text) -/
namespace L2
open PySem PySem.Spec PyProof.Rows
open Builtin Builtin.Str
section
variable {prog : Program} {w : World} {A : Around} {E : Value → Shared → Prop} {s : Shared}
end
section
variable {X : Cx}
end
/-! written dicts of texts, of any number -/
section
variable {X : Cx} {o i : Expr} {td ty : TE} {a : Addr} {kvs : List (Key × V)}
end
end L2

set_option Elab.async false
set_option linter.all false
set_option maxRecDepth 100000
/-! loops over texts, their signs numbered; comprehensions over texts with names of the def around -/
namespace L2
open PySem PySem.Spec PyProof.Rows
end L2

set_option Elab.async false
set_option linter.all false
set_option maxRecDepth 100000
/-! zip(text, text) -/
namespace L2
open PySem PySem.Spec PyProof.Rows
open Builtin Builtin.Str
section
variable {prog : Program} {w : World} {A : Around} {E : Value → Shared → Prop} {s : Shared} {z TI TO i1 i2 : Addr} {k n1 n2 : Nat} {P1 P2 : Nat → Value → Prop} {S1 S2 : Nat → Heap → Prop} {a b : Value}
end
section
variable {prog : Program} {w : World} {A : Around} {E : Value → Shared → Prop} {s : Shared} {z TI TO i1 i2 : Addr} {k n1 n2 : Nat} {P1 P2 : Nat → Value → Prop} {S1 S2 : Nat → Heap → Prop} {a b : Value}
end
section
variable {X : Cx}
end
end L2

set_option Elab.async false
set_option linter.all false
namespace L2
open PySem PySem.Spec PyProof.Rows
/-! ### things within things: tuples of tuples -/
inductive Dv where
  | non | bl (b : Bool) | int (i : Int) | str (x : Str) | tup (ds : List Dv)
mutual
def Dv.depth : Dv → Nat
  | .tup ds => Dv.depthL ds + 1
  | _ => 0
def Dv.depthL : List Dv → Nat
  | [] => 0
  | d :: ds => max (Dv.depth d) (Dv.depthL ds)
end
mutual
def Dv.eqb : Dv → Dv → Bool
  | .non, .non => true
  | .bl a, .bl b => a == b
  | .bl a, .int b => (if a then 1 else 0) == b
  | .int a, .bl b => a == (if b then 1 else 0)
  | .int a, .int b => a == b
  | .str a, .str b => a == b
  | .tup xs, .tup ys => Dv.eqbL xs ys
  | _, _ => false
def Dv.eqbL : List Dv → List Dv → Bool
  | [], [] => true
  | x :: xs, y :: ys => Dv.eqb x y && Dv.eqbL xs ys
  | _, _ => false
end
mutual
/-- what a value is, all the way down -/
inductive Deep (H : Hp) : V → Dv → Prop where
  | non : Deep H .non .non
  | bl {b : Bool} : Deep H (.bl b) (.bl b)
  | int {i : Int} : Deep H (.int i) (.int i)
  | str {x : Str} : Deep H (.str x) (.str x)
  | tup {a : Addr} {xs : List V} {ds : List Dv} (h : H a = some (.tup xs)) (t : Deeps H xs ds) : Deep H (.ref a) (.tup ds)
inductive Deeps (H : Hp) : List V → List Dv → Prop where
  | nil : Deeps H [] []
  | cons {x : V} {d : Dv} {xs : List V} {ds : List Dv} (h : Deep H x d) (t : Deeps H xs ds) : Deeps H (x :: xs) (d :: ds)
end
theorem Deeps.length {H : Hp} : ∀ {xs : List V} {ds : List Dv}, Deeps H xs ds → xs.length = ds.length
  | _, _, .nil => rfl
  | _, _, .cons _ t => congrArg (· + 1) t.length
theorem Deeps.getX {H : Hp} : ∀ {xs : List V} {ds : List Dv} {i : Nat} {x : V}, Deeps H xs ds → xs[i]? = some x → ∃ d, ds[i]? = some d ∧ Deep H x d
  | _, _, _, _, .nil, e => by simp at e
  | _, _, 0, _, .cons h _, e => by
    simp at e
    subst e
    exact ⟨_, rfl, h⟩
  | _, _, i + 1, x, .cons _ t, e => by
    obtain ⟨d, h1, h2⟩ := Deeps.getX (i := i) (x := x) t (by simpa using e)
    exact ⟨d, by simpa using h1, h2⟩
theorem Deeps.append {H : Hp} : ∀ {xs ys : List V} {ds es : List Dv}, Deeps H xs ds → Deeps H ys es → Deeps H (xs ++ ys) (ds ++ es)
  | _, _, _, _, .nil, q => q
  | _, _, _, _, .cons h t, q => .cons h (Deeps.append t q)
theorem Deeps.take {H : Hp} : ∀ {xs : List V} {ds : List Dv} (n : Nat), Deeps H xs ds → Deeps H (xs.take n) (ds.take n)
  | _, _, 0, _ => .nil
  | _, _, _ + 1, .nil => .nil
  | _, _, n + 1, .cons h t => .cons h (Deeps.take n t)
theorem Deeps.drop {H : Hp} : ∀ {xs : List V} {ds : List Dv} (n : Nat), Deeps H xs ds → Deeps H (xs.drop n) (ds.drop n)
  | _, _, 0, t => t
  | _, _, _ + 1, .nil => .nil
  | _, _, n + 1, .cons _ t => Deeps.drop n t
mutual
/-- tuples never change -/
theorem Deep.keep {H H' : Hp} (k : ∀ b ys, H b = some (.tup ys) → H' b = some (.tup ys)) : ∀ {x : V} {d : Dv}, Deep H x d → Deep H' x d
  | _, _, .non => .non
  | _, _, .bl => .bl
  | _, _, .int => .int
  | _, _, .str => .str
  | _, _, .tup h t => .tup (k _ _ h) (Deeps.keep k t)
theorem Deeps.keep {H H' : Hp} (k : ∀ b ys, H b = some (.tup ys) → H' b = some (.tup ys)) : ∀ {xs : List V} {ds : List Dv}, Deeps H xs ds → Deeps H' xs ds
  | _, _, .nil => .nil
  | _, _, .cons h t => .cons (Deep.keep k h) (Deeps.keep k t)
end
theorem Deep.same {H H' : Hp} {x : V} {d : Dv} (h : Deep H x d) (S : Same H H') : Deep H' x d := h.keep (fun b ys e => S _ _ e)
theorem Deeps.same {H H' : Hp} {xs : List V} {ds : List Dv} (h : Deeps H xs ds) (S : Same H H') : Deeps H' xs ds := h.keep (fun b ys e => S _ _ e)
section
variable {X : Cx} {pins : List (Addr × Obj)} {σ : St} {H : Hp} {s : Shared}
mutual
theorem Deep.inj (I : Inv X pins σ H s) : ∀ {x : V} {d e : Dv}, Deep H x d → Deep H x e → d = e
  | _, _, _, .non, .non => rfl
  | _, _, _, .bl, .bl => rfl
  | _, _, _, .int, .int => rfl
  | _, _, _, .str, .str => rfl
  | _, _, _, .tup h t, .tup h2 t2 => by
    have e := I.tuple_inj (.inl (.inl h)) (.inl (.inl h2))
    subst e
    rw [Deeps.inj I t t2]
theorem Deeps.inj (I : Inv X pins σ H s) : ∀ {xs : List V} {ds es : List Dv}, Deeps H xs ds → Deeps H xs es → ds = es
  | _, _, _, .nil, .nil => rfl
  | _, _, _, .cons h t, .cons h2 t2 => by rw [Deep.inj I h h2, Deeps.inj I t t2]
end
end
mutual
theorem Dv.eqb_self : ∀ d : Dv, d.eqb d = true
  | .non => rfl
  | .bl b => by cases b <;> rfl
  | .int i => by unfold Dv.eqb; exact beq_self_eq_true i
  | .str x => by unfold Dv.eqb; exact beq_self_eq_true x
  | .tup ds => by unfold Dv.eqb; exact Dv.eqbL_self ds
theorem Dv.eqbL_self : ∀ ds : List Dv, Dv.eqbL ds ds = true
  | [] => rfl
  | d :: ds => by unfold Dv.eqbL; rw [Dv.eqb_self d, Dv.eqbL_self ds]; rfl
end
theorem Dv.eqbL_range : ∀ (ds es : List Dv), Dv.eqbL ds es = ((List.range (min ds.length es.length)).all (fun j => ((ds[j]?).getD .non).eqb ((es[j]?).getD .non)) && ds.length == es.length)
  | [], [] => rfl
  | [], e :: es => rfl
  | d :: ds, [] => rfl
  | d :: ds, e :: es => by
    unfold Dv.eqbL
    rw [Dv.eqbL_range ds es, List.length_cons, List.length_cons, show min (ds.length + 1) (es.length + 1) = min ds.length es.length + 1 by omega, List.range_succ_eq_map, List.all_cons, List.all_map, Bool.and_assoc]
    congr 1
    congr 1
    exact Bool.eq_iff_iff.mpr (by simp)
theorem Dv.depth_le : ∀ {ds : List Dv} {i : Nat} {d : Dv}, ds[i]? = some d → d.depth ≤ Dv.depthL ds
  | [], _, _, e => by simp at e
  | x :: xs, 0, d, e => by
    simp at e
    subst e
    unfold Dv.depthL
    omega
  | x :: xs, i + 1, d, e => by
    have := Dv.depth_le (ds := xs) (i := i) (d := d) (by simpa using e)
    unfold Dv.depthL
    omega
section
variable {X : Cx} {pins : List (Addr × Obj)} {σ : St} {H : Hp} {s : Shared}
/-- two things compared, the tuples among them by what is known of their parts -/
theorem Deep.at1 (I : Inv X pins σ H s) {N : Nat} {x y : V} {d e : Dv} (hd : d.depth ≤ N) (hx : Deep H x d) (hy : Deep H y e) {A : Around} {u v : Value} (hu : A.units + N < cLine) (rx : RelV x u) (ry : RelV y v)
    (ih : ∀ n, N = n + 1 → ∀ (d e : Dv) (x y : V), d.depth ≤ n → Deep H x d → Deep H y e → ∀ {A : Around} {u v : Value}, A.units + n < cLine → RelV x u → RelV y v → SeqAt.EqAt A s u v (d.eqb e)) : SeqAt.EqAt A s u v (d.eqb e) := by
  cases hx with
  | non =>
    cases rx
    cases hy with
    | non =>
      cases ry
      exact .same _
    | @bl b2 =>
      cases ry
      exact SeqAt.EqAt.none_bool b2
    | @int i2 =>
      obtain ⟨ty, rfl⟩ := ry
      exact SeqAt.EqAt.none_int i2 ty
    | @str z2 =>
      obtain ⟨ty, rfl⟩ := ry
      exact SeqAt.EqAt.none_str z2 ty
    | @tup a2 ys es h2 t2 =>
      obtain rfl : v = Value.ref a2 := ry
      obtain ⟨its2, r2, p2, _⟩ := I.tuple (.inl (.inl h2))
      exact SeqAt.EqAt.none_tuple p2 (by omega)
  | @bl b =>
    cases rx
    cases hy with
    | non =>
      cases ry
      exact SeqAt.EqAt.bool_none b
    | @bl b2 =>
      cases ry
      exact SeqAt.EqAt.bool_bool b b2
    | @int i2 =>
      obtain ⟨ty, rfl⟩ := ry
      exact SeqAt.EqAt.bool_int b i2 ty
    | @str z2 =>
      obtain ⟨ty, rfl⟩ := ry
      exact SeqAt.EqAt.bool_str b z2 ty
    | @tup a2 ys es h2 t2 =>
      obtain rfl : v = Value.ref a2 := ry
      obtain ⟨its2, r2, p2, _⟩ := I.tuple (.inl (.inl h2))
      exact SeqAt.EqAt.bool_tuple b p2 (by omega)
  | @int i =>
    obtain ⟨tx, rfl⟩ := rx
    cases hy with
    | non =>
      cases ry
      exact SeqAt.EqAt.int_none i tx
    | @bl b2 =>
      cases ry
      exact SeqAt.EqAt.int_bool i tx b2
    | @int i2 =>
      obtain ⟨ty, rfl⟩ := ry
      exact SeqAt.EqAt.int_int i tx i2 ty
    | @str z2 =>
      obtain ⟨ty, rfl⟩ := ry
      exact SeqAt.EqAt.int_str i tx z2 ty
    | @tup a2 ys es h2 t2 =>
      obtain rfl : v = Value.ref a2 := ry
      obtain ⟨its2, r2, p2, _⟩ := I.tuple (.inl (.inl h2))
      exact SeqAt.EqAt.int_tuple i tx p2 (by omega)
  | @str z =>
    obtain ⟨tx, rfl⟩ := rx
    cases hy with
    | non =>
      cases ry
      exact SeqAt.EqAt.str_none z tx
    | @bl b2 =>
      cases ry
      exact SeqAt.EqAt.str_bool z tx b2
    | @int i2 =>
      obtain ⟨ty, rfl⟩ := ry
      exact SeqAt.EqAt.str_int z tx i2 ty
    | @str z2 =>
      obtain ⟨ty, rfl⟩ := ry
      exact SeqAt.EqAt.str_str z tx z2 ty
    | @tup a2 ys es h2 t2 =>
      obtain rfl : v = Value.ref a2 := ry
      obtain ⟨its2, r2, p2, _⟩ := I.tuple (.inl (.inl h2))
      exact SeqAt.EqAt.str_tuple z tx p2 (by omega)
  | @tup a xs ds h t =>
    obtain rfl : u = Value.ref a := rx
    obtain ⟨its, r1, p1, _⟩ := I.tuple (.inl (.inl h))
    cases hy with
    | non =>
      cases ry
      exact SeqAt.EqAt.tuple_none p1 (by omega)
    | @bl b2 =>
      cases ry
      exact SeqAt.EqAt.tuple_bool b2 p1 (by omega)
    | @int i2 =>
      obtain ⟨ty, rfl⟩ := ry
      exact SeqAt.EqAt.tuple_int i2 ty p1 (by omega)
    | @str z2 =>
      obtain ⟨ty, rfl⟩ := ry
      exact SeqAt.EqAt.tuple_str z2 ty p1 (by omega)
    | @tup a2 ys es h2 t2 =>
      obtain rfl : v = Value.ref a2 := ry
      obtain ⟨its2, r2, p2, _⟩ := I.tuple (.inl (.inl h2))
      obtain ⟨n, rfl⟩ : ∃ n, N = n + 1 := ⟨N - 1, by have := hd; unfold Dv.depth at this; omega⟩
      have hl1 := t.length
      have hl2 := t2.length
      have q1 := r1.length
      have q2 := r2.length
      have z := SeqAt.RcAt.tuples (A := A) (s := s) (e := fun j => ((ds[j]?).getD .non).eqb ((es[j]?).getD .non)) p1 p2 (by omega) (tup_items (pins := pins) (σ := σ) (H := H) (n := n) r1 r2 fun j x y u v g1 g2 w1 w2 => ?_)
      · rw [List.size_toArray, List.size_toArray, ← q1, ← q2, hl1, hl2, ← Dv.eqbL_range] at z
        by_cases ne : a = a2
        · subst ne
          rw [Deep.inj I (.tup h t) (.tup h2 t2), Dv.eqb_self]
          exact .same _
        · unfold Dv.eqb
          exact .of_refs ne z
      · obtain ⟨d1, k1, k2⟩ := t.getX g1
        obtain ⟨e1, m1, m2⟩ := t2.getX g2
        show SeqAt.EqAt A.in1 s u v (((ds[j]?).getD .non).eqb ((es[j]?).getD .non))
        rw [k1, m1]
        exact ih n rfl d1 e1 x y (Nat.le_trans (Dv.depth_le k1) (by have := hd; unfold Dv.depth at this; omega)) k2 m2 (by show A.units + 1 + n < cLine; omega) w1 w2
theorem Deep.at (I : Inv X pins σ H s) : ∀ (n : Nat) (d e : Dv) (x y : V), d.depth ≤ n → Deep H x d → Deep H y e → ∀ {A : Around} {u v : Value}, A.units + n < cLine → RelV x u → RelV y v → SeqAt.EqAt A s u v (d.eqb e) := by
  intro n
  induction n with
  | zero =>
    intro d e x y hd hx hy A u v hu rx ry
    exact Deep.at1 I hd hx hy hu rx ry fun n hn => absurd hn (by omega)
  | succ n ih =>
    intro d e x y hd hx hy A u v hu rx ry
    refine Deep.at1 I hd hx hy hu rx ry fun m hm => ?_
    obtain rfl : n = m := by omega
    exact ih
theorem Deep.rcNe (I : Inv X pins σ H s) {n : Nat} {x y : V} {d e : Dv} (hd : d.depth ≤ n) (hx : Deep H x d) (hy : Deep H y e) {u v : Value} (hu : X.A.units + n < cLine) (rx : RelV x u) (ry : RelV y v) : SeqAt.RcNeAt X.A s u v (!(d.eqb e)) := by
  cases hx with
  | non =>
    cases rx
    cases hy with
    | non =>
      cases ry
      exact SeqAt.RcNeAt.none_none
    | @bl b2 =>
      cases ry
      exact SeqAt.RcNeAt.none_bool b2
    | @int i2 =>
      obtain ⟨ty, rfl⟩ := ry
      exact SeqAt.RcNeAt.none_int i2 ty
    | @str z2 =>
      obtain ⟨ty, rfl⟩ := ry
      exact SeqAt.RcNeAt.none_str z2 ty
    | @tup a2 ys es h2 t2 =>
      obtain rfl : v = Value.ref a2 := ry
      obtain ⟨its2, r2, p2, _⟩ := I.tuple (.inl (.inl h2))
      exact SeqAt.RcNeAt.none_tuple p2 (by omega)
  | @bl b =>
    cases rx
    cases hy with
    | non =>
      cases ry
      exact SeqAt.RcNeAt.bool_none b
    | @bl b2 =>
      cases ry
      exact SeqAt.RcNeAt.bool_bool b b2
    | @int i2 =>
      obtain ⟨ty, rfl⟩ := ry
      exact SeqAt.RcNeAt.bool_int b i2 ty
    | @str z2 =>
      obtain ⟨ty, rfl⟩ := ry
      exact SeqAt.RcNeAt.bool_str b z2 ty
    | @tup a2 ys es h2 t2 =>
      obtain rfl : v = Value.ref a2 := ry
      obtain ⟨its2, r2, p2, _⟩ := I.tuple (.inl (.inl h2))
      exact SeqAt.RcNeAt.bool_tuple b p2 (by omega)
  | @int i =>
    obtain ⟨tx, rfl⟩ := rx
    cases hy with
    | non =>
      cases ry
      exact SeqAt.RcNeAt.int_none i tx
    | @bl b2 =>
      cases ry
      exact SeqAt.RcNeAt.int_bool i tx b2
    | @int i2 =>
      obtain ⟨ty, rfl⟩ := ry
      exact SeqAt.RcNeAt.int_int i tx i2 ty
    | @str z2 =>
      obtain ⟨ty, rfl⟩ := ry
      exact SeqAt.RcNeAt.int_str i tx z2 ty
    | @tup a2 ys es h2 t2 =>
      obtain rfl : v = Value.ref a2 := ry
      obtain ⟨its2, r2, p2, _⟩ := I.tuple (.inl (.inl h2))
      exact SeqAt.RcNeAt.int_tuple i tx p2 (by omega)
  | @str z =>
    obtain ⟨tx, rfl⟩ := rx
    cases hy with
    | non =>
      cases ry
      exact SeqAt.RcNeAt.str_none z tx
    | @bl b2 =>
      cases ry
      exact SeqAt.RcNeAt.str_bool z tx b2
    | @int i2 =>
      obtain ⟨ty, rfl⟩ := ry
      exact SeqAt.RcNeAt.str_int z tx i2 ty
    | @str z2 =>
      obtain ⟨ty, rfl⟩ := ry
      exact SeqAt.RcNeAt.str_str z tx z2 ty
    | @tup a2 ys es h2 t2 =>
      obtain rfl : v = Value.ref a2 := ry
      obtain ⟨its2, r2, p2, _⟩ := I.tuple (.inl (.inl h2))
      exact SeqAt.RcNeAt.str_tuple z tx p2 (by omega)
  | @tup a xs ds h t =>
    obtain rfl : u = Value.ref a := rx
    obtain ⟨its, r1, p1, _⟩ := I.tuple (.inl (.inl h))
    cases hy with
    | non =>
      cases ry
      exact SeqAt.RcNeAt.tuple_none p1 (by omega)
    | @bl b2 =>
      cases ry
      exact SeqAt.RcNeAt.tuple_bool b2 p1 (by omega)
    | @int i2 =>
      obtain ⟨ty, rfl⟩ := ry
      exact SeqAt.RcNeAt.tuple_int i2 ty p1 (by omega)
    | @str z2 =>
      obtain ⟨ty, rfl⟩ := ry
      exact SeqAt.RcNeAt.tuple_str z2 ty p1 (by omega)
    | @tup a2 ys es h2 t2 =>
      obtain rfl : v = Value.ref a2 := ry
      obtain ⟨its2, r2, p2, _⟩ := I.tuple (.inl (.inl h2))
      have hl1 := t.length
      have hl2 := t2.length
      have q1 := r1.length
      have q2 := r2.length
      have hd' : Dv.depthL ds + 1 ≤ n := by have := hd; unfold Dv.depth at this; exact this
      have z := SeqAt.RcNeAt.tuples (A := X.A) (s := s) (e := fun j => ((ds[j]?).getD .non).eqb ((es[j]?).getD .non)) p1 p2 (by omega) (tup_items (pins := pins) (σ := σ) (H := H) (n := n) r1 r2 fun j x y u v g1 g2 w1 w2 => ?_)
      · rw [List.size_toArray, List.size_toArray, ← q1, ← q2, hl1, hl2, ← Dv.eqbL_range] at z
        unfold Dv.eqb
        exact z
      · obtain ⟨d1, k1, k2⟩ := t.getX g1
        obtain ⟨e1, m1, m2⟩ := t2.getX g2
        show SeqAt.EqAt X.A.in1 s u v (((ds[j]?).getD .non).eqb ((es[j]?).getD .non))
        rw [k1, m1]
        exact Deep.at I (n - 1) d1 e1 x y (Nat.le_trans (Dv.depth_le k1) (by omega)) k2 m2 (by show X.A.units + 1 + (n - 1) < cLine; omega) w1 w2
def rEqDp (n : Nat) (neg : Bool) : R2 := fun x y H Q => ∃ d e, Deep H x d ∧ Deep H y e ∧ d.depth ≤ n ∧ Q (.bl (if neg then !(d.eqb e) else d.eqb e)) H
theorem op_neDp {n : Nat} (hu : X.A.units + n < cLine) : OpR X (compareOp .NotEq) (rEqDp n true) := by
  intro pins s σ H x y v u Q I rx ry h
  obtain ⟨d, e, hx, hy, hd, q⟩ := h
  exact Deep.rcNe I hd hx hy hu rx ry X.prog X.w X.xe _ ⟨.bl _, H, I, rfl, q⟩
end
end L2

set_option Elab.async false
set_option linter.all false
set_option maxRecDepth 100000
/-! tuples and lists walked side by side, or with their numbers -/
namespace L2
open PySem PySem.Spec PyProof.Rows
open Builtin Builtin.Str
section
variable {prog : Program} {w : World} {A : Around} {E : Value → Shared → Prop} {s : Shared} {j tt : Addr} {n : Nat} {its : Array Value}
end
open AutoSeq1 (wpAny_loadPart') in
section
variable {X : Cx}
end
end L2

set_option Elab.async false
set_option linter.all false
set_option maxRecDepth 100000
/-! lists and tuples side by side -/
namespace L2
open PySem PySem.Spec PyProof.Rows
open Builtin Builtin.Str
section
variable {prog : Program} {w : World} {A : Around} {E : Value → Shared → Prop} {s : Shared} {z TI TO i1 i2 : Addr} {k n1 n2 : Nat} {f1 f2 : List Addr} {P1 P2 : Nat → Value → Prop} {S1 S2 : Nat → Heap → Prop} {a b : Value}
end
section
variable {X : Cx}
end
end L2

set_option Elab.async false
set_option linter.all false
set_option maxRecDepth 100000
/-! a comprehension over two texts side by side -/
namespace L2
open PySem PySem.Spec PyProof.Rows
end L2

set_option Elab.async false
set_option linter.all false
set_option maxRecDepth 100000
/-! walks of a known length, told once for all of them -/
namespace L2
open PySem PySem.Spec PyProof.Rows
structure Fix (J : It) (n : Nat) (Ok : Hp → Prop) (item : Nat → Hp → V → Hp → Prop) : Prop where
  go : ∀ i H, Ok H → i < n → J.go i H
  stop : ∀ H, Ok H → J.stop n H
  yld : ∀ i H v H', Ok H → i < n → J.yld i H v H' → item i H v H'
section
variable {J : It} {n : Nat} {Ok : Hp → Prop} {item : Nat → Hp → V → Hp → Prop}
theorem for_fix {g : TG} {tb : TS} {D : Ends} {σ : St} {H : Hp} (F : Fix J n Ok item) (Pv : Nat → St → Hp → Prop) (h0 : Pv 0 σ H) (ho : ∀ i σ H, i ≤ n → Pv i σ H → Ok H)
    (hs : ∀ i v σ H H', i < n → Pv i σ H → item i H v H' → g v σ H' fun σ2 H2 => tb { D with nx := Pv (i + 1), ct := Pv (i + 1), bk := D.nx } σ2 H2) (hd : ∀ σ H, Pv n σ H → D.nx σ H) :
    ∃ W : Nat → Nat → St → Hp → Prop, (∃ m, W 0 m σ H) ∧ ∀ i m σ H, W i m σ H →
      (J.stop i H ∧ D.nx σ H) ∨ (J.go i H ∧ ∃ N : St → Hp → Prop, (∀ σ' H', N σ' H' → ∃ m', m' < m ∧ W (i + 1) m' σ' H') ∧ ∀ x H', J.yld i H x H' → g x σ H' fun σ2 H2 => tb { D with nx := N, ct := N, bk := D.nx } σ2 H2) := by
  refine ⟨fun i m σ H => m = n - i ∧ i ≤ n ∧ Pv i σ H, ⟨n, by simp, Nat.zero_le _, h0⟩, ?_⟩
  rintro i m σ H ⟨rfl, hi, p⟩
  have ok := ho i σ H hi p
  by_cases hlt : i < n
  · exact .inr ⟨F.go i H ok hlt, Pv (i + 1), fun σ' H' p' => ⟨n - (i + 1), by omega, rfl, hlt, p'⟩, fun x H' y => hs i x σ H H' hlt p (F.yld i H x H' ok hlt y)⟩
  · have e : i = n := by omega
    subst e
    exact .inl ⟨F.stop H ok, hd σ H p⟩
theorem comp_fix {NB : List Str} {wi : TI} {g : TG} {tt : TT} {te : TE} {Q : VK} {σ : St} {H : Hp} (F : Fix J n Ok item) (Pv : Nat → List V → Hp → Prop) (h : ∀ R : It → Hp → Prop, (∀ H1, Pv 0 [] H1 → R J H1) → wi σ H R) (ho : ∀ i vs H, i ≤ n → Pv i vs H → Ok H ∧ vs.length ≤ i)
    (hs : ∀ i v vs H H', i < n → Pv i vs H → item i H v H' → g v (List.replicate NB.length none) H' fun σ2 H2 => tt σ2 H2 fun b H3 => if b = true then te σ2 H3 fun v H4 => Pv (i + 1) (vs ++ [v]) H4 else Pv (i + 1) vs H3)
    (hd : ∀ vs H, Pv n vs H → ∀ p, H p = none → Q (.ref p) (upd H p (.lst vs))) (hz : n < sizeLine) : tComp NB wi g tt te σ H Q := by
  refine h _ fun H1 h0 => ⟨fun i m vs H => m = n - i ∧ i ≤ n ∧ Pv i vs H, ⟨n, by simp, Nat.zero_le _, h0⟩, ?_⟩
  rintro i m vs H ⟨rfl, hi, p⟩
  obtain ⟨ok, hv⟩ := ho i vs H hi p
  by_cases hlt : i < n
  · exact .inr ⟨F.go i H ok hlt, by omega, Pv (i + 1), fun vs' H' p' => ⟨n - (i + 1), by omega, rfl, hlt, p'⟩, fun x H' y => hs i x vs H H' hlt p (F.yld i H x H' ok hlt y)⟩
  · have e : i = n := by omega
    subst e
    exact .inl ⟨F.stop H ok, hd vs H p⟩
end
theorem at_lt {xs : List V} {i : Nat} (h : i < xs.length) : ∃ x, xs[i]? = some x := ⟨_, List.getElem?_eq_getElem h⟩
theorem fixT {K : PySem.W.Frag} {a : Addr} {xs : List V} : Fix (Itt K a) xs.length (fun H => SqT K H a xs) (fun i H v H' => H' = H ∧ xs[i]? = some v) :=
  ⟨fun i H ok h => let ⟨x, e⟩ := at_lt h; ⟨xs, x, ok, e⟩, fun H ok => ⟨xs, ok, Nat.le_refl _⟩, fun i H v H' ok _ y => ⟨y.1, y.2 _ ok⟩⟩
theorem fixL {K : PySem.W.Frag} {a : Addr} {xs : List V} : Fix (Itl K a) xs.length (fun H => SqL K H a xs) (fun i H v H' => H' = H ∧ xs[i]? = some v) :=
  ⟨fun i H ok h => let ⟨x, e⟩ := at_lt h; ⟨xs, x, ok, e⟩, fun H ok => ⟨xs, ok, Nat.le_refl _⟩, fun i H v H' ok _ y => ⟨y.1, y.2 _ ok⟩⟩
theorem fixR {lo : Int} {n : Nat} : Fix (Itr lo n) n (fun _ => True) (fun i H v H' => H' = H ∧ v = .int (lo + i)) := ⟨fun i H _ h => h, fun H _ => Nat.le_refl _, fun i H v H' _ _ y => y⟩
end L2

set_option Elab.async false
set_option linter.all false
set_option maxRecDepth 100000
/-! all(list), set(texts), tuple.index -/
namespace L2
open PySem PySem.Spec PyProof.Rows
section
variable {X : Cx}
theorem bools_at {bs : List Bool} {us : List Value} (r : Vals (bs.map V.bl) us) : ∀ i v, us.toArray[i]? = some v → v = Value.bool (bs.getD i true) := fun i v hv => by
  have h1 : us[i]? = some v := by simpa using hv
  have hlt := (List.getElem?_eq_some_iff.mp h1).1
  have hl := r.length
  rw [List.length_map] at hl
  have h2 : (bs.map V.bl)[i]? = some (V.bl (bs.getD i true)) := by
    rw [List.getElem?_map, List.getElem?_eq_getElem (by omega)]
    simp [List.getD, List.getElem?_eq_getElem (show i < bs.length by omega)]
  obtain ⟨u, e1, q⟩ := r.get h2
  rw [h1] at e1
  obtain rfl := Option.some.inj e1
  exact q
theorem range_all {bs : List Bool} : (List.range bs.length).all (fun i => bs.getD i true) = bs.all id := by
  have h : (List.range bs.length).map (fun i => bs.getD i true) = bs := by
    apply List.ext_getElem (by simp)
    intro i h1 h2
    simp [List.getD, List.getElem?_eq_getElem h2]
  have h2 : (List.range bs.length).all (fun i => bs.getD i true) = ((List.range bs.length).map (fun i => bs.getD i true)).all id := by rw [List.all_map]; rfl
  rw [h2, h]
theorem call_all (hc : X.calm = true) : CallR X (.builtin "all") (fun xs H Q => ∃ (p : Addr) (bs : List Bool), xs = [.ref p] ∧ SqL X.K H p (bs.map V.bl) ∧ Q (.bl (bs.all id)) H) := by
  intro pins s σ H xs us Q I r h
  obtain ⟨p, bs, rfl, hq, q⟩ := h
  obtain ⟨u, rfl, ru⟩ := vals1 r
  obtain rfl : u = Value.ref p := ru
  obtain ⟨its, rv, pl, hl⟩ := I.list hq
  have hil := pl.isList
  have hlt : p < s.heap.objs.size := by obtain ⟨o, e, _⟩ := hil; exact Heap.lt_size e
  have hlen := rv.length
  rw [List.length_map] at hlen
  have I2 : Inv X pins σ H { s with heap := s.heap.push { cls := .type "list_iterator", data := .fields #[.ref p, .int 0 0] } } := I.kept (t' := s.toks) fun b o e => Heap.get?_push_of_some _ e
  refine call_all_walk (wpAny_pyIter_list hil ⟨s.heap.objs.size, _, _, _, _, _, fun i => bs.getD i true, rfl, Walks.list (A := X.A.in1) (I.ok.hd hc) _ p (Nat.ne_of_lt hlt) its.toArray, ⟨⟨_, Heap.get?_push_size _ rfl, rfl, rfl⟩, hil.push _⟩, fun i v s Q E hv hQ => ?_, fun h' tk hk => ?_⟩)
  · rw [bools_at rv i v hv]
    exact wpAny_truthy_bool hQ
  · obtain ⟨f0, f1, f2, f3, f4, f5⟩ := I.fpOk (Nat.le_refl _) (I.hok.fresh (Nat.le_refl _))
    have e : (List.range its.toArray.size).all (fun i => bs.getD i true) = bs.all id := by rw [List.size_toArray, ← hlen, range_all]
    rw [e]
    refine ⟨.bl (bs.all id), H, ?_, rfl, q⟩
    exact (I2.turned (h' := h') (t' := tk) (it := s.heap.objs.size) (fun b o hb eo => hk b o (by simpa using hb) eo) f0 f1 f3 f4 f5 :)
end
/-- each text once, as they come -/
def put1 (l : List Str) (x : Str) : List Str := if l.any (· == x) then l else l ++ [x]
def met (f : Nat → Str) : Nat → List Str
  | 0 => []
  | i + 1 => put1 (met f i) (f i)
theorem put1_any (l : List Str) (x k : Str) : (put1 l x).any (· == k) = (l.any (· == k) || decide (k = x)) := by
  unfold put1
  by_cases h : l.any (· == x) = true
  · rw [if_pos h]
    by_cases e : k = x
    · subst e; rw [h]; simp
    · simp [e]
  · rw [if_neg h, List.any_append]
    by_cases e : k = x
    · subst e; simp
    · have hb : (x == k) = false := by simpa [beq_iff_eq] using (fun q : x = k => e q.symm)
      simp [hb, e]
theorem put1_len (l : List Str) (x : Str) : (put1 l x).length = if l.any (· == x) then l.length else l.length + 1 := by unfold put1; split <;> simp
theorem met_le (f : Nat → Str) : ∀ i, (met f i).length ≤ i
  | 0 => Nat.le_refl _
  | i + 1 => by
    have := met_le f i
    show (put1 (met f i) (f i)).length ≤ i + 1
    rw [put1_len]
    split <;> omega
section
variable {prog : Program} {w : World} {A : Around} {R : Result → Shared → Prop} {J : Addr} {fp wr : List Addr} {G : Array GenState → Array GenState → Prop} {n : Nat} {P : Nat → Value → Prop} {St : Nat → Shared → Prop}
theorem set_loopT (W : WalksS prog w A.in1 J fp wr G n P St) (S : Addr) (hS0 : S ∉ fp) (f : Nat → Str) (hf : ∀ i v, P i v → ∃ t, v = .str (f i) t) (hb : n + 1 < scanBound) :
    ∀ (m i : Nat) (s : Shared), n - i = m → i ≤ n → St i s → s.heap.SetOf (strKind prog w) S (fun q => (met f i).any (· == q)) (met f i).length →
      (∀ s', Moved (S :: wr) G s s' → s'.heap.SetOf (strKind prog w) S (fun q => (met f n).any (· == q)) (met f n).length → R (.ok (.ret .none)) s') → codeAny (model prog w) A (.builtin "set.update.loop" ⟨[.ref S, .ref J], []⟩) R s := by
  have hSw : S ∉ wr := fun h => hS0 (W.sub _ h)
  have hsub : ∀ b ∈ wr, b ∈ S :: wr := fun b hb => List.mem_cons_of_mem _ hb
  intro m
  induction m with
  | zero =>
    intro i s hk hi hst hS hR
    obtain rfl : i = n := by omega
    refine codeAny_builtin F.entry_set_update_loop ?_; rw [Around.under_plainId F.plain_set_update_loop _]
    show wpAny _ A.in1 (pyNext (.ref J) >>= _) _ _ s; refine wpAny_bind (W.done s _ _ hst fun s' hm => ?_)
    show wpAny _ A.in1 (ret Value.none) _ _ s'; exact wpAny_pure (hR s' (hm.mono hsub) (by obtain ⟨o, es, ep, t, ho, rest⟩ := hS; exact ⟨o, es, ep, t, hm.heap S _ hSw ho, rest⟩))
  | succ m ih =>
    intro i s hk hi hst hS hR
    have hlt : i < n := by omega
    refine codeAny_builtin F.entry_set_update_loop ?_; rw [Around.under_plainId F.plain_set_update_loop _]
    show wpAny _ A.in1 (pyNext (.ref J) >>= _) _ _ s; refine wpAny_bind (W.item i s _ _ hlt hst fun v s' hP hst' hm => ?_)
    obtain ⟨t, rfl⟩ := hf i v hP
    have hS' : s'.heap.SetOf (strKind prog w) S (fun q => (met f i).any (· == q)) (met f i).length := by obtain ⟨o, es, ep, tb, ho, rest⟩ := hS; exact ⟨o, es, ep, tb, hm.heap S _ hSw ho, rest⟩
    show wpAny _ A.in1 (holding [Value.str (f i) t] (setAdd S (.str (f i) t)) >>= _) _ _ s'; refine wpAny_bind (wpAny_holding ?_)
    unfold setAdd; refine wpAny_holding ?_; refine wpAny_bind ((strKind prog w).pyHash (k := f i) (strKind_is _ _ _ _) ?_)
    have hroom : (met f i).length + 1 < scanBound := by have := met_le f i; omega
    refine wpAny_setAddHashed_of (knd := strKind prog w) (s := { s' with toks := s'.toks + 1 }) (strKind_is _ _ _ _) rfl hS' hroom fun h' hsb hS2 => ?_
    have hSi : h'.SetOf (strKind prog w) S (fun q => (met f (i + 1)).any (· == q)) (met f (i + 1)).length := SetOf_congr hS2 (fun q => by show _ = (put1 (met f i) (f i)).any (· == q); rw [put1_any]) (by show _ = (put1 (met f i) (f i)).length; rw [put1_len])
    refine wpAny_pure ⟨plainId_quiet F.plain_set_update_loop _, ih (i + 1) _ (by omega) hlt (W.frame _ s' _ _ hst' (Nat.le_succ _) fun b hb o e => ?_) hSi fun s'' hm'' hS'' => ?_⟩
    · rw [hsb.2 b (fun h : b = S => hS0 (by rw [← h]; exact hb))]; exact e
    · refine hR s'' (Moved.trans W.gtrans ((hm.mono hsub).then_heap (Nat.le_succ _) fun b o hb e => ?_) hm'') hS''; rw [hsb.2 b (fun h : b = S => hb (by rw [h]; exact List.mem_cons_self))]; exact e
end
abbrev setO (led : Bool) : Obj := { cls := .type "set", dict := none, data := .set #[] 0 (.fresh 0 0 led) }
end L2

set_option Elab.async false
set_option linter.all false
set_option maxRecDepth 100000
namespace L2
open PySem PySem.Spec PyProof.Rows
section
variable {X : Cx} {pins : List (Addr × Obj)} {σ : List (Option V)} {H : Hp} {s : Shared} {h' : Heap}
/-- .. and a new thing is laid -/
theorem Inv.turnedO {t' : Nat} {ch : List Addr} {T : Addr} {nw : HO} (I : Inv X pins σ H s) (hf : ∀ b ∈ ch, FpOk X pins H b) (k : ∀ b o, b ∉ ch → s.heap.get? b = some o → h'.get? b = some o) (hT : s.heap.objs.size ≤ T)
    (new : ObjOk X.prog X.w (upd H T nw) h' T nw) : Inv X pins σ (upd H T nw) { s with heap := h', toks := t' } := by
  have hn := I.hok.fresh hT
  have nit : ∀ b u, H b = some u → b ∉ ch := fun b u e z => by rw [(hf b z).1] at e; cases e
  have nT : ∀ b o, H b = some o → upd H T nw b = some o := fun b o e => by rw [upd_ne (ne_of_none e hn)]; exact e
  refine I.step (g' := s.gens) (d' := s.drawn) (ch := ch) (fun b hb => ?_) (fun b o _ _ hc e _ => k b o hc e) (fun b o _ _ hc e _ => ⟨o.slots, k b o hc e⟩) (fun b o _ e n => ?_) (fun b o hc e => ⟨o, k b o hc e⟩) (fun b ys e => nT b _ e) (fun b o u e => nT b _ e) (fun b ps e => ⟨#[], by rw [nT b _ e]; simp⟩) (fun m hm => ?_) (fun b u e => ?_) I.bare
  · obtain ⟨_, f1, _, f3, f4, f5⟩ := hf b hb
    exact ⟨f3, f1, f4, f5⟩
  · rw [upd_ne (fun z => absurd (Heap.lt_size e) (by rw [z]; exact Nat.not_lt.mpr hT))]
    exact n
  · obtain ⟨o, es, ep, ho, r⟩ := hm
    exact ⟨o, es, ep, k _ o (fun z => (hf _ z).2.1 rfl) ho, r⟩
  · by_cases hb : b = T
    · subst hb; rw [upd_same] at e; cases e; exact new
    · rw [upd_ne hb] at e
      refine (I.hok b u e).stay (fun c v hc q => k c v ?_ q) (fun c q => nT c _ q) fun c ys q => nT c _ q
      rcases hc with z | z
      · rw [z]; exact nit b u e
      · exact nit c _ z
end
theorem strs_at {ys : List Str} {us : List Value} (r : Vals (ys.map V.str) us) : ∀ (i : Nat) (v : Value), us.toArray[i]? = some v → ∃ t : Tok, v = Value.str (ys.getD i "") t := fun i v hv => by
  have h1 : us[i]? = some v := by simpa using hv
  have hlt := (List.getElem?_eq_some_iff.mp h1).1
  have hl := r.length
  rw [List.length_map] at hl
  have h2 : (ys.map V.str)[i]? = some (V.str (ys.getD i "")) := by
    rw [List.getElem?_map, List.getElem?_eq_getElem (by omega)]
    simp [List.getD, List.getElem?_eq_getElem (show i < ys.length by omega)]
  obtain ⟨u, e1, q⟩ := r.get h2
  rw [h1] at e1
  obtain rfl := Option.some.inj e1
  exact q
/-- a set of texts, so many of them -/
def SetS (P : Program) (w : World) (a : Addr) (n : Nat) : HO := .ext fun h => ∃ S : Str → Bool, h.SetOf (strKind P w) a S n
/-- how many texts there are, each counted once -/
def many (ys : List Str) : Nat := (met (fun i => ys.getD i "") ys.length).length
section
variable {X : Cx}
theorem call_lenSet : CallR X (.builtin "len") (fun xs H Q => ∃ (p : Addr) (n : Nat), xs = [.ref p] ∧ H p = some (SetS X.prog X.w p n) ∧ Q (.int n) H) := by
  intro pins s σ H xs us Q I r h
  obtain ⟨p, n, rfl, hp, q⟩ := h
  obtain ⟨u, rfl, ru⟩ := vals1 r
  obtain rfl : u = Value.ref p := ru
  obtain ⟨⟨S, o, es, ep, t, ho, hex, hd, _, _, hsz, hf, rfl⟩, _⟩ := I.hok p _ hp
  exact call_len_set ho hex hd hf (by unfold scanBound at hsz; omega) ⟨.int _, H, I.tok _, ⟨_, rfl⟩, q⟩
end
end L2

set_option Elab.async false
set_option linter.all false
set_option maxRecDepth 100000
namespace L2
open PySem PySem.Spec PyProof.Rows
open AutoSeq1 (wpAny_loadPart')
section
variable {X : Cx}
end
end L2

set_option Elab.async false
set_option linter.all false
set_option maxRecDepth 100000
/-! ranges that go down: range(i, j, -1), reversed(range(i, j)) -/
namespace L2
open PySem PySem.Spec PyProof.Rows
section
variable {X : Cx} {tg : Expr}
end
section
variable {prog : Program} {w : World} {A : Around} {E : Value → Shared → Prop} {s : Shared}
end
section
variable {X : Cx} {tg : Expr}
end
end L2

set_option Elab.async false
set_option linter.all false
set_option maxRecDepth 100000
/-! xs[a:] = ys, texts compared, d[..] as a target, things within things that stay -/
namespace L2
open PySem PySem.Spec PyProof.Rows
section
variable {prog : Program} {w : World} {A : Around} {E : Value → Shared → Prop} {s : Shared}
end
section
variable {X : Cx}
end
/-! what is deep stays while lists and dicts change -/
theorem Deep.updL {H : Hp} {l : Addr} {o o' : HO} {v : V} {d : Dv} (h : Deep H v d) (e : H l = some o) (n1 : ∀ ys, o ≠ .tup ys) : Deep (upd H l o') v d :=
  h.keep (fun b ys q => by rw [upd_ne (ne_of q e fun z => n1 ys z.symm)]; exact q)
theorem Deeps.updL {H : Hp} {l : Addr} {o o' : HO} {v : List V} {d : List Dv} (h : Deeps H v d) (e : H l = some o) (n1 : ∀ ys, o ≠ .tup ys) : Deeps (upd H l o') v d :=
  h.keep (fun b ys q => by rw [upd_ne (ne_of q e fun z => n1 ys z.symm)]; exact q)
theorem Deep.str' {H : Hp} {v : V} {x : Str} (h : Deep H v (.str x)) : v = .str x := by cases h; rfl
theorem Deep.int' {H : Hp} {v : V} {i : Int} (h : Deep H v (.int i)) : v = .int i := by cases h; rfl
theorem Deep.tup' {H : Hp} {v : V} {ds : List Dv} (h : Deep H v (.tup ds)) : ∃ a xs, v = .ref a ∧ H a = some (.tup xs) ∧ Deeps H xs ds := by cases h with | tup h t => exact ⟨_, _, rfl, h, t⟩
/-! rules in a block: the written part by hand -/
section
variable {X : Cx} {K0 : PySem.W.Frag}
end
end L2

set_option Elab.async false
set_option linter.all false
set_option maxRecDepth 100000
/-! tuples: the whole cut out, the empty one ahead; rules that do not name the written part -/
namespace L2
open PySem PySem.Spec PyProof.Rows
open AutoSeq1 (wpAny_loadPart')
section
variable {prog : Program} {w : World} {A : Around} {E : Value → Shared → Prop} {s : Shared}
theorem tup_add0 (t b : Addr) (ys : Array Value) (n n2 : Nat) (dd dd2 : Option Addr) (sl sl2 : Array (Option Value)) :
    Meets (Builtin.«tuple.__add__» ⟨[.ref t, .ref b], []⟩) (fun _ R s => s.heap.get? t = some ⟨.type "tuple", dd, .seq #[] n, sl⟩ ∧ s.heap.get? b = some ⟨.type "tuple", dd2, .seq ys n2, sl2⟩ ∧ R (.ok (.ret (.ref b))) s) :=
  .of_wp fun prog w A R s h => by
    obtain ⟨hp, g, d, tk, os⟩ := s; obtain ⟨hl, hb, h⟩ := h
    have f2 := AutoSeq1.sub_tuple_tuple
    wp_walk using wpAny_loadPart' hl, wpAny_loadPart' hb
    exact ⟨_, rfl, h⟩
theorem cat_tup0 {t b : Addr} {ws : List Value} {Q : Value → Shared → Prop} (ht : IsTup s.heap t #[]) (hb : IsTup s.heap b ws.toArray) (q : Q (.ref b) s) : wpAny (model prog w) A (binaryOp .Add (.ref t) (.ref b)) Q E s := by
  obtain ⟨⟨cls, dd, data, sl⟩, ho, hc, n, hd⟩ := id ht
  obtain ⟨⟨cls2, dd2, data2, sl2⟩, ho2, hc2, n2, hd2⟩ := id hb
  simp only at hc hd hc2 hd2
  subst hc hd hc2 hd2
  exact concat_meets ⟨_, ho, rfl⟩ ⟨_, ho2, rfl⟩ noFill_tuple_add seq_tuple_add PySem.F.slot_tuple_add PySem.F.entry_tuple_add (PySem.F.args_tuple_add_2 _ _) (tup_add0 t b ws.toArray n n2 dd dd2 sl sl2) ⟨ho, ho2, q⟩
open HT in
theorem tup_whole {t sl : Addr} {its : Array Value} {vl vu : Value} {lo hi : Option Int} {Q : Value → Shared → Prop} (ht : IsTup s.heap t its) (hs : s.heap.IsSliceOf sl vl vu .none) (pl : IsPart vl lo) (pu : IsPart vu hi) (hw : sIx its.size 0 lo = 0 ∧ sIx its.size its.size hi = its.size) (q : Q (.ref t) s) :
    wpAny (model prog w) A (getItem (.ref t) (.ref sl)) Q E s := by
  obtain ⟨os, hos, hcs, hds⟩ := id hs
  have hTs : s.TypeIs (.ref sl) "slice" := ⟨os, hos, hcs⟩
  unfold getItem
  try with_reducible refine wpAny_holding ?_
  first | refine wpAny_bind (wpAny_pure ?_) | skip
  refine wpAny_bind (wpAny_sequenceKey ht.typeIs (by decide) ?_)
  refine wpAny_bind (wpAny_callSpecial?_slot (name := Str.ofString "__getitem__") ht.typeIs PyProof.Rows.slot_tuple_getitem (wpAny_call_entry PyProof.Rows.slot_tuple_getitem ht.typeIs entry_tuple_getitem ?_ (args_tuple_getitem _ _)))
  show wpAny _ _ (Builtin.Tuple.tupleItemsOf (.ref t) >>= _) _ _ s; refine wpAny_bind (tupleItemsOf_ ht ?_)
  refine wpAny_bind (wpAny_typeOf hTs ?_); rw [if_pos (by decide)]; refine wpAny_bind (sliceApplied_gen hs pl pu ?_)
  rw [hw.1, hw.2]
  show wpAny _ _ (if (((0 : Nat) : Int) == 0 && (1 : Int) == 1 && (its.size - 0) == its.size) = true then _ else _) _ _ s; rw [if_pos (by simp)]
  obtain ⟨⟨cls, dd, data, sl'⟩, ho, hc, n, hd⟩ := id ht
  simp only at hc hd
  subst hc hd
  wp_walk using wpAny_loadPart' ho
  exact ⟨_, rfl, wpAny_pure q⟩
end
section
variable {X : Cx}
theorem op_catT0 : OpR X (binaryOp .Add) (fun x y H Q => ∃ a b ys, x = .ref a ∧ y = .ref b ∧ Rd H a (.tup []) ∧ Rd H b (.tup ys) ∧ Q (.ref b) H) := by
  intro pins s σ H x y v u Q I rx ry h
  obtain ⟨a, b, ys, rfl, rfl, ha, hb, q⟩ := h
  cases rx
  cases ry
  obtain ⟨its, r1, p1, _⟩ := I.tuple (.inl ha)
  obtain ⟨its2, r2, p2, _⟩ := I.tuple (.inl hb)
  obtain rfl : its = [] := r1.nil_iff.mpr rfl
  exact cat_tup0 p1 p2 ⟨.ref b, H, I, rfl, q⟩
/-- t + u, whatever they hold -/
def rCatR : R2 := fun x y H Q => ∃ a b xs ys, x = .ref a ∧ y = .ref b ∧ Rd H a (.tup xs) ∧ Rd H b (.tup ys) ∧ xs.length + ys.length ≤ sizeLine ∧ (xs = [] → Q (.ref b) H) ∧ (xs ≠ [] → ys = [] → Q (.ref a) H) ∧ (xs ≠ [] → ys ≠ [] → ∀ p, H p = none → Q (.ref p) (upd H p (.tup (xs ++ ys))))
theorem op_catR : OpR X (binaryOp .Add) rCatR := by
  intro pins s σ H x y v u Q I rx ry h
  obtain ⟨a, b, xs, ys, rfl, rfl, ha, hb, hz, q0, q1, q2⟩ := h
  by_cases hx : xs = []
  · subst hx
    exact op_catT0 pins s σ H _ _ v u Q I rx ry ⟨a, b, ys, rfl, rfl, ha, hb, q0 rfl⟩
  · exact op_catT pins s σ H _ _ v u Q I rx ry ⟨a, b, xs, ys, rfl, rfl, .inl ha, .inl hb, hx, hz, q1 hx, q2 hx⟩
theorem ix_tupR : IxR X (fun x y H Q => ∃ p xs i v, x = .ref p ∧ y = .int i ∧ Rd H p (.tup xs) ∧ atI xs i = some v ∧ Q v H) := fun value slice pins s σ H x y v u Q I rx ry ⟨p, xs, i, z, e1, e2, hq, he, q⟩ hs => ix_tup value slice pins s σ H x y v u Q I rx ry ⟨p, xs, i, z, e1, e2, .inl hq, he, q⟩ hs
theorem ix_listR : IxR X (fun x y H Q => ∃ p xs i v, x = .ref p ∧ y = .int i ∧ Rd H p (.lst xs) ∧ atI xs i = some v ∧ Q v H) := fun value slice pins s σ H x y v u Q I rx ry ⟨p, xs, i, z, e1, e2, hq, he, q⟩ hs => ix_list value slice pins s σ H x y v u Q I rx ry ⟨p, xs, i, z, e1, e2, .inl hq, he, q⟩ hs
/-- t[lo:hi] -/
def rSlR : V → Option Int → Option Int → Hp → VK → Prop := fun x lo hi H Q => ∃ a xs, x = .ref a ∧ Rd H a (.tup xs) ∧ ((HT.sIx xs.length 0 lo = 0 ∧ HT.sIx xs.length xs.length hi = xs.length) → Q (.ref a) H) ∧ (¬ (HT.sIx xs.length 0 lo = 0 ∧ HT.sIx xs.length xs.length hi = xs.length) → ∀ p, H p = none → Q (.ref p) (upd H p (.tup (cutV xs lo hi))))
theorem sl_tupR : SlR X rSlR := by
  intro pins s σ H x v vl vu lo hi sl Q I rx hs pl pu h
  obtain ⟨a, xs, rfl, hx, q1, q2⟩ := h
  by_cases hw : HT.sIx xs.length 0 lo = 0 ∧ HT.sIx xs.length xs.length hi = xs.length
  · cases rx
    obtain ⟨its, r, ht, hz⟩ := I.tuple (.inl hx)
    have hlen : its.toArray.size = xs.length := by rw [List.size_toArray]; exact r.length.symm
    exact ⟨"tuple", _, PyProof.Rows.slot_tuple_getitem.lookup, ht.typeIs, tup_whole ht hs pl pu (by rw [hlen]; exact hw) ⟨.ref a, H, I, rfl, q1 hw⟩⟩
  · exact sl_tup pins s σ H (.ref a) v vl vu lo hi sl Q I rx hs pl pu ⟨a, xs, rfl, .inl hx, hw, q2 hw⟩
theorem cutV_nat (xs : List V) (a c : Nat) : cutV xs (some (a : Int)) (some (c : Int)) = (xs.take c).drop a := by
  unfold cutV
  rw [HT.sIx_nat, HT.sIx_nat, List.drop_take]
  by_cases h : a ≤ xs.length
  · rw [show min a xs.length = a by omega]
    apply List.ext_getElem?
    intro i
    rw [List.getElem?_take, List.getElem?_take]
    by_cases h1 : i < min c xs.length - a
    · rw [if_pos h1, if_pos (by omega)]
    · rw [if_neg h1]
      by_cases h2 : i < c - a
      · rw [if_pos h2, List.getElem?_drop, List.getElem?_eq_none (by omega)]
      · rw [if_neg h2]
  · rw [show min a xs.length = xs.length by omega, List.drop_length, List.take_nil, List.drop_of_length_le (by omega), List.take_nil]
theorem rSlR.deep {x : V} {lo : Nat} {hi : Nat} {H : Hp} {Q : VK} {ds : List Dv} (hx : Deep H x (.tup ds)) (k : ∀ v H', Same H H' → Deep H' v (.tup ((ds.take hi).drop lo)) → Q v H') : rSlR x (some (lo : Int)) (some (hi : Int)) H Q := by
  obtain ⟨a, xs, rfl, h1, t1⟩ := hx.tup'
  have l1 := t1.length
  refine ⟨a, xs, rfl, .inl h1, fun z => ?_, fun _ p hp => ?_⟩
  · rw [HT.sIx_nat, HT.sIx_nat] at z
    refine k _ _ (Same.refl _) ?_
    have e : (ds.take hi).drop lo = ds := by
      by_cases h0 : ds = []
      · rw [h0]; simp
      · have : 0 < ds.length := List.length_pos_iff.mpr h0
        rw [List.take_of_length_le (by omega), show lo = 0 by omega, List.drop_zero]
    rw [e]
    exact hx
  · have S := Same.new (o := .tup (cutV xs (some (lo : Int)) (some (hi : Int)))) hp
    have t2 : Deeps H (cutV xs (some (lo : Int)) (some (hi : Int))) ((ds.take hi).drop lo) := by
      rw [cutV_nat]
      exact (t1.take hi).drop lo
    exact k _ _ S (.tup upd_same (t2.same S))
end
end L2

set_option Elab.async false
set_option linter.all false
set_option maxRecDepth 100000
/-! all([.. for ..]) where all are so; [.. for ..] of known things -/
namespace L2
open PySem PySem.Spec PyProof.Rows
section
variable {J : It} {n : Nat} {Ok : Hp → Prop} {item : Nat → Hp → V → Hp → Prop} {wi : TI} {g : TG} {te : TE} {Q : VK} {σ : St} {H : Hp} {K : PySem.W.Frag}
end
end L2

set_option Elab.async false
set_option linter.all false
set_option maxRecDepth 100000
/-! [.. for ..] that tells deep things one by one, laying new things only -/
namespace L2
open PySem PySem.Spec PyProof.Rows
section
variable {J : It} {n : Nat} {Ok : Hp → Prop} {item : Nat → Hp → V → Hp → Prop} {wi : TI} {g : TG} {te : TE} {Q : VK} {σ : St} {H : Hp}
theorem deeps_snoc {H H' : Hp} {vs : List V} {u : V} {ds : List Dv} {i : Nat} {d : Dv} (h : Deeps H vs (ds.take i)) (S : Same H H') (e : ds[i]? = some d) (hu : Deep H' u d) : Deeps H' (vs ++ [u]) (ds.take (i + 1)) := by
  rw [List.take_add_one, e]
  exact (h.same S).append (.cons hu .nil)
theorem comp_deep {NB : List Str} (F : Fix J n Ok item) (ds : List Dv) (hn : ds.length = n) (h : ∀ R : It → Hp → Prop, (∀ H1, Same H H1 → R J H1) → wi σ H R) (ho : ∀ H1, Same H H1 → Ok H1)
    (hs : ∀ i v H1 H2 d (R : V → Hp → Prop), ds[i]? = some d → Same H H1 → item i H1 v H2 → (∀ u H4, Same H1 H4 → Deep H4 u d → R u H4) → g v (List.replicate NB.length none) H2 fun σ2 H3 => te σ2 H3 R)
    (hd : ∀ xs H1 p, Same H H1 → Deeps H1 xs ds → H1 p = none → Q (.ref p) (upd H1 p (.lst xs))) (hz : n < sizeLine) : tComp NB wi g tAll te σ H Q := by
  refine comp_fix F (fun i vs H1 => Same H H1 ∧ Deeps H1 vs (ds.take i)) (fun R k => h R fun H1 S => k H1 ⟨S, .nil⟩) (fun i vs H1 hi ⟨S, t⟩ => ⟨ho H1 S, by rw [t.length, List.length_take]; omega⟩) ?_ ?_ hz
  · rintro i v vs H1 H2 hi ⟨S, t⟩ it
    have e : ds[i]? = some ds[i] := List.getElem?_eq_getElem (by omega)
    exact hs i v H1 H2 _ (fun u H4 => Same H H4 ∧ Deeps H4 (vs ++ [u]) (ds.take (i + 1))) e S it fun u H4 S4 du => ⟨S.trans S4, deeps_snoc t S4 e du⟩
  · rintro vs H1 ⟨S, t⟩ p hp
    rw [List.take_of_length_le (by omega)] at t
    exact hd vs H1 p S t hp
theorem deep_tup {H : Hp} {xs : List V} {ds : List Dv} (t : Deeps H xs ds) {p : Addr} (hp : H p = none) : Deep (upd H p (.tup xs)) (.ref p) (.tup ds) := .tup upd_same (t.same (Same.new hp))
theorem deeps_ints {H : Hp} : ∀ {xs : List V} {ns : List Int}, Deeps H xs (ns.map Dv.int) → xs = ns.map V.int
  | _, [], .nil => rfl
  | _, n :: ns, .cons h t => by
    obtain rfl := h.int'
    rw [deeps_ints (ns := ns) t]
    rfl
end
section
variable {X : Cx} {K0 : PySem.W.Frag} {o e : Expr} {es : List Expr} {to : TE} {t : TA} {name : Str} {apos cpos : Pos} {T id : String} {r : V → List V → Hp → VK → Prop}
end
theorem cb1 {r : List V → Hp → VK → Prop} {te : TE} {σ : St} {H : Hp} {Q : VK} (h : te σ H fun v H1 => r [v] H1 Q) : tCB r (tCons te tNil) σ H Q := h
theorem rSlR.deep0 {x : V} {hi : Nat} {H : Hp} {Q : VK} {ds : List Dv} (hx : Deep H x (.tup ds)) (k : ∀ v H', Same H H' → Deep H' v (.tup (ds.take hi)) → Q v H') : rSlR x none (some (hi : Int)) H Q := by
  have h := rSlR.deep (lo := 0) (hi := hi) (Q := Q) hx (by simpa using k)
  obtain ⟨a, xs, e, h1, h2, h3⟩ := h
  refine ⟨a, xs, e, h1, fun z => h2 ?_, fun z p hp => ?_⟩
  · rw [HT.sIx_nat, Nat.zero_min]; exact ⟨rfl, z.2⟩
  · have e2 : cutV xs none (some (hi : Int)) = cutV xs (some ((0 : Nat) : Int)) (some (hi : Int)) := by unfold cutV; rw [HT.sIx_none, show HT.sIx xs.length 0 (some ((0 : Nat) : Int)) = 0 by rw [HT.sIx_nat, Nat.zero_min]]
    rw [e2]
    exact h3 (fun y => z ⟨rfl, y.2⟩) p hp
end L2

set_option Elab.async false
set_option linter.all false
set_option maxRecDepth 100000
/-! a comprehension whose walk is known only behind its iterable -/
namespace L2
open PySem PySem.Spec PyProof.Rows
end L2

set_option Elab.async false
set_option linter.all false
set_option maxRecDepth 100000
/-! a name set to a comprehension whose block reads names of the def -/
namespace L2
open PySem PySem.Spec PyProof.Rows
section
variable {X : Cx}
end
end L2

set_option Elab.async false
set_option linter.all false
set_option maxRecDepth 100000
/-! one of a written list of things, drawn; written things behind a veil -/
namespace L2
open PySem PySem.Spec PyProof.Rows
section
variable {X : Cx}
def rIxLR : R2 := fun x y H Q => ∃ p xs i v, x = .ref p ∧ y = .int i ∧ Rd H p (.lst xs) ∧ atI xs i = some v ∧ Q v H
theorem pex_pick {es : List Expr} {t : TA} {b : Expr} {tb : TE} {p pos : Pos} (h : PAx X es t) (hb : PEx X b tb) (hs : PlainIx b) : PEx X (.Subscript (.List es p) b pos) (tOp rIxLR (tLst t) tb) := ⟨pe_ix ix_listR (pe_lst h.pa) hb.pe hs⟩
theorem psy_set {i : Nat} {x : Str} {e : Expr} {te : TE} {pos pos' : Pos} (hN : X.N.Nodup) (hi : X.N[i]? = some x) (hx : Loc X.env.scope x) (he : PEx X e te) (hs : swapsWith e (some (.Name x pos')) pos.line X.env = pure false) (hf : X.fn x = true) : PSy X (.Assign [.Name x pos'] e pos) (tAsg te (gName i)) := ⟨ps_set hN hi hx he.pe hs (.inl hf)⟩
theorem psy_for {tg iter : Expr} {body : List Stmt} {wi : TI} {g : TG} {tb : TS} {pos : Pos} (hp : PassesOwn (model X.prog X.w) X.A X.env X.xe) (hc : X.calm = true) (hi : PI X tg iter wi) (hg : PG X tg g) (hb : PSx X body tb) (hs : ∀ x, foldedSetIterable iter X.env x = pure x) : PSy X (.For tg iter body [] pos) (tFor wi g tb) := ⟨ps_for hp hc hi hg hb.ps hs⟩
theorem psy_ret {e : Expr} {te : TE} {pos : Pos} (he : PEx X e te) : PSy X (.Return (some e) pos) (tRet te) := ⟨ps_ret he.pe⟩
end
/-- displays whose things are deep -/
def TaD (ta : TA) (ds : List Dv) : Prop := ∀ (σ : St) (H : Hp) (R : List V → Hp → Prop), (∀ xs H1, Same H H1 → Deeps H1 xs ds → R xs H1) → ta σ H R
theorem taD_nil : TaD tNil [] := fun σ H R h => h [] H (Same.refl _) .nil
theorem taD_str {x : Str} {t : TA} {ds : List Dv} (h : TaD t ds) : TaD (tCons (tC (.str x)) t) (.str x :: ds) := fun σ H R k => h σ H _ fun xs H1 S t => k _ _ S (.cons .str t)
section
variable {K : PySem.W.Frag}
section
variable {H H' : Hp} {a t r : Addr} {ns : List Int} {c c' : Int}
theorem Bag.tups (B : Bag K H a t r ns c) (A : Apart t r H H') : ∀ b ys, H b = some (.tup ys) → H' b = some (.tup ys) := fun b ys e => B.keep A e fun _ z => nomatch z
theorem Bag.pickD {σ : St} {i j : Nat} {n : Int} {ta : TA} {ds : List Dv} {Q : VK} {E : XK} (B : Bag K H a t r ns c) (hi : σ[i]? = some (some (.ref a))) (hj : σ[j]? = some (some (.ref t))) (hta : TaD ta ds) (hn : n = (ds.length : Int)) (h0 : 0 < n) (h1 : n < 1000) (hc : c < 100000)
    (k : ∀ (d : Nat) (x : V) (dv : Dv) (H' : Hp), ds[d]? = some dv → Deep H' x dv → Bag K H' a t r ns (c + 1) → Apart t r H H' → Q x H') : tOp rIxLR (tLst ta) (tCall (spDraw K) [] E (tCons (tVar i) (tCons (tVar j) (tCons (tC (.int n)) tNil)))) σ H Q := by
  have hz : 1000 ≤ sizeLine := by decide
  refine hta _ _ _ fun xs H1 S1 T1 => ⟨by have := T1.length; omega, fun p hp => ?_⟩
  have S := Same.new (o := .lst xs) hp
  have B1 := B.same (S1.trans S)
  refine B1.draw hi hj (fun R h => h) h0 (by omega) hc fun d H' hd B' A' => ?_
  have hl := T1.length
  obtain ⟨x, hx⟩ : ∃ x, xs[d]? = some x := ⟨_, List.getElem?_eq_getElem (by omega)⟩
  have hpp : H' p = some (.lst xs) := B1.keep A' upd_same fun _ z => nomatch z
  obtain ⟨dv, hdv, ddv⟩ := T1.getX hx
  exact ⟨p, xs, d, x, rfl, rfl, .inl hpp, atI_nat hx, k d x dv H' hdv ((ddv.same S).keep (B1.tups A')) B' (fun b o e n1 n2 => A' b o ((S1.trans S) _ _ e) n1 n2)⟩
end
end
end L2

set_option Elab.async false
set_option linter.all false
set_option maxRecDepth 100000
/-! arguments that are no stars, told by their shape alone: nothing of the code's meaning is reckoned out -/
namespace L2
open PySem PySem.Spec PyProof.Rows
def isStar : Expr → Bool
  | .Starred .. => true
  | _ => false
theorem star_of {e : Expr} {es : List Expr} {env : Env} (h : isStar e = false) : starEach (e :: es) env = (false, eval e env) :: starEach es env := by
  cases e <;> first | rfl | cases h
section
variable {X : Cx} {K0 : PySem.W.Frag} {o e e1 : Expr} {es : List Expr} {to te te1 : TE} {t : TA} {name : Str} {apos cpos : Pos} {T id : String} {r : V → List V → Hp → VK → Prop}
theorem pa_c (ha : PE X e te) (hr : PA X es t) (h : isStar e = false := by rfl) : PA X (e :: es) (tCons te t) := pa_cons ha hr (star_of h)
theorem pe_bm1 (pa : PlainAttrs T) (slot : Slot T name id) (hty : typeOf (.builtin id) = pure (.type "method_descriptor")) (hm : MtR X id r) (ho : PE X o to) (ha : PA X [e] t) (h : isStar e = false := by rfl)
    (hbase : attributeBase o name X.env (eval o X.env) = eval o X.env := by rfl) (hline : (apos.endLine == cpos.line) = true := by rfl) : PE X (.Call (.Attribute o name apos) [e] [] cpos) (tBM X.K T r to t) := by
  refine pe_bm pa slot hty hm ho ha hbase ?_ hline (star_of h) rfl
  rw [star_of h]
  rfl
theorem pex_op {a b : Expr} {ta tb : TE} {pos : Pos} {op : Operator} {r : R2} (hr : OpR X (binaryOp op) r) (ha : PEx X a ta) (hb : PEx X b tb) : PEx X (.BinOp a op b pos) (tOp r ta tb) := ⟨pe_op hr ha.pe hb.pe⟩
theorem pax_c (ha : PEx X e te) (hr : PAx X es t) (h : isStar e = false) : PAx X (e :: es) (tCons te t) := ⟨pa_cons ha.pe hr.pa (star_of h)⟩
theorem pex_if {c a b : Expr} {tA : TT} {ta tb : TE} {pos : Pos} (hc : PT X c tA) (ha : PEx X a ta) (hb : PEx X b tb) : PEx X (.IfExp c a b pos) (tIf tA ta tb) := ⟨pe_ifExp hc ha.pe hb.pe⟩
theorem pex_tup {k : Nat} {pos : Pos} (h : PAx X es t) : PEx X (.Tuple es k pos) (tTup t) := ⟨pe_tup h.pa⟩
theorem psy_if {c : Expr} {a b : List Stmt} {tc : TT} {t1 u : TS} {pos : Pos} (hc : PT X c tc) (ha : PSx X a t1) (hb : PSx X b u) : PSy X (.If c a b pos) (tIfS tc t1 u) := ⟨ps_if hc ha.ps hb.ps⟩
theorem psx_nil : PSx X [] tNext := ⟨pss_nil⟩
end
end L2

set_option Elab.async false
set_option linter.all false
set_option maxRecDepth 100000
/-! three lists or tuples side by side -/
namespace L2
open PySem PySem.Spec PyProof.Rows
open Builtin Builtin.Str
section
variable {prog : Program} {w : World} {A : Around} {E : Value → Shared → Prop} {s : Shared} {z TI TO i1 i2 i3 : Addr} {k n1 n2 n3 : Nat} {f1 f2 f3 : List Addr} {P1 P2 P3 : Nat → Value → Prop} {S1 S2 S3 : Nat → Heap → Prop} {a b c : Value}
end
section
variable {X : Cx}
end
end L2

set_option Elab.async false
set_option linter.all false
set_option maxRecDepth 100000
/-! reversed(tuple) -/
namespace L2
open PySem PySem.Spec PyProof.Rows
open Builtin Builtin.Str
section
variable {prog : Program} {w : World} {A : Around} {E : Value → Shared → Prop} {s : Shared}
end
section
variable {X : Cx}
end
end L2

set_option Elab.async false
set_option linter.all false
set_option maxRecDepth 100000
/-! a thing in a tuple of things; three comparisons in a row; reversed(range(n)); written dicts behind a veil -/
namespace L2
open PySem PySem.Spec PyProof.Rows
section
variable {X : Cx}
open Classical in
theorem hd16_of {A : Around} {k : Nat} (hr : Room k A) : A.units + 16 < cLine := Nat.lt_of_le_of_lt (by omega : A.units + 16 ≤ A.units + 64) hr.units
/-! written dicts -/
structure PPx (X : Cx) (pos : Pos) (ks : List (Option Expr)) (vs : List Expr) (trs : List (TE × TE)) : Prop where
  pp : PPs X pos ks vs trs
theorem ppx_nil {pos : Pos} : PPx X pos [] [] [] := ⟨pps_nil⟩
theorem ppx_cons {pos : Pos} {k v : Expr} {ks : List (Option Expr)} {vs : List Expr} {tk tv : TE} {trs : List (TE × TE)} (hk : PEx X k tk) (hv : PEx X v tv) (h : PPx X pos ks vs trs) : PPx X pos (some k :: ks) (v :: vs) ((tk, tv) :: trs) := ⟨pps_cons hk.pe hv.pe h.pp⟩
theorem pex_dispN {pos : Pos} {ks : List (Option Expr)} {vs : List Expr} {trs : List (TE × TE)} (h : PPx X pos ks vs trs) (hall : ks.all (·.isSome) = true) (hl : ks.length = vs.length) (h0 : ks ≠ []) (h15 : ks.length ≤ 15) : PEx X (.Dict ks vs pos) (tDisp trs) := ⟨pe_disp h.pp hall hl h0 h15⟩
theorem pex_dget {o i : Expr} {pos : Pos} {td ty : TE} (hu : X.A.units + 1 < cLine) (ho : PEx X o td) (hi : PEx X i ty) (hs : NoSl i) : PEx X (.Subscript o i pos) (tDGet td ty) := ⟨pe_dget hu ho.pe hi.pe hs⟩
end
end L2

set_option Elab.async false
set_option linter.all false
set_option maxRecDepth 100000
/-! set(list of texts) -/
namespace L2
open PySem PySem.Spec PyProof.Rows
set_option maxHeartbeats 6400000 in
theorem call_setLs {prog : Program} {w : World} {A : Around} {E : Value → Shared → Prop} {s : Shared} {a : Addr} {its : Array Value} {f : Nat → Str} {Q : Value → Shared → Prop} (hh : A.handled = none) (hT0 : s.heap.IsList a its) (hf : ∀ (i : Nat) (v : Value), its[i]? = some v → ∃ t : Tok, v = Value.str (f i) t) (hb : its.size + 1 < scanBound)
    (h : ∀ (h' : Heap) (tk : Nat), h'.SetOf (strKind prog w) s.heap.objs.size (fun q => (met f its.size).any (· == q)) (met f its.size).length → (∀ b o, b < s.heap.objs.size → s.heap.get? b = some o → h'.get? b = some o) → Q (.ref s.heap.objs.size) { s with heap := h', toks := tk }) :
    wpAny (model prog w) A (call (.type "set") [.ref a]) Q E s := by
  obtain ⟨c, tl, hmro⟩ := F.called_set.mro
  have hmade := F.called_set.made
  have hsub := F.called_set.sub
  refine wpAny_call (codeAny_of_tree ?_); show wpAny _ _ (callAny (.type "set") _) _ _ _
  refine wpAny_pure ⟨Code.quiet_builtin _ (by decide +kernel), codeAny_builtin F.entry_type_call ?_⟩; rw [Around.under_plain (weight_type_call_type "set" [.ref a] []) rfl]
  have h1 := F.called_set.notType
  have h2 := F.called_set.canCreate
  have hct := F.typeCall_set_1 (.ref a)
  repeat (any_goals (first | assumption | wp_step))
  refine codeAny_mono (code_set_new_1 (.ref a) (E := E) (Q₁ := fun obj s₁ => ∃ led : Bool, obj = .ref s.heap.objs.size ∧ s₁ = { s with heap := s.heap.push (setO led) }) fun led => ⟨led, rfl, rfl⟩) fun r s₁ hr => ?_
  cases r with
  | error e => exact hr
  | ok fl =>
    cases fl with
    | ret obj =>
      obtain ⟨led, rfl, rfl⟩ := hr
      have hS : (s.heap.push (setO led)).get? s.heap.objs.size = some (setO led) := Heap.get?_push_size _ rfl
      have hT : Shared.TypeIs { s with heap := s.heap.push (setO led) } (.ref s.heap.objs.size) "set" := ⟨_, hS, rfl⟩
      have hli := F.called_set.init.lookup
      have hbi := F.called_set.init.bind (.ref s.heap.objs.size)
      repeat (any_goals (first | assumption | wp_step))
      refine codeAny_mono (codeAny_call_builtin (R := wants (fun r s₂ => r = .none ∧ ∃ h' tk, s₂ = { s with heap := h', toks := tk } ∧ h'.SetOf (strKind prog w) s.heap.objs.size (fun q => (met f its.size).any (· == q)) (met f its.size).length ∧ (∀ b o, b < s.heap.objs.size → s.heap.get? b = some o → h'.get? b = some o)) E) F.called_set.init.plain F.entry_set_init (check_set_init_1 hT ?_)) fun r₂ s₂ hr₂ => ?_
      · obtain ⟨⟨ocls, odict, odata, oslots⟩, hol, hcl, nl, hdl⟩ := hT0
        simp only at hcl hdl
        subst hcl; subst hdl
        have hol' : (s.heap.push (setO led)).get? a = some { cls := .type "list", dict := odict, data := .seq its nl, slots := oslots } := Heap.get?_push_of_some _ hol
        have hsls := F.sub_list_set
        have hslf := F.sub_list_frozenset
        have hne : (Value.type "list" == Value.type "dict") = false := by decide
        have hl1 : (s.heap.push (setO led)).IsList a its := ⟨_, hol', rfl, nl, rfl⟩
        unfold Builtin.«set.__init__» noKeywords Builtin.Frozenset.updateFrom
        generalize hPI : pyIter = PI
        wp_walk
        subst hPI
        refine wpAny_pyIter_list hl1 ?_; refine wpAny_bind (wpAny_runValue ?_)
        have hlS : a < s.heap.objs.size := Heap.lt_size hol
        have hh3 : A.in1.in1.in1.handled = none := by simp [hh]
        have hneI : a ≠ (s.heap.push (setO led)).objs.size := by rw [Heap.size_push]; exact Nat.ne_of_lt (Nat.lt_succ_of_lt hlS)
        have hSf : s.heap.objs.size ∉ [(s.heap.push (setO led)).objs.size, a] := by rw [Heap.size_push]; simp only [List.mem_cons, List.mem_singleton, List.not_mem_nil, or_false, not_or]; exact ⟨Nat.ne_of_lt (Nat.lt_succ_self _), Nat.ne_of_gt hlS⟩
        refine set_loopT ((Walks.list hh3 _ a hneI its).toS) s.heap.objs.size hSf f hf hb (its.size - 0) 0 _ (by omega) (Nat.zero_le _) ⟨⟨_, Heap.get?_push_size _ rfl, rfl, rfl⟩, (hl1.push _)⟩ ?hS0 ?hR
        case hS0 =>
          have hget : ((s.heap.push (setO led)).push { cls := .type "list_iterator", data := .fields #[.ref a, .int 0 0] }).get? s.heap.objs.size = some (setO led) := Heap.get?_push_of_some _ hS
          exact SetOf_congr ((setObjOf_fresh (knd := strKind prog w) led).setOf hget (by unfold scanBound; omega)) (fun _ => rfl) rfl
        case hR =>
          intro s' hm hS'
          obtain ⟨h', g', d', tk', os'⟩ := s'
          obtain rfl : g' = s.gens := hm.gens
          obtain rfl : d' = s.drawn := hm.drawn
          obtain rfl : os' = s.os := hm.os
          show wpAny _ _ _ _ _ _
          refine wpAny_pure ?_; show wpAny _ _ (ret Value.none) _ _ _; refine wpAny_pure ⟨rfl, h', tk', rfl, hS', fun b o hb e => ?_⟩
          have hb1 : b ≠ s.heap.objs.size := Nat.ne_of_lt hb
          have hb2 : b ≠ (s.heap.push (setO led)).objs.size := by rw [Heap.size_push]; exact Nat.ne_of_lt (Nat.lt_succ_of_lt hb)
          exact hm.heap b o (by simp only [List.mem_cons, List.mem_singleton, List.not_mem_nil, or_false, not_or]; exact ⟨hb1, hb2⟩) (Heap.get?_push_of_some _ (Heap.get?_push_of_some _ e))
      · cases r₂ with
        | error e => exact hr₂
        | ok fl₂ =>
          cases fl₂ with
          | ret r =>
            obtain ⟨rfl, h', tk, rfl, hS', hk'⟩ := hr₂
            repeat (any_goals (first | assumption | wp_step))
            exact h _ _ hS' hk'
          | _ => exact hr₂.elim
    | _ => exact hr.elim
section
variable {X : Cx}
theorem call_setL (hc : X.calm = true) : CallR X (.type "set") (fun xs H Q => ∃ (p : Addr) (ys : List Str), xs = [.ref p] ∧ SqL X.K H p (ys.map V.str) ∧ ys.length < 1000 ∧ ∀ q, H q = none → Q (.ref q) (upd H q (SetS X.prog X.w q (many ys)))) := by
  intro pins s σ H xs us Q I r h
  obtain ⟨p, ys, rfl, hq, hy, q⟩ := h
  obtain ⟨u, rfl, ru⟩ := vals1 r
  obtain rfl : u = Value.ref p := ru
  obtain ⟨its, rv, pl, hl⟩ := I.list hq
  have hlen := rv.length
  rw [List.length_map] at hlen
  refine call_setLs (f := fun i => ys.getD i "") (I.ok.hd hc) pl.isList (strs_at rv) (by rw [List.size_toArray, ← hlen]; unfold scanBound; omega) fun h' tk hS hk => ?_
  have esz : its.toArray.size = ys.length := by rw [List.size_toArray, hlen]
  rw [esz] at hS
  have hn := I.hok.fresh (Nat.le_refl s.heap.objs.size)
  refine ⟨.ref s.heap.objs.size, upd H s.heap.objs.size (SetS X.prog X.w s.heap.objs.size (many ys)), ?_, rfl, q _ hn⟩
  refine I.turnedO (ch := []) (fun b hb => by cases hb) (fun b o _ e => hk b o (Heap.lt_size e) e) (Nat.le_refl _) ?_
  refine ⟨⟨_, hS⟩, ?_, fun h1 h2 ⟨S, z⟩ kk => ⟨S, ?_⟩⟩
  · obtain ⟨o, es, ep, t, ho, _⟩ := hS
    exact ⟨o, ho⟩
  · obtain ⟨o, es, ep, t, ho, rest⟩ := z
    exact ⟨o, es, ep, t, kk o ho, rest⟩
/-- as many as there are just if none comes twice -/
theorem met_any {f : Nat → Str} : ∀ {n : Nat} {x : Str}, (met f n).any (· == x) = true ↔ ∃ i, i < n ∧ f i = x
  | 0, x => ⟨fun h => by simp [met] at h, fun ⟨i, h, _⟩ => absurd h (Nat.not_lt_zero _)⟩
  | n + 1, x => by
    show (put1 (met f n) (f n)).any (· == x) = true ↔ _
    rw [put1_any, Bool.or_eq_true, met_any (n := n), decide_eq_true_iff]
    constructor
    · rintro (⟨i, hi, e⟩ | e)
      · exact ⟨i, by omega, e⟩
      · exact ⟨n, by omega, e.symm⟩
    · rintro ⟨i, hi, e⟩
      by_cases h : i = n
      · subst h; exact .inr e.symm
      · exact .inl ⟨i, by omega, e⟩
theorem met_full {f : Nat → Str} : ∀ {n : Nat}, (met f n).length = n ↔ ∀ i j, i < j → j < n → f i ≠ f j
  | 0 => ⟨fun _ i j _ h => absurd h (Nat.not_lt_zero _), fun _ => rfl⟩
  | n + 1 => by
    have hle := met_le f n
    have ih := met_full (f := f) (n := n)
    show (put1 (met f n) (f n)).length = n + 1 ↔ _
    rw [put1_len]
    by_cases ha : (met f n).any (· == f n) = true
    · rw [if_pos ha]
      obtain ⟨i, hi, e⟩ := met_any.mp ha
      exact ⟨fun z => by omega, fun z => absurd e (z i n hi (by omega))⟩
    · rw [if_neg ha]
      constructor
      · intro z i j hij hj
        by_cases h : j = n
        · subst h
          exact fun e => ha (met_any.mpr ⟨i, hij, e⟩)
        · exact ih.mp (by omega) i j hij (by omega)
      · intro z
        rw [ih.mpr fun i j hij hj => z i j hij (by omega)]
/-- the texts are all unlike -/
def unlike : List Str → Bool
  | [] => true
  | y :: ys => !(ys.any (· == y)) && unlike ys
theorem unlike_iff : ∀ {ys : List Str}, unlike ys = true ↔ ∀ i j, i < j → j < ys.length → ys.getD i "" ≠ ys.getD j ""
  | [] => ⟨fun _ i j _ h => absurd h (Nat.not_lt_zero _), fun _ => rfl⟩
  | y :: ys => by
    have ih := unlike_iff (ys := ys)
    rw [unlike, Bool.and_eq_true, ih]
    constructor
    · rintro ⟨h1, h2⟩ i j hij hj
      obtain ⟨j', rfl⟩ : ∃ j', j = j' + 1 := ⟨j - 1, by omega⟩
      cases i with
      | zero =>
        intro e
        have hj' : j' < ys.length := by simpa using hj
        have : ys.any (· == y) = true := List.any_eq_true.mpr ⟨ys.getD j' "", by rw [List.getD_eq_getElem?_getD, List.getElem?_eq_getElem hj']; exact List.getElem_mem hj', by simpa using e.symm⟩
        rw [this] at h1
        cases h1
      | succ i => exact h2 i j' (by omega) (by simpa using hj)
    · intro h
      refine ⟨?_, fun i j hij hj => h (i + 1) (j + 1) (by omega) (by simpa using hj)⟩
      cases e : ys.any (· == y) with
      | false => rfl
      | true =>
        obtain ⟨x, hx, hxy⟩ := List.any_eq_true.mp e
        obtain ⟨j, hj, rfl⟩ := List.mem_iff_getElem.mp hx
        exact absurd (show (y :: ys).getD 0 "" = (y :: ys).getD (j + 1) "" by simp [List.getD, hj]; exact (beq_iff_eq.mp hxy).symm) (h 0 (j + 1) (by omega) (by simpa using hj))
theorem many_iff (ys : List Str) : decide (many ys = ys.length) = unlike ys := by
  by_cases h : unlike ys = true
  · rw [h]; exact decide_eq_true (met_full.mpr (unlike_iff.mp h))
  · rw [(Bool.not_eq_true _).mp h]; exact decide_eq_false fun z => h (unlike_iff.mpr (met_full.mp z))
end
end L2

set_option Elab.async false
set_option linter.all false
set_option maxRecDepth 100000
/-! things within things, lists among them -/
namespace L2
open PySem PySem.Spec PyProof.Rows
inductive Wx where
  | non | bl (b : Bool) | int (i : Int) | str (x : Str) | tup (ds : List Wx) | lst
mutual
inductive Ws (H : Hp) : V → Wx → Prop where
  | non : Ws H .non .non
  | bl {b : Bool} : Ws H (.bl b) (.bl b)
  | int {i : Int} : Ws H (.int i) (.int i)
  | str {x : Str} : Ws H (.str x) (.str x)
  | tup {a : Addr} {xs : List V} {ds : List Wx} (h : H a = some (.tup xs)) (t : Wss H xs ds) : Ws H (.ref a) (.tup ds)
  | lst {a : Addr} {xs : List V} (h : H a = some (.lst xs)) : Ws H (.ref a) .lst
inductive Wss (H : Hp) : List V → List Wx → Prop where
  | nil : Wss H [] []
  | cons {x : V} {d : Wx} {xs : List V} {ds : List Wx} (h : Ws H x d) (t : Wss H xs ds) : Wss H (x :: xs) (d :: ds)
end
theorem Wss.length {H : Hp} : ∀ {xs : List V} {ds : List Wx}, Wss H xs ds → xs.length = ds.length
  | _, _, .nil => rfl
  | _, _, .cons _ t => congrArg (· + 1) t.length
theorem Wss.getX {H : Hp} : ∀ {xs : List V} {ds : List Wx} {i : Nat} {x : V}, Wss H xs ds → xs[i]? = some x → ∃ d, ds[i]? = some d ∧ Ws H x d
  | _, _, _, _, .nil, e => by simp at e
  | _, _, 0, _, .cons h _, e => by
    simp at e
    subst e
    exact ⟨_, rfl, h⟩
  | _, _, i + 1, d, .cons _ t, e => by
    obtain ⟨x, h1, h2⟩ := Wss.getX (i := i) t (by simpa using e)
    exact ⟨x, by simpa using h1, h2⟩
theorem Wss.append {H : Hp} : ∀ {xs ys : List V} {ds es : List Wx}, Wss H xs ds → Wss H ys es → Wss H (xs ++ ys) (ds ++ es)
  | _, _, _, _, .nil, t => t
  | _, _, _, _, .cons h t, u => .cons h (t.append u)
theorem Wss.take {H : Hp} : ∀ {xs : List V} {ds : List Wx} (n : Nat), Wss H xs ds → Wss H (xs.take n) (ds.take n)
  | _, _, 0, _ => by simpa using Wss.nil
  | _, _, n + 1, .nil => by simpa using Wss.nil
  | _, _, n + 1, .cons h t => by simpa using Wss.cons h (t.take n)
theorem Wss.drop {H : Hp} : ∀ {xs : List V} {ds : List Wx} (n : Nat), Wss H xs ds → Wss H (xs.drop n) (ds.drop n)
  | _, _, 0, t => by simpa using t
  | _, _, n + 1, .nil => by simpa using Wss.nil
  | _, _, n + 1, .cons h t => by simpa using t.drop n
mutual
theorem Ws.keep {H H' : Hp} (k : ∀ b ys, H b = some (.tup ys) → H' b = some (.tup ys)) (kl : ∀ b ys, H b = some (.lst ys) → ∃ zs, H' b = some (.lst zs)) : ∀ {x : V} {d : Wx}, Ws H x d → Ws H' x d
  | _, _, .non => .non
  | _, _, .bl => .bl
  | _, _, .int => .int
  | _, _, .str => .str
  | _, _, .tup h t => .tup (k _ _ h) (Wss.keep k kl t)
  | _, _, .lst h => let ⟨_, e⟩ := kl _ _ h; .lst e
theorem Wss.keep {H H' : Hp} (k : ∀ b ys, H b = some (.tup ys) → H' b = some (.tup ys)) (kl : ∀ b ys, H b = some (.lst ys) → ∃ zs, H' b = some (.lst zs)) : ∀ {xs : List V} {ds : List Wx}, Wss H xs ds → Wss H' xs ds
  | _, _, .nil => .nil
  | _, _, .cons h t => .cons (h.keep k kl) (Wss.keep k kl t)
end
theorem Ws.same {H H' : Hp} {x : V} {d : Wx} (h : Ws H x d) (S : Same H H') : Ws H' x d := h.keep (fun b ys e => S _ _ e) (fun b ys e => ⟨ys, S _ _ e⟩)
theorem Wss.same {H H' : Hp} {xs : List V} {ds : List Wx} (h : Wss H xs ds) (S : Same H H') : Wss H' xs ds := h.keep (fun b ys e => S _ _ e) (fun b ys e => ⟨ys, S _ _ e⟩)
/-- a list is changed -/
theorem Ws.updL {H : Hp} {q : Addr} {xs ys : List V} {x : V} {d : Wx} (h : Ws H x d) (g : H q = some (.lst xs)) : Ws (upd H q (.lst ys)) x d := h.keep (fun b zs e => by rw [upd_ne (fun z => by rw [z, g] at e; cases e)]; exact e) (fun b zs e => by
  by_cases z : b = q
  · subst z; exact ⟨ys, upd_same⟩
  · exact ⟨zs, by rw [upd_ne z]; exact e⟩)
theorem Wss.updL {H : Hp} {q : Addr} {xs ys zs : List V} {ds : List Wx} (h : Wss H zs ds) (g : H q = some (.lst xs)) : Wss (upd H q (.lst ys)) zs ds := h.keep (fun b zs e => by rw [upd_ne (fun z => by rw [z, g] at e; cases e)]; exact e) (fun b zs e => by
  by_cases z : b = q
  · subst z; exact ⟨ys, upd_same⟩
  · exact ⟨zs, by rw [upd_ne z]; exact e⟩)
mutual
def toW : Dv → Wx
  | .non => .non
  | .bl b => .bl b
  | .int i => .int i
  | .str x => .str x
  | .tup ds => .tup (toWs ds)
def toWs : List Dv → List Wx
  | [] => []
  | d :: ds => toW d :: toWs ds
end
theorem toWs_map : ∀ ds, toWs ds = ds.map toW
  | [] => rfl
  | d :: ds => by rw [toWs, toWs_map ds]; rfl
mutual
theorem Deep.ws {H : Hp} : ∀ {v : V} {d : Dv}, Deep H v d → Ws H v (toW d)
  | _, _, .non => by rw [toW]; exact .non
  | _, _, .bl => by rw [toW]; exact .bl
  | _, _, .int => by rw [toW]; exact .int
  | _, _, .str => by rw [toW]; exact .str
  | _, _, .tup h t => by rw [toW]; exact .tup h (Deeps.ws t)
theorem Deeps.ws {H : Hp} : ∀ {xs : List V} {ds : List Dv}, Deeps H xs ds → Wss H xs (toWs ds)
  | _, _, .nil => by rw [toWs]; exact .nil
  | _, _, .cons h t => by rw [toWs]; exact .cons (Deep.ws h) (Deeps.ws t)
end
mutual
theorem Ws.deep {H : Hp} : ∀ {d : Dv} {v : V}, Ws H v (toW d) → Deep H v d
  | .non, _, h => by rw [toW] at h; cases h; exact .non
  | .bl b, _, h => by rw [toW] at h; cases h; exact .bl
  | .int i, _, h => by rw [toW] at h; cases h; exact .int
  | .str x, _, h => by rw [toW] at h; cases h; exact .str
  | .tup ds, _, h => by
    rw [toW] at h
    cases h with
    | tup h t => exact .tup h (Wss.deep t)
theorem Wss.deep {H : Hp} : ∀ {ds : List Dv} {xs : List V}, Wss H xs (toWs ds) → Deeps H xs ds
  | [], _, h => by rw [toWs] at h; cases h; exact .nil
  | d :: ds, _, h => by
    rw [toWs] at h
    cases h with
    | cons h t => exact .cons (Ws.deep h) (Wss.deep t)
end
def tyW : Wx → String
  | .non => "NoneType"
  | .bl _ => "bool"
  | .int _ => "int"
  | .str _ => "str"
  | .tup _ => "tuple"
  | .lst => "list"
theorem Ws.ty {K : PySem.W.Frag} {H : Hp} {v : V} {d : Wx} (h : Ws H v d) : TyOf K H v (.type (tyW d)) := by
  cases h with
  | non => exact .non
  | bl => exact .bl _
  | int => exact .int _
  | str => exact .str _
  | tup h t => exact .tup h
  | lst h => exact .lst h
theorem Ws.tup' {H : Hp} {v : V} {ds : List Wx} (h : Ws H v (.tup ds)) : ∃ a xs, v = .ref a ∧ H a = some (.tup xs) ∧ Wss H xs ds := by
  cases h with
  | tup h t => exact ⟨_, _, rfl, h, t⟩
theorem Ws.str' {H : Hp} {v : V} {x : Str} (h : Ws H v (.str x)) : v = .str x := by cases h; rfl
theorem Ws.int' {H : Hp} {v : V} {x : Int} (h : Ws H v (.int x)) : v = .int x := by cases h; rfl
theorem ws_tup {H : Hp} {xs : List V} {ds : List Wx} (t : Wss H xs ds) {p : Addr} (hp : H p = none) : Ws (upd H p (.tup xs)) (.ref p) (.tup ds) := .tup upd_same (t.same (Same.new hp))
/-- two tuples put together -/
theorem cat_W {a b : Addr} {xs ys : List V} {ds es : List Wx} {H : Hp} {Q : VK} (ga : H a = some (.tup xs)) (gb : H b = some (.tup ys)) (ta : Wss H xs ds) (tb : Wss H ys es) (hl : xs.length + ys.length ≤ sizeLine) (k : ∀ u H', Same H H' → Ws H' u (.tup (ds ++ es)) → Q u H') : rCatR (.ref a) (.ref b) H Q := by
  refine ⟨a, b, xs, ys, rfl, rfl, .inl ga, .inl gb, hl, fun z => ?_, fun _ z => ?_, fun _ _ p hp => ?_⟩
  · subst z
    cases ta
    exact k _ _ (Same.refl _) (.tup gb tb)
  · subst z
    cases tb
    rw [List.append_nil] at k
    exact k _ _ (Same.refl _) (.tup ga ta)
  · exact k _ _ (Same.new hp) (ws_tup (ta.append tb) hp)
/-- written things -/
def TaW (σ : St) (H0 : Hp) (ta : TA) (ds : List Wx) : Prop := ∀ (H : Hp) (R : List V → Hp → Prop), Same H0 H → (∀ xs H1, Same H H1 → Wss H1 xs ds → R xs H1) → ta σ H R
section
variable {σ : St} {H0 : Hp} {t : TA} {ds : List Wx}
theorem taW_nil : TaW σ H0 tNil [] := fun H R _ h => h [] H (Same.refl _) .nil
theorem taW_str {x : Str} (h : TaW σ H0 t ds) : TaW σ H0 (tCons (tC (.str x)) t) (.str x :: ds) := fun H R S0 k => h H _ S0 fun xs H1 S t => k _ _ S (.cons .str t)
theorem taW_int {i : Int} (h : TaW σ H0 t ds) : TaW σ H0 (tCons (tC (.int i)) t) (.int i :: ds) := fun H R S0 k => h H _ S0 fun xs H1 S t => k _ _ S (.cons .int t)
theorem taW_bl {b : Bool} (h : TaW σ H0 t ds) : TaW σ H0 (tCons (tC (.bl b)) t) (.bl b :: ds) := fun H R S0 k => h H _ S0 fun xs H1 S t => k _ _ S (.cons .bl t)
theorem taW_non (h : TaW σ H0 t ds) : TaW σ H0 (tCons (tC .non) t) (.non :: ds) := fun H R S0 k => h H _ S0 fun xs H1 S t => k _ _ S (.cons .non t)
theorem taW_var {i : Nat} {v : V} {d : Wx} (hv : σ[i]? = some (some v)) (D : Ws H0 v d) (h : TaW σ H0 t ds) : TaW σ H0 (tCons (tVar i) t) (d :: ds) := fun H R S0 k => ⟨v, hv, h H _ S0 fun xs H1 S t => k _ _ S (.cons ((D.same S0).same S) t)⟩
theorem taW_tup {t1 : TA} {es : List Wx} (h1 : TaW σ H0 t1 es) (hl : es.length ≤ sizeLine) (h : TaW σ H0 t ds) : TaW σ H0 (tCons (tTup t1) t) (.tup es :: ds) := fun H R S0 k => h1 H _ S0 fun xs H1 S t1 => ⟨by rw [t1.length]; exact hl, fun p hp => h _ _ ((S0.trans S).trans (Same.new hp)) fun ys H2 S2 t2 => k _ _ ((S.trans (Same.new hp)).trans S2) (.cons ((ws_tup t1 hp).same S2) t2)⟩
theorem taW_lst {t1 : TA} {es : List Wx} (h1 : TaW σ H0 t1 es) (hl : es.length ≤ sizeLine) (h : TaW σ H0 t ds) : TaW σ H0 (tCons (tLst t1) t) (.lst :: ds) := fun H R S0 k => h1 H _ S0 fun xs H1 S t1 => ⟨by rw [t1.length]; exact hl, fun p hp => h _ _ ((S0.trans S).trans (Same.new hp)) fun ys H2 S2 t2 => k _ _ ((S.trans (Same.new hp)).trans S2) (.cons (.lst (S2 _ _ upd_same)) t2)⟩
theorem lst_W {te : TA} {Q : VK} {H : Hp} (h : TaW σ H0 te ds) (S0 : Same H0 H) (hl : ds.length ≤ sizeLine) (k : ∀ q xs H', Same H H' → H q = none → H' q = some (.lst xs) → Wss H' xs ds → Q (.ref q) H') : tLst te σ H Q := h H _ S0 fun xs H1 S t => ⟨by rw [t.length]; exact hl, fun p hp => k p xs _ (S.trans (Same.new hp)) (by
  cases e : H p with
  | none => rfl
  | some o => rw [S _ _ e] at hp; cases hp) upd_same (t.same (Same.new hp))⟩
theorem tup_W {te : TA} {Q : VK} {H : Hp} (h : TaW σ H0 te ds) (S0 : Same H0 H) (hl : ds.length ≤ sizeLine) (k : ∀ v H', Same H H' → Ws H' v (.tup ds) → Q v H') : tTup te σ H Q := h H _ S0 fun xs H1 S t => ⟨by rw [t.length]; exact hl, fun p hp => k _ _ (S.trans (Same.new hp)) (ws_tup t hp)⟩
theorem call_W {sp : Sp} {E : XK} {te : TA} {H : Hp} {Q : VK} (h : TaW σ H0 te ds) (S0 : Same H0 H) (k : ∀ xs H1, Same H H1 → Wss H1 xs ds → sp (xs ++ []) H1 Q E) : tCall sp [] E te σ H Q := h H _ S0 k
end
end L2

set_option Elab.async false
set_option linter.all false
set_option maxRecDepth 100000
namespace Lw
open PySem PySem.Spec PyProof.Rows L2 K02 K04
open Builtin Builtin.Str StrLaws
/-! ### layouts -/
inductive Ly where
  | box (nm : Str) (p : Nat)
  | grp (nm : Str) (its : List (Bool × Ly))
  | tab (nm : Str) (k : Nat) (its : List (Bool × Ly))
def picS : Nat → Str
  | 0 => "9(3)" | 1 => "S99V9" | 2 => "X(4)" | 3 => "AA" | 4 => "Z9.9" | 5 => "X" | 6 => "X(60)" | 7 => "9" | 8 => "XX" | 9 => "X(3)" | 10 => "S9V9" | _ => "X"
def szP : Nat → Nat
  | 0 => 3 | 1 => 3 | 2 => 4 | 3 => 2 | 4 => 4 | 5 => 1 | 6 => 60 | 7 => 1 | 8 => 2 | 9 => 3 | 10 => 2 | _ => 1
mutual
def Ly.dv : Ly → Dv
  | .box nm p => .tup [.str "box", .str nm, .str (picS p)]
  | .grp nm its => .tup [.str "group", .str nm, .tup (dvL its)]
  | .tab nm k its => .tup [.str "table", .str nm, .int (k : Nat), .tup (dvL its)]
def dvL : List (Bool × Ly) → List Dv
  | [] => []
  | x :: xs => dvI x :: dvL xs
def dvI : Bool × Ly → Dv
  | (ov, y) => if ov = true then .tup [.str "over", y.dv] else y.dv
end
mutual
def Ly.sz : Ly → Nat
  | .box _ p => szP p
  | .grp _ its => szL its
  | .tab _ k its => szL its * k
def szL : List (Bool × Ly) → Nat
  | [] => 0
  | x :: xs => szI x + szL xs
def szI : Bool × Ly → Nat
  | (ov, y) => if ov = true then 0 else y.sz
end
mutual
def Ly.cn : Ly → Nat
  | .box _ _ => 1
  | .grp _ its => 1 + cnL its
  | .tab _ _ its => 1 + cnL its
def cnL : List (Bool × Ly) → Nat
  | [] => 0
  | x :: xs => cnI x + cnL xs
def cnI : Bool × Ly → Nat
  | (_, y) => y.cn
end
mutual
def Ly.okK : Ly → Prop
  | .box _ _ => True
  | .grp _ its => okL its
  | .tab _ k its => k ≤ 1000 ∧ okL its
def okL : List (Bool × Ly) → Prop
  | [] => True
  | x :: xs => okI x ∧ okL xs
def okI : Bool × Ly → Prop
  | (_, y) => y.okK
end
theorem okL_at : ∀ {its : List (Bool × Ly)} {j : Nat} {x : Bool × Ly}, okL its → its[j]? = some x → okI x
  | [], _, _, _, h => by simp at h
  | y :: ys, 0, x, o, h => by
    rw [okL] at o
    have : y = x := by simpa using h
    subst this
    exact o.1
  | y :: ys, j + 1, x, o, h => by
    rw [okL] at o
    exact okL_at (its := ys) (j := j) o.2 (by simpa using h)
theorem dvL_map : ∀ its : List (Bool × Ly), dvL its = its.map dvI
  | [] => rfl
  | x :: xs => by rw [dvL, dvL_map xs]; rfl
theorem Ly.cn_pos (y : Ly) : 1 ≤ y.cn := by cases y <;> rw [Ly.cn] <;> omega
theorem cnI_pos (x : Bool × Ly) : 1 ≤ cnI x := by obtain ⟨o, y⟩ := x; rw [cnI]; exact y.cn_pos
theorem len_cn : ∀ its : List (Bool × Ly), its.length ≤ cnL its
  | [] => Nat.zero_le _
  | x :: xs => by
    have := len_cn xs
    have := cnI_pos x
    rw [List.length_cons, cnL]
    omega
/-- the six pictures -/
theorem pic_self {l : List Nat} {x : Facts} {z : Str} {n : Nat} (e : z = tx l) (h1 : picture l = some x) (h2 : 40 ∉ l) (h3 : l.length ≤ 100) (h4 : (l.filter noSV).length = n) : ∃ (a l : List Nat) (x : Facts), z = tx l ∧ PicAt a l x ∧ (a.filter noSV).length = n :=
  ⟨l, l, x, e, ⟨h1, sh_self l h2, h2, h3, by omega⟩, h4⟩
theorem pic_brk {c d m : Nat} {x : Facts} {z : Str} (e : z = tx [c, 40, d, 41]) (h1 : picture [c, 40, d, 41] = some x) (hc : c ≠ 40) (hn : Num [d] (m + 1)) (hm : m ≤ 50) (h4 : noSV c = true) : ∃ (a l : List Nat) (x : Facts), z = tx l ∧ PicAt a l x ∧ (a.filter noSV).length = m + 1 := by
  refine ⟨List.replicate (m + 1) c, _, x, e, ⟨h1, ?_, ?_, by rw [List.length_replicate]; omega, (show 4 ≤ 500 by decide)⟩, ?_⟩
  · exact Sh.brk m Sh.nil hc hn
  · intro h
    exact hc (List.eq_of_mem_replicate h).symm
  · rw [List.filter_eq_self.mpr (fun y hy => by rw [List.eq_of_mem_replicate hy]; exact h4), List.length_replicate]
theorem pic_size (p : Nat) : ∃ (a l : List Nat) (x : Facts), picS p = tx l ∧ PicAt a l x ∧ (a.filter noSV).length = szP p := by
  unfold picS szP
  split
  · exact pic_brk (c := 57) (d := 51) (m := 2) (by decide +kernel) (by first | rfl | decide +kernel) (by decide) ⟨by decide, (fun x hx => by obtain rfl := List.mem_singleton.mp hx; decide), by decide, by decide⟩ (by decide) (by decide)
  · exact pic_self (l := [83, 57, 57, 86, 57]) (by decide +kernel) (by first | rfl | decide +kernel) (by decide) (by decide) (by decide)
  · exact pic_brk (c := 88) (d := 52) (m := 3) (by decide +kernel) (by first | rfl | decide +kernel) (by decide) ⟨by decide, (fun x hx => by obtain rfl := List.mem_singleton.mp hx; decide), by decide, by decide⟩ (by decide) (by decide)
  · exact pic_self (l := [65, 65]) (by decide +kernel) (by first | rfl | decide +kernel) (by decide) (by decide) (by decide)
  · exact pic_self (l := [90, 57, 46, 57]) (by decide +kernel) (by first | rfl | decide +kernel) (by decide) (by decide) (by decide)
  · exact pic_self (l := [88]) (by decide +kernel) (by first | rfl | decide +kernel) (by decide) (by decide) (by decide)
  · refine ⟨List.replicate 60 88, [88, 40, 54, 48, 41], _, by decide +kernel, ⟨by first | rfl | decide +kernel, Sh.brk (c := 88) (d := [54, 48]) 59 Sh.nil (by decide) ⟨by decide, (fun x hx => by simp only [List.mem_cons, List.not_mem_nil, or_false] at hx; rcases hx with rfl | rfl <;> decide), by decide, by decide⟩, by decide, by decide, by decide⟩, by decide⟩
  · exact pic_self (l := [57]) (by decide +kernel) (by first | rfl | decide +kernel) (by decide) (by decide) (by decide)
  · exact pic_self (l := [88, 88]) (by decide +kernel) (by first | rfl | decide +kernel) (by decide) (by decide) (by decide)
  · exact pic_brk (c := 88) (d := 51) (m := 2) (by decide +kernel) (by first | rfl | decide +kernel) (by decide) ⟨by decide, (fun x hx => by obtain rfl := List.mem_singleton.mp hx; decide), by decide, by decide⟩ (by decide) (by decide)
  · exact pic_self (l := [83, 57, 86, 57]) (by decide +kernel) (by first | rfl | decide +kernel) (by decide) (by decide) (by decide)
  · exact pic_self (l := [88]) (by decide +kernel) (by first | rfl | decide +kernel) (by decide) (by decide) (by decide)
/-- a list that grows and shrinks -/
structure LsSt (Hb H : Hp) (q : Addr) (xs : List V) (acc : List Dv) : Prop where
  S : Same Hb H
  f : Hb q = none
  g : H q = some (.lst xs)
  t : Deeps H xs acc
theorem same_off {H H2 : Hp} {l : Addr} {o : HO} (S : Same H H2) (h : H l = none) : Same H (upd H2 l o) := fun b o' e => by rw [upd_ne (ne_of_none e h)]; exact S _ _ e
theorem LsSt.same {Hb H H' : Hp} {q : Addr} {xs : List V} {acc : List Dv} (B : LsSt Hb H q xs acc) (S : Same H H') : LsSt Hb H' q xs acc := ⟨B.S.trans S, B.f, S _ _ B.g, B.t.same S⟩
theorem LsSt.put {Hb H : Hp} {q : Addr} {xs ys : List V} {acc acc' : List Dv} (B : LsSt Hb H q xs acc) (t : Deeps H ys acc') : LsSt Hb (upd H q (.lst ys)) q ys acc' := ⟨same_off B.S B.f, B.f, upd_same, t.updL B.g (fun zs z => nomatch z)⟩
section
variable {P : Program} {w : World} {K : PySem.W.Frag} {mg : Str → Option Value} {base : Heap} {f : Addr} {fd : FuncData} {tk : Nat → Tok} {c kr : Nat → Addr}
/-- the first word of an item, and what is behind it -/
def Ly.word : Ly → Str
  | .box _ _ => "box"
  | .grp _ _ => "group"
  | .tab _ _ _ => "table"
def Ly.name : Ly → Str
  | .box nm _ => nm
  | .grp nm _ => nm
  | .tab nm _ _ => nm
theorem box_at {H : Hp} {v : V} {nm : Str} {p : Nat} (h : Deep H v (Ly.box nm p).dv) : ∃ a, v = .ref a ∧ H a = some (.tup [.str "box", .str nm, .str (picS p)]) := by
  rw [Ly.dv] at h
  obtain ⟨a, xs, rfl, g, t⟩ := Deep.tup' h
  cases t with
  | cons p1 t => cases t with
    | cons p2 t => cases t with
      | cons p3 t =>
        cases t
        obtain rfl := p1.str'
        obtain rfl := p2.str'
        obtain rfl := p3.str'
        exact ⟨a, rfl, g⟩
theorem grp_at {H : Hp} {v : V} {nm : Str} {its : List (Bool × Ly)} (h : Deep H v (Ly.grp nm its).dv) : ∃ a x, v = .ref a ∧ H a = some (.tup [.str "group", .str nm, x]) ∧ Deep H x (.tup (dvL its)) := by
  rw [Ly.dv] at h
  obtain ⟨a, xs, rfl, g, t⟩ := Deep.tup' h
  cases t with
  | cons p1 t => cases t with
    | cons p2 t => cases t with
      | cons p3 t =>
        cases t
        obtain rfl := p1.str'
        obtain rfl := p2.str'
        exact ⟨a, _, rfl, g, p3⟩
theorem tab_at {H : Hp} {v : V} {nm : Str} {k : Nat} {its : List (Bool × Ly)} (h : Deep H v (Ly.tab nm k its).dv) : ∃ a x, v = .ref a ∧ H a = some (.tup [.str "table", .str nm, .int (k : Nat), x]) ∧ Deep H x (.tup (dvL its)) := by
  rw [Ly.dv] at h
  obtain ⟨a, xs, rfl, g, t⟩ := Deep.tup' h
  cases t with
  | cons p1 t => cases t with
    | cons p2 t => cases t with
      | cons p3 t => cases t with
        | cons p4 t =>
          cases t
          obtain rfl := p1.str'
          obtain rfl := p2.str'
          obtain rfl := p3.int'
          exact ⟨a, _, rfl, g, p4⟩
theorem over_at {H : Hp} {v : V} {y : Ly} (h : Deep H v (dvI (true, y))) : ∃ a x, v = .ref a ∧ H a = some (.tup [.str "over", x]) ∧ Deep H x y.dv := by
  rw [dvI, if_pos rfl] at h
  obtain ⟨a, xs, rfl, g, t⟩ := Deep.tup' h
  cases t with
  | cons p1 t => cases t with
    | cons p2 t =>
      cases t
      obtain rfl := p1.str'
      exact ⟨a, _, rfl, g, p2⟩
/-- any item: its word first -/
theorem ly_at {H : Hp} {v : V} {y : Ly} (h : Deep H v y.dv) : ∃ a xs, v = .ref a ∧ H a = some (.tup (.str y.word :: .str y.name :: xs)) := by
  cases y with
  | box nm p => obtain ⟨a, rfl, g⟩ := box_at h; exact ⟨a, _, rfl, g⟩
  | grp nm its => obtain ⟨a, x, rfl, g, _⟩ := grp_at h; exact ⟨a, _, rfl, g⟩
  | tab nm k its => obtain ⟨a, x, rfl, g, _⟩ := tab_at h; exact ⟨a, _, rfl, g⟩
theorem w_bo : decide (V.str "box" = V.str "over") = false := by decide +kernel
theorem w_go : decide (V.str "group" = V.str "over") = false := by decide +kernel
theorem w_to : decide (V.str "table" = V.str "over") = false := by decide +kernel
theorem w_gb : decide (V.str "group" = V.str "box") = false := by decide +kernel
theorem w_tb : decide (V.str "table" = V.str "box") = false := by decide +kernel
theorem w_tg : decide (V.str "table" = V.str "group") = false := by decide +kernel
theorem w_ob : decide (V.str "over" = V.str "box") = false := by decide +kernel
theorem w_og : decide (V.str "over" = V.str "group") = false := by decide +kernel
theorem w_ot : decide (V.str "over" = V.str "table") = false := by decide +kernel
theorem w_bt : decide (V.str "box" = V.str "table") = false := by decide +kernel
theorem w_gt : decide (V.str "group" = V.str "table") = false := by decide +kernel
theorem word_over (y : Ly) : decide (V.str y.word = V.str "over") = false := by
  cases y with
  | box nm p => exact w_bo
  | grp nm its => exact w_go
  | tab nm k its => exact w_to
/-- the stack of what is still to be counted -/
def stD (x : List (Bool × Ly) × Nat) : Dv := .tup [.tup (dvL x.1), .int (x.2 : Nat)]
def wS : List (List (Bool × Ly) × Nat) → Nat
  | [] => 0
  | x :: xs => szL x.1 * x.2 + wS xs
def cS : List (List (Bool × Ly) × Nat) → Nat
  | [] => 0
  | x :: xs => (1 + cnL x.1) + cS xs
theorem wS_app : ∀ a b, wS (a ++ b) = wS a + wS b
  | [], b => by rw [List.nil_append, wS]; omega
  | x :: a, b => by rw [List.cons_append, wS, wS, wS_app a b]; omega
theorem cS_app : ∀ a b, cS (a ++ b) = cS a + cS b
  | [], b => by rw [List.nil_append, cS]; omega
  | x :: a, b => by rw [List.cons_append, cS, cS, cS_app a b]; omega
theorem len_cS : ∀ st, st.length ≤ cS st
  | [] => Nat.zero_le _
  | x :: xs => by
    have := len_cS xs
    rw [List.length_cons, cS]
    omega
def spSigns : Sp := fun vs H Q _ => ∃ (v : V) (its : List (Bool × Ly)), vs = [v] ∧ Deep H v (.tup (dvL its)) ∧ cnL its ≤ 10000 ∧ okL its ∧ ∀ H', Same H H' → Q (.int (szL its : Nat)) H'
theorem szL_at {its : List (Bool × Ly)} {j : Nat} {x : Bool × Ly} (h : its[j]? = some x) : szL (its.drop j) = szI x + szL (its.drop (j + 1)) ∧ cnL (its.drop j) = cnI x + cnL (its.drop (j + 1)) := by
  have hl := (List.getElem?_eq_some_iff.mp h).1
  rw [List.drop_eq_getElem_cons hl, (List.getElem?_eq_some_iff.mp h).2, szL, cnL]
  exact ⟨rfl, rfl⟩
set_option maxHeartbeats 2000000 in
theorem ok_signs_in (F : Fun K "signs_in" "signs_in" s_signs_in f fd) (D_size_of : Def P w K mg base 7 "size_of" ["picture"] spSize) : FnOk P w K mg base (CXE P w) 8 f fd ["layout"] spSigns := by
  refine okNx F sc_signs_in (fun vs H Q E h => ?_) (fun cdv A outer s H vs Q E hr h => ?_)
  · obtain ⟨v, its, rfl, _⟩ := h
    rfl
  · obtain ⟨v, its, rfl, D, hc, hok, k⟩ := h
    have hz : 100000 ≤ sizeLine := by rw [sizeLine_eq]; decide
    refine ⟨_, (psx_cons (psy_set (i := 1) sc_signs_in.nd rfl (Or.inl rfl) (PEx.mk pe_int) rfl rfl)
      (psx_cons (psy_set (i := 2) sc_signs_in.nd rfl (Or.inl rfl) (pex_lst (pax_c (pex_tup (pax_c (PEx.mk (pv 0)) (pax_c (PEx.mk pe_int) pax_nil rfl) rfl)) pax_nil rfl)) rfl rfl)
      (psx_cons (PSy.mk (ps_while PassesOwn.never (pt_truth (pv 2) (fun _ => rfl)) (pss_cons (ps_asg (pe_bm0 PySem.F.plainAttrs_list PySem.F.slot_list_pop PySem.F.type_list_pop mt_pop (pv 2)) (pg_tup rfl (pgs_cons (pg_name (i := 3) sc_signs_in.nd rfl (Or.inl rfl)) (pgs_cons (pg_name (i := 4) sc_signs_in.nd rfl (Or.inl rfl)) pgs_nil))))
      (pss_one (ps_for PassesOwn.never rfl (pi_tup (pv 3)) (pg_name (i := 5) sc_signs_in.nd rfl (Or.inl rfl)) (pss_one (ps_if (pt_cmpR op_eq (pe_ix ix_tupR (pv 5) pe_int (fun _ _ => rfl)) pe_str (nomark _)) (pss_one (ps_aug (i := 1) sc_signs_in.nd rfl (Or.inl rfl) (pe_op op_mul (pv 4) (D_size_of.pe hr (by decide) rfl passE0 (pa_c (pe_ix ix_tupR (pv 5) pe_int (fun _ _ => rfl)) pa_nil))) ip_add)) (pss_one (ps_if (pt_cmpR op_eq (pe_ix ix_tupR (pv 5) pe_int (fun _ _ => rfl)) pe_str (nomark _)) (pss_one (ps_expr (pe_bm PySem.F.plainAttrs_list PySem.F.slot_list_append PySem.F.type_list_append mt_append (pv 2) (pa_c (pe_tup (pa_c (pe_ix ix_tupR (pv 5) pe_int (fun _ _ => rfl)) (pa_c (pv 4) pa_nil))) pa_nil)))) (pss_one (ps_if (pt_cmpR op_eq (pe_ix ix_tupR (pv 5) pe_int (fun _ _ => rfl)) pe_str (nomark _)) (pss_one (ps_expr (pe_bm PySem.F.plainAttrs_list PySem.F.slot_list_append PySem.F.type_list_append mt_append (pv 2) (pa_c (pe_tup (pa_c (pe_ix ix_tupR (pv 5) pe_int (fun _ _ => rfl)) (pa_c (pe_op op_mul (pv 4) (pe_ix ix_tupR (pv 5) pe_int (fun _ _ => rfl))) pa_nil))) pa_nil)))) pss_nil)))))))))))
      (psx_one (psy_ret (PEx.mk (pv 1))))))), ?_⟩
    dsimp only [gName, tAsg, tSeq, tNext]
    refine ⟨_, rfl, by show 2 ≤ sizeLine; omega, fun p hp => ⟨by show 1 ≤ sizeLine; omega, fun lf hlf => ?_⟩⟩
    have S1 := Same.new (o := .tup [v, .int 1]) hp
    have hf0 : H lf = none := by
      cases e : H lf with
      | none => rfl
      | some o => rw [S1 _ _ e] at hlf; cases hlf
    have B1 : LsSt H (upd (upd H p (.tup [v, .int 1])) lf (.lst [.ref p])) lf [.ref p] ([(its, 1)].map stD) := by
      have S2 := Same.new (o := .lst [V.ref p]) hlf
      exact ⟨S1.trans S2, hf0, upd_same, .cons ((Deep.tup upd_same (.cons (D.same S1) (.cons .int .nil))).same S2) .nil⟩
    generalize upd (upd H p (.tup [v, .int 1])) lf (.lst [.ref p]) = H1 at B1
    clear S1 hlf hp
    refine ⟨fun m σ H2 => ∃ (n : Nat) (xs : List V) (st : List (List (Bool × Ly) × Nat)) (y3 y4 y5 : Option V), σ = [some v, some (.int (n : Nat)), some (.ref lf), y3, y4, y5] ∧ LsSt H H2 lf xs (st.map stD) ∧ n + wS st = szL its ∧ cS st ≤ m ∧ m ≤ 20000 ∧ ∀ e ∈ st, okL e.1, ⟨20000, 0, _, _, none, none, none, rfl, B1, by simp [wS], by simp only [cS]; omega, Nat.le_refl _, fun e he => by rw [List.mem_singleton.mp he]; exact hok⟩, ?_⟩
    clear B1
    rintro m σ H2 ⟨n, xs, st, y3, y4, y5, rfl, B, hw, hcs, hm, hst⟩
    have lxs := B.t.length
    rw [List.length_map] at lxs
    have lst := len_cS st
    rcases List.eq_nil_or_concat st with rfl | ⟨st0, e0, rfl⟩
    · have e : xs = [] := List.eq_nil_of_length_eq_zero (by simpa using lxs)
      subst e
      refine ⟨_, rfl, false, .inl ⟨_, .inl (.inl B.g), rfl⟩, iteF ⟨_, rfl, ?_⟩⟩
      rw [wS, Nat.add_zero] at hw
      rw [hw]
      exact k _ B.S
    rw [List.concat_eq_append] at B hw hcs lxs lst
    rw [List.concat_eq_append] at hst
    obtain ⟨its0, t0⟩ := e0
    have hok0 : okL its0 := hst _ (List.mem_append_right _ List.mem_cons_self)
    have hst0 : ∀ e ∈ st0, okL e.1 := fun e he => hst e (List.mem_append_left _ he)
    rw [wS_app] at hw
    rw [cS_app] at hcs
    have hw : n + (wS st0 + (szL its0 * t0 + 0)) = szL its := hw
    have hcs : cS st0 + ((1 + cnL its0) + 0) ≤ m := hcs
    rw [List.map_append] at B
    obtain ⟨xs0, xl, rfl, t1, Dl⟩ : ∃ xs0 xl, xs = xs0 ++ [xl] ∧ Deeps H2 xs0 (st0.map stD) ∧ Deep H2 xl (stD (its0, t0)) := by
      rcases List.eq_nil_or_concat xs with rfl | ⟨xs0, xl, rfl⟩
      · simp at lxs
      · rw [List.concat_eq_append] at B ⊢
        have l0 : xs0.length = (st0.map stD).length := by
          have := B.t.length
          rw [List.length_append, List.length_append] at this
          simpa using this
        have ht := B.t.take xs0.length
        have hd := B.t.drop xs0.length
        rw [List.take_left' rfl, l0, List.take_left' rfl] at ht
        rw [List.drop_left' rfl, l0, List.drop_left' rfl] at hd
        cases hd with
        | cons h t => exact ⟨xs0, xl, rfl, ht, h⟩
    refine ⟨_, rfl, true, .inl ⟨_, .inl (.inl B.g), by simp⟩, iteT ?_⟩
    refine ⟨fun σ' H' => ∃ m', m' < m ∧ ∃ (n : Nat) (xs : List V) (st : List (List (Bool × Ly) × Nat)) (y3 y4 y5 : Option V), σ' = [some v, some (.int (n : Nat)), some (.ref lf), y3, y4, y5] ∧ LsSt H H' lf xs (st.map stD) ∧ n + wS st = szL its ∧ cS st ≤ m' ∧ m' ≤ 20000 ∧ ∀ e ∈ st, okL e.1, fun _ _ h => h, ?_⟩
    refine ⟨_, rfl, .inl ⟨rfl, _, .inl (.inl B.g)⟩, ?_⟩
    refine ⟨lf, _, xl, rfl, rfl, B.g, by simp, ?_⟩
    have B3 : LsSt H (upd H2 lf (.lst (xs0 ++ [xl]).dropLast)) lf xs0 (st0.map stD) := by
      rw [List.dropLast_concat]
      exact B.put t1
    have Dl3 := Dl.updL (o' := .lst (xs0 ++ [xl]).dropLast) B.g (fun zs z => nomatch z)
    generalize upd H2 lf (.lst (xs0 ++ [xl]).dropLast) = H3 at B3 Dl3
    clear B Dl t1 lxs
    obtain ⟨pa, px, rfl, gp, tp⟩ := Deep.tup' (show Deep H3 xl (.tup [.tup (dvL its0), .int (t0 : Nat)]) from Dl3)
    obtain ⟨xi, rfl, Di⟩ : ∃ xi, px = [xi, .int (t0 : Nat)] ∧ Deep H3 xi (.tup (dvL its0)) := by
      cases tp with
      | cons p1 t => cases t with
        | cons p2 t =>
          cases t
          obtain rfl := p2.int'
          exact ⟨_, rfl, p1⟩
    refine ⟨pa, _, rfl, .inl (.inl gp), rfl, _, _, rfl, _, _, rfl, rfl, ?_⟩
    obtain ⟨ia, ix, rfl, gi, ti⟩ := Deep.tup' Di
    rw [dvL_map] at ti
    have lix := ti.length
    rw [List.length_map] at lix
    dsimp only [gName, tAsg, tSeq, tNext]
    refine ⟨_, rfl, ia, rfl, ⟨_, .inl (.inl gi)⟩, ?_⟩
    refine for_fix (fixT (K := K) (a := ia) (xs := ix)) (fun j σ H4 => ∃ (n' : Nat) (xs : List V) (st : List (List (Bool × Ly) × Nat)) (y5 : Option V), σ = [some v, some (.int (n' : Nat)), some (.ref lf), some (.ref ia), some (.int (t0 : Nat)), y5] ∧ LsSt H H4 lf xs (st.map stD) ∧ n' + wS st + szL (its0.drop j) * t0 = szL its ∧ cS st + cnL (its0.drop j) + 1 ≤ m ∧ H4 ia = some (.tup ix) ∧ Deeps H4 ix (its0.map dvI) ∧ ∀ e ∈ st, okL e.1) ⟨n, xs0, st0, y5, rfl, B3, by rw [List.drop_zero]; omega, by rw [List.drop_zero]; omega, gi, ti, hst0⟩ ?_ ?_ ?_
    · rintro j σ H4 _ ⟨n', xs, st, y5, rfl, _, _, _, g4, _, _⟩
      exact .inl (.inl g4)
    · rintro j x σ H40 H4 hj ⟨n', xs, st, y5, rfl, B4, hw4, hc4, g4, t4, hst4⟩ ⟨rfl, hx⟩
      obtain ⟨d, hd, Dx⟩ := t4.getX hx
      rw [List.getElem?_map] at hd
      cases eo : its0[j]? with
      | none => rw [eo] at hd; cases hd
      | some oy =>
        rw [eo] at hd
        obtain rfl := Option.some.inj hd
        obtain ⟨q1, q2⟩ := szL_at eo
        rw [q1] at hw4
        rw [q2] at hc4
        have hpos := cnI_pos oy
        have lxs := B4.t.length
        rw [List.length_map] at lxs
        have lst4 := len_cS st
        have hoky := okL_at hok0 eo
        have nia : ia ≠ lf := fun z => by rw [z, B4.g] at g4; cases g4
        obtain ⟨ov, y⟩ := oy
        cases ov with
        | true =>
          obtain ⟨a, x2, rfl, g, _⟩ := over_at Dx
          rw [szI, if_pos rfl, Nat.zero_add] at hw4
          refine ⟨_, rfl, a, _, 0, _, rfl, rfl, .inl g, rfl, rfl, false, by rw [w_ob], iteF ?_⟩
          refine ⟨_, rfl, a, _, 0, _, rfl, rfl, .inl g, rfl, rfl, false, by rw [w_og], iteF ?_⟩
          refine ⟨_, rfl, a, _, 0, _, rfl, rfl, .inl g, rfl, rfl, false, by rw [w_ot], iteF ?_⟩
          exact ⟨n', xs, st, _, rfl, B4, by omega, by omega, g4, t4, hst4⟩
        | false =>
          rw [dvI, if_neg (by decide)] at Dx
          rw [szI, if_neg (by decide)] at hw4
          rw [Nat.add_mul] at hw4
          rw [cnI] at hc4 hpos
          cases y with
          | box nm p =>
            obtain ⟨a, rfl, g⟩ := box_at Dx
            obtain ⟨pa2, pl, px2, ep, hp, es⟩ := pic_size p
            rw [Ly.sz] at hw4
            refine ⟨_, rfl, a, _, 0, _, rfl, rfl, .inl g, rfl, rfl, true, rfl, iteT ?_⟩
            refine ⟨_, rfl, _, rfl, _, rfl, a, _, 2, _, rfl, rfl, .inl g, rfl, pa2, pl, px2, (by rw [ep]; rfl), hp, fun H5 S5 => ?_⟩
            rw [es]
            have hszp : szP p ≤ 60 := by unfold szP; split <;> decide
            refine ⟨_, _, rfl, rfl, .inr ⟨by omega, by omega⟩, ?_⟩
            refine ⟨_, _, rfl, rfl, ?_⟩
            refine ⟨n' + szP p * t0, xs, st, some (.ref a), ?_, B4.same S5, by omega, by rw [Ly.cn] at hc4; omega, S5 _ _ g4, t4.same S5, hst4⟩
            have e : ((n' : Nat) : Int) + ((t0 : Nat) : Int) * ((szP p : Nat) : Int) = ((n' + szP p * t0 : Nat) : Int) := by push_cast; rw [Int.mul_comm]
            rw [← e]
            rfl
          | grp nm its1 =>
            obtain ⟨a, x2, rfl, g, D2⟩ := grp_at Dx
            rw [Ly.sz] at hw4
            rw [Ly.cn] at hc4
            have hok1 : okL its1 := by rw [okI, Ly.okK] at hoky; exact hoky
            refine ⟨_, rfl, a, _, 0, _, rfl, rfl, .inl g, rfl, rfl, false, by rw [w_gb], iteF ?_⟩
            refine ⟨_, rfl, a, _, 0, _, rfl, rfl, .inl g, rfl, rfl, true, rfl, iteT ?_⟩
            refine ⟨_, rfl, .inl ⟨rfl, _, .inl (.inl B4.g)⟩, ?_⟩
            refine ⟨_, rfl, a, _, 2, _, rfl, rfl, .inl g, rfl, _, rfl, by show 2 ≤ sizeLine; omega, fun p5 hp5 => ?_⟩
            have S5 := Same.new (o := .tup [x2, .int (t0 : Nat)]) hp5
            have B5 := B4.same S5
            have D5 : Deep (upd H4 p5 (.tup [x2, .int (t0 : Nat)])) (.ref p5) (stD (its1, t0)) := .tup upd_same (.cons (D2.same S5) (.cons .int .nil))
            have g5 := S5 _ _ g4
            have t5 := t4.same S5
            generalize upd H4 p5 (.tup [x2, .int (t0 : Nat)]) = H5 at B5 D5 g5 t5
            refine ⟨lf, xs, .ref p5, rfl, rfl, B5.g, by omega, ?_⟩
            refine ⟨n', xs ++ [.ref p5], st ++ [(its1, t0)], _, rfl, ?_, ?_, ?_, by rw [upd_ne nia]; exact g5, t5.updL B5.g (fun zs z => nomatch z), ?_⟩
            · rw [List.map_append]
              exact B5.put (B5.t.append (.cons D5 .nil))
            · rw [wS_app]
              show n' + (wS st + (szL its1 * t0 + 0)) + _ = _
              omega
            · rw [cS_app]
              show cS st + ((1 + cnL its1) + 0) + _ + 1 ≤ m
              omega
            · intro e he
              rcases List.mem_append.mp he with he | he
              · exact hst4 e he
              · rw [List.mem_singleton.mp he]; exact hok1
          | tab nm k1 its1 =>
            obtain ⟨a, x2, rfl, g, D2⟩ := tab_at Dx
            rw [Ly.sz] at hw4
            rw [Ly.cn] at hc4
            obtain ⟨hk1, hok1⟩ : k1 ≤ 1000 ∧ okL its1 := by rw [okI, Ly.okK] at hoky; exact hoky
            refine ⟨_, rfl, a, _, 0, _, rfl, rfl, .inl g, rfl, rfl, false, by rw [w_tb], iteF ?_⟩
            refine ⟨_, rfl, a, _, 0, _, rfl, rfl, .inl g, rfl, rfl, false, by rw [w_tg], iteF ?_⟩
            refine ⟨_, rfl, a, _, 0, _, rfl, rfl, .inl g, rfl, rfl, true, rfl, iteT ?_⟩
            refine ⟨_, rfl, .inl ⟨rfl, _, .inl (.inl B4.g)⟩, ?_⟩
            refine ⟨_, rfl, a, _, 3, _, rfl, rfl, .inl g, rfl, _, rfl, _, rfl, a, _, 2, _, rfl, rfl, .inl g, rfl, _, _, rfl, rfl, .inr ⟨by omega, by omega⟩, by show 2 ≤ sizeLine; omega, fun p5 hp5 => ?_⟩
            have e : ((t0 : Nat) : Int) * ((k1 : Nat) : Int) = ((t0 * k1 : Nat) : Int) := by push_cast; rfl
            dsimp only
            rw [e]
            have S5 := Same.new (o := .tup [x2, .int (t0 * k1 : Nat)]) hp5
            have B5 := B4.same S5
            have D5 : Deep (upd H4 p5 (.tup [x2, .int (t0 * k1 : Nat)])) (.ref p5) (stD (its1, t0 * k1)) := .tup upd_same (.cons (D2.same S5) (.cons .int .nil))
            have g5 := S5 _ _ g4
            have t5 := t4.same S5
            generalize upd H4 p5 (.tup [x2, .int (t0 * k1 : Nat)]) = H5 at B5 D5 g5 t5
            refine ⟨lf, xs, .ref p5, rfl, rfl, B5.g, by omega, ?_⟩
            refine ⟨n', xs ++ [.ref p5], st ++ [(its1, t0 * k1)], _, rfl, ?_, ?_, ?_, by rw [upd_ne nia]; exact g5, t5.updL B5.g (fun zs z => nomatch z), ?_⟩
            · rw [List.map_append]
              exact B5.put (B5.t.append (.cons D5 .nil))
            · rw [wS_app]
              show n' + (wS st + (szL its1 * (t0 * k1) + 0)) + _ = _
              have e2 : szL its1 * k1 * t0 = szL its1 * (t0 * k1) := by rw [Nat.mul_assoc, Nat.mul_comm k1 t0]
              omega
            · rw [cS_app]
              show cS st + ((1 + cnL its1) + 0) + _ + 1 ≤ m
              omega
            · intro e he
              rcases List.mem_append.mp he with he | he
              · exact hst4 e he
              · rw [List.mem_singleton.mp he]; exact hok1
    · rintro σ H4 ⟨n', xs, st, y5, rfl, B4, hw4, hc4, _, _, hst4⟩
      rw [List.drop_eq_nil_of_le (by omega)] at hw4 hc4
      simp only [szL, cnL] at hw4 hc4
      exact ⟨m - 1, by omega, n', xs, st, _, _, _, rfl, B4, by omega, by omega, by omega, hst4⟩
end
end Lw

set_option Elab.async false
set_option linter.all false
set_option maxRecDepth 100000
namespace Lw
open PySem PySem.Spec PyProof.Rows L2 K02 K04
open Builtin Builtin.Str StrLaws
def dfI : Bool × Ly := (false, .box "" 0)
/-- the place of the last item that lies over nothing, up to here -/
def under (its : List (Bool × Ly)) : Nat → Nat
  | 0 => 0
  | j + 1 => if (its.getD (j + 1) dfI).1 = true then under its j else j + 1
def underB (its : List (Bool × Ly)) : Nat → Nat
  | 0 => 0
  | j + 1 => under its j
theorem under_le (its : List (Bool × Ly)) : ∀ j, under its j ≤ j
  | 0 => Nat.le_refl _
  | j + 1 => by
    rw [under]
    split
    · exact Nat.le_succ_of_le (under_le its j)
    · exact Nat.le_refl _
theorem under_step (its : List (Bool × Ly)) (j : Nat) : under its j = if (its.getD j dfI).1 = true then underB its j else j := by
  cases j with
  | zero => show 0 = _; rw [underB]; split <;> rfl
  | succ j => rfl
theorem cn_at : ∀ {its : List (Bool × Ly)} {j : Nat} {x : Bool × Ly}, its[j]? = some x → cnI x ≤ cnL its
  | [], _, _, h => by simp at h
  | y :: ys, 0, x, h => by
    have : y = x := by simpa using h
    subst this
    rw [cnL]; omega
  | y :: ys, j + 1, x, h => by
    have := cn_at (its := ys) (j := j) (x := x) (by simpa using h)
    rw [cnL]; omega
theorem seqJ {t u : TS} {D : Ends} {σ : L2.St} {H : Hp} (Good : L2.St → Hp → Prop) (rest : ∀ σ' H', Good σ' H' → u D σ' H') (h : (∀ σ' H', Good σ' H' → u D σ' H') → t { D with nx := u D } σ H) : tSeq t u D σ H := h rest
mutual
def Ly.wt : Ly → Nat
  | .box _ _ => 1
  | .grp _ its => 1 + wtL its
  | .tab _ k its => 1 + k * wtL its
def wtL : List (Bool × Ly) → Nat
  | [] => 0
  | x :: xs => wtI x + wtL xs
def wtI : Bool × Ly → Nat
  | (_, y) => y.wt
end
/-- two tuples put together -/
theorem cat_D {a b : Addr} {xs ys : List V} {ds es : List Dv} {H : Hp} {Q : VK} (ga : H a = some (.tup xs)) (gb : H b = some (.tup ys)) (ta : Deeps H xs ds) (tb : Deeps H ys es) (hl : xs.length + ys.length ≤ sizeLine) (k : ∀ u H', Same H H' → Deep H' u (.tup (ds ++ es)) → Q u H') : rCatR (.ref a) (.ref b) H Q := by
  refine ⟨a, b, xs, ys, rfl, rfl, .inl ga, .inl gb, hl, fun z => ?_, fun _ z => ?_, fun _ _ p hp => ?_⟩
  · subst z
    cases ta
    exact k _ _ (Same.refl _) (.tup gb tb)
  · subst z
    cases tb
    rw [List.append_nil] at k
    exact k _ _ (Same.refl _) (.tup ga ta)
  · exact k _ _ (Same.new hp) (deep_tup (ta.append tb) hp)
theorem okL_mem {its : List (Bool × Ly)} (h : okL its) {x : Bool × Ly} (hx : x ∈ its) : x.2.okK := by
  obtain ⟨j, hj⟩ := List.mem_iff_getElem?.mp hx
  have := okL_at h hj
  obtain ⟨o, y⟩ := x
  rw [okI] at this
  exact this
end Lw

set_option Elab.async false
set_option linter.all false
set_option maxRecDepth 100000
namespace Lw
open PySem PySem.Spec PyProof.Rows L2 K02 K04
open Builtin Builtin.Str StrLaws
/-! ### what is an item -/
def isT : Wx → Bool
  | .tup _ => true
  | _ => false
def isS : Wx → Bool
  | .str _ => true
  | _ => false
structure KitL (K : PySem.W.Frag) : Prop where
  t : ∀ d : Wx, PySem.W.kitOne K (.type (tyW d)) (.type "tuple") = some (isT d)
  s : ∀ d : Wx, PySem.W.kitOne K (.type (tyW d)) (.type "str") = some (isS d)
  ii : PySem.W.kitOne K (.type "int") (.type "int") = some true
  bi : PySem.W.kitOne K (.type "bool") (.type "int") = some true
  ib : PySem.W.kitOne K (.type "int") (.type "bool") = some false
  bb : PySem.W.kitOne K (.type "bool") (.type "bool") = some true
def bww : Wx → Bool
  | .tup (.str _ :: _) => true
  | _ => false
def nmS (z : Str) : Bool := decide (1 ≤ z.length) && decide (z.length ≤ 12) && decide (V.str (Txt.stripChars z "abcdefghijklmnopqrstuvwxyz") = V.str "")
def nmW : Wx → Bool
  | .str z => nmS z
  | _ => false
def picW : Wx → Bool
  | .str z => (picture z.cps.toList).isSome
  | _ => false
def whW : Wx → Bool
  | .int i => decide (1 ≤ i) && decide (i ≤ 30)
  | _ => false
def eqS (a b : Str) : Bool := decide (V.str a = V.str b)
def only {α : Type} (r : List Wx) (g : Wx → α) (e : α) : α := match r with | [x] => g x | _ => e
def onlyP (r : List Wx) (g : Wx → Prop) : Prop := match r with | [x] => g x | _ => True
def bareOk : Wx → Bool
  | .tup (.str w0 :: n :: c :: r) => nmW n && (if eqS w0 "table" = true then decide (r.length = 1) && whW c else if eqS w0 "box" = true then decide (r.length = 0) && picW c else decide (r.length = 0) && eqS w0 "group")
  | _ => false
def itemOk : Wx → Bool
  | .tup (.str w0 :: r) => if eqS w0 "over" = true then only r bareOk false else bareOk (.tup (.str w0 :: r))
  | _ => false
def ArgB : Wx → Prop
  | .tup (.str w0 :: _ :: c :: _) => (eqS w0 "box" = true → ∃ z : Str, c = .str z ∧ z.cps.toList.length ≤ 500) ∧ (eqS w0 "table" = true → (∃ i, c = .int i) ∨ ∃ b, c = .bl b)
  | _ => True
def ArgI : Wx → Prop
  | .tup (.str w0 :: r) => if eqS w0 "over" = true then onlyP r ArgB else ArgB (.tup (.str w0 :: r))
  | _ => True
section
variable {P : Program} {w : World} {K : PySem.W.Frag} {mg : Str → Option Value} {base : Heap} {f : Addr} {fd : FuncData} {tk : Nat → Tok} {c kr : Nat → Addr}
theorem bww_at {H : Hp} {v : V} {d : Wx} (D : Ws H v d) (h : bww d = true) : ∃ a w0 xs r, v = .ref a ∧ d = .tup (.str w0 :: r) ∧ H a = some (.tup (.str w0 :: xs)) ∧ Wss H xs r := by
  cases D with
  | non => cases h
  | bl => cases h
  | int => cases h
  | str => cases h
  | lst g => cases h
  | @tup a xs ds g t =>
    cases t with
    | nil => cases h
    | @cons x d0 xs ds hx t =>
      cases d0 with
      | str w0 =>
        obtain rfl := hx.str'
        exact ⟨a, w0, xs, ds, rfl, rfl, g, t⟩
      | _ => cases h
def spBww : Sp := fun vs H Q _ => ∃ (v : V) (d : Wx), vs = [v] ∧ Ws H v d ∧ Q (.bl (bww d)) H
theorem ok_begins_with_word (F : Fun K "begins_with_word" "begins_with_word" s_begins_with_word f fd) (O : Own mg) (OT : mg "tuple" = none) (KT : KitL K) : FnOk P w K mg base (CXE P w) 1 f fd ["thing"] spBww := by
  refine okNx F sc_begins_with_word (fun vs H Q E h => ?_) (fun cdv A outer s H vs Q E hr h => ?_)
  · obtain ⟨v, d, rfl, _⟩ := h
    rfl
  · obtain ⟨v, d, rfl, D, k⟩ := h
    refine ⟨_, (psx_one (psy_ret (PEx.mk (pe_and (pe_callB call_isi rfl O.isi PyProof.Rows.boot_isinstance (pa_c (pv 0) (pa_c (pe_bltn (v := V.ty "tuple") rfl OT PyProof.Rows.boot_tuple rfl) pa_nil))) (pe_and (pe_cmpR op_gt (pe_callB call_len_seq rfl O.len PySem.boot_len (pa_c (pv 0) pa_nil)) pe_int (nomark _)) (pe_one (pe_callB call_isi rfl O.isi PyProof.Rows.boot_isinstance (pa_c (pe_ix ix_tupR (pv 0) pe_int (fun _ _ => rfl)) (pa_c (pe_bltn (v := V.ty "str") rfl O.str PyProof.Rows.boot_str rfl) pa_nil))))))))), ?_⟩
    refine ⟨_, rfl, _, _, isT d, rfl, rfl, .inl ⟨_, D.ty, KT.t d⟩, isT d, rfl, ?_⟩
    cases D with
    | non => exact iteF k
    | bl => exact iteF k
    | int => exact iteF k
    | str => exact iteF k
    | lst g => exact iteF k
    | @tup a xs ds g t =>
      refine iteT ⟨_, rfl, a, xs, rfl, .inr (.inl (.inl g)), _, _, rfl, rfl, ?_⟩
      cases t with
      | nil => exact ⟨false, rfl, iteF k⟩
      | @cons x d0 xs ds hx t =>
        refine ⟨true, ?_, iteT ?_⟩
        · exact congrArg V.bl (decide_eq_true (by rw [List.length_cons]; omega))
        refine ⟨_, rfl, a, _, 0, _, rfl, rfl, .inl g, atI_nat (j := 0) rfl, _, _, isS d0, rfl, rfl, .inl ⟨_, hx.ty, KT.s d0⟩, ?_⟩
        have e : bww (.tup (d0 :: ds)) = isS d0 := by cases d0 <;> rfl
        rw [← e]
        exact k
def spName : Sp := fun vs H Q _ => ∃ (v : V) (d : Wx), vs = [v] ∧ Ws H v d ∧ (∀ z, d = .str z → z.length ≤ 1000) ∧ Q (.bl (nmW d)) H
theorem ok_is_name (F : Fun K "is_name" "is_name" s_is_name f fd) (O : Own mg) (T : Txt K mg tk c kr) (KT : KitL K) : FnOk P w K mg base (CXE P w) 1 f fd ["thing"] spName := by
  refine okNx F sc_is_name (fun vs H Q E h => ?_) (fun cdv A outer s H vs Q E hr h => ?_)
  · obtain ⟨v, d, rfl, _⟩ := h
    rfl
  · obtain ⟨v, d, rfl, D, hl, k⟩ := h
    have hz : 1000 ≤ sizeLine := by decide
    refine ⟨_, (psx_one (psy_ret (PEx.mk (pe_and (pe_callB call_isi rfl O.isi PyProof.Rows.boot_isinstance (pa_c (pv 0) (pa_c (pe_bltn (v := V.ty "str") rfl O.str PyProof.Rows.boot_str rfl) pa_nil))) (pe_and (pe_chain op_le op_le pe_int (pe_callB call_len_str rfl O.len PySem.boot_len (pa_c (pv 0) pa_nil)) (pe_glob (v := V.int 12) rfl T.m_LONGEST_NAME ⟨_, rfl⟩)) (pe_one (pe_cmpR op_eq (pe_bm PySem.F.plainAttrs_str PySem.F.slot_str_strip PySem.F.type_str_strip mt_strip (pv 0) (pa_c (pe_glob (v := V.str "abcdefghijklmnopqrstuvwxyz") rfl T.m_SMALL_LETTERS ⟨_, rfl⟩) pa_nil)) pe_str (nomark _)))))))), ?_⟩
    refine ⟨_, rfl, _, _, isS d, rfl, rfl, .inl ⟨_, D.ty, KT.s d⟩, isS d, rfl, ?_⟩
    cases D with
    | non => exact iteF k
    | bl => exact iteF k
    | int => exact iteF k
    | lst g => exact iteF k
    | tup g t => exact iteF k
    | @str z =>
      have hl := hl z rfl
      have k : Q (.bl (nmS z)) H := k
      unfold nmS at k
      refine iteT ⟨_, rfl, z, rfl, by omega, _, _, rfl, rfl, _, rfl, ?_⟩
      refine ifB (fun h1 => ?_) (fun h1 => ?_)
      · have h1 : decide ((1 : Int) ≤ (z.length : Nat)) = true := h1
        have h1' : decide (1 ≤ z.length) = true := decide_eq_true (by have := of_decide_eq_true h1; omega)
        rw [h1', Bool.true_and] at k
        refine ⟨_, _, rfl, rfl, _, rfl, ?_⟩
        refine ifB (fun h2 => ?_) (fun h2 => ?_)
        · have h2' : decide (z.length ≤ 12) = true := decide_eq_true (by have := of_decide_eq_true h2; omega)
          rw [h2', Bool.true_and] at k
          exact ⟨_, rfl, rfl, z, _, rfl, rfl, Nat.le_trans hl hz, rfl, k⟩
        · have h2' : decide (z.length ≤ 12) = false := decide_eq_false (by have := of_decide_eq_false h2; omega)
          rw [h2', Bool.false_and] at k
          exact k
      · have h1' : decide (1 ≤ z.length) = false := decide_eq_false (by have := of_decide_eq_false h1; omega)
        rw [h1', Bool.false_and, Bool.false_and] at k
        exact ⟨_, rfl, iteF k⟩
def isW : Wx → Bool
  | .int _ => true
  | _ => false
def spWhole1 : Sp := fun vs H Q _ => ∃ (v : V) (d : Wx), vs = [v] ∧ Ws H v d ∧ ((∃ i, d = .int i) ∨ ∃ b, d = .bl b) ∧ Q (.bl (isW d)) H
theorem ok_is_whole (F : Fun K "is_whole" "is_whole" s_is_whole f fd) (O : Own mg) (KT : KitL K) : FnOk P w K mg base (CXE P w) 1 f fd ["thing"] spWhole1 := by
  refine okNx F sc_is_whole (fun vs H Q E h => ?_) (fun cdv A outer s H vs Q E hr h => ?_)
  · obtain ⟨v, d, rfl, _⟩ := h
    rfl
  · obtain ⟨v, d, rfl, D, hd, k⟩ := h
    refine ⟨_, (psx_one (psy_ret (PEx.mk (pe_and (pe_callB call_isi rfl O.isi PyProof.Rows.boot_isinstance (pa_c (pv 0) (pa_c (pe_bltn (v := V.ty "int") rfl O.int PyProof.Rows.boot_int rfl) pa_nil))) (pe_one (pe_not (pe_callB call_isi rfl O.isi PyProof.Rows.boot_isinstance (pa_c (pv 0) (pa_c (pe_bltn (v := V.ty "bool") rfl O.bool PyProof.Rows.boot_bool rfl) pa_nil))))))))), ?_⟩
    rcases hd with ⟨i, rfl⟩ | ⟨b, rfl⟩
    · cases D
      refine ⟨_, rfl, _, _, true, rfl, rfl, .inl ⟨_, .int _, KT.ii⟩, true, rfl, iteT ?_⟩
      exact ⟨_, rfl, _, _, false, rfl, rfl, .inl ⟨_, .int _, KT.ib⟩, _, rfl, k⟩
    · cases D
      refine ⟨_, rfl, _, _, true, rfl, rfl, .inl ⟨_, .bl _, KT.bi⟩, true, rfl, iteT ?_⟩
      exact ⟨_, rfl, _, _, true, rfl, rfl, .inl ⟨_, .bl _, KT.bb⟩, _, rfl, k⟩
def NmLen : Wx → Prop
  | .tup (.str _ :: .str z :: _) => z.length ≤ 1000
  | _ => True
def spBareI : Sp := fun vs H Q _ => ∃ (v : V) (d : Wx), vs = [v] ∧ Ws H v d ∧ ArgB d ∧ NmLen d ∧ ∀ H', Same H H' → Q (.bl (bareOk d)) H'
set_option maxHeartbeats 1000000 in
theorem ok_is_bare_item (F : Fun K "is_bare_item" "is_bare_item" s_is_bare_item f fd) (O : Own mg) (T : Txt K mg tk c kr) (D_begins_with_word : Def P w K mg base 1 "begins_with_word" ["thing"] spBww) (D_is_name : Def P w K mg base 1 "is_name" ["thing"] spName) (D_is_whole : Def P w K mg base 1 "is_whole" ["thing"] spWhole1) (D_is_picture : Def P w K mg base 6 "is_picture" ["thing"] (spIsPic K)) : FnOk P w K mg base (CXE P w) 7 f fd ["thing"] spBareI := by
  refine okNx F sc_is_bare_item (fun vs H Q E h => ?_) (fun cdv A outer s H vs Q E hr h => ?_)
  · obtain ⟨v, d, rfl, _⟩ := h
    rfl
  · obtain ⟨v, d, rfl, D, hA, hN, k⟩ := h
    refine ⟨_, (psx_cons (psy_if (PW.pt (pw_or (pt_not (pt_val (D_begins_with_word.pe hr (by decide) rfl passE0 (pa_c (pv 0) pa_nil)))) (pw_or (pt_cmpR op_lt (pe_callB call_len_seq rfl O.len PySem.boot_len (pa_c (pv 0) pa_nil)) pe_int (nomark _)) (pw_or1 (pt_not (pt_val (D_is_name.pe hr (by decide) rfl passE0 (pa_c (pe_ix ix_tupR (pv 0) pe_int (fun _ _ => rfl)) pa_nil)))))))) (psx_one (psy_ret (PEx.mk pe_bl))) psx_nil)
      (psx_cons (psy_if (pt_cmpR op_eq (pe_ix ix_tupR (pv 0) pe_int (fun _ _ => rfl)) pe_str (nomark _)) (psx_one (psy_ret (PEx.mk (pe_and (pe_cmpR op_eq (pe_callB call_len_seq rfl O.len PySem.boot_len (pa_c (pv 0) pa_nil)) pe_int (nomark _)) (pe_and (D_is_whole.pe hr (by decide) rfl passE0 (pa_c (pe_ix ix_tupR (pv 0) pe_int (fun _ _ => rfl)) pa_nil)) (pe_one (pe_chain op_le op_le pe_int (pe_ix ix_tupR (pv 0) pe_int (fun _ _ => rfl)) (pe_glob (v := V.int 30) rfl T.m_MOST_TIMES ⟨_, rfl⟩)))))))) psx_nil)
      (psx_cons (psy_if (pt_cmpR op_eq (pe_ix ix_tupR (pv 0) pe_int (fun _ _ => rfl)) pe_str (nomark _)) (psx_one (psy_ret (PEx.mk (pe_and (pe_cmpR op_eq (pe_callB call_len_seq rfl O.len PySem.boot_len (pa_c (pv 0) pa_nil)) pe_int (nomark _)) (pe_one (D_is_picture.pe hr (by decide) rfl passE0 (pa_c (pe_ix ix_tupR (pv 0) pe_int (fun _ _ => rfl)) pa_nil))))))) psx_nil)
      (psx_one (psy_ret (PEx.mk (pe_and (pe_cmpR op_eq (pe_callB call_len_seq rfl O.len PySem.boot_len (pa_c (pv 0) pa_nil)) pe_int (nomark _)) (pe_one (pe_cmpR op_eq (pe_ix ix_tupR (pv 0) pe_int (fun _ _ => rfl)) pe_str (nomark _)))))))))), ?_⟩
    dsimp only [gName, tAsg, tSeq, tNext]
    refine ⟨_, rfl, v, d, rfl, D, bww d, rfl, ?_⟩
    cases hb : bww d with
    | false =>
      refine iteT (iteT ?_)
      have : bareOk d = false := by
        cases d with
        | tup ds => cases ds with
          | nil => rfl
          | cons d0 ds => cases d0 with
            | str w0 => cases hb
            | _ => rfl
        | _ => rfl
      rw [this] at k
      exact k _ (Same.refl _)
    | true =>
      obtain ⟨a, w0, xs, r, rfl, rfl, g, t⟩ := bww_at D hb
      have lx := t.length
      cases t with
      | nil => exact iteF ⟨_, rfl, a, _, rfl, .inr (.inl (.inl g)), _, _, rfl, rfl, true, rfl, iteT (iteT (k _ (Same.refl _)))⟩
      | @cons x1 d1 xs r hx1 t =>
        cases t with
        | nil => exact iteF ⟨_, rfl, a, _, rfl, .inr (.inl (.inl g)), _, _, rfl, rfl, true, rfl, iteT (iteT (k _ (Same.refl _)))⟩
        | @cons x2 d2 xs r hx2 t =>
          have lx := t.length
          have hN : ∀ z, d1 = .str z → z.length ≤ 1000 := fun z e => by subst e; exact hN
          have hA : (eqS w0 "box" = true → ∃ z : Str, d2 = .str z ∧ z.cps.toList.length ≤ 500) ∧ (eqS w0 "table" = true → (∃ i, d2 = .int i) ∨ ∃ b, d2 = .bl b) := hA
          have k : ∀ H', Same H H' → Q (.bl (nmW d1 && (if eqS w0 "table" = true then decide (r.length = 1) && whW d2 else if eqS w0 "box" = true then decide (r.length = 0) && picW d2 else decide (r.length = 0) && eqS w0 "group"))) H' := k
          have len3 : (V.bl (decide ((((V.str w0 :: x1 :: x2 :: xs).length : Nat) : Int) < 3))) = .bl false := congrArg V.bl (decide_eq_false (by simp only [List.length_cons]; omega))
          refine iteF ⟨_, rfl, a, _, rfl, .inr (.inl (.inl g)), _, _, rfl, rfl, false, len3, iteF ?_⟩
          refine ⟨_, rfl, a, _, 1, _, rfl, rfl, .inl g, atI_nat (j := 1) rfl, x1, d1, rfl, hx1, hN, nmW d1, rfl, ?_⟩
          cases hn : nmW d1 with
          | false =>
            rw [hn, Bool.false_and] at k
            exact iteT (k _ (Same.refl _))
          | true =>
            rw [hn, Bool.true_and] at k
            refine iteF ⟨_, rfl, a, _, 0, _, rfl, rfl, .inl g, atI_nat (j := 0) rfl, rfl, eqS w0 "table", rfl, ?_⟩
            cases ht : eqS w0 "table" with
            | true =>
              rw [if_pos ht] at k
              refine iteT ⟨_, rfl, a, _, rfl, .inr (.inl (.inl g)), rfl, ?_⟩
              by_cases h4 : r.length = 1
              · rw [decide_eq_true h4, Bool.true_and] at k
                refine ⟨true, congrArg V.bl (decide_eq_true (by rw [show (V.str w0 :: x1 :: x2 :: xs).length = 4 by simp only [List.length_cons]; omega]; rfl)), iteT ?_⟩
                refine ⟨_, rfl, a, _, 2, _, rfl, rfl, .inl g, atI_nat (j := 2) rfl, x2, d2, rfl, hx2, hA.2 ht, isW d2, rfl, ?_⟩
                rcases hA.2 ht with ⟨i, rfl⟩ | ⟨b, rfl⟩
                · obtain rfl := hx2.int'
                  refine iteT ⟨_, rfl, a, _, 2, _, rfl, rfl, .inl g, atI_nat (j := 2) rfl, _, _, rfl, rfl, _, rfl, ?_⟩
                  have k : ∀ H', Same H H' → Q (.bl (decide (1 ≤ i) && decide (i ≤ 30))) H' := k
                  refine ifB (fun h1 => ?_) (fun h1 => ?_)
                  · rw [show decide (1 ≤ i) = true from h1, Bool.true_and] at k
                    exact ⟨_, _, rfl, rfl, k _ (Same.refl _)⟩
                  · rw [show decide (1 ≤ i) = false from h1, Bool.false_and] at k
                    exact k _ (Same.refl _)
                · exact iteF (k _ (Same.refl _))
              · rw [decide_eq_false h4, Bool.false_and] at k
                refine ⟨false, congrArg V.bl (decide_eq_false (fun z => ?_)), iteF (k _ (Same.refl _))⟩
                injection z with z
                simp only [List.length_cons] at z
                omega
            | false =>
              rw [if_neg (by rw [ht]; decide)] at k
              refine iteF ⟨_, rfl, a, _, 0, _, rfl, rfl, .inl g, atI_nat (j := 0) rfl, rfl, eqS w0 "box", rfl, ?_⟩
              have l3t : r.length = 0 → (V.bl (decide (V.int (((V.str w0 :: x1 :: x2 :: xs).length : Nat) : Int) = V.int 3))) = .bl true := fun h3 => congrArg V.bl (decide_eq_true (by rw [show (V.str w0 :: x1 :: x2 :: xs).length = 3 by simp only [List.length_cons]; omega]; rfl))
              have l3f : r.length ≠ 0 → (V.bl (decide (V.int (((V.str w0 :: x1 :: x2 :: xs).length : Nat) : Int) = V.int 3))) = .bl false := fun h3 => congrArg V.bl (decide_eq_false (fun z => by
                injection z with z
                simp only [List.length_cons] at z
                omega))
              cases hx : eqS w0 "box" with
              | true =>
                rw [if_pos hx] at k
                refine iteT ⟨_, rfl, a, _, rfl, .inr (.inl (.inl g)), rfl, ?_⟩
                by_cases h3 : r.length = 0
                · rw [decide_eq_true h3, Bool.true_and] at k
                  obtain ⟨z, rfl, hzl⟩ := hA.1 hx
                  obtain rfl := hx2.str'
                  refine ⟨true, l3t h3, iteT ?_⟩
                  exact ⟨_, rfl, a, _, 2, _, rfl, rfl, .inl g, atI_nat (j := 2) rfl, _, _, rfl, .inl ⟨z.cps.toList, by rw [← of_tx z], hzl, rfl⟩, fun H' S' => k _ S'⟩
                · rw [decide_eq_false h3, Bool.false_and] at k
                  exact ⟨false, l3f h3, iteF (k _ (Same.refl _))⟩
              | false =>
                rw [if_neg (by rw [hx]; decide)] at k
                refine iteF ⟨_, rfl, a, _, rfl, .inr (.inl (.inl g)), rfl, ?_⟩
                by_cases h3 : r.length = 0
                · rw [decide_eq_true h3, Bool.true_and] at k
                  refine ⟨true, l3t h3, iteT ?_⟩
                  exact ⟨_, rfl, a, _, 0, _, rfl, rfl, .inl g, atI_nat (j := 0) rfl, rfl, k _ (Same.refl _)⟩
                · rw [decide_eq_false h3, Bool.false_and] at k
                  exact ⟨false, l3f h3, iteF (k _ (Same.refl _))⟩
/-- .. or lies over another -/
def NmI : Wx → Prop
  | .tup (.str w0 :: r) => if eqS w0 "over" = true then onlyP r NmLen else NmLen (.tup (.str w0 :: r))
  | _ => True
def spItem : Sp := fun vs H Q _ => ∃ (v : V) (d : Wx), vs = [v] ∧ Ws H v d ∧ ArgI d ∧ NmI d ∧ ∀ H', Same H H' → Q (.bl (itemOk d)) H'
theorem bare_no {d : Wx} (hb : bww d = false) : bareOk d = false ∧ NmLen d ∧ ArgB d ∧ bareOk d = itemOk d := by
  cases d with
  | tup ds => cases ds with
    | nil => exact ⟨rfl, trivial, trivial, rfl⟩
    | cons d0 ds => cases d0 with
      | str w0 => cases hb
      | _ => exact ⟨rfl, trivial, trivial, rfl⟩
  | _ => exact ⟨rfl, trivial, trivial, rfl⟩
theorem ok_is_item (F : Fun K "is_item" "is_item" s_is_item f fd) (O : Own mg) (D_begins_with_word : Def P w K mg base 1 "begins_with_word" ["thing"] spBww) (D_is_bare_item : Def P w K mg base 7 "is_bare_item" ["thing"] spBareI) : FnOk P w K mg base (CXE P w) 8 f fd ["thing"] spItem := by
  refine okNx F sc_is_item (fun vs H Q E h => ?_) (fun cdv A outer s H vs Q E hr h => ?_)
  · obtain ⟨v, d, rfl, _⟩ := h
    rfl
  · obtain ⟨v, d, rfl, D, hA, hN, k⟩ := h
    refine ⟨_, (psx_cons (psy_if (PW.pt (pw_and (pt_val (D_begins_with_word.pe hr (by decide) rfl passE0 (pa_c (pv 0) pa_nil))) (pw_and1 (pt_cmpR op_eq (pe_ix ix_tupR (pv 0) pe_int (fun _ _ => rfl)) pe_str (nomark _))))) (psx_one (psy_ret (PEx.mk (pe_and (pe_cmpR op_eq (pe_callB call_len_seq rfl O.len PySem.boot_len (pa_c (pv 0) pa_nil)) pe_int (nomark _)) (pe_one (D_is_bare_item.pe hr (by decide) rfl passE0 (pa_c (pe_ix ix_tupR (pv 0) pe_int (fun _ _ => rfl)) pa_nil))))))) psx_nil)
      (psx_one (psy_ret (PEx.mk (D_is_bare_item.pe hr (by decide) rfl passE0 (pa_c (pv 0) pa_nil)))))), ?_⟩
    dsimp only [gName, tAsg, tSeq, tNext]
    refine ⟨_, rfl, v, d, rfl, D, bww d, rfl, ?_⟩
    cases hb : bww d with
    | false =>
      obtain ⟨h1, h2, h3, h4⟩ := bare_no hb
      exact iteF (iteF ⟨_, rfl, v, d, rfl, D, h3, h2, fun H' S' => by rw [h4]; exact k _ S'⟩)
    | true =>
      obtain ⟨a, w0, xs, r, rfl, rfl, g, t⟩ := bww_at D hb
      have hA : if eqS w0 "over" = true then onlyP r ArgB else ArgB (.tup (.str w0 :: r)) := hA
      have hN : if eqS w0 "over" = true then onlyP r NmLen else NmLen (.tup (.str w0 :: r)) := hN
      have k : ∀ H', Same H H' → Q (.bl (if eqS w0 "over" = true then only r bareOk false else bareOk (.tup (.str w0 :: r)))) H' := k
      refine iteT ⟨_, rfl, a, _, 0, _, rfl, rfl, .inl g, atI_nat (j := 0) rfl, rfl, eqS w0 "over", rfl, ?_⟩
      cases ho : eqS w0 "over" with
      | false =>
        rw [if_neg (by rw [ho]; decide)] at k hA hN
        exact iteF ⟨_, rfl, _, _, rfl, D, hA, hN, k⟩
      | true =>
        rw [if_pos ho] at k hA hN
        refine iteT ⟨_, rfl, a, _, rfl, .inr (.inl (.inl g)), rfl, ?_⟩
        cases t with
        | nil => exact ⟨false, rfl, iteF (k _ (Same.refl _))⟩
        | @cons x1 d1 xs r hx1 t =>
          cases t with
          | nil => exact ⟨true, rfl, iteT ⟨_, rfl, a, _, 1, _, rfl, rfl, .inl g, rfl, x1, d1, rfl, hx1, hA, hN, k⟩⟩
          | @cons x2 d2 xs r hx2 t =>
            refine ⟨false, congrArg V.bl (decide_eq_false (fun z => ?_)), iteF (k _ (Same.refl _))⟩
            injection z with z
            simp only [List.length_cons] at z
            omega
end
end Lw

set_option Elab.async false
set_option linter.all false
set_option maxRecDepth 100000
namespace Lw
open PySem PySem.Spec PyProof.Rows L2 K02 K04
open Builtin Builtin.Str StrLaws
/-! ### rows of items -/
def bareW : Wx → Wx
  | .tup (.str w0 :: r) => if eqS w0 "over" = true then only r id .non else .tup (.str w0 :: r)
  | d => d
def nameW : Wx → Str
  | .tup (_ :: .str z :: _) => z
  | _ => ""
def wordW : Wx → Str
  | .tup (.str z :: _) => z
  | _ => ""
def lastW : Wx → Wx
  | .tup ds => ds.getLastD .non
  | _ => .non
def nmB (x : Wx) : Str := nameW (bareW x)
def rowOk : Wx → Bool
  | .tup [] => false
  | .tup (d :: ds) => (d :: ds).all itemOk && unlike ((d :: ds).map nmB)
  | _ => false
def notBox (x : Wx) : Bool := !(eqS (wordW (bareW x)) "box")
def inB (x : Wx) : Wx := lastW (bareW x)
def inr : Wx → List Wx
  | .tup ds => (ds.filter notBox).map inB
  | _ => []
theorem bareOk_at {d : Wx} (h : bareOk d = true) : ∃ w0 z c r, d = .tup (.str w0 :: .str z :: c :: r) ∧ nmS z = true ∧ (if eqS w0 "table" = true then decide (r.length = 1) && whW c else if eqS w0 "box" = true then decide (r.length = 0) && picW c else decide (r.length = 0) && eqS w0 "group") = true := by
  cases d with
  | tup ds =>
    rcases ds with _ | ⟨d0, _ | ⟨n, _ | ⟨c, r⟩⟩⟩
    · cases h
    · cases d0 <;> cases h
    · cases d0 <;> cases h
    · cases d0 with
      | str w0 =>
        have h : (nmW n && (if eqS w0 "table" = true then decide (r.length = 1) && whW c else if eqS w0 "box" = true then decide (r.length = 0) && picW c else decide (r.length = 0) && eqS w0 "group")) = true := h
        rw [Bool.and_eq_true] at h
        cases n with
        | str z => exact ⟨w0, z, c, r, rfl, h.1, h.2⟩
        | _ => cases h.1
      | _ => cases h
  | _ => cases h
theorem item_bare {d : Wx} (h : itemOk d = true) : bareOk (bareW d) = true ∧ ∃ w0 r, d = .tup (.str w0 :: r) ∧ ((eqS w0 "over" = true ∧ r = [bareW d]) ∨ (eqS w0 "over" = false ∧ bareW d = d)) := by
  cases d with
  | tup ds =>
    cases ds with
    | nil => cases h
    | cons d0 r =>
      cases d0 with
      | str w0 =>
        have h : (if eqS w0 "over" = true then only r bareOk false else bareOk (.tup (.str w0 :: r))) = true := h
        have e : bareW (.tup (.str w0 :: r)) = if eqS w0 "over" = true then only r id .non else .tup (.str w0 :: r) := rfl
        rw [e]
        cases ho : eqS w0 "over" with
        | true =>
          rw [if_pos ho] at h
          rw [if_pos rfl]
          rcases r with _ | ⟨x, _ | ⟨y, r⟩⟩
          · cases h
          · exact ⟨h, w0, _, rfl, .inl ⟨ho, rfl⟩⟩
          · cases h
        | false =>
          rw [if_neg (by rw [ho]; decide)] at h
          rw [if_neg (by decide)]
          exact ⟨h, w0, _, rfl, .inr ⟨ho, rfl⟩⟩
      | _ => cases h
  | _ => cases h
section
variable {P : Program} {w : World} {K : PySem.W.Frag} {mg : Str → Option Value} {base : Heap} {f : Addr} {fd : FuncData} {tk : Nat → Tok} {c kr : Nat → Addr}
def spBareW : Sp := fun vs H Q _ => ∃ (v : V) (d : Wx), vs = [v] ∧ Ws H v d ∧ itemOk d = true ∧ ∀ u, Ws H u (bareW d) → Q u H
theorem ok_bareW (F : Fun K "bare" "bare" s_bare f fd) : FnOk P w K mg base (CXE P w) 1 f fd ["item"] spBareW := by
  refine okNx F sc_bare (fun vs H Q E h => ?_) (fun cdv A outer s H vs Q E hr h => ?_)
  · obtain ⟨v, d, rfl, _⟩ := h
    rfl
  · obtain ⟨v, d, rfl, D, hi, k⟩ := h
    obtain ⟨_, w0, r, rfl, hc⟩ := item_bare hi
    obtain ⟨a, xs, rfl, g, t⟩ := D.tup'
    refine ⟨_, (psx_one (psy_ret (pex_if (pt_cmpR op_eq (pe_ix ix_tupR (pv 0) pe_int (fun _ _ => rfl)) pe_str (nomark _)) (PEx.mk (pe_ix ix_tupR (pv 0) pe_int (fun _ _ => rfl))) (PEx.mk (pv 0))))), ?_⟩
    cases t with
    | @cons x d0 xs ds hx t =>
      obtain rfl := hx.str'
      rcases hc with ⟨ho, hr'⟩ | ⟨ho, hr'⟩
      · rw [hr'] at t
        cases t with
        | @cons x1 d1 xs ds hx1 t =>
          cases t
          exact ⟨_, rfl, a, _, 0, _, rfl, rfl, .inl g, rfl, rfl, true, congrArg V.bl ho, iteT ⟨_, rfl, a, _, 1, _, rfl, rfl, .inl g, rfl, k _ hx1⟩⟩
      · rw [hr'] at k
        exact ⟨_, rfl, a, _, 0, _, rfl, rfl, .inl g, atI_nat (j := 0) rfl, rfl, false, congrArg V.bl ho, iteF ⟨_, rfl, k _ D⟩⟩
def ArgR : Wx → Prop
  | .tup ds => ds.length < 900 ∧ ∀ x ∈ ds, ArgI x ∧ NmI x
  | _ => True
def spRow : Sp := fun vs H Q _ => ∃ (v : V) (d : Wx), vs = [v] ∧ Ws H v d ∧ ArgR d ∧ ∀ H', Same H H' → Q (.bl (rowOk d)) H'
theorem ok_is_row_of_items (F : Fun K "is_row_of_items" "is_row_of_items" s_is_row_of_items f fd) (O : Own mg) (OT : mg "tuple" = none) (OA : mg "all" = none) (OS : mg "set" = none) (KT : KitL K) (D_is_item : Def P w K mg base 8 "is_item" ["thing"] spItem) (D_bare : Def P w K mg base 1 "bare" ["item"] spBareW) : FnOk P w K mg base (CXE P w) 9 f fd ["thing"] spRow := by
  refine okNx F sc_is_row_of_items (fun vs H Q E h => ?_) (fun cdv A outer s H vs Q E hr h => ?_)
  · obtain ⟨v, d, rfl, _⟩ := h
    rfl
  · obtain ⟨v, d, rfl, D, hA, k⟩ := h
    have hz : 1000 ≤ sizeLine := by decide
    refine ⟨_, (psx_cons (psy_if (PW.pt (pw_or (pt_not (pt_val (pe_callB call_isi rfl O.isi PyProof.Rows.boot_isinstance (pa_c (pv 0) (pa_c (pe_bltn (v := V.ty "tuple") rfl OT PyProof.Rows.boot_tuple rfl) pa_nil))))) (pw_or1 (pt_cmpR op_eq (pe_callB call_len_seq rfl O.len PySem.boot_len (pa_c (pv 0) pa_nil)) pe_int (nomark _))))) (psx_one (psy_ret (PEx.mk pe_bl))) psx_nil)
      (psx_cons (psy_if (pt_not (pt_val (pe_callB (call_all rfl) rfl OA PyProof.Rows.boot_all (pa_c (pe_lcomp (NB := [".0", "item"]) rfl ⟨rfl, by decide +kernel, by decide +kernel, by decide +kernel⟩ (pi_tup (pv 0)) (fun _ _ _ => (pg_name (i := 1) (show ([".0", "item"] : List Str).Nodup by decide +kernel) rfl (Or.inl rfl))) (fun _ _ _ => pts_nil) (fun _ _ _ => (D_is_item.pe hr (by decide) rfl passE0 (pa_c (pv 1) pa_nil)))) pa_nil)))) (psx_one (psy_ret (PEx.mk pe_bl))) psx_nil)
      (psx_cons (PSy.mk (ps_lcomp (NB := [".0", "item"]) (iy := 1) rfl ⟨rfl, by decide +kernel, by decide +kernel, by decide +kernel⟩ (pi_tup (pv 0)) (fun _ _ _ => (pg_name (i := 1) (show ([".0", "item"] : List Str).Nodup by decide +kernel) rfl (Or.inl rfl))) (fun _ _ _ => pts_nil) (fun _ _ _ => (pe_ix ix_tupR (D_bare.pe hr (by decide) rfl passE0 (pa_c (pv 1) pa_nil)) pe_int (fun _ _ => rfl))) sc_is_row_of_items.nd rfl (Or.inl rfl) rfl))
      (psx_one (psy_ret (PEx.mk (pe_cmpR op_eq (pe_callB call_lenSet rfl O.len PySem.boot_len (pa_c (pe_callTy (call_setL rfl) rfl OS PyProof.Rows.boot_set (pa_c (pv 1) pa_nil)) pa_nil)) (pe_callB call_len_seq rfl O.len PySem.boot_len (pa_c (pv 1) pa_nil)) (nomark _)))))))), ?_⟩
    dsimp only [gName, tAsg, tSeq, tNext]
    refine ⟨_, rfl, _, _, isT d, rfl, rfl, .inl ⟨_, D.ty, KT.t d⟩, isT d, rfl, ?_⟩
    cases D with
    | non => exact iteT (iteT (k _ (Same.refl _)))
    | bl => exact iteT (iteT (k _ (Same.refl _)))
    | int => exact iteT (iteT (k _ (Same.refl _)))
    | str => exact iteT (iteT (k _ (Same.refl _)))
    | lst g => exact iteT (iteT (k _ (Same.refl _)))
    | @tup a xs ds g t =>
      obtain ⟨hA1, hA2⟩ := hA
      refine iteF ⟨_, rfl, a, xs, rfl, .inr (.inl (.inl g)), rfl, ?_⟩
      have lx := t.length
      cases ds with
      | nil =>
        cases t
        exact ⟨true, rfl, iteT (k _ (Same.refl _))⟩
      | cons d0 ds0 =>
        generalize hds : d0 :: ds0 = ds at t hA1 hA2 lx
        have hn : xs.length ≠ 0 := by rw [lx, ← hds, List.length_cons]; omega
        have k : ∀ H', Same H H' → Q (.bl (ds.all itemOk && unlike (ds.map nmB))) H' := by rw [← hds]; exact k
        clear hds
        refine ⟨false, congrArg V.bl (decide_eq_false fun z => by injection z with z; exact hn (by omega)), iteF ?_⟩
        dsimp only [gName, tAsg, tSeq, tNext, tIfS, tNot, tB]
        refine cb1 ?_
        refine comp_fix (fixT (K := K) (a := a) (xs := xs)) (fun i vs H1 => Same H H1 ∧ vs = ((ds.take i).map itemOk).map V.bl) (fun R h => ⟨_, rfl, a, rfl, ⟨_, .inl (.inl g)⟩, h _ ⟨Same.refl _, rfl⟩⟩) ?_ ?_ ?_ (by omega)
        · rintro i vs H1 hi ⟨S, rfl⟩
          refine ⟨.inl (.inl (S _ _ g)), ?_⟩
          rw [List.length_map, List.length_map, List.length_take]
          omega
        · rintro i v vs H1 H2 hi ⟨S, rfl⟩ ⟨rfl, hv⟩
          obtain ⟨d, hd, Dd⟩ := t.getX hv
          obtain ⟨h1, h2⟩ := hA2 d (List.mem_of_getElem? hd)
          refine ⟨_, rfl, v, d, rfl, Dd.same S, h1, h2, fun H3 S3 => ⟨S.trans S3, ?_⟩⟩
          rw [List.take_add_one, hd]
          simp
        rintro vs H1 ⟨S1, rfl⟩ p hp
        rw [List.take_of_length_le (by omega)]
        have S2 := S1.trans (Same.new (o := .lst ((ds.map itemOk).map V.bl)) hp)
        refine ⟨p, _, rfl, .inl (.inl upd_same), _, rfl, ?_⟩
        generalize upd H1 p (.lst ((ds.map itemOk).map V.bl)) = H2 at S2
        have ea : (ds.map itemOk).all id = ds.all itemOk := by rw [List.all_map]; rfl
        rw [ea]
        cases hall : ds.all itemOk with
        | false =>
          rw [hall, Bool.false_and] at k
          exact iteT (k _ S2)
        | true =>
          rw [hall, Bool.true_and] at k
          have hit : ∀ x ∈ ds, itemOk x = true := fun x hx => List.all_eq_true.mp hall x hx
          refine iteF ?_
          refine comp_fix (fixT (K := K) (a := a) (xs := xs)) (fun i vs H1 => Same H H1 ∧ vs = ((ds.take i).map nmB).map V.str) (fun R h => ⟨_, rfl, a, rfl, ⟨_, .inl (.inl (S2 _ _ g))⟩, h _ ⟨S2, rfl⟩⟩) ?_ ?_ ?_ (by omega)
          · rintro i vs H1 hi ⟨S, rfl⟩
            refine ⟨.inl (.inl (S _ _ g)), ?_⟩
            rw [List.length_map, List.length_map, List.length_take]
            omega
          · rintro i v vs H3 H4 hi ⟨S, rfl⟩ ⟨rfl, hv⟩
            obtain ⟨d, hd, Dd⟩ := t.getX hv
            have hid := hit d (List.mem_of_getElem? hd)
            refine ⟨_, rfl, v, d, rfl, Dd.same S, hid, fun u Du => ?_⟩
            obtain ⟨w0, z, c, r, e, _, _⟩ := bareOk_at (item_bare hid).1
            have en : nmB d = z := by rw [nmB, e]; rfl
            rw [e] at Du
            obtain ⟨b, ys, rfl, gb, tb⟩ := Du.tup'
            cases tb with
            | @cons y1 _ ys _ h1 tb =>
              cases tb with
              | @cons y2 _ ys _ h2 tb =>
                obtain rfl := h2.str'
                refine ⟨b, _, 1, _, rfl, rfl, .inl gb, atI_nat (j := 1) rfl, S, ?_⟩
                rw [List.take_add_one, hd]
                simp [en]
          rintro vs H3 ⟨S3, rfl⟩ q hq
          rw [List.take_of_length_le (by omega)]
          have S4 := S3.trans (Same.new (o := .lst ((ds.map nmB).map V.str)) hq)
          have g4 : upd H3 q (.lst ((ds.map nmB).map V.str)) q = some (.lst ((ds.map nmB).map V.str)) := upd_same
          generalize upd H3 q (.lst ((ds.map nmB).map V.str)) = H4 at S4 g4
          refine ⟨_, rfl, q, _, rfl, .inl (.inl g4), by rw [List.length_map]; omega, fun s hs => ?_⟩
          have S5 := Same.new (o := SetS P w s (many (ds.map nmB))) hs
          refine ⟨s, _, rfl, upd_same, ?_⟩
          refine ⟨_, rfl, q, _, rfl, .inl (.inl (.inl (S5 _ _ g4))), rfl, ?_⟩
          have e : decide (V.int ((many (ds.map nmB) : Nat) : Int) = V.int (((ds.map nmB).map V.str).length : Nat)) = unlike (ds.map nmB) := by
            rw [← many_iff]
            refine decide_eq_decide.mpr ⟨fun z => ?_, fun z => ?_⟩
            · injection z with z
              rw [List.length_map] at z
              omega
            · rw [z, List.length_map, List.length_map, List.length_map]
          rw [← e] at k
          exact k _ (S4.trans S5)
end
end Lw

set_option Elab.async false
set_option linter.all false
set_option maxRecDepth 100000
namespace Lw
open PySem PySem.Spec PyProof.Rows L2 K02 K04
open Builtin Builtin.Str StrLaws
/-! ### room for what lies over -/
def ovB : Nat → List (Bool × Ly) → Bool
  | _, [] => true
  | u, (ov, y) :: xs => if ov = true then decide (y.sz ≤ u) && ovB u xs else ovB y.sz xs
mutual
def Ly.ov : Ly → Bool
  | .box _ _ => true
  | .grp _ its => ovB 0 its && ovIs its
  | .tab _ _ its => ovB 0 its && ovIs its
def ovIs : List (Bool × Ly) → Bool
  | [] => true
  | x :: xs => ovI x && ovIs xs
def ovI : Bool × Ly → Bool
  | (_, y) => y.ov
end
def ovL (its : List (Bool × Ly)) : Bool := ovB 0 its && ovIs its
/-- the rows within -/
def innY : Ly → Option (List (Bool × Ly))
  | .box _ _ => none
  | .grp _ its => some its
  | .tab _ _ its => some its
def inn (its : List (Bool × Ly)) : List (List (Bool × Ly)) := its.filterMap fun x => innY x.2
theorem ovIs_inn : ∀ its, ovIs its = (inn its).all ovL
  | [] => by rw [ovIs]; rfl
  | (o, y) :: xs => by
    rw [ovIs, ovI, ovIs_inn xs]
    cases y with
    | box nm p => rw [Ly.ov, Bool.true_and]; rfl
    | grp nm i => rw [Ly.ov]; rfl
    | tab nm k i => rw [Ly.ov]; rfl
def wI (x : Bool × Ly) : Wx := toW (dvI x)
def wR (its : List (Bool × Ly)) : Wx := .tup (its.map wI)
theorem wR_eq (its : List (Bool × Ly)) : wR its = toW (.tup (dvL its)) := by rw [wR, toW, toWs_map, dvL_map, List.map_map]; rfl
def Ly.w : Ly → Wx
  | .box nm p => .tup [.str "box", .str nm, .str (picS p)]
  | .grp nm its => .tup [.str "group", .str nm, wR its]
  | .tab nm k its => .tup [.str "table", .str nm, .int (k : Nat), wR its]
theorem Ly.w_eq (y : Ly) : toW y.dv = y.w := by
  cases y with
  | box nm p => rw [Ly.dv, Ly.w, toW, toWs, toWs, toWs, toWs, toW, toW, toW]
  | grp nm its => rw [Ly.dv, Ly.w, toW, toWs, toWs, toWs, toWs, toW, toW, wR_eq]
  | tab nm k its => rw [Ly.dv, Ly.w, toW, toWs, toWs, toWs, toWs, toWs, toW, toW, toW, wR_eq]
theorem wI_eq (x : Bool × Ly) : wI x = if x.1 = true then .tup [.str "over", x.2.w] else x.2.w := by
  obtain ⟨o, y⟩ := x
  rw [wI, dvI]
  cases o with
  | true => rw [if_pos rfl, if_pos rfl, toW, toWs, toWs, toWs, toW, Ly.w_eq]
  | false => rw [if_neg Bool.false_ne_true, if_neg (show ¬ ((false, y) : Bool × Ly).1 = true from Bool.false_ne_true), Ly.w_eq]
theorem eqS_oo : eqS "over" "over" = true := by decide +kernel
theorem eqS_word (y : Ly) : eqS y.word "over" = false := word_over y
theorem Ly.w_at (y : Ly) : ∃ r, y.w = .tup (.str y.word :: .str y.name :: r) := by cases y <;> exact ⟨_, rfl⟩
theorem bareW_wI (x : Bool × Ly) : bareW (wI x) = x.2.w := by
  obtain ⟨o, y⟩ := x
  rw [wI_eq]
  cases o with
  | true =>
    rw [if_pos rfl]
    show (if eqS "over" "over" = true then only [y.w] id .non else .tup [.str "over", y.w]) = y.w
    rw [if_pos eqS_oo]
    rfl
  | false =>
    rw [if_neg (show ¬ ((false, y) : Bool × Ly).1 = true from Bool.false_ne_true)]
    obtain ⟨r, e⟩ := y.w_at
    rw [e]
    show (if eqS y.word "over" = true then _ else _) = _
    rw [if_neg (by rw [eqS_word]; decide)]
theorem notBox_wI (x : Bool × Ly) : notBox (wI x) = (innY x.2).isSome := by
  rw [notBox, bareW_wI]
  obtain ⟨o, y⟩ := x
  cases y with
  | box nm p => show (!(eqS "box" "box")) = false; decide +kernel
  | grp nm its => show (!(eqS "group" "box")) = true; decide +kernel
  | tab nm k its => show (!(eqS "table" "box")) = true; decide +kernel
theorem inB_wI {x : Bool × Ly} {i : List (Bool × Ly)} (h : innY x.2 = some i) : inB (wI x) = wR i := by
  rw [inB, bareW_wI]
  obtain ⟨o, y⟩ := x
  cases y with
  | box nm p => cases h
  | grp nm its => obtain rfl := Option.some.inj h; rfl
  | tab nm k its => obtain rfl := Option.some.inj h; rfl
theorem inr_wR : ∀ its, inr (wR its) = (inn its).map wR
  | [] => rfl
  | x :: xs => by
    have ih : ((xs.map wI).filter notBox).map inB = (inn xs).map wR := inr_wR xs
    show (((wI x :: xs.map wI).filter notBox).map inB) = (inn (x :: xs)).map wR
    rw [List.filter_cons, notBox_wI, inn, List.filterMap_cons]
    cases h : innY x.2 with
    | none => rw [if_neg (by decide)]; exact ih
    | some i => rw [Option.isSome_some, if_pos rfl, List.map_cons, List.map_cons, inB_wI h, ih]; rfl
/-- somewhere within is no row of items -/
inductive Bad : Wx → Prop where
  | row {d : Wx} (h : rowOk d = false) : Bad d
  | inn {d x : Wx} (h : x ∈ inr d) (b : Bad x) : Bad d
inductive Args : Wx → Prop where
  | mk {d : Wx} (h : ArgR d) (t : rowOk d = true → ∀ x ∈ inr d, Args x) : Args d
theorem Args.here {d : Wx} (h : Args d) : ArgR d := by cases h with | mk h t => exact h
theorem Args.inr {d : Wx} (h : Args d) (hr : rowOk d = true) : ∀ x ∈ inr d, Args x := by cases h with | mk h t => exact t hr
inductive Rows : List (Bool × Ly) → Prop where
  | mk {its : List (Bool × Ly)} (h : rowOk (wR its) = true) (c : cnL its ≤ 800) (o : okL its) (t : ∀ x ∈ inn its, Rows x) : Rows its
mutual
def szW : Wx → Nat
  | .tup ds => 1 + szWs ds
  | .non => 1
  | .bl _ => 1
  | .int _ => 1
  | .str _ => 1
  | .lst => 1
def szWs : List Wx → Nat
  | [] => 0
  | d :: ds => szW d + szWs ds
end
theorem szW_non : szW .non = 1 := by rw [szW]
theorem szW_pos (d : Wx) : 1 ≤ szW d := by cases d <;> rw [szW] <;> omega
theorem szWs_app : ∀ a b, szWs (a ++ b) = szWs a + szWs b
  | [], b => by rw [List.nil_append, szWs]; omega
  | x :: a, b => by rw [List.cons_append, szWs, szWs, szWs_app a b]; omega
theorem szWs_len : ∀ ds, ds.length ≤ szWs ds
  | [] => Nat.zero_le _
  | d :: ds => by
    have := szWs_len ds
    have := szW_pos d
    rw [List.length_cons, szWs]
    omega
theorem szW_mem : ∀ {ds : List Wx} {d : Wx}, d ∈ ds → szW d ≤ szWs ds
  | e :: es, d, h => by
    rw [szWs]
    rcases List.mem_cons.mp h with rfl | h
    · omega
    · have := szW_mem h; omega
theorem szW_last (d : Wx) : szW (lastW d) ≤ szW d := by
  have hp := szW_pos d
  cases d with
  | tup ds =>
    show szW (ds.getLastD .non) ≤ _
    rcases List.eq_nil_or_concat ds with rfl | ⟨l, x, rfl⟩
    · show szW .non ≤ _
      rw [szW_non]; exact hp
    · rw [List.concat_eq_append]
      have : (l ++ [x]).getLastD .non = x := by simp
      rw [this, szW, szWs_app, szWs, szWs]
      omega
  | _ => show szW .non ≤ _; rw [szW_non]; exact hp
theorem szW_bare (d : Wx) : szW (bareW d) ≤ szW d := by
  cases d with
  | tup ds =>
    cases ds with
    | nil => exact Nat.le_refl _
    | cons d0 r =>
      cases d0 with
      | str w0 =>
        show szW (if eqS w0 "over" = true then only r id .non else .tup (.str w0 :: r)) ≤ _
        split
        · rcases r with _ | ⟨x, _ | ⟨y, r⟩⟩
          · show szW .non ≤ _
            rw [szW_non]; exact szW_pos _
          · show szW x ≤ _
            rw [szW, szWs, szWs, szWs]
            omega
          · show szW .non ≤ _
            rw [szW_non]; exact szW_pos _
        · exact Nat.le_refl _
      | _ => exact Nat.le_refl _
  | _ => exact Nat.le_refl _
theorem szW_inB (d : Wx) : szW (inB d) ≤ szW d := Nat.le_trans (szW_last _) (szW_bare d)
theorem szWs_inr : ∀ ds, szWs ((ds.filter notBox).map inB) ≤ szWs ds
  | [] => Nat.le_refl _
  | d :: ds => by
    have ih := szWs_inr ds
    have h := szW_inB d
    rw [List.filter_cons, szWs]
    split
    · rw [List.map_cons, szWs]; omega
    · omega
theorem szW_inr (d : Wx) : szWs (inr d) < szW d := by
  cases d with
  | tup ds =>
    have := szWs_inr ds
    show szWs ((ds.filter notBox).map inB) < _
    rw [szW]; omega
  | _ => show 0 < _; exact szW_pos _
section
variable {P : Program} {w : World} {K : PySem.W.Frag} {mg : Str → Option Value} {base : Heap} {f : Addr} {fd : FuncData} {tk : Nat → Tok} {c kr : Nat → Addr}
theorem dv1 (y : Ly) : dvL [(false, y)] = [y.dv] := by rw [dvL, dvL, dvI, if_neg (by decide)]
theorem sz1 (y : Ly) : szL [(false, y)] = y.sz := by rw [szL, szL, szI, if_neg (by decide)]; omega
theorem cn1 (y : Ly) : cnL [(false, y)] = y.cn := by rw [cnL, cnL, cnI]; omega
theorem ok1 {y : Ly} (h : y.okK) : okL [(false, y)] := by rw [okL, okL, okI]; exact ⟨h, trivial⟩
def spOvers : Sp := fun vs H Q _ => ∃ (v : V) (its : List (Bool × Ly)), vs = [v] ∧ Deep H v (.tup (dvL its)) ∧ cnL its ≤ 9000 ∧ okL its ∧ ∀ H', Same H H' → Q (.bl (ovB 0 its)) H'
theorem ok_overs_have_room (F : Fun K "overs_have_room" "overs_have_room" s_overs_have_room f fd) (D_signs_in : Def P w K mg base 8 "signs_in" ["layout"] spSigns) : FnOk P w K mg base (CXE P w) 9 f fd ["items"] spOvers := by
  refine okNx F sc_overs_have_room (fun vs H Q E h => ?_) (fun cdv A outer s H vs Q E hr h => ?_)
  · obtain ⟨v, its, rfl, _⟩ := h
    rfl
  · obtain ⟨v, its, rfl, D, hc, hok, k⟩ := h
    have hz : 10000 ≤ sizeLine := by rw [sizeLine_eq]; decide
    have ln := len_cn its
    refine ⟨_, (psx_cons (psy_set (i := 1) sc_overs_have_room.nd rfl (Or.inl rfl) (pex_tup pax_nil) rfl rfl)
      (psx_cons (psy_for PassesOwn.never rfl (pi_tup (pv 0)) (pg_name (i := 2) sc_overs_have_room.nd rfl (Or.inl rfl)) (psx_one (psy_if (pt_cmpR op_ne (pe_ix ix_tupR (pv 2) pe_int (fun _ _ => rfl)) pe_str (nomark _)) (psx_one (psy_set (i := 1) sc_overs_have_room.nd rfl (Or.inl rfl) (pex_tup (pax_c (PEx.mk (pv 2)) pax_nil rfl)) rfl rfl)) (psx_one (psy_if (pt_cmpR op_gt (D_signs_in.pe hr (by decide) rfl passE0 (pa_c (pe_tup (pa_c (pe_ix ix_tupR (pv 2) pe_int (fun _ _ => rfl)) pa_nil)) pa_nil)) (D_signs_in.pe hr (by decide) rfl passE0 (pa_c (pv 1) pa_nil)) (nomark _)) (psx_one (psy_ret (PEx.mk pe_bl))) psx_nil)))) (fun _ => rfl))
      (psx_one (psy_ret (PEx.mk pe_bl))))), ?_⟩
    dsimp only [gName, tAsg, tSeq, tNext]
    obtain ⟨a, xs, rfl, g, t⟩ := Deep.tup' D
    rw [dvL_map] at t
    have lx := t.length
    rw [List.length_map] at lx
    refine ⟨Nat.zero_le _, fun p hp => ?_⟩
    have S1 := Same.new (o := .tup []) hp
    have D1 : Deep (upd H p (.tup [])) (.ref p) (.tup (dvL [])) := .tup upd_same (by rw [dvL]; exact .nil)
    generalize upd H p (.tup []) = H1 at S1 D1
    refine ⟨_, rfl, a, rfl, ⟨_, .inl (.inl (S1 _ _ g))⟩, ?_⟩
    refine for_fix (fixT (K := K) (a := a) (xs := xs)) (fun j σ H4 => ∃ (uv : V) (un : List (Bool × Ly)) (y2 : Option V), σ = [some (.ref a), some uv, y2] ∧ Same H H4 ∧ Deep H4 uv (.tup (dvL un)) ∧ cnL un ≤ 10000 ∧ okL un ∧ ovB 0 its = ovB (szL un) (its.drop j)) ⟨_, [], none, rfl, S1, D1, by rw [cnL]; omega, by rw [okL]; trivial, by rw [szL, List.drop_zero]⟩ ?_ ?_ ?_
    · rintro j σ H4 _ ⟨uv, un, y2, rfl, S4, _, _, _, _⟩
      exact .inl (.inl (S4 _ _ g))
    · rintro j x σ H40 H4 hj ⟨uv, un, y2, rfl, S4, Du, hcu, hou, he⟩ ⟨rfl, hx⟩
      obtain ⟨d, hd, Dx⟩ := t.getX hx
      rw [List.getElem?_map] at hd
      cases eo : its[j]? with
      | none => rw [eo] at hd; cases hd
      | some oy =>
        rw [eo] at hd
        obtain rfl := Option.some.inj hd
        have Dx := Dx.same S4
        obtain ⟨q1, q2⟩ := szL_at eo
        have hoky := okL_at hok eo
        have hcy : cnI oy ≤ 9000 := by
          have := cn_at eo
          omega
        have hl := (List.getElem?_eq_some_iff.mp eo).1
        rw [List.drop_eq_getElem_cons hl, (List.getElem?_eq_some_iff.mp eo).2] at he
        obtain ⟨ov, y⟩ := oy
        rw [cnI] at hcy
        rw [okI] at hoky
        rw [ovB] at he
        cases ov with
        | true =>
          rw [if_pos rfl] at he
          obtain ⟨b, x2, rfl, gb, Dy⟩ := over_at Dx
          refine ⟨_, rfl, b, _, 0, _, rfl, rfl, .inl gb, rfl, rfl, false, rfl, iteF ?_⟩
          refine ⟨_, rfl, b, _, 1, _, rfl, rfl, .inl gb, rfl, by show 1 ≤ sizeLine; omega, fun p5 hp5 => ?_⟩
          have S5 := Same.new (o := .tup [x2]) hp5
          have D5 : Deep (upd H4 p5 (.tup [x2])) (.ref p5) (.tup (dvL [(false, y)])) := by rw [dv1]; exact .tup upd_same (.cons (Dy.same S5) .nil)
          generalize upd H4 p5 (.tup [x2]) = H5 at S5 D5
          refine ⟨_, [(false, y)], rfl, D5, by rw [cn1]; omega, ok1 hoky, fun H6 S6 => ?_⟩
          have S56 := S5.trans S6
          refine ⟨_, rfl, _, un, rfl, Du.same S56, hcu, hou, fun H7 S7 => ?_⟩
          have S57 := S56.trans S7
          rw [sz1]
          refine ⟨_, _, rfl, rfl, _, rfl, ?_⟩
          refine ifB (fun h1 => ?_) (fun h1 => ?_)
          · have h1 := of_decide_eq_true h1
            rw [decide_eq_false (show ¬ y.sz ≤ szL un by omega), Bool.false_and] at he
            rw [he] at k
            exact k _ (S4.trans S57)
          · have h1 := of_decide_eq_false h1
            rw [decide_eq_true (show y.sz ≤ szL un by omega), Bool.true_and] at he
            exact ⟨_, un, _, rfl, S4.trans S57, Du.same S57, hcu, hou, he⟩
        | false =>
          rw [if_neg (by decide)] at he
          rw [dvI, if_neg (by decide)] at Dx
          obtain ⟨b, ys, rfl, gb⟩ := ly_at Dx
          refine ⟨_, rfl, b, _, 0, _, rfl, rfl, .inl gb, atI_nat (j := 0) rfl, rfl, true, by rw [word_over]; rfl, iteT ?_⟩
          refine ⟨_, rfl, by show 1 ≤ sizeLine; omega, fun p5 hp5 => ?_⟩
          have S5 := Same.new (o := .tup [V.ref b]) hp5
          exact ⟨_, [(false, y)], _, rfl, S4.trans S5, by rw [dv1]; exact .tup upd_same (.cons (Dx.same S5) .nil), by rw [cn1]; omega, ok1 hoky, by rw [sz1]; exact he⟩
    · rintro σ H4 ⟨uv, un, y2, rfl, S4, _, _, _, he⟩
      rw [List.drop_eq_nil_of_le (by omega), ovB] at he
      rw [he] at k
      exact k _ S4
end
end Lw

set_option Elab.async false
set_option linter.all false
set_option maxRecDepth 100000
namespace Lw
open PySem PySem.Spec PyProof.Rows L2 K02 K04
open Builtin Builtin.Str StrLaws
/-! ### is_layout -/
/-- two lists that grow and shrink -/
structure LaSt (Hb H : Hp) (q l : Addr) (ls xs : List V) (lz st : List Wx) : Prop where
  S : Same Hb H
  f1 : Hb q = none
  f2 : Hb l = none
  ne : q ≠ l
  g1 : H q = some (.lst ls)
  g2 : H l = some (.lst xs)
  t1 : Wss H ls lz
  t2 : Wss H xs st
section
variable {Hb H H' : Hp} {q l : Addr} {ls xs ys : List V} {lz st dz : List Wx}
theorem LaSt.same (B : LaSt Hb H q l ls xs lz st) (S : Same H H') : LaSt Hb H' q l ls xs lz st := ⟨B.S.trans S, B.f1, B.f2, B.ne, S _ _ B.g1, S _ _ B.g2, B.t1.same S, B.t2.same S⟩
theorem LaSt.put1 (B : LaSt Hb H q l ls xs lz st) (t : Wss H ys dz) : LaSt Hb (upd H q (.lst ys)) q l ys xs dz st := ⟨same_off B.S B.f1, B.f1, B.f2, B.ne, upd_same, by rw [upd_ne (Ne.symm B.ne)]; exact B.g2, t.updL B.g1, B.t2.updL B.g1⟩
theorem LaSt.put2 (B : LaSt Hb H q l ls xs lz st) (t : Wss H ys dz) : LaSt Hb (upd H l (.lst ys)) q l ls ys lz dz := ⟨same_off B.S B.f2, B.f1, B.f2, B.ne, by rw [upd_ne B.ne]; exact B.g1, upd_same, B.t1.updL B.g2, t.updL B.g2⟩
end
def Gl (r : Bool) (st lz : List Wx) : Prop := (r = false ∧ ∃ x ∈ st, Bad x) ∨ ∃ sL dL : List (List (Bool × Ly)), st = sL.map wR ∧ lz = dL.map wR ∧ (∀ i ∈ sL, Rows i) ∧ (∀ i ∈ dL, cnL i ≤ 9000 ∧ okL i) ∧ r = (dL.all (ovB 0) && sL.all ovL)
theorem Gl.no {r : Bool} {st lz : List Wx} {e : Wx} (h : Gl r (st ++ [e]) lz) (he : rowOk e = false) : r = false := by
  rcases h with ⟨h, _⟩ | ⟨sL, dL, e1, e2, h1, h2, h3⟩
  · exact h
  · obtain ⟨i, hi, rfl⟩ := List.mem_map.mp (show e ∈ sL.map wR by rw [← e1]; exact List.mem_append_right _ List.mem_cons_self)
    cases h1 i hi with
    | mk h c o t => rw [h] at he; cases he
theorem Gl.go {r : Bool} {st lz : List Wx} {e : Wx} (h : Gl r (st ++ [e]) lz) (he : rowOk e = true) : Gl r (st ++ inr e) (lz ++ [e]) := by
  rcases h with ⟨h, x, hx, hb⟩ | ⟨sL, dL, e1, e2, h1, h2, h3⟩
  · refine .inl ⟨h, ?_⟩
    rcases List.mem_append.mp hx with hx | hx
    · exact ⟨x, List.mem_append_left _ hx, hb⟩
    · obtain rfl := List.mem_singleton.mp hx
      cases hb with
      | row h => rw [h] at he; cases he
      | @inn _ y h b => exact ⟨y, List.mem_append_right _ h, b⟩
  · rcases List.eq_nil_or_concat sL with rfl | ⟨s0, i, rfl⟩
    · have := congrArg List.length e1
      rw [List.length_append] at this
      simp at this
    · rw [List.concat_eq_append] at e1 h1 h3
      rw [List.map_append] at e1
      have l0 : st.length = (s0.map wR).length := by
        have := congrArg List.length e1
        rw [List.length_append, List.length_append] at this
        simpa using this
      obtain ⟨ea, eb⟩ := List.append_inj e1 l0
      obtain rfl : e = wR i := by simpa using eb
      refine .inr ⟨s0 ++ inn i, dL ++ [i], by rw [ea, List.map_append, inr_wR], by rw [e2, List.map_append]; rfl, ?_, ?_, ?_⟩
      · intro j hj
        rcases List.mem_append.mp hj with hj | hj
        · exact h1 j (List.mem_append_left _ hj)
        · cases h1 i (List.mem_append_right _ List.mem_cons_self) with
          | mk h c o t => exact t j hj
      · intro j hj
        rcases List.mem_append.mp hj with hj | hj
        · exact h2 j hj
        · obtain rfl := List.mem_singleton.mp hj
          cases h1 j (List.mem_append_right _ List.mem_cons_self) with
          | mk h c o t => exact ⟨by omega, o⟩
      · rw [h3, List.all_append, List.all_append, List.all_append]
        simp only [List.all_cons, List.all_nil, Bool.and_true]
        rw [ovL, ovIs_inn]
        cases dL.all (ovB 0) <;> cases s0.all ovL <;> cases ovB 0 i <;> rfl
theorem Gl.nil {r : Bool} {lz : List Wx} (h : Gl r [] lz) : ∃ dL : List (List (Bool × Ly)), lz = dL.map wR ∧ (∀ i ∈ dL, cnL i ≤ 9000 ∧ okL i) ∧ r = dL.all (ovB 0) := by
  rcases h with ⟨h, x, hx, hb⟩ | ⟨sL, dL, e1, e2, h1, h2, h3⟩
  · cases hx
  · cases sL with
    | nil => exact ⟨dL, e2, h2, by simpa using h3⟩
    | cons s sL => cases e1
section
variable {P : Program} {w : World} {K : PySem.W.Frag} {mg : Str → Option Value} {base : Heap} {f : Addr} {fd : FuncData} {tk : Nat → Tok} {c kr : Nat → Addr}
theorem ta1 {te : TE} {σ : L2.St} {H : Hp} {R : List V → Hp → Prop} (h : te σ H fun v H1 => R [v] H1) : tCons te tNil σ H R := h
def LayR (d : Wx) (r : Bool) : Prop := (r = false ∧ Bad d) ∨ ∃ its, d = wR its ∧ Rows its ∧ r = ovL its
theorem LayR.gl {d : Wx} {r : Bool} (h : LayR d r) : Gl r [d] [] := by
  rcases h with ⟨h1, h2⟩ | ⟨its, rfl, h1, h2⟩
  · exact .inl ⟨h1, d, List.mem_cons_self, h2⟩
  · exact .inr ⟨[its], [], rfl, rfl, (fun i hi => by rw [List.mem_singleton.mp hi]; exact h1), (fun i hi => nomatch hi), by rw [h2]; simp⟩
/-- the last of what is bare, of an item that is no box -/
theorem last_at {H : Hp} {u : V} {d : Wx} (hid : itemOk d = true) (D : Ws H u (bareW d)) : ∃ b w0 x1 x2 ys, u = .ref b ∧ H b = some (.tup (.str w0 :: x1 :: x2 :: ys)) ∧ notBox d = !(eqS w0 "box") ∧ (notBox d = true → ∃ z, atI (.str w0 :: x1 :: x2 :: ys) (-1) = some z ∧ Ws H z (inB d)) := by
  obtain ⟨w0, z, c, r, e, _, hb⟩ := bareOk_at (item_bare hid).1
  rw [e] at D
  obtain ⟨b, ys, rfl, gb, tb⟩ := D.tup'
  have en : notBox d = !(eqS w0 "box") := by rw [notBox, e]; rfl
  cases tb with
  | @cons y1 _ ys _ h1 tb =>
    cases tb with
    | @cons y2 _ ys _ h2 tb =>
      cases tb with
      | @cons y3 _ ys _ h3 tb =>
        obtain rfl := h1.str'
        refine ⟨b, w0, y2, y3, ys, rfl, gb, en, fun hn => ?_⟩
        rw [en] at hn
        have hn : eqS w0 "box" = false := by cases h : eqS w0 "box" with
          | true => rw [h] at hn; cases hn
          | false => rfl
        rw [inB, e]
        cases ht : eqS w0 "table" with
        | true =>
          rw [if_pos ht, Bool.and_eq_true] at hb
          have hl := of_decide_eq_true hb.1
          cases r with
          | nil => cases hl
          | cons r0 r =>
            cases r with
            | nil =>
              cases tb with
              | cons h4 tb =>
                cases tb
                exact ⟨_, rfl, h4⟩
            | cons r1 r => simp at hl
        | false =>
          rw [if_neg (by rw [ht]; decide), if_neg (by rw [hn]; decide), Bool.and_eq_true] at hb
          have hl := of_decide_eq_true hb.1
          cases r with
          | nil =>
            cases tb
            exact ⟨_, rfl, h3⟩
          | cons r1 r => cases hl
def spIsLay : Sp := fun vs H Q _ => ∃ (v : V) (d : Wx) (r : Bool), vs = [v] ∧ Ws H v d ∧ Args d ∧ szW d ≤ 9000 ∧ LayR d r ∧ ∀ H', Same H H' → Q (.bl r) H'
set_option maxHeartbeats 2000000 in
theorem ok_is_layout (F : Fun K "is_layout" "is_layout" s_is_layout f fd) (O : Own mg) (OA : mg "all" = none) (D_is_row_of_items : Def P w K mg base 9 "is_row_of_items" ["thing"] spRow) (D_bare : Def P w K mg base 1 "bare" ["item"] spBareW) (D_overs_have_room : Def P w K mg base 9 "overs_have_room" ["items"] spOvers) : FnOk P w K mg base (CXE P w) 10 f fd ["thing"] spIsLay := by
  refine okNx F sc_is_layout (fun vs H Q E h => ?_) (fun cdv A outer s H vs Q E hr h => ?_)
  · obtain ⟨v, d, r, rfl, _⟩ := h
    rfl
  · obtain ⟨v, d, r, rfl, D, hA, hsz, hL, k⟩ := h
    have hz : 100000 ≤ sizeLine := by rw [sizeLine_eq]; decide
    refine ⟨_, (psx_cons (psy_set (i := 1) sc_is_layout.nd rfl (Or.inl rfl) (pex_lst pax_nil) rfl rfl)
      (psx_cons (psy_set (i := 2) sc_is_layout.nd rfl (Or.inl rfl) (pex_lst (pax_c (PEx.mk (pv 0)) pax_nil rfl)) rfl rfl)
      (psx_cons (PSy.mk (ps_while PassesOwn.never (pt_truth (pv 2) (fun _ => rfl)) (pss_cons (ps_set (i := 3) sc_is_layout.nd rfl (Or.inl rfl) (pe_bm0 PySem.F.plainAttrs_list PySem.F.slot_list_pop PySem.F.type_list_pop mt_pop (pv 2)))
      (pss_cons (ps_if (pt_not (pt_val (D_is_row_of_items.pe hr (by decide) rfl passE0 (pa_c (pv 3) pa_nil)))) (pss_one (ps_ret pe_bl)) pss_nil)
      (pss_cons (ps_expr (pe_bm PySem.F.plainAttrs_list PySem.F.slot_list_append PySem.F.type_list_append mt_append (pv 1) (pa_c (pv 3) pa_nil)))
      (pss_one (ps_expr (pe_bm PySem.F.plainAttrs_list PySem.F.slot_list_extend PySem.F.type_list_extend mt_extend (pv 2) (pa_c (pe_lcomp (NB := [".0", "item"]) rfl ⟨rfl, by decide +kernel, by decide +kernel, by decide +kernel⟩ (pi_tup (pv 3)) (fun _ _ _ => (pg_name (i := 1) (show ([".0", "item"] : List Str).Nodup by decide +kernel) rfl (Or.inl rfl))) (fun _ _ _ => (pts_one (pt_cmpR op_ne (pe_ix ix_tupR (D_bare.pe hr (by decide) rfl passE0 (pa_c (pv 1) pa_nil)) pe_int (fun _ _ => rfl)) pe_str (nomark _)))) (fun _ _ _ => (pe_ix ix_tupR (D_bare.pe hr (by decide) rfl passE0 (pa_c (pv 1) pa_nil)) (pe_un un_neg pe_int) (fun _ _ => rfl)))) pa_nil)))))))))
      (psx_one (psy_ret (PEx.mk (pe_callB (call_all rfl) rfl OA PyProof.Rows.boot_all (pa_c (pe_lcomp (NB := [".0", "items"]) rfl ⟨rfl, by decide +kernel, by decide +kernel, by decide +kernel⟩ (pi_list (pv 1)) (fun _ _ _ => (pg_name (i := 1) (show ([".0", "items"] : List Str).Nodup by decide +kernel) rfl (Or.inl rfl))) (fun _ _ _ => pts_nil) (fun _ _ _ => (D_overs_have_room.pe hr (by decide) rfl passE0 (pa_c (pv 1) pa_nil)))) pa_nil)))))))), ?_⟩
    dsimp only [gName, tAsg, tSeq, tNext]
    refine ⟨Nat.zero_le _, fun ly hly => ⟨_, rfl, by show 1 ≤ sizeLine; omega, fun lf hlf => ?_⟩⟩
    have B1 : LaSt H (upd (upd H ly (.lst [])) lf (.lst [v])) ly lf [] [v] [] [d] := by
      have S1 := Same.new (o := .lst []) hly
      have S2 := Same.new (o := .lst [v]) hlf
      have hf2 : H lf = none := by
        cases e : H lf with
        | none => rfl
        | some o => rw [S1 _ _ e] at hlf; cases hlf
      have hne : ly ≠ lf := fun z => by rw [← z, upd_same] at hlf; cases hlf
      exact ⟨S1.trans S2, hly, hf2, hne, S2 _ _ upd_same, upd_same, .nil, .cons (D.same (S1.trans S2)) .nil⟩
    generalize upd (upd H ly (.lst [])) lf (.lst [v]) = H1 at B1
    clear hlf hly
    refine ⟨fun m σ H2 => ∃ (ls xs : List V) (lz st : List Wx) (y3 : Option V), σ = [some v, some (.ref ly), some (.ref lf), y3] ∧ LaSt H H2 ly lf ls xs lz st ∧ szWs st ≤ m ∧ ls.length + m ≤ 20000 ∧ (∀ x ∈ st, Args x) ∧ Gl r st lz, ⟨20000, _, _, _, _, none, rfl, B1, by rw [szWs, szWs]; omega, Nat.le_refl _, fun x hx => by rw [List.mem_singleton.mp hx]; exact hA, hL.gl⟩, ?_⟩
    clear B1 hA hL
    rintro m σ H2 ⟨ls, xs, lz, st, y3, rfl, B, hs, hm, hAs, hG⟩
    have lxs := B.t2.length
    have lls := B.t1.length
    have lst := szWs_len st
    rcases List.eq_nil_or_concat st with rfl | ⟨st0, e, rfl⟩
    · have e : xs = [] := List.eq_nil_of_length_eq_zero (by simpa using lxs)
      subst e
      refine ⟨_, rfl, false, .inl ⟨_, .inl (.inl B.g2), rfl⟩, iteF ?_⟩
      obtain ⟨dL, rfl, hdL, hr2⟩ := hG.nil
      dsimp only [gName, tAsg, tSeq, tNext, tRet]
      refine cb1 ?_
      rw [List.length_map] at lls
      refine comp_fix (fixL (K := K) (a := ly) (xs := ls)) (fun i vs H1 => Same H2 H1 ∧ vs = ((dL.take i).map (ovB 0)).map V.bl) (fun R h => ⟨_, rfl, ly, rfl, ⟨_, .inl (.inl B.g1)⟩, h _ ⟨Same.refl _, rfl⟩⟩) ?_ ?_ ?_ (by omega)
      · rintro i vs H3 hi ⟨S, rfl⟩
        refine ⟨.inl (.inl (S _ _ B.g1)), ?_⟩
        rw [List.length_map, List.length_map, List.length_take]
        omega
      · rintro i v vs H3 H4 hi ⟨S, rfl⟩ ⟨rfl, hv⟩
        obtain ⟨d, hd, Dd⟩ := B.t1.getX hv
        rw [List.getElem?_map] at hd
        cases ei : dL[i]? with
        | none => rw [ei] at hd; cases hd
        | some i0 =>
          rw [ei] at hd
          obtain rfl := Option.some.inj hd
          obtain ⟨h1, h2⟩ := hdL i0 (List.mem_of_getElem? ei)
          rw [wR_eq] at Dd
          refine ⟨_, rfl, v, i0, rfl, (Ws.deep Dd).same S, h1, h2, fun H5 S5 => ⟨S.trans S5, ?_⟩⟩
          rw [List.take_add_one, ei]
          simp
      rintro vs H3 ⟨S1, rfl⟩ p hp
      rw [List.take_of_length_le (by omega)]
      refine ⟨p, _, rfl, .inl (.inl upd_same), ?_⟩
      have ea : (dL.map (ovB 0)).all id = r := by rw [List.all_map, hr2]; rfl
      rw [ea]
      exact k _ ((B.S.trans S1).trans (Same.new hp))
    rw [List.concat_eq_append] at B hs lxs lst hAs hG
    obtain ⟨xs0, xl, rfl, t1, Dl⟩ : ∃ xs0 xl, xs = xs0 ++ [xl] ∧ Wss H2 xs0 st0 ∧ Ws H2 xl e := by
      rcases List.eq_nil_or_concat xs with rfl | ⟨xs0, xl, rfl⟩
      · simp at lxs
      · rw [List.concat_eq_append] at B ⊢
        have l0 : xs0.length = st0.length := by
          have := B.t2.length
          rw [List.length_append, List.length_append] at this
          simpa using this
        have ht := B.t2.take xs0.length
        have hd := B.t2.drop xs0.length
        rw [List.take_left' rfl, l0, List.take_left' rfl] at ht
        rw [List.drop_left' rfl, l0, List.drop_left' rfl] at hd
        cases hd with
        | cons h t => exact ⟨xs0, xl, rfl, ht, h⟩
    have hAe : Args e := hAs _ (List.mem_append_right _ List.mem_cons_self)
    have hA0 : ∀ x ∈ st0, Args x := fun x hx => hAs _ (List.mem_append_left _ hx)
    rw [szWs_app, szWs, szWs] at hs
    refine ⟨_, rfl, true, .inl ⟨_, .inl (.inl B.g2), by simp⟩, iteT ?_⟩
    refine ⟨fun σ' H' => ∃ m', m' < m ∧ ∃ (ls xs : List V) (lz st : List Wx) (y3 : Option V), σ' = [some v, some (.ref ly), some (.ref lf), y3] ∧ LaSt H H' ly lf ls xs lz st ∧ szWs st ≤ m' ∧ ls.length + m' ≤ 20000 ∧ (∀ x ∈ st, Args x) ∧ Gl r st lz, fun _ _ h => h, ?_⟩
    refine ⟨_, rfl, .inl ⟨rfl, _, .inl (.inl B.g2)⟩, ?_⟩
    refine ⟨lf, _, xl, rfl, rfl, B.g2, by simp, ?_⟩
    have B3 : LaSt H (upd H2 lf (.lst (xs0 ++ [xl]).dropLast)) ly lf ls xs0 lz st0 := by
      rw [List.dropLast_concat]
      exact B.put2 t1
    have Dl3 := Dl.updL (ys := (xs0 ++ [xl]).dropLast) B.g2
    generalize upd H2 lf (.lst (xs0 ++ [xl]).dropLast) = H3 at B3 Dl3
    clear B Dl t1 lxs
    dsimp only [gName, tAsg, tSeq, tNext]
    refine ⟨_, rfl, xl, e, rfl, Dl3, hAe.here, fun H4 S4 => ⟨_, rfl, ?_⟩⟩
    have B4 := B3.same S4
    have D4 := Dl3.same S4
    cases he : rowOk e with
    | false =>
      have := hG.no he
      subst this
      exact iteT (k _ B4.S)
    | true =>
      have hG2 := hG.go he
      have hAi := hAe.inr he
      have hpos := szW_pos e
      have hin := szW_inr e
      refine iteF ?_
      refine ⟨_, rfl, .inl ⟨rfl, _, .inl (.inl B4.g1)⟩, ⟨_, rfl, ly, ls, xl, rfl, rfl, B4.g1, by omega, ?_⟩⟩
      have B5 := B4.put1 (ys := ls ++ [xl]) (dz := lz ++ [e]) (B4.t1.append (.cons D4 .nil))
      have D5 := D4.updL (ys := ls ++ [xl]) B4.g1
      generalize upd H4 ly (.lst (ls ++ [xl])) = H5 at B5 D5
      refine ⟨_, rfl, .inl ⟨rfl, _, .inl (.inl B5.g2)⟩, ?_⟩
      cases D5 with
      | non => cases he
      | bl => cases he
      | int => cases he
      | str => cases he
      | lst g => cases he
      | @tup ea ex es g t =>
        have hit : ∀ x ∈ es, itemOk x = true := by
          cases es with
          | nil => cases he
          | cons d0 ds =>
            have he : ((d0 :: ds).all itemOk && unlike ((d0 :: ds).map nmB)) = true := he
            rw [Bool.and_eq_true] at he
            exact fun x hx => List.all_eq_true.mp he.1 x hx
        have lex := t.length
        have les := szWs_len es
        have hse : szW (.tup es) = 1 + szWs es := by rw [szW]
        refine ta1 ?_
        refine comp_fix (fixT (K := K) (a := ea) (xs := ex)) (fun i vs H1 => Same H5 H1 ∧ Wss H1 vs (((es.take i).filter notBox).map inB)) (fun R h => ⟨_, rfl, ea, rfl, ⟨_, .inl (.inl g)⟩, h _ ⟨Same.refl _, .nil⟩⟩) ?_ ?_ ?_ (by omega)
        · rintro i vs H6 hi ⟨S, tt⟩
          refine ⟨.inl (.inl (S _ _ g)), ?_⟩
          have := tt.length
          rw [List.length_map] at this
          have := List.length_filter_le notBox (es.take i)
          rw [List.length_take] at this
          omega
        · rintro i x vs H6 H7 hi ⟨S, tt⟩ ⟨rfl, hv⟩
          obtain ⟨d, hd, Dd⟩ := t.getX hv
          have hid := hit d (List.mem_of_getElem? hd)
          have Dd := Dd.same S
          refine ⟨_, rfl, x, d, rfl, Dd, hid, fun u Du => ?_⟩
          obtain ⟨b, w0, x1, x2, ys, rfl, gb, en, hlast⟩ := last_at hid Du
          refine ⟨b, _, 0, _, rfl, rfl, .inl gb, atI_nat (j := 0) rfl, rfl, notBox d, congrArg V.bl en.symm, ?_⟩
          rw [List.take_add_one, hd]
          cases hn : notBox d with
          | true =>
            refine iteT ⟨_, rfl, x, d, rfl, Dd, hid, fun u2 Du2 => ?_⟩
            obtain ⟨b2, w2, x21, x22, ys2, rfl, gb2, _, hlast2⟩ := last_at hid Du2
            obtain ⟨z, hz1, hz2⟩ := hlast2 hn
            refine ⟨_, rfl, b2, _, _, _, rfl, rfl, .inl gb2, hz1, S, ?_⟩
            have ef : (es.take i ++ (some d).toList).filter notBox = (es.take i).filter notBox ++ [d] := by rw [List.filter_append]; simp [hn]
            rw [ef, List.map_append]
            exact tt.append (.cons hz2 .nil)
          | false =>
            refine iteF ⟨S, ?_⟩
            have ef : (es.take i ++ (some d).toList).filter notBox = (es.take i).filter notBox := by rw [List.filter_append]; simp [hn]
            rw [ef]
            exact tt
        rintro vs H6 ⟨S6, t6⟩ q1 hq1
        rw [List.take_of_length_le (by omega)] at t6
        have S7 := Same.new (o := .lst vs) hq1
        have B7 := (B5.same S6).same S7
        have t7 := t6.same S7
        have g7 : upd H6 q1 (.lst vs) q1 = some (.lst vs) := upd_same
        generalize upd H6 q1 (.lst vs) = H7 at B7 t7 g7
        have lvs := t7.length
        have hinr : inr (.tup es) = (es.filter notBox).map inB := rfl
        rw [← hinr] at t7 lvs
        have l2 := szWs_len (inr (.tup es))
        have lx0 := B7.t2.length
        have ls0 := szWs_len st0
        refine ⟨lf, q1, xs0, vs, rfl, rfl, B7.g2, g7, by omega, ?_⟩
        refine ⟨m - 1, by omega, ls ++ [.ref ea], xs0 ++ vs, _, _, _, rfl, B7.put2 (B7.t2.append t7), ?_, ?_, ?_, hG2⟩
        · rw [szWs_app]
          omega
        · rw [List.length_append]
          show ls.length + 1 + (m - 1) ≤ 20000
          omega
        · intro x hx
          rcases List.mem_append.mp hx with hx | hx
          · exact hA0 x hx
          · exact hAi x hx
end
end Lw

set_option Elab.async false
set_option linter.all false
set_option maxRecDepth 100000
namespace Lw
open PySem PySem.Spec PyProof.Rows L2 K02 K04
open Builtin Builtin.Str StrLaws
section
variable {P : Program} {w : World} {K : PySem.W.Frag} {mg : Str → Option Value} {base : Heap} {f : Addr} {fd : FuncData} {tk : Nat → Tok}
/-! ### the law's own defs -/
theorem tru_list {H : Hp} {a : Addr} {ns : List Int} (h : SqL K H a (ns.map V.int)) : TruV K (.ref a) H (!ns.isEmpty) := .inl ⟨_, h, by cases ns <;> rfl⟩
theorem ok__law_draw (F : Fun K "_law_draw" "_law_draw" s__law_draw f fd) (O : Own mg) : FnOk P w K mg base (CXE P w) 1 f fd ["_law_script", "_law_town", "_law_many"] (spDraw K) := by
  refine okN F sc__law_draw (fun vs H Q E h => ?_) (fun cdv A outer s H vs Q E hr h => ?_)
  · obtain ⟨a, t, r, ns, c, many, rs, rfl, _⟩ := h
    rfl
  · obtain ⟨a, t, r, ns, c, many, rs, rfl, hS, T, nat, nar, hl, hc, hm0, hm1, k⟩ := h
    have hu := hu_of hr
    have T1 : TownAt (upd H t (.dK [(Sum.inr "count", .int (c + 1)), (Sum.inr "rests", .ref r)])) t r (c + 1) rs := ⟨upd_same, by rw [upd_ne T.ne.symm]; exact T.rt, T.vs, by have := T.c0; omega, by have := T.ln; omega, T.ne⟩
    have hS1 := hS.upd (o := .dK [(Sum.inr "count", .int (c + 1)), (Sum.inr "rests", .ref r)]) nat
    have A1 : Apart t r H (upd H t (.dK [(Sum.inr "count", .int (c + 1)), (Sum.inr "rests", .ref r)])) := fun b o e n1 n2 => by rw [upd_ne n1]; exact e
    refine ⟨_, (pss_cons (ps_dput hu (pv 1) pe_str (pe_op op_add (pe_dget hu (pv 1) pe_str (fun _ _ => rfl)) pe_int) rfl)
      (pss_cons (ps_set (i := 3) sc__law_draw.nd rfl (Or.inl rfl) (pe_ifExp (pt_truth (pv 0) (fun _ => rfl)) (pe_op op_mod (pe_dget hu (pv 1) pe_str (fun _ _ => rfl)) (pe_callB call_len_seq rfl O.len PySem.boot_len (pa_cons (pv 0) pa_nil))) pe_int))
      (pss_cons (ps_set (i := 4) sc__law_draw.nd rfl (Or.inl rfl) (pe_dget2 hu (pe_dget hu (pv 1) pe_str (fun _ _ => rfl)) (pv 3) (pe_ifExp (pt_truth (pv 0) (fun _ => rfl)) (pe_ix ix_list (pv 0) (pv 3) (fun _ _ => rfl)) pe_int) ⟨rfl, rfl, rfl, rfl⟩))
      (pss_cons (ps_if (pt_cmpR op_ge (pv 4) (pe_op op_pow pe_int pe_int) (nomark _)) (pss_cons (ps_dput hu (pe_dget hu (pv 1) pe_str (fun _ _ => rfl)) (pv 3) (pe_op op_fdiv (pv 4) (pv 2)) rfl)
      (pss_one (ps_ret (pe_op op_mod (pv 4) (pv 2))))) pss_nil)
      (pss_cons (ps_set (i := 5) sc__law_draw.nd rfl (Or.inl rfl) (pe_op op_mod (pe_op op_add (pv 4) (pe_op op_mul pe_int (pe_dget hu (pv 1) pe_str (fun _ _ => rfl)))) pe_int))
      (pss_cons (ps_set (i := 5) sc__law_draw.nd rfl (Or.inl rfl) (pe_op op_mod (pe_op op_pow (pv 5) pe_int) pe_int))
      (pss_one (ps_ret (pe_op op_mod (pe_op op_fdiv (pe_op op_mod (pe_op op_add (pe_op op_mul (pe_op op_fdiv (pv 5) pe_int) pe_int) (pv 5)) pe_int) pe_int) (pv 2)))))))))), ?_⟩
    refine ⟨_, rfl, t, _, rfl, dget_count T.tw, _, _, rfl, rfl, _, rfl, t, _, rfl, dput_count _ T.tw, ?_⟩
    refine ⟨_, rfl, _, tru_list hS1, ?_⟩
    refine ifB (fun hz => ?_) (fun hz => ?_)
    · have hp : 0 < ns.length := by cases ns with | nil => cases hz | cons a r => exact Nat.succ_pos _
      have hp' : (0 : Int) < ((ns.map V.int).length : Int) := by rw [List.length_map]; omega
      refine ⟨_, rfl, t, _, rfl, dget_count T1.tw, _, rfl, a, _, rfl, .inl hS1, _, _, rfl, rfl, hp', ?_⟩
      have m1 := Int.emod_nonneg (c + 1) (Int.ne_of_gt hp')
      have m2 := Int.emod_lt_of_pos (c + 1) hp'
      obtain ⟨j, hj⟩ := Int.eq_ofNat_of_zero_le m1
      have hjl : j < ns.length := by rw [hj, List.length_map] at m2; omega
      refine ⟨_, rfl, t, _, rfl, dget_rests T1.tw, r, rfl, .inl ⟨rs, .inl T1.rt⟩, _, rfl, _, rfl, _, tru_list hS1, ?_⟩
      rw [hz]
      refine iteT ⟨_, rfl, _, rfl, a, _, _, V.int ns[j], rfl, rfl, hS1, ?_, _, DGet.k (k := Sum.inl ((c + 1) % ((ns.map V.int).length : Int))) T1.rt, ?_⟩
      · show atI (ns.map V.int) ((c + 1) % ((ns.map V.int).length : Int)) = _
        rw [hj]
        refine atI_nat ?_
        rw [List.getElem?_map, List.getElem?_eq_getElem hjl]
        rfl
      obtain ⟨z, hz⟩ := rests_val T1.vs ((c + 1) % ((ns.map V.int).length : Int)) (ns[j])
      rw [hz]
      refine ⟨_, rfl, _, _, rfl, rfl, ⟨by decide, by decide, by decide⟩, _, _, rfl, rfl, _, rfl, ?_⟩
      refine ifB (fun g => ?_) (fun g => ?_)
      · have P2 := rests_put T1.vs ((c + 1) % ((ns.map V.int).length : Int)) (z / many)
        refine ⟨_, rfl, _, rfl, _, _, rfl, rfl, ⟨hm0, by omega⟩, _, rfl, t, _, rfl, dget_rests T1.tw, _, rfl, r, _, rfl, DPut.k (k := Sum.inl ((c + 1) % ((ns.map V.int).length : Int))) T1.rt (Nat.lt_of_lt_of_le (m := 100001) (by have := T.ln; omega) (by decide)), ?_⟩
        refine ⟨_, rfl, _, rfl, _, _, rfl, rfl, hm0, ?_⟩
        refine k _ (putK rs (Sum.inl ((c + 1) % ((ns.map V.int).length : Int))) (.int (z / many))) _ (Int.emod_nonneg _ (Int.ne_of_gt hm0)) (Int.emod_lt_of_pos _ hm0) ⟨?_, upd_same, P2.1, T1.c0, ?_, T.ne⟩ (A1.trans fun b o e n1 n2 => by rw [upd_ne n2]; exact e)
        · rw [upd_ne T.ne]; exact T1.tw
        · have := P2.2
          have := T.ln
          omega
      · refine ⟨_, rfl, _, rfl, t, _, rfl, dget_count T1.tw, _, _, rfl, rfl, .inl ⟨by decide, by decide⟩, _, _, rfl, rfl, _, _, rfl, rfl, (show (0 : Int) < 4294967291 by decide), ?_⟩
        have n1 := Int.emod_nonneg (z + 104729 * (c + 1)) (show (4294967291 : Int) ≠ 0 by decide)
        have n2 := Int.emod_lt_of_pos (z + 104729 * (c + 1)) (show (0 : Int) < 4294967291 by decide)
        refine ⟨_, rfl, _, _, rfl, rfl, ⟨by decide, by decide, by show Int.natAbs _ < 2 ^ 64; omega⟩, _, _, rfl, rfl, (show (0 : Int) < 4294967279 by decide), ?_⟩
        refine ⟨_, rfl, _, _, rfl, rfl, ⟨by decide, by decide⟩, _, _, rfl, rfl, .inr ⟨by decide, by decide⟩, _, rfl, _, _, rfl, rfl, _, _, rfl, rfl, (show (0 : Int) < 4294967231 by decide), _, _, rfl, rfl, ⟨by decide, by decide⟩, _, rfl, _, _, rfl, rfl, hm0, ?_⟩
        exact k _ rs _ (Int.emod_nonneg _ (Int.ne_of_gt hm0)) (Int.emod_lt_of_pos _ hm0) T1 A1
    · refine ⟨_, rfl, t, _, rfl, dget_rests T1.tw, r, rfl, .inl ⟨rs, .inl T1.rt⟩, _, rfl, _, rfl, _, tru_list hS1, ?_⟩
      rw [hz]
      refine iteF ⟨_, DGet.k (k := Sum.inl (0 : Int)) T1.rt, ?_⟩
      obtain ⟨z, hz⟩ := rests_val T1.vs ((0 : Int)) (0)
      rw [hz]
      refine ⟨_, rfl, _, _, rfl, rfl, ⟨by decide, by decide, by decide⟩, _, _, rfl, rfl, _, rfl, ?_⟩
      refine ifB (fun g => ?_) (fun g => ?_)
      · have P2 := rests_put T1.vs ((0 : Int)) (z / many)
        refine ⟨_, rfl, _, rfl, _, _, rfl, rfl, ⟨hm0, by omega⟩, _, rfl, t, _, rfl, dget_rests T1.tw, _, rfl, r, _, rfl, DPut.k (k := Sum.inl ((0 : Int))) T1.rt (Nat.lt_of_lt_of_le (m := 100001) (by have := T.ln; omega) (by decide)), ?_⟩
        refine ⟨_, rfl, _, rfl, _, _, rfl, rfl, hm0, ?_⟩
        refine k _ (putK rs (Sum.inl ((0 : Int))) (.int (z / many))) _ (Int.emod_nonneg _ (Int.ne_of_gt hm0)) (Int.emod_lt_of_pos _ hm0) ⟨?_, upd_same, P2.1, T1.c0, ?_, T.ne⟩ (A1.trans fun b o e n1 n2 => by rw [upd_ne n2]; exact e)
        · rw [upd_ne T.ne]; exact T1.tw
        · have := P2.2
          have := T.ln
          omega
      · refine ⟨_, rfl, _, rfl, t, _, rfl, dget_count T1.tw, _, _, rfl, rfl, .inl ⟨by decide, by decide⟩, _, _, rfl, rfl, _, _, rfl, rfl, (show (0 : Int) < 4294967291 by decide), ?_⟩
        have n1 := Int.emod_nonneg (z + 104729 * (c + 1)) (show (4294967291 : Int) ≠ 0 by decide)
        have n2 := Int.emod_lt_of_pos (z + 104729 * (c + 1)) (show (0 : Int) < 4294967291 by decide)
        refine ⟨_, rfl, _, _, rfl, rfl, ⟨by decide, by decide, by show Int.natAbs _ < 2 ^ 64; omega⟩, _, _, rfl, rfl, (show (0 : Int) < 4294967279 by decide), ?_⟩
        refine ⟨_, rfl, _, _, rfl, rfl, ⟨by decide, by decide⟩, _, _, rfl, rfl, .inr ⟨by decide, by decide⟩, _, rfl, _, _, rfl, rfl, _, _, rfl, rfl, (show (0 : Int) < 4294967231 by decide), _, _, rfl, rfl, ⟨by decide, by decide⟩, _, rfl, _, _, rfl, rfl, hm0, ?_⟩
        exact k _ rs _ (Int.emod_nonneg _ (Int.ne_of_gt hm0)) (Int.emod_lt_of_pos _ hm0) T1 A1
theorem ok__law_begun (F : Fun K "_law_begun" "_law_begun" s__law_begun f fd) : FnOk P w K mg base (CXE P w) 1 f fd [] spBegun := by
  refine okNx F sc__law_begun (fun vs H Q E h => ?_) (fun cdv A outer s H vs Q E hr h => ?_)
  · obtain ⟨rfl, _⟩ := h
    rfl
  · obtain ⟨rfl, k⟩ := h
    refine ⟨_, begun_body, ?_⟩
    intro p hp d hd
    have npd : d ≠ p := fun z => by rw [z, upd_same] at hd; cases hd
    have hd0 : H d = none := by rw [upd_ne npd] at hd; exact hd
    refine ⟨by rw [upd_ne npd.symm, upd_same], [(Sum.inr "count", .int 0), (Sum.inr "rests", .ref d)], rfl, Nat.le_of_ble_eq_true rfl, ?_⟩
    have e : mergeK [] [((Sum.inr "count" : Key), V.int 0), ((Sum.inr "rests" : Key), V.ref d)] = [((Sum.inr "count" : Key), V.int 0), ((Sum.inr "rests" : Key), V.ref d)] := by
      have h : ¬ ((Sum.inr "count" : Key) = (Sum.inr "rests" : Key)) := cnt_ne
      unfold mergeK putK
      simp [h]
    rw [e]
    refine k p d _ hp hd0 ⟨upd_same, by rw [upd_ne npd, upd_same], (fun kv hm => nomatch hm), by decide, by decide, npd.symm⟩ fun b o z => ?_
    rw [upd_ne (ne_of_none z hp), upd_ne (ne_of_none z hd0), upd_ne (ne_of_none z hp)]
    exact z
end
end Lw

set_option Elab.async false
set_option linter.all false
set_option maxRecDepth 100000
namespace Lw
open PySem PySem.Spec PyProof.Rows L2 K02 K04
open Builtin Builtin.Str StrLaws
/-! ### the law's own sizes -/
mutual
def Ly.dp : Ly → Nat
  | .box _ _ => 0
  | .grp _ its => 1 + dpL its
  | .tab _ _ its => 1 + dpL its
def dpL : List (Bool × Ly) → Nat
  | [] => 0
  | x :: xs => max (dpI x) (dpL xs)
def dpI : Bool × Ly → Nat
  | (_, y) => y.dp
end
theorem dpL_mem : ∀ {its : List (Bool × Ly)} {x : Bool × Ly}, x ∈ its → x.2.dp ≤ dpL its
  | [], _, h => nomatch h
  | (o, y) :: ys, x, h => by
    rcases List.mem_cons.mp h with rfl | h
    · rw [dpL, dpI]; show y.dp ≤ _; omega
    · have := dpL_mem (its := ys) h
      rw [dpL]; omega
mutual
def Ly.s6 : Ly → Prop
  | .box _ p => p < 6
  | .grp _ its => s6L its
  | .tab _ _ its => s6L its
def s6L : List (Bool × Ly) → Prop
  | [] => True
  | x :: xs => s6I x ∧ s6L xs
def s6I : Bool × Ly → Prop
  | (_, y) => y.s6
end
theorem s6L_mem : ∀ {its : List (Bool × Ly)} {x : Bool × Ly}, s6L its → x ∈ its → x.2.s6
  | [], _, _, h => nomatch h
  | (o, y) :: ys, x, hs, h => by
    rw [s6L, s6I] at hs
    rcases List.mem_cons.mp h with rfl | h
    · exact hs.1
    · exact s6L_mem hs.2 h
theorem s6L_of : ∀ {its : List (Bool × Ly)}, (∀ x ∈ its, x.2.s6) → s6L its
  | [], _ => by rw [s6L]; trivial
  | (o, y) :: xs, h => by
    rw [s6L, s6I]
    exact ⟨h _ List.mem_cons_self, s6L_of fun x hx => h x (List.mem_cons_of_mem _ hx)⟩
theorem szL_sum : ∀ its : List (Bool × Ly), (its.map fun x => ((szI x : Nat) : Int)).sum = ((szL its : Nat) : Int)
  | [] => rfl
  | x :: xs => by rw [List.map_cons, List.sum_cons, szL_sum xs, szL]; push_cast; rfl
def dict6 : List (Key × V) := [(Sum.inr "9(3)", .int 3), (Sum.inr "S99V9", .int 3), (Sum.inr "X(4)", .int 4), (Sum.inr "AA", .int 2), (Sum.inr "Z9.9", .int 4), (Sum.inr "X", .int 1)]
theorem dict6_eq : mergeK [] dict6 = dict6 := by decide +kernel
theorem dict6_at (p : Nat) (hp : p < 6) : valV dict6 (Sum.inr (picS p)) = some (.int (szP p : Nat)) := by
  obtain rfl | rfl | rfl | rfl | rfl | rfl : p = 0 ∨ p = 1 ∨ p = 2 ∨ p = 3 ∨ p = 4 ∨ p = 5 := by omega
  all_goals decide +kernel
section
variable {P : Program} {w : World} {K : PySem.W.Frag} {mg : Str → Option Value} {base : Heap} {f : Addr} {fd : FuncData} {tk : Nat → Tok} {c kr : Nat → Addr}
def spISz (d : Nat) : Sp := fun vs H Q _ => ∃ (v : V) (x : Bool × Ly), vs = [v] ∧ Deep H v (dvI x) ∧ x.2.dp < d ∧ x.2.cn ≤ 10000 ∧ x.2.okK ∧ x.2.s6 ∧ ∀ H', Same H H' → Q (.int (szI x : Nat)) H'
theorem ok__law_item_size0 (F : Fun K "_law_item_size" "_law_item_size" s__law_item_size f fd) : FnOk P w K mg base (CXE P w) 1 f fd ["_law_item"] (spISz 0) := by
  refine okNx F sc__law_item_size (fun vs H Q E h => ?_) (fun cdv A outer s H vs Q E hr h => ?_)
  · obtain ⟨v, x, rfl, _⟩ := h
    rfl
  · obtain ⟨v, x, rfl, _, hd, _⟩ := h
    exact absurd hd (Nat.not_lt_zero _)
set_option maxHeartbeats 2000000 in
theorem ok__law_item_size (d : Nat) (F : Fun K "_law_item_size" "_law_item_size" s__law_item_size f fd) (O : Own mg) (D__law_item_size : Def P w K mg base (d + 1) "_law_item_size" ["_law_item"] (spISz d)) : FnOk P w K mg base (CXE P w) (d + 2) f fd ["_law_item"] (spISz (d + 1)) := by
  refine okNx F sc__law_item_size (fun vs H Q E h => ?_) (fun cdv A outer s H vs Q E hr h => ?_)
  · obtain ⟨v, x, rfl, _⟩ := h
    rfl
  · obtain ⟨v, ⟨ov, y⟩, rfl, D, hd, hcn, hok, hs6, k⟩ := h
    have hz : 100000 ≤ sizeLine := by rw [sizeLine_eq]; decide
    have hu := hu_of hr
    refine ⟨_, (psx_cons (psy_if (pt_cmpR op_eq (pe_ix ix_tupR (pv 0) pe_int (fun _ _ => rfl)) pe_str (nomark _)) (psx_one (psy_ret (PEx.mk pe_int))) psx_nil)
      (psx_cons (psy_if (pt_cmpR op_eq (pe_ix ix_tupR (pv 0) pe_int (fun _ _ => rfl)) pe_str (nomark _)) (psx_one (psy_ret (pex_dget hu (pex_dispN (ppx_cons (PEx.mk pe_str) (PEx.mk pe_int) (ppx_cons (PEx.mk pe_str) (PEx.mk pe_int) (ppx_cons (PEx.mk pe_str) (PEx.mk pe_int) (ppx_cons (PEx.mk pe_str) (PEx.mk pe_int) (ppx_cons (PEx.mk pe_str) (PEx.mk pe_int) (ppx_cons (PEx.mk pe_str) (PEx.mk pe_int) ppx_nil)))))) rfl rfl (List.cons_ne_nil _ _) (Nat.le_of_ble_eq_true rfl)) (PEx.mk (pe_ix ix_tupR (pv 0) pe_int (fun _ _ => rfl))) (fun _ _ => rfl)))) psx_nil)
      (psx_cons (psy_set (i := 1) sc__law_item_size.nd rfl (Or.inl rfl) (PEx.mk (pe_callB (call_sum rfl) rfl O.sum L2.boot_sum (pa_c (pe_lcomp (NB := [".0", "_law_one"]) rfl ⟨rfl, by decide +kernel, by decide +kernel, by decide +kernel⟩ (pi_tup (pe_ix ix_tupR (pv 0) (pe_un un_neg pe_int) (fun _ _ => rfl))) (fun _ _ _ => (pg_name (i := 1) (show ([".0", "_law_one"] : List Str).Nodup by decide +kernel) rfl (Or.inl rfl))) (fun _ _ _ => pts_nil) (fun _ _ _ => (D__law_item_size.pe hr (by omega) rfl passE0 (pa_c (pv 1) pa_nil)))) pa_nil))) rfl rfl)
      (psx_one (psy_ret (pex_if (pt_cmpR op_eq (pe_ix ix_tupR (pv 0) pe_int (fun _ _ => rfl)) pe_str (nomark _)) (pex_op op_mul (PEx.mk (pv 1)) (PEx.mk (pe_ix ix_tupR (pv 0) pe_int (fun _ _ => rfl)))) (PEx.mk (pv 1)))))))), ?_⟩
    cases ov with
    | true =>
      obtain ⟨a, x2, rfl, g, _⟩ := over_at D
      rw [szI, if_pos rfl] at k
      exact ⟨_, rfl, a, _, 0, _, rfl, rfl, .inl g, rfl, rfl, true, rfl, iteT (k _ (Same.refl _))⟩
    | false =>
      rw [dvI, if_neg (by decide)] at D
      rw [szI, if_neg (by decide)] at k
      have hd : y.dp < d + 1 := hd
      have hcn : y.cn ≤ 10000 := hcn
      have hok : y.okK := hok
      have hs6 : y.s6 := hs6
      cases y with
      | box nm p =>
        obtain ⟨a, rfl, g⟩ := box_at D
        rw [Ly.sz] at k
        refine ⟨_, rfl, a, _, 0, _, rfl, rfl, .inl g, rfl, rfl, false, by rw [w_bo], iteF ?_⟩
        refine ⟨_, rfl, a, _, 0, _, rfl, rfl, .inl g, rfl, rfl, true, rfl, iteT ?_⟩
        refine fun pd hpd => ⟨upd_same, dict6, rfl, by decide, ?_⟩
        have S2 : Same H (upd (upd H pd (.dK [])) pd (.dK (mergeK [] dict6))) := same_off (Same.new hpd) hpd
        rw [dict6_eq] at S2 ⊢
        refine ⟨_, rfl, a, _, 2, _, rfl, rfl, .inl (S2 _ _ g), rfl, pd, _, rfl, ?_, k _ S2⟩
        have := DGet.k (k := Sum.inr (picS p)) (show upd (upd H pd (.dK [])) pd (.dK dict6) pd = some (.dK dict6) from upd_same)
        rw [Ly.s6] at hs6
        rw [dict6_at p hs6] at this
        exact this
      | grp nm in_ =>
        obtain ⟨a, x, rfl, g, D2⟩ := grp_at D
        rw [Ly.sz] at k
        rw [Ly.cn] at hcn
        rw [Ly.okK] at hok
        rw [Ly.dp] at hd
        rw [Ly.s6] at hs6
        refine ⟨_, rfl, a, _, 0, _, rfl, rfl, .inl g, rfl, rfl, false, by rw [w_go], iteF ?_⟩
        refine ⟨_, rfl, a, _, 0, _, rfl, rfl, .inl g, rfl, rfl, false, by rw [w_gb], iteF ?_⟩
        dsimp only [gName, tAsg, tSeq, tNext]
        refine cb1 ?_
        obtain ⟨xa, ys, rfl, gx, tx⟩ := Deep.tup' D2
        rw [dvL_map] at tx
        have lx := tx.length
        rw [List.length_map] at lx
        have ln := len_cn in_
        have hok2 : okL in_ := hok
        refine comp_deep (fixT (K := K) (a := xa) (xs := ys)) (in_.map fun x => Dv.int (szI x : Nat)) (by rw [List.length_map]; omega) (fun R h => ⟨_, rfl, _, rfl, a, _, _, _, rfl, rfl, .inl g, rfl, xa, rfl, ⟨_, .inl (.inl gx)⟩, h _ (Same.refl _)⟩) (fun H1 S => .inl (.inl (S _ _ gx))) ?_ ?_ (by omega)
        · rintro i v H1 H2 dd R hd2 S ⟨rfl, hv⟩ kk
          obtain ⟨dv, hdv, ddv⟩ := tx.getX hv
          rw [List.getElem?_map] at hdv hd2
          cases e : in_[i]? with
          | none => rw [e] at hdv; cases hdv
          | some z =>
            rw [e] at hdv hd2
            obtain rfl := Option.some.inj hdv
            have hm := List.mem_of_getElem? e
            have h1 := cn_at e
            have h2 := okL_mem hok2 hm
            have h3 := dpL_mem hm
            refine ⟨_, rfl, v, z, rfl, ddv.same S, by omega, by obtain ⟨o, yy⟩ := z; rw [cnI] at h1; show yy.cn ≤ 10000; omega, h2, s6L_mem hs6 hm, fun H3 S3 => kk _ _ S3 ?_⟩
            rw [← Option.some.inj hd2]
            exact .int
        rintro zs H1' p' S' t2 hp'
        have e : zs = (in_.map fun x => ((szI x : Nat) : Int)).map V.int := by
          have := deeps_ints (ns := in_.map fun x => ((szI x : Nat) : Int)) (by rw [List.map_map]; exact t2)
          exact this
        subst e
        have S1 := S'.trans (Same.new (o := .lst ((in_.map fun x => ((szI x : Nat) : Int)).map V.int)) hp')
        refine ⟨p', _, rfl, .inl (.inl upd_same), ?_⟩
        rw [szL_sum]
        generalize upd H1' p' (.lst ((in_.map fun x => ((szI x : Nat) : Int)).map V.int)) = H1 at S1
        refine ⟨_, rfl, a, _, 0, _, rfl, rfl, .inl (S1 _ _ g), rfl, rfl, false, by rw [w_gt], iteF ⟨_, rfl, k _ S1⟩⟩
      | tab nm k1 in_ =>
        obtain ⟨a, x, rfl, g, D2⟩ := tab_at D
        rw [Ly.sz] at k
        rw [Ly.cn] at hcn
        rw [Ly.okK] at hok
        rw [Ly.dp] at hd
        rw [Ly.s6] at hs6
        refine ⟨_, rfl, a, _, 0, _, rfl, rfl, .inl g, rfl, rfl, false, by rw [w_to], iteF ?_⟩
        refine ⟨_, rfl, a, _, 0, _, rfl, rfl, .inl g, rfl, rfl, false, by rw [w_tb], iteF ?_⟩
        dsimp only [gName, tAsg, tSeq, tNext]
        refine cb1 ?_
        obtain ⟨xa, ys, rfl, gx, tx⟩ := Deep.tup' D2
        rw [dvL_map] at tx
        have lx := tx.length
        rw [List.length_map] at lx
        have ln := len_cn in_
        have hok2 : okL in_ := hok.2
        refine comp_deep (fixT (K := K) (a := xa) (xs := ys)) (in_.map fun x => Dv.int (szI x : Nat)) (by rw [List.length_map]; omega) (fun R h => ⟨_, rfl, _, rfl, a, _, _, _, rfl, rfl, .inl g, rfl, xa, rfl, ⟨_, .inl (.inl gx)⟩, h _ (Same.refl _)⟩) (fun H1 S => .inl (.inl (S _ _ gx))) ?_ ?_ (by omega)
        · rintro i v H1 H2 dd R hd2 S ⟨rfl, hv⟩ kk
          obtain ⟨dv, hdv, ddv⟩ := tx.getX hv
          rw [List.getElem?_map] at hdv hd2
          cases e : in_[i]? with
          | none => rw [e] at hdv; cases hdv
          | some z =>
            rw [e] at hdv hd2
            obtain rfl := Option.some.inj hdv
            have hm := List.mem_of_getElem? e
            have h1 := cn_at e
            have h2 := okL_mem hok2 hm
            have h3 := dpL_mem hm
            refine ⟨_, rfl, v, z, rfl, ddv.same S, by omega, by obtain ⟨o, yy⟩ := z; rw [cnI] at h1; show yy.cn ≤ 10000; omega, h2, s6L_mem hs6 hm, fun H3 S3 => kk _ _ S3 ?_⟩
            rw [← Option.some.inj hd2]
            exact .int
        rintro zs H1' p' S' t2 hp'
        have e : zs = (in_.map fun x => ((szI x : Nat) : Int)).map V.int := by
          have := deeps_ints (ns := in_.map fun x => ((szI x : Nat) : Int)) (by rw [List.map_map]; exact t2)
          exact this
        subst e
        have S1 := S'.trans (Same.new (o := .lst ((in_.map fun x => ((szI x : Nat) : Int)).map V.int)) hp')
        refine ⟨p', _, rfl, .inl (.inl upd_same), ?_⟩
        rw [szL_sum]
        generalize upd H1' p' (.lst ((in_.map fun x => ((szI x : Nat) : Int)).map V.int)) = H1 at S1
        refine ⟨_, rfl, a, _, 0, _, rfl, rfl, .inl (S1 _ _ g), rfl, rfl, true, rfl, iteT ?_⟩
        refine ⟨_, rfl, _, rfl, a, _, 2, _, rfl, rfl, .inl (S1 _ _ g), rfl, _, _, rfl, rfl, .inr ⟨by have := hok.1; omega, by have := hok.1; omega⟩, ?_⟩
        have e : ((szL in_ : Nat) : Int) * ((k1 : Nat) : Int) = ((szL in_ * k1 : Nat) : Int) := by push_cast; rfl
        dsimp only
        rw [e]
        exact k _ S1
end
end Lw

set_option Elab.async false
set_option linter.all false
set_option maxRecDepth 100000
namespace Lw
open PySem PySem.Spec PyProof.Rows L2 K02 K04
open Builtin Builtin.Str StrLaws
/-! ### the layouts that are drawn -/
def lett (j : Nat) : Str := ⟨#[97 + j]⟩
/-- the size of the last item that lies over nothing -/
def lastSz (its : List (Bool × Ly)) : Nat := if its = [] then 0 else (its.getD (under its (its.length - 1)) dfI).2.sz
structure PB (its : List (Bool × Ly)) : Prop where
  len : its.length ≤ 4
  nm : ∀ (j : Nat) (x : Bool × Ly), its[j]? = some x → x.2.name = lett j
  first : ∀ x, its[0]? = some x → x.1 = false
  ov : ∀ (j : Nat) (y : Ly), its[j]? = some (true, y) → y.sz ≤ (its.getD (under its j) dfI).2.sz
def Good : Nat → List (Bool × Ly) → Prop
  | 0, its => its ≠ [] ∧ PB its ∧ ∀ x ∈ its, ∃ nm p, x.2 = .box nm p ∧ p < 6
  | d + 1, its => its ≠ [] ∧ PB its ∧ ∀ x ∈ its, (∃ nm p, x.2 = .box nm p ∧ p < 6) ∨ (∃ nm in_, x.2 = .grp nm in_ ∧ Good d in_) ∨ (∃ nm k in_, x.2 = .tab nm k in_ ∧ 1 ≤ k ∧ k ≤ 3 ∧ Good d in_)
def GoodY : Nat → Ly → Prop
  | 0, y => ∃ nm p, y = .box nm p ∧ p < 6
  | d + 1, y => (∃ nm p, y = .box nm p ∧ p < 6) ∨ (∃ nm in_, y = .grp nm in_ ∧ Good d in_) ∨ (∃ nm k in_, y = .tab nm k in_ ∧ 1 ≤ k ∧ k ≤ 3 ∧ Good d in_)
theorem good_iff (d : Nat) (its : List (Bool × Ly)) : Good d its ↔ its ≠ [] ∧ PB its ∧ ∀ x ∈ its, GoodY d x.2 := by
  cases d <;> rfl
def cnB : Nat → Nat
  | 0 => 4
  | d + 1 => 4 * (1 + cnB d)
def wtB : Nat → Nat
  | 0 => 4
  | d + 1 => 4 * (1 + 3 * wtB d)
theorem sum_le {g : Bool × Ly → Nat} {gl : List (Bool × Ly) → Nat} (h0 : gl [] = 0) (hc : ∀ x xs, gl (x :: xs) = g x + gl xs) {B : Nat} : ∀ {its : List (Bool × Ly)}, (∀ x ∈ its, g x ≤ B) → gl its ≤ its.length * B
  | [], _ => by rw [h0]; exact Nat.zero_le _
  | x :: xs, h => by
    have h1 := h x List.mem_cons_self
    have h2 := sum_le h0 hc (its := xs) fun y hy => h y (List.mem_cons_of_mem _ hy)
    rw [hc, List.length_cons, Nat.succ_mul]
    omega
theorem okL_of : ∀ {its : List (Bool × Ly)}, (∀ x ∈ its, x.2.okK) → okL its
  | [], _ => by rw [okL]; trivial
  | (o, y) :: xs, h => by
    rw [okL, okI]
    exact ⟨h _ List.mem_cons_self, okL_of fun x hx => h x (List.mem_cons_of_mem _ hx)⟩
theorem dpL_of {B : Nat} : ∀ {its : List (Bool × Ly)}, (∀ x ∈ its, x.2.dp ≤ B) → dpL its ≤ B
  | [], _ => by rw [dpL]; exact Nat.zero_le _
  | (o, y) :: xs, h => by
    have h1 := h _ List.mem_cons_self
    have h2 := dpL_of (its := xs) fun x hx => h x (List.mem_cons_of_mem _ hx)
    rw [dpL, dpI]
    show max y.dp (dpL xs) ≤ B
    have : y.dp ≤ B := h1
    omega
structure LBd (d : Nat) (its : List (Bool × Ly)) : Prop where
  cn : cnL its ≤ cnB d
  wt : wtL its ≤ wtB d
  ok : okL its
  dp : dpL its ≤ d
theorem good_bd : ∀ (d : Nat) (its : List (Bool × Ly)), Good d its → LBd d its
  | 0, its, h => by
    obtain ⟨_, hp, hx⟩ := h
    have hl := hp.len
    refine ⟨?_, ?_, okL_of fun x hx' => ?_, dpL_of fun x hx' => ?_⟩
    · have := sum_le (g := cnI) (gl := cnL) (by rw [cnL]) (fun x xs => by rw [cnL]) (B := 1) (its := its) fun x hx' => by
        obtain ⟨o, y⟩ := x
        obtain ⟨nm, p, e, hp6⟩ := hx _ hx'
        rw [cnI, show y = .box nm p from e, Ly.cn]
        exact Nat.le_refl _
      show cnL its ≤ 4
      omega
    · have := sum_le (g := wtI) (gl := wtL) (by rw [wtL]) (fun x xs => by rw [wtL]) (B := 1) (its := its) fun x hx' => by
        obtain ⟨o, y⟩ := x
        obtain ⟨nm, p, e, hp6⟩ := hx _ hx'
        rw [wtI, show y = .box nm p from e, Ly.wt]
        exact Nat.le_refl _
      show wtL its ≤ 4
      omega
    · obtain ⟨nm, p, e, hp6⟩ := hx _ hx'
      rw [e, Ly.okK]
      trivial
    · obtain ⟨nm, p, e, hp6⟩ := hx _ hx'
      rw [e, Ly.dp]
      exact Nat.le_refl _
  | d + 1, its, h => by
    obtain ⟨_, hp, hx⟩ := h
    have hl := hp.len
    have each : ∀ x ∈ its, x.2.cn ≤ 1 + cnB d ∧ x.2.wt ≤ 1 + 3 * wtB d ∧ x.2.okK ∧ x.2.dp ≤ d + 1 := by
      intro x hx'
      rcases hx x hx' with ⟨nm, p, e, hp6⟩ | ⟨nm, in_, e, hg⟩ | ⟨nm, k, in_, e, hk1, hk3, hg⟩
      · rw [e, Ly.cn, Ly.wt, Ly.okK, Ly.dp]
        exact ⟨by omega, by omega, trivial, by omega⟩
      · have b := good_bd d in_ hg
        have b1 := b.cn
        have b2 := b.wt
        have b4 := b.dp
        rw [e, Ly.cn, Ly.wt, Ly.okK, Ly.dp]
        exact ⟨by omega, by omega, b.ok, by omega⟩
      · have b := good_bd d in_ hg
        have b1 := b.cn
        have b2 := b.wt
        have b4 := b.dp
        have : k * wtL in_ ≤ 3 * wtB d := Nat.mul_le_mul hk3 b2
        rw [e, Ly.cn, Ly.wt, Ly.okK, Ly.dp]
        exact ⟨by omega, by omega, ⟨by omega, b.ok⟩, by omega⟩
    refine ⟨?_, ?_, okL_of fun x hx' => (each x hx').2.2.1, dpL_of fun x hx' => (each x hx').2.2.2⟩
    · have := sum_le (g := cnI) (gl := cnL) (by rw [cnL]) (fun x xs => by rw [cnL]) (B := 1 + cnB d) (its := its) fun x hx' => by
        obtain ⟨o, y⟩ := x
        rw [cnI]
        exact (each _ hx').1
      show cnL its ≤ 4 * (1 + cnB d)
      exact Nat.le_trans this (Nat.mul_le_mul_right _ hl)
    · have := sum_le (g := wtI) (gl := wtL) (by rw [wtL]) (fun x xs => by rw [wtL]) (B := 1 + 3 * wtB d) (its := its) fun x hx' => by
        obtain ⟨o, y⟩ := x
        rw [wtI]
        exact (each _ hx').2.1
      show wtL its ≤ 4 * (1 + 3 * wtB d)
      exact Nat.le_trans this (Nat.mul_le_mul_right _ hl)
theorem goodY_bd (d : Nat) (hd : d ≤ 2) {y : Ly} (h : GoodY d y) : y.cn ≤ 1000 ∧ y.wt ≤ 1000 ∧ y.okK ∧ y.dp ≤ d := by
  cases d with
  | zero =>
    obtain ⟨nm, p, rfl, hp6⟩ := h
    rw [Ly.cn, Ly.wt, Ly.okK, Ly.dp]
    exact ⟨by omega, by omega, trivial, by omega⟩
  | succ d =>
    have c1 : cnB d ≤ 20 ∧ wtB d ≤ 52 := by
      obtain rfl | rfl : d = 0 ∨ d = 1 := by omega
      · decide
      · decide
    rcases h with ⟨nm, p, rfl, hp6⟩ | ⟨nm, in_, rfl, hg⟩ | ⟨nm, k, in_, rfl, hk1, hk3, hg⟩
    · rw [Ly.cn, Ly.wt, Ly.okK, Ly.dp]
      exact ⟨by omega, by omega, trivial, by omega⟩
    · have b := good_bd d in_ hg
      have b1 := b.cn
      have b2 := b.wt
      have b4 := b.dp
      rw [Ly.cn, Ly.wt, Ly.okK, Ly.dp]
      exact ⟨by omega, by omega, b.ok, by omega⟩
    · have b := good_bd d in_ hg
      have b1 := b.cn
      have b2 := b.wt
      have b4 := b.dp
      have : k * wtL in_ ≤ 3 * wtB d := Nat.mul_le_mul hk3 b2
      rw [Ly.cn, Ly.wt, Ly.okK, Ly.dp]
      exact ⟨by omega, by omega, ⟨by omega, b.ok⟩, by omega⟩
theorem good_s6 : ∀ (d : Nat) (its : List (Bool × Ly)), Good d its → s6L its
  | 0, its, h => by
    obtain ⟨_, hp, hx⟩ := h
    exact s6L_of fun x hx' => by
      obtain ⟨nm, p, e, hp6⟩ := hx _ hx'
      rw [e, Ly.s6]; exact hp6
  | d + 1, its, h => by
    obtain ⟨_, hp, hx⟩ := h
    exact s6L_of fun x hx' => by
      rcases hx x hx' with ⟨nm, p, e, hp6⟩ | ⟨nm, in_, e, hg⟩ | ⟨nm, k, in_, e, hk1, hk3, hg⟩
      · rw [e, Ly.s6]; exact hp6
      · rw [e, Ly.s6]; exact good_s6 d in_ hg
      · rw [e, Ly.s6]; exact good_s6 d in_ hg
theorem goodY_s6 (d : Nat) {y : Ly} (h : GoodY d y) : y.s6 := by
  cases d with
  | zero =>
    obtain ⟨nm, p, rfl, hp6⟩ := h
    rw [Ly.s6]; exact hp6
  | succ d =>
    rcases h with ⟨nm, p, rfl, hp6⟩ | ⟨nm, in_, rfl, hg⟩ | ⟨nm, k, in_, rfl, hk1, hk3, hg⟩
    · rw [Ly.s6]; exact hp6
    · rw [Ly.s6]; exact good_s6 d in_ hg
    · rw [Ly.s6]; exact good_s6 d in_ hg
theorem getD_app {its : List (Bool × Ly)} {x : Bool × Ly} {j : Nat} (h : j < its.length) : (its ++ [x]).getD j dfI = its.getD j dfI := by
  rw [List.getD_eq_getElem?_getD, List.getD_eq_getElem?_getD, List.getElem?_append_left h]
theorem getD_new (its : List (Bool × Ly)) (x : Bool × Ly) : (its ++ [x]).getD its.length dfI = x := by
  rw [List.getD_eq_getElem?_getD, List.getElem?_append_right (Nat.le_refl _), Nat.sub_self]
  rfl
theorem under_app {its : List (Bool × Ly)} {x : Bool × Ly} : ∀ {j : Nat}, j < its.length → under (its ++ [x]) j = under its j
  | 0, _ => rfl
  | j + 1, h => by
    rw [under, under, getD_app h, under_app (j := j) (by omega)]
theorem lastSz_new (its : List (Bool × Ly)) (y : Ly) : lastSz (its ++ [(false, y)]) = y.sz := by
  unfold lastSz
  rw [if_neg (by simp), List.length_append, List.length_singleton, Nat.add_sub_cancel, under_step, getD_new]
  show (((its ++ [(false, y)]).getD (if false = true then _ else its.length) dfI).2).sz = y.sz
  rw [if_neg (by decide), getD_new]
theorem lastSz_over {its : List (Bool × Ly)} (hne : its ≠ []) (y : Ly) : lastSz (its ++ [(true, y)]) = lastSz its := by
  obtain ⟨n, hn⟩ : ∃ n, its.length = n + 1 := ⟨its.length - 1, by
    have : its.length ≠ 0 := fun z => hne (List.eq_nil_of_length_eq_zero z)
    omega⟩
  have hu := under_le its n
  unfold lastSz
  rw [if_neg (by simp), if_neg hne, List.length_append, List.length_singleton, Nat.add_sub_cancel, under_step, getD_new]
  show (((its ++ [(true, y)]).getD (if true = true then underB (its ++ [(true, y)]) its.length else its.length) dfI).2).sz = _
  rw [if_pos rfl, hn, underB, under_app (by omega), getD_app (by omega), Nat.add_sub_cancel]
theorem PB.add {its : List (Bool × Ly)} (h : PB its) {y : Ly} (hl : its.length < 4) (hn : y.name = lett its.length) : PB (its ++ [(false, y)]) := by
  refine ⟨by rw [List.length_append, List.length_singleton]; omega, fun j x hj => ?_, fun x hx => ?_, fun j y' hj => ?_⟩
  · by_cases e : j < its.length
    · rw [List.getElem?_append_left e] at hj; exact h.nm j x hj
    · have e2 : j = its.length := by
        have := (List.getElem?_eq_some_iff.mp hj).1
        rw [List.length_append, List.length_singleton] at this
        omega
      subst e2
      rw [List.getElem?_append_right (Nat.le_refl _), Nat.sub_self] at hj
      rw [← Option.some.inj hj]
      exact hn
  · cases its with
    | nil => rw [← Option.some.inj hx]
    | cons z zs => exact h.first x hx
  · by_cases e : j < its.length
    · rw [List.getElem?_append_left e] at hj
      have := h.ov j y' hj
      have hu := under_le its j
      rw [under_app e, getD_app (by omega)]
      exact this
    · have e2 : j = its.length := by
        have := (List.getElem?_eq_some_iff.mp hj).1
        rw [List.length_append, List.length_singleton] at this
        omega
      subst e2
      rw [List.getElem?_append_right (Nat.le_refl _), Nat.sub_self] at hj
      cases hj
theorem PB.addO {its : List (Bool × Ly)} (h : PB its) (hne : its ≠ []) {y : Ly} (hl : its.length < 4) (hn : y.name = lett its.length) (hs : y.sz ≤ lastSz its) : PB (its ++ [(true, y)]) := by
  obtain ⟨n, hn2⟩ : ∃ n, its.length = n + 1 := ⟨its.length - 1, by
    have : its.length ≠ 0 := fun z => hne (List.eq_nil_of_length_eq_zero z)
    omega⟩
  have hu := under_le its n
  refine ⟨by rw [List.length_append, List.length_singleton]; omega, fun j x hj => ?_, fun x hx => ?_, fun j y' hj => ?_⟩
  · by_cases e : j < its.length
    · rw [List.getElem?_append_left e] at hj; exact h.nm j x hj
    · have e2 : j = its.length := by
        have := (List.getElem?_eq_some_iff.mp hj).1
        rw [List.length_append, List.length_singleton] at this
        omega
      subst e2
      rw [List.getElem?_append_right (Nat.le_refl _), Nat.sub_self] at hj
      rw [← Option.some.inj hj]
      exact hn
  · cases its with
    | nil => exact absurd rfl hne
    | cons z zs => exact h.first x hx
  · by_cases e : j < its.length
    · rw [List.getElem?_append_left e] at hj
      have := h.ov j y' hj
      have hu := under_le its j
      rw [under_app e, getD_app (by omega)]
      exact this
    · have e2 : j = its.length := by
        have := (List.getElem?_eq_some_iff.mp hj).1
        rw [List.length_append, List.length_singleton] at this
        omega
      subst e2
      rw [List.getElem?_append_right (Nat.le_refl _), Nat.sub_self] at hj
      have hj : (true, y) = (true, y') := Option.some.inj hj
      have e3 : y = y' := congrArg (·.2) hj
      subst e3
      rw [under_step, getD_new]
      show y.sz ≤ ((its ++ [(true, y)]).getD (if true = true then underB (its ++ [(true, y)]) its.length else its.length) dfI).2.sz
      rw [if_pos rfl, hn2, underB, under_app (by omega), getD_app (by omega)]
      unfold lastSz at hs
      rw [if_neg hne, hn2, Nat.add_sub_cancel] at hs
      exact hs
/-- how often is drawn at the most -/
def cb : Nat → Int
  | 0 => 20
  | d + 1 => 4 * cb d + 20
end Lw

set_option Elab.async false
set_option linter.all false
set_option maxRecDepth 100000
namespace Lw
open PySem PySem.Spec PyProof.Rows L2 K02 K04
open Builtin Builtin.Str StrLaws
/-! ### what is a layout, and what is none -/
def okN (y : Ly) : Prop := nmS y.name = true ∧ ∀ nm k its, y = .tab nm k its → 1 ≤ k ∧ k ≤ 30
theorem picS_len (p : Nat) : (picS p).cps.toList.length ≤ 500 ∧ (picture (picS p).cps.toList).isSome = true := by
  obtain ⟨a, l, x, e, h, _⟩ := pic_size p
  rw [e]
  have e2 : (tx l).cps.toList = l := rfl
  rw [e2]
  exact ⟨h.ll, by rw [h.pc]; rfl⟩
theorem q_bt : eqS "box" "table" = false := w_bt
theorem q_gt : eqS "group" "table" = false := w_gt
theorem q_gb : eqS "group" "box" = false := w_gb
theorem q_tb : eqS "table" "box" = false := w_tb
theorem q_bb : eqS "box" "box" = true := by decide +kernel
theorem q_gg : eqS "group" "group" = true := by decide +kernel
theorem q_tt : eqS "table" "table" = true := by decide +kernel
theorem y_ok {y : Ly} (h : okN y) : bareOk y.w = true := by
  obtain ⟨h1, h2⟩ := h
  cases y with
  | box nm p =>
    show (nmS nm && (if eqS "box" "table" = true then _ else if eqS "box" "box" = true then decide ((0 : Nat) = 0) && (picture (picS p).cps.toList).isSome else _)) = true
    rw [if_neg (by rw [q_bt]; decide), if_pos q_bb, (picS_len p).2, show nmS nm = true from h1]
    rfl
  | grp nm its =>
    show (nmS nm && (if eqS "group" "table" = true then _ else if eqS "group" "box" = true then _ else decide ((0 : Nat) = 0) && eqS "group" "group")) = true
    rw [if_neg (by rw [q_gt]; decide), if_neg (by rw [q_gb]; decide), q_gg, show nmS nm = true from h1]
    rfl
  | tab nm k its =>
    obtain ⟨h3, h4⟩ := h2 nm k its rfl
    show (nmS nm && (if eqS "table" "table" = true then decide ((1 : Nat) = 1) && (decide ((1 : Int) ≤ (k : Nat)) && decide (((k : Nat) : Int) ≤ 30)) else _)) = true
    rw [if_pos q_tt, decide_eq_true (show (1 : Int) ≤ (k : Nat) by omega), decide_eq_true (show ((k : Nat) : Int) ≤ 30 by omega), show nmS nm = true from h1]
    rfl
theorem y_arg (y : Ly) : ArgB y.w := by
  cases y with
  | box nm p => exact ⟨fun _ => ⟨_, rfl, (picS_len p).1⟩, fun z => absurd (show eqS "box" "table" = true from z) (by rw [q_bt]; decide)⟩
  | grp nm its => exact ⟨fun z => absurd (show eqS "group" "box" = true from z) (by rw [q_gb]; decide), fun z => absurd (show eqS "group" "table" = true from z) (by rw [q_gt]; decide)⟩
  | tab nm k its => exact ⟨fun z => absurd (show eqS "table" "box" = true from z) (by rw [q_tb]; decide), fun _ => .inl ⟨_, rfl⟩⟩
theorem nmS_len {z : Str} (h : nmS z = true) : z.length ≤ 12 := by
  unfold nmS at h
  rw [Bool.and_eq_true, Bool.and_eq_true] at h
  exact of_decide_eq_true h.1.2
theorem y_nm {y : Ly} (h : nmS y.name = true) : NmLen y.w := by
  have := nmS_len h
  cases y with
  | box nm p => show nm.length ≤ 1000; exact Nat.le_trans this (by decide)
  | grp nm its => show nm.length ≤ 1000; exact Nat.le_trans this (by decide)
  | tab nm k its => show nm.length ≤ 1000; exact Nat.le_trans this (by decide)
theorem wI_ok {x : Bool × Ly} (h : okN x.2) : itemOk (wI x) = true ∧ ArgI (wI x) ∧ NmI (wI x) := by
  obtain ⟨o, y⟩ := x
  have h1 := y_ok h
  have h2 := y_arg y
  have h3 := y_nm h.1
  rw [wI_eq]
  cases o with
  | true =>
    rw [if_pos rfl]
    refine ⟨?_, ?_, ?_⟩
    · show (if eqS "over" "over" = true then bareOk y.w else bareOk (.tup [.str "over", y.w])) = true
      rw [if_pos eqS_oo]; exact h1
    · show if eqS "over" "over" = true then ArgB y.w else ArgB (.tup [.str "over", y.w])
      rw [if_pos eqS_oo]; exact h2
    · show if eqS "over" "over" = true then NmLen y.w else NmLen (.tup [.str "over", y.w])
      rw [if_pos eqS_oo]; exact h3
  | false =>
    rw [if_neg (show ¬ ((false, y) : Bool × Ly).1 = true from Bool.false_ne_true)]
    have h1 : bareOk y.w = true := h1
    obtain ⟨r, e⟩ := y.w_at
    show itemOk y.w = true ∧ ArgI y.w ∧ NmI y.w
    rw [e] at h1 h2 h3 ⊢
    refine ⟨?_, ?_, ?_⟩
    · show (if eqS y.word "over" = true then _ else _) = true
      rw [if_neg (by rw [eqS_word]; decide)]; exact h1
    · show if eqS y.word "over" = true then _ else _
      rw [if_neg (by rw [eqS_word]; decide)]; exact h2
    · show if eqS y.word "over" = true then _ else _
      rw [if_neg (by rw [eqS_word]; decide)]; exact h3
theorem nmB_wI (x : Bool × Ly) : nmB (wI x) = x.2.name := by
  rw [nmB, bareW_wI]
  cases x.2 <;> rfl
theorem row_ok {its : List (Bool × Ly)} (hne : its ≠ []) (h : ∀ x ∈ its, okN x.2) (hu : unlike (its.map fun x => x.2.name) = true) : rowOk (wR its) = true := by
  cases its with
  | nil => exact absurd rfl hne
  | cons x xs =>
    show (((x :: xs).map wI).all itemOk && unlike (((x :: xs).map wI).map nmB)) = true
    rw [List.map_map, Bool.and_eq_true]
    refine ⟨List.all_eq_true.mpr fun d hd => ?_, ?_⟩
    · obtain ⟨y, hy, rfl⟩ := List.mem_map.mp hd
      exact (wI_ok (h y hy)).1
    · rw [show (nmB ∘ wI) = fun x : Bool × Ly => x.2.name from funext fun x => nmB_wI x]
      exact hu
/-- of a row that is one -/
theorem row_items {d0 : Wx} {ds : List Wx} (h : rowOk (.tup (d0 :: ds)) = true) : ∀ x ∈ d0 :: ds, itemOk x = true := by
  have h : ((d0 :: ds).all itemOk && unlike ((d0 :: ds).map nmB)) = true := h
  rw [Bool.and_eq_true] at h
  exact fun x hx => List.all_eq_true.mp h.1 x hx
theorem rowOk_items {ds : List Wx} (h : rowOk (.tup ds) = true) : ∀ x ∈ ds, itemOk x = true := by
  cases ds with
  | nil => exact fun x hx => nomatch hx
  | cons d0 ds => exact row_items h
theorem item_name {x : Bool × Ly} (h : itemOk (wI x) = true) : nmS x.2.name = true := by
  obtain ⟨hb, _⟩ := item_bare h
  rw [bareW_wI] at hb
  obtain ⟨w0, z, c, r, e, h1, _⟩ := bareOk_at hb
  obtain ⟨r', e'⟩ := x.2.w_at
  rw [e'] at e
  injection e with e
  injection e with _ e
  injection e with e _
  injection e with e
  rw [e]; exact h1
theorem wI_args {x : Bool × Ly} (h : nmS x.2.name = true) : ArgI (wI x) ∧ NmI (wI x) := by
  obtain ⟨o, y⟩ := x
  have h2 := y_arg y
  have h3 := y_nm h
  rw [wI_eq]
  cases o with
  | true =>
    rw [if_pos rfl]
    refine ⟨?_, ?_⟩
    · show if eqS "over" "over" = true then ArgB y.w else ArgB (.tup [.str "over", y.w])
      rw [if_pos eqS_oo]; exact h2
    · show if eqS "over" "over" = true then NmLen y.w else NmLen (.tup [.str "over", y.w])
      rw [if_pos eqS_oo]; exact h3
  | false =>
    rw [if_neg (show ¬ ((false, y) : Bool × Ly).1 = true from Bool.false_ne_true)]
    obtain ⟨r, e⟩ := y.w_at
    show ArgI y.w ∧ NmI y.w
    have h3 : NmLen y.w := h3
    rw [e] at h2 h3 ⊢
    refine ⟨?_, ?_⟩
    · show if eqS y.word "over" = true then _ else _
      rw [if_neg (by rw [eqS_word]; decide)]; exact h2
    · show if eqS y.word "over" = true then _ else _
      rw [if_neg (by rw [eqS_word]; decide)]; exact h3
theorem Rows.args {its : List (Bool × Ly)} (h : Rows its) : Args (wR its) := by
  induction h with
  | mk h c o t ih =>
    rename_i its
    refine .mk ⟨?_, fun d hd => ?_⟩ fun _ x hx => ?_
    · have := len_cn its
      rw [List.length_map]; omega
    · have hi := rowOk_items h d hd
      obtain ⟨x, hx, rfl⟩ := List.mem_map.mp hd
      exact wI_args (item_name hi)
    · rw [inr_wR] at hx
      obtain ⟨i, hi, rfl⟩ := List.mem_map.mp hx
      exact ih i hi
mutual
theorem szW_y : ∀ y : Ly, szW (toW y.dv) + 2 ≤ 7 * y.cn
  | .box nm p => by
    rw [Ly.dv, Ly.cn, toW, toWs, toWs, toWs, toWs, toW, toW, toW]
    simp only [szW, szWs]
    omega
  | .grp nm its => by
    have := szW_l its
    rw [Ly.dv, Ly.cn, toW, toWs, toWs, toWs, toWs, toW, toW, toW]
    simp only [szW, szWs]
    omega
  | .tab nm k its => by
    have := szW_l its
    rw [Ly.dv, Ly.cn, toW, toWs, toWs, toWs, toWs, toWs, toW, toW, toW, toW]
    simp only [szW, szWs]
    omega
theorem szW_l : ∀ its : List (Bool × Ly), szWs (toWs (dvL its)) ≤ 7 * cnL its
  | [] => by rw [dvL, toWs, szWs]; exact Nat.zero_le _
  | x :: xs => by
    have h1 := szW_i x
    have h2 := szW_l xs
    rw [dvL, toWs, szWs, cnL]
    omega
theorem szW_i : ∀ x : Bool × Ly, szW (toW (dvI x)) ≤ 7 * cnI x
  | (o, y) => by
    have h := szW_y y
    have hp := y.cn_pos
    rw [dvI, cnI]
    cases o with
    | true =>
      rw [if_pos rfl, toW, toWs, toWs, toWs, toW]
      simp only [szW, szWs]
      omega
    | false =>
      rw [if_neg (by decide)]
      omega
end
theorem szW_wR (its : List (Bool × Ly)) : szW (wR its) ≤ 1 + 7 * cnL its := by
  have := szW_l its
  rw [wR_eq, toW, szW]
  omega
theorem szWs_wI (its : List (Bool × Ly)) : szWs (its.map wI) ≤ 7 * cnL its := by
  have := szW_wR its
  rw [wR, szW] at this
  omega
end Lw

set_option Elab.async false
set_option linter.all false
set_option maxRecDepth 100000
namespace Lw
open PySem PySem.Spec PyProof.Rows L2 K02 K04
open Builtin Builtin.Str StrLaws
/-! ### the drawn ones are layouts -/
theorem lett_nm : ∀ j : Nat, j < 4 → nmS (lett j) = true := by decide +kernel
theorem lett_inj {i j : Nat} (h : lett i = lett j) : i = j := by
  have := congrArg (fun s : Str => s.cps.toList) h
  simp [lett] at this
  omega
theorem lett_z {j : Nat} (h : j < 4) : lett j ≠ "z" := by
  intro e
  have e2 : ("z" : Str) = lett 25 := by decide +kernel
  rw [e2] at e
  have := lett_inj e
  omega
theorem names_at {its : List (Bool × Ly)} (hp : PB its) {i : Nat} (hi : i < its.length) : (its.map fun x => x.2.name).getD i ("" : Str) = lett i := by
  rw [List.getD_eq_getElem?_getD, List.getElem?_map, List.getElem?_eq_getElem hi]
  exact hp.nm i _ (List.getElem?_eq_getElem hi)
theorem PB.un {its : List (Bool × Ly)} (hp : PB its) : unlike (its.map fun x => x.2.name) = true := unlike_iff.mpr fun i j hij hj => by
  rw [List.length_map] at hj
  rw [names_at hp (by omega), names_at hp hj]
  exact fun z => absurd (lett_inj z) (by omega)
theorem PB.name_at {its : List (Bool × Ly)} (hp : PB its) {x : Bool × Ly} (hx : x ∈ its) : ∃ j, j < 4 ∧ x.2.name = lett j := by
  obtain ⟨j, hj, rfl⟩ := List.mem_iff_getElem.mp hx
  have := hp.len
  exact ⟨j, by omega, hp.nm j _ (List.getElem?_eq_getElem hj)⟩
theorem good_okN {d : Nat} {its : List (Bool × Ly)} (h : Good d its) : ∀ x ∈ its, okN x.2 := by
  obtain ⟨_, hp, hx⟩ := (good_iff d its).mp h
  intro x hm
  obtain ⟨j, hj, e⟩ := hp.name_at hm
  refine ⟨by rw [e]; exact lett_nm j hj, fun nm k i ey => ?_⟩
  have hy := hx x hm
  rw [ey] at hy
  cases d with
  | zero => obtain ⟨_, _, e2, _⟩ := hy; cases e2
  | succ d =>
    rcases hy with ⟨_, _, e2, _⟩ | ⟨_, _, e2, _⟩ | ⟨_, _, _, e2, h1, h2, _⟩
    · cases e2
    · cases e2
    · cases e2; exact ⟨h1, by omega⟩
def uOf (its : List (Bool × Ly)) : Nat → Nat
  | 0 => 0
  | j + 1 => (its.getD (under its j) dfI).2.sz
theorem PB.ovb {its : List (Bool × Ly)} (hp : PB its) : ∀ (n j : Nat), n = its.length - j → j ≤ its.length → ovB (uOf its j) (its.drop j) = true
  | 0, j, e, hj => by rw [List.drop_eq_nil_of_le (by omega), ovB]
  | n + 1, j, e, hj => by
    have hl : j < its.length := by omega
    have ih := PB.ovb hp n (j + 1) (by omega) (by omega)
    rw [List.drop_eq_getElem_cons hl]
    have ej : its[j]? = some its[j] := List.getElem?_eq_getElem hl
    have eg : its.getD j dfI = its[j] := by rw [List.getD_eq_getElem?_getD, ej]; rfl
    revert ej eg
    generalize its[j] = x
    obtain ⟨o, y⟩ := x
    intro ej eg
    rw [ovB]
    cases o with
    | true =>
      cases j with
      | zero => exact absurd (show true = false from hp.first _ ej) (by decide)
      | succ j =>
        have hov := hp.ov _ _ ej
        have eu : under its (j + 1) = under its j := by rw [under, eg, if_pos rfl]
        rw [uOf, eu] at ih
        rw [eu] at hov
        rw [if_pos rfl, uOf, decide_eq_true hov, Bool.true_and]
        exact ih
    | false =>
      have eu : under its j = j := by rw [under_step, eg]; rfl
      rw [uOf, eu, eg] at ih
      rw [if_neg (by decide)]
      exact ih
theorem PB.ov0 {its : List (Bool × Ly)} (hp : PB its) : ovB 0 its = true := by
  have := hp.ovb its.length 0 (by omega) (Nat.zero_le _)
  rw [List.drop_zero] at this
  exact this
theorem inn_mem {its i : List (Bool × Ly)} (hi : i ∈ inn its) : ∃ x ∈ its, innY x.2 = some i := by
  obtain ⟨x, hx, e⟩ := List.mem_filterMap.mp hi
  exact ⟨x, hx, e⟩
theorem good_inn {d : Nat} {its i : List (Bool × Ly)} (h : Good d its) (hi : i ∈ inn its) : ∃ e, d = e + 1 ∧ Good e i := by
  obtain ⟨_, hp, hx⟩ := (good_iff d its).mp h
  obtain ⟨x, hm, e⟩ := inn_mem hi
  have hy := hx x hm
  cases d with
  | zero => obtain ⟨_, _, e2, _⟩ := hy; rw [e2] at e; cases e
  | succ d =>
    rcases hy with ⟨_, _, e2, _⟩ | ⟨_, _, e2, hg⟩ | ⟨_, _, _, e2, h1, h2, hg⟩
    · rw [e2] at e; cases e
    · rw [e2] at e; obtain rfl := Option.some.inj e; exact ⟨d, rfl, hg⟩
    · rw [e2] at e; obtain rfl := Option.some.inj e; exact ⟨d, rfl, hg⟩
theorem good_rows : ∀ (d : Nat) (its : List (Bool × Ly)), d ≤ 2 → Good d its → Rows its ∧ ovL its = true
  | d, its, hd, h => by
    have hb := good_bd d its h
    have hcn : cnL its ≤ 84 := by
      refine Nat.le_trans hb.cn ?_
      obtain rfl | rfl | rfl : d = 0 ∨ d = 1 ∨ d = 2 := by omega
      all_goals decide
    obtain ⟨hne, hp, hx⟩ := (good_iff d its).mp h
    have key : ∀ i ∈ inn its, Rows i ∧ ovL i = true := fun i hi => by
      obtain ⟨e, rfl, hg⟩ := good_inn h hi
      exact good_rows e i (by omega) hg
    refine ⟨.mk (row_ok hne (good_okN h) hp.un) (by omega) hb.ok fun i hi => (key i hi).1, ?_⟩
    rw [ovL, hp.ov0, ovIs_inn, Bool.true_and]
    exact List.all_eq_true.mpr fun i hi => (key i hi).2
termination_by d => d
def szB : Nat → Nat
  | 0 => 4
  | d + 1 => 12 * szB d
theorem szB_4 : ∀ d, 4 ≤ szB d
  | 0 => Nat.le_refl _
  | d + 1 => by have := szB_4 d; rw [szB]; omega
theorem szP_6 {p : Nat} (h : p < 6) : szP p ≤ 4 := by
  obtain rfl | rfl | rfl | rfl | rfl | rfl : p = 0 ∨ p = 1 ∨ p = 2 ∨ p = 3 ∨ p = 4 ∨ p = 5 := by omega
  all_goals decide
theorem good_sz : ∀ (d : Nat) (its : List (Bool × Ly)), Good d its → ∀ x ∈ its, x.2.sz ≤ szB d
  | 0, its, h => by
    obtain ⟨_, hp, hx⟩ := h
    intro x hm
    obtain ⟨nm, p, e, hp6⟩ := hx x hm
    rw [e, Ly.sz]
    exact szP_6 hp6
  | d + 1, its, h => by
    obtain ⟨_, hp, hx⟩ := h
    have h4 := szB_4 d
    have row : ∀ i, Good d i → szL i ≤ 4 * szB d := fun i hg => by
      have hs := good_sz d i hg
      obtain ⟨_, hp2, _⟩ := (good_iff d i).mp hg
      have := sum_le (g := szI) (gl := szL) (by rw [szL]) (fun x xs => by rw [szL]) (B := szB d) (its := i) fun x hx' => by
        have := hs x hx'
        obtain ⟨o, y⟩ := x
        rw [szI]
        split
        · exact Nat.zero_le _
        · exact this
      exact Nat.le_trans this (Nat.mul_le_mul_right _ hp2.len)
    intro x hm
    rcases hx x hm with ⟨nm, p, e, hp6⟩ | ⟨nm, in_, e, hg⟩ | ⟨nm, k, in_, e, hk1, hk3, hg⟩
    · have := szP_6 hp6
      rw [e, Ly.sz, szB]
      omega
    · have := row in_ hg
      rw [e, Ly.sz, szB]
      omega
    · have := row in_ hg
      have : szL in_ * k ≤ (4 * szB d) * 3 := Nat.mul_le_mul this hk3
      rw [e, Ly.sz, szB]
      omega
/-! ### rows with an odd thing among their items -/
structure Mid (l1 l2 : List (Bool × Ly)) : Prop where
  ok : ∀ x ∈ l1 ++ l2, okN x.2
  un : unlike ((l1 ++ l2).map fun x => x.2.name) = true
  nz : ∀ x ∈ l1 ++ l2, x.2.name ≠ "z"
  rows : ∀ i ∈ inn (l1 ++ l2), Rows i
  sz : ∀ x ∈ l1 ++ l2, x.2.sz ≤ 1000
  cn : cnL (l1 ++ l2) ≤ 100
  kk : ∀ x ∈ l1 ++ l2, x.2.okK
theorem mid_nil : Mid [] [] := ⟨(fun x h => nomatch h), rfl, (fun x h => nomatch h), (fun x h => nomatch h), (fun x h => nomatch h), by show cnL [] ≤ 100; rw [cnL]; exact Nat.zero_le _, fun x h => nomatch h⟩
theorem good_mid {its : List (Bool × Ly)} (h : Good 2 its) (n : Nat) : Mid (its.take n) (its.drop n) := by
  obtain ⟨hne, hp, hx⟩ := (good_iff 2 its).mp h
  have hb := good_bd 2 its h
  refine ⟨?_, ?_, ?_, ?_, ?_, ?_, ?_⟩ <;> rw [List.take_append_drop]
  · exact good_okN h
  · exact hp.un
  · intro x hm
    obtain ⟨j, hj, e⟩ := hp.name_at hm
    rw [e]; exact lett_z hj
  · cases (good_rows 2 its (Nat.le_refl _) h).1 with
    | mk h c o t => exact t
  · intro x hm
    exact Nat.le_trans (good_sz 2 its h x hm) (by decide)
  · exact Nat.le_trans hb.cn (by decide)
  · exact fun x hm => okL_mem hb.ok hm
theorem cnL_app : ∀ a b, cnL (a ++ b) = cnL a + cnL b
  | [], b => by rw [List.nil_append, cnL]; omega
  | x :: a, b => by rw [List.cons_append, cnL, cnL, cnL_app a b]; omega
theorem ovIs_app : ∀ a b, ovIs (a ++ b) = (ovIs a && ovIs b)
  | [], b => by rw [List.nil_append, ovIs, Bool.true_and]
  | x :: a, b => by rw [List.cons_append, ovIs, ovIs, ovIs_app a b, Bool.and_assoc]
theorem ovB_no {y : Ly} (hy : 1000 < y.sz) (l2 : List (Bool × Ly)) : ∀ (l1 : List (Bool × Ly)) (u : Nat), u ≤ 1000 → (∀ x ∈ l1, x.2.sz ≤ 1000) → ovB u (l1 ++ (true, y) :: l2) = false
  | [], u, hu, _ => by rw [List.nil_append, ovB, if_pos rfl, decide_eq_false (by omega), Bool.false_and]
  | (o, z) :: l1, u, hu, h => by
    have h1 := h _ List.mem_cons_self
    have h2 : ∀ x ∈ l1, x.2.sz ≤ 1000 := fun x hx => h x (List.mem_cons_of_mem _ hx)
    rw [List.cons_append, ovB]
    split
    · rw [ovB_no hy l2 l1 u hu h2, Bool.and_false]
    · exact ovB_no hy l2 l1 _ h1 h2
theorem unlike_mid {z : Str} {b : List Str} : ∀ {a : List Str}, unlike (a ++ b) = true → (∀ x ∈ a ++ b, x ≠ z) → unlike (a ++ z :: b) = true
  | [], h, hz => by
    rw [List.nil_append, unlike, Bool.and_eq_true]
    refine ⟨?_, h⟩
    cases e : b.any (· == z) with
    | false => rfl
    | true =>
      obtain ⟨x, hx, ex⟩ := List.any_eq_true.mp e
      exact absurd (beq_iff_eq.mp ex) (hz x hx)
  | x :: a, h, hz => by
    rw [List.cons_append, unlike, Bool.and_eq_true] at h
    rw [List.cons_append, unlike, Bool.and_eq_true]
    refine ⟨?_, unlike_mid (a := a) h.2 fun y hy => hz y (List.mem_cons_of_mem _ hy)⟩
    have h1 := h.1
    rw [List.any_append] at h1 ⊢
    rw [List.any_cons]
    have : (z == x) = false := by
      cases e : (z == x) with
      | false => rfl
      | true => exact absurd (beq_iff_eq.mp e).symm (hz x List.mem_cons_self)
    rw [this, Bool.false_or]
    exact h1
def Odd (o : Wx) : Prop := ArgI o ∧ NmI o ∧ szW o ≤ 100 ∧ (itemOk o = false ∨ (notBox o = true ∧ Bad (inB o) ∧ Args (inB o)) ∨ ∃ x : Bool × Ly, o = wI x ∧ okN x.2 ∧ x.2.name = "z" ∧ (∀ i ∈ inn [x], Rows i) ∧ cnI x ≤ 100 ∧ x.2.okK ∧ ((x.1 = true ∧ 1000 < x.2.sz) ∨ x.2.ov = false))
theorem odd_lay {l1 l2 : List (Bool × Ly)} (M : Mid l1 l2) {o : Wx} (h : Odd o) : Args (.tup (l1.map wI ++ o :: l2.map wI)) ∧ szW (.tup (l1.map wI ++ o :: l2.map wI)) ≤ 9000 ∧ LayR (.tup (l1.map wI ++ o :: l2.map wI)) false := by
  obtain ⟨hA, hN, hs, hc⟩ := h
  have hcn := M.cn
  rw [cnL_app] at hcn
  have n1 := len_cn l1
  have n2 := len_cn l2
  have hR : ArgR (.tup (l1.map wI ++ o :: l2.map wI)) := by
    refine ⟨?_, fun x hx => ?_⟩
    · rw [List.length_append, List.length_cons, List.length_map, List.length_map]
      omega
    · rcases List.mem_append.mp hx with hx | hx
      · obtain ⟨y, hy, rfl⟩ := List.mem_map.mp hx
        exact (wI_ok (M.ok y (List.mem_append_left _ hy))).2
      · rcases List.mem_cons.mp hx with rfl | hx
        · exact ⟨hA, hN⟩
        · obtain ⟨y, hy, rfl⟩ := List.mem_map.mp hx
          exact (wI_ok (M.ok y (List.mem_append_right _ hy))).2
  have hsz : szW (.tup (l1.map wI ++ o :: l2.map wI)) ≤ 9000 := by
    have h1 := szWs_wI l1
    have h2 := szWs_wI l2
    rw [szW, szWs_app, szWs]
    omega
  have hmo : o ∈ l1.map wI ++ o :: l2.map wI := List.mem_append_right _ List.mem_cons_self
  rcases hc with hc | ⟨hnb, hb, ha⟩ | ⟨x, rfl, hok, hnm, hrw, hcx, hkx, hv⟩
  · have hrow : rowOk (.tup (l1.map wI ++ o :: l2.map wI)) = false := by
      cases e : rowOk (.tup (l1.map wI ++ o :: l2.map wI)) with
      | false => rfl
      | true =>
        have := rowOk_items e o hmo
        rw [this] at hc
        cases hc
    exact ⟨.mk hR fun z => (by rw [hrow] at z; cases z), hsz, .inl ⟨rfl, .row hrow⟩⟩
  · refine ⟨.mk hR fun _ x hx => ?_, hsz, .inl ⟨rfl, .inn (x := inB o) (List.mem_map.mpr ⟨o, List.mem_filter.mpr ⟨hmo, hnb⟩, rfl⟩) hb⟩⟩
    obtain ⟨e, he, rfl⟩ := List.mem_map.mp hx
    obtain ⟨he, hne⟩ := List.mem_filter.mp he
    have key : ∀ y ∈ l1 ++ l2, e = wI y → Args (inB e) := fun y hy ee => by
      subst ee
      rw [notBox_wI] at hne
      obtain ⟨i, hi⟩ := Option.isSome_iff_exists.mp hne
      rw [inB_wI hi]
      exact (M.rows i (List.mem_filterMap.mpr ⟨y, hy, hi⟩)).args
    rcases List.mem_append.mp he with he | he
    · obtain ⟨y, hy, ee⟩ := List.mem_map.mp he
      exact key y (List.mem_append_left _ hy) ee.symm
    · rcases List.mem_cons.mp he with rfl | he
      · exact ha
      · obtain ⟨y, hy, ee⟩ := List.mem_map.mp he
        exact key y (List.mem_append_right _ hy) ee.symm
  · have ed : Wx.tup (l1.map wI ++ wI x :: l2.map wI) = wR (l1 ++ x :: l2) := by rw [wR, List.map_append, List.map_cons]
    have hall : ∀ {p : Bool × Ly → Prop}, (∀ y ∈ l1 ++ l2, p y) → p x → ∀ y ∈ l1 ++ x :: l2, p y := fun h1 h2 y hy => by
      rcases List.mem_append.mp hy with hy | hy
      · exact h1 y (List.mem_append_left _ hy)
      · rcases List.mem_cons.mp hy with rfl | hy
        · exact h2
        · exact h1 y (List.mem_append_right _ hy)
    have hrows : Rows (l1 ++ x :: l2) := by
      refine .mk (row_ok (by simp) (hall M.ok hok) ?_) ?_ (okL_of (hall M.kk hkx)) fun i hi => ?_
      · rw [List.map_append, List.map_cons]
        have := M.un
        rw [List.map_append] at this
        refine unlike_mid this fun s hs => ?_
        rw [← List.map_append] at hs
        obtain ⟨y, hy, rfl⟩ := List.mem_map.mp hs
        rw [hnm]
        exact M.nz y hy
      · rw [cnL_app, cnL]
        omega
      · obtain ⟨y, hy, e⟩ := inn_mem hi
        refine hall (p := fun y => innY y.2 = some i → Rows i) (fun y hy e => M.rows i (List.mem_filterMap.mpr ⟨y, hy, e⟩)) (fun e => hrw i (List.mem_filterMap.mpr ⟨x, List.mem_cons_self, e⟩)) y hy e
    rw [ed]
    rw [ed] at hsz
    refine ⟨hrows.args, hsz, .inr ⟨_, rfl, hrows, ?_⟩⟩
    obtain ⟨ov, y⟩ := x
    rw [ovL]
    rcases hv with ⟨h1, h2⟩ | h1
    · obtain rfl : ov = true := h1
      rw [ovB_no h2 l2 l1 0 (Nat.zero_le _) fun x hx => M.sz x (List.mem_append_left _ hx), Bool.false_and]
    · rw [ovIs_app, ovIs, ovI, show y.ov = false from h1, Bool.false_and, Bool.and_false, Bool.and_false]
/-- the items, and the first of them again -/
theorem twice_lay {its : List (Bool × Ly)} (h : Good 2 its) : Args (.tup (its.map wI ++ (its.map wI).take 1)) ∧ szW (.tup (its.map wI ++ (its.map wI).take 1)) ≤ 9000 ∧ LayR (.tup (its.map wI ++ (its.map wI).take 1)) false := by
  obtain ⟨hne, hp, hx⟩ := (good_iff 2 its).mp h
  have hb := good_bd 2 its h
  have hcn : cnL its ≤ 84 := hb.cn
  have hl := hp.len
  have hok := good_okN h
  have hrow : rowOk (.tup (its.map wI ++ (its.map wI).take 1)) = false := by
    cases its with
    | nil => exact absurd rfl hne
    | cons x xs =>
      show (((wI x :: xs.map wI) ++ [wI x]).all itemOk && unlike (((wI x :: xs.map wI) ++ [wI x]).map nmB)) = false
      rw [List.cons_append, List.map_cons, unlike, List.map_append, List.any_append]
      simp
  have hsz := szWs_wI its
  refine ⟨.mk ⟨?_, fun x hx => ?_⟩ fun z => (by rw [hrow] at z; cases z), ?_, .inl ⟨rfl, .row hrow⟩⟩
  · rw [List.length_append, List.length_take, List.length_map]
    omega
  · have : x ∈ its.map wI := by
      rcases List.mem_append.mp hx with hx | hx
      · exact hx
      · exact List.mem_of_mem_take hx
    obtain ⟨y, hy, rfl⟩ := List.mem_map.mp this
    exact (wI_ok (hok y hy)).2
  · cases its with
    | nil => exact absurd rfl hne
    | cons x xs =>
      have h2 : szW (wI x) ≤ szWs ((x :: xs).map wI) := szW_mem (by rw [List.map_cons]; exact List.mem_cons_self)
      show szW (.tup (((x :: xs).map wI) ++ [wI x])) ≤ 9000
      rw [szW, szWs_app, szWs, szWs]
      omega
theorem good_lay {its : List (Bool × Ly)} (h : Good 2 its) : Args (wR its) ∧ szW (wR its) ≤ 9000 ∧ LayR (wR its) true := by
  obtain ⟨h1, h2⟩ := good_rows 2 its (Nat.le_refl _) h
  have hb := good_bd 2 its h
  have hcn : cnL its ≤ 84 := hb.cn
  have := szW_wR its
  exact ⟨h1.args, by omega, .inr ⟨its, rfl, h1, h2.symm⟩⟩
theorem flat_lay {d : Wx} (h : rowOk d = false) (ha : ArgR d) (hs : szW d ≤ 9000) : Args d ∧ szW d ≤ 9000 ∧ LayR d false := ⟨.mk ha fun z => (by rw [h] at z; cases z), hs, .inl ⟨rfl, .row h⟩⟩
end Lw

set_option Elab.async false
set_option linter.all false
set_option maxRecDepth 100000
namespace Lw
open PySem PySem.Spec PyProof.Rows L2 K02 K04
open Builtin Builtin.Str StrLaws
/-! ### the odd things -/
def shW : Wx → Bool
  | .str z => decide (z.cps.toList.length ≤ 500)
  | _ => false
def nuW : Wx → Bool
  | .int _ => true
  | .bl _ => true
  | _ => false
def argBb : Wx → Bool
  | .tup (.str w0 :: _ :: c :: _) => (!(eqS w0 "box") || shW c) && (!(eqS w0 "table") || nuW c)
  | _ => true
def argIb : Wx → Bool
  | .tup (.str w0 :: r) => if eqS w0 "over" = true then only r argBb true else argBb (.tup (.str w0 :: r))
  | _ => true
def nmLb : Wx → Bool
  | .tup (.str _ :: .str z :: _) => decide (z.length ≤ 1000)
  | _ => true
def nmIb : Wx → Bool
  | .tup (.str w0 :: r) => if eqS w0 "over" = true then only r nmLb true else nmLb (.tup (.str w0 :: r))
  | _ => true
theorem argB_of {d : Wx} (h : argBb d = true) : ArgB d := by
  cases d with
  | tup ds =>
    rcases ds with _ | ⟨d0, _ | ⟨n, _ | ⟨c, r⟩⟩⟩
    · trivial
    · cases d0 <;> trivial
    · cases d0 <;> trivial
    · cases d0 with
      | str w0 =>
        have h : ((!(eqS w0 "box") || shW c) && (!(eqS w0 "table") || nuW c)) = true := h
        rw [Bool.and_eq_true] at h
        refine ⟨fun hb => ?_, fun ht => ?_⟩
        · have h1 := h.1
          rw [hb] at h1
          cases c with
          | str z => exact ⟨z, rfl, of_decide_eq_true (p := z.cps.toList.length ≤ 500) h1⟩
          | _ => cases h1
        · have h1 := h.2
          rw [ht] at h1
          cases c with
          | int i => exact .inl ⟨i, rfl⟩
          | bl b => exact .inr ⟨b, rfl⟩
          | _ => cases h1
      | _ => trivial
  | _ => trivial
theorem only_of {r : List Wx} {g : Wx → Bool} {G : Wx → Prop} (hg : ∀ x, g x = true → G x) (h : only r g true = true) : onlyP r G := by
  rcases r with _ | ⟨x, _ | ⟨y, r⟩⟩
  · trivial
  · exact hg x h
  · trivial
theorem argI_of {d : Wx} (h : argIb d = true) : ArgI d := by
  cases d with
  | tup ds =>
    rcases ds with _ | ⟨d0, r⟩
    · trivial
    · cases d0 with
      | str w0 =>
        have h : (if eqS w0 "over" = true then only r argBb true else argBb (.tup (.str w0 :: r))) = true := h
        show if eqS w0 "over" = true then onlyP r ArgB else ArgB (.tup (.str w0 :: r))
        split
        · rename_i e
          rw [if_pos e] at h
          exact only_of (fun x => argB_of) h
        · rename_i e
          rw [if_neg e] at h
          exact argB_of h
      | _ => trivial
  | _ => trivial
theorem nmL_of {d : Wx} (h : nmLb d = true) : NmLen d := by
  cases d with
  | tup ds =>
    rcases ds with _ | ⟨d0, _ | ⟨n, r⟩⟩
    · trivial
    · cases d0 <;> trivial
    · cases d0 with
      | str w0 =>
        cases n with
        | str z => exact of_decide_eq_true (p := z.length ≤ 1000) h
        | _ => trivial
      | _ => trivial
  | _ => trivial
theorem nmI_of {d : Wx} (h : nmIb d = true) : NmI d := by
  cases d with
  | tup ds =>
    rcases ds with _ | ⟨d0, r⟩
    · trivial
    · cases d0 with
      | str w0 =>
        have h : (if eqS w0 "over" = true then only r nmLb true else nmLb (.tup (.str w0 :: r))) = true := h
        show if eqS w0 "over" = true then onlyP r NmLen else NmLen (.tup (.str w0 :: r))
        split
        · rename_i e
          rw [if_pos e] at h
          exact only_of (fun x => nmL_of) h
        · rename_i e
          rw [if_neg e] at h
          exact nmL_of h
      | _ => trivial
  | _ => trivial
/-- what is no item, as can be told at once -/
def oddB (o : Wx) : Bool := argIb o && nmIb o && decide (szW o ≤ 100)
theorem odd_no {o : Wx} (h : oddB o = true) (hi : itemOk o = false) : Odd o := by
  unfold oddB at h
  rw [Bool.and_eq_true, Bool.and_eq_true] at h
  exact ⟨argI_of h.1.1, nmI_of h.1.2, of_decide_eq_true h.2, .inl hi⟩
theorem odd_in {o : Wx} (h : oddB o = true) (hn : notBox o = true) (hr : rowOk (inB o) = false) (ha : ArgR (inB o)) : Odd o := by
  unfold oddB at h
  rw [Bool.and_eq_true, Bool.and_eq_true] at h
  exact ⟨argI_of h.1.1, nmI_of h.1.2, of_decide_eq_true h.2, .inr (.inl ⟨hn, .row hr, .mk ha fun z => (by rw [hr] at z; cases z)⟩)⟩
def inner : Wx := .tup [.tup [.str "box", .str "a", .str "X"]]
def odd1 : List Wx := [.non, .int 3, .str "a", .tup [], .tup [.str "box"], .tup [.str "box", .str "A", .str "X"], .tup [.str "box", .str "z", .str "Q"], .tup [.str "box", .str "", .str "X"], .tup [.str "box", .str "z"]]
def odd2 : List Wx := [.tup [.str "group", .str "z", .tup []], .tup [.str "group", .str "z", .str "X"], .tup [.str "box", .str "z", .str "X", .str "X"], .lst]
def odd3 : List Wx := [.tup [.str "table", .str "z", .int 0, inner], .tup [.str "table", .str "z", .int 31, inner], .tup [.str "table", .str "z", .bl true, inner]]
def odd4 : List Wx := [.tup [.str "table", .str "z", .int 2, .tup []], .tup [.str "box", .str "abcdefghijklm", .str "X"]]
def odd5 : List Wx := [.tup [.str "over", .tup [.str "over", .tup [.str "box", .str "z", .str "X"]]], .tup [.str "over", .non], .tup [.str "over"]]
def odd6 : Wx := .tup [.str "over", .tup [.str "table", .str "z", .int 30, .tup [.tup [.str "box", .str "a", .str "X(60)"]]]]
def odd7 : List Wx := [.tup [.str "group", .str "z", .tup [.tup [.str "box", .str "a", .str "X"], .tup [.str "box", .str "a", .str "9"]]], .tup [.str "heap", .str "z", .str "X"]]
def odd8 : Wx := .tup [.str "group", .str "z", .tup [.tup [.str "over", .tup [.str "box", .str "a", .str "X"]]]]
def odds : List Wx := ((((((odd1 ++ odd2) ++ odd3) ++ odd4) ++ odd5) ++ [odd6]) ++ odd7) ++ [odd8]
theorem odd1_ok : ∀ o ∈ odd1, Odd o := by
  intro o ho
  unfold odd1 at ho
  simp only [List.mem_cons, List.not_mem_nil, or_false] at ho
  rcases ho with rfl | rfl | rfl | rfl | rfl | rfl | rfl | rfl | rfl
  all_goals exact odd_no (by decide +kernel) (by decide +kernel)
theorem odd2_ok : ∀ o ∈ odd2, Odd o := by
  intro o ho
  unfold odd2 at ho
  simp only [List.mem_cons, List.not_mem_nil, or_false] at ho
  rcases ho with rfl | rfl | rfl | rfl
  · exact odd_in (by decide +kernel) (by decide +kernel) (by decide +kernel) ⟨by decide, fun x hx => nomatch hx⟩
  · exact odd_in (by decide +kernel) (by decide +kernel) (by decide +kernel) trivial
  · exact odd_no (by decide +kernel) (by decide +kernel)
  · exact odd_no (by decide +kernel) (by decide +kernel)
theorem odd3_ok : ∀ o ∈ odd3, Odd o := by
  intro o ho
  unfold odd3 at ho
  simp only [List.mem_cons, List.not_mem_nil, or_false] at ho
  rcases ho with rfl | rfl | rfl
  all_goals exact odd_no (by decide +kernel) (by decide +kernel)
theorem odd4_ok : ∀ o ∈ odd4, Odd o := by
  intro o ho
  unfold odd4 at ho
  simp only [List.mem_cons, List.not_mem_nil, or_false] at ho
  rcases ho with rfl | rfl
  · exact odd_in (by decide +kernel) (by decide +kernel) (by decide +kernel) ⟨by decide, fun x hx => nomatch hx⟩
  · exact odd_no (by decide +kernel) (by decide +kernel)
theorem odd5_ok : ∀ o ∈ odd5, Odd o := by
  intro o ho
  unfold odd5 at ho
  simp only [List.mem_cons, List.not_mem_nil, or_false] at ho
  rcases ho with rfl | rfl | rfl
  all_goals exact odd_no (by decide +kernel) (by decide +kernel)
theorem odd7_ok : ∀ o ∈ odd7, Odd o := by
  intro o ho
  unfold odd7 at ho
  simp only [List.mem_cons, List.not_mem_nil, or_false] at ho
  rcases ho with rfl | rfl
  · refine odd_in (by decide +kernel) (by decide +kernel) (by decide +kernel) ⟨by decide, fun x hx => ?_⟩
    have hx : x ∈ [Wx.tup [.str "box", .str "a", .str "X"], .tup [.str "box", .str "a", .str "9"]] := hx
    simp only [List.mem_cons, List.not_mem_nil, or_false] at hx
    rcases hx with rfl | rfl
    all_goals exact ⟨argI_of (by decide +kernel), nmI_of (by decide +kernel)⟩
  · exact odd_no (by decide +kernel) (by decide +kernel)
theorem nm_a : nmS "a" = true := by decide +kernel
theorem nm_b : nmS "b" = true := by decide +kernel
theorem nm_c : nmS "c" = true := by decide +kernel
theorem nm_d : nmS "d" = true := by decide +kernel
theorem nm_z : nmS "z" = true := by decide +kernel
theorem okN_box {nm : Str} {p : Nat} (h : nmS nm = true) : okN (.box nm p) := ⟨h, fun _ _ _ e => nomatch e⟩
theorem okN_grp {nm : Str} {i : List (Bool × Ly)} (h : nmS nm = true) : okN (.grp nm i) := ⟨h, fun _ _ _ e => nomatch e⟩
theorem okN_tab {nm : Str} {k : Nat} {i : List (Bool × Ly)} (h : nmS nm = true) (h1 : 1 ≤ k) (h2 : k ≤ 30) : okN (.tab nm k i) := ⟨h, fun _ _ _ e => by cases e; exact ⟨h1, h2⟩⟩
/-- a row of one box -/
theorem rows_box {nm : Str} {p : Nat} {o : Bool} (h : nmS nm = true) : Rows [(o, .box nm p)] := .mk (row_ok (by simp) (fun x hx => by rw [List.mem_singleton.mp hx]; exact okN_box h) rfl) (by simp only [cnL, cnI, Ly.cn]; omega) (by simp only [okL, okI, Ly.okK]; exact ⟨trivial, trivial⟩) (fun i hi => nomatch hi)
theorem box_w (o : Bool) (nm : Str) (p : Nat) : wR [(o, .box nm p)] = .tup [if o = true then .tup [.str "over", .tup [.str "box", .str nm, .str (picS p)]] else .tup [.str "box", .str nm, .str (picS p)]] := by
  rw [wR, List.map_cons, List.map_nil, wI_eq]; rfl
theorem odd6_ok : Odd odd6 := by
  refine ⟨argI_of (by decide +kernel), nmI_of (by decide +kernel), by decide +kernel, .inr (.inr ⟨(true, .tab "z" 30 [(false, .box "a" 6)]), ?_, okN_tab nm_z (by decide) (by decide), rfl, fun i hi => ?_, ?_, ?_, .inl ⟨rfl, ?_⟩⟩)⟩
  · rw [wI_eq]
    show odd6 = .tup [.str "over", .tup [.str "table", .str "z", .int ((30 : Nat) : Int), wR [(false, .box "a" 6)]]]
    rw [box_w]
    rfl
  · have hi : i ∈ [[(false, Ly.box "a" 6)]] := hi
    rw [List.mem_singleton.mp hi]
    exact rows_box nm_a
  · simp only [cnI, Ly.cn, cnL]; omega
  · simp only [Ly.okK, okL, okI]; exact ⟨by omega, trivial, trivial⟩
  · show 1000 < Ly.sz _
    simp only [Ly.sz, szL, szI, szP]; decide
theorem odd8_ok : Odd odd8 := by
  refine ⟨argI_of (by decide +kernel), nmI_of (by decide +kernel), by decide +kernel, .inr (.inr ⟨(false, .grp "z" [(true, .box "a" 5)]), ?_, okN_grp nm_z, rfl, fun i hi => ?_, ?_, ?_, .inr ?_⟩)⟩
  · rw [wI_eq]
    show odd8 = .tup [.str "group", .str "z", wR [(true, .box "a" 5)]]
    rw [box_w]
    rfl
  · have hi : i ∈ [[(true, Ly.box "a" 5)]] := hi
    rw [List.mem_singleton.mp hi]
    exact rows_box nm_a
  · simp only [cnI, Ly.cn, cnL]; omega
  · simp only [Ly.okK, okL, okI]; exact ⟨trivial, trivial⟩
  · show Ly.ov _ = false
    simp only [Ly.ov, ovB, Ly.sz, szP]; decide
theorem odds_ok : ∀ o ∈ odds, Odd o := by
  intro o ho
  unfold odds at ho
  simp only [List.mem_append, List.mem_singleton] at ho
  rcases ho with ((((((h | h) | h) | h) | h) | rfl) | h) | rfl
  · exact odd1_ok o h
  · exact odd2_ok o h
  · exact odd3_ok o h
  · exact odd4_ok o h
  · exact odd5_ok o h
  · exact odd6_ok
  · exact odd7_ok o h
  · exact odd8_ok
/-! ### the last ones -/
theorem over_lay : Args (.tup [.tup [.str "over", .tup [.str "box", .str "z", .str "X"]]]) ∧ szW (.tup [.tup [.str "over", .tup [.str "box", .str "z", .str "X"]]]) ≤ 9000 ∧ LayR (.tup [.tup [.str "over", .tup [.str "box", .str "z", .str "X"]]]) false := by
  have e : wR [(true, .box "z" 5)] = .tup [.tup [.str "over", .tup [.str "box", .str "z", .str "X"]]] := by rw [box_w]; rfl
  rw [← e]
  have h := rows_box (nm := "z") (p := 5) (o := true) nm_z
  refine ⟨h.args, ?_, .inr ⟨_, rfl, h, ?_⟩⟩
  · rw [e]; decide +kernel
  · simp only [ovL, ovB, Ly.sz, szP]; decide
def bigL : List (Bool × Ly) := [(false, .box "a" 9), (true, .tab "b" 3 [(false, .box "c" 7)]), (true, .box "d" 8)]
def bigW : Wx := .tup [.tup [.str "box", .str "a", .str "X(3)"], .tup [.str "over", .tup [.str "table", .str "b", .int 3, .tup [.tup [.str "box", .str "c", .str "9"]]]], .tup [.str "over", .tup [.str "box", .str "d", .str "XX"]]]
theorem big_w : wR bigL = bigW := by
  show Wx.tup [wI _, wI _, wI _] = _
  rw [wI_eq, wI_eq, wI_eq]
  show Wx.tup [_, .tup [.str "over", .tup [.str "table", .str "b", .int ((3 : Nat) : Int), wR [(false, .box "c" 7)]]], _] = _
  rw [box_w]
  rfl
theorem big_lay : Args bigW ∧ szW bigW ≤ 9000 ∧ LayR bigW true := by
  rw [← big_w]
  have h : Rows bigL := by
    refine .mk (row_ok (by unfold bigL; simp) (fun x hx => ?_) (by decide +kernel)) ?_ ?_ fun i hi => ?_
    · unfold bigL at hx
      simp only [List.mem_cons, List.not_mem_nil, or_false] at hx
      rcases hx with rfl | rfl | rfl
      · exact okN_box nm_a
      · exact okN_tab nm_b (by decide) (by decide)
      · exact okN_box nm_d
    · simp only [bigL, cnL, cnI, Ly.cn]; omega
    · simp only [bigL, okL, okI, Ly.okK]; exact ⟨trivial, ⟨by omega, trivial, trivial⟩, trivial, trivial⟩
    · have hi : i ∈ [[(false, Ly.box "c" 7)]] := hi
      rw [List.mem_singleton.mp hi]
      exact rows_box nm_c
  refine ⟨h.args, ?_, .inr ⟨_, rfl, h, ?_⟩⟩
  · rw [big_w]; decide +kernel
  · simp only [bigL, ovL, ovB, ovIs, ovI, Ly.ov, Ly.sz, szL, szI, szP]; decide
def tabL : List (Bool × Ly) := [(false, .tab "a" 30 [(false, .box "b" 10)])]
def tabW : Wx := .tup [.tup [.str "table", .str "a", .int 30, .tup [.tup [.str "box", .str "b", .str "S9V9"]]]]
theorem tab_w : wR tabL = tabW := by
  show Wx.tup [wI _] = _
  rw [wI_eq]
  show Wx.tup [.tup [.str "table", .str "a", .int ((30 : Nat) : Int), wR [(false, .box "b" 10)]]] = _
  rw [box_w]
  rfl
theorem tab_lay : Args tabW ∧ szW tabW ≤ 9000 ∧ LayR tabW true := by
  rw [← tab_w]
  have h : Rows tabL := by
    refine .mk (row_ok (by unfold tabL; simp) (fun x hx => ?_) rfl) ?_ ?_ fun i hi => ?_
    · unfold tabL at hx
      rw [List.mem_singleton.mp hx]
      exact okN_tab nm_a (by decide) (by decide)
    · simp only [tabL, cnL, cnI, Ly.cn]; omega
    · simp only [tabL, okL, okI, Ly.okK]; exact ⟨⟨by omega, trivial, trivial⟩, trivial⟩
    · have hi : i ∈ [[(false, Ly.box "b" 10)]] := hi
      rw [List.mem_singleton.mp hi]
      exact rows_box nm_b
  refine ⟨h.args, ?_, .inr ⟨_, rfl, h, ?_⟩⟩
  · rw [tab_w]; decide +kernel
  · simp only [tabL, ovL, ovB, ovIs, ovI, Ly.ov, Ly.sz, szL, szI, szP]; decide
theorem non_lay : Args .non ∧ szW .non ≤ 9000 ∧ LayR .non false := flat_lay rfl trivial (by decide +kernel)
theorem lst_lay : Args .lst ∧ szW .lst ≤ 9000 ∧ LayR .lst false := flat_lay rfl trivial (by decide +kernel)
theorem nil_lay : Args (.tup []) ∧ szW (.tup []) ≤ 9000 ∧ LayR (.tup []) false := flat_lay rfl ⟨by decide, fun x hx => nomatch hx⟩ (by decide +kernel)
end Lw

set_option Elab.async false
set_option linter.all false
set_option maxRecDepth 100000
namespace Lw
open PySem PySem.Spec PyProof.Rows L2 K02 K04
open Builtin Builtin.Str StrLaws
theorem par_cc {i j : Nat} {te1 te2 : TE} {D : Ends} {σ : L2.St} {H : Hp} (h : te1 σ H fun v H1 => te2 σ H1 fun w H2 => ∃ v' w', [v, w] = [v', w'] ∧ D.nx ((σ.set i (some v')).set j (some w')) H2) : tPar i j (tCons te1 (tCons te2 tNil)) D σ H := h
def six : List Dv := [.str "9(3)", .str "S99V9", .str "X(4)", .str "AA", .str "Z9.9", .str "X"]
theorem six_at {d : Nat} {dv : Dv} (h : six[d]? = some dv) : dv = .str (picS d) := by
  unfold six at h
  match d, h with
  | 0, h => exact (Option.some.inj h).symm
  | 1, h => exact (Option.some.inj h).symm
  | 2, h => exact (Option.some.inj h).symm
  | 3, h => exact (Option.some.inj h).symm
  | 4, h => exact (Option.some.inj h).symm
  | 5, h => exact (Option.some.inj h).symm
  | n + 6, h => simp at h
theorem depth_str' (x : Str) (n : Nat) : (Dv.str x).depth ≤ n := by unfold Dv.depth; omega
theorem depthL_le {n : Nat} : ∀ {ds : List Dv}, (∀ d ∈ ds, d.depth ≤ n) → Dv.depthL ds ≤ n
  | [], _ => by unfold Dv.depthL; omega
  | d :: ds, h => by
    have h1 := h d List.mem_cons_self
    have h2 := depthL_le (ds := ds) fun x hx => h x (List.mem_cons_of_mem _ hx)
    unfold Dv.depthL
    omega
theorem depth_tup {n : Nat} {ds : List Dv} (h : ∀ d ∈ ds, d.depth ≤ n) : (Dv.tup ds).depth ≤ n + 1 := by
  have := depthL_le h
  unfold Dv.depth
  omega
/-- is a tuple empty? -/
theorem ne_empty {a : Addr} {its : List (Bool × Ly)} {σ : L2.St} {H : Hp} {Q : Bool → Hp → Prop} (D : Deep H (.ref a) (.tup (dvL its))) (hd : (Dv.tup (dvL its)).depth ≤ 16) (k : ∀ H' b, Same H H' → (b = true ↔ its ≠ []) → Q b H') : tTup tNil σ H fun y H1 => rEqDp 16 true (.ref a) y H1 fun x H2 => ∃ k', x = .bl k' ∧ Q k' H2 := by
  refine ⟨Nat.zero_le _, fun l0 hl0 => ?_⟩
  have S := Same.new (o := .tup []) hl0
  refine ⟨_, .tup [], D.same S, .tup upd_same .nil, hd, _, rfl, k _ _ S ?_⟩
  cases its with
  | nil => simp [dvL, Dv.eqb, Dv.eqbL]
  | cons x xs => simp [dvL, Dv.eqb, Dv.eqbL]
mutual
theorem dvd_y : ∀ y : Ly, y.dv.depth ≤ 3 * y.dp + 1
  | .box nm p => by
    rw [Ly.dv, Ly.dp]
    exact depth_tup (n := 0) fun d hd => by
      simp only [List.mem_cons, List.not_mem_nil, or_false] at hd
      rcases hd with rfl | rfl | rfl <;> exact depth_str' _ _
  | .grp nm its => by
    have h := dvd_l its
    rw [Ly.dv, Ly.dp]
    have h2 := depth_tup h
    have := depth_tup (n := 3 * dpL its + 3) (ds := [.str "group", .str nm, .tup (dvL its)]) fun d hd => by
      simp only [List.mem_cons, List.not_mem_nil, or_false] at hd
      rcases hd with rfl | rfl | rfl
      · exact depth_str' _ _
      · exact depth_str' _ _
      · exact h2
    omega
  | .tab nm k its => by
    have h := dvd_l its
    rw [Ly.dv, Ly.dp]
    have h2 := depth_tup h
    have := depth_tup (n := 3 * dpL its + 3) (ds := [.str "table", .str nm, .int (k : Nat), .tup (dvL its)]) fun d hd => by
      simp only [List.mem_cons, List.not_mem_nil, or_false] at hd
      rcases hd with rfl | rfl | rfl | rfl
      · exact depth_str' _ _
      · exact depth_str' _ _
      · unfold Dv.depth; omega
      · exact h2
    omega
theorem dvd_l : ∀ its : List (Bool × Ly), ∀ d ∈ dvL its, d.depth ≤ 3 * dpL its + 2
  | [], d, hd => by rw [dvL] at hd; cases hd
  | x :: xs, d, hd => by
    have h1 := dvd_i x
    have h2 := dvd_l xs
    rw [dvL] at hd
    rw [dpL]
    rcases List.mem_cons.mp hd with rfl | hd
    · omega
    · have := h2 d hd
      omega
theorem dvd_i : ∀ x : Bool × Ly, (dvI x).depth ≤ 3 * dpI x + 2
  | (o, y) => by
    have h := dvd_y y
    rw [dvI, dpI]
    split
    · have := depth_tup (n := 3 * y.dp + 1) (ds := [.str "over", y.dv]) fun e he => by
        simp only [List.mem_cons, List.not_mem_nil, or_false] at he
        rcases he with rfl | rfl
        · exact depth_str' _ _
        · exact h
      omega
    · omega
end
theorem lett_at : ∀ i : Nat, i < 4 → atI ("abcdef" : Str).cps.toList (0 + (i : Int)) = some (97 + i) := by decide +kernel
theorem lastSz_nil : lastSz [] = 0 := by unfold lastSz; rw [if_pos rfl]
section
variable {P : Program} {w : World} {K : PySem.W.Frag} {mg : Str → Option Value} {base : Heap} {f : Addr} {fd : FuncData} {tk : Nat → Tok} {c kr : Nat → Addr}
def spALay (K : PySem.W.Frag) (e : Nat) : Sp := fun vs H Q _ => ∃ (a t r : Addr) (ns : List Int) (c : Int) (deep : Nat), vs = [.ref a, .ref t, .int (deep : Nat)] ∧ deep < e ∧ deep ≤ 2 ∧ Bag K H a t r ns c ∧ c + cb deep < 90000 ∧ ∀ (v : V) (H' : Hp) (its : List (Bool × Ly)) (c' : Int), Bag K H' a t r ns c' → c' ≤ c + cb deep → Apart t r H H' → Deep H' v (.tup (dvL its)) → Good deep its → Q v H'
theorem ok__law_a_layout0 (F : Fun K "_law_a_layout" "_law_a_layout" s__law_a_layout f fd) : FnOk P w K mg base (CXE P w) 4 f fd ["_law_script", "_law_town", "_law_deep"] (spALay K 0) := by
  refine okNx F sc__law_a_layout (fun vs H Q E h => ?_) (fun cdv A outer s H vs Q E hr h => ?_)
  · obtain ⟨a, t, r, ns, c, deep, rfl, _⟩ := h
    rfl
  · obtain ⟨a, t, r, ns, c, deep, rfl, hd, _⟩ := h
    exact absurd hd (Nat.not_lt_zero _)
/-- the loop's word -/
structure LaySt (K : PySem.W.Frag) (H0 H : Hp) (a t r : Addr) (ns : List Int) (c : Int) (fv : V) (its : List (Bool × Ly)) (deep : Nat) : Prop where
  B : Bag K H a t r ns c
  A : Apart t r H0 H
  D : Deep H fv (.tup (dvL its))
  P : PB its
  G : ∀ x ∈ its, GoodY deep x.2
theorem lay_box {H0 H : Hp} {a t r : Addr} {ns : List Int} {c : Int} {fv : V} {its : List (Bool × Ly)} {deep : Nat} {σ : L2.St} {E : XK} {Q : VK} {nm : Str} (L : LaySt K H0 H a t r ns c fv its deep) (h0 : σ[0]? = some (some (.ref a))) (h1 : σ[1]? = some (some (.ref t))) (h8 : σ[8]? = some (some (.str nm))) (hc : c < 99000) (k : ∀ (p : Nat) (iv : V) (H' : Hp), p < 6 → LaySt K H0 H' a t r ns (c + 1) fv its deep → Deep H' iv (Ly.box nm p).dv → Q iv H') :
    tTup (tCons (tC (.str "box")) (tCons (tVar 8) (tCons (tOp rIxLR (tLst (tCons (tC (.str "9(3)")) (tCons (tC (.str "S99V9")) (tCons (tC (.str "X(4)")) (tCons (tC (.str "AA")) (tCons (tC (.str "Z9.9")) (tCons (tC (.str "X")) tNil))))))) (tCall (spDraw K) [] E (tCons (tVar 0) (tCons (tVar 1) (tCons (tC (.int 6)) tNil))))) tNil))) σ H Q := by
  have hz : 1000 ≤ sizeLine := by decide
  refine ⟨_, h8, ?_⟩
  refine L.B.pickD (ds := six) h0 h1 (taD_str (taD_str (taD_str (taD_str (taD_str (taD_str taD_nil)))))) rfl (by decide) (by decide) (by omega) fun d x dv H1 hdv Dx B1 A1 => ⟨by show 3 ≤ sizeLine; omega, fun p hp => ?_⟩
  have hdv0 := hdv
  obtain rfl := six_at hdv
  obtain rfl := Dx.str'
  have S := Same.new (o := .tup [.str "box", .str nm, .str (picS d)]) hp
  have hd6 : d < 6 := (List.getElem?_eq_some_iff.mp hdv0).1
  refine k d _ _ hd6 ⟨B1.same S, (L.A.trans A1).trans (Apart.of S), (L.D.keep (L.B.tups A1)).same S, L.P, L.G⟩ ?_
  rw [Ly.dv]
  exact .tup upd_same (.cons .str (.cons .str (.cons .str .nil)))
theorem lay_depth {deep : Nat} {its : List (Bool × Ly)} (hd : deep ≤ 2) (h : ∀ x ∈ its, GoodY deep x.2) : (Dv.tup (dvL its)).depth ≤ 16 := by
  have h1 : dpL its ≤ 2 := dpL_of fun x hx => by
    obtain ⟨_, _, _, b4⟩ := goodY_bd deep hd (h x hx)
    omega
  have := depth_tup (dvd_l its)
  omega
set_option maxHeartbeats 4000000 in
theorem ok__law_a_layout (e : Nat) (F : Fun K "_law_a_layout" "_law_a_layout" s__law_a_layout f fd) (O : Own mg) (D__law_draw : Def P w K mg base 1 "_law_draw" ["_law_script", "_law_town", "_law_many"] (spDraw K)) (D__law_item_size : Def P w K mg base 4 "_law_item_size" ["_law_item"] (spISz 3)) (D__law_a_layout : Def P w K mg base (e + 4) "_law_a_layout" ["_law_script", "_law_town", "_law_deep"] (spALay K e)) : FnOk P w K mg base (CXE P w) (e + 5) f fd ["_law_script", "_law_town", "_law_deep"] (spALay K (e + 1)) := by
  refine okNx F sc__law_a_layout (fun vs H Q E h => ?_) (fun cdv A outer s H vs Q E hr h => ?_)
  · obtain ⟨a, t, r, ns, c, deep, rfl, _⟩ := h
    rfl
  · obtain ⟨a, t, r, ns, c, deep, rfl, hde, hd2, B0, hc, k⟩ := h
    have hz : 100000 ≤ sizeLine := by rw [sizeLine_eq]; decide
    have hcb : 20 ≤ cb deep := by
      cases deep with
      | zero => exact Int.le_refl _
      | succ d =>
        have : ∀ d, 20 ≤ cb d := by
          intro d
          induction d with
          | zero => exact Int.le_refl _
          | succ d ih => show 20 ≤ 4 * cb d + 20; omega
        exact this _
    refine ⟨_, (psx_cons (PSy.mk (ps_asg (pe_tup (pa_c (pe_tup pa_nil) (pa_c pe_int (pa_c pe_str pa_nil)))) (pg_tup rfl (pgs_cons (pg_name (i := 3) sc__law_a_layout.nd rfl (Or.inl rfl)) (pgs_cons (pg_name (i := 4) sc__law_a_layout.nd rfl (Or.inl rfl)) (pgs_cons (pg_name (i := 5) sc__law_a_layout.nd rfl (Or.inl rfl)) pgs_nil))))))
      (psx_cons (psy_for PassesOwn.never rfl (pi_range1 rfl O.range (pa_c (pe_op op_add pe_int (D__law_draw.pe hr (by omega) rfl passE0 (pa_c (pv 0) (pa_c (pv 1) (pa_c pe_int pa_nil))))) pa_nil)) (pg_name (i := 6) sc__law_a_layout.nd rfl (Or.inl rfl)) (psx_cons (PSy.mk (ps_par (i := 7) (j := 8) rfl sc__law_a_layout.nd rfl rfl (by decide) rfl rfl (pa_c (D__law_draw.pe hr (by omega) rfl passE0 (pa_c (pv 0) (pa_c (pv 1) (pa_c pe_int pa_nil)))) (pa_c (pe_ix ix_str (pv 5) (pv 6) (fun _ _ => rfl)) pa_nil)) rfl))
      (psx_cons (psy_if (PW.pt (pw_or (pt_cmpR op_eq (pv 2) pe_int (nomark _)) (pw_or1 (pt_cmpR op_lt (pv 7) pe_int (nomark _))))) (psx_one (psy_set (i := 9) sc__law_a_layout.nd rfl (Or.inl rfl) (pex_tup (pax_c (PEx.mk pe_str) (pax_c (PEx.mk (pv 8)) (pax_c (pex_pick (pax_str (pax_str (pax_str (pax_str (pax_str (pax_str pax_nil)))))) (PEx.mk (D__law_draw.pe hr (by omega) rfl passE0 (pa_c (pv 0) (pa_c (pv 1) (pa_c pe_int pa_nil))))) (fun _ _ => rfl)) pax_nil rfl) rfl) rfl)) rfl rfl)) (psx_one (psy_if (pt_cmpR op_lt (pv 7) pe_int (nomark _)) (psx_one (psy_set (i := 9) sc__law_a_layout.nd rfl (Or.inl rfl) (pex_tup (pax_c (PEx.mk pe_str) (pax_c (PEx.mk (pv 8)) (pax_c (PEx.mk (D__law_a_layout.pe hr (by omega) rfl passE0 (pa_c (pv 0) (pa_c (pv 1) (pa_c (pe_op op_sub (pv 2) pe_int) pa_nil))))) pax_nil rfl) rfl) rfl)) rfl rfl)) (psx_one (psy_set (i := 9) sc__law_a_layout.nd rfl (Or.inl rfl) (pex_tup (pax_c (PEx.mk pe_str) (pax_c (PEx.mk (pv 8)) (pax_c (pex_op op_add (PEx.mk pe_int) (PEx.mk (D__law_draw.pe hr (by omega) rfl passE0 (pa_c (pv 0) (pa_c (pv 1) (pa_c pe_int pa_nil)))))) (pax_c (PEx.mk (D__law_a_layout.pe hr (by omega) rfl passE0 (pa_c (pv 0) (pa_c (pv 1) (pa_c (pe_op op_sub (pv 2) pe_int) pa_nil))))) pax_nil rfl) rfl) rfl) rfl)) rfl rfl)))))
      (psx_cons (psy_set (i := 10) sc__law_a_layout.nd rfl (Or.inl rfl) (PEx.mk (D__law_item_size.pe hr (by omega) rfl passE0 (pa_c (pv 9) pa_nil))) rfl rfl)
      (psx_one (psy_if (PW.pt (pw_and (pt_cmpR (op_neDp (n := 16) (hd16_of hr)) (pv 3) (pe_tup pa_nil) (nomark _)) (pw_and (pt_cmpR op_eq (D__law_draw.pe hr (by omega) rfl passE0 (pa_c (pv 0) (pa_c (pv 1) (pa_c pe_int pa_nil)))) pe_int (nomark _)) (pw_and1 (pt_cmpR op_le (pv 10) (pv 4) (nomark _)))))) (psx_one (psy_set (i := 3) sc__law_a_layout.nd rfl (Or.inl rfl) (pex_op op_catR (PEx.mk (pv 3)) (pex_tup (pax_c (pex_tup (pax_c (PEx.mk pe_str) (pax_c (PEx.mk (pv 9)) pax_nil rfl) rfl)) pax_nil rfl))) rfl rfl)) (psx_one (PSy.mk (ps_par (i := 3) (j := 4) rfl sc__law_a_layout.nd rfl rfl (by decide) rfl rfl (pa_c (pe_op op_catR (pv 3) (pe_tup (pa_c (pv 9) pa_nil))) (pa_c (pv 10) pa_nil)) rfl)))))))) (fun _ => rfl))
      (psx_one (psy_ret (PEx.mk (pv 3)))))), ?_⟩
    refine ⟨by show 0 ≤ sizeLine; omega, fun p0 hp0 => ⟨by show 3 ≤ sizeLine; omega, fun p1 hp1 => ?_⟩⟩
    refine ⟨p1, _, rfl, .inl (.inl upd_same), rfl, _, _, rfl, _, _, rfl, _, _, rfl, rfl, ?_⟩
    have S0 := Same.new (o := .tup []) hp0
    have S01 := Same.new (o := .tup [.ref p0, .int 0, .str "abcdef"]) hp1
    have L0 : LaySt K H (upd (upd H p0 (.tup [])) p1 (.tup [.ref p0, .int 0, .str "abcdef"])) a t r ns c (.ref p0) [] deep := ⟨B0.same (S0.trans S01), Apart.of (S0.trans S01), (Deep.tup upd_same (by rw [dvL]; exact .nil)).same S01, ⟨Nat.zero_le _, fun j x h => by simp at h, fun x h => by simp at h, fun j y h => by simp at h⟩, fun x hx => nomatch hx⟩
    generalize upd (upd H p0 (.tup [])) p1 (.tup [.ref p0, .int 0, .str "abcdef"]) = H1 at L0
    clear S0 S01 hp0 hp1
    dsimp only [gName, tAsg, tSeq, tNext]
    refine L0.B.draw rfl rfl (fun R h => h) (by decide) (by decide) (by omega) fun n4 H2 hn4 B2 A2 => ?_
    have L2' : LaySt K H H2 a t r ns (c + 1) (.ref p0) [] deep := ⟨B2, L0.A.trans A2, L0.D.keep (L0.B.tups A2), L0.P, L0.G⟩
    clear L0 B2 A2
    refine ⟨_, _, rfl, rfl, _, rfl, by omega, by omega, ?_⟩
    have en : (1 + ((n4 : Nat) : Int)).toNat = n4 + 1 := by omega
    rw [en]
    refine for_fix (fixR (lo := 0) (n := n4 + 1)) (fun i σ H3 => ∃ (fv : V) (its : List (Bool × Ly)) (c3 : Int) (y6 y7 y8 y9 y10 : Option V), σ = [some (.ref a), some (.ref t), some (.int (deep : Nat)), some fv, some (.int (lastSz its : Nat)), some (.str "abcdef"), y6, y7, y8, y9, y10] ∧ LaySt K H H3 a t r ns c3 fv its deep ∧ its.length = i ∧ c3 ≤ c + 1 + i * ((cb deep - 1) / 4)) ⟨.ref p0, [], c + 1, none, none, none, none, none, by rw [lastSz_nil]; rfl, L2', rfl, by omega⟩ ?_ ?_ ?_
    · intro i σ H3 _ _
      trivial
    · rintro i v σ H30 H3 hi ⟨fv, its, c3, y6, y7, y8, y9, y10, rfl, L3, hli, hc3⟩ ⟨rfl, rfl⟩
      have hi4 : i < 4 := by omega
      have per : ∃ q : Int, (cb deep - 1) / 4 = q ∧ 4 ≤ q ∧ ∀ d, deep = d + 1 → q = cb d + 4 := by
        refine ⟨_, rfl, by omega, fun d hd => ?_⟩
        subst hd
        show (4 * cb d + 20 - 1) / 4 = cb d + 4
        omega
      obtain ⟨q, hq, hq4, hqd⟩ := per
      rw [hq] at hc3 ⊢
      have hiq : ((i : Nat) : Int) * q ≤ 3 * q := Int.mul_le_mul_of_nonneg_right (by omega) (by omega)
      have h4q : 4 * q ≤ cb deep - 1 := by omega
      dsimp only [gName, tAsg, tNext]
      refine par_cc (L3.B.draw rfl rfl (fun R h => h) (by decide) (by decide) (by omega) fun tn H4 htn B4 A4 => ?_)
      have L4 : LaySt K H H4 a t r ns (c3 + 1) fv its deep := ⟨B4, L3.A.trans A4, L3.D.keep (L3.B.tups A4), L3.P, L3.G⟩
      clear L3 B4 A4
      refine ⟨_, rfl, _, rfl, "abcdef", _, _, rfl, rfl, by decide +kernel, lett_at i hi4, ?_⟩
      refine ⟨_, _, rfl, ?_⟩
      have hlt : (⟨#[97 + i]⟩ : Str) = lett i := rfl
      rw [hlt]
      -- the item
      dsimp only
      refine seqJ (fun σ' H6 => ∃ (y : Ly) (iv : V) (c6 : Int), σ' = [some (.ref a), some (.ref t), some (.int (deep : Nat)), some fv, some (.int (lastSz its : Nat)), some (.str "abcdef"), some (.int (0 + (i : Int))), some (.int (tn : Nat)), some (.str (lett i)), some iv, y10] ∧ LaySt K H H6 a t r ns c6 fv its deep ∧ Deep H6 iv y.dv ∧ GoodY deep y ∧ y.name = lett i ∧ c6 ≤ c3 + q - 1) ?_ (fun rest => ?_)
      rotate_left
      · refine ⟨_, rfl, rfl, _, rfl, ?_⟩
        refine ifB (fun z => ?_) (fun z => ?_)
        · have gy : ∀ p, p < 6 → GoodY deep (.box (lett i) p) := fun p hp6 => by
            cases deep with
            | zero => exact ⟨_, _, rfl, hp6⟩
            | succ d => exact .inl ⟨_, _, rfl, hp6⟩
          refine iteT ?_
          exact lay_box L4 rfl rfl rfl (by omega) fun p iv H5 hp6 L5 D5 => rest _ _ ⟨.box (lett i) p, iv, _, rfl, L5, D5, gy p hp6, rfl, by omega⟩
        have hdz : deep ≠ 0 := fun e => by rw [e] at z; exact absurd z (by decide)
        obtain ⟨d, rfl⟩ : ∃ d, deep = d + 1 := ⟨deep - 1, by omega⟩
        have hqd' := hqd d rfl
        refine ⟨_, rfl, _, _, rfl, rfl, _, rfl, ?_⟩
        refine ifB (fun z3 => ?_) (fun z3 => ?_)
        · exact lay_box L4 rfl rfl rfl (by omega) fun p iv H5 hp6 L5 D5 => rest _ _ ⟨.box (lett i) p, iv, _, rfl, L5, D5, .inl ⟨_, _, rfl, hp6⟩, rfl, by omega⟩
        have ed : (((d + 1 : Nat) : Nat) : Int) - 1 = ((d : Nat) : Int) := by omega
        refine ⟨_, rfl, _, _, rfl, rfl, _, rfl, ?_⟩
        refine ifB (fun z5 => ?_) (fun z5 => ?_)
        · refine ⟨_, rfl, _, rfl, _, rfl, _, rfl, _, _, rfl, rfl, a, t, r, ns, c3 + 1, d, by dsimp only; rw [ed]; rfl, by omega, by omega, L4.B, by omega, fun v5 H5 in_ c5 B5 hc5 A5 D5 G5 => ⟨by show 3 ≤ sizeLine; omega, fun p6 hp6 => ?_⟩⟩
          have S6 := Same.new (o := .tup [.str "group", .str (lett i), v5]) hp6
          have L5 : LaySt K H H5 a t r ns c5 fv its (d + 1) := ⟨B5, L4.A.trans A5, L4.D.keep (L4.B.tups A5), L4.P, L4.G⟩
          refine rest _ _ ⟨.grp (lett i) in_, .ref p6, c5, rfl, ⟨L5.B.same S6, L5.A.trans (Apart.of S6), L5.D.same S6, L5.P, L5.G⟩, ?_, .inr (.inl ⟨_, _, rfl, G5⟩), rfl, by omega⟩
          rw [Ly.dv]
          exact .tup upd_same (.cons .str (.cons .str (.cons (D5.same S6) .nil)))
        · refine ⟨_, rfl, ?_⟩
          refine L4.B.draw rfl rfl (fun R h => h) (by decide) (by decide) (by omega) fun kd H5 hkd B5 A5 => ?_
          have L5 : LaySt K H H5 a t r ns (c3 + 1 + 1) fv its (d + 1) := ⟨B5, L4.A.trans A5, L4.D.keep (L4.B.tups A5), L4.P, L4.G⟩
          refine ⟨_, _, rfl, rfl, ?_⟩
          have ek : (1 : Int) + ((kd : Nat) : Int) = ((kd + 1 : Nat) : Int) := by omega
          dsimp only
          rw [ek]
          refine ⟨_, rfl, _, rfl, _, rfl, _, _, rfl, rfl, a, t, r, ns, c3 + 1 + 1, d, by dsimp only; rw [ed]; rfl, by omega, by omega, L5.B, by omega, fun v6 H6 in_ c6 B6 hc6 A6 D6 G6 => ⟨by show 4 ≤ sizeLine; omega, fun p7 hp7 => ?_⟩⟩
          have S7 := Same.new (o := .tup [.str "table", .str (lett i), .int (kd + 1 : Nat), v6]) hp7
          have L6 : LaySt K H H6 a t r ns c6 fv its (d + 1) := ⟨B6, L5.A.trans A6, L5.D.keep (L5.B.tups A6), L5.P, L5.G⟩
          refine rest _ _ ⟨.tab (lett i) (kd + 1) in_, .ref p7, c6, rfl, ⟨L6.B.same S7, L6.A.trans (Apart.of S7), L6.D.same S7, L6.P, L6.G⟩, ?_, .inr (.inr ⟨_, _, _, rfl, by omega, by omega, G6⟩), rfl, by omega⟩
          rw [Ly.dv]
          exact .tup upd_same (.cons .str (.cons .str (.cons .int (.cons (D6.same S7) .nil))))
      rintro σ6 H6 ⟨y, iv, c6, rfl, L6, Dy, Gy, hyn, hc6⟩
      obtain ⟨b1, b2, b3, b4⟩ := goodY_bd deep hd2 Gy
      refine ⟨_, rfl, iv, (false, y), rfl, by rw [dvI, if_neg (by decide)]; exact Dy, by show y.dp < 3; omega, by show y.cn ≤ 10000; omega, b3, goodY_s6 deep Gy, fun H7 S7 => ?_⟩
      have esz : szI (false, y) = y.sz := by rw [szI, if_neg (by decide)]
      rw [esz]
      have L7 : LaySt K H H7 a t r ns c6 fv its deep := ⟨L6.B.same S7, L6.A.trans (Apart.of S7), L6.D.same S7, L6.P, L6.G⟩
      have Dy7 := Dy.same S7
      clear L6 Dy
      obtain ⟨fa, fx, rfl, gf, tf⟩ := Deep.tup' L7.D
      have lfx := tf.length
      rw [dvL_map, List.length_map] at lfx
      have plain : ∀ H8 c8, LaySt K H H8 a t r ns c8 (.ref fa) its deep → Deep H8 iv y.dv → c8 ≤ c6 + 1 → ∀ De : Ends, (∀ σ' H', (∃ (fv : V) (its : List (Bool × Ly)) (c3 : Int) (y6 y7 y8 y9 y10 : Option V), σ' = [some (.ref a), some (.ref t), some (.int (deep : Nat)), some fv, some (.int (lastSz its : Nat)), some (.str "abcdef"), y6, y7, y8, y9, y10] ∧ LaySt K H H' a t r ns c3 fv its deep ∧ its.length = i + 1 ∧ c3 ≤ c + 1 + ((i + 1 : Nat) : Int) * q) → De.nx σ' H') → tPar 3 4 (tCons (tOp rCatR (tVar 3) (tTup (tCons (tVar 9) tNil))) (tCons (tVar 10) tNil)) De [some (.ref a), some (.ref t), some (.int (deep : Nat)), some (.ref fa), some (.int (lastSz its : Nat)), some (.str "abcdef"), some (.int (0 + (i : Int))), some (.int (tn : Nat)), some (.str (lett i)), some iv, some (.int (y.sz : Nat))] H8 := by
        intro H8 c8 L8 D8 hc8 De hnx
        obtain ⟨fa', fx', e', gf8, tf8⟩ := Deep.tup' L8.D
        cases e'
        have l8 := tf8.length
        rw [dvL_map, List.length_map] at l8
        refine par_cc ⟨_, rfl, _, rfl, by show 1 ≤ sizeLine; omega, fun p9 hp9 => ?_⟩
        have S9 := Same.new (o := .tup [iv]) hp9
        refine cat_D (S9 _ _ gf8) upd_same (tf8.same S9) (.cons (D8.same S9) .nil) (by show fx'.length + 1 ≤ sizeLine; omega) fun u10 H10 S10 D10 => ?_
        refine ⟨_, rfl, _, _, rfl, ?_⟩
        have S810 := S9.trans S10
        refine hnx _ _ ⟨u10, its ++ [(false, y)], c8, _, _, _, _, _, by rw [lastSz_new]; rfl, ⟨L8.B.same S810, L8.A.trans (Apart.of S810), ?_, L8.P.add (by omega) (by rw [hyn, hli]), ?_⟩, by rw [List.length_append, List.length_singleton, hli], ?_⟩
        · rw [dvL_map, List.map_append, ← dvL_map]
          have : [(false, y)].map dvI = [y.dv] := by rw [List.map_cons, List.map_nil, dvI, if_neg (by decide)]
          rw [this]
          exact D10
        · intro x hx
          rcases List.mem_append.mp hx with hx | hx
          · exact L8.G x hx
          · rw [List.mem_singleton.mp hx]; exact Gy
        · have : ((i + 1 : Nat) : Int) * q = ((i : Nat) : Int) * q + q := by push_cast; rw [Int.add_mul, Int.one_mul]
          omega
      dsimp only [gName, tAsg, tSeq, tNext]
      refine ⟨_, rfl, ?_⟩
      refine ne_empty L7.D (lay_depth hd2 L7.G) fun H8 b8 S8 hb8 => ?_
      have L8 : LaySt K H H8 a t r ns c6 (.ref fa) its deep := ⟨L7.B.same S8, L7.A.trans (Apart.of S8), L7.D.same S8, L7.P, L7.G⟩
      refine ifB (fun z => ?_) (fun z => ?_)
      rotate_left
      · exact plain H8 c6 L8 (Dy7.same S8) (by omega) _ (fun _ _ h => h)
      have hne := hb8.mp z
      refine L8.B.draw rfl rfl (fun R h => h) (by decide) (by decide) (by omega) fun d9 H9 hd9 B9 A9 => ?_
      have L9 : LaySt K H H9 a t r ns (c6 + 1) (.ref fa) its deep := ⟨B9, L8.A.trans A9, L8.D.keep (L8.B.tups A9), L8.P, L8.G⟩
      have Dy9 := (Dy7.same S8).keep (L8.B.tups A9)
      refine ⟨rfl, _, rfl, ?_⟩
      refine ifB (fun z2 => ?_) (fun z2 => ?_)
      rotate_left
      · exact plain H9 (c6 + 1) L9 Dy9 (by omega) _ (fun _ _ h => h)
      refine ⟨_, rfl, _, rfl, _, _, rfl, rfl, _, rfl, ?_⟩
      refine ifB (fun z3 => ?_) (fun z3 => ?_)
      rotate_left
      · exact plain H9 (c6 + 1) L9 Dy9 (by omega) _ (fun _ _ h => h)
      have z3 := of_decide_eq_true z3
      obtain ⟨fa', fx', e', gf9, tf9⟩ := Deep.tup' L9.D
      cases e'
      have l9 := tf9.length
      rw [dvL_map, List.length_map] at l9
      refine ⟨_, rfl, _, rfl, by show 2 ≤ sizeLine; omega, fun p10 hp10 => ⟨by show 1 ≤ sizeLine; omega, fun p11 hp11 => ?_⟩⟩
      have S10 := Same.new (o := .tup [.str "over", iv]) hp10
      have S11 := Same.new (o := .tup [.ref p10]) hp11
      have D11 : Deep (upd (upd H9 p10 (.tup [.str "over", iv])) p11 (.tup [.ref p10])) (.ref p10) (.tup [.str "over", y.dv]) := (Deep.tup upd_same (.cons .str (.cons (Dy9.same S10) .nil))).same S11
      refine cat_D ((S10.trans S11) _ _ gf9) upd_same (tf9.same (S10.trans S11)) (.cons D11 .nil) (by show fx'.length + 1 ≤ sizeLine; omega) fun u12 H12 S12 D12 => ?_
      have S912 := (S10.trans S11).trans S12
      refine ⟨u12, its ++ [(true, y)], c6 + 1, _, _, _, _, _, by rw [lastSz_over hne]; rfl, ⟨L9.B.same S912, L9.A.trans (Apart.of S912), ?_, L9.P.addO hne (by omega) (by rw [hyn, hli]) (by omega), ?_⟩, by rw [List.length_append, List.length_singleton, hli], ?_⟩
      · rw [dvL_map, List.map_append, ← dvL_map]
        have : [(true, y)].map dvI = [.tup [.str "over", y.dv]] := by rw [List.map_cons, List.map_nil, dvI, if_pos rfl]
        rw [this]
        exact D12
      · intro x hx
        rcases List.mem_append.mp hx with hx | hx
        · exact L9.G x hx
        · rw [List.mem_singleton.mp hx]; exact Gy
      · have : ((i + 1 : Nat) : Int) * q = ((i : Nat) : Int) * q + q := by push_cast; rw [Int.add_mul, Int.one_mul]
        omega
    · rintro σ H3 ⟨fv, its, c3, y6, y7, y8, y9, y10, rfl, L3, hli, hc3⟩
      refine ⟨_, rfl, k _ _ its c3 L3.B ?_ L3.A L3.D ((good_iff _ _).mpr ⟨fun z => by rw [z] at hli; simp at hli, L3.P, L3.G⟩)⟩
      have : n4 = 0 ∨ n4 = 1 ∨ n4 = 2 ∨ n4 = 3 := by omega
      rcases this with rfl | rfl | rfl | rfl <;> (push_cast at hc3; omega)
end
end Lw

set_option Elab.async false
set_option linter.all false
set_option maxRecDepth 100000
/-! calls and tests behind a veil -/
namespace L2
open PySem PySem.Spec PyProof.Rows
structure PTx (X : Cx) (e : Expr) (t : TT) : Prop where
  pt : PT X e t
structure PWx (X : Cx) (e : Expr) (t : TT) : Prop where
  pw : PW X e t
section
variable {X : Cx} {E : XK} {o e f a b c : Expr} {es rest : List Expr} {ks : List Keyword} {pos p apos cpos : Pos} {te ta tb to : TE} {t1 t2 : TT} {t : TA} {k k' : Nat} {x : Str} {ps : List Str} {sp : Sp} {T id : String} {name : Str} {r : V → List V → Hp → VK → Prop}
theorem ptx_call (h : PEx X (.Call f es ks pos) te) : PTx X (.Call f es ks pos) (tB te) := ⟨pt_val h.pe⟩
theorem ptx_not (h : PTx X a t1) : PTx X (.UnaryOp .Not a pos) (tNot t1) := ⟨pt_not h.pt⟩
theorem pwx_or1 (h : PTx X a t1) : PWx X (.BoolOp .Or [a] pos) t1 := ⟨pw_or1 h.pt⟩
theorem pwx_or (h : PTx X a t1) (hb : PWx X (.BoolOp .Or (b :: rest) pos) t2) : PWx X (.BoolOp .Or (a :: b :: rest) pos) (tOr t1 t2) := ⟨pw_or h.pt hb.pw⟩
theorem ptx_pw (h : PWx X e t1) : PTx X e t1 := ⟨h.pw.pt⟩
theorem psy_ifx {s1 s2 : List Stmt} {u1 u2 : TS} (hc : PTx X c t1) (ha : PSx X s1 u1) (hb : PSx X s2 u2) : PSy X (.If c s1 s2 pos) (tIfS t1 u1 u2) := ⟨ps_if hc.pt ha.ps hb.ps⟩
theorem pex_call1 (D : Def X.prog X.w X.K X.mg X.base k x ps sp) (hr : Room k' X.A) (hk : k ≤ k') (hg : Gl X x) (hx : Passes (CXE X.prog X.w) X E) (ha : PAx X [e] t) (h : isStar e = false) (hdb : (x == ("__debug__" : Str)) = false) : PEx X (.Call (.Name x p) [e] [] pos) (tCall sp [] E t) := ⟨D.pe hr hk hg hx ha.pa hdb (star_of h) rfl⟩
theorem pex_call2 (D : Def X.prog X.w X.K X.mg X.base k x ps sp) (hr : Room k' X.A) (hk : k ≤ k') (hg : Gl X x) (hx : Passes (CXE X.prog X.w) X E) (ha : PAx X [e, f] t) (h : isStar e = false) (h2 : isStar f = false) (hdb : (x == ("__debug__" : Str)) = false) : PEx X (.Call (.Name x p) [e, f] [] pos) (tCall sp [] E t) := ⟨D.pe hr hk hg hx ha.pa hdb (star_of h) (by rw [star_of h2]; rfl)⟩
theorem pex_and2 (ha : PEx X a ta) (hb : PEx X b tb) : PEx X (.BoolOp .And [a, b] pos) (tAndV ta tb) := ⟨pe_and ha.pe (pe_one hb.pe)⟩
theorem psy_expr (he : PEx X e te) (hs : swapsWith e none pos.line X.env = pure false) : PSy X (.Expr e pos) (tDrop te) := ⟨ps_expr he.pe hs⟩
theorem pex_bm1 (pa : PlainAttrs T) (slot : Slot T name id) (hty : typeOf (.builtin id) = pure (.type "method_descriptor")) (hm : MtR X id r) (ho : PEx X o to) (ha : PAx X [e] t) (h : isStar e = false) (hbase : attributeBase o name X.env (eval o X.env) = eval o X.env) (hline : (apos.endLine == cpos.line) = true) : PEx X (.Call (.Attribute o name apos) [e] [] cpos) (tBM X.K T r to t) := ⟨pe_bm1 pa slot hty hm ho.pe ha.pa h hbase hline⟩
end
end L2

set_option Elab.async false
set_option linter.all false
set_option maxRecDepth 100000
namespace Lw
open PySem PySem.Spec PyProof.Rows L2 K02 K04
open Builtin Builtin.Str StrLaws
def spLaw : Sp := fun vs H Q _ => ∃ (a : Addr) (ns : List Int), vs = [.ref a] ∧ ns.length ≤ 63 ∧ (∃ o, H a = some (.frz o (.lst (ns.map V.int)))) ∧ ∀ H', Q (.bl true) H'
theorem slN {x : V} {lo : Nat} {H : Hp} {Q : VK} {ds : List Dv} (hx : Deep H x (.tup ds)) (k : ∀ v H', Same H H' → Deep H' v (.tup (ds.drop lo)) → Q v H') : rSlR x (some (lo : Int)) none H Q := by
  obtain ⟨a, xs, rfl, h1, t1⟩ := hx.tup'
  have l1 := t1.length
  refine ⟨a, xs, rfl, .inl h1, fun z => ?_, fun _ p hp => ?_⟩
  · rw [HT.sIx_nat] at z
    refine k _ _ (Same.refl _) ?_
    have e : ds.drop lo = ds := by
      by_cases h0 : ds = []
      · rw [h0]; simp
      · have : 0 < ds.length := List.length_pos_iff.mpr h0
        rw [show lo = 0 by omega, List.drop_zero]
    rw [e]
    exact hx
  · have S := Same.new (o := .tup (cutV xs (some (lo : Int)) none)) hp
    have t2 : Deeps H (cutV xs (some (lo : Int)) none) (ds.drop lo) := by
      have e : cutV xs (some (lo : Int)) none = xs.drop lo := by
        unfold cutV
        rw [HT.sIx_nat, HT.sIx_none]
        by_cases h : lo ≤ xs.length
        · rw [show min lo xs.length = lo by omega, List.take_of_length_le (by rw [List.length_drop]; omega)]
        · rw [show min lo xs.length = xs.length by omega, List.drop_length, List.take_nil, List.drop_of_length_le (by omega)]
      rw [e]
      exact t1.drop lo
    exact k _ _ S (.tup upd_same (t2.same S))
theorem KitL.of {K : PySem.W.Frag} (t1 : PySem.W.kitOne K (.type "NoneType") (.type "tuple") = some false) (t2 : PySem.W.kitOne K (.type "bool") (.type "tuple") = some false) (t3 : PySem.W.kitOne K (.type "int") (.type "tuple") = some false) (t4 : PySem.W.kitOne K (.type "str") (.type "tuple") = some false) (t5 : PySem.W.kitOne K (.type "tuple") (.type "tuple") = some true) (t6 : PySem.W.kitOne K (.type "list") (.type "tuple") = some false)
    (s1 : PySem.W.kitOne K (.type "NoneType") (.type "str") = some false) (s2 : PySem.W.kitOne K (.type "bool") (.type "str") = some false) (s3 : PySem.W.kitOne K (.type "int") (.type "str") = some false) (s4 : PySem.W.kitOne K (.type "str") (.type "str") = some true) (s5 : PySem.W.kitOne K (.type "tuple") (.type "str") = some false) (s6 : PySem.W.kitOne K (.type "list") (.type "str") = some false)
    (ii : PySem.W.kitOne K (.type "int") (.type "int") = some true) (bi : PySem.W.kitOne K (.type "bool") (.type "int") = some true) (ib : PySem.W.kitOne K (.type "int") (.type "bool") = some false) (bb : PySem.W.kitOne K (.type "bool") (.type "bool") = some true) : KitL K :=
  ⟨fun d => by cases d <;> assumption, fun d => by cases d <;> assumption, ii, bi, ib, bb⟩
/-- a list of odd things that grows -/
structure LwSt (Hb H : Hp) (q : Addr) (xs : List V) (ds : List Wx) : Prop where
  S : Same Hb H
  f : Hb q = none
  g : H q = some (.lst xs)
  t : Wss H xs ds
theorem LwSt.same {Hb H H' : Hp} {q : Addr} {xs : List V} {ds : List Wx} (B : LwSt Hb H q xs ds) (S : Same H H') : LwSt Hb H' q xs ds := ⟨B.S.trans S, B.f, S _ _ B.g, B.t.same S⟩
theorem LwSt.put {Hb H : Hp} {q : Addr} {xs : List V} {ds : List Wx} {y : V} {d : Wx} (B : LwSt Hb H q xs ds) (D : Ws H y d) : LwSt Hb (upd H q (.lst (xs ++ [y]))) q (xs ++ [y]) (ds ++ [d]) := ⟨same_off B.S B.f, B.f, upd_same, (B.t.append (.cons D .nil)).updL B.g⟩
theorem free_of {H H' : Hp} {q : Addr} (S : Same H H') (h : H' q = none) : H q = none := by
  cases e : H q with
  | none => rfl
  | some o => rw [S _ _ e] at h; cases h
theorem odd_lst {σ : L2.St} {te : TA} {Hb H : Hp} {ds : List Wx} {Q : VK} (h : TaW σ H te ds) (S : Same Hb H) (hl : ds.length ≤ sizeLine) (k : ∀ q xs H', Same H H' → LwSt Hb H' q xs ds → Q (.ref q) H') : tLst te σ H Q := lst_W h (Same.refl _) hl fun q xs H' S' hq g t => k q xs H' S' ⟨S.trans S', free_of S hq, g, t⟩
theorem odd_cat {σ : L2.St} {te : TA} {Hb H : Hp} {q : Addr} {xs : List V} {ds es : List Wx} {Q : VK} (B : LwSt Hb H q xs ds) (hv : σ[3]? = some (some (.ref q))) (h : TaW σ H te es) (hl : ds.length + es.length ≤ sizeLine) (k : ∀ q' xs' H', Same H H' → LwSt Hb H' q' xs' (ds ++ es) → Q (.ref q') H') : tOp rCat (tVar 3) (tLst te) σ H Q := by
  refine ⟨_, hv, lst_W h (Same.refl _) (by omega) fun q2 ys H2 S2 _ g2 t2 => ?_⟩
  have B2 := B.same S2
  have l1 := B2.t.length
  have l2 := t2.length
  refine ⟨q, q2, xs, ys, rfl, rfl, B2.g, g2, by omega, fun p hp => ?_⟩
  have S3 := Same.new (o := .lst (xs ++ ys)) hp
  exact k _ _ _ (S2.trans S3) ⟨B2.S.trans S3, free_of B2.S hp, upd_same, (B2.t.append t2).same S3⟩
theorem odd_app {σ : L2.St} {te : TE} {K : PySem.W.Frag} {Hb H : Hp} {q : Addr} {xs : List V} {ds : List Wx} {d : Wx} {Q : VK} (B : LwSt Hb H q xs ds) (hv : σ[3]? = some (some (.ref q))) (h : TaW σ H (tCons te tNil) [d]) (hl : ds.length < sizeLine) (k : ∀ xs' H', LwSt Hb H' q xs' (ds ++ [d]) → Q .non H') : tBM K "list" rAppend (tVar 3) (tCons te tNil) σ H Q := by
  refine ⟨_, hv, .inl ⟨rfl, _, .inl (.inl B.g)⟩, h H _ (Same.refl _) fun ys H2 S2 t2 => ?_⟩
  have B2 := B.same S2
  have l1 := B2.t.length
  cases t2 with
  | @cons y _ _ _ h2 t2 =>
    cases t2
    exact ⟨q, xs, y, rfl, rfl, B2.g, by omega, k _ _ (B2.put h2)⟩
theorem call_W1 {σ : L2.St} {sp : Sp} {E : XK} {te : TE} {H : Hp} {Q : VK} {d : Wx} (h : TaW σ H (tCons te tNil) [d]) (k : ∀ v H1, Same H H1 → Ws H1 v d → sp [v] H1 Q E) : tCall sp [] E (tCons te tNil) σ H Q := call_W h (Same.refl _) fun xs H1 S t => by
  cases t with
  | cons h t =>
    cases t
    exact k _ _ S h
theorem ws_R {H : Hp} {v : V} {its : List (Bool × Ly)} (D : Deep H v (.tup (dvL its))) : Ws H v (wR its) := by rw [wR_eq]; exact D.ws
theorem dvL_take (its : List (Bool × Ly)) (n : Nat) : (dvL its).take n = dvL (its.take n) := by rw [dvL_map, dvL_map, List.map_take]
theorem dvL_drop (its : List (Bool × Ly)) (n : Nat) : (dvL its).drop n = dvL (its.drop n) := by rw [dvL_map, dvL_map, List.map_drop]
section
variable {P : Program} {w : World} {K : PySem.W.Frag} {mg : Str → Option Value} {base : Heap} {f : Addr} {fd : FuncData} {tk : Nat → Tok} {c kr : Nat → Addr} {ca : Value}
def spIs : Sp := fun vs H Q _ => ∃ (a b : Bool), vs = [.bl a, .bl b] ∧ Q (.bl (a == b)) H
theorem ok__law_is (F : Fun K "_law_is" "_law_is" s__law_is f fd) (O : Own mg) (KT : KitL K) : FnOk P w K mg base (CXE P w) 1 f fd ["_law_told", "_law_due"] spIs := by
  refine okNx F sc__law_is (fun vs H Q E h => ?_) (fun cdv A outer s H vs Q E hr h => ?_)
  · obtain ⟨a, b, rfl, _⟩ := h
    rfl
  · obtain ⟨a, b, rfl, k⟩ := h
    refine ⟨_, (psx_one (psy_ret (PEx.mk (pe_and (pe_callB call_isi rfl O.isi PyProof.Rows.boot_isinstance (pa_c (pv 0) (pa_c (pe_bltn (v := V.ty "bool") rfl O.bool PyProof.Rows.boot_bool rfl) pa_nil))) (pe_one (pe_cmpR op_eq (pv 0) (pv 1) (nomark _))))))), ?_⟩
    refine ⟨_, rfl, _, _, true, rfl, rfl, .inl ⟨_, .bl _, KT.bb⟩, true, rfl, iteT ⟨_, rfl, _, rfl, rfl, ?_⟩⟩
    have e : decide (V.bl a = V.bl b) = (a == b) := by cases a <;> cases b <;> rfl
    rw [e]
    exact k
set_option maxHeartbeats 4000000 in
theorem ok_law (F : FunC K "law" "law" s_law f fd ca) (O : Own mg) (OL : mg "list" = none) (D__law_draw : Def P w K mg base 1 "_law_draw" ["_law_script", "_law_town", "_law_many"] (spDraw K)) (D__law_begun : Def P w K mg base 1 "_law_begun" [] spBegun) (D__law_a_layout : Def P w K mg base 7 "_law_a_layout" ["_law_script", "_law_town", "_law_deep"] (spALay K 3)) (D__law_is : Def P w K mg base 1 "_law_is" ["_law_told", "_law_due"] spIs) (D_is_layout : Def P w K mg base 10 "is_layout" ["thing"] spIsLay) : FnOk P w K mg base (CXE P w) 13 f fd ["_law_script"] spLaw := by
  refine okNCx F sc_law (fun vs H Q E h => ?_) (fun A outer s H vs Q E hr h => ?_)
  · obtain ⟨a, ns, rfl, _⟩ := h
    rfl
  · obtain ⟨a, ns, rfl, hln, ⟨oa, hsc⟩, k⟩ := h
    have hz : 100000 ≤ sizeLine := by rw [sizeLine_eq]; decide
    refine ⟨_, (psx_cons (psy_set (i := 1) sc_law.nd rfl (Or.inl rfl) (PEx.mk (D__law_begun.pe0 hr (by decide) rfl passE0)) rfl rfl)
      (psx_cons (psy_set (i := 2) sc_law.nd rfl (Or.inl rfl) (PEx.mk (D__law_a_layout.pe hr (by decide) rfl passE0 (pa_c (pv 0) (pa_c (pv 1) (pa_c pe_int pa_nil))))) rfl rfl)
      (psx_cons (psy_ifx (ptx_pw (pwx_or (ptx_not (ptx_call (pex_call2 D__law_is hr (by decide) rfl passE0 (pax_c (pex_call1 D_is_layout hr (by decide) rfl passE0 (pax_c (PEx.mk (pv 2)) pax_nil rfl) rfl rfl) (pax_c (PEx.mk pe_bl) pax_nil rfl) rfl) rfl rfl rfl))) (pwx_or (ptx_call (pex_call1 D_is_layout hr (by decide) rfl passE0 (pax_c (PEx.mk (pe_callTy call_list_of rfl OL PyProof.Rows.boot_list (pa_c (pv 2) pa_nil))) pax_nil rfl) rfl rfl)) (pwx_or1 (ptx_call (pex_call1 D_is_layout hr (by decide) rfl passE0 (pax_c (pex_op op_catR (PEx.mk (pv 2)) (PEx.mk (pe_slice sl_tupR (pv 2) po_none (po_some pe_int)))) pax_nil rfl) rfl rfl)))))) (psx_one (psy_ret (PEx.mk pe_bl))) psx_nil)
      (psx_cons (psy_set (i := 3) sc_law.nd rfl (Or.inl rfl) (pex_lst (pax_c (PEx.mk pe_non) (pax_c (PEx.mk pe_int) (pax_c (PEx.mk pe_str) (pax_c (pex_tup pax_nil) (pax_c (pex_tup (pax_c (PEx.mk pe_str) pax_nil rfl)) (pax_c (pex_tup (pax_c (PEx.mk pe_str) (pax_c (PEx.mk pe_str) (pax_c (PEx.mk pe_str) pax_nil rfl) rfl) rfl)) (pax_c (pex_tup (pax_c (PEx.mk pe_str) (pax_c (PEx.mk pe_str) (pax_c (PEx.mk pe_str) pax_nil rfl) rfl) rfl)) (pax_c (pex_tup (pax_c (PEx.mk pe_str) (pax_c (PEx.mk pe_str) (pax_c (PEx.mk pe_str) pax_nil rfl) rfl) rfl)) (pax_c (pex_tup (pax_c (PEx.mk pe_str) (pax_c (PEx.mk pe_str) pax_nil rfl) rfl)) pax_nil rfl) rfl) rfl) rfl) rfl) rfl) rfl) rfl) rfl)) rfl rfl)
      (psx_cons (psy_set (i := 3) sc_law.nd rfl (Or.inl rfl) (pex_op op_cat (PEx.mk (pv 3)) (pex_lst (pax_c (pex_tup (pax_c (PEx.mk pe_str) (pax_c (PEx.mk pe_str) (pax_c (pex_tup pax_nil) pax_nil rfl) rfl) rfl)) (pax_c (pex_tup (pax_c (PEx.mk pe_str) (pax_c (PEx.mk pe_str) (pax_c (PEx.mk pe_str) pax_nil rfl) rfl) rfl)) (pax_c (pex_tup (pax_c (PEx.mk pe_str) (pax_c (PEx.mk pe_str) (pax_c (PEx.mk pe_str) (pax_c (PEx.mk pe_str) pax_nil rfl) rfl) rfl) rfl)) (pax_c (pex_lst (pax_c (PEx.mk pe_str) (pax_c (PEx.mk pe_str) (pax_c (PEx.mk pe_str) pax_nil rfl) rfl) rfl)) pax_nil rfl) rfl) rfl) rfl))) rfl rfl)
      (psx_cons (psy_set (i := 4) sc_law.nd rfl (Or.inl rfl) (pex_tup (pax_c (pex_tup (pax_c (PEx.mk pe_str) (pax_c (PEx.mk pe_str) (pax_c (PEx.mk pe_str) pax_nil rfl) rfl) rfl)) pax_nil rfl)) rfl rfl)
      (psx_cons (psy_set (i := 3) sc_law.nd rfl (Or.inl rfl) (pex_op op_cat (PEx.mk (pv 3)) (pex_lst (pax_c (pex_tup (pax_c (PEx.mk pe_str) (pax_c (PEx.mk pe_str) (pax_c (PEx.mk pe_int) (pax_c (PEx.mk (pv 4)) pax_nil rfl) rfl) rfl) rfl)) (pax_c (pex_tup (pax_c (PEx.mk pe_str) (pax_c (PEx.mk pe_str) (pax_c (PEx.mk pe_int) (pax_c (PEx.mk (pv 4)) pax_nil rfl) rfl) rfl) rfl)) (pax_c (pex_tup (pax_c (PEx.mk pe_str) (pax_c (PEx.mk pe_str) (pax_c (PEx.mk pe_bl) (pax_c (PEx.mk (pv 4)) pax_nil rfl) rfl) rfl) rfl)) pax_nil rfl) rfl) rfl))) rfl rfl)
      (psx_cons (psy_set (i := 3) sc_law.nd rfl (Or.inl rfl) (pex_op op_cat (PEx.mk (pv 3)) (pex_lst (pax_c (pex_tup (pax_c (PEx.mk pe_str) (pax_c (PEx.mk pe_str) (pax_c (PEx.mk pe_int) (pax_c (pex_tup pax_nil) pax_nil rfl) rfl) rfl) rfl)) (pax_c (pex_tup (pax_c (PEx.mk pe_str) (pax_c (PEx.mk pe_str) (pax_c (PEx.mk pe_str) pax_nil rfl) rfl) rfl)) pax_nil rfl) rfl))) rfl rfl)
      (psx_cons (psy_set (i := 3) sc_law.nd rfl (Or.inl rfl) (pex_op op_cat (PEx.mk (pv 3)) (pex_lst (pax_c (pex_tup (pax_c (PEx.mk pe_str) (pax_c (pex_tup (pax_c (PEx.mk pe_str) (pax_c (pex_tup (pax_c (PEx.mk pe_str) (pax_c (PEx.mk pe_str) (pax_c (PEx.mk pe_str) pax_nil rfl) rfl) rfl)) pax_nil rfl) rfl)) pax_nil rfl) rfl)) (pax_c (pex_tup (pax_c (PEx.mk pe_str) (pax_c (PEx.mk pe_non) pax_nil rfl) rfl)) (pax_c (pex_tup (pax_c (PEx.mk pe_str) pax_nil rfl)) pax_nil rfl) rfl) rfl))) rfl rfl)
      (psx_cons (psy_expr (pex_bm1 PySem.F.plainAttrs_list PySem.F.slot_list_append PySem.F.type_list_append mt_append (PEx.mk (pv 3)) (pax_c (pex_tup (pax_c (PEx.mk pe_str) (pax_c (pex_tup (pax_c (PEx.mk pe_str) (pax_c (PEx.mk pe_str) (pax_c (PEx.mk pe_int) (pax_c (pex_tup (pax_c (pex_tup (pax_c (PEx.mk pe_str) (pax_c (PEx.mk pe_str) (pax_c (PEx.mk pe_str) pax_nil rfl) rfl) rfl)) pax_nil rfl)) pax_nil rfl) rfl) rfl) rfl)) pax_nil rfl) rfl)) pax_nil rfl) rfl rfl rfl) rfl)
      (psx_cons (psy_set (i := 3) sc_law.nd rfl (Or.inl rfl) (pex_op op_cat (PEx.mk (pv 3)) (pex_lst (pax_c (pex_tup (pax_c (PEx.mk pe_str) (pax_c (PEx.mk pe_str) (pax_c (pex_tup (pax_c (pex_tup (pax_c (PEx.mk pe_str) (pax_c (PEx.mk pe_str) (pax_c (PEx.mk pe_str) pax_nil rfl) rfl) rfl)) (pax_c (pex_tup (pax_c (PEx.mk pe_str) (pax_c (PEx.mk pe_str) (pax_c (PEx.mk pe_str) pax_nil rfl) rfl) rfl)) pax_nil rfl) rfl)) pax_nil rfl) rfl) rfl)) (pax_c (pex_tup (pax_c (PEx.mk pe_str) (pax_c (PEx.mk pe_str) (pax_c (PEx.mk pe_str) pax_nil rfl) rfl) rfl)) pax_nil rfl) rfl))) rfl rfl)
      (psx_cons (psy_expr (pex_bm1 PySem.F.plainAttrs_list PySem.F.slot_list_append PySem.F.type_list_append mt_append (PEx.mk (pv 3)) (pax_c (pex_tup (pax_c (PEx.mk pe_str) (pax_c (PEx.mk pe_str) (pax_c (pex_tup (pax_c (pex_tup (pax_c (PEx.mk pe_str) (pax_c (pex_tup (pax_c (PEx.mk pe_str) (pax_c (PEx.mk pe_str) (pax_c (PEx.mk pe_str) pax_nil rfl) rfl) rfl)) pax_nil rfl) rfl)) pax_nil rfl)) pax_nil rfl) rfl) rfl)) pax_nil rfl) rfl rfl rfl) rfl)
      (psx_cons (psy_set (i := 5) sc_law.nd rfl (Or.inl rfl) (pex_op op_add (PEx.mk pe_int) (PEx.mk (D__law_draw.pe hr (by decide) rfl passE0 (pa_c (pv 0) (pa_c (pv 1) (pa_c (pe_callB call_len_seq rfl O.len PySem.boot_len (pa_c (pv 2) pa_nil)) pa_nil)))))) rfl rfl)
      (psx_cons (psy_for PassesOwn.never rfl (pi_list (pv 3)) (pg_name (i := 6) sc_law.nd rfl (Or.inl rfl)) (psx_one (psy_ifx (ptx_pw (pwx_or (ptx_not (ptx_call (pex_call2 D__law_is hr (by decide) rfl passE0 (pax_c (pex_call1 D_is_layout hr (by decide) rfl passE0 (pax_c (pex_op op_catR (pex_op op_catR (PEx.mk (pe_slice sl_tupR (pv 2) po_none (po_some (pv 5)))) (pex_tup (pax_c (PEx.mk (pv 6)) pax_nil rfl))) (PEx.mk (pe_slice sl_tupR (pv 2) (po_some (pv 5)) po_none))) pax_nil rfl) rfl rfl) (pax_c (PEx.mk pe_bl) pax_nil rfl) rfl) rfl rfl rfl))) (pwx_or1 (ptx_call (pex_call1 D_is_layout hr (by decide) rfl passE0 (pax_c (pex_tup (pax_c (PEx.mk (pv 6)) pax_nil rfl)) pax_nil rfl) rfl rfl))))) (psx_one (psy_ret (PEx.mk pe_bl))) psx_nil)) (fun _ => rfl))
      (psx_cons (psy_ifx (ptx_pw (pwx_or (ptx_call (pex_call1 D_is_layout hr (by decide) rfl passE0 (pax_c (pex_tup (pax_c (pex_tup (pax_c (PEx.mk pe_str) (pax_c (pex_tup (pax_c (PEx.mk pe_str) (pax_c (PEx.mk pe_str) (pax_c (PEx.mk pe_str) pax_nil rfl) rfl) rfl)) pax_nil rfl) rfl)) pax_nil rfl)) pax_nil rfl) rfl rfl)) (pwx_or (ptx_call (pex_call1 D_is_layout hr (by decide) rfl passE0 (pax_c (pex_tup pax_nil) pax_nil rfl) rfl rfl)) (pwx_or1 (ptx_call (pex_call1 D_is_layout hr (by decide) rfl passE0 (pax_c (PEx.mk pe_non) pax_nil rfl) rfl rfl)))))) (psx_one (psy_ret (PEx.mk pe_bl))) psx_nil)
      (psx_cons (psy_set (i := 7) sc_law.nd rfl (Or.inl rfl) (pex_tup (pax_c (pex_tup (pax_c (PEx.mk pe_str) (pax_c (PEx.mk pe_str) (pax_c (PEx.mk pe_str) pax_nil rfl) rfl) rfl)) (pax_c (pex_tup (pax_c (PEx.mk pe_str) (pax_c (pex_tup (pax_c (PEx.mk pe_str) (pax_c (PEx.mk pe_str) (pax_c (PEx.mk pe_int) (pax_c (pex_tup (pax_c (pex_tup (pax_c (PEx.mk pe_str) (pax_c (PEx.mk pe_str) (pax_c (PEx.mk pe_str) pax_nil rfl) rfl) rfl)) pax_nil rfl)) pax_nil rfl) rfl) rfl) rfl)) pax_nil rfl) rfl)) (pax_c (pex_tup (pax_c (PEx.mk pe_str) (pax_c (pex_tup (pax_c (PEx.mk pe_str) (pax_c (PEx.mk pe_str) (pax_c (PEx.mk pe_str) pax_nil rfl) rfl) rfl)) pax_nil rfl) rfl)) pax_nil rfl) rfl) rfl)) rfl rfl)
      (psx_one (psy_ret (pex_and2 (pex_call1 D_is_layout hr (by decide) rfl passE0 (pax_c (PEx.mk (pv 7)) pax_nil rfl) rfl rfl) (pex_call1 D_is_layout hr (by decide) rfl passE0 (pax_c (pex_tup (pax_c (pex_tup (pax_c (PEx.mk pe_str) (pax_c (PEx.mk pe_str) (pax_c (PEx.mk pe_int) (pax_c (pex_tup (pax_c (pex_tup (pax_c (PEx.mk pe_str) (pax_c (PEx.mk pe_str) (pax_c (PEx.mk pe_str) pax_nil rfl) rfl) rfl)) pax_nil rfl)) pax_nil rfl) rfl) rfl) rfl)) pax_nil rfl)) pax_nil rfl) rfl rfl)))))))))))))))))))), ?_⟩
    refine ⟨rfl, fun t r H1 ht hr1 T1 S1 => ?_⟩
    have B1 : Bag K H1 a t r ns 0 := ⟨.inl (.inr ⟨oa, S1 _ _ hsc⟩), ⟨[], T1⟩, (fun z => by rw [← z, hsc] at ht; cases ht), (fun z => by rw [← z, hsc] at hr1; cases hr1), hln⟩
    dsimp only [gName, tAsg, tSeq, tNext]
    refine ⟨_, rfl, _, rfl, a, t, r, ns, 0, 2, rfl, by decide, by decide, B1, by decide, fun v H2 its c2 B2 hc2 _ DI G => ?_⟩
    obtain ⟨hne, hp, _⟩ := (good_iff 2 its).mp G
    have hlen := hp.len
    have hlp : 0 < its.length := List.length_pos_iff.mpr hne
    have hc2 : c2 ≤ 0 + cb 2 := hc2
    have hcb : cb 2 = 420 := rfl
    obtain ⟨g1, g2, g3⟩ := good_lay G
    refine ⟨_, rfl, v, wR its, true, rfl, ws_R DI, g1, g2, g3, fun H3 S3 => ⟨true, true, rfl, true, rfl, iteF ?_⟩⟩
    have DI3 := DI.same S3
    obtain ⟨ia, ix, rfl, gi, ti⟩ := Deep.tup' DI3
    have lix := ti.length
    rw [dvL_map, List.length_map] at lix
    refine ⟨_, rfl, ia, ix, rfl, .inr (.inl (.inl gi)), fun l hl => ?_⟩
    have S4 := S3.trans (Same.new (o := .lst ix) hl)
    refine ⟨.ref l, .lst, false, rfl, .lst upd_same, lst_lay.1, lst_lay.2.1, lst_lay.2.2, fun H5 S5 => ⟨false, rfl, iteF ?_⟩⟩
    have S5 := S4.trans S5
    have DI5 := DI.same S5
    refine ⟨_, rfl, _, rfl, _, rfl, ?_⟩
    refine rSlR.deep0 (hi := 1) (ds := dvL its) DI5 fun u6 H6 S6 D6 => ?_
    have DI6 := DI5.same S6
    obtain ⟨ua, ux, rfl, gu, tu⟩ := Deep.tup' D6
    obtain ⟨_, _, e6, gi6, ti6⟩ := Deep.tup' DI6
    cases e6
    refine cat_D gi6 gu ti6 tu ?_ fun u7 H7 S7 D7 => ?_
    · have h1 := ti6.length
      have h2 := tu.length
      rw [List.length_take] at h2
      rw [dvL_map, List.length_map] at h1 h2
      omega
    have W7 : Ws H7 u7 (.tup (its.map wI ++ (its.map wI).take 1)) := by
      have := D7.ws
      rw [toW, toWs_map, List.map_append, List.map_take, dvL_map, List.map_map] at this
      exact this
    obtain ⟨g1, g2, g3⟩ := twice_lay G
    refine ⟨u7, _, false, rfl, W7, g1, g2, g3, fun H8 S8 => ⟨false, rfl, iteF ?_⟩⟩
    have S8 := ((S5.trans S6).trans S7).trans S8
    dsimp only [gName, tAsg, tSeq, tNext]
    clear W7 D7 gu tu gi6 ti6 DI6 DI5 DI3 gi ti
    have tb3 : ∀ {σ : L2.St} {H : Hp} {x y z : Str}, TaW σ H (tCons (tC (.str x)) (tCons (tC (.str y)) (tCons (tC (.str z)) tNil))) [.str x, .str y, .str z] := taW_str (taW_str (taW_str taW_nil))
    refine odd_lst (ds := odd1) (Hb := H2) (taW_non (taW_int (taW_str (taW_tup taW_nil (by show 0 ≤ sizeLine; omega) (taW_tup (taW_str taW_nil) (by show 1 ≤ sizeLine; omega) (taW_tup tb3 (by show 3 ≤ sizeLine; omega) (taW_tup tb3 (by show 3 ≤ sizeLine; omega) (taW_tup tb3 (by show 3 ≤ sizeLine; omega) (taW_tup (taW_str (taW_str taW_nil)) (by show 2 ≤ sizeLine; omega) taW_nil))))))))) S8 (by show 9 ≤ sizeLine; omega) fun q9 xs9 H9 S9 L9 => ?_
    refine odd_cat (es := odd2) L9 rfl (taW_tup (taW_str (taW_str (taW_tup taW_nil (by show 0 ≤ sizeLine; omega) taW_nil))) (by show 3 ≤ sizeLine; omega) (taW_tup tb3 (by show 3 ≤ sizeLine; omega) (taW_tup (taW_str tb3) (by show 4 ≤ sizeLine; omega) (taW_lst tb3 (by show 3 ≤ sizeLine; omega) taW_nil)))) (by show 9 + 4 ≤ sizeLine; omega) fun q10 xs10 H10 S10 L10 => ?_
    refine tup_W (ds := [.tup [.str "box", .str "a", .str "X"]]) (H0 := H10) (taW_tup tb3 (by show 3 ≤ sizeLine; omega) taW_nil) (Same.refl _) (by show 1 ≤ sizeLine; omega) fun v4 H11 S11 W4 => ?_
    have L11 := L10.same S11
    refine odd_cat (es := odd3) L11 rfl (taW_tup (taW_str (taW_str (taW_int (taW_var rfl W4 taW_nil)))) (by show 4 ≤ sizeLine; omega) (taW_tup (taW_str (taW_str (taW_int (taW_var rfl W4 taW_nil)))) (by show 4 ≤ sizeLine; omega) (taW_tup (taW_str (taW_str (taW_bl (taW_var rfl W4 taW_nil)))) (by show 4 ≤ sizeLine; omega) taW_nil))) (by show 13 + 3 ≤ sizeLine; omega) fun q12 xs12 H12 S12 L12 => ?_
    refine odd_cat (es := odd4) L12 rfl (taW_tup (taW_str (taW_str (taW_int (taW_tup taW_nil (by show 0 ≤ sizeLine; omega) taW_nil)))) (by show 4 ≤ sizeLine; omega) (taW_tup tb3 (by show 3 ≤ sizeLine; omega) taW_nil)) (by show 16 + 2 ≤ sizeLine; omega) fun q13 xs13 H13 S13 L13 => ?_
    refine odd_cat (es := odd5) L13 rfl (taW_tup (taW_str (taW_tup (taW_str (taW_tup tb3 (by show 3 ≤ sizeLine; omega) taW_nil)) (by show 2 ≤ sizeLine; omega) taW_nil)) (by show 2 ≤ sizeLine; omega) (taW_tup (taW_str (taW_non taW_nil)) (by show 2 ≤ sizeLine; omega) (taW_tup (taW_str taW_nil) (by show 1 ≤ sizeLine; omega) taW_nil))) (by show 18 + 3 ≤ sizeLine; omega) fun q14 xs14 H14 S14 L14 => ?_
    refine odd_app (d := odd6) L14 rfl (taW_tup (taW_str (taW_tup (taW_str (taW_str (taW_int (taW_tup (taW_tup tb3 (by show 3 ≤ sizeLine; omega) taW_nil) (by show 1 ≤ sizeLine; omega) taW_nil)))) (by show 4 ≤ sizeLine; omega) taW_nil)) (by show 2 ≤ sizeLine; omega) taW_nil) (by show 21 < sizeLine; omega) fun xs15 H15 L15 => ?_
    refine odd_cat (es := odd7) L15 rfl (taW_tup (taW_str (taW_str (taW_tup (taW_tup tb3 (by show 3 ≤ sizeLine; omega) (taW_tup tb3 (by show 3 ≤ sizeLine; omega) taW_nil)) (by show 2 ≤ sizeLine; omega) taW_nil))) (by show 3 ≤ sizeLine; omega) (taW_tup tb3 (by show 3 ≤ sizeLine; omega) taW_nil)) (by show 22 + 2 ≤ sizeLine; omega) fun q16 xs16 H16 S16 L16 => ?_
    refine odd_app (d := odd8) L16 rfl (taW_tup (taW_str (taW_str (taW_tup (taW_tup (taW_str (taW_tup tb3 (by show 3 ≤ sizeLine; omega) taW_nil)) (by show 2 ≤ sizeLine; omega) taW_nil) (by show 1 ≤ sizeLine; omega) taW_nil))) (by show 3 ≤ sizeLine; omega) taW_nil) (by show 24 < sizeLine; omega) fun xs17 H17 L17 => ?_
    have L17 : LwSt H2 H17 q16 xs17 odds := L17
    clear L9 L10 L11 L12 L13 L14 L15 L16 W4
    have B17 := B2.same L17.S
    have DI17 := DI.same L17.S
    obtain ⟨_, iy, e17, gi, ti⟩ := Deep.tup' DI17
    cases e17
    have liy := ti.length
    rw [dvL_map, List.length_map] at liy
    refine B17.draw (n := ((iy.length : Nat) : Int)) rfl rfl (fun R h => ⟨_, rfl, ia, _, rfl, .inr (.inl (.inl gi)), h⟩) (by omega) (by omega) (by omega) fun d H18 hd B18 A18 => ?_
    have DI18 := DI17.keep (B17.tups A18)
    have t18 := L17.t.keep (B17.tups A18) (fun b ys e => ⟨ys, B17.keep A18 e (fun _ z => nomatch z)⟩)
    have g18 := B17.keep A18 L17.g (fun _ z => nomatch z)
    have l18 := t18.length
    refine ⟨_, _, rfl, rfl, ?_⟩
    have e : (1 : Int) + ((d : Nat) : Int) = ((1 + d : Nat) : Int) := by omega
    dsimp only [gName, tAsg, tSeq, tNext]
    rw [e]
    have hM := good_mid G (1 + d)
    refine ⟨_, rfl, q16, rfl, ⟨_, .inl (.inl g18)⟩, ?_⟩
    refine for_fix (fixL (K := K) (a := q16) (xs := xs17)) (fun i σ H20 => ∃ (y6 : Option V), σ = [some (.ref a), some (.ref t), some (.ref ia), some (.ref q16), some v4, some (.int (1 + d : Nat)), y6, none] ∧ Same H18 H20) ⟨none, rfl, Same.refl _⟩ ?_ ?_ ?_
    · rintro i σ H20 _ ⟨y6, rfl, S20⟩
      exact .inl (.inl (S20 _ _ g18))
    · rintro i x σ H200 H20 hi ⟨y6, rfl, S20⟩ ⟨rfl, hx⟩
      obtain ⟨o, ho, Do⟩ := t18.getX hx
      have hodd := odds_ok o (List.mem_of_getElem? ho)
      have Do := Do.same S20
      have DI20 := DI18.same S20
      dsimp only [gName, tAsg, tSeq, tNext]
      refine ⟨_, rfl, _, rfl, _, rfl, ?_⟩
      refine rSlR.deep0 (hi := 1 + d) (ds := dvL its) DI20 fun u1 H21 S21 D21 => ?_
      obtain ⟨ua, ux, rfl, gu, tu⟩ := (show Ws H21 u1 (.tup ((its.take (1 + d)).map wI)) from ws_R (by rw [← dvL_take]; exact D21)).tup'
      have lu := tu.length
      rw [List.length_map, List.length_take] at lu
      refine ⟨_, rfl, by show 1 ≤ sizeLine; omega, fun p22 hp22 => ?_⟩
      have S22 := Same.new (o := .tup [x]) hp22
      have S2022 := S21.trans S22
      refine cat_W (S22 _ _ gu) upd_same (tu.same S22) (.cons (Do.same S2022) .nil) (by show _ + 1 ≤ sizeLine; omega) fun u2 H23 S23 W23 => ?_
      obtain ⟨ub, uy, rfl, gb, tb⟩ := W23.tup'
      have lb := tb.length
      rw [List.length_append, List.length_map, List.length_take] at lb
      have S2023 := S2022.trans S23
      refine ⟨_, rfl, _, rfl, _, rfl, ?_⟩
      dsimp only [tNoPart]
      refine slN (lo := 1 + d) (ds := dvL its) (DI20.same S2023) fun u3 H24 S24 D24 => ?_
      obtain ⟨uc, uz, rfl, gc, tc⟩ := (show Ws H24 u3 (.tup ((its.drop (1 + d)).map wI)) from ws_R (by rw [← dvL_drop]; exact D24)).tup'
      have lc := tc.length
      rw [List.length_map, List.length_drop] at lc
      refine cat_W (S24 _ _ gb) gc (tb.same S24) tc (by simp only [List.length_cons, List.length_nil] at lb; omega) fun u4 H25 S25 W25 => ?_
      rw [List.append_assoc, List.singleton_append] at W25
      obtain ⟨g1, g2, g3⟩ := odd_lay hM hodd
      refine ⟨u4, _, false, rfl, W25, g1, g2, g3, fun H26 S26 => ⟨false, false, rfl, true, rfl, iteF ?_⟩⟩
      have S2026 := ((S2023.trans S24).trans S25).trans S26
      refine ⟨_, rfl, by show 1 ≤ sizeLine; omega, fun p27 hp27 => ?_⟩
      have S27 := Same.new (o := .tup [x]) hp27
      obtain ⟨g1, g2, g3⟩ := odd_lay mid_nil hodd
      refine ⟨.ref p27, _, false, rfl, .tup upd_same (.cons (Do.same (S2026.trans S27)) .nil), g1, g2, g3, fun H28 S28 => ⟨false, rfl, iteF ?_⟩⟩
      exact ⟨_, rfl, ((S20.trans S2026).trans S27).trans S28⟩
    rintro σ H20 ⟨y6, rfl, S20⟩
    dsimp only [gName, tAsg, tSeq, tNext, tIfS, tOr, tB]
    refine call_W1 (d := .tup [.tup [.str "over", .tup [.str "box", .str "z", .str "X"]]]) (taW_tup (taW_tup (taW_str (taW_tup tb3 (by show 3 ≤ sizeLine; omega) taW_nil)) (by show 2 ≤ sizeLine; omega) taW_nil) (by show 1 ≤ sizeLine; omega) taW_nil) fun v21 H21 S21 W21 => ⟨v21, _, false, rfl, W21, over_lay.1, over_lay.2.1, over_lay.2.2, fun H22 S22 => ⟨false, rfl, iteF ?_⟩⟩
    refine call_W1 (d := .tup []) (taW_tup taW_nil (by show 0 ≤ sizeLine; omega) taW_nil) fun v23 H23 S23 W23 => ⟨v23, _, false, rfl, W23, nil_lay.1, nil_lay.2.1, nil_lay.2.2, fun H24 S24 => ⟨false, rfl, iteF ?_⟩⟩
    refine call_W1 (d := .non) (taW_non taW_nil) fun v25 H25 S25 W25 => ⟨v25, _, false, rfl, W25, non_lay.1, non_lay.2.1, non_lay.2.2, fun H26 S26 => ⟨false, rfl, iteF ?_⟩⟩
    refine tup_W (ds := [.tup [.str "box", .str "a", .str "X(3)"], .tup [.str "over", .tup [.str "table", .str "b", .int 3, .tup [.tup [.str "box", .str "c", .str "9"]]]], .tup [.str "over", .tup [.str "box", .str "d", .str "XX"]]]) (H0 := H26) (taW_tup tb3 (by show 3 ≤ sizeLine; omega) (taW_tup (taW_str (taW_tup (taW_str (taW_str (taW_int (taW_tup (taW_tup tb3 (by show 3 ≤ sizeLine; omega) taW_nil) (by show 1 ≤ sizeLine; omega) taW_nil)))) (by show 4 ≤ sizeLine; omega) taW_nil)) (by show 2 ≤ sizeLine; omega) (taW_tup (taW_str (taW_tup tb3 (by show 3 ≤ sizeLine; omega) taW_nil)) (by show 2 ≤ sizeLine; omega) taW_nil))) (Same.refl _) (by show 3 ≤ sizeLine; omega) fun v7 H27 S27 W27 => ?_
    refine ⟨_, rfl, v7, bigW, true, rfl, W27, big_lay.1, big_lay.2.1, big_lay.2.2, fun H28 S28 => ⟨true, rfl, iteT ?_⟩⟩
    exact call_W1 (d := tabW) (taW_tup (taW_tup (taW_str (taW_str (taW_int (taW_tup (taW_tup tb3 (by show 3 ≤ sizeLine; omega) taW_nil) (by show 1 ≤ sizeLine; omega) taW_nil)))) (by show 4 ≤ sizeLine; omega) taW_nil) (by show 1 ≤ sizeLine; omega) taW_nil) fun v29 H29 S29 W29 => ⟨v29, _, true, rfl, W29, tab_lay.1, tab_lay.2.1, tab_lay.2.2, fun H30 S30 => k _⟩
end
end Lw

set_option Elab.async false
set_option linter.all false
set_option maxRecDepth 100000
/-! a loop over a dict's keys: the dict is known to its object while the loop walks it -/
namespace L2
open PySem PySem.Spec PyProof.Rows
section
variable {X : Cx} {pins : List (Addr × Obj)} {σ : List (Option V)} {H : Hp} {s : Shared}
end
section
variable {X : Cx} {tg : Expr}
end
end L2

set_option Elab.async false
set_option linter.all false
set_option maxRecDepth 100000
/-! a law without lambdas -/
namespace L2
open PySem PySem.Spec PyProof.Rows
theorem frz_of {K : PySem.W.Frag} {H : Hp} {a : Addr} {xs : List V} (nL : noLists K = true) (hO : Only H) (h : SqL K H a xs) : ∃ o, H a = some (.frz o (.lst xs)) := by
  rcases h with h | ⟨o, its, n, hk, hc, _⟩
  · rcases h with h | ⟨o, h⟩
    · rcases hO a with z | ⟨o, ys, z⟩
      · rw [z] at h; cases h
      · rw [z] at h; cases h
    · exact ⟨o, h⟩
  · exact absurd hc (noLists_at nL hk)
theorem walk_ofN {l : PySem.W.OpenLaw} {n k : Nat} {q : Program} {loose : List Str} {XP : (Str → Option Value) → Heap → Prop} {YP : World → Heap → Prop} {d : DefRec} {K : Params → PySem.W.Frag} {CX : World → CXT} {sp : World → Sp} {x : Str}
    (hn : l.most = some n) (hn2 : n ≤ sizeLine) (hdf : d.params.defaults = []) (hr : Room k callerA) (hY : ∀ (w : World) (h : Heap), YP w h → (K w.params).In h) (nL : ∀ w : World, noLists (K w.params) = true)
    (F : ∀ (w : World) (mg : Str → Option Value) (fa : Addr) (h : Heap), (K w.params).In h → h.Ns mainGlobals mg → mg d.name = some (.ref fa) →
      ∃ fd : FuncData, (∀ (s : Shared) (u : Value), BindsTo s fd ⟨[u], []⟩ [(x, u)]) ∧ ∀ base : Heap, (K w.params).In base → base.Ns mainGlobals mg → FnOk l.prog w (K w.params) mg base (CX w) k fa fd [x] (sp w))
    (hsp : ∀ (w : World) (H : Hp) (a : Addr) (ns : List Int), ns.length ≤ n → (∃ o, H a = some (.frz o (.lst (ns.map V.int)))) → sp w [.ref a] H (fun v _ => v = .bl true) fun _ _ _ => False)
    (hCX : ∀ (w : World) (H : Hp) (s : Shared) (e : Value) (s' : Shared), CX w [] H s (fun _ _ _ => False) e s' → False) : PySem.W.WalkO q loose XP YP l.row.toRowW d [] (fun f vs => PySem.call f vs) :=
  walk_of hn hn2 hdf hr hY F (fun w H a ns h1 h2 h3 => hsp w H a ns h1 (frz_of (nL w) h2 h3)) hCX
end L2

set_option Elab.async false
set_option linter.all false
namespace L2
open PySem PySem.Spec PyProof.Rows
/-! defs of so many parameters, each given -/
section
variable {P : Program} {w : World} {K : PySem.W.Frag} {mg : Str → Option Value} {base h : Heap} {x : Str} {st : Stmt} {k : Nat} {sp : Sp} {p1 p2 p3 p4 : Str}
theorem DefAt.d0 (D : DefAt K x st) (X : K.In h) (G : h.Ns mainGlobals mg) (hok : ∀ f fd, Fun K x x st f fd → FnOk P w K mg base (CXE P w) k f fd [] sp)
    (hb : ∀ (kV doc pm : Value) (an : Option Addr) (cdv ct : Value) , bindArgs (PySem.W.fnOf x x (defArgs st) (defBody st) (defScope st) .none kV doc pm an cdv ct) ⟨[], []⟩ = pure []) : Def P w K mg base k x [] sp :=
  D.def X G hok fun kV doc pm an cdv ct us hl => match us, hl with | [], _ => hb kV doc pm an cdv ct 
theorem DefAt.d1 (D : DefAt K x st) (X : K.In h) (G : h.Ns mainGlobals mg) (hok : ∀ f fd, Fun K x x st f fd → FnOk P w K mg base (CXE P w) k f fd [p1] sp)
    (hb : ∀ (kV doc pm : Value) (an : Option Addr) (cdv ct : Value) (u1 : Value), bindArgs (PySem.W.fnOf x x (defArgs st) (defBody st) (defScope st) .none kV doc pm an cdv ct) ⟨[u1], []⟩ = pure [(p1, u1)]) : Def P w K mg base k x [p1] sp :=
  D.def X G hok fun kV doc pm an cdv ct us hl => match us, hl with | [u1], _ => hb kV doc pm an cdv ct u1
theorem DefAt.d2 (D : DefAt K x st) (X : K.In h) (G : h.Ns mainGlobals mg) (hok : ∀ f fd, Fun K x x st f fd → FnOk P w K mg base (CXE P w) k f fd [p1, p2] sp)
    (hb : ∀ (kV doc pm : Value) (an : Option Addr) (cdv ct : Value) (u1 u2 : Value), bindArgs (PySem.W.fnOf x x (defArgs st) (defBody st) (defScope st) .none kV doc pm an cdv ct) ⟨[u1, u2], []⟩ = pure [(p1, u1), (p2, u2)]) : Def P w K mg base k x [p1, p2] sp :=
  D.def X G hok fun kV doc pm an cdv ct us hl => match us, hl with | [u1, u2], _ => hb kV doc pm an cdv ct u1 u2
theorem DefAt.d3 (D : DefAt K x st) (X : K.In h) (G : h.Ns mainGlobals mg) (hok : ∀ f fd, Fun K x x st f fd → FnOk P w K mg base (CXE P w) k f fd [p1, p2, p3] sp)
    (hb : ∀ (kV doc pm : Value) (an : Option Addr) (cdv ct : Value) (u1 u2 u3 : Value), bindArgs (PySem.W.fnOf x x (defArgs st) (defBody st) (defScope st) .none kV doc pm an cdv ct) ⟨[u1, u2, u3], []⟩ = pure [(p1, u1), (p2, u2), (p3, u3)]) : Def P w K mg base k x [p1, p2, p3] sp :=
  D.def X G hok fun kV doc pm an cdv ct us hl => match us, hl with | [u1, u2, u3], _ => hb kV doc pm an cdv ct u1 u2 u3
end
end L2

set_option Elab.async false
set_option linter.all false
set_option maxRecDepth 100000
namespace L2
open PySem PySem.Spec PyProof.Rows
theorem sqT_mk {K : PySem.W.Frag} {a : Addr} {xs : List V} {its : Array Value} {n : Nat} {od : Option Addr} {osl : Array (Option Value)} (l : K.lookup a = some ⟨.type "tuple", od, .seq its n, osl⟩) (z : its.size ≤ sizeLine) (v : Vals xs its.toList) (H : Hp) : SqT K H a xs := .inr ⟨_, its, n, l, rfl, rfl, z, v⟩
theorem kdict2_mk {P : Program} {w : World} {K : PySem.W.Frag} {a : Addr} {h1 h2 : Int} {x1 x2 y1 y2 : Str} {t1 t2 u1 u2 : Tok} {n : Nat} (ne : (a == sysModules) = false) (l : K.lookup a = some ⟨.type "dict", none, .dict #[⟨h1, .str x1 t1, .str y1 u1⟩, ⟨h2, .str x2 t2, .str y2 u2⟩] n, #[]⟩)
    (e1 : h1 = keyH w (.inr x1)) (e2 : h2 = keyH w (.inr x2)) (hx : x1 ≠ x2) : KDict P w K a [(Sum.inr x1, .str y1), (Sum.inr x2, .str y2)] := by
  refine ⟨ne, fun h KX => ⟨[(Sum.inr x1, .str y1 u1), (Sum.inr x2, .str y2 u2)], .cons ⟨rfl, _, rfl⟩ (.cons ⟨rfl, _, rfl⟩ .nil), _, _, _, KX a _ l, ⟨rfl, rfl, rfl⟩, rfl, fun e he => ?_, .cons (mixKind_str P w x1 t1) rfl (.cons (mixKind_str P w x2 t2) rfl .nil), ?_⟩⟩
  · have he : e = ⟨h1, .str x1 t1, .str y1 u1⟩ ∨ e = ⟨h2, .str x2 t2, .str y2 u2⟩ := by simpa using he
    rcases he with rfl | rfl
    · exact ⟨_, mixKind_str P w x1 t1, e1⟩
    · exact ⟨_, mixKind_str P w x2 t2, e2⟩
  · have hk : ¬ (Sum.inr x1 : Key) = Sum.inr x2 := fun q => hx (Sum.inr.inj q)
    simp [hk]
end L2
namespace Lw
open PySem PySem.Spec PyProof.Rows L2 K02 K04
set_option maxHeartbeats 8000000 in
theorem all_mk {l : PySem.W.OpenLaw} {w : World} {K : PySem.W.Frag} {h : Heap} {mg : Str → Option Value} {ca : Value} {fa fl R0 R1 R2 C0 C1 : Addr} {t0 t1 t2 t3 t4 t5 t6 t7 t8 t9 t10 : Tok} {oc kV doc pm ct : Value} {od an : Option Addr} {osl : Array (Option Value)} (X : K.In h) (G : h.Ns mainGlobals mg) (hfa : mg "law" = some (.ref fa))
    (d_ten_to : DefAt K "ten_to" s_ten_to)
    (d_is_figures : DefAt K "is_figures" s_is_figures)
    (d_number_of : DefAt K "number_of" s_number_of)
    (d_times_at : DefAt K "times_at" s_times_at)
    (d_rows_of : DefAt K "rows_of" s_rows_of)
    (d_floats_at : DefAt K "floats_at" s_floats_at)
    (d_places_of : DefAt K "places_of" s_places_of)
    (d_whole_part : DefAt K "whole_part" s_whole_part)
    (d_broken_part : DefAt K "broken_part" s_broken_part)
    (d_lead_of : DefAt K "lead_of" s_lead_of)
    (d_tail_of : DefAt K "tail_of" s_tail_of)
    (d_number_facts : DefAt K "number_facts" s_number_facts)
    (d_plain_facts : DefAt K "plain_facts" s_plain_facts)
    (d_body_of : DefAt K "body_of" s_body_of)
    (d_edited_facts : DefAt K "edited_facts" s_edited_facts)
    (d_facts_of : DefAt K "facts_of" s_facts_of)
    (d_is_picture : DefAt K "is_picture" s_is_picture)
    (d_understood : DefAt K "understood" s_understood)
    (d_size_of : DefAt K "size_of" s_size_of)
    (d_signs_in : DefAt K "signs_in" s_signs_in)
    (d__law_draw : DefAt K "_law_draw" s__law_draw)
    (d__law_begun : DefAt K "_law_begun" s__law_begun)
    (d__law_item_size : DefAt K "_law_item_size" s__law_item_size)
    (d__law_a_layout : DefAt K "_law_a_layout" s__law_a_layout)
    (d_begins_with_word : DefAt K "begins_with_word" s_begins_with_word)
    (d_is_name : DefAt K "is_name" s_is_name)
    (d_is_whole : DefAt K "is_whole" s_is_whole)
    (d_is_bare_item : DefAt K "is_bare_item" s_is_bare_item)
    (d_is_item : DefAt K "is_item" s_is_item)
    (d_bare : DefAt K "bare" s_bare)
    (d_is_row_of_items : DefAt K "is_row_of_items" s_is_row_of_items)
    (d_overs_have_room : DefAt K "overs_have_room" s_overs_have_room)
    (d_is_layout : DefAt K "is_layout" s_is_layout)
    (d__law_is : DefAt K "_law_is" s__law_is)
    (k_0 : PySem.W.nsIn K mainGlobals "BoxError" = some (some (.ref C0)))
    (k_1 : PySem.W.nsIn K mainGlobals "NoPicture" = some (some (.ref C1)))
    (m_FIGURES : PySem.W.nsIn K mainGlobals "FIGURES" = some (some (.str "0123456789" t0)))
    (m_INSERTED : PySem.W.nsIn K mainGlobals "INSERTED" = some (some (.str ",B0/" t2)))
    (m_SIGNS : PySem.W.nsIn K mainGlobals "SIGNS" = some (some (.str "+-" t3)))
    (m_FLOATING : PySem.W.nsIn K mainGlobals "FLOATING" = some (some (.str "+-$" t4)))
    (m_PLACES : PySem.W.nsIn K mainGlobals "PLACES" = some (some (.str "9Z*+-$" t5)))
    (m_SMALL_LETTERS : PySem.W.nsIn K mainGlobals "SMALL_LETTERS" = some (some (.str "abcdefghijklmnopqrstuvwxyz" t8)))
    (m_PART : PySem.W.nsIn K mainGlobals "PART" = some (some (.int 18 t1)))
    (m_MOST_FIGURES : PySem.W.nsIn K mainGlobals "MOST_FIGURES" = some (some (.int 18 t6)))
    (m_MOST_SIGNS : PySem.W.nsIn K mainGlobals "MOST_SIGNS" = some (some (.int 60 t7)))
    (m_LONGEST_NAME : PySem.W.nsIn K mainGlobals "LONGEST_NAME" = some (some (.int 12 t9)))
    (m_MOST_TIMES : PySem.W.nsIn K mainGlobals "MOST_TIMES" = some (some (.int 30 t10)))
    (m_NUMBER_FORMS : PySem.W.nsIn K mainGlobals "NUMBER_FORMS" = some (some (.ref R0)))
    (m_SHOWN : PySem.W.nsIn K mainGlobals "SHOWN" = some (some (.ref R1)))
    (m_PLAIN_KINDS : PySem.W.nsIn K mainGlobals "PLAIN_KINDS" = some (some (.ref R2)))
    (q_NUMBER_FORMS : ∀ H, SqT K H R0 [.str "9", .str "S9", .str "V9", .str "SV9", .str "9V9", .str "S9V9"])
    (q_SHOWN : ∀ H, SqT K H R1 [.str "+", .str "-", .str "CR", .str "DB"])
    (kd : KDict l.prog w K R2 kinds2)
    (z2_tuple : PySem.W.nsIn K mainGlobals "tuple" = some none)
    (z2_all : PySem.W.nsIn K mainGlobals "all" = some none)
    (z2_set : PySem.W.nsIn K mainGlobals "set" = some none)
    (z2_list : PySem.W.nsIn K mainGlobals "list" = some none)
    (t_NoneType_tuple : PySem.W.kitOne K (.type "NoneType") (.type "tuple") = some false)
    (t_bool_tuple : PySem.W.kitOne K (.type "bool") (.type "tuple") = some false)
    (t_int_tuple : PySem.W.kitOne K (.type "int") (.type "tuple") = some false)
    (t_str_tuple : PySem.W.kitOne K (.type "str") (.type "tuple") = some false)
    (t_tuple_tuple : PySem.W.kitOne K (.type "tuple") (.type "tuple") = some true)
    (t_list_tuple : PySem.W.kitOne K (.type "list") (.type "tuple") = some false)
    (t_NoneType_str : PySem.W.kitOne K (.type "NoneType") (.type "str") = some false)
    (t_bool_str : PySem.W.kitOne K (.type "bool") (.type "str") = some false)
    (t_int_str : PySem.W.kitOne K (.type "int") (.type "str") = some false)
    (t_str_str : PySem.W.kitOne K (.type "str") (.type "str") = some true)
    (t_tuple_str : PySem.W.kitOne K (.type "tuple") (.type "str") = some false)
    (t_list_str : PySem.W.kitOne K (.type "list") (.type "str") = some false)
    (t_int_int : PySem.W.kitOne K (.type "int") (.type "int") = some true)
    (t_bool_int : PySem.W.kitOne K (.type "bool") (.type "int") = some true)
    (t_int_bool : PySem.W.kitOne K (.type "int") (.type "bool") = some false)
    (t_bool_bool : PySem.W.kitOne K (.type "bool") (.type "bool") = some true)
    (t_str : PySem.W.kitOne K (.type "str") (.type "str") = some true)
    (t_int : PySem.W.kitOne K (.type "int") (.type "str") = some false)
    (t_NoneType : PySem.W.kitOne K (.type "NoneType") (.type "str") = some false)
    (t_tuple : PySem.W.kitOne K (.type "tuple") (.type "str") = some false)
    (z_len : PySem.W.nsIn K mainGlobals "len" = some none)
    (z_range : PySem.W.nsIn K mainGlobals "range" = some none)
    (z_abs : PySem.W.nsIn K mainGlobals "abs" = some none)
    (z_max : PySem.W.nsIn K mainGlobals "max" = some none)
    (z_int : PySem.W.nsIn K mainGlobals "int" = some none)
    (z_isi : PySem.W.nsIn K mainGlobals "isinstance" = some none)
    (z_bool : PySem.W.nsIn K mainGlobals "bool" = some none)
    (z_val : PySem.W.nsIn K mainGlobals "ValueError" = some none)
    (z_reversed : PySem.W.nsIn K mainGlobals "reversed" = some none)
    (z_divmod : PySem.W.nsIn K mainGlobals "divmod" = some none)
    (z_str : PySem.W.nsIn K mainGlobals "str" = some none)
    (z_sum : PySem.W.nsIn K mainGlobals "sum" = some none)
    (x1_ex : PySem.W.excIn K C1 [.type "ValueError", .type "Exception", .type "BaseException", .type "object"] "ValueError.__new__" = true)
    (a_law : PySem.W.nsIn K mainGlobals "law" = some (some (.ref fl)))
    (l_law : K.lookup fl = some ⟨oc, od, .func (PySem.W.fnOf "law" "law" (defArgs s_law) (defBody s_law) (defScope s_law) .none kV doc pm an ca ct), osl⟩)
    (c_law : PySem.W.codeIn K ca "law" = true)
    : ∃ fd : FuncData, (∀ (s : Shared) (v : Value), BindsTo s fd ⟨[v], []⟩ [("_law_script", v)]) ∧ ∀ base : Heap, K.In base → base.Ns mainGlobals mg → FnOk l.prog w K mg base (CXE l.prog w) 13 fa fd ["_law_script"] spLaw := by
  have e := hfa.symm.trans (PySem.W.mg_of X G a_law)
  cases e
  have O : Own mg := ⟨PySem.W.mg_none_of X G z_len, PySem.W.mg_none_of X G z_range, PySem.W.mg_none_of X G z_abs, PySem.W.mg_none_of X G z_max, PySem.W.mg_none_of X G z_int, PySem.W.mg_none_of X G z_isi, PySem.W.mg_none_of X G z_bool, PySem.W.mg_none_of X G z_val, PySem.W.mg_none_of X G z_reversed, PySem.W.mg_none_of X G z_divmod, PySem.W.mg_none_of X G z_str, PySem.W.mg_none_of X G z_sum⟩
  have T : Txt K mg (fun i => ([t0, t1, t2, t3, t4, t5, t6, t7, t8, t9, t10] : List Tok).getD i 0) (fun i => ([C0, C1, 0, 0, 0, 0, 0, 0, 0, 0, 0, 0, 0, 0, 0] : List Addr).getD i 0) (fun i => ([R0, R1, R2] : List Addr).getD i 0) := ⟨PySem.W.mg_of X G k_0, PySem.W.mg_of X G k_1, PySem.W.mg_of X G m_FIGURES, PySem.W.mg_of X G m_PART, PySem.W.mg_of X G m_INSERTED, PySem.W.mg_of X G m_SIGNS, PySem.W.mg_of X G m_FLOATING, PySem.W.mg_of X G m_PLACES, PySem.W.mg_of X G m_MOST_FIGURES, PySem.W.mg_of X G m_MOST_SIGNS, PySem.W.mg_of X G m_SMALL_LETTERS, PySem.W.mg_of X G m_LONGEST_NAME, PySem.W.mg_of X G m_MOST_TIMES, PySem.W.mg_of X G m_NUMBER_FORMS, PySem.W.mg_of X G m_SHOWN, PySem.W.mg_of X G m_PLAIN_KINDS, q_NUMBER_FORMS, q_SHOWN, ⟨x1_ex⟩, t_str, t_int, t_NoneType, t_tuple⟩
  have KD : KDict l.prog w K ((fun i => ([R0, R1, R2] : List Addr).getD i 0) 2) kinds2 := kd
  have OT : mg "tuple" = none := PySem.W.mg_none_of X G z2_tuple
  have OA : mg "all" = none := PySem.W.mg_none_of X G z2_all
  have OS : mg "set" = none := PySem.W.mg_none_of X G z2_set
  have OL : mg "list" = none := PySem.W.mg_none_of X G z2_list
  generalize (fun i => ([C0, C1, 0, 0, 0, 0, 0, 0, 0, 0, 0, 0, 0, 0, 0] : List Addr).getD i 0) = c at  T
  generalize (fun i => ([R0, R1, R2] : List Addr).getD i 0) = kr at T KD 
  generalize (fun i => ([t0, t1, t2, t3, t4, t5, t6, t7, t8, t9, t10] : List Tok).getD i 0) = tk at T
  refine ⟨PySem.W.fnOf "law" "law" (defArgs s_law) (defBody s_law) (defScope s_law) .none kV doc pm an ca ct, fun s v => .of_eq rfl, fun base kb nb => ?_⟩
  have KT : KitL K := KitL.of t_NoneType_tuple t_bool_tuple t_int_tuple t_str_tuple t_tuple_tuple t_list_tuple t_NoneType_str t_bool_str t_int_str t_str_str t_tuple_str t_list_str t_int_int t_bool_int t_int_bool t_bool_bool
  have D_ten_to : Def l.prog w K mg base 1 "ten_to" ["many"] (spTen) := d_ten_to.d1 X G (fun f fd F => ok_ten_to F O) fun _ _ _ _ _ _ _ => rfl
  have D_is_figures : Def l.prog w K mg base 1 "is_figures" ["text"] (spIsFig) := d_is_figures.d1 X G (fun f fd F => ok_is_figures F T) fun _ _ _ _ _ _ _ => rfl
  have D_number_of : Def l.prog w K mg base 2 "number_of" ["text"] (spNum) := d_number_of.d1 X G (fun f fd F => ok_number_of F O T D_ten_to) fun _ _ _ _ _ _ _ => rfl
  have D_times_at : Def l.prog w K mg base 3 "times_at" ["text", "at"] (spTimes) := d_times_at.d2 X G (fun f fd F => ok_times_at F O T D_is_figures D_number_of) fun _ _ _ _ _ _ _ _ => rfl
  have D_rows_of : Def l.prog w K mg base 4 "rows_of" ["thing"] (spRows K) := d_rows_of.d1 X G (fun f fd F => ok_rows_of F O T D_times_at) fun _ _ _ _ _ _ _ => rfl
  have D_floats_at : Def l.prog w K mg base 1 "floats_at" ["rows", "at"] (spFloats K) := d_floats_at.d2 X G (fun f fd F => ok_floats_at F O T) fun _ _ _ _ _ _ _ _ => rfl
  have D_places_of : Def l.prog w K mg base 1 "places_of" ["rows", "at", "place"] (spPlaces K) := d_places_of.d3 X G (fun f fd F => ok_places_of F O T) fun _ _ _ _ _ _ _ _ _ => rfl
  have D_whole_part : Def l.prog w K mg base 2 "whole_part" ["rows", "at"] (spWhole K) := d_whole_part.d2 X G (fun f fd F => ok_whole_part F O T D_places_of) fun _ _ _ _ _ _ _ _ => rfl
  have D_broken_part : Def l.prog w K mg base 1 "broken_part" ["rows", "at", "place"] (spBroken K) := d_broken_part.d3 X G (fun f fd F => ok_broken_part F O T) fun _ _ _ _ _ _ _ _ _ => rfl
  have D_lead_of : Def l.prog w K mg base 2 "lead_of" ["rows"] (spLead K) := d_lead_of.d1 X G (fun f fd F => ok_lead_of F O T D_floats_at) fun _ _ _ _ _ _ _ => rfl
  have D_tail_of : Def l.prog w K mg base 1 "tail_of" ["rows", "at"] (spTail K) := d_tail_of.d2 X G (fun f fd F => ok_tail_of F O T) fun _ _ _ _ _ _ _ _ => rfl
  have D_number_facts : Def l.prog w K mg base 1 "number_facts" ["rows"] (spFacts K numberFacts) := d_number_facts.d1 X G (fun f fd F => ok_number_facts F O T) fun _ _ _ _ _ _ _ => rfl
  have D_plain_facts : Def l.prog w K mg base 1 "plain_facts" ["rows"] (spFacts K plainFacts) := d_plain_facts.d1 X G (fun f fd F => ok_plain_facts F O T KD) fun _ _ _ _ _ _ _ => rfl
  have D_body_of : Def l.prog w K mg base 3 "body_of" ["rows", "at"] (spBody K) := d_body_of.d2 X G (fun f fd F => ok_body_of F D_whole_part D_broken_part) fun _ _ _ _ _ _ _ _ => rfl
  have D_edited_facts : Def l.prog w K mg base 4 "edited_facts" ["rows"] (spFacts K editedFacts) := d_edited_facts.d1 X G (fun f fd F => ok_edited_facts F O T D_lead_of D_body_of D_tail_of) fun _ _ _ _ _ _ _ => rfl
  have D_facts_of : Def l.prog w K mg base 5 "facts_of" ["rows"] (spFacts K factsOf) := d_facts_of.d1 X G (fun f fd F => ok_facts_of F D_number_facts D_plain_facts D_edited_facts) fun _ _ _ _ _ _ _ => rfl
  have D_is_picture : Def l.prog w K mg base 6 "is_picture" ["thing"] (spIsPic K) := d_is_picture.d1 X G (fun f fd F => ok_is_picture F D_rows_of D_facts_of) fun _ _ _ _ _ _ _ => rfl
  have D_understood : Def l.prog w K mg base 6 "understood" ["picture"] (spUnder K c) := d_understood.d1 X G (fun f fd F => ok_understood F T D_rows_of D_facts_of) fun _ _ _ _ _ _ _ => rfl
  have D_size_of : Def l.prog w K mg base 7 "size_of" ["picture"] (spSize) := d_size_of.d1 X G (fun f fd F => ok_size_of F O D_understood) fun _ _ _ _ _ _ _ => rfl
  have D_signs_in : Def l.prog w K mg base 8 "signs_in" ["layout"] (spSigns) := d_signs_in.d1 X G (fun f fd F => ok_signs_in F D_size_of) fun _ _ _ _ _ _ _ => rfl
  have D__law_draw : Def l.prog w K mg base 1 "_law_draw" ["_law_script", "_law_town", "_law_many"] (spDraw K) := d__law_draw.d3 X G (fun f fd F => ok__law_draw F O) fun _ _ _ _ _ _ _ _ _ => rfl
  have D__law_begun : Def l.prog w K mg base 1 "_law_begun" [] (spBegun) := d__law_begun.d0 X G (fun f fd F => ok__law_begun F ) fun _ _ _ _ _ _ => rfl
  have D__law_item_size_0 : Def l.prog w K mg base 1 "_law_item_size" ["_law_item"] (spISz 0) := d__law_item_size.d1 X G (fun f fd F => ok__law_item_size0 F ) fun _ _ _ _ _ _ _ => rfl
  have D__law_item_size_1 : Def l.prog w K mg base 2 "_law_item_size" ["_law_item"] (spISz 1) := d__law_item_size.d1 X G (fun f fd F => ok__law_item_size 0 F O D__law_item_size_0) fun _ _ _ _ _ _ _ => rfl
  have D__law_item_size_2 : Def l.prog w K mg base 3 "_law_item_size" ["_law_item"] (spISz 2) := d__law_item_size.d1 X G (fun f fd F => ok__law_item_size 1 F O D__law_item_size_1) fun _ _ _ _ _ _ _ => rfl
  have D__law_item_size_3 : Def l.prog w K mg base 4 "_law_item_size" ["_law_item"] (spISz 3) := d__law_item_size.d1 X G (fun f fd F => ok__law_item_size 2 F O D__law_item_size_2) fun _ _ _ _ _ _ _ => rfl
  have D__law_a_layout_0 : Def l.prog w K mg base 4 "_law_a_layout" ["_law_script", "_law_town", "_law_deep"] (spALay K 0) := d__law_a_layout.d3 X G (fun f fd F => ok__law_a_layout0 F ) fun _ _ _ _ _ _ _ _ _ => rfl
  have D__law_a_layout_1 : Def l.prog w K mg base 5 "_law_a_layout" ["_law_script", "_law_town", "_law_deep"] (spALay K 1) := d__law_a_layout.d3 X G (fun f fd F => ok__law_a_layout 0 F O D__law_draw D__law_item_size_3 D__law_a_layout_0) fun _ _ _ _ _ _ _ _ _ => rfl
  have D__law_a_layout_2 : Def l.prog w K mg base 6 "_law_a_layout" ["_law_script", "_law_town", "_law_deep"] (spALay K 2) := d__law_a_layout.d3 X G (fun f fd F => ok__law_a_layout 1 F O D__law_draw D__law_item_size_3 D__law_a_layout_1) fun _ _ _ _ _ _ _ _ _ => rfl
  have D__law_a_layout_3 : Def l.prog w K mg base 7 "_law_a_layout" ["_law_script", "_law_town", "_law_deep"] (spALay K 3) := d__law_a_layout.d3 X G (fun f fd F => ok__law_a_layout 2 F O D__law_draw D__law_item_size_3 D__law_a_layout_2) fun _ _ _ _ _ _ _ _ _ => rfl
  have D_begins_with_word : Def l.prog w K mg base 1 "begins_with_word" ["thing"] (spBww) := d_begins_with_word.d1 X G (fun f fd F => ok_begins_with_word F O OT KT) fun _ _ _ _ _ _ _ => rfl
  have D_is_name : Def l.prog w K mg base 1 "is_name" ["thing"] (spName) := d_is_name.d1 X G (fun f fd F => ok_is_name F O T KT) fun _ _ _ _ _ _ _ => rfl
  have D_is_whole : Def l.prog w K mg base 1 "is_whole" ["thing"] (spWhole1) := d_is_whole.d1 X G (fun f fd F => ok_is_whole F O KT) fun _ _ _ _ _ _ _ => rfl
  have D_is_bare_item : Def l.prog w K mg base 7 "is_bare_item" ["thing"] (spBareI) := d_is_bare_item.d1 X G (fun f fd F => ok_is_bare_item F O T D_begins_with_word D_is_name D_is_whole D_is_picture) fun _ _ _ _ _ _ _ => rfl
  have D_is_item : Def l.prog w K mg base 8 "is_item" ["thing"] (spItem) := d_is_item.d1 X G (fun f fd F => ok_is_item F O D_begins_with_word D_is_bare_item) fun _ _ _ _ _ _ _ => rfl
  have D_bare : Def l.prog w K mg base 1 "bare" ["item"] (spBareW) := d_bare.d1 X G (fun f fd F => ok_bareW F ) fun _ _ _ _ _ _ _ => rfl
  have D_is_row_of_items : Def l.prog w K mg base 9 "is_row_of_items" ["thing"] (spRow) := d_is_row_of_items.d1 X G (fun f fd F => ok_is_row_of_items F O OT OA OS KT D_is_item D_bare) fun _ _ _ _ _ _ _ => rfl
  have D_overs_have_room : Def l.prog w K mg base 9 "overs_have_room" ["items"] (spOvers) := d_overs_have_room.d1 X G (fun f fd F => ok_overs_have_room F D_signs_in) fun _ _ _ _ _ _ _ => rfl
  have D_is_layout : Def l.prog w K mg base 10 "is_layout" ["thing"] (spIsLay) := d_is_layout.d1 X G (fun f fd F => ok_is_layout F O OA D_is_row_of_items D_bare D_overs_have_room) fun _ _ _ _ _ _ _ => rfl
  have D__law_is : Def l.prog w K mg base 1 "_law_is" ["_law_told", "_law_due"] (spIs) := d__law_is.d2 X G (fun f fd F => ok__law_is F O KT) fun _ _ _ _ _ _ _ _ => rfl
  exact ok_law (P := l.prog) (w := w) (base := base) ⟨oc, od, kV, doc, pm, an, ct, osl, rfl, l_law, c_law⟩ O OL D__law_draw D__law_begun D__law_a_layout_3 D__law_is D_is_layout
theorem cxe_no {P : Program} {w : World} {H : Hp} {s : Shared} {e : Value} {s' : Shared} (z : CXE P w [] H s (fun _ _ _ => False) e s') : False := by
  obtain ⟨_, _, _, _, _, _, _, _, _, _, _, _, _, _, h⟩ := z
  exact h
end Lw
/-! names that keep the head from laying twins of what it need not look into -/
namespace PySem.W.Fast
theorem tw5918334340968134656 : True := trivial
theorem tw13498802655804831872 : True := trivial
theorem tw16434988867251314848 : True := trivial
theorem tw8759625148902637984 : True := trivial
theorem tw11231937835332506336 : True := trivial
theorem tw15455168296604250912 : True := trivial
theorem tw2948061644874248289 : True := trivial
theorem tw5799179935842684097 : True := trivial
theorem tw15834927189661272417 : True := trivial
theorem tw17345769715668865537 : True := trivial
theorem tw16439420218136945185 : True := trivial
theorem tw13318430099634517889 : True := trivial
theorem tw10220429747133579169 : True := trivial
theorem tw1807123169618644994 : True := trivial
theorem tw2862419561965381634 : True := trivial
theorem tw18088813415032771938 : True := trivial
theorem tw13335937706172244418 : True := trivial
theorem tw13340132306082786691 : True := trivial
theorem tw1152990094629171907 : True := trivial
theorem tw5166894109061922595 : True := trivial
theorem tw16526801848874013571 : True := trivial
theorem tw1948617004428314563 : True := trivial
theorem tw5985414880709536804 : True := trivial
theorem tw14515370614077561956 : True := trivial
theorem tw15256030856442202212 : True := trivial
theorem tw4483643866563344548 : True := trivial
theorem tw4058460601701388676 : True := trivial
theorem tw8988225843208171972 : True := trivial
theorem tw178582489221210692 : True := trivial
theorem tw1147171664539169348 : True := trivial
theorem tw14760204214437632676 : True := trivial
theorem tw11962932451203976900 : True := trivial
theorem tw10294144551004140581 : True := trivial
theorem tw637482073960772837 : True := trivial
theorem tw16664108624548820998 : True := trivial
theorem tw16667904071049694246 : True := trivial
theorem tw4828983909115517158 : True := trivial
theorem tw5575099306793044230 : True := trivial
theorem tw14452963644502525222 : True := trivial
theorem tw4199301994212072742 : True := trivial
theorem tw12193827945527062822 : True := trivial
theorem tw13304852517797921126 : True := trivial
theorem tw8188437582740404614 : True := trivial
theorem tw6710258827443445158 : True := trivial
theorem tw16833323113138931206 : True := trivial
theorem tw15422156828609359462 : True := trivial
theorem tw9917542883583348326 : True := trivial
theorem tw9805180734164408006 : True := trivial
theorem tw13584748733691909926 : True := trivial
theorem tw11271624632399496231 : True := trivial
theorem tw13473869296824333415 : True := trivial
theorem tw18131159067056823687 : True := trivial
theorem tw14673897090900548135 : True := trivial
theorem tw12047485369088628295 : True := trivial
theorem tw16354875898331639527 : True := trivial
theorem tw18233754120516530983 : True := trivial
theorem tw13066452016055440231 : True := trivial
theorem tw5373897687954794471 : True := trivial
theorem tw11382399482613635304 : True := trivial
theorem tw1917787293038721384 : True := trivial
theorem tw13041186833628233384 : True := trivial
theorem tw18157754205618100200 : True := trivial
theorem tw3677649101644936168 : True := trivial
theorem tw14494296710921579657 : True := trivial
theorem tw16989334571542341865 : True := trivial
theorem tw8355203444325227113 : True := trivial
theorem tw10628078849294503561 : True := trivial
theorem tw3468549676327231465 : True := trivial
theorem tw18349413012725580426 : True := trivial
theorem tw11981561891595880202 : True := trivial
theorem tw16132566114534901578 : True := trivial
theorem tw10058480598679343211 : True := trivial
theorem tw2577963176009504011 : True := trivial
theorem tw11207450071635877323 : True := trivial
theorem tw16169603882070183371 : True := trivial
theorem tw2626829278067788235 : True := trivial
theorem tw16287464357028348491 : True := trivial
theorem tw12606513052133634731 : True := trivial
theorem tw9898134487367889803 : True := trivial
theorem tw11888870525364521867 : True := trivial
theorem tw11068244734104396747 : True := trivial
theorem tw16204081846628623564 : True := trivial
theorem tw7190896389184286956 : True := trivial
theorem tw4045741039982909772 : True := trivial
theorem tw17868303109924056620 : True := trivial
theorem tw10133795046295973740 : True := trivial
theorem tw8074231176058533836 : True := trivial
theorem tw17557011877700483085 : True := trivial
theorem tw6787562637980252333 : True := trivial
theorem tw7343196015430536461 : True := trivial
theorem tw12846359504402751821 : True := trivial
theorem tw9958678387862433806 : True := trivial
theorem tw2308314176157767790 : True := trivial
theorem tw7625819952471858350 : True := trivial
theorem tw8715578869032239342 : True := trivial
theorem tw6092377638742251790 : True := trivial
theorem tw716769720031429966 : True := trivial
theorem tw13823826182289589582 : True := trivial
theorem tw13225764150865796814 : True := trivial
theorem tw11415189715158288302 : True := trivial
theorem tw14000295447279950959 : True := trivial
theorem tw5897841915971123407 : True := trivial
theorem tw17650063510792634575 : True := trivial
theorem tw9137840969298432239 : True := trivial
theorem tw15415006957396280911 : True := trivial
theorem tw2493911493422035631 : True := trivial
theorem tw10345815256938686159 : True := trivial
theorem tw1787804200563300143 : True := trivial
theorem tw2425651082016195407 : True := trivial
theorem tw3307928838379634704 : True := trivial
theorem tw11512200161809228848 : True := trivial
theorem tw18198876830974649520 : True := trivial
theorem tw199433380845526576 : True := trivial
theorem tw1788667344163679792 : True := trivial
theorem tw5616241831200752272 : True := trivial
theorem tw144598656017827504 : True := trivial
theorem tw17880632366201749232 : True := trivial
theorem tw9676925655593891921 : True := trivial
theorem tw17321172194355490993 : True := trivial
theorem tw13860891627624724817 : True := trivial
theorem tw16138857627246280113 : True := trivial
theorem tw17837022608934270513 : True := trivial
theorem tw18431464311679011633 : True := trivial
theorem tw3874529150230606930 : True := trivial
theorem tw17930499933566232690 : True := trivial
theorem tw13249413667387321618 : True := trivial
theorem tw17734172356692794674 : True := trivial
theorem tw14810034141612648018 : True := trivial
theorem tw12897196440519394066 : True := trivial
theorem tw735787855269824434 : True := trivial
theorem tw5384200665658937266 : True := trivial
theorem tw16416613041315884083 : True := trivial
theorem tw1017494490483271923 : True := trivial
theorem tw3536336192911475987 : True := trivial
theorem tw10712343439018881491 : True := trivial
theorem tw13791287739794144083 : True := trivial
theorem tw18294025456513354836 : True := trivial
theorem tw1769086732987428020 : True := trivial
theorem tw5011766383724281236 : True := trivial
theorem tw1872932517374699060 : True := trivial
theorem tw15726032141316920916 : True := trivial
theorem tw14094786639738326836 : True := trivial
theorem tw8405481226439126996 : True := trivial
theorem tw11214742483245998101 : True := trivial
theorem tw15401466825782609973 : True := trivial
theorem tw16264491229702332597 : True := trivial
theorem tw17165589001937807605 : True := trivial
theorem tw10572756815226545749 : True := trivial
theorem tw13167885226672791317 : True := trivial
theorem tw13408252745244832629 : True := trivial
theorem tw6675508213149344661 : True := trivial
theorem tw8613339078547509750 : True := trivial
theorem tw15886285637167972022 : True := trivial
theorem tw9041923697164581590 : True := trivial
theorem tw14589050949478939382 : True := trivial
theorem tw10329352308816045942 : True := trivial
theorem tw9297763352741059927 : True := trivial
theorem tw4931308288651179383 : True := trivial
theorem tw9777336592282652407 : True := trivial
theorem tw6388160700377774871 : True := trivial
theorem tw11856942101377571064 : True := trivial
theorem tw8212370511315811608 : True := trivial
theorem tw10935234336825720152 : True := trivial
theorem tw10539113970301269400 : True := trivial
theorem tw12596601112783403608 : True := trivial
theorem tw2467223605612422776 : True := trivial
theorem tw10109806380098422488 : True := trivial
theorem tw12153966946666137464 : True := trivial
theorem tw1580528081821352856 : True := trivial
theorem tw17228967930162904024 : True := trivial
theorem tw6428871755816986616 : True := trivial
theorem tw2107967126104892601 : True := trivial
theorem tw16554788793447326105 : True := trivial
theorem tw15635279031960857209 : True := trivial
theorem tw11755192906176428729 : True := trivial
theorem tw7426124951590305465 : True := trivial
theorem tw13340829925398874841 : True := trivial
theorem tw5035477195661557497 : True := trivial
theorem tw5134603034566135066 : True := trivial
theorem tw1779535927898227034 : True := trivial
theorem tw6679606008619425434 : True := trivial
theorem tw10358718482718997466 : True := trivial
theorem tw5120979444720566395 : True := trivial
theorem tw1425399596315697307 : True := trivial
theorem tw4654642363887551771 : True := trivial
theorem tw10402904809190835675 : True := trivial
theorem tw4924014832465398267 : True := trivial
theorem tw1018001486408323611 : True := trivial
theorem tw9226239013457706651 : True := trivial
theorem tw388042849528015611 : True := trivial
theorem tw6832036406721597788 : True := trivial
theorem tw16845510601448307452 : True := trivial
theorem tw6774986349256791804 : True := trivial
theorem tw14023149218639600604 : True := trivial
theorem tw2387792799647572029 : True := trivial
theorem tw13371007513698952285 : True := trivial
theorem tw11243016975567901853 : True := trivial
theorem tw16501741678684147933 : True := trivial
theorem tw10649258187852472573 : True := trivial
theorem tw7693602369534220573 : True := trivial
theorem tw14169609429583092093 : True := trivial
theorem tw4080493831310386653 : True := trivial
theorem tw6140096114067220989 : True := trivial
theorem tw12924185753007856189 : True := trivial
theorem tw9101453857966733917 : True := trivial
theorem tw12814504937599627869 : True := trivial
theorem tw13336357340561755837 : True := trivial
theorem tw7232453290294164445 : True := trivial
theorem tw11282082527661429790 : True := trivial
theorem tw1016637122799560862 : True := trivial
theorem tw11950764636514349566 : True := trivial
theorem tw16049673872286110238 : True := trivial
theorem tw9695688376078861950 : True := trivial
theorem tw6281910104807085758 : True := trivial
theorem tw17349732698116894462 : True := trivial
theorem tw7938398888304496606 : True := trivial
theorem tw5978821535004311615 : True := trivial
theorem tw3511076395971749087 : True := trivial
theorem tw3265016000367786271 : True := trivial
theorem tw7841864634263581151 : True := trivial
theorem tw12845411430492335647 : True := trivial
theorem tw1656956806340730591 : True := trivial
theorem tw10871378039194849087 : True := trivial
theorem tw16256222671768275871 : True := trivial
theorem tw400595734237188922 : True := trivial
end PySem.W.Fast
open PySem PySem.W PyProof.Rows
set_option maxRecDepth 100000 in
set_option maxHeartbeats 0 in
theorem PySem.Challenge.cw_boxmoves_k25_no_layouts_holds : PySem.Challenge.rw_boxmoves_k25_no_layouts.Holds := by
  w_on; o_law; k_head; (case hw => w_witness2)
  k_fill
  refine L2.walk_ofN (l := PySem.Challenge.rw_boxmoves_k25_no_layouts) (n := 63) (k := 13) (x := "_law_script") (CX := fun w => L2.CXE PySem.Challenge.rw_boxmoves_k25_no_layouts.prog w) (sp := fun _ => Lw.spLaw) rfl (by decide) rfl ⟨rfl, by decide, by decide⟩ (fun w h Y => PySem.W.kIn_of Y) ?nL ?F (fun w H a ns hl hS => ⟨a, ns, rfl, hl, hS, fun _ => rfl⟩) (fun w H s e s' z => Lw.cxe_no z)
  case nL => intro w; kernel_rfl
  case F =>
    intro w mg fa h KX G hmg
    refine' Lw.all_mk KX G hmg ?d_ten_to ?d_is_figures ?d_number_of ?d_times_at ?d_rows_of ?d_floats_at ?d_places_of ?d_whole_part ?d_broken_part ?d_lead_of ?d_tail_of ?d_number_facts ?d_plain_facts ?d_body_of ?d_edited_facts ?d_facts_of ?d_is_picture ?d_understood ?d_size_of ?d_signs_in ?d__law_draw ?d__law_begun ?d__law_item_size ?d__law_a_layout ?d_begins_with_word ?d_is_name ?d_is_whole ?d_is_bare_item ?d_is_item ?d_bare ?d_is_row_of_items ?d_overs_have_room ?d_is_layout ?d__law_is ?k_0 ?k_1 ?m_FIGURES ?m_INSERTED ?m_SIGNS ?m_FLOATING ?m_PLACES ?m_SMALL_LETTERS ?m_PART ?m_MOST_FIGURES ?m_MOST_SIGNS ?m_LONGEST_NAME ?m_MOST_TIMES ?m_NUMBER_FORMS ?m_SHOWN ?m_PLAIN_KINDS ?q_NUMBER_FORMS ?q_SHOWN ?kd ?z2_tuple ?z2_all ?z2_set ?z2_list ?t_NoneType_tuple ?t_bool_tuple ?t_int_tuple ?t_str_tuple ?t_tuple_tuple ?t_list_tuple ?t_NoneType_str ?t_bool_str ?t_int_str ?t_str_str ?t_tuple_str ?t_list_str ?t_int_int ?t_bool_int ?t_int_bool ?t_bool_bool ?t_str ?t_int ?t_NoneType ?t_tuple ?z_len ?z_range ?z_abs ?z_max ?z_int ?z_isi ?z_bool ?z_val ?z_reversed ?z_divmod ?z_str ?z_sum ?x1_ex ?a_law ?l_law ?c_law
    (case d_ten_to => (refine' L2.defAt_mk ?a ?l ?c ?k; (case a => k_is); (case l => k_is); (case c => k_is); (case k => k_is)))
    (case d_is_figures => (refine' L2.defAt_mk ?a ?l ?c ?k; (case a => k_is); (case l => k_is); (case c => k_is); (case k => k_is)))
    (case d_number_of => (refine' L2.defAt_mk ?a ?l ?c ?k; (case a => k_is); (case l => k_is); (case c => k_is); (case k => k_is)))
    (case d_times_at => (refine' L2.defAt_mk ?a ?l ?c ?k; (case a => k_is); (case l => k_is); (case c => k_is); (case k => k_is)))
    (case d_rows_of => (refine' L2.defAt_mk ?a ?l ?c ?k; (case a => k_is); (case l => k_is); (case c => k_is); (case k => k_is)))
    (case d_floats_at => (refine' L2.defAt_mk ?a ?l ?c ?k; (case a => k_is); (case l => k_is); (case c => k_is); (case k => k_is)))
    (case d_places_of => (refine' L2.defAt_mk ?a ?l ?c ?k; (case a => k_is); (case l => k_is); (case c => k_is); (case k => k_is)))
    (case d_whole_part => (refine' L2.defAt_mk ?a ?l ?c ?k; (case a => k_is); (case l => k_is); (case c => k_is); (case k => k_is)))
    (case d_broken_part => (refine' L2.defAt_mk ?a ?l ?c ?k; (case a => k_is); (case l => k_is); (case c => k_is); (case k => k_is)))
    (case d_lead_of => (refine' L2.defAt_mk ?a ?l ?c ?k; (case a => k_is); (case l => k_is); (case c => k_is); (case k => k_is)))
    (case d_tail_of => (refine' L2.defAt_mk ?a ?l ?c ?k; (case a => k_is); (case l => k_is); (case c => k_is); (case k => k_is)))
    (case d_number_facts => (refine' L2.defAt_mk ?a ?l ?c ?k; (case a => k_is); (case l => k_is); (case c => k_is); (case k => k_is)))
    (case d_plain_facts => (refine' L2.defAt_mk ?a ?l ?c ?k; (case a => k_is); (case l => k_is); (case c => k_is); (case k => k_is)))
    (case d_body_of => (refine' L2.defAt_mk ?a ?l ?c ?k; (case a => k_is); (case l => k_is); (case c => k_is); (case k => k_is)))
    (case d_edited_facts => (refine' L2.defAt_mk ?a ?l ?c ?k; (case a => k_is); (case l => k_is); (case c => k_is); (case k => k_is)))
    (case d_facts_of => (refine' L2.defAt_mk ?a ?l ?c ?k; (case a => k_is); (case l => k_is); (case c => k_is); (case k => k_is)))
    (case d_is_picture => (refine' L2.defAt_mk ?a ?l ?c ?k; (case a => k_is); (case l => k_is); (case c => k_is); (case k => k_is)))
    (case d_understood => (refine' L2.defAt_mk ?a ?l ?c ?k; (case a => k_is); (case l => k_is); (case c => k_is); (case k => k_is)))
    (case d_size_of => (refine' L2.defAt_mk ?a ?l ?c ?k; (case a => k_is); (case l => k_is); (case c => k_is); (case k => k_is)))
    (case d_signs_in => (refine' L2.defAt_mk ?a ?l ?c ?k; (case a => k_is); (case l => k_is); (case c => k_is); (case k => k_is)))
    (case d__law_draw => (refine' L2.defAt_mk ?a ?l ?c ?k; (case a => k_is); (case l => k_is); (case c => k_is); (case k => k_is)))
    (case d__law_begun => (refine' L2.defAt_mk ?a ?l ?c ?k; (case a => k_is); (case l => k_is); (case c => k_is); (case k => k_is)))
    (case d__law_item_size => (refine' L2.defAt_mk ?a ?l ?c ?k; (case a => k_is); (case l => k_is); (case c => k_is); (case k => k_is)))
    (case d__law_a_layout => (refine' L2.defAt_mk ?a ?l ?c ?k; (case a => k_is); (case l => k_is); (case c => k_is); (case k => k_is)))
    (case d_begins_with_word => (refine' L2.defAt_mk ?a ?l ?c ?k; (case a => k_is); (case l => k_is); (case c => k_is); (case k => k_is)))
    (case d_is_name => (refine' L2.defAt_mk ?a ?l ?c ?k; (case a => k_is); (case l => k_is); (case c => k_is); (case k => k_is)))
    (case d_is_whole => (refine' L2.defAt_mk ?a ?l ?c ?k; (case a => k_is); (case l => k_is); (case c => k_is); (case k => k_is)))
    (case d_is_bare_item => (refine' L2.defAt_mk ?a ?l ?c ?k; (case a => k_is); (case l => k_is); (case c => k_is); (case k => k_is)))
    (case d_is_item => (refine' L2.defAt_mk ?a ?l ?c ?k; (case a => k_is); (case l => k_is); (case c => k_is); (case k => k_is)))
    (case d_bare => (refine' L2.defAt_mk ?a ?l ?c ?k; (case a => k_is); (case l => k_is); (case c => k_is); (case k => k_is)))
    (case d_is_row_of_items => (refine' L2.defAt_mk ?a ?l ?c ?k; (case a => k_is); (case l => k_is); (case c => k_is); (case k => k_is)))
    (case d_overs_have_room => (refine' L2.defAt_mk ?a ?l ?c ?k; (case a => k_is); (case l => k_is); (case c => k_is); (case k => k_is)))
    (case d_is_layout => (refine' L2.defAt_mk ?a ?l ?c ?k; (case a => k_is); (case l => k_is); (case c => k_is); (case k => k_is)))
    (case d__law_is => (refine' L2.defAt_mk ?a ?l ?c ?k; (case a => k_is); (case l => k_is); (case c => k_is); (case k => k_is)))
    (case k_0 => k_is)
    (case k_1 => k_is)
    (case m_FIGURES => k_is)
    (case m_INSERTED => k_is)
    (case m_SIGNS => k_is)
    (case m_FLOATING => k_is)
    (case m_PLACES => k_is)
    (case m_SMALL_LETTERS => k_is)
    (case m_PART => k_is)
    (case m_MOST_FIGURES => k_is)
    (case m_MOST_SIGNS => k_is)
    (case m_LONGEST_NAME => k_is)
    (case m_MOST_TIMES => k_is)
    (case m_NUMBER_FORMS => k_is)
    (case m_SHOWN => k_is)
    (case m_PLAIN_KINDS => k_is)
    (case q_NUMBER_FORMS => (refine' L2.sqT_mk ?l ?z ?v; (case l => k_is); (case z => show 6 ≤ sizeLine; decide); (case v => exact (.cons ⟨_, rfl⟩ (.cons ⟨_, rfl⟩ (.cons ⟨_, rfl⟩ (.cons ⟨_, rfl⟩ (.cons ⟨_, rfl⟩ (.cons ⟨_, rfl⟩ .nil)))))))))
    (case q_SHOWN => (refine' L2.sqT_mk ?l ?z ?v; (case l => k_is); (case z => show 4 ≤ sizeLine; decide); (case v => exact (.cons ⟨_, rfl⟩ (.cons ⟨_, rfl⟩ (.cons ⟨_, rfl⟩ (.cons ⟨_, rfl⟩ .nil)))))))
    (case kd => (refine' L2.kdict2_mk ?ne ?l ?e1 ?e2 ?hx; (case l => k_is); (case ne => exact rfl); (case e1 => exact rfl); (case e2 => exact rfl); (case hx => decide +kernel)))
    (case z2_tuple => k_is)
    (case z2_all => k_is)
    (case z2_set => k_is)
    (case z2_list => k_is)
    (case t_NoneType_tuple => kit_is)
    (case t_bool_tuple => kit_is)
    (case t_int_tuple => kit_is)
    (case t_str_tuple => kit_is)
    (case t_tuple_tuple => kit_is)
    (case t_list_tuple => kit_is)
    (case t_NoneType_str => kit_is)
    (case t_bool_str => kit_is)
    (case t_int_str => kit_is)
    (case t_str_str => kit_is)
    (case t_tuple_str => kit_is)
    (case t_list_str => kit_is)
    (case t_int_int => kit_is)
    (case t_bool_int => kit_is)
    (case t_int_bool => kit_is)
    (case t_bool_bool => kit_is)
    (case t_str => kit_is)
    (case t_int => kit_is)
    (case t_NoneType => kit_is)
    (case t_tuple => kit_is)
    (case z_len => k_is)
    (case z_range => k_is)
    (case z_abs => k_is)
    (case z_max => k_is)
    (case z_int => k_is)
    (case z_isi => k_is)
    (case z_bool => k_is)
    (case z_val => k_is)
    (case z_reversed => k_is)
    (case z_divmod => k_is)
    (case z_str => k_is)
    (case z_sum => k_is)
    (case x1_ex => k_exc)
    (case a_law => k_is)
    (case l_law => k_is)
    (case c_law => k_is)

