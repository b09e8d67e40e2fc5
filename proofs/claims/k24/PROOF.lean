import PyProof.Rows.All
import Wide.All
import OpenK.AllK
import Wide.FinOn
import Lean
import PyProof.EqAt
import PyProof.EqKinds
import PyProof.TupleCall
import PyProof.NeKinds
import PyProof.WalksMore
import PyProof.Rows.SetFrom
import PyProof.FString5
import PySem.Challenge.RW_boxmoves_k24_whole_boxes_apart
set_option Elab.async false
set_option linter.all false
set_option maxRecDepth 100000
/-! THE HAND LAYER, for ints, bools, texts, own classes, LISTS and tuples (index, slices, in, append, pop ..), calls, loops. Paste it whole ahead of your own text; what your proof does not reach may be deleted. -/
namespace L2
open PySem PySem.Spec PyProof.Rows

/-- a key: an int or a str -/
abbrev Key := Sum Int Str
def keyIs : Key → Value → Bool
  | .inl k, v => Value.isInt k v
  | .inr x, v => Value.isStrOf x v
def keyH (w : World) : Key → Int
  | .inl k => hashInt k
  | .inr x => hashStr w x
theorem keyIs_shape : ∀ {k : Key} {v : Value}, keyIs k v = true → (∃ i t, k = Sum.inl i ∧ v = Value.int i t) ∨ (∃ x t, k = Sum.inr x ∧ v = Value.str x t)
  | .inl i, v, h => by
    obtain ⟨t, e⟩ := Value.isInt_shape (k := i) (v := v) h
    exact .inl ⟨i, t, rfl, e⟩
  | .inr x, v, h => by
    obtain ⟨t, e⟩ := Value.isStrOf_shape (x := x) (v := v) h
    exact .inr ⟨x, t, rfl, e⟩
theorem keyIs_int (i : Int) (t : Tok) : keyIs (.inl i) (.int i t) = true := by simp [keyIs, Value.isInt]
theorem keyIs_str (x : Str) (t : Tok) : keyIs (.inr x) (.str x t) = true := by simp [keyIs, Value.isStrOf]
theorem key_ll (a b : Int) : decide ((Sum.inl a : Key) = Sum.inl b) = (a == b) := by
  by_cases e : a = b
  · subst e; simp
  · have h : ¬ (Sum.inl a : Key) = Sum.inl b := fun q => e (Sum.inl.inj q)
    rw [decide_eq_false h]
    exact (beq_eq_false_iff_ne.mpr e).symm
theorem key_rr (a b : Str) : decide ((Sum.inr a : Key) = Sum.inr b) = decide (a = b) := by
  by_cases e : a = b
  · subst e; simp
  · have h : ¬ (Sum.inr a : Key) = Sum.inr b := fun q => e (Sum.inr.inj q)
    rw [decide_eq_false h, decide_eq_false e]
theorem key_lr (a : Int) (b : Str) : decide ((Sum.inl a : Key) = Sum.inr b) = false := decide_eq_false (fun q => nomatch q)
theorem key_rl (a : Str) (b : Int) : decide ((Sum.inr a : Key) = Sum.inl b) = false := decide_eq_false (fun q => nomatch q)

def mixKind (prog : Program) (w : World) : PySem.KeyKind prog w Key where
  is := keyIs
  hash := keyH w
  inj := fun v a b ha hb => by
    rcases keyIs_shape ha with ⟨i, t, rfl, rfl⟩ | ⟨x, t, rfl, rfl⟩
    · rcases keyIs_shape hb with ⟨j, u, rfl, e⟩ | ⟨y, u, rfl, e⟩
      · injection e with e1 _; rw [e1]
      · exact nomatch e
    · rcases keyIs_shape hb with ⟨j, u, rfl, e⟩ | ⟨y, u, rfl, e⟩
      · exact nomatch e
      · injection e with e1 _; rw [e1]
  byValue := fun k v h => by
    rcases keyIs_shape h with ⟨i, t, rfl, rfl⟩ | ⟨x, t, rfl, rfl⟩ <;> rfl
  pyHash := fun hv h => by
    rcases keyIs_shape hv with ⟨i, t, rfl, rfl⟩ | ⟨x, t, rfl, rfl⟩
    · exact wpAny_pyHash_int h
    · exact wpAny_pyHash_str h
  eqBool := fun hu hv h => by
    rcases keyIs_shape hu with ⟨i, t, rfl, rfl⟩ | ⟨x, t, rfl, rfl⟩
    · rcases keyIs_shape hv with ⟨j, u, rfl, rfl⟩ | ⟨y, u, rfl, rfl⟩
      · rw [key_ll] at h; exact wpAny_eqBool_int h
      · rw [key_lr] at h; exact SeqAt.EqAt.int_str i t y u _ _ _ _ h
    · rcases keyIs_shape hv with ⟨j, u, rfl, rfl⟩ | ⟨y, u, rfl, rfl⟩
      · rw [key_rl] at h; exact SeqAt.EqAt.str_int x t j u _ _ _ _ h
      · rw [key_rr] at h; exact wpAny_eqBool_str h
  «strs» := fun k x t v h => by
    rcases keyIs_shape h with ⟨i, u, rfl, e⟩ | ⟨y, u, rfl, e⟩
    · exact nomatch e
    · injection e with e1 _
      subst e1
      cases v <;> rfl

theorem mixKind_int (prog : Program) (w : World) (i : Int) (t : Tok) : (mixKind prog w).is (.inl i) (.int i t) = true := keyIs_int i t
theorem mixKind_str (prog : Program) (w : World) (x : Str) (t : Tok) : (mixKind prog w).is (.inr x) (.str x t) = true := keyIs_str x t
end L2

namespace L2
open PySem PySem.Spec PyProof.Rows

/-- a value, without the heap -/
inductive V where
  | non | bl (b : Bool) | int (i : Int) | str (x : Str) | byt (b : Array UInt8) | flt (b : UInt64) | ref (a : Addr) | ty (n : String)
  deriving DecidableEq

def RelV : V → Value → Prop
  | .non, u => u = Value.none
  | .bl b, u => u = Value.bool b
  | .int i, u => ∃ t, u = Value.int i t
  | .str x, u => ∃ t, u = Value.str x t
  | .byt b, u => ∃ t, u = Value.bytes b t
  | .flt b, u => ∃ t, u = Value.float b t
  | .ref a, u => u = Value.ref a
  | .ty n, u => u = Value.type n

abbrev Vals : List V → List Value → Prop := Paired RelV
theorem Vals.length {xs : List V} {us : List Value} (r : Vals xs us) : xs.length = us.length := Paired.length r
theorem Vals.get : ∀ {xs : List V} {us : List Value} {i : Nat} {x : V}, Vals xs us → xs[i]? = some x → ∃ u, us[i]? = some u ∧ RelV x u
  | _, _, _, _, .nil, e => by simp at e
  | _, _, 0, _, .cons r _, e => by simp at e; subst e; exact ⟨_, rfl, r⟩
  | _, _, i + 1, x, .cons _ t, e => by
    obtain ⟨u, h1, h2⟩ := Vals.get (i := i) (x := x) t (by simpa using e)
    exact ⟨u, by simpa using h1, h2⟩
theorem Vals.set {x : V} {u : Value} (r : RelV x u) : ∀ {xs : List V} {us : List Value} (i : Nat), Vals xs us → Vals (xs.set i x) (us.set i u)
  | _, _, _, .nil => .nil
  | _, _, 0, .cons _ t => .cons r t
  | _, _, i + 1, .cons q t => .cons q (Vals.set r i t)
theorem Vals.append : ∀ {xs ys : List V} {us ws : List Value}, Vals xs us → Vals ys ws → Vals (xs ++ ys) (us ++ ws)
  | _, _, _, _, .nil, s => s
  | _, _, _, _, .cons r t, s => .cons r (Vals.append t s)
theorem Vals.take : ∀ {xs : List V} {us : List Value} (n : Nat), Vals xs us → Vals (xs.take n) (us.take n)
  | _, _, 0, _ => .nil
  | _, _, _ + 1, .nil => .nil
  | _, _, n + 1, .cons r t => .cons r (Vals.take n t)
theorem Vals.drop : ∀ {xs : List V} {us : List Value} (n : Nat), Vals xs us → Vals (xs.drop n) (us.drop n)
  | _, _, 0, r => r
  | _, _, _ + 1, .nil => .nil
  | _, _, n + 1, .cons _ t => Vals.drop n t
def RelO : Option V → Option Value → Prop
  | some v, some u => RelV v u
  | none, none => True
  | _, _ => False
def KV {κ : Type} : List (κ × V) → List (κ × Value) → Prop := Paired fun (p : κ × V) (q : κ × Value) => p.1 = q.1 ∧ RelV p.2 q.2

/-- a key of a dict (00_mix): an int or a text -/
def kV : Key → V
  | .inl i => .int i
  | .inr x => .str x

/-- what stands at a tracked address -/
inductive HO where
  /-- a list -/
  | lst (xs : List V)
  /-- a tuple (never changes) -/
  | tup (xs : List V)
  /-- a dict whose keys are ints and texts; one whose keys are tuples of ints and texts (the empty one is both) -/
  | dK (kvs : List (Key × V)) | dT (kvs : List (List Key × V))
  /-- a set of ints: its members, its size -/
  | set (S : Int → Bool) (n : Nat)
  /-- an instance of the class at C, its dict at dx, its attributes -/
  | ins (C dx : Addr) (fs : List (Str × V))
  /-- the dict of the instance at x -/
  | own (x : Addr)
  /-- the dict of an exception -/
  | xd (fs : List (Str × V))
  /-- a bound method, f of x -/
  | met (f x : Addr)
  /-- a range object lo, lo + 1, .. below hi -/
  | rng (lo hi : Int)
  /-- a thing that is known to the object (the script; a dict while a loop walks it): read, never written while it is so -/
  | frz (o : Obj) (u : HO)
  /-- a code object's table -/
  | tbl (ps : Array Value)
  /-- any other thing, by what is true of its one object (a def of one's own: SetO a S n := HO.ext fun h => ..) -/
  | ext (φ : Heap → Prop)

abbrev Hp := Addr → Option HO
def upd (H : Hp) (a : Addr) (o : HO) : Hp := fun b => if b = a then some o else H b
theorem upd_same {H : Hp} {a : Addr} {o : HO} : upd H a o a = some o := by unfold upd; rw [if_pos rfl]
theorem upd_ne {H : Hp} {a b : Addr} {o : HO} (h : b ≠ a) : upd H a o b = H b := by unfold upd; rw [if_neg h]
/-- two objects of different content stand apart -/
theorem ne_of {H : Hp} {a b : Addr} {o u : HO} (h : H a = some o) (h' : H b = some u) (d : o ≠ u) : a ≠ b := by
  intro e; subst e; rw [h] at h'; exact d (Option.some.inj h')
theorem ne_of_none {H : Hp} {a b : Addr} {o : HO} (h : H a = some o) (h' : H b = none) : a ≠ b := by
  intro e; subst e; rw [h] at h'; cases h'

/-- a tuple, with no dict of its own -/
def IsTupX (h : Heap) (a : Addr) (items : Array Value) : Prop := ∃ o, h.get? a = some o ∧ o.cls = .type "tuple" ∧ ∃ n, o.data = .seq items n ∧ o.dict = none
theorem IsTupX.tup {h : Heap} {a : Addr} {items : Array Value} (p : IsTupX h a items) : IsTup h a items := let ⟨o, h1, h2, n, h3, _⟩ := p; ⟨o, h1, h2, n, h3⟩
theorem IsTupX.new (h : Heap) (items : Array Value) : IsTupX (h.push { cls := .type "tuple", data := .seq items }) h.objs.size items := ⟨_, Heap.get?_push_size _ rfl, rfl, _, rfl, rfl⟩
section
variable (P : Program) (w : World)
def ObjOk (H : Hp) (h : Heap) (a : Addr) : HO → Prop
  | .lst xs => xs.length ≤ sizeLine ∧ ∃ (its : List Value) (n : Nat), Vals xs its ∧ h.get? a = some { cls := .type "list", data := .seq its.toArray n }
  | .tup xs => xs.length ≤ sizeLine ∧ ∃ its : List Value, Vals xs its ∧ IsTupX h a its.toArray
  | .dK kvs => kvs.length ≤ sizeLine ∧ (a == sysModules) = false ∧ ∃ vs, KV kvs vs ∧ h.DictOf (mixKind P w) a vs
  | .dT kvs => kvs.length ≤ sizeLine ∧ (a == sysModules) = false ∧ ∃ xs : List (List Key × Addr × Value),
      Paired (fun (p : List Key × V) (q : List Key × Addr × Value) => p.1 = q.1 ∧ H q.2.1 = some (.tup (p.1.map kV)) ∧ RelV p.2 q.2.2) kvs xs ∧
      ∃ o es ep, h.get? a = some o ∧ o.ExactDict ∧ o.data = .dict es ep ∧ es.toList = xs.map (entryOfKey (tupleKind (mixKind P w))) ∧ (xs.map (·.1)).Nodup
  | .set S n => h.SetOf (intKind P w) a S n
  | .ins C dx fs => H dx = some (.own a) ∧ fs.length ≤ 1000 ∧ dx ≠ a ∧ h.get? a = some (PySem.W.instObj C dx) ∧
      ∃ mA, h.Ns1 dx mA ∧ (∀ f, RelO (fs.lookup f) (mA f)) ∧ PySem.Within mA (fs.map (·.1))
  | .own _ => ∃ o, h.get? a = some o
  | .xd fs => ∃ mA, h.Ns1 a mA ∧ ∀ f, RelO (fs.lookup f) (mA f)
  | .rng lo hi => ∃ t u v, h.get? a = some { cls := .type "range", data := .fields #[.int lo t, .int hi u, .int 1 v] }
  | .frz o u => h.get? a = some o ∧ ObjOk H h a u
  | .tbl ps => h.get? a = some { cls := .none, data := .fields ps }
  | .met f x => h.get? a = some (PySem.W.methodObj (.ref f) (.ref x))
  | .ext φ => φ h ∧ (∃ o, h.get? a = some o) ∧ ∀ h1 h2 : Heap, φ h1 → (∀ o, h1.get? a = some o → h2.get? a = some o) → φ h2
/-- the abstract heap is held -/
def HOk (H : Hp) (h : Heap) : Prop := ∀ a o, H a = some o → ObjOk P w H h a o
end

section
variable {P : Program} {w : World} {H H' : Hp} {h h' : Heap} {a : Addr} {o : HO}
theorem ObjOk.lt (x : ObjOk P w H h a o) : a < h.objs.size := by
  cases o with
  | lst xs => obtain ⟨_, _, _, _, e⟩ := x; exact Heap.lt_size e
  | tup xs => obtain ⟨_, _, _, p⟩ := x; exact p.tup.lt
  | dK kvs => obtain ⟨_, _, _, _, o, _, _, e, _⟩ := x; exact Heap.lt_size e
  | dT kvs => obtain ⟨_, _, _, _, o, _, _, e, _⟩ := x; exact Heap.lt_size e
  | set S n => obtain ⟨o, _, _, _, e, _⟩ := x; exact Heap.lt_size e
  | ins C dx fs => obtain ⟨_, _, _, e, _⟩ := x; exact Heap.lt_size e
  | own y => obtain ⟨_, e⟩ := x; exact Heap.lt_size e
  | xd fs => obtain ⟨_, ⟨_, _, _, e, _⟩, _⟩ := x; exact Heap.lt_size e
  | rng lo hi => obtain ⟨_, _, _, e⟩ := x; exact Heap.lt_size e
  | frz ob u => obtain ⟨e, _⟩ := x; exact Heap.lt_size e
  | tbl ps => exact Heap.lt_size (show h.get? a = some _ from x)
  | met f y => exact Heap.lt_size (show h.get? a = some _ from x)
  | ext φ => obtain ⟨_, ⟨_, e⟩, _⟩ := x; exact Heap.lt_size e
theorem Paired.mapP {α β : Type} {F G : α → β → Prop} : ∀ {l₁ : List α} {l₂ : List β}, Paired F l₁ l₂ → (∀ a b, F a b → G a b) → Paired G l₁ l₂
  | _, _, .nil, _ => .nil
  | _, _, .cons r t, f => .cons (f _ _ r) (Paired.mapP t f)
/-- what an object's description leans on: its own object, its own dict, the tuples -/
theorem ObjOk.stay (x : ObjOk P w H h a o) (k : ∀ b u, (b = a ∨ H b = some (.own a)) → h.get? b = some u → h'.get? b = some u)
    (ho : ∀ b, H b = some (.own a) → H' b = some (.own a)) (ht : ∀ b xs, H b = some (.tup xs) → H' b = some (.tup xs)) : ObjOk P w H' h' a o := by
  induction o with
  | lst xs => obtain ⟨z, its, n, r, e⟩ := x; exact ⟨z, its, n, r, k _ _ (.inl rfl) e⟩
  | tup xs => obtain ⟨z, its, r, ob, e, c⟩ := x; exact ⟨z, its, r, ob, k _ _ (.inl rfl) e, c⟩
  | dK kvs => obtain ⟨z, y, vs, r, ob, es, ep, e, c⟩ := x; exact ⟨z, y, vs, r, ob, es, ep, k _ _ (.inl rfl) e, c⟩
  | dT kvs =>
    obtain ⟨z, y, xs, r, ob, es, ep, e, c⟩ := x
    exact ⟨z, y, xs, Paired.mapP r fun p q z => ⟨z.1, ht _ _ z.2.1, z.2.2⟩, ob, es, ep, k _ _ (.inl rfl) e, c⟩
  | set S n => obtain ⟨ob, es, ep, t, e, c⟩ := x; exact ⟨ob, es, ep, t, k _ _ (.inl rfl) e, c⟩
  | ins C dx fs =>
    obtain ⟨d, z, ne, e, mA, ⟨od, es, ep, e2, c⟩, r⟩ := x
    exact ⟨ho _ d, z, ne, k _ _ (.inl rfl) e, mA, ⟨od, es, ep, k _ _ (.inr d) e2, c⟩, r⟩
  | own y => obtain ⟨ob, e⟩ := x; exact ⟨ob, k _ _ (.inl rfl) e⟩
  | xd fs => obtain ⟨mA, ⟨od, es, ep, e, c⟩, r⟩ := x; exact ⟨mA, ⟨od, es, ep, k _ _ (.inl rfl) e, c⟩, r⟩
  | rng lo hi => obtain ⟨t, u, v, e⟩ := x; exact ⟨t, u, v, k _ _ (.inl rfl) e⟩
  | frz ob u ih => obtain ⟨e, q⟩ := x; exact ⟨k _ _ (.inl rfl) e, ih q⟩
  | tbl ps =>
    have e : h.get? a = some { cls := .none, data := .fields ps } := x
    show h'.get? a = some { cls := .none, data := .fields ps }
    exact k a _ (.inl rfl) e
  | met f y =>
    have e : h.get? a = some (PySem.W.methodObj (.ref f) (.ref y)) := x
    show h'.get? a = some (PySem.W.methodObj (.ref f) (.ref y))
    exact k a _ (.inl rfl) e
  | ext φ => obtain ⟨p, ⟨o, e⟩, st⟩ := x; exact ⟨st _ _ p fun o q => k _ _ (.inl rfl) q, ⟨o, k _ _ (.inl rfl) e⟩, st⟩
theorem HOk.lt (x : HOk P w H h) (e : H a = some o) : a < h.objs.size := (x a o e).lt
theorem HOk.fresh (x : HOk P w H h) (e : h.objs.size ≤ a) : H a = none := by
  cases q : H a with
  | none => rfl
  | some u => exact absurd (Nat.lt_of_lt_of_le (x.lt q) e) (Nat.lt_irrefl _)
/-- every object of the heap is kept -/
theorem HOk.kept (x : HOk P w H h) (k : ∀ b u, h.get? b = some u → h'.get? b = some u) : HOk P w H h' := fun a o e =>
  (x a o e).stay (fun b u _ q => k b u q) (fun _ q => q) fun _ _ q => q
/-- a new object is laid and tracked -/
theorem HOk.laid (x : HOk P w H h) (k : ∀ b u, h.get? b = some u → h'.get? b = some u) (hp : h.objs.size ≤ a) (new : ObjOk P w (upd H a o) h' a o) : HOk P w (upd H a o) h' := fun b u e => by
  have hn := x.fresh hp
  by_cases hb : b = a
  · subst hb; rw [upd_same] at e; cases e; exact new
  · rw [upd_ne hb] at e
    exact (x b u e).stay (fun c v _ q => k c v q) (fun c q => by rw [upd_ne (ne_of_none q hn)]; exact q) fun c xs q => by rw [upd_ne (ne_of_none q hn)]; exact q
end

/-- what may be read as u: it is u, or a known u -/
def Rd (H : Hp) (a : Addr) (u : HO) : Prop := H a = some u ∨ ∃ o, H a = some (.frz o u)
theorem Rd.ok {P : Program} {w : World} {H : Hp} {h : Heap} {a : Addr} {u : HO} (r : Rd H a u) (x : HOk P w H h) : ObjOk P w H h a u := by
  rcases r with r | ⟨o, r⟩
  · exact x a u r
  · obtain ⟨_, q⟩ := x a _ r
    exact q
/-- what may be written -/
def Mut : Option HO → Prop
  | some (.lst _) => True
  | some (.dK _) => True
  | some (.dT _) => True
  | some (.set _ _) => True
  | some (.ins _ _ _) => True
  | some (.ext _) => True
  | _ => False
section
variable {P : Program} {w : World} {H : Hp} {h h' : Heap} {x e : Addr} {o' : HO}
/-- the object at e is changed: x itself, or the dict of the instance x -/
theorem HOk.write (ok : HOk P w H h) (mu : Mut (H x)) (he : e = x ∨ H e = some (.own x)) (k : ∀ b u, b ≠ e → h.get? b = some u → h'.get? b = some u) (heo : ∃ u, h'.get? e = some u)
    (new : ObjOk P w (upd H x o') h' x o') : HOk P w (upd H x o') h' := fun b u q => by
  have nown : ∀ c y, H c = some (.own y) → c ≠ x := fun c y r z => by subst z; rw [r] at mu; exact mu
  have ntup : ∀ c xs, H c = some (.tup xs) → c ≠ x := fun c xs r z => by subst z; rw [r] at mu; exact mu
  by_cases hb : b = x
  · subst hb; rw [upd_same] at q; cases q; exact new
  · rw [upd_ne hb] at q
    by_cases hbe : b = e
    · have q' : H b = some (.own x) := by
        rcases he with z | z
        · exact absurd (hbe.trans z) hb
        · rw [hbe]; exact z
      rw [q] at q'; cases q'
      obtain ⟨v, hv⟩ := heo
      exact ⟨v, by rw [hbe]; exact hv⟩
    · refine (ok b u q).stay (fun c v hc r => k c v ?_ r) (fun c r => by rw [upd_ne (nown c b r)]; exact r) fun c xs r => by rw [upd_ne (ntup c xs r)]; exact r
      rcases hc with rfl | hc
      · exact hbe
      · rintro rfl
        rcases he with z | z
        · exact nown c b hc z
        · rw [hc] at z; cases z; exact hb rfl
end

/-! ### kept unless tracked; of the frames at fs (the callers') the slots may change (an exception that passes writes there); of the records at ex (iterators) nothing is said -/
structure Un (fs ex : List Addr) (H H' : Hp) (h h' : Heap) : Prop where
  keep : ∀ b o, h.get? b = some o → H b = none → b ∉ fs → b ∉ ex → h'.get? b = some o
  slot : ∀ b o, h.get? b = some o → H b = none → b ∈ fs → b ∉ ex → ∃ sl, h'.get? b = some { o with slots := sl }
  free : ∀ b o, h.get? b = some o → H b = none → b ∉ ex → H' b = none
  there : ∀ b o, h.get? b = some o → b ∉ ex → ∃ o', h'.get? b = some o'
  tups : ∀ b xs, H b = some (.tup xs) → H' b = some (.tup xs)
  frzs : ∀ b o u, H b = some (.frz o u) → H' b = some (.frz o u)
  tbls : ∀ b ps, H b = some (.tbl ps) → ∃ more, H' b = some (.tbl (ps ++ more))
section
variable {fs fs' ex ex' : List Addr} {H H1 H2 : Hp} {h h1 h2 h' : Heap} {a x e : Addr} {o : HO}
theorem Un.any (u : Un fs ex H H1 h h1) {b : Addr} {ob : Obj} (q : h.get? b = some ob) (n : H b = none) (hx : b ∉ ex) : ∃ sl, h1.get? b = some { ob with slots := sl } := by
  by_cases hb : b ∈ fs
  · exact u.slot b ob q n hb hx
  · exact ⟨ob.slots, u.keep b ob q n hb hx⟩
theorem Un.kept (k : ∀ b u, h.get? b = some u → h'.get? b = some u) : Un fs ex H H h h' :=
  ⟨fun b ob q _ _ _ => k b ob q, fun b ob q _ _ _ => ⟨ob.slots, k b ob q⟩, fun _ _ _ n _ => n, fun b ob q _ => ⟨ob, k b ob q⟩, fun _ _ q => q, fun _ _ _ q => q, fun _ ps q => ⟨#[], by rw [q]; simp⟩⟩
theorem Un.refl : Un fs ex H H h h := Un.kept fun _ _ q => q
theorem Un.laid (k : ∀ b u, h.get? b = some u → h'.get? b = some u) (hp : h.objs.size ≤ a) (hn : H a = none) : Un fs ex H (upd H a o) h h' where
  keep := fun b u q _ _ _ => k b u q
  slot := fun b u q _ _ _ => ⟨u.slots, k b u q⟩
  free := fun b u q n _ => by rw [upd_ne (Nat.ne_of_lt (Nat.lt_of_lt_of_le (Heap.lt_size q) hp))]; exact n
  there := fun b u q _ => ⟨u, k b u q⟩
  tups := fun b xs q => by rw [upd_ne (ne_of_none q hn)]; exact q
  frzs := fun b u xs q => by rw [upd_ne (ne_of_none q hn)]; exact q
  tbls := fun b ps q => ⟨#[], by rw [upd_ne (ne_of_none q hn), q]; simp⟩
theorem Un.write (mu : Mut (H x)) (he : e = x ∨ H e = some (.own x)) (k : ∀ b u, b ≠ e → h.get? b = some u → h'.get? b = some u) (heo : ∃ u, h'.get? e = some u) : Un fs ex H (upd H x o) h h' := by
  have hx : ∀ b, H b = none → b ≠ x := fun b n z => by subst z; rw [n] at mu; exact mu
  have hb : ∀ b, H b = none → b ≠ e := fun b n z => by
    subst z
    rcases he with r | r
    · exact hx b n r
    · rw [n] at r; cases r
  have hm : ∀ b u, H b = some u → ¬ Mut (some u) → b ≠ x := fun b u q nm z => by subst z; rw [q] at mu; exact nm mu
  refine ⟨fun b u q n _ _ => k b u (hb b n) q, fun b u q n _ _ => ⟨u.slots, k b u (hb b n) q⟩, fun b u q n _ => by rw [upd_ne (hx b n)]; exact n, fun b u q _ => ?_,
    fun b xs q => by rw [upd_ne (hm b _ q fun z => z)]; exact q, fun b u xs q => by rw [upd_ne (hm b _ q fun z => z)]; exact q, fun b ps q => ⟨#[], by rw [upd_ne (hm b _ q fun z => z), q]; simp⟩⟩
  by_cases hbe : b = e
  · subst hbe; exact heo
  · exact ⟨u, k b u hbe q⟩
end

/-! ### the heap without what is tracked -/
def trk (h : Heap) (H : Hp) : List Addr := (List.range h.objs.size).filter fun a => (H a).isSome
def hidT (h : Heap) (H : Hp) : Heap := PySem.W.hideAll h (trk h H)
theorem hidT_size (h : Heap) (H : Hp) : (hidT h H).objs.size = h.objs.size := PySem.W.hideAll_size _ _
theorem hidT_get {h : Heap} {H : Hp} {b : Addr} {o : Obj} (e : h.get? b = some o) (n : H b = none) : (hidT h H).get? b = some o :=
  PySem.W.hideAll_get _ e fun hm => by
    have q : (H b).isSome = true := (List.mem_filter.mp hm).2
    rw [n] at q; simp at q
theorem of_hidT {h : Heap} {H : Hp} {b : Addr} {o : Obj} (e : (hidT h H).get? b = some o) : h.get? b = some o ∧ H b = none := by
  have e' : h.get? b = some o := PySem.W.of_hideAll (trk h H) e
  refine ⟨e', ?_⟩
  cases q : H b with
  | none => rfl
  | some x =>
    have hm : b ∈ trk h H := List.mem_filter.mpr ⟨List.mem_range.mpr (Heap.lt_size e'), by simp [q]⟩
    have z : (hidT h H).get? b = none := PySem.W.hideAll_none (trk h H) hm
    rw [z] at e; cases e

/-! ### OpenK's ledger, filled with every new object but one -/
end L2

namespace L2
open PySem PySem.Spec PyProof.Rows

/-- the module's facts, over the base: the heap at the law's entry without what is tracked there -/
structure Mod (K : PySem.W.Frag) (mg : Str → Option Value) (base : Heap) : Prop where
  kin : K.In base
  glob : base.Ns mainGlobals mg
  blt : ∃ mb, base.Ns builtinsNs mb ∧ ∀ x : Str, x ≠ "__name__" → mb x = bootBuiltins x
  nolimit : base.NoLimit

/-- the context: a def's body (or a comprehension's block) running. base: fixed through the whole law; s₀, H₀: the entry; outer: the frames whose slots others may change (a def's callers); stack: all frames that run;
   ex: iterators that were made ahead of the entry and are walked here (a comprehension's); fn: the names whose cells were made at the entry (a def: all; a comprehension's block: its own); calm: not within an except suite; pn: pins that every state bears; xe: what is wanted of an exception that leaves the code -/
structure Cx where
  prog : Program
  w : World
  K : PySem.W.Frag
  mg : Str → Option Value
  base : Heap
  A : Around
  N : List Str
  s₀ : Shared
  H₀ : Hp
  env : Env
  outer : List Env
  stack : List Env
  ex : List Addr
  fn : Str → Bool
  calm : Bool
  pn : List (Addr × Obj)
  xe : Value → Shared → Prop
/-- the callers' frames -/
def frs (l : List Env) : List Addr := l.filterMap (·.frame)
abbrev Cx.fs (X : Cx) : List Addr := frs X.outer

def Vis (sc : Scope) (x : Str) : Prop := sc.names.lookup x = some .local ∨ sc.names.lookup x = some .cell ∨ sc.names.lookup x = some .free
def Loc (sc : Scope) (x : Str) : Prop := sc.names.lookup x = some .local ∨ sc.names.lookup x = some .cell
def Look (env : Env) (h : Heap) (m : Str → Option Value) (x : Str) (u : Value) : Prop :=
  (env.kindOf x = some .local ∧ m x = some u) ∨ ((env.kindOf x = some .cell ∨ env.kindOf x = some .free) ∧ ∃ c, env.cells.lookup x = some c ∧ h.IsCell c (some u))

structure Cx.Ok (X : Cx) : Prop where
  mod : Mod X.K X.mg X.base
  kind : X.env.scope.kind = .function
  glob : X.env.globals = mainGlobals
  blt : X.env.builtins = builtinsNs
  above : X.s₀.heap.objs.size ≤ X.env.locals
  inj : ∀ x y c, X.env.cells.lookup x = some c → X.env.cells.lookup y = some c → x = y
  has : ∀ x, (X.env.kindOf x = some .cell ∨ X.env.kindOf x = some .free) → ∃ c, X.env.cells.lookup x = some c
  cab : ∀ x c, X.fn x = true → X.env.cells.lookup x = some c → X.s₀.heap.objs.size ≤ c
  hd : X.calm = true → X.A.handled = none
  frames : X.A.frames = some X.stack
  stk : X.stack = X.outer ∨ (X.stack = X.env :: X.outer ∧ X.env.frame = some X.env.locals)
  exf : ∀ b ∈ X.ex, b ≠ X.env.locals ∧ ∀ x c, X.env.cells.lookup x = some c → c ≠ b
  bs : ∀ b o, X.base.get? b = some o → X.s₀.heap.get? b = some o ∧ X.H₀ b = none
  bsz : X.base.objs.size ≤ X.s₀.heap.objs.size
  noex : ∀ b o, X.base.get? b = some o → b ∉ X.ex
  exfs : ∀ b ∈ X.ex, b ∉ X.fs
  funs : X.s₀.heap.FunFrames X.base X.outer
  frf : ∀ b ∈ X.fs, X.H₀ b = none

structure Inv (X : Cx) (pins : List (Addr × Obj)) (σ : List (Option V)) (H : Hp) (s : Shared) : Prop where
  ok : X.Ok
  os : s.os = X.s₀.os
  bare : AllBare s.gens
  base : Un X.fs X.ex X.H₀ H X.s₀.heap s.heap
  loc : ∃ m, s.heap.Ns X.env.locals m ∧ ∀ (i : Nat) (x : Str) (v : V), X.N[i]? = some x → σ[i]? = some (some v) → Vis X.env.scope x → ∃ u, RelV v u ∧ Look X.env s.heap m x u
  cell : ∀ x c, X.env.cells.lookup x = some c → ∃ v, s.heap.IsCell c v
  free : H X.env.locals = none
  freeC : ∀ x c, X.env.cells.lookup x = some c → H c = none
  pin : ∀ p ∈ X.pn ++ pins, s.heap.get? p.1 = some p.2 ∧ H p.1 = none ∧ p.1 ≠ X.env.locals ∧ p.1 ∉ X.fs ∧ ∀ v, p.2.data ≠ .cell v
  hok : HOk X.prog X.w H s.heap
  len : σ.length = X.N.length

section
variable {X : Cx} {pins : List (Addr × Obj)} {σ : List (Option V)} {H H' : Hp} {s : Shared} {h' : Heap}

theorem Cx.Ok.nofr (ok : X.Ok) {b : Addr} {o : Obj} (e : X.base.get? b = some o) : b ∉ X.fs := fun hb => by
  have := (ok.funs.mem hb).1
  rw [e] at this; cases this
theorem Inv.bs (I : Inv X pins σ H s) : ∀ b o, X.base.get? b = some o → s.heap.get? b = some o ∧ H b = none := fun b o e =>
  ⟨I.base.keep b o (I.ok.bs b o e).1 (I.ok.bs b o e).2 (I.ok.nofr e) (I.ok.noex b o e), I.base.free b o (I.ok.bs b o e).1 (I.ok.bs b o e).2 (I.ok.noex b o e)⟩
theorem Inv.bk (I : Inv X pins σ H s) : ∀ b o, X.base.get? b = some o → s.heap.get? b = some o := fun b o e => (I.bs b o e).1
theorem Inv.mod (I : Inv X pins σ H s) : Mod X.K X.mg X.base := I.ok.mod
theorem Inv.kIn (I : Inv X pins σ H s) : X.K.In s.heap := I.ok.mod.kin.keeps I.bk
theorem Inv.lt (I : Inv X pins σ H s) : X.env.locals < s.heap.objs.size := let ⟨_, hn, _⟩ := I.loc; hn.lt
theorem Inv.sz (I : Inv X pins σ H s) : X.s₀.heap.objs.size ≤ s.heap.objs.size := Nat.le_trans I.ok.above (Nat.le_of_lt I.lt)
theorem Inv.nofs (I : Inv X pins σ H s) {a : Addr} (h : s.heap.objs.size ≤ a) : a ∉ X.fs := fun hb => by
  obtain ⟨_, o, ho, _⟩ := I.ok.funs.mem hb
  exact absurd (Nat.lt_of_lt_of_le (Heap.lt_size ho) (Nat.le_trans I.sz h)) (Nat.lt_irrefl _)
theorem Inv.cne (I : Inv X pins σ H s) : ∀ x c, X.env.cells.lookup x = some c → c ≠ X.env.locals := fun x c e z => by
  obtain ⟨v, o, ho, hd⟩ := I.cell x c e
  obtain ⟨m, ⟨o', es, ep, ho', hd', _⟩, _⟩ := I.loc
  rw [z, ho'] at ho; cases ho; rw [hd'] at hd; cases hd
theorem Inv.funs (I : Inv X pins σ H s) : s.heap.FunFrames X.base X.outer := by
  have all : ∀ (l : List Env), (∀ b ∈ frs l, b ∈ X.fs) → X.s₀.heap.FunFrames X.base l → s.heap.FunFrames X.base l := by
    intro l
    induction l with
    | nil => intro _ _; trivial
    | cons env r ih =>
      intro hs hl
      obtain ⟨hk, ⟨L, o, hf, hn, ho, hd⟩, hr⟩ := hl
      have hL : L ∈ X.fs := hs L (by unfold frs; rw [List.filterMap_cons, hf]; exact List.mem_cons_self)
      obtain ⟨sl, e⟩ := I.base.slot L o ho (I.ok.frf L hL) hL fun z => I.ok.exfs L z hL
      exact ⟨hk, ⟨L, _, hf, hn, e, hd⟩, ih (fun b hb => hs b (by unfold frs; rw [List.filterMap_cons, hf]; exact List.mem_cons_of_mem _ hb)) hr⟩
  exact all X.outer (fun _ hb => hb) I.ok.funs

/-- the frames that run, for a call -/
theorem Inv.stack (I : Inv X pins σ H s) : s.heap.FunFrames X.base X.stack := by
  rcases I.ok.stk with e | ⟨e, hf⟩
  · rw [e]; exact I.funs
  · rw [e]
    obtain ⟨m, hn, _⟩ := I.loc
    refine .cons (by rw [I.ok.kind]; decide) hf hn ?_ I.funs
    exact Heap.get?_none_of_le (Nat.le_trans I.ok.bsz I.ok.above)
theorem Inv.stkSub (I : Inv X pins σ H s) : ∀ b ∈ frs X.stack, b ∈ X.env.locals :: X.fs := fun b hb => by
  rcases I.ok.stk with e | ⟨e, hf⟩
  · rw [e] at hb; exact List.mem_cons_of_mem _ hb
  · rw [e] at hb
    unfold frs at hb
    rw [List.filterMap_cons, hf] at hb
    exact hb
theorem Inv.stkFree (I : Inv X pins σ H s) : ∀ b ∈ frs X.stack, H b = none := fun b hb => by
  rcases List.mem_cons.mp (I.stkSub b hb) with e | hb
  · rw [e]; exact I.free
  · obtain ⟨_, o, ho, _⟩ := I.ok.funs.mem hb
    exact I.base.free b o ho (I.ok.frf b hb) fun z => I.ok.exfs b z hb

/-- THE STEP: the untracked objects but the frame and the records at ch are kept (the callers' frames up to slots), the frame's map is kept, the new abstract heap is held -/
theorem Inv.step {g' : Array GenState} {t' : Nat} {d' : Drawn} {ch : List Addr} (I : Inv X pins σ H s)
    (hch : ∀ b ∈ ch, (b ∈ X.ex ∨ X.s₀.heap.objs.size ≤ b) ∧ b ≠ X.env.locals ∧ (∀ x c, X.env.cells.lookup x = some c → c ≠ b) ∧ ∀ p ∈ X.pn ++ pins, p.1 ≠ b)
    (keep : ∀ b o, b ≠ X.env.locals → b ∉ X.fs → b ∉ ch → s.heap.get? b = some o → H b = none → h'.get? b = some o)
    (slot : ∀ b o, b ≠ X.env.locals → b ∈ X.fs → b ∉ ch → s.heap.get? b = some o → H b = none → ∃ sl, h'.get? b = some { o with slots := sl }) (free : ∀ b o, b ∉ ch → s.heap.get? b = some o → H b = none → H' b = none)
    (there : ∀ b o, b ∉ ch → s.heap.get? b = some o → ∃ o', h'.get? b = some o')
    (tups : ∀ b xs, H b = some (.tup xs) → H' b = some (.tup xs)) (frzs : ∀ b o u, H b = some (.frz o u) → H' b = some (.frz o u)) (tbls : ∀ b ps, H b = some (.tbl ps) → ∃ more, H' b = some (.tbl (ps ++ more)))
    (ns : ∀ m, s.heap.Ns X.env.locals m → h'.Ns X.env.locals m) (hok : HOk X.prog X.w H' h') (hg : AllBare g') :
    Inv X pins σ H' { s with heap := h', gens := g', drawn := d', toks := t' } := by
  have neL : ∀ b o, X.s₀.heap.get? b = some o → b ≠ X.env.locals := fun b o e => Nat.ne_of_lt (Nat.lt_of_lt_of_le (Heap.lt_size e) I.ok.above)
  have neC : ∀ b o, X.s₀.heap.get? b = some o → b ∉ X.ex → b ∉ ch := fun b o e hx hb => by
    rcases (hch b hb).1 with z | z
    · exact hx z
    · exact absurd (Nat.lt_of_lt_of_le (Heap.lt_size e) z) (Nat.lt_irrefl _)
  have cellK : ∀ x c, X.env.cells.lookup x = some c → ∀ v, s.heap.IsCell c v → h'.IsCell c v := fun x c e v ⟨o, ho, hd⟩ => by
    have nch : c ∉ ch := fun z => (hch c z).2.2.1 x c e rfl
    by_cases hc : c ∈ X.fs
    · obtain ⟨sl, q⟩ := slot c o (I.cne x c e) hc nch ho (I.freeC x c e)
      exact ⟨_, q, hd⟩
    · exact ⟨o, keep c o (I.cne x c e) hc nch ho (I.freeC x c e), hd⟩
  refine ⟨I.ok, I.os, hg, ⟨fun b o e n hb hx => ?_, fun b o e n hb hx => ?_, fun b o e n hx => ?_, fun b o e hx => ?_, fun b xs e => tups b xs (I.base.tups b xs e), fun b o xs e => frzs b o xs (I.base.frzs b o xs e), fun b ps e => ?_⟩, ?_, fun x c e => ?_, ?_, fun x c e => ?_, fun p hp => ?_, hok, I.len⟩
  · exact keep b o (neL b o e) hb (neC b o e hx) (I.base.keep b o e n hb hx) (I.base.free b o e n hx)
  · obtain ⟨sl, e1⟩ := I.base.slot b o e n hb hx
    obtain ⟨sl', e2⟩ := slot b _ (neL b o e) hb (neC b o e hx) e1 (I.base.free b o e n hx)
    exact ⟨sl', e2⟩
  · obtain ⟨o', e1⟩ := I.base.there b o e hx
    exact free b o' (neC b o e hx) e1 (I.base.free b o e n hx)
  · obtain ⟨o', e1⟩ := I.base.there b o e hx
    exact there b o' (neC b o e hx) e1
  · obtain ⟨m1, e1⟩ := I.base.tbls b ps e
    obtain ⟨m2, e2⟩ := tbls b _ e1
    exact ⟨m1 ++ m2, by rw [e2, Array.append_assoc]⟩
  · obtain ⟨m, hn, hl⟩ := I.loc
    refine ⟨m, ns m hn, fun i x v e1 e2 e3 => ?_⟩
    obtain ⟨u, r, l⟩ := hl i x v e1 e2 e3
    refine ⟨u, r, ?_⟩
    rcases l with l | ⟨k, c, e, z⟩
    · exact .inl l
    · exact .inr ⟨k, c, e, cellK x c e _ z⟩
  · obtain ⟨v, z⟩ := I.cell x c e
    exact ⟨v, cellK x c e v z⟩
  · obtain ⟨m, ⟨o, _, _, ho, _⟩, _⟩ := I.loc
    exact free _ o (fun z => (hch _ z).2.1 rfl) ho I.free
  · obtain ⟨v, o, ho, hd⟩ := I.cell x c e
    exact free c o (fun z => (hch c z).2.2.1 x c e rfl) ho (I.freeC x c e)
  · obtain ⟨e, n, ne, nf, d⟩ := I.pin p hp
    have nch : p.1 ∉ ch := fun z => (hch p.1 z).2.2.2 p hp rfl
    exact ⟨keep p.1 p.2 ne nf nch e n, free p.1 p.2 nch e n, ne, nf, d⟩
/-- .. where the frame's own object is kept too -/
theorem Inv.un {t' : Nat} (I : Inv X pins σ H s) (u : Un X.fs [] H H' s.heap h') (hok : HOk X.prog X.w H' h') : Inv X pins σ H' { s with heap := h', toks := t' } := by
  obtain ⟨m, ⟨o, es, ep, ho, r⟩, _⟩ := id I.loc
  obtain ⟨sl, hL⟩ := u.any ho I.free (by simp)
  exact I.step (g' := s.gens) (d' := s.drawn) (ch := []) (fun _ z => nomatch z) (fun b o _ hb _ e n => u.keep b o e n hb (by simp)) (fun b o _ hb _ e n => u.slot b o e n hb (by simp)) (fun b o _ e n => u.free b o e n (by simp)) (fun b o _ e => u.there b o e (by simp)) u.tups u.frzs u.tbls (fun m' hm => by
    obtain ⟨o', es', ep', ho', r'⟩ := hm
    rw [ho] at ho'; cases ho'
    exact ⟨_, es', ep', hL, r'⟩) hok I.bare
/-- behind a call (or a comprehension's block): the slots of this frame may have changed too, the records at ch may have turned -/
theorem Inv.call {g' : Array GenState} {t' : Nat} {d' : Drawn} {ch : List Addr} (I : Inv X pins σ H s) (u : Un (frs X.stack) ch H H' s.heap h') (hok : HOk X.prog X.w H' h') (hg : AllBare g')
    (hch : ∀ b ∈ ch, (b ∈ X.ex ∨ X.s₀.heap.objs.size ≤ b) ∧ b ≠ X.env.locals ∧ (∀ x c, X.env.cells.lookup x = some c → c ≠ b) ∧ ∀ p ∈ X.pn ++ pins, p.1 ≠ b) :
    Inv X pins σ H' { s with heap := h', gens := g', drawn := d', toks := t' } := by
  obtain ⟨m, ⟨o, es, ep, ho, r⟩, _⟩ := id I.loc
  obtain ⟨sl, hL⟩ := u.any ho I.free fun z => (hch _ z).2.1 rfl
  exact I.step (ch := ch) hch (fun b o hL hb hc e n => u.keep b o e n (fun z => (List.mem_cons.mp (I.stkSub b z)).elim hL hb) hc) (fun b o _ _ hc e n => u.any e n hc) (fun b o hc e n => u.free b o e n hc) (fun b o hc e => u.there b o e hc) u.tups u.frzs u.tbls (fun m' hm => by
    obtain ⟨o', es', ep', ho', r'⟩ := hm
    rw [ho] at ho'; cases ho'
    exact ⟨_, es', ep', hL, r'⟩) hok hg
/-- an untracked record of ours (an iterator) has turned -/
theorem Inv.turned {t' : Nat} {it : Addr} (I : Inv X pins σ H s) (k : ∀ b o, b ≠ it → s.heap.get? b = some o → h'.get? b = some o) (hn : H it = none) (hL : it ≠ X.env.locals)
    (h1 : it ∈ X.ex ∨ X.s₀.heap.objs.size ≤ it) (h2 : ∀ x c, X.env.cells.lookup x = some c → c ≠ it) (h3 : ∀ p ∈ X.pn ++ pins, p.1 ≠ it) : Inv X pins σ H { s with heap := h', toks := t' } := by
  have nit : ∀ b u, H b = some u → b ≠ it := fun b u e z => by rw [z, hn] at e; cases e
  refine I.step (g' := s.gens) (d' := s.drawn) (ch := [it]) (fun b hb => ?_) (fun b o _ _ hc e _ => k b o (fun z => hc (by simp [z])) e) (fun b o _ _ hc e _ => ⟨o.slots, k b o (fun z => hc (by simp [z])) e⟩) (fun _ _ _ _ n => n)
    (fun b o hc e => ⟨o, k b o (fun z => hc (by simp [z])) e⟩) (fun _ _ e => e) (fun _ _ _ e => e) (fun b ps e => ⟨#[], by rw [e]; simp⟩) (fun m hm => ?_) (fun b u e => ?_) I.bare
  · have e : b = it := by simpa using hb
    subst e
    exact ⟨h1, hL, h2, h3⟩
  · obtain ⟨o, es, ep, ho, r⟩ := hm
    exact ⟨o, es, ep, k _ o (Ne.symm hL) ho, r⟩
  · refine (I.hok b u e).stay (fun c v hc q => k c v ?_ q) (fun _ q => q) fun _ _ q => q
    rcases hc with z | z
    · rw [z]; exact nit b u e
    · exact nit c _ z
theorem Inv.tok (I : Inv X pins σ H s) (t : Nat) : Inv X pins σ H { s with toks := t } := I.un (h' := s.heap) (t' := t) Un.refl I.hok
/-- all objects kept -/
theorem Inv.kept {t' : Nat} (I : Inv X pins σ H s) (k : ∀ b u, s.heap.get? b = some u → h'.get? b = some u) : Inv X pins σ H { s with heap := h', toks := t' } := I.un (Un.kept k) (I.hok.kept k)
/-- a new object laid and tracked -/
theorem Inv.laid {a : Addr} {o : HO} {t' : Nat} (I : Inv X pins σ H s) (k : ∀ b u, s.heap.get? b = some u → h'.get? b = some u) (hp : s.heap.objs.size ≤ a) (new : ObjOk X.prog X.w (upd H a o) h' a o) :
    Inv X pins σ (upd H a o) { s with heap := h', toks := t' } := I.un (Un.laid k hp (I.hok.fresh hp)) (I.hok.laid k hp new)
/-- an object written -/
theorem Inv.write {x e : Addr} {o : HO} {t' : Nat} (I : Inv X pins σ H s) (mu : Mut (H x)) (he : e = x ∨ H e = some (.own x)) (k : ∀ b u, b ≠ e → s.heap.get? b = some u → h'.get? b = some u) (heo : ∃ u, h'.get? e = some u)
    (new : ObjOk X.prog X.w (upd H x o) h' x o) : Inv X pins σ (upd H x o) { s with heap := h', toks := t' } := I.un (Un.write mu he k heo) (I.hok.write mu he k heo new)
/-- forgetting slots, pins -/
theorem Inv.weak {σ' : List (Option V)} (I : Inv X pins σ H s) (hl : σ'.length = σ.length) (w : ∀ (i : Nat) v, σ'[i]? = some (some v) → σ[i]? = some (some v)) : Inv X pins σ' H s :=
  ⟨I.ok, I.os, I.bare, I.base, let ⟨m, hn, hl'⟩ := I.loc; ⟨m, hn, fun i x v e1 e2 e3 => hl' i x v e1 (w i v e2) e3⟩, I.cell, I.free, I.freeC, I.pin, I.hok, hl.trans I.len⟩
theorem Inv.pins_of {pins' : List (Addr × Obj)} (I : Inv X pins σ H s) (h : ∀ p ∈ pins', s.heap.get? p.1 = some p.2 ∧ H p.1 = none ∧ p.1 ≠ X.env.locals ∧ p.1 ∉ X.fs ∧ ∀ v, p.2.data ≠ .cell v) : Inv X pins' σ H s :=
  ⟨I.ok, I.os, I.bare, I.base, I.loc, I.cell, I.free, I.freeC, fun p hp => (List.mem_append.mp hp).elim (fun z => I.pin p (List.mem_append_left _ z)) (h p), I.hok, I.len⟩

theorem nodup_ix {N : List Str} (hN : N.Nodup) {i j : Nat} {x : Str} (a : N[i]? = some x) (b : N[j]? = some x) : i = j := by
  obtain ⟨h1, e1⟩ := List.getElem?_eq_some_iff.mp a
  obtain ⟨h2, e2⟩ := List.getElem?_eq_some_iff.mp b
  exact (List.getElem_inj hN).mp (e1.trans e2.symm)

/-- a name is stored; what changed -/
theorem store_ok2 {M : Model} {A : Around} {E : Value → Shared → Prop} {i : Nat} {x : Str} {v : V} {u : Value} {Q : Unit → Shared → Prop} (I : Inv X pins σ H s) (hN : X.N.Nodup) (hi : X.N[i]? = some x) (hx : Loc X.env.scope x) (r : RelV v u)
    (h : ∀ s', Inv X pins (σ.set i (some v)) H s' → (∃ a, Heap.SameBut a s.heap s'.heap ∧ (a = X.env.locals ∨ X.env.cells.lookup x = some a)) → Q () s') (hf : X.fn x = true ∨ X.env.scope.names.lookup x = some .local := by first | exact .inl rfl | exact .inr rfl | assumption) : wpAny M A (storeName X.env x u) Q E s := by
  obtain ⟨m, hn, hl⟩ := id I.loc
  have hcls : (X.env.scope.kind == .class || (X.env.scope.kind == .module && X.env.locals != X.env.globals)) = false := by rw [I.ok.kind]; rfl
  have hiσ : i < σ.length := by rw [I.len]; exact (List.getElem?_eq_some_iff.mp hi).1
  have cne := I.cne
  have tracked : ∀ {a : Addr} {h' : Heap}, (∃ o, s.heap.get? a = some o ∧ H a = none) → Heap.SameBut a s.heap h' → HOk X.prog X.w H h' := fun {a h'} ha hs b ob e => by
    obtain ⟨_, _, hfree⟩ := ha
    refine (I.hok b ob e).stay (fun c w' hc q => (hs.2 c ?_).trans q) (fun _ q => q) fun _ _ q => q
    rintro rfl
    rcases hc with rfl | hc
    · rw [hfree] at e; cases e
    · rw [hfree] at hc; cases hc
  rcases hx with hk | hk
  · refine wpAny_storeName_local hk hn (fun h' hn' hs => ?_) hcls
    obtain ⟨oL, _, _, hoL, _⟩ := id hn
    refine h _ ⟨I.ok, I.os, I.bare, ⟨fun b o e n hb hx => ?_, fun b o e n hb hx => ?_, I.base.free, fun b o e hx => ?_, I.base.tups, I.base.frzs, I.base.tbls⟩, ⟨_, hn', fun j y v' e1 e2 e3 => ?_⟩, fun y c e => ?_, I.free, I.freeC, fun p hp => ?_, tracked ⟨oL, hoL, I.free⟩ hs, by simpa using I.len⟩ ⟨_, hs, .inl rfl⟩
    · exact (hs.2 b (Nat.ne_of_lt (Nat.lt_of_lt_of_le (Heap.lt_size e) I.ok.above))).trans (I.base.keep b o e n hb hx)
    · obtain ⟨sl, e1⟩ := I.base.slot b o e n hb hx
      exact ⟨sl, (hs.2 b (Nat.ne_of_lt (Nat.lt_of_lt_of_le (Heap.lt_size e) I.ok.above))).trans e1⟩
    · obtain ⟨o', e1⟩ := I.base.there b o e hx
      exact ⟨o', (hs.2 b (Nat.ne_of_lt (Nat.lt_of_lt_of_le (Heap.lt_size e) I.ok.above))).trans e1⟩
    · by_cases hj : j = i
      · subst hj
        rw [hi] at e1; cases e1
        rw [List.getElem?_set_self hiσ] at e2
        cases e2
        exact ⟨u, r, .inl ⟨hk, by simp⟩⟩
      · rw [List.getElem?_set_ne (Ne.symm hj)] at e2
        obtain ⟨u', r', q⟩ := hl j y v' e1 e2 e3
        refine ⟨u', r', ?_⟩
        rcases q with ⟨k, e⟩ | ⟨k, c, e, z⟩
        · refine .inl ⟨k, ?_⟩
          have : y ≠ x := fun e => hj (nodup_ix hN e1 (e ▸ hi))
          simp [this, e]
        · exact .inr ⟨k, c, e, z.sameBut hs (cne y c e)⟩
    · obtain ⟨w', z⟩ := I.cell y c e
      exact ⟨w', z.sameBut hs (cne y c e)⟩
    · obtain ⟨e, n, ne, nf, d⟩ := I.pin p hp
      exact ⟨(hs.2 p.1 ne).trans e, n, ne, nf, d⟩
  · have hfn : X.fn x = true := by
      rcases hf with z | z
      · exact z
      · rw [z] at hk; cases hk
    obtain ⟨c, hc⟩ := I.ok.has x (.inl hk)
    obtain ⟨w', z⟩ := I.cell x c hc
    refine wpAny_storeName_cell I.ok.kind hk hc z (fun h' hc' hs => ?_)
    obtain ⟨oc, hoc, hocd⟩ := id z
    refine h { s with heap := h' } ⟨I.ok, I.os, I.bare, ⟨fun b o e n hb hx => ?_, fun b o e n hb hx => ?_, I.base.free, fun b o e hx => ?_, I.base.tups, I.base.frzs, I.base.tbls⟩, ⟨m, hn.sameBut hs (Ne.symm (cne x c hc)), fun j y v' e1 e2 e3 => ?_⟩, fun y c' e => ?_, I.free, I.freeC, fun p hp => ?_, tracked ⟨oc, hoc, I.freeC x c hc⟩ hs, by simpa using I.len⟩ ⟨c, hs, .inr hc⟩
    · exact (hs.2 b (Nat.ne_of_lt (Nat.lt_of_lt_of_le (Heap.lt_size e) (I.ok.cab x c hfn hc)))).trans (I.base.keep b o e n hb hx)
    · obtain ⟨sl, e1⟩ := I.base.slot b o e n hb hx
      exact ⟨sl, (hs.2 b (Nat.ne_of_lt (Nat.lt_of_lt_of_le (Heap.lt_size e) (I.ok.cab x c hfn hc)))).trans e1⟩
    · obtain ⟨o', e1⟩ := I.base.there b o e hx
      exact ⟨o', (hs.2 b (Nat.ne_of_lt (Nat.lt_of_lt_of_le (Heap.lt_size e) (I.ok.cab x c hfn hc)))).trans e1⟩
    · by_cases hj : j = i
      · subst hj
        rw [hi] at e1; cases e1
        rw [List.getElem?_set_self hiσ] at e2
        cases e2
        exact ⟨u, r, .inr ⟨.inl hk, c, hc, hc'⟩⟩
      · rw [List.getElem?_set_ne (Ne.symm hj)] at e2
        obtain ⟨u', r', q⟩ := hl j y v' e1 e2 e3
        refine ⟨u', r', ?_⟩
        rcases q with q | ⟨k, c', e, z'⟩
        · exact .inl q
        · refine .inr ⟨k, c', e, z'.sameBut hs ?_⟩
          rintro rfl
          exact hj (nodup_ix hN e1 (I.ok.inj _ _ _ e hc ▸ hi))
    · by_cases hcc : c' = c
      · subst hcc; exact ⟨_, hc'⟩
      · obtain ⟨w2, z2⟩ := I.cell y c' e
        exact ⟨w2, z2.sameBut hs hcc⟩
    · obtain ⟨e, n, ne, nf, d⟩ := I.pin p hp
      refine ⟨(hs.2 p.1 ?_).trans e, n, ne, nf, d⟩
      intro q
      rw [q, hoc] at e
      have q' : oc = p.2 := Option.some.inj e
      exact d w' (by rw [← q']; exact hocd)
theorem store_ok {M : Model} {A : Around} {E : Value → Shared → Prop} {i : Nat} {x : Str} {v : V} {u : Value} {Q : Unit → Shared → Prop} (I : Inv X pins σ H s) (hN : X.N.Nodup) (hi : X.N[i]? = some x) (hx : Loc X.env.scope x) (r : RelV v u)
    (h : ∀ s', Inv X pins (σ.set i (some v)) H s' → Q () s') (hf : X.fn x = true ∨ X.env.scope.names.lookup x = some .local := by first | exact .inl rfl | exact .inr rfl | assumption) : wpAny M A (storeName X.env x u) Q E s :=
  store_ok2 I hN hi hx r (fun s' I' _ => h s' I') hf
/-- behind a call or a block, the state as it is -/
theorem Inv.call' {s' : Shared} {ch : List Addr} (I : Inv X pins σ H s) (ho : s'.os = s.os) (u : Un (frs X.stack) ch H H' s.heap s'.heap) (hok : HOk X.prog X.w H' s'.heap) (hg : AllBare s'.gens)
    (hch : ∀ b ∈ ch, (b ∈ X.ex ∨ X.s₀.heap.objs.size ≤ b) ∧ b ≠ X.env.locals ∧ (∀ x c, X.env.cells.lookup x = some c → c ≠ b) ∧ ∀ p ∈ X.pn ++ pins, p.1 ≠ b) : Inv X pins σ H' s' := by
  obtain ⟨h', g', d', t', o'⟩ := s'
  have e : o' = s.os := ho
  subst e
  exact I.call (g' := g') (t' := t') (d' := d') u hok hg hch
end

/-! ### the judgements -/
/-- an exception: its class, its own dict's address (where it has one), the abstract heap behind it -/
abbrev XK := Value → Option Addr → Hp → Prop
abbrev St := List (Option V)
abbrev VK := V → Hp → Prop
/-- an expression's reading; a test's; an argument list's -/
abbrev TE := St → Hp → VK → Prop
abbrev TT := St → Hp → (Bool → Hp → Prop) → Prop
abbrev TA := St → Hp → (List V → Hp → Prop) → Prop
/-- what is wanted behind a statement -/
structure Ends where
  nx : St → Hp → Prop
  rt : VK
  bk : St → Hp → Prop := fun _ _ => False
  ct : St → Hp → Prop := fun _ _ => False
abbrev TS := Ends → St → Hp → Prop

def EP (X : Cx) (pins : List (Addr × Obj)) (σ : St) (Q : VK) (u : Value) (s' : Shared) : Prop := ∃ v H', Inv X pins σ H' s' ∧ RelV v u ∧ Q v H'
def TP (X : Cx) (pins : List (Addr × Obj)) (σ : St) (Q : Bool → Hp → Prop) (b : Bool) (s' : Shared) : Prop := ∃ H', Inv X pins σ H' s' ∧ Q b H'
def AP (X : Cx) (pins : List (Addr × Obj)) (σ : St) (Q : List V → Hp → Prop) (us : List Value) (s' : Shared) : Prop := ∃ vs H', Inv X pins σ H' s' ∧ Vals vs us ∧ Q vs H'
def SP (X : Cx) (pins : List (Addr × Obj)) (D : Ends) (f : Flow) (s' : Shared) : Prop :=
  match f with
  | .next => ∃ σ' H', Inv X pins σ' H' s' ∧ D.nx σ' H'
  | .brk => ∃ σ' H', Inv X pins σ' H' s' ∧ D.bk σ' H'
  | .cont => ∃ σ' H', Inv X pins σ' H' s' ∧ D.ct σ' H'
  | .ret u => ∃ v σ' H', Inv X pins σ' H' s' ∧ RelV v u ∧ D.rt v H'

def PE (X : Cx) (e : Expr) (t : TE) : Prop :=
  ∀ (pins : List (Addr × Obj)) (s : Shared) (σ : St) (H : Hp) (Q : VK), Inv X pins σ H s → t σ H Q → wpAny (model X.prog X.w) X.A (eval e X.env) (EP X pins σ Q) X.xe s
def PT (X : Cx) (e : Expr) (t : TT) : Prop :=
  ∀ (pins : List (Addr × Obj)) (s : Shared) (σ : St) (H : Hp) (Q : Bool → Hp → Prop), Inv X pins σ H s → t σ H Q → wpAny (model X.prog X.w) X.A (isTrue e X.env (eval e X.env)) (TP X pins σ Q) X.xe s
/-- a test whatever its 'whole' is (and, or) -/
def PW (X : Cx) (e : Expr) (t : TT) : Prop :=
  ∀ (whole : Sem Value) (pins : List (Addr × Obj)) (s : Shared) (σ : St) (H : Hp) (Q : Bool → Hp → Prop), Inv X pins σ H s → t σ H Q → wpAny (model X.prog X.w) X.A (isTrue e X.env whole) (TP X pins σ Q) X.xe s
theorem PW.pt {X : Cx} {e : Expr} {t : TT} (h : PW X e t) : PT X e t := h _
/-- an argument list (no star), from the left -/
def PA (X : Cx) (es : List Expr) (t : TA) : Prop :=
  ∀ (pos : Pos) (pins : List (Addr × Obj)) (s : Shared) (σ : St) (H : Hp) (Q : List V → Hp → Prop), Inv X pins σ H s → t σ H Q → wpAny (model X.prog X.w) X.A (spliced (backTo pos (starEach es X.env))) (AP X pins σ Q) X.xe s
def PS (X : Cx) (st : Stmt) (t : TS) : Prop :=
  ∀ (pins : List (Addr × Obj)) (s : Shared) (σ : St) (H : Hp) (D : Ends), Inv X pins σ H s → t D σ H → wpAny (model X.prog X.w) X.A (exec st X.env) (SP X pins D) X.xe s
def PSs (X : Cx) (st : List Stmt) (t : TS) : Prop :=
  ∀ (pins : List (Addr × Obj)) (s : Shared) (σ : St) (H : Hp) (D : Ends), Inv X pins σ H s → t D σ H → wpAny (model X.prog X.w) X.A (execs st X.env) (SP X pins D) X.xe s
/-- weaken the end -/
theorem thn {α : Type} {t : Sem α} {Q Q' : α → Shared → Prop} {M : Model} {A : Around} {E : Value → Shared → Prop} {s : Shared} (h : wpAny M A t Q E s) (hQ : ∀ a s, Q a s → Q' a s) : wpAny M A t Q' E s := wpAny_mono h hQ fun _ _ x => x
end L2

namespace L2
open PySem PySem.Spec PyProof.Rows
section
variable {X : Cx}

/-! ### names and constants -/
def tVar (i : Nat) : TE := fun σ H Q => ∃ v, σ[i]? = some (some v) ∧ Q v H
def tC (v : V) : TE := fun _ H Q => Q v H
theorem pe_var {i : Nat} {x : Str} {pos : Pos} (hN : X.N[i]? = some x) (hv : Vis X.env.scope x) (hd : (x == ("__debug__" : Str)) = false := by decide) (hcd : (x == ("__classdict__" : Str)) = false := by decide) : PE X (.Name x pos) (tVar i) := by
  intro pins s σ H Q I h
  obtain ⟨v, e, h⟩ := h
  obtain ⟨m, hn, hl⟩ := I.loc
  obtain ⟨u, r, l⟩ := hl i x v hN e hv
  have fin : EP X pins σ Q u s := ⟨v, H, I, r, h⟩
  rcases l with ⟨hk, hm⟩ | ⟨hk, c, hc, hcell⟩
  · exact wpAny_Name (wpAny_loadName_local I.ok.kind hk hn hm fin) hd
  · rcases hk with hk | hk
    · exact wpAny_Name (wpAny_loadName_cell I.ok.kind hk hc hcell fin) hd
    · exact wpAny_Name (wpAny_loadName_free I.ok.kind hk hc hcell fin hcd) hd
theorem pe_int {i j pos} : PE X (.Constant (.int i) j pos) (tC (.int i)) := fun _ _ _ H _ I h => wpAny_Constant_int ⟨.int i, H, I.tok _, ⟨_, rfl⟩, h⟩
theorem pe_bl {b j pos} : PE X (.Constant (.bool b) j pos) (tC (.bl b)) := fun _ _ _ H _ I h => Constant_bool ⟨.bl b, H, I, rfl, h⟩
theorem pe_non {j pos} : PE X (.Constant .none j pos) (tC .non) := fun _ _ _ H _ I h => Constant_none ⟨.non, H, I, rfl, h⟩
theorem pe_str {x j pos} : PE X (.Constant (.str x) j pos) (tC (.str x)) := fun _ _ _ H _ I h => Calls.Constant_str ⟨.str x, H, I.tok _, ⟨_, rfl⟩, h⟩

/-- a global name of the def -/
def Gl (X : Cx) (x : Str) : Prop := X.env.kindOf x = some .globalImplicit
theorem ld_glob {E : Value → Shared → Prop} {pins : List (Addr × Obj)} {s : Shared} {σ : St} {H : Hp} {x : Str} {u : Value} {pos : Pos} {Q : Value → Shared → Prop} (I : Inv X pins σ H s) (hg : Gl X x) (hm : X.mg x = some u) (h : Q u s)
    (hd : (x == ("__debug__" : Str)) = false := by decide) : wpAny (model X.prog X.w) X.A (eval (.Name x pos) X.env) Q E s :=
  Calls.Name_function_global I.ok.kind hg (Calls.loadGlobal_global (by rw [I.ok.glob]; exact I.mod.glob.keeps I.bk) hm h) hd
theorem ld_blt {E : Value → Shared → Prop} {pins : List (Addr × Obj)} {s : Shared} {σ : St} {H : Hp} {x : Str} {u : Value} {pos : Pos} {Q : Value → Shared → Prop} (I : Inv X pins σ H s) (hg : Gl X x) (hm : X.mg x = none) (hv : bootBuiltins x = some u) (h : Q u s)
    (hn : x ≠ "__name__" := by decide) (hd : (x == ("__debug__" : Str)) = false := by decide) : wpAny (model X.prog X.w) X.A (eval (.Name x pos) X.env) Q E s := by
  obtain ⟨mb, h1, h2⟩ := I.mod.blt
  exact Calls.Name_function_global I.ok.kind hg (Calls.loadGlobal_builtin (by rw [I.ok.glob]; exact I.mod.glob.keeps I.bk) hm (by rw [I.ok.blt]; exact h1.keeps I.bk) ((h2 x hn).trans hv) h) hd
/-- a module's constant, a class, a function, as a value -/
theorem pe_glob {x : Str} {v : V} {u : Value} {pos : Pos} (hg : Gl X x) (hm : X.mg x = some u) (r : RelV v u) (hd : (x == ("__debug__" : Str)) = false := by decide) : PE X (.Name x pos) (tC v) :=
  fun _ _ _ H _ I h => ld_glob I hg hm ⟨v, H, I, r, h⟩ hd
theorem pe_bltn {x : Str} {v : V} {u : Value} {pos : Pos} (hg : Gl X x) (hm : X.mg x = none) (hv : bootBuiltins x = some u) (r : RelV v u) (hn : x ≠ "__name__" := by decide) (hd : (x == ("__debug__" : Str)) = false := by decide) : PE X (.Name x pos) (tC v) :=
  fun _ _ _ H _ I h => ld_blt I hg hm hv ⟨v, H, I, r, h⟩ hn hd

/-! ### arithmetic -/
variable {a b : Expr} {ta tb : TE} {pos : Pos}
/-! ### comparisons -/
def PC (X : Cx) (op : CmpOp) (a b : Expr) (t : TE) : Prop :=
  ∀ (pins : List (Addr × Obj)) (s : Shared) (σ : St) (H : Hp) (Q : VK), Inv X pins σ H s → t σ H Q →
    wpAny (model X.prog X.w) X.A (eval a X.env) (fun v s₁ => wpAny (model X.prog X.w) X.A (eval b X.env) (fun u s₂ => wpAny (model X.prog X.w) X.A (compareOp op v u) (EP X pins σ Q) X.xe s₂) X.xe s₁) X.xe s
theorem nobehind (b : Expr) {op : CmpOp} (h : op ≠ .In) (h2 : op ≠ .NotIn) : behindInMarks op b = false := by
  have e1 : (op == CmpOp.In) = false := by cases op <;> first | rfl | exact absurd rfl h
  have e2 : (op == CmpOp.NotIn) = false := by cases op <;> first | rfl | exact absurd rfl h2
  cases b <;> simp [behindInMarks, e1, e2]
/-- is None -/
def tIsN (ta : TE) : TE := fun σ H Q => ta σ H fun x H1 => Q (.bl (decide (x = .non))) H1
def tNotN (ta : TE) : TE := fun σ H Q => ta σ H fun x H1 => Q (.bl (!decide (x = .non))) H1
theorem RelV.none_iff {x : V} {v : Value} (r : RelV x v) : (v == Value.none) = decide (x = .non) := by
  cases x with
  | non => cases r; rfl
  | bl _ => cases r; rfl
  | int _ => obtain ⟨t, rfl⟩ := r; rfl
  | str _ => obtain ⟨t, rfl⟩ := r; rfl
  | byt _ => obtain ⟨t, rfl⟩ := r; rfl
  | flt _ => obtain ⟨t, rfl⟩ := r; rfl
  | ref _ => cases r; rfl
  | ty _ => cases r; rfl
theorem pc_isN {j pos'} (ha : PE X a ta) : PC X .Is a (.Constant .none j pos') (tIsN ta) := by
  intro pins s σ H Q I h
  refine thn (ha pins s σ H _ I h) fun v s1 ⟨x, H1, I1, r1, q1⟩ => ?_
  exact Constant_none (is_none_gen ⟨.bl _, H1, I1, by rw [r1.none_iff]; rfl, q1⟩)
theorem pc_notN {j pos'} (ha : PE X a ta) : PC X .IsNot a (.Constant .none j pos') (tNotN ta) := by
  intro pins s σ H Q I h
  refine thn (ha pins s σ H _ I h) fun v s1 ⟨x, H1, I1, r1, q1⟩ => ?_
  exact Constant_none (isnot_none_gen ⟨.bl _, H1, I1, by rw [r1.none_iff]; rfl, q1⟩)
/-- a comparison as a value, as a test -/
def tB (t : TE) : TT := fun σ H Q => t σ H fun x H1 => ∃ c, x = .bl c ∧ Q c H1
theorem pt_cmp {op : CmpOp} {t : TE} (h : PC X op a b t) (h1 : behindInMarks op b = false := by first | exact nobehind _ (by decide) (by decide) | rfl) : PT X (.Compare a [op] [b] pos) (tB t) := by
  intro pins s σ H Q I hw
  refine wpAny_isTrue_Compare1 (thn (h pins s σ H _ I hw) fun v s1 h1 => thn h1 fun u s2 h2 => thn h2 fun c s3 ⟨x, H1, I1, r1, q1⟩ => ?_) h1
  obtain ⟨d, rfl, q⟩ := q1
  cases r1
  exact wpAny_truthy_bool ⟨H1, I1, q⟩
/-- an expression whose value is a bool, as a test -/
theorem pt_val {e : Expr} {t : TE} (h : PE X e t) (he : ∀ whole, isTrue e X.env whole = (do let v ← whole; standAt e.pos; holding [v] (truthy v)) := by intro _; rfl) : PT X e (tB t) := by
  intro pins s σ H Q I hw
  refine isTrue_plain (thn (h pins s σ H _ I hw) fun v s1 ⟨x, H1, I1, r1, q1⟩ => ?_) (he _)
  obtain ⟨d, rfl, q⟩ := q1
  cases r1
  exact wpAny_truthy_bool ⟨H1, I1, q⟩

/-! ### and, or, not -/
variable {tA tB' : TT} {rest : List Expr}
def tAnd (t u : TT) : TT := fun σ H Q => t σ H fun c H1 => if c = true then u σ H1 Q else Q false H1
def tOr (t u : TT) : TT := fun σ H Q => t σ H fun c H1 => if c = true then Q true H1 else u σ H1 Q
def tNot (t : TT) : TT := fun σ H Q => t σ H fun c H1 => Q (!c) H1
theorem pw_and1 (ha : PT X a tA) : PW X (.BoolOp .And [a] pos) tA := by
  intro wh pins s σ H Q I h
  refine isTrue_and (thn (ha pins s σ H Q I h) fun c s1 e => ?_)
  cases c with
  | true => exact isTrue_and_nil e
  | false => exact e
theorem pw_or1 (ha : PT X a tA) : PW X (.BoolOp .Or [a] pos) tA := by
  intro wh pins s σ H Q I h
  refine isTrue_or (thn (ha pins s σ H Q I h) fun c s1 e => ?_)
  cases c with
  | false => exact isTrue_or_nil e
  | true => exact e
theorem pw_and (ha : PT X a tA) (hb : PW X (.BoolOp .And (b :: rest) pos) tB') : PW X (.BoolOp .And (a :: b :: rest) pos) (tAnd tA tB') := by
  intro wh pins s σ H Q I h
  refine isTrue_and (thn (ha pins s σ H _ I h) fun c s1 ⟨H1, I1, q1⟩ => ?_)
  cases c with
  | true => exact hb wh pins s1 σ H1 Q I1 q1
  | false => exact ⟨H1, I1, q1⟩
theorem pw_or (ha : PT X a tA) (hb : PW X (.BoolOp .Or (b :: rest) pos) tB') : PW X (.BoolOp .Or (a :: b :: rest) pos) (tOr tA tB') := by
  intro wh pins s σ H Q I h
  refine isTrue_or (thn (ha pins s σ H _ I h) fun c s1 ⟨H1, I1, q1⟩ => ?_)
  cases c with
  | true => exact ⟨H1, I1, q1⟩
  | false => exact hb wh pins s1 σ H1 Q I1 q1
theorem pt_not (ha : PT X a tA) : PT X (.UnaryOp .Not a pos) (tNot tA) := by
  intro pins s σ H Q I h
  exact isTrue_not (ha pins s σ H (fun c H1 => Q (!c) H1) I h)
/-- .. as values (bools) -/
def tAndV (ta tb : TE) : TE := fun σ H Q => ta σ H fun x H1 => ∃ c, x = .bl c ∧ if c = true then tb σ H1 Q else Q (.bl false) H1
def tNotV (ta : TE) : TE := fun σ H Q => ta σ H fun x H1 => ∃ c, x = .bl c ∧ Q (.bl (!c)) H1
theorem pe_one {op} {t : TE} (h : PE X a t) : PE X (.BoolOp op [a] pos) t := fun pins s σ H Q I hw => BoolOp_one (h pins s σ H Q I hw)
theorem pe_and (ha : PE X a ta) (hb : PE X (.BoolOp .And (b :: rest) pos) tb) : PE X (.BoolOp .And (a :: b :: rest) pos) (tAndV ta tb) := by
  intro pins s σ H Q I h
  refine BoolOp_and (thn (ha pins s σ H _ I h) fun v s1 ⟨x, H1, I1, r1, q1⟩ => ?_)
  obtain ⟨c, rfl, q1⟩ := q1
  cases r1
  refine wpAny_truthy_bool ?_
  cases c with
  | true => exact hb pins s1 σ H1 Q I1 q1
  | false => exact ⟨.bl false, H1, I1, rfl, q1⟩
theorem pe_not (ha : PE X a ta) : PE X (.UnaryOp .Not a pos) (tNotV ta) := by
  intro pins s σ H Q I h
  refine UnaryOp_ (thn (ha pins s σ H _ I h) fun v s1 ⟨x, H1, I1, r1, q1⟩ => ?_)
  obtain ⟨c, rfl, q1⟩ := q1
  cases r1
  exact not_of (wpAny_truthy_bool ⟨.bl (!c), H1, I1, rfl, q1⟩)
/-- a if t else b -/
def tIf (t : TT) (ta tb : TE) : TE := fun σ H Q => t σ H fun c H1 => if c = true then ta σ H1 Q else tb σ H1 Q
theorem pe_ifExp {c : Expr} (hc : PT X c tA) (ha : PE X a ta) (hb : PE X b tb) : PE X (.IfExp c a b pos) (tIf tA ta tb) := by
  intro pins s σ H Q I h
  refine wpAny_IfExp (thn (hc pins s σ H _ I h) fun d s1 ⟨H1, I1, q1⟩ => ?_)
  cases d with
  | true => exact ha pins s1 σ H1 Q I1 q1
  | false => exact hb pins s1 σ H1 Q I1 q1
end
end L2

namespace L2
open PySem PySem.Spec PyProof.Rows

/-! ### a list, a tuple that is read: tracked, frozen, or an object of the module -/
def SqL (K : PySem.W.Frag) (H : Hp) (a : Addr) (xs : List V) : Prop :=
  Rd H a (.lst xs) ∨
    ∃ (o : Obj) (its : Array Value) (n : Nat), K.lookup a = some o ∧ o.cls = .type "list" ∧ o.dict = none ∧ o.data = .seq its n ∧ its.size ≤ sizeLine ∧ Vals xs its.toList
def SqT (K : PySem.W.Frag) (H : Hp) (a : Addr) (xs : List V) : Prop :=
  Rd H a (.tup xs) ∨
    ∃ (o : Obj) (its : Array Value) (n : Nat), K.lookup a = some o ∧ o.cls = .type "tuple" ∧ o.data = .seq its n ∧ its.size ≤ sizeLine ∧ Vals xs its.toList
def absV : Value → Option V
  | .none => some .non
  | .bool b => some (.bl b)
  | .int i _ => some (.int i)
  | .str x _ => some (.str x)
  | .bytes b _ => some (.byt b)
  | .float b _ => some (.flt b)
  | .ref a => some (.ref a)
  | .type n => some (.ty n)
  | _ => none
theorem RelV.abs {x : V} {u : Value} (r : RelV x u) : absV u = some x := by
  cases x with
  | non => cases r; rfl
  | bl _ => cases r; rfl
  | int _ => obtain ⟨t, rfl⟩ := r; rfl
  | str _ => obtain ⟨t, rfl⟩ := r; rfl
  | byt _ => obtain ⟨t, rfl⟩ := r; rfl
  | flt _ => obtain ⟨t, rfl⟩ := r; rfl
  | ref _ => cases r; rfl
  | ty _ => cases r; rfl
theorem RelV.inj {x y : V} {u : Value} (r : RelV x u) (q : RelV y u) : x = y := Option.some.inj (r.abs.symm.trans q.abs)
theorem Vals.inj : ∀ {xs ys : List V} {us : List Value}, Vals xs us → Vals ys us → xs = ys
  | _, _, _, .nil, .nil => rfl
  | _, _, _, .cons r t, .cons r' t' => by rw [r.inj r', Vals.inj t t']
section
variable {X : Cx} {pins : List (Addr × Obj)} {σ : St} {H : Hp} {s : Shared} {a : Addr} {xs ys : List V}
theorem SqL.of {K : PySem.W.Frag} (h : H a = some (.lst xs)) : SqL K H a xs := .inl (.inl h)
theorem SqT.of {K : PySem.W.Frag} (h : H a = some (.tup xs)) : SqT K H a xs := .inl (.inl h)
theorem Inv.list (I : Inv X pins σ H s) (h : SqL X.K H a xs) : ∃ its : List Value, Vals xs its ∧ PlainL s.heap a its.toArray ∧ xs.length ≤ sizeLine := by
  rcases h with h | ⟨o, its, n, hk, hc, hd, hs, hz, r⟩
  · obtain ⟨z, its, n, r, e⟩ := h.ok I.hok
    exact ⟨its, r, ⟨_, n, e, rfl, rfl, rfl⟩, z⟩
  · refine ⟨its.toList, r, ⟨o, n, I.kIn a o hk, hc, hd, by simpa using hs⟩, ?_⟩
    have e := r.length
    simp only [Array.length_toList] at e
    omega
theorem Inv.tuple (I : Inv X pins σ H s) (h : SqT X.K H a xs) : ∃ its : List Value, Vals xs its ∧ IsTup s.heap a its.toArray ∧ xs.length ≤ sizeLine := by
  rcases h with h | ⟨o, its, n, hk, hc, hs, hz, r⟩
  · obtain ⟨z, its, r, p⟩ := h.ok I.hok
    exact ⟨its, r, p.tup, z⟩
  · refine ⟨its.toList, r, ⟨o, I.kIn a o hk, hc, n, by simpa using hs⟩, ?_⟩
    have e := r.length
    simp only [Array.length_toList] at e
    omega
theorem Inv.list_inj (I : Inv X pins σ H s) (h : SqL X.K H a xs) (h' : SqL X.K H a ys) : xs = ys := by
  obtain ⟨its, r, ⟨o, n, e, _, _, d⟩, _⟩ := I.list h
  obtain ⟨its', r', ⟨o', n', e', _, _, d'⟩, _⟩ := I.list h'
  rw [e] at e'; cases e'
  rw [d] at d'
  injection d' with d1 _
  have : its = its' := by simpa using congrArg Array.toList d1
  subst this
  exact r.inj r'
theorem Inv.tuple_inj (I : Inv X pins σ H s) (h : SqT X.K H a xs) (h' : SqT X.K H a ys) : xs = ys := by
  obtain ⟨its, r, ⟨o, e, _, n, d⟩, _⟩ := I.tuple h
  obtain ⟨its', r', ⟨o', e', _, n', d'⟩, _⟩ := I.tuple h'
  rw [e] at e'; cases e'
  rw [d] at d'
  injection d' with d1 _
  have : its = its' := by simpa using congrArg Array.toList d1
  subst this
  exact r.inj r'
end

/-! ### another wish about exceptions -/
abbrev Cx.wish (X : Cx) (E : Value → Shared → Prop) : Cx := { X with xe := E }
/-- no exception leaves -/
abbrev Cx.nox (X : Cx) : Cx := X.wish fun _ _ => False
theorem Cx.Ok.wish {X : Cx} (ok : X.Ok) (E : Value → Shared → Prop) : (X.wish E).Ok :=
  ⟨ok.mod, ok.kind, ok.glob, ok.blt, ok.above, ok.inj, ok.has, ok.cab, ok.hd, ok.frames, ok.stk, ok.exf, ok.bs, ok.bsz, ok.noex, ok.exfs, ok.funs, ok.frf⟩
theorem Cx.Ok.unwish {X : Cx} {E : Value → Shared → Prop} (ok : (X.wish E).Ok) : X.Ok :=
  ⟨ok.mod, ok.kind, ok.glob, ok.blt, ok.above, ok.inj, ok.has, ok.cab, ok.hd, ok.frames, ok.stk, ok.exf, ok.bs, ok.bsz, ok.noex, ok.exfs, ok.funs, ok.frf⟩
section
variable {X : Cx} {pins : List (Addr × Obj)} {σ : St} {H : Hp} {s : Shared} {E : Value → Shared → Prop}
theorem Inv.wish (I : Inv X pins σ H s) (E : Value → Shared → Prop) : Inv (X.wish E) pins σ H s := ⟨I.ok.wish E, I.os, I.bare, I.base, I.loc, I.cell, I.free, I.freeC, I.pin, I.hok, I.len⟩
theorem Inv.unwish (I : Inv (X.wish E) pins σ H s) : Inv X pins σ H s := ⟨I.ok.unwish, I.os, I.bare, I.base, I.loc, I.cell, I.free, I.freeC, I.pin, I.hok, I.len⟩
theorem SP.unwish {D : Ends} {f : Flow} {s' : Shared} (h : SP (X.wish E) pins D f s') : SP X pins D f s' := by
  cases f with
  | next => obtain ⟨σ', H', I, q⟩ := h; exact ⟨σ', H', I.unwish, q⟩
  | brk => obtain ⟨σ', H', I, q⟩ := h; exact ⟨σ', H', I.unwish, q⟩
  | cont => obtain ⟨σ', H', I, q⟩ := h; exact ⟨σ', H', I.unwish, q⟩
  | ret u => obtain ⟨v, σ', H', I, r, q⟩ := h; exact ⟨v, σ', H', I.unwish, r, q⟩
theorem PSs.nox {st : List Stmt} {t : TS} (h : PSs X.nox st t) : PSs X st t := fun pins s σ H D I hw =>
  wpAny_mono (h pins s σ H D (I.wish _) hw) (fun _ _ q => q.unwish) fun _ _ z => False.elim z
end

/-! ### blocks and small statements -/
section
variable {X : Cx} {st : Stmt} {rest : List Stmt} {t u : TS} {e : Expr} {te : TE} {pos : Pos}
def tNext : TS := fun D σ H => D.nx σ H
def tSeq (t u : TS) : TS := fun D σ H => t { D with nx := u D } σ H
theorem pss_nil : PSs X [] tNext := fun _ _ σ H _ I h => wpAny_execs_nil ⟨σ, H, I, h⟩
theorem pss_cons (h1 : PS X st t) (h2 : PSs X rest u) : PSs X (st :: rest) (tSeq t u) := by
  intro pins s σ H D I h
  refine wpAny_execs_cons (thn (h1 pins s σ H { D with nx := u D } I h) fun f s1 q => ?_)
  cases f with
  | next =>
    obtain ⟨σ', H', I', q⟩ := q
    exact h2 pins s1 σ' H' D I' q
  | ret v => exact q
  | brk => exact q
  | cont => exact q
theorem pss_one (h1 : PS X st t) : PSs X [st] t := by
  intro pins s σ H D I h
  refine wpAny_execs_cons (thn (h1 pins s σ H D I h) fun f s1 q => ?_)
  cases f with
  | next => exact wpAny_execs_nil q
  | ret v => exact q
  | brk => exact q
  | cont => exact q
/-- in a def's body nothing is shown -/
theorem Inv.quiet {pins : List (Addr × Obj)} {σ : St} {H : Hp} {s : Shared} (I : Inv X pins σ H s) : interactive X.env = false := by simp [interactive, I.ok.kind]
/-- an expression whose value is dropped -/
def tDrop (te : TE) : TS := fun D σ H => te σ H fun _ H1 => D.nx σ H1
theorem ps_expr (he : PE X e te) (hs : swapsWith e none pos.line X.env = pure false := by rfl) : PS X (.Expr e pos) (tDrop te) := by
  intro pins s σ H D I h
  exact wpAny_Expr_any (thn (he pins s σ H _ I h) fun v s1 ⟨x, H1, I1, r1, q1⟩ => ⟨σ, H1, I1, q1⟩) I.quiet hs
def tRet (te : TE) : TS := fun D σ H => te σ H D.rt
theorem ps_ret (he : PE X e te) : PS X (.Return (some e) pos) (tRet te) := by
  intro pins s σ H D I h
  exact wpAny_Return_some (thn (he pins s σ H _ I h) fun v s1 ⟨x, H1, I1, r1, q1⟩ => ⟨x, σ, H1, I1, r1, q1⟩)
def tIfS (c : TT) (t u : TS) : TS := fun D σ H => c σ H fun b H1 => if b = true then t D σ H1 else u D σ H1
theorem ps_if {c : Expr} {a b : List Stmt} {tc : TT} (hc : PT X c tc) (ha : PSs X a t) (hb : PSs X b u) : PS X (.If c a b pos) (tIfS tc t u) := by
  intro pins s σ H D I h
  refine wpAny_If (thn (hc pins s σ H _ I h) fun d s1 ⟨H1, I1, q1⟩ => ?_)
  cases d with
  | true => exact ha pins s1 σ H1 D I1 q1
  | false => exact hb pins s1 σ H1 D I1 q1
end

/-! ### targets -/
abbrev TG := V → St → Hp → (St → Hp → Prop) → Prop
abbrev TGs := List V → St → Hp → (St → Hp → Prop) → Prop
def PG (X : Cx) (target : Expr) (t : TG) : Prop :=
  ∀ (pins : List (Addr × Obj)) (s : Shared) (σ : St) (H : Hp) (v : V) (u : Value) (Q : St → Hp → Prop), Inv X pins σ H s → RelV v u → t v σ H Q →
    wpAny (model X.prog X.w) X.A (assign target X.env u) (fun _ s' => ∃ σ' H', Inv X pins σ' H' s' ∧ Q σ' H') X.xe s
/-- several targets, one after another -/
def PGs (X : Cx) (ts : List Expr) (t : TGs) : Prop :=
  ∀ (pins : List (Addr × Obj)) (s : Shared) (σ : St) (H : Hp) (vs : List V) (us : List Value) (Q : St → Hp → Prop), Inv X pins σ H s → Vals vs us → t vs σ H Q →
    wpAny (model X.prog X.w) X.A (assignInOrder ((assignEach ts X.env).map (·.2)) us) (fun _ s' => ∃ σ' H', Inv X pins σ' H' s' ∧ Q σ' H') X.xe s
/-- o[i] = v, by values -/
abbrev TSet := V → V → V → Hp → (Hp → Prop) → Prop
def PSet (X : Cx) (t : TSet) : Prop :=
  ∀ (pins : List (Addr × Obj)) (s : Shared) (σ : St) (H : Hp) (o i v : V) (ov iv u : Value) (Q : Hp → Prop), Inv X pins σ H s → RelV o ov → RelV i iv → RelV v u → t o i v H Q →
    wpAny (model X.prog X.w) X.A (setItem ov iv u) (fun _ s' => ∃ H', Inv X pins σ H' s' ∧ Q H') X.xe s
/-- a op= b, by values -/
abbrev TIp := V → V → Hp → VK → Prop
def PIp (X : Cx) (op : Operator) (t : TIp) : Prop :=
  ∀ (pins : List (Addr × Obj)) (s : Shared) (σ : St) (H : Hp) (x y : V) (v u : Value) (Q : VK), Inv X pins σ H s → RelV x v → RelV y u → t x y H Q →
    wpAny (model X.prog X.w) X.A (inplaceOp op v u) (EP X pins σ Q) X.xe s
section
variable {X : Cx} {pos : Pos}
def gName (i : Nat) : TG := fun v σ H Q => Q (σ.set i (some v)) H
theorem pg_name {i : Nat} {x : Str} (hN : X.N.Nodup) (hi : X.N[i]? = some x) (hx : Loc X.env.scope x) (hf : X.fn x = true ∨ X.env.scope.names.lookup x = some .local := by first | exact .inl rfl | exact .inr rfl | assumption) : PG X (.Name x pos) (gName i) := by
  intro pins s σ H v u Q I r h
  exact wpAny_assign_Name (store_ok I hN hi hx r (fun s' I' => ⟨_, H, I', h⟩) hf)
def gNil : TGs := fun vs σ H Q => vs = [] ∧ Q σ H
def gCons (t : TG) (u : TGs) : TGs := fun vs σ H Q => ∃ v r, vs = v :: r ∧ t v σ H fun σ' H' => u r σ' H' Q
theorem pgs_nil : PGs X [] gNil := by
  intro pins s σ H vs us Q I r h
  obtain ⟨e, h⟩ := h
  subst e
  cases r
  exact assignInOrder_nil ⟨σ, H, I, h⟩
theorem pgs_cons {e : Expr} {es : List Expr} {t : TG} {u : TGs} (h1 : PG X e t) (h2 : PGs X es u)
    (hs : (assignEach (e :: es) X.env).map (·.2) = assign e X.env :: (assignEach es X.env).map (·.2) := by rfl) : PGs X (e :: es) (gCons t u) := by
  intro pins s σ H vs us Q I r h
  obtain ⟨v, vr, e1, h⟩ := h
  subst e1
  cases r with
  | cons r rr =>
    rw [hs]
    refine assignInOrder_cons (thn (h1 pins s σ H _ _ _ I r h) fun _ s1 ⟨σ1, H1, I1, q1⟩ => ?_)
    exact h2 pins s1 σ1 H1 _ _ Q I1 rr q1
/-- (a, b, ..) = a tuple of that length -/
def gTup (K : PySem.W.Frag) (n : Nat) (t : TGs) : TG := fun v σ H Q => ∃ a xs, v = .ref a ∧ SqT K H a xs ∧ xs.length = n ∧ t xs σ H Q
theorem pg_tup {es : List Expr} {k : Nat} {t : TGs} {n : Nat} (hc : X.calm = true) (h : PGs X es t)
    (hn : (assignEach es X.env).length = n := by rfl) (hst : (assignEach es X.env).findIdx? (·.1) = none := by rfl) : PG X (.Tuple es k pos) (gTup X.K n t) := by
  intro pins s σ H v u Q I r hw
  obtain ⟨a, xs, e1, hq, hl, hw⟩ := hw
  subst e1
  cases r
  obtain ⟨its, rv, ht, hz⟩ := I.tuple hq
  refine assign_Tuple_tuple (I.ok.hd hc) ht (by simp [hn, ← hl, rv.length]) hst fun h' hx => ?_
  have I1 : Inv X pins σ H { s with heap := h' } := I.kept (t' := s.toks) fun b o e => hx b o (Nat.ne_of_lt (Heap.lt_size e)) e
  exact h pins _ σ H xs _ Q I1 (by simpa using rv) hw
/-- o[i] = .. -/
def gSub (to ti : TE) (t : TSet) : TG := fun v σ H Q => to σ H fun o H1 => ti σ H1 fun i H2 => t o i v H2 fun H3 => Q σ H3
theorem pg_sub {o i : Expr} {to ti : TE} {t : TSet} (ho : PE X o to) (hi : PE X i ti) (hs : PSet X t)
    (ha : ∀ v, assign (.Subscript o i pos) X.env v = (do
      let ov ← holding [v] (eval o X.env)
      let iv ← holding [v, ov] (eval i X.env)
      standAt pos
      holding [v, ov, iv] (setItem ov iv v)
      release [v, ov, iv] []) := by intro _; rfl) : PG X (.Subscript o i pos) (gSub to ti t) := by
  intro pins s σ H v u Q I r h
  rw [ha]
  refine wpAny_bind (wpAny_holding (thn (ho pins s σ H _ I h) fun ov s1 ⟨x, H1, I1, r1, q1⟩ => ?_))
  refine wpAny_bind (wpAny_holding (thn (hi pins s1 σ H1 _ I1 q1) fun iv s2 ⟨y, H2, I2, r2, q2⟩ => ?_))
  refine wpAny_bind (wpAny_standAt (wpAny_bind (wpAny_holding (thn (hs pins s2 σ H2 x y v ov iv u _ I2 r1 r2 r q2) fun _ s3 ⟨H3, I3, q3⟩ => ?_))))
  exact wpAny_release ⟨σ, H3, I3, q3⟩
/-- target = value -/
def tAsg (te : TE) (g : TG) : TS := fun D σ H => te σ H fun x H1 => g x σ H1 D.nx
theorem ps_asg {tg e : Expr} {te : TE} {g : TG} (he : PE X e te) (hg : PG X tg g) (hs : swapsWithSole [tg] e pos.line X.env = pure false := by rfl) (hw : swappedStores [tg] e X.env = pure none := by rfl)
    (h1 : (assignEach [tg] X.env).map (·.2) = [assign tg X.env] := by rfl) : PS X (.Assign [tg] e pos) (tAsg te g) := by
  intro pins s σ H D I h
  refine wpAny_Assign_stores (thn (he pins s σ H _ I h) fun v s1 ⟨x, H1, I1, r1, q1⟩ => ?_) hs hw
  rw [h1]
  exact thn (hg pins s1 σ H1 x v _ I1 r1 q1) fun _ s2 q => q
/-- name = value -/
theorem ps_set {i : Nat} {x : Str} {e : Expr} {te : TE} {pos' : Pos} (hN : X.N.Nodup) (hi : X.N[i]? = some x) (hx : Loc X.env.scope x) (he : PE X e te) (hs : swapsWith e (some (.Name x pos')) pos.line X.env = pure false := by rfl) (hf : X.fn x = true ∨ X.env.scope.names.lookup x = some .local := by first | exact .inl rfl | exact .inr rfl | assumption) :
    PS X (.Assign [.Name x pos'] e pos) (tAsg te (gName i)) := by
  intro pins s σ H D I h
  refine wpAny_Assign_Name (thn (he pins s σ H _ I h) fun v s1 ⟨y, H1, I1, r1, q1⟩ => ?_) hs
  exact store_ok I1 hN hi hx r1 (fun s2 I2 => ⟨_, H1, I2, q1⟩) hf
/-- a, b = x, y with plain local names: stored from the right; the pair itself is not tracked (the opening rows as in PyProof/Rows/TupAssign.lean:23) -/
def tPar (i j : Nat) (ta : TA) : TS := fun D σ H => ta σ H fun vs H1 => ∃ v w, vs = [v, w] ∧ D.nx ((σ.set i (some v)).set j (some w)) H1
theorem ps_par {i j : Nat} {x y : Str} {a b : Expr} {ta : TA} {px py pt : Pos} {kt k2 pt2} (hc : X.calm = true) (hN : X.N.Nodup) (hi : X.N[i]? = some x) (hj : X.N[j]? = some y) (hij : i ≠ j)
    (hx : X.env.scope.names.lookup x = some .local) (hy : X.env.scope.names.lookup y = some .local) (ha : PA X [a, b] ta)
    (hw : swappedStores [.Tuple [.Name x px, .Name y py] kt pt] (.Tuple [a, b] k2 pt2) X.env = pure (some [x, y]))
    (hs : swapsWithSole [.Tuple [.Name x px, .Name y py] kt pt] (.Tuple [a, b] k2 pt2) pos.line X.env = pure false := by rfl) :
    PS X (.Assign [.Tuple [.Name x px, .Name y py] kt pt] (.Tuple [a, b] k2 pt2) pos) (tPar i j ta) := by
  intro pins s σ H D I h
  rw [exec_Assign_arm]
  refine wpAny_bind (wpAny_standAt ?_)
  rw [hs]
  refine wpAny_bind (wpAny_pure ?_)
  rw [if_neg (by decide)]
  refine wpAny_bind (Tuple_ (thn (ha _ pins s σ H _ I h) fun us s1 ⟨vs, H1, I1, r1, q1⟩ => ?_))
  obtain ⟨v, w, e1, q1⟩ := q1
  subst e1
  obtain ⟨u1, u2, rfl, rv, rw'⟩ : ∃ u1 u2, us = [u1, u2] ∧ RelV v u1 ∧ RelV w u2 := by
    cases r1 with
    | cons p q =>
      cases q with
      | cons p' q' =>
        cases q'
        exact ⟨_, _, rfl, p, p'⟩
  refine wpAny_newObj_type ?_ (by show 2 ≤ sizeLine; decide)
  have I2 : Inv X pins σ H1 { s1 with heap := s1.heap.push { cls := .type "tuple", data := .seq [u1, u2].toArray } } := I1.kept (t' := s1.toks) fun b o e => Heap.get?_push_of_some _ e
  rw [hw]
  refine wpAny_bind (wpAny_pure ?_)
  show wpAny (model X.prog X.w) X.A (do rule "assign.swapped-stores"; let items ← unpackItems (.ref s1.heap.objs.size) 2 none; assignInOrder [fun v => bindName X.env y v, fun v => bindName X.env x v] items.reverse; pure Flow.next) _ _ _
  refine wpAny_bind (wpAny_rule (wpAny_bind (unpackItems_tuple (items := #[u1, u2]) (I.ok.hd hc) (IsTup.new s1.heap _) fun h' hx' => ?_)))
  have I3 := I2.kept (h' := h') (t' := s1.toks) fun b o e => hx' b o (Nat.ne_of_lt (Heap.lt_size e)) e
  show wpAny _ _ (assignInOrder [fun v => bindName X.env y v, fun v => bindName X.env x v] [u2, u1] >>= fun _ => pure Flow.next) _ _ _
  refine wpAny_bind (assignInOrder_cons (wpAny_bindName (store_ok I3 hN hj (.inl hy) rw' (fun s2 I4 => ?_) (.inr hy))))
  refine assignInOrder_cons (wpAny_bindName (store_ok I4 hN hi (.inl hx) rv (fun s3 I5 => assignInOrder_nil (wpAny_pure ?_)) (.inr hx)))
  rw [List.set_comm _ _ (Ne.symm hij)] at I5
  exact ⟨_, H1, I5, q1⟩
/-- name op= e -/
def tAug (i : Nat) (te : TE) (ti : TIp) : TS := fun D σ H => ∃ x, σ[i]? = some (some x) ∧ te σ H fun y H1 => ti x y H1 fun z H2 => D.nx (σ.set i (some z)) H2
theorem ps_aug {i : Nat} {x : Str} {e : Expr} {te : TE} {op : Operator} {ti : TIp} {pos' : Pos} (hN : X.N.Nodup) (hi : X.N[i]? = some x) (hx : Loc X.env.scope x) (he : PE X e te) (ho : PIp X op ti) (hf : X.fn x = true ∨ X.env.scope.names.lookup x = some .local := by first | exact .inl rfl | exact .inr rfl | assumption) :
    PS X (.AugAssign (.Name x pos') op e pos) (tAug i te ti) := by
  intro pins s σ H D I h
  obtain ⟨v, e1, h⟩ := h
  obtain ⟨m, hn, hl⟩ := I.loc
  have vis : Vis X.env.scope x := by rcases hx with k | k; exact .inl k; exact .inr (.inl k)
  obtain ⟨u, r, l⟩ := hl i x v hi e1 vis
  refine wpAny_AugAssign_Name ?_
  have go : wpAny (model X.prog X.w) X.A (eval e X.env) (fun w s₂ => wpAny (model X.prog X.w) X.A (inplaceOp op u w) (fun r s₃ => wpAny (model X.prog X.w) X.A (storeName X.env x r) (fun _ => SP X pins D .next) X.xe s₃) X.xe s₂) X.xe s := by
    refine thn (he pins s σ H _ I h) fun w s1 ⟨y, H1, I1, r1, q1⟩ => ?_
    refine thn (ho pins s1 σ H1 v y u w _ I1 r r1 q1) fun z s2 ⟨zv, H2, I2, r2, q2⟩ => ?_
    exact store_ok I2 hN hi hx r2 (fun s3 I3 => ⟨_, H2, I3, q2⟩) hf
  rcases l with ⟨hk, hm⟩ | ⟨hk, c, hc, hcell⟩
  · exact wpAny_loadName_local I.ok.kind hk hn hm go
  · rcases hk with hk | hk
    · exact wpAny_loadName_cell I.ok.kind hk hc hcell go
    · rcases hx with k | k
      · have : X.env.scope.names.lookup x = some .free := hk
        rw [k] at this; cases this
      · have : X.env.scope.names.lookup x = some .free := hk
        rw [k] at this; cases this
/-- ints -/
def ipI (f : Int → Int → Int) : TIp := fun x y H Q => ∃ i j, x = .int i ∧ y = .int j ∧ Q (.int (f i j)) H
theorem ip_add : PIp X .Add (ipI fun i j => i + j) := by
  intro pins s σ H x y v u Q I r1 r2 h
  obtain ⟨i, j, e1, e2, q⟩ := h
  subst e1; subst e2
  obtain ⟨t, rfl⟩ := r1
  obtain ⟨t', rfl⟩ := r2
  exact iadd_int ⟨.int _, H, I.tok _, ⟨_, rfl⟩, q⟩
end

/-! ### while -/
section
variable {X : Cx} {pos : Pos}
/-- the invariant W with its measure -/
def tWhile (c : TT) (tb : TS) : TS := fun D σ H => ∃ W : Nat → St → Hp → Prop, (∃ m, W m σ H) ∧ ∀ m σ H, W m σ H →
  c σ H fun b H1 => if b = true then ∃ N : St → Hp → Prop, (∀ σ' H', N σ' H' → ∃ m', m' < m ∧ W m' σ' H') ∧ tb { D with nx := N, ct := N, bk := D.nx } σ H1 else D.nx σ H1
theorem ps_while {c : Expr} {body : List Stmt} {tc : TT} {tb : TS} (hp : PassesOwn (model X.prog X.w) X.A X.env X.xe) (hc : PT X c tc) (hb : PSs X body tb) : PS X (.While c body [] pos) (tWhile tc tb) := by
  intro pins s σ H D I h
  obtain ⟨W, ⟨m0, w0⟩, turn⟩ := h
  refine wpAny_While (codeAny_whileLoop (fun n s' => ∃ σ' H', Inv X pins σ' H' s' ∧ W n σ' H') ?_ m0 ⟨σ, H, I, w0⟩)
  rintro n s1 ⟨σ1, H1, I1, w1⟩
  refine wpAny_passesOwn hp (thn (hc pins s1 σ1 H1 _ I1 (turn n σ1 H1 w1)) fun b s2 ⟨H2, I2, q2⟩ => ?_)
  cases b with
  | true =>
    obtain ⟨N, hN, q2⟩ := q2
    rw [if_pos rfl]
    refine wpAny_passesOwn hp (thn (hb pins s2 σ1 H2 _ I2 q2) fun f s3 q3 => ?_)
    cases f with
    | next =>
      obtain ⟨σ3, H3, I3, n3⟩ := q3
      obtain ⟨m', hm, w3⟩ := hN σ3 H3 n3
      exact ⟨m', hm, σ3, H3, I3, w3⟩
    | cont =>
      obtain ⟨σ3, H3, I3, n3⟩ := q3
      obtain ⟨m', hm, w3⟩ := hN σ3 H3 n3
      exact ⟨m', hm, σ3, H3, I3, w3⟩
    | brk => exact q3
    | ret v => exact q3
  | false =>
    rw [if_neg Bool.false_ne_true]
    exact wpAny_execs_nil ⟨σ1, H2, I2, q2⟩
end

/-! ### what a loop or a comprehension walks -/
/-- at turn i: it yields x (the heap may grow), or it stops -/
structure It where
  go : Nat → Hp → Prop
  yld : Nat → Hp → V → Hp → Prop
  stop : Nat → Hp → Prop
/-- the iterator's own objects may turn: they are not the frame's, not pinned, younger than the entry (or a comprehension's own) -/
def FpOk (X : Cx) (pins : List (Addr × Obj)) (H : Hp) (b : Addr) : Prop :=
  H b = none ∧ b ≠ X.env.locals ∧ b ∉ X.fs ∧ (b ∈ X.ex ∨ X.s₀.heap.objs.size ≤ b) ∧ (∀ x c, X.env.cells.lookup x = some c → c ≠ b) ∧ ∀ p ∈ X.pn ++ pins, p.1 ≠ b
theorem Inv.fpOk {X : Cx} {pins : List (Addr × Obj)} {σ : St} {H H' : Hp} {s : Shared} {b : Addr} (I : Inv X pins σ H s) (hb : s.heap.objs.size ≤ b) (hn : H' b = none) : FpOk X pins H' b := by
  refine ⟨hn, Nat.ne_of_gt (Nat.lt_of_lt_of_le I.lt hb), I.nofs hb, .inr (Nat.le_trans I.sz hb), fun x c e z => ?_, fun p hp z => ?_⟩
  · obtain ⟨v, q⟩ := I.cell x c e
    exact absurd (Nat.lt_of_lt_of_le q.lt (by rw [z]; exact hb)) (Nat.lt_irrefl _)
  · exact absurd (Nat.lt_of_lt_of_le (Heap.lt_size (I.pin p hp).1) (by rw [z]; exact hb)) (Nat.lt_irrefl _)
structure Turn (P : Program) (w : World) (K : PySem.W.Frag) (tg : Expr) (J : It) (fp : List Addr) (it : Addr) (tn : Nat → Heap → Prop) : Prop where
  mem : it ∈ fp
  obj : ∀ i h, tn i h → ∀ b ∈ fp, ∃ o, h.get? b = some o ∧ ∀ v, o.data ≠ .cell v
  keep : ∀ i h h', tn i h → (∀ b ∈ fp, ∀ o, h.get? b = some o → h'.get? b = some o) → tn i h'
  item : ∀ (X : Cx), X.prog = P → X.w = w → X.K = K → X.calm = true → ∀ (i : Nat) (pins : List (Addr × Obj)) (s : Shared) (σ : St) (H : Hp) (E : Value → Shared → Prop), Inv X pins σ H s → (∀ b ∈ fp, FpOk X pins H b) → tn i s.heap → J.go i H →
    wpAny (model P w) X.A (pyNext (.ref it)) (fun r s1 => ∃ u, r = some u ∧
      wpAny (model P w) X.A (letOwnedTupleGo tg (.ref it) u) (fun _ s2 => ∃ x H', Inv X pins σ H' s2 ∧ RelV x u ∧ J.yld i H x H' ∧ tn (i + 1) s2.heap ∧ ∀ b ∈ fp, H' b = none) E s1) E s
  done : ∀ (X : Cx), X.prog = P → X.w = w → X.K = K → X.calm = true → ∀ (i : Nat) (pins : List (Addr × Obj)) (s : Shared) (σ : St) (H : Hp) (E : Value → Shared → Prop), Inv X pins σ H s → (∀ b ∈ fp, FpOk X pins H b) → tn i s.heap → J.stop i H →
    wpAny (model P w) X.A (pyNext (.ref it)) (fun r s1 => r = none ∧ Inv X pins σ H s1) E s
  self : ∀ (A : Around) (i : Nat) (s : Shared) (Q : Value → Shared → Prop) (E : Value → Shared → Prop), tn i s.heap → Q (.ref it) s → wpAny (model P w) A (pyIter (.ref it)) Q E s
abbrev TI := St → Hp → (It → Hp → Prop) → Prop
/-- an iterator has come -/
def PIE (X : Cx) (pins : List (Addr × Obj)) (σ : St) (tg : Expr) (R : It → Hp → Prop) (itv : Value) (s2 : Shared) : Prop :=
  ∃ (it : Addr) (fp : List Addr) (tn : Nat → Heap → Prop) (J : It) (H' : Hp), itv = .ref it ∧ Inv X pins σ H' s2 ∧ Turn X.prog X.w X.K tg J fp it tn ∧ tn 0 s2.heap ∧ (∀ b ∈ fp, FpOk X pins H' b) ∧ R J H'
def PI (X : Cx) (tg iter : Expr) (wi : TI) : Prop :=
  ∀ (pins : List (Addr × Obj)) (s : Shared) (σ : St) (H : Hp) (R : It → Hp → Prop), Inv X pins σ H s → wi σ H R →
    wpAny (model X.prog X.w) X.A (eval iter X.env) (fun v s1 => wpAny (model X.prog X.w) X.A (pyIter v) (PIE X pins σ tg R) X.xe s1) X.xe s

/-- the step ahead of the store is nothing for an iterator that keeps no tuple -/
theorem go_of {M : Model} {A : Around} {E : Value → Shared → Prop} {s : Shared} {tg : Expr} {it : Addr} {u : Value} {o : Obj} {n : String} {vs : Array Value} {Q : Unit → Shared → Prop} (ho : s.heap.get? it = some o) (hc : o.cls = .type n) (hd : o.data = .fields vs)
    (hn : ["enumerate", "zip", "dict_itemiterator", "dict_reverseitemiterator", "odict_iterator", "itertools.zip_longest", "itertools.pairwise"].contains n = false) (hQ : Q () s) : wpAny M A (letOwnedTupleGo tg (.ref it) u) Q E s := by
  unfold letOwnedTupleGo
  cases tg <;> first
    | exact wpAny_pure hQ
    | (cases u <;> first
        | exact wpAny_pure hQ
        | (refine wpAny_bind (wpAny_load ho ?_)
           rw [hc, hd]
           show wpAny M A (if (["enumerate", "zip", "dict_itemiterator", "dict_reverseitemiterator", "odict_iterator", "itertools.zip_longest", "itertools.pairwise"].contains n && vs[0]? == some (rawInt _)) = true then _ else _) Q E s
           rw [if_neg (by intro h; rw [hn, Bool.false_and] at h; cases h)]
           exact wpAny_pure hQ))

/-- the list at a, as it stands at each turn (a loop may append to it) -/
def Itl (K : PySem.W.Frag) (a : Addr) : It :=
  ⟨fun i H => ∃ xs x, SqL K H a xs ∧ xs[i]? = some x, fun i H x H' => H' = H ∧ ∀ xs, SqL K H a xs → xs[i]? = some x, fun i H => ∃ xs, SqL K H a xs ∧ xs.length ≤ i⟩
def Itt (K : PySem.W.Frag) (a : Addr) : It :=
  ⟨fun i H => ∃ xs x, SqT K H a xs ∧ xs[i]? = some x, fun i H x H' => H' = H ∧ ∀ xs, SqT K H a xs → xs[i]? = some x, fun i H => ∃ xs, SqT K H a xs ∧ xs.length ≤ i⟩
/-- lo, lo + 1, .. (n of them) -/
def Itr (lo : Int) (n : Nat) : It := ⟨fun i _ => i < n, fun i H x H' => H' = H ∧ x = .int (lo + i), fun i _ => n ≤ i⟩
theorem turn_list {P : Program} {w : World} {K : PySem.W.Frag} {tg : Expr} (a it : Addr) : Turn P w K tg (Itl K a) [it] it (fun i h => h.IsListIter it a i) where
  mem := by simp
  obj := fun i h st b hb => by
    have e : b = it := by simpa using hb
    subst e
    obtain ⟨o, e, c, d⟩ := st
    exact ⟨o, e, fun v z => by rw [d] at z; cases z⟩
  keep := fun i h h' st k => st.at fun o e => k it (by simp) o e
  item := by
    intro X hP hw hK hc i pins s σ H E I hf st hg
    subst hP hw hK
    obtain ⟨xs, x, hq, hx⟩ := hg
    obtain ⟨its, rv, p, hz⟩ := I.list hq
    obtain ⟨u, hu, ru⟩ := rv.get hx
    obtain ⟨f0, f1, f2, f3, f4, f5⟩ := hf it (by simp)
    refine wpAny_pyNext_list_item st p.isList (x := u) (by simpa using hu) fun h' st' sb => ?_
    have I1 : Inv X pins σ H { s with heap := h' } := I.turned (t' := s.toks) (fun b o hb e => (sb.2 b hb).trans e) f0 f1 f3 f4 f5
    obtain ⟨o, e, c, d⟩ := id st'
    exact ⟨u, rfl, go_of (s := { s with heap := h' }) e c d (by decide) ⟨x, H, I1, ru, ⟨rfl, fun ys hy => by rw [I.list_inj hy hq]; exact hx⟩, st', fun b hb => (hf b hb).1⟩⟩
  done := by
    intro X hP hw hK hc i pins s σ H E I hf st hg
    subst hP hw hK
    obtain ⟨xs, hq, hx⟩ := hg
    obtain ⟨its, rv, p, hz⟩ := I.list hq
    obtain ⟨f0, f1, f2, f3, f4, f5⟩ := hf it (by simp)
    have hl := rv.length
    exact wpAny_pyNext_list_end (I.ok.hd hc) st p.isList (by simp; omega) fun h' eb => ⟨rfl, I.turned (t' := s.toks) (fun b o hb e => eb b o hb e) f0 f1 f3 f4 f5⟩
  self := fun _ _ _ _ _ st h => wpAny_pyIter_listiter st h
theorem turn_tuple {P : Program} {w : World} {K : PySem.W.Frag} {tg : Expr} (a it : Addr) : Turn P w K tg (Itt K a) [it] it (fun i h => h.IsTupleIter it a i) where
  mem := by simp
  obj := fun i h st b hb => by
    have e : b = it := by simpa using hb
    subst e
    obtain ⟨o, e, c, d⟩ := st
    exact ⟨o, e, fun v z => by rw [d] at z; cases z⟩
  keep := fun i h h' st k => st.at fun o e => k it (by simp) o e
  item := by
    intro X hP hw hK hc i pins s σ H E I hf st hg
    subst hP hw hK
    obtain ⟨xs, x, hq, hx⟩ := hg
    obtain ⟨its, rv, p, hz⟩ := I.tuple hq
    obtain ⟨u, hu, ru⟩ := rv.get hx
    obtain ⟨f0, f1, f2, f3, f4, f5⟩ := hf it (by simp)
    refine wpAny_pyNext_tuple_item st (show s.heap.IsTuple a its.toArray from p) (x := u) (by simpa using hu) fun h' st' sb => ?_
    have I1 : Inv X pins σ H { s with heap := h' } := I.turned (t' := s.toks) (fun b o hb e => (sb.2 b hb).trans e) f0 f1 f3 f4 f5
    obtain ⟨o, e, c, d⟩ := id st'
    exact ⟨u, rfl, go_of (s := { s with heap := h' }) e c d (by decide) ⟨x, H, I1, ru, ⟨rfl, fun ys hy => by rw [I.tuple_inj hy hq]; exact hx⟩, st', fun b hb => (hf b hb).1⟩⟩
  done := by
    intro X hP hw hK hc i pins s σ H E I hf st hg
    subst hP hw hK
    obtain ⟨xs, hq, hx⟩ := hg
    obtain ⟨its, rv, p, hz⟩ := I.tuple hq
    obtain ⟨f0, f1, f2, f3, f4, f5⟩ := hf it (by simp)
    have hl := rv.length
    exact wpAny_pyNext_tuple_end (I.ok.hd hc) st (show s.heap.IsTuple a its.toArray from p) (by simp; omega) fun h' eb => ⟨rfl, I.turned (t' := s.toks) (fun b o hb e => eb b o hb e) f0 f1 f3 f4 f5⟩
  self := fun _ _ _ _ _ st h => wpAny_pyIter_tupleiter st h
theorem turn_range {P : Program} {w : World} {K : PySem.W.Frag} {tg : Expr} (it : Addr) (lo : Int) (n : Nat) : Turn P w K tg (Itr lo n) [it] it (fun i h => IsRangeIter h it (lo + (i : Nat) * 1) ((n : Int) - (i : Nat)) 1) where
  mem := by simp
  obj := fun i h st b hb => by
    have e : b = it := by simpa using hb
    subst e
    exact ⟨_, st, fun v z => by
      have z' : Data.fields _ = Data.cell v := z
      cases z'⟩
  keep := fun i h h' st k => k it (by simp) _ st
  item := by
    intro X hP hw hK hc i pins s σ H E I hf st hg
    subst hP hw hK
    obtain ⟨f0, f1, f2, f3, f4, f5⟩ := hf it (by simp)
    have W := Walks.range (prog := X.prog) (w := X.w) (I.ok.hd hc) it lo 1 n
    refine W.item i s _ _ hg st fun v h' tk hv st' kk => ?_
    obtain ⟨t, rfl⟩ := hv
    have I1 : Inv X pins σ H { s with heap := h', toks := tk } := I.turned (fun b o hb e => kk b o (by simpa using hb) e) f0 f1 f3 f4 f5
    refine ⟨_, rfl, go_of (s := { s with heap := h', toks := tk }) (n := "range_iterator") st' rfl rfl (by decide) ⟨.int (lo + i), H, I1, ⟨t, ?_⟩, ⟨rfl, rfl⟩, st', fun b hb => (hf b hb).1⟩⟩
    rw [Int.mul_one]
  done := by
    intro X hP hw hK hc i pins s σ H E I hf st hg
    subst hP hw hK
    obtain ⟨f0, f1, f2, f3, f4, f5⟩ := hf it (by simp)
    exact wpAny_pyNext_range_end (I.ok.hd hc) st (by have : n ≤ i := hg; omega) fun h' eb => ⟨rfl, I.turned (t' := s.toks) (fun b o hb e => eb b o hb e) f0 f1 f3 f4 f5⟩
  self := fun _ _ _ _ _ st h => wpAny_pyIter_rangeiter st h
end L2

namespace L2
open PySem PySem.Spec PyProof.Rows
section
variable {X : Cx} {tg : Expr}
def iList (K : PySem.W.Frag) (tl : TE) : TI := fun σ H R => tl σ H fun x H1 => ∃ a, x = .ref a ∧ (∃ xs, SqL K H1 a xs) ∧ R (Itl K a) H1
def iTup (K : PySem.W.Frag) (tl : TE) : TI := fun σ H R => tl σ H fun x H1 => ∃ a, x = .ref a ∧ (∃ xs, SqT K H1 a xs) ∧ R (Itt K a) H1
theorem pi_list {l : Expr} {tl : TE} (hl : PE X l tl) : PI X tg l (iList X.K tl) := by
  intro pins s σ H R I h
  refine thn (hl pins s σ H _ I h) fun v s1 ⟨x, H1, I1, r1, q1⟩ => ?_
  obtain ⟨a, e, ⟨xs, hq⟩, q⟩ := q1
  subst e
  cases r1
  obtain ⟨its, rv, p, hz⟩ := I1.list hq
  refine wpAny_pyIter_list p.isList ?_
  refine ⟨s1.heap.objs.size, [s1.heap.objs.size], _, _, H1, rfl, I1.kept (t' := s1.toks) fun b o e => Heap.get?_push_of_some _ e, turn_list a _, ⟨_, Heap.get?_push_size _ rfl, rfl, rfl⟩, fun b hb => ?_, q⟩
  have e : b = s1.heap.objs.size := by simpa using hb
  subst e
  exact I1.fpOk (Nat.le_refl _) (I1.hok.fresh (Nat.le_refl _))
theorem pi_tup {l : Expr} {tl : TE} (hl : PE X l tl) : PI X tg l (iTup X.K tl) := by
  intro pins s σ H R I h
  refine thn (hl pins s σ H _ I h) fun v s1 ⟨x, H1, I1, r1, q1⟩ => ?_
  obtain ⟨a, e, ⟨xs, hq⟩, q⟩ := q1
  subst e
  cases r1
  obtain ⟨its, rv, p, hz⟩ := I1.tuple hq
  refine wpAny_pyIter_tuple (show s1.heap.IsTuple a its.toArray from p) ?_
  refine ⟨s1.heap.objs.size, [s1.heap.objs.size], _, _, H1, rfl, I1.kept (t' := s1.toks) fun b o e => Heap.get?_push_of_some _ e, turn_tuple a _, ⟨_, Heap.get?_push_size _ rfl, rfl, rfl⟩, fun b hb => ?_, q⟩
  have e : b = s1.heap.objs.size := by simpa using hb
  subst e
  exact I1.fpOk (Nat.le_refl _) (I1.hok.fresh (Nat.le_refl _))
/-- a range object just made, walked -/
theorem range_it {pins : List (Addr × Obj)} {σ : St} {H : Hp} {s : Shared} {R : It → Hp → Prop} {E : Value → Shared → Prop} {lo hi : Int} {t u v : Tok} {tk : Nat} (I : Inv X pins σ H s) (h1 : -(2 ^ 62) ≤ lo) (h2 : lo < 2 ^ 62) (h3 : -(2 ^ 62) ≤ hi) (h4 : hi < 2 ^ 62)
    (q : R (Itr lo (hi - lo).toNat) H) : wpAny (model X.prog X.w) X.A (pyIter (.ref s.heap.objs.size)) (PIE X pins σ tg R) E { s with heap := s.heap.push { cls := .type "range", data := .fields #[.int lo t, .int hi u, .int 1 v] }, toks := tk } := by
  refine wpAny_pyIter_range (IsRange.new ..) (small_one h1 h2 h3 h4) ?_
  have I1 : Inv X pins σ H { s with heap := s.heap.push { cls := .type "range", data := .fields #[.int lo t, .int hi u, .int 1 v] }, toks := tk } := I.kept fun b o e => Heap.get?_push_of_some _ e
  refine ⟨(s.heap.push { cls := .type "range", data := .fields #[.int lo t, .int hi u, .int 1 v] }).objs.size, [(s.heap.push { cls := .type "range", data := .fields #[.int lo t, .int hi u, .int 1 v] }).objs.size], _, _, H, rfl,
    I1.kept (t' := tk) fun b o e => Heap.get?_push_of_some _ e, turn_range _ lo (hi - lo).toNat, ?_, fun b hb => ?_, q⟩
  · have e1 : lo + ((0 : Nat) : Int) * 1 = lo := by simp
    have e2 : (((hi - lo).toNat : Nat) : Int) - ((0 : Nat) : Int) = Builtin.Range.rangeSize lo hi 1 := by rw [rangeSize_one]; split <;> omega
    show IsRangeIter _ _ (lo + ((0 : Nat) : Int) * 1) ((((hi - lo).toNat : Nat) : Int) - ((0 : Nat) : Int)) 1
    rw [e1, e2]
    exact Heap.get?_push_size _ rfl
  · have e : b = (s.heap.push { cls := .type "range", data := .fields #[.int lo t, .int hi u, .int 1 v] }).objs.size := by simpa using hb
    subst e
    exact I1.fpOk (Nat.le_refl _) (I1.hok.fresh (Nat.le_refl _))
def iRng1 (ta : TA) : TI := fun σ H R => ta σ H fun vs H1 => ∃ j : Int, vs = [.int j] ∧ -(2 ^ 62) ≤ j ∧ j < 2 ^ 62 ∧ R (Itr 0 j.toNat) H1
def iRng2 (ta : TA) : TI := fun σ H R => ta σ H fun vs H1 => ∃ i j : Int, vs = [.int i, .int j] ∧ (-(2 ^ 62) ≤ i ∧ i < 2 ^ 62 ∧ -(2 ^ 62) ≤ j ∧ j < 2 ^ 62) ∧ R (Itr i (j - i).toNat) H1
theorem pi_range1 {a : Expr} {ta : TA} {p pos : Pos} (hg : Gl X "range") (hm : X.mg "range" = none) (ha : PA X [a] ta) (hs : starEach [a] X.env = [(false, eval a X.env)] := by rfl) : PI X tg (.Call (.Name "range" p) [a] [] pos) (iRng1 ta) := by
  intro pins s σ H R I h
  refine Call_ (ld_blt I hg hm boot_range (PyProof.Rows.callWith_type1 (thn (ha pos pins s σ H _ I h) fun us s1 ⟨vs, H1, I1, r1, q1⟩ => ?_) hs rfl))
  obtain ⟨j, e, q1, q2, q⟩ := q1
  subst e
  cases r1 with
  | cons r rr =>
    cases rr
    obtain ⟨t, rfl⟩ := r
    exact call_range_1 (range_it I1 (by omega) (by omega) q1 q2 (by simpa using q))
theorem pi_range2 {a b : Expr} {ta : TA} {p pos : Pos} (hg : Gl X "range") (hm : X.mg "range" = none) (ha : PA X [a, b] ta) (hs : starEach [a, b] X.env = [(false, eval a X.env), (false, eval b X.env)] := by rfl) (hs2 : starEach [b] X.env = [(false, eval b X.env)] := by rfl) :
    PI X tg (.Call (.Name "range" p) [a, b] [] pos) (iRng2 ta) := by
  intro pins s σ H R I h
  refine Call_ (ld_blt I hg hm boot_range (PyProof.Rows.callWith_type1 (thn (ha pos pins s σ H _ I h) fun us s1 ⟨vs, H1, I1, r1, q1⟩ => ?_) (by rw [hs, hs2]) (by rw [hs2]; rfl)))
  obtain ⟨i, j, e, ⟨q1, q2, q3, q4⟩, q⟩ := q1
  subst e
  cases r1 with
  | cons r rr =>
    cases rr with
    | cons r' rr =>
      cases rr
      obtain ⟨t, rfl⟩ := r
      obtain ⟨t', rfl⟩ := r'
      exact call_range_2 (range_it I1 q1 q2 q3 q4 q)

/-! ### for -/
/-- W: the invariant by the turn and a measure; N: what the body is to reach -/
def tFor (wi : TI) (g : TG) (tb : TS) : TS := fun D σ H => wi σ H fun J H1 => ∃ W : Nat → Nat → St → Hp → Prop, (∃ m, W 0 m σ H1) ∧ ∀ i m σ H, W i m σ H →
  (J.stop i H ∧ D.nx σ H) ∨ (J.go i H ∧ ∃ N : St → Hp → Prop, (∀ σ' H', N σ' H' → ∃ m', m' < m ∧ W (i + 1) m' σ' H') ∧ ∀ x H', J.yld i H x H' → g x σ H' fun σ2 H2 => tb { D with nx := N, ct := N, bk := D.nx } σ2 H2)
/-- the records at fp as they stand -/
def pinsAt (fp : List Addr) (h : Heap) : List (Addr × Obj) := fp.filterMap fun b => (h.get? b).map fun o => (b, o)
theorem mem_pinsAt {fp : List Addr} {h : Heap} {b : Addr} {o : Obj} (hb : b ∈ fp) (e : h.get? b = some o) : (b, o) ∈ pinsAt fp h := List.mem_filterMap.mpr ⟨b, hb, by rw [e]; rfl⟩
theorem of_pinsAt {fp : List Addr} {h : Heap} {p : Addr × Obj} (hp : p ∈ pinsAt fp h) : p.1 ∈ fp ∧ h.get? p.1 = some p.2 := by
  obtain ⟨b, hb, e⟩ := List.mem_filterMap.mp hp
  cases q : h.get? b with
  | none => rw [q] at e; cases e
  | some o =>
    rw [q] at e
    have e' : (b, o) = p := Option.some.inj e
    subst e'
    exact ⟨hb, q⟩
theorem Inv.pinned {pins : List (Addr × Obj)} {σ : St} {H : Hp} {s : Shared} {fp : List Addr} (I : Inv X pins σ H s) (hf : ∀ b ∈ fp, FpOk X pins H b) (ho : ∀ b ∈ fp, ∃ o, s.heap.get? b = some o ∧ ∀ v, o.data ≠ .cell v) : Inv X (pins ++ pinsAt fp s.heap) σ H s :=
  I.pins_of fun p hp => (List.mem_append.mp hp).elim (fun z => I.pin p (List.mem_append_right _ z)) fun z => by
    obtain ⟨hb, e⟩ := of_pinsAt z
    obtain ⟨f0, f1, f2, _⟩ := hf p.1 hb
    obtain ⟨o, e', d⟩ := ho p.1 hb
    rw [e] at e'; cases e'
    exact ⟨e, f0, f1, f2, d⟩
theorem Inv.unpinned {pins pl : List (Addr × Obj)} {σ : St} {H : Hp} {s : Shared} (I : Inv X (pins ++ pl) σ H s) : Inv X pins σ H s := I.pins_of fun p hp => I.pin p (List.mem_append_right _ (List.mem_append_left _ hp))
theorem ps_for {iter : Expr} {body : List Stmt} {wi : TI} {g : TG} {tb : TS} {pos : Pos} (hp : PassesOwn (model X.prog X.w) X.A X.env X.xe) (hc : X.calm = true) (hi : PI X tg iter wi) (hg : PG X tg g) (hb : PSs X body tb)
    (hs : ∀ x, foldedSetIterable iter X.env x = pure x := by intro _; rfl) : PS X (.For tg iter body [] pos) (tFor wi g tb) := by
  intro pins s σ H D I h
  refine wpAny_For (thn (hi pins s σ H _ I h) fun v s1 h1 => thn h1 fun itv s2 h2 => ?_) hs
  obtain ⟨it, fp, tn, J, H2, e, I2, T, st2, f2, W, ⟨m0, w0⟩, turn⟩ := h2
  subst e
  -- what stays true of the iterator's objects through the loop
  have stat : ∀ {H' : Hp}, (∀ b ∈ fp, H' b = none) → ∀ b ∈ fp, FpOk X pins H' b := fun hn b hb => ⟨hn b hb, (f2 b hb).2⟩
  refine codeAny_forLoop_any (fun n s' => ∃ i σ' H', Inv X pins σ' H' s' ∧ tn i s'.heap ∧ (∀ b ∈ fp, H' b = none) ∧ W i n σ' H') ?_ m0 ⟨0, σ, H2, I2, st2, fun b hb => (f2 b hb).1, w0⟩
  rintro n s3 ⟨i, σ3, H3, I3, st3, fr3, w3⟩
  rcases turn i n σ3 H3 w3 with ⟨stop, qn⟩ | ⟨go, N, hN, step⟩
  · refine wpAny_passesOwn hp (thn (T.done X rfl rfl rfl hc i pins s3 σ3 H3 X.xe I3 (stat fr3) st3 stop) fun r s4 ⟨hr, I4⟩ => ?_)
    subst hr
    exact wpAny_execs_nil ⟨σ3, H3, I4, qn⟩
  · refine wpAny_passesOwn hp (thn (T.item X rfl rfl rfl hc i pins s3 σ3 H3 X.xe I3 (stat fr3) st3 go) fun r s4 ⟨u, hr, h4⟩ => ?_)
    subst hr
    refine wpAny_passesOwn hp (thn h4 fun _ s5 ⟨x, H5, I5, r5, y5, st5, fr5⟩ => ?_)
    have I5' := I5.pinned (stat fr5) (T.obj _ _ st5)
    refine wpAny_passesOwn hp (thn (hg _ s5 σ3 H5 x u _ I5' r5 (step x H5 y5)) fun _ s6 ⟨σ6, H6, I6, q6⟩ => ?_)
    refine wpAny_passesOwn hp (thn (hb _ s6 σ6 H6 _ I6 q6) fun f s7 q7 => ?_)
    have again : ∀ {σ7 : St} {H7 : Hp}, Inv X (pins ++ pinsAt fp s5.heap) σ7 H7 s7 → N σ7 H7 → ∃ m, m < n ∧ ∃ i σ' H', Inv X pins σ' H' s7 ∧ tn i s7.heap ∧ (∀ b ∈ fp, H' b = none) ∧ W i m σ' H' := fun {σ7 H7} I7 n7 => by
      obtain ⟨m', hm, w7⟩ := hN σ7 H7 n7
      refine ⟨m', hm, i + 1, σ7, H7, I7.unpinned, T.keep _ _ _ st5 fun b hb o e => (I7.pin (b, o) (List.mem_append_right _ (List.mem_append_right _ (mem_pinsAt hb e)))).1, fun b hb => ?_, w7⟩
      obtain ⟨o, e, d⟩ := T.obj _ _ st5 b hb
      exact (I7.pin (b, o) (List.mem_append_right _ (List.mem_append_right _ (mem_pinsAt hb e)))).2.1
    cases f with
    | next => obtain ⟨σ7, H7, I7, n7⟩ := q7; exact again I7 n7
    | cont => obtain ⟨σ7, H7, I7, n7⟩ := q7; exact again I7 n7
    | brk => obtain ⟨σ7, H7, I7, q7⟩ := q7; exact ⟨σ7, H7, I7.unpinned, q7⟩
    | ret v => obtain ⟨x7, σ7, H7, I7, r7, q7⟩ := q7; exact ⟨x7, σ7, H7, I7.unpinned, r7, q7⟩
end

/-! ### the forms one uses -/
/-- over a list that the body leaves as it is -/
theorem for_list {K : PySem.W.Frag} {a : Addr} {xs : List V} {g : TG} {tb : TS} {D : Ends} {σ : St} {H : Hp} (Pv : Nat → St → Hp → Prop) (h0 : Pv 0 σ H) (hl : ∀ i σ H, i ≤ xs.length → Pv i σ H → SqL K H a xs)
    (hs : ∀ i x σ H, xs[i]? = some x → Pv i σ H → g x σ H fun σ2 H2 => tb { D with nx := Pv (i + 1), ct := Pv (i + 1), bk := D.nx } σ2 H2) (hd : ∀ σ H, Pv xs.length σ H → D.nx σ H) :
    ∃ W : Nat → Nat → St → Hp → Prop, (∃ m, W 0 m σ H) ∧ ∀ i m σ H, W i m σ H →
      ((Itl K a).stop i H ∧ D.nx σ H) ∨ ((Itl K a).go i H ∧ ∃ N : St → Hp → Prop, (∀ σ' H', N σ' H' → ∃ m', m' < m ∧ W (i + 1) m' σ' H') ∧ ∀ x H', (Itl K a).yld i H x H' → g x σ H' fun σ2 H2 => tb { D with nx := N, ct := N, bk := D.nx } σ2 H2) := by
  refine ⟨fun i m σ H => m = xs.length - i ∧ i ≤ xs.length ∧ Pv i σ H, ⟨xs.length, by simp, Nat.zero_le _, h0⟩, ?_⟩
  rintro i m σ H ⟨rfl, hi, p⟩
  have q := hl i σ H hi p
  by_cases hlt : i < xs.length
  · refine .inr ⟨⟨xs, xs[i], q, by simp [hlt]⟩, Pv (i + 1), fun σ' H' p' => ⟨xs.length - (i + 1), by omega, rfl, hlt, p'⟩, fun x H' y => ?_⟩
    obtain ⟨e, y⟩ := y
    subst e
    exact hs i x σ _ (y xs q) p
  · have e : i = xs.length := by omega
    subst e
    exact .inl ⟨⟨xs, q, Nat.le_refl _⟩, hd σ H p⟩
theorem for_tup {K : PySem.W.Frag} {a : Addr} {xs : List V} {g : TG} {tb : TS} {D : Ends} {σ : St} {H : Hp} (Pv : Nat → St → Hp → Prop) (h0 : Pv 0 σ H) (hl : ∀ i σ H, i ≤ xs.length → Pv i σ H → SqT K H a xs)
    (hs : ∀ i x σ H, xs[i]? = some x → Pv i σ H → g x σ H fun σ2 H2 => tb { D with nx := Pv (i + 1), ct := Pv (i + 1), bk := D.nx } σ2 H2) (hd : ∀ σ H, Pv xs.length σ H → D.nx σ H) :
    ∃ W : Nat → Nat → St → Hp → Prop, (∃ m, W 0 m σ H) ∧ ∀ i m σ H, W i m σ H →
      ((Itt K a).stop i H ∧ D.nx σ H) ∨ ((Itt K a).go i H ∧ ∃ N : St → Hp → Prop, (∀ σ' H', N σ' H' → ∃ m', m' < m ∧ W (i + 1) m' σ' H') ∧ ∀ x H', (Itt K a).yld i H x H' → g x σ H' fun σ2 H2 => tb { D with nx := N, ct := N, bk := D.nx } σ2 H2) := by
  refine ⟨fun i m σ H => m = xs.length - i ∧ i ≤ xs.length ∧ Pv i σ H, ⟨xs.length, by simp, Nat.zero_le _, h0⟩, ?_⟩
  rintro i m σ H ⟨rfl, hi, p⟩
  have q := hl i σ H hi p
  by_cases hlt : i < xs.length
  · refine .inr ⟨⟨xs, xs[i], q, by simp [hlt]⟩, Pv (i + 1), fun σ' H' p' => ⟨xs.length - (i + 1), by omega, rfl, hlt, p'⟩, fun x H' y => ?_⟩
    obtain ⟨e, y⟩ := y
    subst e
    exact hs i x σ _ (y xs q) p
  · have e : i = xs.length := by omega
    subst e
    exact .inl ⟨⟨xs, q, Nat.le_refl _⟩, hd σ H p⟩
theorem for_range {lo : Int} {n : Nat} {g : TG} {tb : TS} {D : Ends} {σ : St} {H : Hp} (Pv : Nat → St → Hp → Prop) (h0 : Pv 0 σ H)
    (hs : ∀ i σ H, i < n → Pv i σ H → g (.int (lo + i)) σ H fun σ2 H2 => tb { D with nx := Pv (i + 1), ct := Pv (i + 1), bk := D.nx } σ2 H2) (hd : ∀ σ H, Pv n σ H → D.nx σ H) :
    ∃ W : Nat → Nat → St → Hp → Prop, (∃ m, W 0 m σ H) ∧ ∀ i m σ H, W i m σ H →
      ((Itr lo n).stop i H ∧ D.nx σ H) ∨ ((Itr lo n).go i H ∧ ∃ N : St → Hp → Prop, (∀ σ' H', N σ' H' → ∃ m', m' < m ∧ W (i + 1) m' σ' H') ∧ ∀ x H', (Itr lo n).yld i H x H' → g x σ H' fun σ2 H2 => tb { D with nx := N, ct := N, bk := D.nx } σ2 H2) := by
  refine ⟨fun i m σ H => m = n - i ∧ i ≤ n ∧ Pv i σ H, ⟨n, by simp, Nat.zero_le _, h0⟩, ?_⟩
  rintro i m σ H ⟨rfl, hi, p⟩
  by_cases hlt : i < n
  · refine .inr ⟨hlt, Pv (i + 1), fun σ' H' p' => ⟨n - (i + 1), by omega, rfl, hlt, p'⟩, fun x H' y => ?_⟩
    obtain ⟨e, y⟩ := y
    subst e y
    exact hs i σ _ hlt p
  · have e : i = n := by omega
    subst e
    exact .inl ⟨Nat.le_refl _, hd σ H p⟩
end L2

namespace L2
open PySem PySem.Spec PyProof.Rows

abbrev R2 := V → V → Hp → VK → Prop
/-- a two-place operation on values: f is binaryOp op, inplaceOp op or compareOp op -/
def OpR (X : Cx) (f : Value → Value → Sem Value) (r : R2) : Prop :=
  ∀ (pins : List (Addr × Obj)) (s : Shared) (σ : St) (H : Hp) (x y : V) (v u : Value) (Q : VK), Inv X pins σ H s → RelV x v → RelV y u → r x y H Q →
    wpAny (model X.prog X.w) X.A (f v u) (EP X pins σ Q) X.xe s
/-- a one-place operation -/
def UnR (X : Cx) (f : Value → Sem Value) (r : V → Hp → VK → Prop) : Prop :=
  ∀ (pins : List (Addr × Obj)) (s : Shared) (σ : St) (H : Hp) (x : V) (v : Value) (Q : VK), Inv X pins σ H s → RelV x v → r x H Q →
    wpAny (model X.prog X.w) X.A (f v) (EP X pins σ Q) X.xe s
/-- a call of a value that is known (a builtin, a type) with values -/
def CallR (X : Cx) (f : Value) (r : List V → Hp → VK → Prop) : Prop :=
  ∀ (pins : List (Addr × Obj)) (s : Shared) (σ : St) (H : Hp) (xs : List V) (us : List Value) (Q : VK), Inv X pins σ H s → Vals xs us → r xs H Q →
    wpAny (model X.prog X.w) X.A (call f us) (EP X pins σ Q) X.xe s
/-- a value's truth -/
def TruR (X : Cx) (r : V → Hp → (Bool → Hp → Prop) → Prop) : Prop :=
  ∀ (pins : List (Addr × Obj)) (s : Shared) (σ : St) (H : Hp) (x : V) (v : Value) (Q : Bool → Hp → Prop), Inv X pins σ H s → RelV x v → r x H Q →
    wpAny (model X.prog X.w) X.A (truthy v) (TP X pins σ Q) X.xe s

def tOp (r : R2) (ta tb : TE) : TE := fun σ H Q => ta σ H fun x H1 => tb σ H1 fun y H2 => r x y H2 Q
def tUn (r : V → Hp → VK → Prop) (ta : TE) : TE := fun σ H Q => ta σ H fun x H1 => r x H1 Q
/-- ints in, under C, and a value out -/
def rI (C : Int → Int → Prop) (g : Int → Int → V) : R2 := fun x y H Q => ∃ i j, x = .int i ∧ y = .int j ∧ C i j ∧ Q (g i j) H
def rI0 (g : Int → Int → V) : R2 := fun x y H Q => ∃ i j, x = .int i ∧ y = .int j ∧ Q (g i j) H
def rU (g : Int → V) : V → Hp → VK → Prop := fun x H Q => ∃ i, x = .int i ∧ Q (g i) H

section
variable {X : Cx} {a b c : Expr} {ta tb tc : TE} {pos : Pos}

theorem binT (ha : PE X a ta) (hb : PE X b tb) {pins : List (Addr × Obj)} {s : Shared} {σ : St} {H : Hp} {R : V → V → Hp → Prop} (I : Inv X pins σ H s)
    (h : ta σ H fun x H1 => tb σ H1 fun y H2 => R x y H2) {Q : Value → Shared → Prop} {f : Value → Value → Sem Value}
    (hf : ∀ v u s2 x y H2, Inv X pins σ H2 s2 → RelV x v → RelV y u → R x y H2 → wpAny (model X.prog X.w) X.A (f v u) Q X.xe s2) :
    wpAny (model X.prog X.w) X.A (eval a X.env) (fun v s₁ => wpAny (model X.prog X.w) X.A (eval b X.env) (fun u s₂ => wpAny (model X.prog X.w) X.A (f v u) Q X.xe s₂) X.xe s₁) X.xe s := by
  refine thn (ha pins s σ H _ I h) fun v s1 ⟨x, H1, I1, r1, q1⟩ => ?_
  refine thn (hb pins s1 σ H1 _ I1 q1) fun u s2 ⟨y, H2, I2, r2, q2⟩ => ?_
  exact hf v u s2 x y H2 I2 r1 r2 q2

theorem pe_op {op : Operator} {r : R2} (ho : OpR X (binaryOp op) r) (ha : PE X a ta) (hb : PE X b tb) : PE X (.BinOp a op b pos) (tOp r ta tb) := by
  intro pins s σ H Q I h
  exact wpAny_BinOp (binT ha hb I h fun v u s2 x y H2 I2 rx ry q => ho pins s2 σ H2 x y v u Q I2 rx ry q)
theorem pe_un {op : UnaryOp} {r : V → Hp → VK → Prop} (ho : UnR X (unaryOp op) r) (ha : PE X a ta) : PE X (.UnaryOp op a pos) (tUn r ta) := by
  intro pins s σ H Q I h
  exact UnaryOp_ (thn (ha pins s σ H _ I h) fun v s1 ⟨x, H1, I1, r1, q1⟩ => ho pins s1 σ H1 x v Q I1 r1 q1)
/-! ### ints -/
theorem opI {f : Value → Value → Sem Value} {C : Int → Int → Prop} {g : Int → Int → Int}
    (rule : ∀ (i j : Int) (t u : Tok) (s : Shared) (Q : Value → Shared → Prop) (E : Value → Shared → Prop), C i j → Q (.int (g i j) s.toks) { s with toks := s.toks + 1 } → wpAny (model X.prog X.w) X.A (f (.int i t) (.int j u)) Q E s) :
    OpR X f (rI C fun i j => .int (g i j)) := by
  intro pins s σ H x y v u Q I rx ry h
  obtain ⟨i, j, rfl, rfl, hc, q⟩ := h
  obtain ⟨t, rfl⟩ := rx
  obtain ⟨t', rfl⟩ := ry
  exact rule i j t t' s _ _ hc ⟨.int (g i j), H, I.tok _, ⟨_, rfl⟩, q⟩
theorem opI0 {f : Value → Value → Sem Value} {g : Int → Int → Int}
    (rule : ∀ (i j : Int) (t u : Tok) (s : Shared) (Q : Value → Shared → Prop) (E : Value → Shared → Prop), Q (.int (g i j) s.toks) { s with toks := s.toks + 1 } → wpAny (model X.prog X.w) X.A (f (.int i t) (.int j u)) Q E s) :
    OpR X f (rI0 fun i j => .int (g i j)) := by
  intro pins s σ H x y v u Q I rx ry h
  obtain ⟨i, j, rfl, rfl, q⟩ := h
  obtain ⟨t, rfl⟩ := rx
  obtain ⟨t', rfl⟩ := ry
  exact rule i j t t' s _ _ ⟨.int (g i j), H, I.tok _, ⟨_, rfl⟩, q⟩
theorem opB0 {f : Value → Value → Sem Value} {g : Int → Int → Bool}
    (rule : ∀ (i j : Int) (t u : Tok) (s : Shared) (Q : Value → Shared → Prop) (E : Value → Shared → Prop), Q (.bool (g i j)) s → wpAny (model X.prog X.w) X.A (f (.int i t) (.int j u)) Q E s) :
    OpR X f (rI0 fun i j => .bl (g i j)) := by
  intro pins s σ H x y v u Q I rx ry h
  obtain ⟨i, j, rfl, rfl, q⟩ := h
  obtain ⟨t, rfl⟩ := rx
  obtain ⟨t', rfl⟩ := ry
  exact rule i j t t' s _ _ ⟨.bl (g i j), H, I, rfl, q⟩

def CDiv (i j : Int) : Prop := 0 < j ∧ j < 1073741824
def CPow (i j : Int) : Prop := 0 ≤ j ∧ j ≤ 1000000 ∧ i.natAbs < 2 ^ 64
def CMul (i j : Int) : Prop := (-(2 ^ 64) < i ∧ i < 2 ^ 64) ∨ (-(2 ^ 64) < j ∧ j < 2 ^ 64)
theorem CMul.ok {i j : Int} (h : CMul i j) : IntMulOk i j := by
  rcases h with ⟨h1, h2⟩ | ⟨h1, h2⟩
  · exact .of_left (intBits_le_64 h1 h2)
  · exact .of_right (intBits_le_64 h1 h2)
theorem op_add : OpR X (binaryOp .Add) (rI0 fun i j => .int (i + j)) := opI0 fun _ _ _ _ _ _ _ q => add_int q
theorem op_sub : OpR X (binaryOp .Sub) (rI0 fun i j => .int (i - j)) := opI0 fun _ _ _ _ _ _ _ q => sub_int q
theorem op_mul : OpR X (binaryOp .Mult) (rI CMul fun i j => .int (i * j)) := opI fun _ _ _ _ _ _ _ hc q => mul_int q hc.ok
/-- // by a positive divisor -/
theorem op_fdiv : OpR X (binaryOp .FloorDiv) (rI CDiv fun i j => .int (i / j)) := opI fun i j _ _ _ _ _ hc q => by
  have h1 : (0 : Int) < j := hc.1
  have h2 : j < 1073741824 := hc.2
  exact floordiv_int (by omega) (by rw [Int.fdiv_eq_ediv_of_nonneg i (by omega)]; exact q) (.inl (PyProof.noPylong_small (by omega)))
/-- % by a positive divisor of any size -/
theorem op_mod : OpR X (binaryOp .Mod) (rI (fun _ j => 0 < j) fun i j => .int (i % j)) := opI fun i j _ _ _ _ _ hc q => by
  have h1 : (0 : Int) < j := hc
  exact mod_int' (by omega) (by rw [Int.fmod_eq_emod_of_nonneg i (by omega)]; exact q)
theorem op_pow : OpR X (binaryOp .Pow) (rI CPow fun i j => .int (i ^ j.toNat)) := opI fun _ _ _ _ _ _ _ hc q => pow_int_small hc.1 hc.2.1 hc.2.2 q
theorem unI {f : Value → Sem Value} {g : Int → Int}
    (rule : ∀ (i : Int) (t : Tok) (s : Shared) (Q : Value → Shared → Prop) (E : Value → Shared → Prop), Q (.int (g i) s.toks) { s with toks := s.toks + 1 } → wpAny (model X.prog X.w) X.A (f (.int i t)) Q E s) :
    UnR X f (rU fun i => .int (g i)) := by
  intro pins s σ H x v Q I rx h
  obtain ⟨i, rfl, q⟩ := h
  obtain ⟨t, rfl⟩ := rx
  exact rule i t s _ _ ⟨.int (g i), H, I.tok _, ⟨_, rfl⟩, q⟩
theorem un_neg : UnR X (unaryOp .USub) (rU fun i => .int (-i)) := unI fun _ _ _ _ _ q => neg_int q
/-! ### bools among ints: n += (a < b) -/
end

/-! ### comparisons -/
/-- the scalars that == tells apart as data does -/
def scal : V → V → Bool
  | .non, .non => true | .non, .int _ => true | .int _, .non => true | .non, .bl _ => true | .bl _, .non => true | .non, .str _ => true | .str _, .non => true
  | .int _, .int _ => true | .bl _, .bl _ => true | .str _, .str _ => true | .byt _, .byt _ => true
  | .int _, .str _ => true | .str _, .int _ => true | .bl _, .str _ => true | .str _, .bl _ => true
  | _, _ => false
def rEq : R2 := fun x y H Q => scal x y = true ∧ Q (.bl (decide (x = y))) H
def rNe : R2 := fun x y H Q => scal x y = true ∧ Q (.bl (!decide (x = y))) H

theorem dec_int {i j : Int} : decide (V.int i = V.int j) = (i == j) := by
  rw [Bool.eq_iff_iff]
  simp
theorem dec_bl {i j : Bool} : decide (V.bl i = V.bl j) = (i == j) := by
  rw [Bool.eq_iff_iff]
  simp
theorem dec_str {i j : Str} : decide (V.str i = V.str j) = (i == j) := by
  rw [Bool.eq_iff_iff]
  simp
theorem dec_byt {i j : Array UInt8} : decide (V.byt i = V.byt j) = (i.toList == j.toList) := by
  rw [Bool.eq_iff_iff]
  cases i
  cases j
  simp

section
variable {X : Cx} {a b c : Expr} {ta tb tc : TE} {pos : Pos}
theorem fin_bl {pins : List (Addr × Obj)} {σ : St} {H : Hp} {s : Shared} {Q : VK} {k k' : Bool} (I : Inv X pins σ H s) (q : Q (.bl k) H) (e : k = k') : EP X pins σ Q (.bool k') s := by
  subst e
  exact ⟨.bl k, H, I, rfl, q⟩
theorem op_eq : OpR X (compareOp .Eq) rEq := by
  intro pins s σ H x y v u Q I rx ry h
  obtain ⟨hs, q⟩ := h
  cases x with
  | non =>
    cases rx
    cases y with
    | non => cases ry; exact PySem.EqNone.eq_none_none (fin_bl I q (by simp))
    | bl j => cases ry; exact PySem.EqNone.eq_none_bool (fin_bl I q (by simp))
    | int j => obtain ⟨t', rfl⟩ := ry; exact PySem.EqNone.eq_none_int (fin_bl I q (by simp))
    | str j => obtain ⟨t', rfl⟩ := ry; exact PySem.EqNone.eq_none_str (fin_bl I q (by simp))
    | _ => exact absurd (show false = true from hs) Bool.false_ne_true
  | bl i =>
    cases rx
    cases y with
    | non => cases ry; exact PySem.EqNone.eq_bool_none (fin_bl I q (by simp))
    | bl j => cases ry; exact eq_bool (fin_bl I q dec_bl)
    | str j => obtain ⟨t', rfl⟩ := ry; exact PySem.EqMixed.eq_bool_str (fin_bl I q (by simp))
    | _ => exact absurd (show false = true from hs) Bool.false_ne_true
  | int i =>
    obtain ⟨t, rfl⟩ := rx
    cases y with
    | non => cases ry; exact PySem.EqNone.eq_int_none (fin_bl I q (by simp))
    | int j => obtain ⟨t', rfl⟩ := ry; exact eq_int (fin_bl I q dec_int)
    | str j => obtain ⟨t', rfl⟩ := ry; exact PySem.EqMixed.eq_int_str (fin_bl I q (by simp))
    | _ => exact absurd (show false = true from hs) Bool.false_ne_true
  | str i =>
    obtain ⟨t, rfl⟩ := rx
    cases y with
    | non => cases ry; exact PySem.EqNone.eq_str_none (fin_bl I q (by simp))
    | bl j => cases ry; exact PySem.EqMixed.eq_str_bool (fin_bl I q (by simp))
    | int j => obtain ⟨t', rfl⟩ := ry; exact PySem.EqMixed.eq_str_int (fin_bl I q (by simp))
    | str j => obtain ⟨t', rfl⟩ := ry; exact eq_str (fin_bl I q dec_str)
    | _ => exact absurd (show false = true from hs) Bool.false_ne_true
  | byt i =>
    obtain ⟨t, rfl⟩ := rx
    cases y with
    | byt j => obtain ⟨t', rfl⟩ := ry; exact PySem.W.eq_bytes (fin_bl I q dec_byt)
    | _ => exact absurd (show false = true from hs) Bool.false_ne_true
  | _ => cases y <;> exact absurd (show false = true from hs) Bool.false_ne_true
theorem op_ne : OpR X (compareOp .NotEq) rNe := by
  intro pins s σ H x y v u Q I rx ry h
  obtain ⟨hs, q⟩ := h
  cases x with
  | non =>
    cases rx
    cases y with
    | non => cases ry; exact PySem.EqNone.ne_none_none (fin_bl I q (by simp))
    | bl j => cases ry; exact PySem.EqNone.ne_none_bool (fin_bl I q (by simp))
    | int j => obtain ⟨t', rfl⟩ := ry; exact PySem.EqNone.ne_none_int (fin_bl I q (by simp))
    | str j => obtain ⟨t', rfl⟩ := ry; exact PySem.EqNone.ne_none_str (fin_bl I q (by simp))
    | _ => exact absurd (show false = true from hs) Bool.false_ne_true
  | bl i =>
    cases rx
    cases y with
    | non => cases ry; exact PySem.EqNone.ne_bool_none (fin_bl I q (by simp))
    | bl j => cases ry; exact ne_bool (fin_bl I q (congrArg not dec_bl))
    | str j => obtain ⟨t', rfl⟩ := ry; exact PySem.EqMixed.ne_bool_str (fin_bl I q (by simp))
    | _ => exact absurd (show false = true from hs) Bool.false_ne_true
  | int i =>
    obtain ⟨t, rfl⟩ := rx
    cases y with
    | non => cases ry; exact PySem.EqNone.ne_int_none (fin_bl I q (by simp))
    | int j => obtain ⟨t', rfl⟩ := ry; exact ne_int (fin_bl I q (congrArg not dec_int))
    | str j => obtain ⟨t', rfl⟩ := ry; exact PySem.EqMixed.ne_int_str (fin_bl I q (by simp))
    | _ => exact absurd (show false = true from hs) Bool.false_ne_true
  | str i =>
    obtain ⟨t, rfl⟩ := rx
    cases y with
    | non => cases ry; exact PySem.EqNone.ne_str_none (fin_bl I q (by simp))
    | bl j => cases ry; exact PySem.EqMixed.ne_str_bool (fin_bl I q (by simp))
    | int j => obtain ⟨t', rfl⟩ := ry; exact PySem.EqMixed.ne_str_int (fin_bl I q (by simp))
    | str j => obtain ⟨t', rfl⟩ := ry; exact ne_str (fin_bl I q (congrArg not dec_str))
    | _ => exact absurd (show false = true from hs) Bool.false_ne_true
  | byt i =>
    obtain ⟨t, rfl⟩ := rx
    cases y with
    | byt j => obtain ⟨t', rfl⟩ := ry; exact PySem.W.ne_bytes (fin_bl I q (congrArg not dec_byt))
    | _ => exact absurd (show false = true from hs) Bool.false_ne_true
  | _ => cases y <;> exact absurd (show false = true from hs) Bool.false_ne_true

theorem op_lt : OpR X (compareOp .Lt) (rI0 fun i j => .bl (decide (i < j))) := opB0 fun _ _ _ _ _ _ _ q => lt_int q
theorem op_le : OpR X (compareOp .LtE) (rI0 fun i j => .bl (decide (i ≤ j))) := opB0 fun _ _ _ _ _ _ _ q => le_int q
theorem op_gt : OpR X (compareOp .Gt) (rI0 fun i j => .bl (decide (j < i))) := opB0 fun _ _ _ _ _ _ _ q => gt_int q
theorem op_ge : OpR X (compareOp .GtE) (rI0 fun i j => .bl (decide (j ≤ i))) := opB0 fun _ _ _ _ _ _ _ q => ge_int q
/-- the one string within the other -/
theorem op_in_str : OpR X (compareOp .In) (fun x y H Q => ∃ i j, x = .str i ∧ y = .str j ∧ Q (.bl (!(Builtin.Str.occurrences j i 0 j.length 1).isEmpty)) H) := by
  intro pins s σ H x y v u Q I rx ry h
  obtain ⟨i, j, rfl, rfl, q⟩ := h
  obtain ⟨t, rfl⟩ := rx
  obtain ⟨t', rfl⟩ := ry
  exact in_str (fin_bl I q rfl)

theorem op_notin_str : OpR X (compareOp .NotIn) (fun x y H Q => ∃ i j, x = .str i ∧ y = .str j ∧ Q (.bl (!(!(Builtin.Str.occurrences j i 0 j.length 1).isEmpty))) H) := by
  intro pins s σ H x y v u Q I rx ry h
  obtain ⟨i, j, rfl, rfl, q⟩ := h
  obtain ⟨t, rfl⟩ := rx
  obtain ⟨t', rfl⟩ := ry
  exact notIn_str (fin_bl I q rfl)
theorem nomark (b : Expr) {op : CmpOp} (h : op ≠ .In := by decide) (h2 : op ≠ .NotIn := by decide) : behindInMarks op b = false := by
  have e1 : (op == CmpOp.In) = false := by cases op <;> first | rfl | exact absurd rfl h
  have e2 : (op == CmpOp.NotIn) = false := by cases op <;> first | rfl | exact absurd rfl h2
  cases b <;> simp [behindInMarks, e1, e2]
/-- a comparison as a value; hm: nomark b, or (for in, not in) by with_unfolding_all rfl -/
theorem pe_cmpR {op : CmpOp} {r : R2} (ho : OpR X (compareOp op) r) (ha : PE X a ta) (hb : PE X b tb) (hm : behindInMarks op b = false) : PE X (.Compare a [op] [b] pos) (tOp r ta tb) := by
  intro pins s σ H Q I h
  exact wpAny_Compare1 (binT ha hb I h fun v u s2 x y H2 I2 rx ry q => ho pins s2 σ H2 x y v u Q I2 rx ry q) hm
/-- a reading of a value as a test -/
def tTest (t : TE) : TT := fun σ H Q => t σ H fun x H' => ∃ k, x = .bl k ∧ Q k H'
theorem pt_cmpR {op : CmpOp} {r : R2} (ho : OpR X (compareOp op) r) (ha : PE X a ta) (hb : PE X b tb) (hm : behindInMarks op b = false) : PT X (.Compare a [op] [b] pos) (tTest (tOp r ta tb)) := by
  intro pins s σ H Q I h
  refine wpAny_isTrue_Compare1 (thn (ha pins s σ H _ I h) fun v s1 ⟨x, H1, I1, r1, q1⟩ => thn (hb pins s1 σ H1 _ I1 q1) fun u s2 ⟨y, H2, I2, r2, q2⟩ =>
    thn (ho pins s2 σ H2 x y v u _ I2 r1 r2 q2) fun c s3 ⟨z, H3, I3, r3, k, e, q3⟩ => ?_) hm
  subst e
  cases r3
  exact wpAny_truthy_bool ⟨H3, I3, q3⟩
/-- a op1 b op2 c -/
def tChain (r r' : R2) (ta tb tc : TE) : TE := fun σ H Q => ta σ H fun x H1 => tb σ H1 fun y H2 => r x y H2 fun z H3 => ∃ k, z = .bl k ∧
  (if k = true then tc σ H3 fun w' H4 => r' y w' H4 Q else Q (.bl false) H3)
theorem pt_chain {op op' : CmpOp} {r r' : R2} (ho : OpR X (compareOp op) r) (ho' : OpR X (compareOp op') r') (ha : PE X a ta) (hb : PE X b tb) (hc : PE X c tc)
    (hm : lastMarks [op, op'] [b, c] = false := by with_unfolding_all rfl) : PT X (.Compare a [op, op'] [b, c] pos) (tTest (tChain r r' ta tb tc)) := by
  intro pins s σ H Q I h
  refine isTrue_chain (thn (ha pins s σ H _ I h) fun v s1 ⟨x, H1, I1, r1, q1⟩ => test_link (thn (hb pins s1 σ H1 _ I1 q1) fun u s2 ⟨y, H2, I2, r2, q2⟩ =>
    thn (ho pins s2 σ H2 x y v u _ I2 r1 r2 q2) fun d s3 ⟨z, H3, I3, r3, k, e, q3⟩ => ?_)) hm
  subst e
  cases r3
  refine wpAny_truthy_bool ?_
  cases k with
  | false =>
    obtain ⟨k', e', q'⟩ := q3
    cases e'
    exact ite_ff ⟨H3, I3, q'⟩
  | true =>
    refine ite_tt (test_last (thn (hc pins s3 σ H3 _ I3 q3) fun w' s4 ⟨z', H4, I4, r4, q4⟩ => thn (ho' pins s4 σ H4 y z' u w' _ I4 r2 r4 q4) fun d' s5 ⟨z2, H5, I5, r5, k2, e2, q5⟩ => ?_))
    subst e2
    cases r5
    exact wpAny_truthy_bool ⟨H5, I5, q5⟩

/-! ### truth -/
/-- a value's truth by the abstract heap -/
def TruV (K : PySem.W.Frag) (x : V) (H : Hp) (k : Bool) : Prop :=
  match x with
  | .non => k = false
  | .bl b => k = b
  | .int i => k = (i != 0)
  | .str y => y.length ≤ sizeLine ∧ k = ((y.length : Int) != 0)
  | .byt y => y.size ≤ sizeLine ∧ k = ((y.size : Int) != 0)
  | .ref p => (∃ xs, SqL K H p xs ∧ k = !xs.isEmpty) ∨ (∃ xs, SqT K H p xs ∧ k = !xs.isEmpty) ∨ ∃ kvs, H p = some (.dK kvs) ∧ k = !kvs.isEmpty
  | _ => False
theorem isEmpty_kv {κ : Type} {kvs : List (κ × V)} {vs : List (κ × Value)} (r : KV kvs vs) : (!vs.isEmpty) = !kvs.isEmpty := by
  cases r <;> rfl
theorem isEmpty_of {xs : List V} {its : List Value} (r : Vals xs its) : (!its.toArray.isEmpty) = !xs.isEmpty := by
  cases r <;> simp
theorem line63 : (sizeLine : Nat) < 2 ^ 63 := by rw [sizeLine_eq]; decide
theorem tru_ok : TruR X (fun x H Q => ∃ k, TruV X.K x H k ∧ Q k H) := by
  intro pins s σ H x v Q I rx h
  obtain ⟨k, e, q⟩ := h
  have hl := line63
  have hs : sizeLine = 16777216 := sizeLine_eq
  cases x with
  | non =>
    cases rx
    have e' : k = false := e
    subst e'
    exact truthy_none ⟨H, I, q⟩
  | bl b =>
    cases rx
    have e' : k = b := e
    subst e'
    exact wpAny_truthy_bool ⟨H, I, q⟩
  | int i =>
    obtain ⟨t, rfl⟩ := rx
    have e' : k = (i != 0) := e
    subst e'
    exact PySem.P.truthy_int ⟨H, I, q⟩
  | str y =>
    obtain ⟨t, rfl⟩ := rx
    obtain ⟨hy, e'⟩ : y.length ≤ sizeLine ∧ k = ((y.length : Int) != 0) := e
    subst e'
    exact PySem.P.truthy_str (by omega) ⟨H, I.tok _, q⟩
  | byt y =>
    obtain ⟨t, rfl⟩ := rx
    obtain ⟨hy, e'⟩ : y.size ≤ sizeLine ∧ k = ((y.size : Int) != 0) := e
    subst e'
    exact PySem.W.truthy_bytes (by omega) ⟨H, I.tok _, q⟩
  | ref p =>
    cases rx
    have e' : (∃ xs, SqL X.K H p xs ∧ k = !xs.isEmpty) ∨ (∃ xs, SqT X.K H p xs ∧ k = !xs.isEmpty) ∨ ∃ kvs, H p = some (.dK kvs) ∧ k = !kvs.isEmpty := e
    rcases e' with ⟨xs, hx, e'⟩ | ⟨xs, hx, e'⟩ | ⟨kvs, hx, e'⟩
    · subst e'
      obtain ⟨its, r, pl, hz⟩ := I.list hx
      have hlen := r.length
      exact wpAny_truthy_list pl.isList (by simp only [List.size_toArray]; omega) ⟨H, I.tok _, by rw [isEmpty_of r]; exact q⟩
    · subst e'
      obtain ⟨its, r, pl, hz⟩ := I.tuple hx
      have hlen := r.length
      exact truthy_tuple pl (by simp only [List.size_toArray]; omega) ⟨H, I.tok _, by rw [isEmpty_of r]; exact q⟩
    · subst e'
      obtain ⟨hz, hS, vs, r, m⟩ : kvs.length ≤ sizeLine ∧ (p == sysModules) = false ∧ ∃ vs, KV kvs vs ∧ s.heap.DictOf (mixKind X.prog X.w) p vs := I.hok p _ hx
      have hlen : kvs.length = vs.length := Paired.length r
      exact wpAny_truthy_dict hS m (by omega) ⟨H, I.tok _, by rw [isEmpty_kv r]; exact q⟩
  | _ => exact (show False from e).elim
/-- any expression whose test is its value's truth (a name, a call, a subscript, a field ..: he by fun _ => rfl) -/
theorem pt_truth (ha : PE X a ta) (he : ∀ whole, isTrue a X.env whole = (do let v ← whole; standAt a.pos; holding [v] (truthy v))) :
    PT X a (fun σ H Q => ta σ H fun x H' => ∃ k, TruV X.K x H' k ∧ Q k H') := by
  intro pins s σ H Q I h
  exact isTrue_plain (thn (ha pins s σ H _ I h) fun v s1 ⟨x, H1, I1, r1, q1⟩ => tru_ok pins s1 σ H1 x v Q I1 r1 q1) (he _)

/-! ### strs and bytes -/
/-! ### scalar builtins, by CallR -/
theorem vals1 {x : V} {us : List Value} (r : Vals [x] us) : ∃ u, us = [u] ∧ RelV x u := by
  cases r with
  | cons r1 r2 => cases r2; exact ⟨_, rfl, r1⟩
theorem vals2 {x y : V} {us : List Value} (r : Vals [x, y] us) : ∃ u w', us = [u, w'] ∧ RelV x u ∧ RelV y w' := by
  cases r with
  | cons r1 r2 =>
    cases r2 with
    | cons r3 r4 => cases r4; exact ⟨_, _, rfl, r1, r3⟩
theorem call_max2 (hc : X.calm = true) : CallR X (.builtin "max") (fun xs H Q => ∃ i j, xs = [.int i, .int j] ∧ Q (.int (if j > i then j else i)) H) := by
  intro pins s σ H xs us Q I r h
  obtain ⟨i, j, rfl, q⟩ := h
  obtain ⟨u, w', rfl, ⟨t, rfl⟩, ⟨t', rfl⟩⟩ := vals2 r
  refine max_two_ints (I.ok.hd hc) fun h' tk k => ⟨_, H, I.kept k, ?_, q⟩
  by_cases hj : j > i
  · rw [if_pos hj, if_pos hj]; exact ⟨_, rfl⟩
  · rw [if_neg hj, if_neg hj]; exact ⟨_, rfl⟩
end
end L2

namespace L2
open PySem PySem.Spec PyProof.Rows

/-! ### an instance, its attributes a map -/
structure ObjM (h : Heap) (x dx C : Addr) (mA : Str → Option Value) : Prop where
  obj : h.get? x = some (PySem.W.instObj C dx)
  ns : h.Ns1 dx mA
  ne : dx ≠ x

theorem lookIn_ns {h : Heap} {dx : Addr} {mA : Str → Option Value} (n : h.Ns1 dx mA) : ∃ od, h.get? dx = some od ∧ ∀ name, PySem.W.lookIn name od = some (mA name) := by
  obtain ⟨o, es, ep, ho, hd, hk, _, hm⟩ := n
  refine ⟨o, ho, fun name => ?_⟩
  have e := hm name
  unfold nsFind findBy at e
  rw [← Array.find?_toList] at e
  unfold PySem.W.lookIn
  rw [hd]
  dsimp only
  split
  · rename_i y q
    rw [q] at e
    exact congrArg some e
  · rename_i q
    rw [q] at e
    have a : es.toList.any (·.refKey) = false := by
      rw [List.any_eq_false]
      intro y hy
      obtain ⟨z, t, hkey⟩ := hk y (Array.mem_toList_iff.mp hy)
      simp [DictEntry.refKey, hkey]
    have a' : ¬ es.toList.any (·.refKey) = true := by rw [a]; exact Bool.false_ne_true
    rw [if_neg a']
    exact congrArg some e

theorem ObjM.look {h : Heap} {x dx C : Addr} {mA : Str → Option Value} (I : ObjM h x dx C mA) : ∃ od, PySem.W.InstAt h x (PySem.W.instObj C dx) C (some od) ∧ ∀ name, PySem.W.lookIn name od = some (mA name) :=
  let ⟨od, ho, hl⟩ := lookIn_ns I.ns
  ⟨od, ⟨I.obj, rfl, rfl, ho⟩, hl⟩

section
variable {prog : Program} {w : World} {A : Around} {E : Value → Shared → Prop} {s : Shared} {K : PySem.W.Frag} {x dx C f : Addr} {mA : Str → Option Value} {name : Str} {v : Value}

end

/-! ### the attributes as a list of pairs -/
theorem RelO.some_of {v : V} {o : Option Value} (r : RelO (some v) o) : ∃ u, o = some u ∧ RelV v u := by
  cases o with
  | none => exact (show False from r).elim
  | some u => exact ⟨u, rfl, r⟩
section
variable {P : Program} {w : World} {H H' : Hp} {h h' : Heap} {a C dx : Addr} {fs fs' : List (Str × V)}
theorem ins_get (hok : HOk P w H h) (e : H a = some (.ins C dx fs)) : ∃ mA, ObjM h a dx C mA ∧ (∀ f, RelO (fs.lookup f) (mA f)) ∧ PySem.Within mA (fs.map (·.1)) ∧ fs.length ≤ 1000 ∧ H dx = some (.own a) := by
  obtain ⟨d, z, ne, ob, mA, n, r, q⟩ := (show ObjOk P w H h a (.ins C dx fs) from hok a _ e)
  exact ⟨mA, ⟨ob, n, ne⟩, r, q, z, d⟩
end

/-! ### what of the text a class must have -/
structure Cls (K : PySem.W.Frag) (C : Addr) : Prop where
  pg : PySem.W.plainGet K C Str.empty = true
  hd : PySem.W.hasDictIn K C = true
  po : PySem.W.plainOver K C = true
  sa : PySem.W.findIn K (.ref C) "__setattr__" = some (some (.builtin "object.__setattr__"))
theorem Cls.get {K : PySem.W.Frag} {C : Addr} (c : Cls K C) (f : Str) : PySem.W.plainGet K C f = true := c.pg
section
variable {X : Cx} {pins : List (Addr × Obj)} {σ : St} {H : Hp} {s : Shared} {a C dx : Addr} {fs : List (Str × V)} {f : Str} {v : V} {A : Around} {E : Value → Shared → Prop}

end

/-! ### readings and rules -/
section
variable {X : Cx} {o e value : Expr} {f : Str} {pos pos' tpos : Pos} {ta tv : TE}
end

/-! ### isinstance -/
section
variable {X : Cx} {pins : List (Addr × Obj)} {σ : St} {H : Hp} {s : Shared} {A : Around} {E : Value → Shared → Prop} {Q : Value → Shared → Prop} {c : Value} {b : Bool}
/-- the type of a value, as the fragment's deciders take it; for an instance its class -/
inductive TyOf (K : PySem.W.Frag) (H : Hp) : V → Value → Prop where
  | non : TyOf K H .non (.type "NoneType")
  | bl (x : Bool) : TyOf K H (.bl x) (.type "bool")
  | int (i : Int) : TyOf K H (.int i) (.type "int")
  | str (x : Str) : TyOf K H (.str x) (.type "str")
  | flt (x : UInt64) : TyOf K H (.flt x) (.type "float")
  | lst {a : Addr} {xs : List V} (e : H a = some (.lst xs)) : TyOf K H (.ref a) (.type "list")
  | frz {a : Addr} {o : Obj} {xs : List V} (e : H a = some (.frz o (.lst xs))) : TyOf K H (.ref a) (.type "list")
  | tup {a : Addr} {xs : List V} (e : H a = some (.tup xs)) : TyOf K H (.ref a) (.type "tuple")
  | dK {a : Addr} {kvs : List (Key × V)} (e : H a = some (.dK kvs)) : TyOf K H (.ref a) (.type "dict")
  | dT {a : Addr} {kvs : List (List Key × V)} (e : H a = some (.dT kvs)) : TyOf K H (.ref a) (.type "dict")
  | ins {a C dx : Addr} {fs : List (Str × V)} (e : H a = some (.ins C dx fs)) (cl : Cls K C) (ha : PySem.W.findIn K (.ref C) "__class__" = some (some (.builtin "object.__class__")))
      (hn : PySem.W.specialIn K (.builtin "object.__class__") "__get__" = some (some (.builtin "getset_descriptor.__get__"))) (htk : PySem.W.takesIn K (.builtin "object.__class__") = some true)
      (hm : PySem.W.mroIn K C (.type "object") = some true) : TyOf K H (.ref a) (.ref C)
/-- isinstance(x, c) for one class c, a built-in or an own one: kitOne's answer -/
theorem isinst_ok {x : V} {u t : Value} (I : Inv X pins σ H s) (rx : RelV x u) (ty : TyOf X.K H x t) (e : PySem.W.kitOne X.K t c = some b) (h : ∀ tk, Q (.bool b) { s with toks := tk }) :
    wpAny (model X.prog X.w) A (call (.builtin "isinstance") [u, c]) Q E s := by
  cases ty with
  | non => cases (show u = Value.none from rx); exact PySem.W.kia_one PySem.W.kitx_none I.kIn True.intro e (fun z => nomatch z) h
  | bl y => cases (show u = Value.bool y from rx); exact PySem.W.kia_one PySem.W.kitx_bool I.kIn True.intro e (fun z => nomatch z) h
  | int i => obtain ⟨t, q⟩ := (show ∃ t, u = Value.int i t from rx); cases q; exact PySem.W.kia_one PySem.W.kitx_int I.kIn True.intro e (fun z => nomatch z) h
  | str y => obtain ⟨t, q⟩ := (show ∃ t, u = Value.str y t from rx); cases q; exact PySem.W.kia_one PySem.W.kitx_str I.kIn True.intro e (fun z => nomatch z) h
  | flt y => obtain ⟨t, q⟩ := (show ∃ t, u = Value.float y t from rx); cases q; exact PySem.W.kia_one PySem.W.kitx_float I.kIn True.intro e (fun z => nomatch z) h
  | @lst a xs ea =>
    cases (show u = Value.ref a from rx)
    obtain ⟨_, _, n, _, h1⟩ := (show ObjOk X.prog X.w H s.heap a (.lst xs) from I.hok a _ ea)
    exact PySem.W.kia_one PySem.W.kitx_list I.kIn ⟨_, h1, rfl⟩ e (fun z => nomatch z) h
  | @frz a ob xs ea =>
    cases (show u = Value.ref a from rx)
    obtain ⟨_, _, _, n, _, h1⟩ := (show ObjOk X.prog X.w H s.heap a (.frz ob (.lst xs)) from I.hok a _ ea)
    exact PySem.W.kia_one PySem.W.kitx_list I.kIn ⟨_, h1, rfl⟩ e (fun z => nomatch z) h
  | @tup a xs ea =>
    cases (show u = Value.ref a from rx)
    obtain ⟨_, _, _, p⟩ := (show ObjOk X.prog X.w H s.heap a (.tup xs) from I.hok a _ ea)
    obtain ⟨o, h1, h2, _⟩ := p
    exact PySem.W.kia_one PySem.W.kitx_tuple I.kIn ⟨o, h1, h2⟩ e (fun z => nomatch z) h
  | @dK a kvs ea =>
    cases (show u = Value.ref a from rx)
    obtain ⟨_, _, vs, _, p⟩ := (show ObjOk X.prog X.w H s.heap a (.dK kvs) from I.hok a _ ea)
    obtain ⟨o, es, ep, h1, h2, _⟩ := p
    exact PySem.W.kia_one PySem.W.kitx_dict I.kIn ⟨o, h1, h2.1⟩ e (fun z => nomatch z) h
  | @dT a kvs ea =>
    cases (show u = Value.ref a from rx)
    obtain ⟨_, _, xs, _, o, es, ep, h1, h2, _⟩ := (show ObjOk X.prog X.w H s.heap a (.dT kvs) from I.hok a _ ea)
    exact PySem.W.kia_one PySem.W.kitx_dict I.kIn ⟨o, h1, h2.1⟩ e (fun z => nomatch z) h
  | @ins a C dx fs ea cl ha hn htk hm =>
    cases (show u = Value.ref a from rx)
    obtain ⟨mA, O, _⟩ := ins_get I.hok ea
    obtain ⟨od, J, _⟩ := O.look
    exact PySem.W.kia_one (PySem.W.kitx_own (cl.get _) cl.hd ha hn htk hm) I.kIn J e (fun z => nomatch z) h
end
end L2

namespace L2
open PySem PySem.Spec PyProof.Rows

/-! ### room -/
structure Room (k : Nat) (A : Around) : Prop where
  hd : A.handled = none
  dp : A.depth + 3 * k + 5 < recursionLimit
  un : A.units + 16 * k + 200 < cLine
theorem Room.mono {j k : Nat} {A : Around} (r : Room k A) (h : j ≤ k) : Room j A := ⟨r.hd, by have := r.dp; omega, by have := r.un; omega⟩
theorem Room.deeper {k : Nat} {A : Around} (r : Room (k + 1) A) (env : Env) : Room k (A.deeper env) :=
  ⟨r.hd, by have := r.dp; show A.depth + 1 + 3 * k + 5 < _; omega, by have := r.un; show A.units + 3 + 16 * k + 200 < _; omega⟩
theorem Room.depth {k : Nat} {A : Around} (r : Room k A) : A.depth < recursionLimit := by have := r.dp; omega
theorem Room.units {k : Nat} {A : Around} (r : Room k A) : A.units + 64 < cLine := by have := r.un; omega
/-! ### argument lists and displays -/
def tNil : TA := fun _ H Q => Q [] H
def tCons (ta : TE) (tr : TA) : TA := fun σ H Q => ta σ H fun x H1 => tr σ H1 fun xs H2 => Q (x :: xs) H2
section
variable {X : Cx} {e : Expr} {es : List Expr} {te : TE} {t : TA} {pos : Pos}
theorem pa_nil : PA X [] tNil := fun _ _ _ _ H Q I h => Calls.spliced_nil ⟨[], H, I, .nil, h⟩
theorem pa_cons (ha : PE X e te) (hr : PA X es t) (hs : starEach (e :: es) X.env = (false, eval e X.env) :: starEach es X.env := by rfl) : PA X (e :: es) (tCons te t) := by
  intro pos pins s σ H Q I h
  rw [hs]
  show wpAny _ _ (spliced ((false, eval e X.env) :: backTo pos (starEach es X.env))) _ _ s
  refine Calls.spliced_cons (thn (ha pins s σ H _ I h) fun u s1 ⟨x, H1, I1, r1, q1⟩ => ?_)
  exact thn (hr pos pins s1 σ H1 _ I1 q1) fun us s2 ⟨xs, H2, I2, r2, q2⟩ => ⟨x :: xs, H2, I2, .cons r1 r2, q2⟩

/-- a tuple, a list of written items -/
def tTup (t : TA) : TE := fun σ H Q => t σ H fun xs H1 => xs.length ≤ sizeLine ∧ ∀ p, H1 p = none → Q (.ref p) (upd H1 p (.tup xs))
def tLst (t : TA) : TE := fun σ H Q => t σ H fun xs H1 => xs.length ≤ sizeLine ∧ ∀ p, H1 p = none → Q (.ref p) (upd H1 p (.lst xs))
theorem pe_tup {x1} (h : PA X es t) : PE X (.Tuple es x1 pos) (tTup t) := by
  intro pins s σ H Q I hq
  refine wpAny_Tuple_spliced (thn (h pos pins s σ H _ I hq) fun us s1 ⟨xs, H1, I1, r, z, q⟩ => ⟨by rw [← r.length]; exact z, ?_⟩)
  have hf : H1 s1.heap.objs.size = none := I1.hok.fresh (Nat.le_refl _)
  refine ⟨.ref s1.heap.objs.size, upd H1 s1.heap.objs.size (.tup xs), I1.laid (t' := s1.toks) (fun b u e => Heap.get?_push_of_some _ e) (Nat.le_refl _) ?_, rfl, q _ hf⟩
  exact ⟨z, us, r, ⟨_, Heap.get?_push_size _ rfl, rfl, _, rfl, rfl⟩⟩
theorem pe_lst (h : PA X es t) : PE X (.List es pos) (tLst t) := by
  intro pins s σ H Q I hq
  refine wpAny_List_spliced (thn (h pos pins s σ H _ I hq) fun us s1 ⟨xs, H1, I1, r, z, q⟩ => ⟨by rw [← r.length]; exact z, ?_⟩)
  have hf : H1 s1.heap.objs.size = none := I1.hok.fresh (Nat.le_refl _)
  refine ⟨.ref s1.heap.objs.size, upd H1 s1.heap.objs.size (.lst xs), I1.laid (t' := s1.toks) (fun b u e => Heap.get?_push_of_some _ e) (Nat.le_refl _) ?_, rfl, q _ hf⟩
  exact ⟨z, us, 0, r, Heap.get?_push_size _ rfl⟩
end

/-! ### what a def promises -/
/-- a def's promise: the bound arguments in the parameters' order, the heap, the wanted end, the wanted exception -/
abbrev Sp := List V → Hp → VK → XK → Prop
/-- how an exception lies behind a call (file 08 gives it): the callers' frames, abstract heap and state ahead of the call, the wish, the exception, the state -/
abbrev CXT := List Env → Hp → Shared → XK → Value → Shared → Prop

/-- the state at a call -/
structure Env0 (P : Program) (w : World) (K : PySem.W.Frag) (mg : Str → Option Value) (base : Heap) (A : Around) (outer : List Env) (s : Shared) (H : Hp) : Prop where
  frames : A.frames = some outer
  mod : Mod K mg base
  bs : ∀ b o, base.get? b = some o → s.heap.get? b = some o ∧ H b = none
  bsz : base.objs.size ≤ s.heap.objs.size
  funs : s.heap.FunFrames base outer
  frf : ∀ b ∈ frs outer, H b = none
  hok : HOk P w H s.heap
  bare : AllBare s.gens
/-- a call's end -/
def CE (outer : List Env) (P : Program) (w : World) (H : Hp) (s : Shared) (Q : VK) (u : Value) (s' : Shared) : Prop :=
  ∃ v H', s'.os = s.os ∧ AllBare s'.gens ∧ Un (frs outer) [] H H' s.heap s'.heap ∧ HOk P w H' s'.heap ∧ RelV v u ∧ Q v H'
def CR (CX : CXT) (outer : List Env) (P : Program) (w : World) (H : Hp) (s : Shared) (Q : VK) (E : XK) (r : Result) (s' : Shared) : Prop :=
  match r with
  | .ok (.ret u) => CE outer P w H s Q u s'
  | .ok _ => False
  | .error e => CX outer H s E e s'
structure FnOk (P : Program) (w : World) (K : PySem.W.Frag) (mg : Str → Option Value) (base : Heap) (CX : CXT) (k : Nat) (f : Addr) (fd : FuncData) (ps : List Str) (sp : Sp) : Prop where
  len : ∀ vs H Q E, sp vs H Q E → vs.length = ps.length
  run : ∀ (A : Around) (outer : List Env) (s : Shared) (H : Hp) (args : Args) (us : List Value) (vs : List V) (Q : VK) (E : XK), Room k A → Env0 P w K mg base A outer s H → BindsTo s fd args (ps.zip us) → Vals vs us → sp vs H Q E →
    codeAny (model P w) A (.call (.ref f) args) (CR CX outer P w H s Q E) s
section
variable {X : Cx} {pins : List (Addr × Obj)} {σ : St} {H : Hp} {s s' : Shared}
/-- from a body: what a callee wants -/
theorem Inv.env0 (I : Inv X pins σ H s) : Env0 X.prog X.w X.K X.mg X.base X.A X.stack s H :=
  ⟨I.ok.frames, I.ok.mod, I.bs, Nat.le_trans I.ok.bsz I.sz, I.stack, I.stkFree, I.hok, I.bare⟩
/-- behind a call -/
theorem Inv.after {Q : VK} {u : Value} (I : Inv X pins σ H s) (h : CE X.stack X.prog X.w H s Q u s') : EP X pins σ Q u s' := by
  obtain ⟨v, H', os, bare, un, hok, r, q⟩ := h
  obtain ⟨hh, g, d, t, os'⟩ := s'
  obtain rfl : os' = s.os := os
  exact ⟨v, H', I.call (h' := hh) (g' := g) (d' := d) (t' := t) (ch := []) un hok bare (fun b z => absurd z (by simp)), r, q⟩
end

/-! ### calls -/
/-- f(..): the written arguments, then the defaults dvs; E: what is wanted of an exception -/
def tCall (sp : Sp) (dvs : List V) (E : XK) (t : TA) : TE := fun σ H Q => t σ H fun vs H1 => sp (vs ++ dvs) H1 Q E
/-- how the parameters are bound: us the positional arguments, kw the keywords' values by name, ds the defaults that fill up -/
def Binds (K : PySem.W.Frag) (fd : FuncData) (ps : List Str) (ds : List Value) : Prop :=
  ∀ (s : Shared) (us : List Value), K.In s.heap → (us ++ ds).length = ps.length → BindsTo s fd ⟨us, []⟩ (ps.zip (us ++ ds))
/-- every parameter is given -/
theorem Binds.all {K : PySem.W.Frag} {fd : FuncData} {ps : List Str} (h : ∀ us : List Value, us.length = ps.length → bindArgs fd ⟨us, []⟩ = pure (ps.zip us)) : Binds K fd ps [] := fun s us _ hl => by
  rw [List.append_nil] at hl ⊢
  exact .of_eq (h us hl)

/-- an exception of a callee reaches what this body wants of exceptions -/
def Passes (CX : CXT) (X : Cx) (E : XK) : Prop := ∀ (pins : List (Addr × Obj)) (σ : St) (H : Hp) (s : Shared) (e : Value) (s' : Shared), Inv X pins σ H s → CX X.stack H s E e s' → X.xe e s'

section
variable {X : Cx} {CX : CXT} {k : Nat} {f C : Addr} {fd : FuncData} {ps : List Str} {sp : Sp} {dvs : List V} {ds : List Value} {E : XK} {x m : Str} {p pos apos : Pos} {e o : Expr} {es : List Expr} {ta : TE} {t : TA}

/-- the callee runs -/
theorem run_fn {pins : List (Addr × Obj)} {σ : St} {H : Hp} {s : Shared} {Q : VK} {us : List Value} {vs : List V} (F : FnOk X.prog X.w X.K X.mg X.base CX k f fd ps sp) (hr : Room k X.A) (hb : Binds X.K fd ps ds) (hd : Vals dvs ds) (hx : Passes CX X E)
    (I : Inv X pins σ H s) (r : Vals vs us) (h : sp (vs ++ dvs) H Q E) : wpAny (model X.prog X.w) X.A (call (.ref f) us) (EP X pins σ Q) X.xe s := by
  have r2 : Vals (vs ++ dvs) (us ++ ds) := r.append hd
  have hl : (us ++ ds).length = ps.length := by rw [← r2.length]; exact F.len _ _ _ _ h
  refine wpAny_call (codeAny_mono (F.run X.A X.stack s H ⟨us, []⟩ (us ++ ds) (vs ++ dvs) Q E hr I.env0 (hb s us I.kIn hl) r2 h) fun r s' hq => ?_)
  cases r with
  | error e => exact hx pins σ H s e s' I hq
  | ok fl =>
    cases fl with
    | ret u => exact I.after hq
    | next => exact False.elim hq
    | brk => exact False.elim hq
    | cont => exact False.elim hq

theorem pe_call (F : FnOk X.prog X.w X.K X.mg X.base CX k f fd ps sp) (hr : Room k X.A) (hg : Gl X x) (hm : X.mg x = some (.ref f)) (hk : PySem.W.keepIn X.K (.ref f) = true) (hb : Binds X.K fd ps ds) (hd : Vals dvs ds) (hx : Passes CX X E)
    (ha : PA X (e :: es) t) (hdb : (x == ("__debug__" : Str)) = false := by decide) (he : starEach (e :: es) X.env = (false, eval e X.env) :: starEach es X.env := by rfl) (hpl : (backTo pos (starEach es X.env)).any (·.1) = false := by rfl) :
    PE X (.Call (.Name x p) (e :: es) [] pos) (tCall sp dvs E t) := by
  intro pins s σ H Q I h
  refine wpAny_Call_Name_kw (ld_glob I hg hm ?_ hdb)
  refine PySem.W.callWith_K (h₀ := X.base) I.ok.mod.kin hk (thn (ha pos pins s σ H _ I h) fun us s1 ⟨vs, H1, I1, r, q⟩ => ⟨I1.kIn, ?_⟩) he hpl
  exact run_fn F hr hb hd hx I1 r q
theorem pe_call0 (F : FnOk X.prog X.w X.K X.mg X.base CX k f fd ps sp) (hr : Room k X.A) (hg : Gl X x) (hm : X.mg x = some (.ref f)) (hk : PySem.W.keepIn X.K (.ref f) = true) (hb : Binds X.K fd ps ds) (hd : Vals dvs ds) (hx : Passes CX X E)
    (hdb : (x == ("__debug__" : Str)) = false := by decide) : PE X (.Call (.Name x p) [] [] pos) (tCall sp dvs E tNil) := by
  intro pins s σ H Q I h
  refine wpAny_Call_Name_kw (ld_glob I hg hm ?_ hdb)
  exact PySem.W.callWith_K0 I.kIn hk (run_fn (us := []) F hr hb hd hx I .nil h)

end

/-! ### keywords -/
section
variable {X : Cx} {CX : CXT} {k : Nat} {f C : Addr} {fd : FuncData} {ps ks : List Str} {sp : Sp} {E : XK} {x m : Str} {p pos apos kpos : Pos} {e o : Expr} {es : List Expr} {kws : List Keyword} {te ta : TE} {t tk : TA} {nm : Option Str}
variable {g : List Value → List Value → List Value} {gV : List V → List V → List V}
end

/-! ### a def's body keeps its promise -/
/-- names: the parameters first -/
structure FnScope (N P : List Str) (sc : Scope) : Prop where
  kind : sc.kind = .function
  co : sc.isCoroutine = false
  gen : sc.isGenerator = false
  nd : N.Nodup
  pre : N.take P.length = P
  par : ∀ x ∈ P, sc.names.lookup x = some .local ∨ sc.names.lookup x = some .cell
  nofree : ∀ y ∈ sc.names, y.2 ≠ .free

theorem bindL_out {kindOf : Str → Option NameKind} {x : Str} : ∀ {binds : List (Str × Value)} {m : Str → Option Value}, (∀ v, (x, v) ∉ binds) → bindL kindOf binds m x = m x
  | [], _, _ => rfl
  | (n, v) :: r, m, h => by
    unfold bindL
    rw [bindL_out fun w hw => h w (List.mem_cons_of_mem _ hw)]
    split
    · have : x ≠ n := by rintro rfl; exact h v List.mem_cons_self
      simp [this]
    · rfl
theorem bindC_out {kindOf : Str → Option NameKind} {x : Str} : ∀ {binds : List (Str × Value)} {m : Str → Option Value}, (∀ v, (x, v) ∉ binds) → bindC kindOf binds m x = m x
  | [], _, _ => rfl
  | (n, v) :: r, m, h => by
    unfold bindC
    rw [bindC_out fun w hw => h w (List.mem_cons_of_mem _ hw)]
    split
    · rfl
    · have : x ≠ n := by rintro rfl; exact h v List.mem_cons_self
      simp [this]
theorem bindL_get {kindOf : Str → Option NameKind} {x : Str} {v : Value} : ∀ {P : List Str} {vs : List Value} {i : Nat} {m : Str → Option Value}, P.Nodup → P[i]? = some x → vs[i]? = some v → kindOf x = some .local →
    bindL kindOf (P.zip vs) m x = some v
  | [], _, _, _, _, h, _, _ => by simp at h
  | _ :: _, [], _, _, _, _, h, _ => by simp at h
  | p :: P, w :: vs, 0, m, nd, h1, h2, hk => by
    simp at h1 h2; subst h1; subst h2
    show bindL kindOf ((p, w) :: P.zip vs) m p = _
    unfold bindL
    rw [bindL_out fun v hv => (List.nodup_cons.mp nd).1 (List.of_mem_zip hv).1, if_pos hk]
    simp
  | p :: P, w :: vs, i + 1, m, nd, h1, h2, hk => by
    show bindL kindOf ((p, w) :: P.zip vs) m x = _
    unfold bindL
    exact bindL_get (i := i) (List.nodup_cons.mp nd).2 (by simpa using h1) (by simpa using h2) hk
theorem bindC_get {kindOf : Str → Option NameKind} {x : Str} {v : Value} : ∀ {P : List Str} {vs : List Value} {i : Nat} {m : Str → Option Value}, P.Nodup → P[i]? = some x → vs[i]? = some v → kindOf x ≠ some .local →
    bindC kindOf (P.zip vs) m x = some v
  | [], _, _, _, _, h, _, _ => by simp at h
  | _ :: _, [], _, _, _, _, h, _ => by simp at h
  | p :: P, w :: vs, 0, m, nd, h1, h2, hk => by
    simp at h1 h2; subst h1; subst h2
    show bindC kindOf ((p, w) :: P.zip vs) m p = _
    unfold bindC
    rw [bindC_out fun v hv => (List.nodup_cons.mp nd).1 (List.of_mem_zip hv).1, if_neg hk]
    simp
  | p :: P, w :: vs, i + 1, m, nd, h1, h2, hk => by
    show bindC kindOf ((p, w) :: P.zip vs) m x = _
    unfold bindC
    exact bindC_get (i := i) (List.nodup_cons.mp nd).2 (by simpa using h1) (by simpa using h2) hk

/-- the names' values at the entry -/
def start (N : List Str) (vs : List V) : St := vs.map some ++ List.replicate (N.length - vs.length) none

/-- the context of a def's body, at its entry; an exception leaves the frame, then lies as CX says -/
def cxOf (CX : CXT) (P : Program) (w : World) (K : PySem.W.Frag) (mg : Str → Option Value) (base : Heap) (N : List Str) (qual : Str) (scope : Scope) (f : Addr) (cd : Value) (A : Around) (outer : List Env) (s : Shared) (H : Hp) (E : XK) : Cx where
  prog := P
  w := w
  K := K
  mg := mg
  base := base
  A := A.deeper (envOfC qual scope s.heap.objs.size f cd)
  N := N
  s₀ := s
  H₀ := H
  env := envOfC qual scope s.heap.objs.size f cd
  outer := outer
  stack := envOfC qual scope s.heap.objs.size f cd :: outer
  ex := []
  calm := true
  fn := fun _ => true
  pn := []
  xe := fun e s' => wpAny (model P w) (A.deeper (envOfC qual scope s.heap.objs.size f cd)) (leaving (envOfC qual scope s.heap.objs.size f cd) e) (fun _ s'' => CX outer H s E e s'') (fun e' s'' => CX outer H s E e' s'') s'

theorem cell_has {sc : Scope} {n : Nat} {x : Str} (h : sc.names.lookup x = some .cell) : ∃ c, (cellsFrom n sc.names []).lookup x = some c := by
  have q := PySem.W.cellsFrom_some sc.names n [] (.inl h)
  exact Option.isSome_iff_exists.mp q

theorem inv_start {CX : CXT} {P : Program} {w : World} {K : PySem.W.Frag} {mg : Str → Option Value} {base : Heap} {N ps : List Str} {qual : Str} {scope : Scope} {f : Addr} {cd : Value} {A : Around} {outer : List Env} {s s1 : Shared} {H : Hp} {E : XK} {us : List Value} {vs : List V}
    (S : FnScope N ps scope) (hd : A.handled = none) (e0 : Env0 P w K mg base A outer s H) (hl : vs.length = ps.length) (r : Vals vs us)
    (x : InCallC s s.heap.objs.size (bindL (envOfC qual scope s.heap.objs.size f cd).kindOf (ps.zip us) fun _ => none) (cellsFrom (s.heap.objs.size + 1) scope.names []) (bindC (envOfC qual scope s.heap.objs.size f cd).kindOf (ps.zip us) fun _ => none) s1) :
    Inv (cxOf CX P w K mg base N qual scope f cd A outer s H E) [] (start N vs) H s1 := by
  have hpl : ps.length ≤ N.length := by have := congrArg List.length S.pre; rw [List.length_take] at this; omega
  obtain ⟨h1, tk, rfl, hk⟩ := x.done
  have noA : ∀ b : Addr, b ∉ (cxOf CX P w K mg base N qual scope f cd A outer s H E).ex := fun b z => absurd (show b ∈ ([] : List Addr) from z) (by simp)
  refine ⟨⟨e0.mod, S.kind, rfl, rfl, Nat.le_refl _, fun y z c h1 h2 => ?_, fun y hy => ?_, fun y c _ h => ?_, fun _ => hd, Around.frames_deeper e0.frames, .inr ⟨rfl, rfl⟩, fun b z => absurd z (noA b), e0.bs, e0.bsz, fun b _ _ => noA b, fun b z => absurd z (noA b), e0.funs, e0.frf⟩,
    rfl, e0.bare, Un.kept hk, ⟨_, x.toInCall.ns, fun i y v h1 h2 h3 => ?_⟩, fun y c h => ⟨_, x.cell y c h⟩, e0.hok.fresh (Nat.le_refl _), fun y c h => ?_, fun p hp => absurd (show p ∈ ([] : List (Addr × Obj)) from hp) (by simp), e0.hok.kept hk, ?_⟩
  · exact name_of_addr x.apart (PySem.mem_of_lookup h1) (PySem.mem_of_lookup h2)
  · have hy : scope.names.lookup y = some .cell ∨ scope.names.lookup y = some .free := hy
    rcases hy with hy | hy
    · exact cell_has hy
    · exact absurd rfl (S.nofree _ (PySem.mem_of_lookup hy))
  · exact Nat.le_of_lt (x.above y c (PySem.mem_of_lookup h))
  · have hi : i < vs.length := by
      unfold start at h2
      by_cases hi : i < vs.length
      · exact hi
      · rw [List.getElem?_append_right (by simpa using hi)] at h2
        rw [List.getElem?_replicate] at h2
        split at h2 <;> cases h2
    have ha : vs[i]? = some v := by
      unfold start at h2
      rw [List.getElem?_append_left (by simpa using hi), List.getElem?_map] at h2
      cases e : vs[i]? with
      | none => rw [e] at h2; cases h2
      | some a => rw [e] at h2; cases h2; rfl
    obtain ⟨u, hu, rv⟩ := r.get ha
    have hp : ps[i]? = some y := by
      rw [← S.pre, List.getElem?_take_of_lt (by omega)]; exact h1
    have ndP : ps.Nodup := by rw [← S.pre]; exact S.nd.sublist (List.take_sublist _ _)
    refine ⟨u, rv, ?_⟩
    rcases S.par y (List.mem_of_getElem? hp) with k | k
    · exact .inl ⟨k, bindL_get ndP hp hu k⟩
    · obtain ⟨c, e⟩ := cell_has (n := s.heap.objs.size + 1) k
      refine .inr ⟨.inl k, c, e, ?_⟩
      have q := x.cell y c e
      rw [bindC_get ndP hp hu (by show scope.names.lookup y ≠ _; rw [k]; decide)] at q
      exact q
  · exact e0.hok.fresh (Nat.le_of_lt (x.above y c (PySem.mem_of_lookup h)))
  · unfold start
    show _ = N.length
    rw [List.length_append, List.length_map, List.length_replicate]
    omega

/-- THE RULE: a def (or a method) of the text, by its body. The body's reading t is chosen for each entry; it is run at the parameters' values -/
theorem fn_of {CX : CXT} {P : Program} {w : World} {K : PySem.W.Frag} {mg : Str → Option Value} {base : Heap} {k : Nat} {f : Addr} {name qual : Str} {params : Arguments} {body : List Stmt} {scope : Scope} {dV kV doc pm cdv ct oc : Value} {an od : Option Addr}
    {osl : Array (Option Value)} {N ps : List Str} {sp : Sp} (lk : K.lookup f = some ⟨oc, od, .func (PySem.W.fnOf name qual params body scope dV kV doc pm an cdv ct), osl⟩) (hcd : PySem.W.codeIn K cdv qual = true) (S : FnScope N ps scope)
    (len : ∀ vs H Q E, sp vs H Q E → vs.length = ps.length)
    (hbody : ∀ (A : Around) (outer : List Env) (s : Shared) (H : Hp) (vs : List V) (Q : VK) (E : XK), Room k (A.deeper (envOfC qual scope s.heap.objs.size f cdv)) → sp vs H Q E →
      ∃ t, PSs (cxOf CX P w K mg base N qual scope f cdv A outer s H E) body t ∧ t { nx := fun _ H' => Q .non H', rt := Q } (start N vs) H) :
    FnOk P w K mg base CX (k + 1) f (PySem.W.fnOf name qual params body scope dV kV doc pm an cdv ct) ps sp := by
  refine ⟨len, fun A outer s H args us vs Q E hr e0 hb r hsp => ?_⟩
  have hl := len _ _ _ _ hsp
  have KX : K.In s.heap := e0.mod.kin.keeps fun b o e => (e0.bs b o e).1
  have lim : s.heap.NoLimit := e0.mod.nolimit.keeps fun b o e => (e0.bs b o e).1
  have hkind : ∀ y ∈ ps.zip us, scope.names.lookup y.1 = some .local ∨ (scope.names.lookup y.1 = some .cell ∧ ((cellsFrom (s.heap.objs.size + 1) scope.names []).lookup y.1).isSome = true) := fun ⟨n, v⟩ hy => by
    rcases S.par n (List.of_mem_zip hy).1 with q | q
    · exact .inl q
    · exact .inr ⟨q, PySem.W.cellsFrom_some _ _ _ (.inl q)⟩
  refine codeAny_call_function hr.depth (KX _ _ lk) rfl S.co S.gen rfl (PySem.W.codeRec_of KX hcd) (hb _ _ _ _ ?_)
  refine wpAny_newFunctionEnv_cells S.kind hkind fun env he s1 x => ?_
  subst he
  refine ⟨lim.keeps x.toInCall.keep, codeAny_func ?_⟩
  obtain ⟨t, ht, hq⟩ := hbody A outer s H vs Q E (hr.deeper _) hsp
  have I : Inv (cxOf CX P w K mg base N qual scope f cdv A outer s H E) [] (start N vs) H s1 := inv_start S hr.hd e0 hl r x
  refine wpAny_mono (ht [] s1 (start N vs) H _ I hq) (fun fl s' hs => ?_) fun e s' hs => hs
  have fin : ∀ {σ' : St} {H' : Hp} {v : V} {u : Value}, Inv (cxOf CX P w K mg base N qual scope f cdv A outer s H E) [] σ' H' s' → RelV v u → Q v H' → CE outer P w H s Q u s' :=
    fun {σ' H' v u} J rv q => ⟨v, H', J.os, J.bare, J.base, J.hok, rv, q⟩
  cases fl with
  | ret u =>
    obtain ⟨v, σ', H', J, rv, q⟩ := hs
    exact fin J rv q
  | next =>
    obtain ⟨σ', H', J, q⟩ := hs
    exact fin (v := V.non) (u := Value.none) J rfl q
  | brk =>
    obtain ⟨_, _, _, q⟩ := hs
    exact False.elim q
  | cont =>
    obtain ⟨_, _, _, q⟩ := hs
    exact False.elim q
end L2

namespace L2
open PySem PySem.Spec PyProof.Rows
section
variable {X : Cx} {x : Str} {p pos : Pos} {e : Expr} {es : List Expr} {t : TA} {id T : String} {r : List V → Hp → VK → Prop}

def tCB (r : List V → Hp → VK → Prop) (t : TA) : TE := fun σ H Q => t σ H fun vs H1 => r vs H1 Q
/-- f(e, ..), f a built-in function -/
theorem pe_callB (hc : CallR X (.builtin id) r) (hg : Gl X x) (hm : X.mg x = none) (hv : bootBuiltins x = some (.builtin id)) (ha : PA X (e :: es) t) (hn : x ≠ "__name__" := by decide) (hdb : (x == ("__debug__" : Str)) = false := by decide)
    (he : starEach (e :: es) X.env = (false, eval e X.env) :: starEach es X.env := by rfl) (hpl : (backTo pos (starEach es X.env)).any (·.1) = false := by rfl) : PE X (.Call (.Name x p) (e :: es) [] pos) (tCB r t) := by
  intro pins s σ H Q I h
  refine wpAny_Call_Name_kw (ld_blt I hg hm hv ?_ hn hdb)
  exact PyProof.Rows.callWith_builtin1 (thn (ha pos pins s σ H _ I h) fun us s1 ⟨vs, H1, I1, r1, q1⟩ => hc pins s1 σ H1 vs us Q I1 r1 q1) he hpl
/-- T(e, ..), T a built-in type -/
theorem pe_callTy (hc : CallR X (.type T) r) (hg : Gl X x) (hm : X.mg x = none) (hv : bootBuiltins x = some (.type T)) (ha : PA X (e :: es) t) (hn : x ≠ "__name__" := by decide) (hdb : (x == ("__debug__" : Str)) = false := by decide)
    (he : starEach (e :: es) X.env = (false, eval e X.env) :: starEach es X.env := by rfl) (hpl : (backTo pos (starEach es X.env)).any (·.1) = false := by rfl) : PE X (.Call (.Name x p) (e :: es) [] pos) (tCB r t) := by
  intro pins s σ H Q I h
  refine wpAny_Call_Name_kw (ld_blt I hg hm hv ?_ hn hdb)
  exact PyProof.Rows.callWith_type1 (thn (ha pos pins s σ H _ I h) fun us s1 ⟨vs, H1, I1, r1, q1⟩ => hc pins s1 σ H1 vs us Q I1 r1 q1) he hpl
end
end L2

namespace HT
open PySem PyProof.Rows

section
open PySem.SeqAt
open PySem.AutoSeq1 (wpAny_loadPart')
open PySem.MeetsSeq PySem.MeetsSeq2 PySem.MeetsSeq3

end

section
variable {prog : Program} {w : World} {A : Around} {E : Value → Shared → Prop} {s : Shared}

/-- t + u, t not empty -/
theorem cat_tup {t b : Addr} {vs ws : List Value} {Q : Value → Shared → Prop} (ht : IsTup s.heap t vs.toArray) (hb : IsTup s.heap b ws.toArray) (hv : vs ≠ [])
    (h1 : ws = [] → Q (.ref t) s) (h2 : ws ≠ [] → Q (.ref s.heap.objs.size) { s with heap := s.heap.push { cls := .type "tuple", data := .seq (vs ++ ws).toArray } })
    (hsz : vs.length + ws.length ≤ sizeLine) : wpAny (model prog w) A (binaryOp .Add (.ref t) (.ref b)) Q E s := by
  obtain ⟨⟨cls, dd, data, sl⟩, ho, hc, n, hd⟩ := id ht
  obtain ⟨⟨cls2, dd2, data2, sl2⟩, ho2, hc2, n2, hd2⟩ := id hb
  simp only at hc hd hc2 hd2
  subst hc hd hc2 hd2
  have e : vs.toArray ++ ws.toArray = (vs ++ ws).toArray := by simp
  by_cases hw : ws = []
  · exact concat_meets ⟨_, ho, rfl⟩ ⟨_, ho2, rfl⟩ noFill_tuple_add seq_tuple_add PySem.F.slot_tuple_add PySem.F.entry_tuple_add (PySem.F.args_tuple_add_2 _ _)
      (tuple_addW1 t b vs.toArray ws.toArray n n2 dd dd2 sl sl2 (by simpa using hv) (by simp [hw])) ⟨ho, ho2, h1 hw⟩
  · refine concat_meets ⟨_, ho, rfl⟩ ⟨_, ho2, rfl⟩ noFill_tuple_add seq_tuple_add PySem.F.slot_tuple_add PySem.F.entry_tuple_add (PySem.F.args_tuple_add_2 _ _)
      (tuple_addW2 t b vs.toArray ws.toArray n n2 dd dd2 sl sl2 (by simpa using hv) (by simpa using hw) (by rw [List.size_toArray, List.size_toArray]; exact hsz)) ⟨ho, ho2, ?_⟩
    rw [e]
    exact h2 hw

/-! ### t[a:b], not the whole -/
/-- a slice's bound as a place among n (d where it is left out) -/
def sIx (n d : Nat) : Option Int → Nat
  | none => d
  | some v => if v < 0 then (v + (n : Int)).toNat else min v.toNat n
theorem sIx_none (n d : Nat) : sIx n d none = d := rfl
theorem sIx_nat (n d k : Nat) : sIx n d (some (k : Int)) = min k n := by
  show (if (k : Int) < 0 then ((k : Int) + (n : Int)).toNat else min (k : Int).toNat n) = min k n
  rw [if_neg (by omega), Int.toNat_natCast]
theorem sIx_le (n d : Nat) (hd : d ≤ n) (o : Option Int) : sIx n d o ≤ n := by
  cases o with
  | none => exact hd
  | some v =>
    show (if v < 0 then (v + (n : Int)).toNat else min v.toNat n) ≤ n
    by_cases hv : v < 0
    · rw [if_pos hv]; omega
    · rw [if_neg hv]; exact Nat.min_le_right _ _
theorem clip_eq (v : Int) (n d : Nat) : (if v < 0 then max (v + (n : Int)) 0 else min v (n : Int)) = ((sIx n d (some v) : Nat) : Int) := by
  show (if v < 0 then max (v + (n : Int)) 0 else min v (n : Int)) = (((if v < 0 then (v + (n : Int)).toNat else min v.toNat n) : Nat) : Int)
  by_cases hv : v < 0
  · simp only [if_pos hv]; omega
  · simp only [if_neg hv]; omega
theorem adjust_gen (lo hi : Option Int) (n : Nat) : Builtin.Slice.sliceAdjust lo hi 1 (n : Int) = (((sIx n 0 lo : Nat) : Int), ((sIx n n hi : Nat) : Int)) := by
  have h1 : ¬ ((1 : Int) < 0) := by omega
  unfold Builtin.Slice.sliceAdjust
  simp only [h1, if_false]
  refine Prod.ext ?_ ?_
  · cases lo with
    | none => rfl
    | some v => exact clip_eq v n 0
  · cases hi with
    | none => rfl
    | some v => exact clip_eq v n n
theorem places_gen (i j : Nat) : Builtin.Slice.slicePlaces (i : Int) (j : Int) 1 = j - i := by
  unfold Builtin.Slice.slicePlaces
  have h1 : (1 : Int) > 0 := by omega
  simp only [h1, if_true, Int.ediv_one]
  split <;> omega
theorem slicePart_ {v : Value} {o : Option Int} {Q : Option Int → Shared → Prop} (p : IsPart v o) (h : Q o s) : wpAny (model prog w) A (Builtin.Slice.slicePartIndex v) Q E s := by
  cases p with
  | none => exact slicePart_none h
  | int i t => exact slicePart_int h
theorem sliceApplied_gen {sl : Addr} {vl vu : Value} {lo hi : Option Int} {n : Nat} {Q : Int × Int × Nat → Shared → Prop} (hs : s.heap.IsSliceOf sl vl vu .none) (pl : IsPart vl lo) (pu : IsPart vu hi)
    (h : Q (((sIx n 0 lo : Nat) : Int), 1, sIx n n hi - sIx n 0 lo) s) : wpAny (model prog w) A (Builtin.Slice.sliceApplied (.ref sl) (pure (n : Int))) Q E s := by
  obtain ⟨os, hos, hcs, hds⟩ := id hs
  unfold Builtin.Slice.sliceApplied Builtin.Slice.sliceFields
  refine wpAny_bind (wpAny_bind (wpAny_field hos hds (x := vl) rfl (wpAny_bind (wpAny_field hos hds (x := vu) rfl (wpAny_bind (wpAny_field hos hds (x := .none) rfl (wpAny_pure ?_)))))))
  refine wpAny_bind (slicePart_none ?_)
  show wpAny _ _ (if ((1 : Int) == 0) = true then _ else _) _ _ s
  rw [if_neg (by decide)]
  refine wpAny_bind (slicePart_ pl (wpAny_bind (slicePart_ pu (wpAny_bind (wpAny_pure ?_)))))
  show wpAny _ _ (match Builtin.Slice.sliceAdjust lo hi 1 (n : Int) with | (lo, hi) => pure (lo, (1 : Int), Builtin.Slice.slicePlaces lo hi 1)) _ _ s
  rw [adjust_gen lo hi n]
  show wpAny _ _ (pure (((sIx n 0 lo : Nat) : Int), (1 : Int), Builtin.Slice.slicePlaces ((sIx n 0 lo : Nat) : Int) ((sIx n n hi : Nat) : Int) 1)) _ _ s
  rw [places_gen]
  exact wpAny_pure h
theorem pick_gen (xs : Array Value) (i k : Nat) : ((List.range k).filterMap fun (m : Nat) => xs[((i : Int) + (m : Int) * 1).toNat]?).toArray = ((xs.toList.drop i).take k).toArray := by
  have e : (fun (m : Nat) => xs[((i : Int) + (m : Int) * 1).toNat]?) = fun m => xs[i + m]? := by
    funext m
    have : ((i : Int) + (m : Int) * 1).toNat = i + m := by omega
    rw [this]
  rw [e]
  have := pick_run xs i k
  rw [List.filterMap_map] at this
  have e2 : ((fun x => xs[x]?) ∘ fun x => i + x) = fun m => xs[i + m]? := rfl
  rw [e2] at this
  rw [this]

theorem getItem_tuple_cut {t sl : Addr} {items : Array Value} {vl vu : Value} {lo hi : Option Int} {Q : Value → Shared → Prop} (ht : IsTup s.heap t items) (hs : s.heap.IsSliceOf sl vl vu .none) (pl : IsPart vl lo) (pu : IsPart vu hi)
    (hw : ¬ (sIx items.size 0 lo = 0 ∧ sIx items.size items.size hi = items.size))
    (h : Q (.ref s.heap.objs.size) { s with heap := s.heap.push { cls := .type "tuple", data := .seq ((items.toList.drop (sIx items.size 0 lo)).take (sIx items.size items.size hi - sIx items.size 0 lo)).toArray } })
    (hsz : items.size ≤ sizeLine) : wpAny (model prog w) A (getItem (.ref t) (.ref sl)) Q E s := by
  have htake : sizeOk (.seq ((items.toList.drop (sIx items.size 0 lo)).take (sIx items.size items.size hi - sIx items.size 0 lo)).toArray) := by
    show ((items.toList.drop (sIx items.size 0 lo)).take (sIx items.size items.size hi - sIx items.size 0 lo)).toArray.size ≤ sizeLine
    rw [List.size_toArray, List.length_take, List.length_drop, Array.length_toList]
    omega
  have hj : sIx items.size items.size hi ≤ items.size := sIx_le _ _ (Nat.le_refl _) hi
  obtain ⟨os, hos, hcs, hds⟩ := id hs
  have hTs : s.TypeIs (.ref sl) "slice" := ⟨os, hos, hcs⟩
  unfold getItem
  try with_reducible refine wpAny_holding ?_
  first | refine wpAny_bind (wpAny_pure ?_) | skip
  refine wpAny_bind (wpAny_sequenceKey ht.typeIs (by decide) ?_)
  refine wpAny_bind (wpAny_callSpecial?_slot (name := Str.ofString "__getitem__") ht.typeIs PyProof.Rows.slot_tuple_getitem
    (wpAny_call_entry PyProof.Rows.slot_tuple_getitem ht.typeIs entry_tuple_getitem ?_ (args_tuple_getitem _ _)))
  show wpAny _ _ (Builtin.Tuple.tupleItemsOf (.ref t) >>= _) _ _ s
  refine wpAny_bind (tupleItemsOf_ ht ?_)
  refine wpAny_bind (wpAny_typeOf hTs ?_)
  rw [if_pos (by decide)]
  refine wpAny_bind (sliceApplied_gen hs pl pu ?_)
  have hno : ¬ ((((sIx items.size 0 lo : Nat) : Int) == 0 && (1 : Int) == 1 && (sIx items.size items.size hi - sIx items.size 0 lo) == items.size) = true) := by
    intro q
    rw [Bool.and_eq_true, Bool.and_eq_true] at q
    have q1 : ((sIx items.size 0 lo : Nat) : Int) = 0 := eq_of_beq q.1.1
    have q2 : sIx items.size items.size hi - sIx items.size 0 lo = items.size := eq_of_beq q.2
    exact hw ⟨by omega, by omega⟩
  show wpAny _ _ (if (((sIx items.size 0 lo : Nat) : Int) == 0 && (1 : Int) == 1 && (sIx items.size items.size hi - sIx items.size 0 lo) == items.size) = true then _ else _) _ _ s
  rw [if_neg hno, pick_gen]
  first
    | exact wpAny_bind (m := Builtin.Tuple.tupleExact _) (wpAny_newObj_type (wpAny_pure ⟨_, rfl, wpAny_pure h⟩) htake)
    | exact wpAny_bind (m := Builtin.Tuple.tupleExact _) (wpAny_newObj_type (wpAny_bind (wpAny_pure (wpAny_pure ⟨_, rfl, wpAny_pure h⟩))) htake)
    | exact wpAny_bind (wpAny_bind (m := Builtin.Tuple.tupleExact _) (wpAny_newObj_type (wpAny_pure (wpAny_pure ⟨_, rfl, wpAny_pure h⟩)) htake))
    | exact wpAny_bind (wpAny_bind (m := Builtin.Tuple.tupleExact _) (wpAny_newObj_type (wpAny_pure ⟨_, rfl, wpAny_pure h⟩) htake))
end
end HT

namespace L2
open PySem PySem.Spec PyProof.Rows

/-! ### the parts of a slice -/
abbrev TO := St → Hp → (Option Int → Hp → Prop) → Prop
/-- a slice's part (left out, or an int) -/
def PO (X : Cx) (e : Option Expr) (t : TO) : Prop :=
  ∀ (pins : List (Addr × Obj)) (s : Shared) (σ : St) (H : Hp) (Q : Option Int → Hp → Prop), Inv X pins σ H s → t σ H Q →
    wpAny (model X.prog X.w) X.A (evalPart e X.env) (fun u s' => ∃ o H', Inv X pins σ H' s' ∧ IsPart u o ∧ Q o H') X.xe s
def tNoPart : TO := fun _ H Q => Q none H
def tPart (t : TE) : TO := fun σ H Q => t σ H fun x H1 => ∃ i, x = .int i ∧ Q (some i) H1

section
variable {X : Cx} {e : Expr} {te : TE} {lo hi : Option Expr} {tl th : TO} {pos p2 : Pos}

theorem po_none : PO X none tNoPart := by
  intro pins s σ H Q I h
  rw [evalPart_none]
  exact wpAny_pure ⟨none, H, I, .none, h⟩
theorem po_some (h : PE X e te) : PO X (some e) (tPart te) := by
  intro pins s σ H Q I hw
  rw [evalPart_some]
  refine thn (h pins s σ H _ I hw) fun u s1 ⟨x, H1, I1, r1, q1⟩ => ?_
  obtain ⟨i, rfl, q⟩ := q1
  obtain ⟨t, rfl⟩ := r1
  exact ⟨some i, H1, I1, .int i t, q⟩

/-- what a slice of a value is, by values: the slice object stands at sl -/
def SlR (X : Cx) (r : V → Option Int → Option Int → Hp → VK → Prop) : Prop :=
  ∀ (pins : List (Addr × Obj)) (s : Shared) (σ : St) (H : Hp) (x : V) (v vl vu : Value) (lo hi : Option Int) (sl : Addr) (Q : VK), Inv X pins σ H s → RelV x v → s.heap.IsSliceOf sl vl vu .none → IsPart vl lo → IsPart vu hi → r x lo hi H Q →
    ∃ T id, typeLookup (.type T) "__getitem__" = pure (some (.builtin id)) ∧ s.TypeIs v T ∧ wpAny (model X.prog X.w) X.A (getItem v (.ref sl)) (EP X pins σ Q) X.xe s
def tSl (r : V → Option Int → Option Int → Hp → VK → Prop) (te : TE) (tl th : TO) : TE := fun σ H Q => te σ H fun x H1 => tl σ H1 fun l H2 => th σ H2 fun u H3 => r x l u H3 Q
/-- a[lo:hi], any a -/
theorem pe_slice {r : V → Option Int → Option Int → Hp → VK → Prop} (hr : SlR X r) (he : PE X e te) (hl : PO X lo tl) (hu : PO X hi th) : PE X (.Subscript e (.Slice lo hi none p2) pos) (tSl r te tl th) := by
  intro pins s σ H Q I h
  refine Subscript_ (thn (he pins s σ H _ I h) fun v s1 ⟨x, H1, I1, r1, q1⟩ => ?_)
  refine wpAny_Slice (thn (hl pins s1 σ H1 _ I1 q1) fun vl s2 ⟨l, H2, I2, pl, q2⟩ => thn (hu pins s2 σ H2 _ I2 q2) fun vu s3 ⟨u, H3, I3, pu, q3⟩ => ?_)
  rw [evalPart_none]
  refine wpAny_pure ?_
  have I4 : Inv X pins σ H3 { s3 with heap := s3.heap.push { cls := .type "slice", data := .fields #[vl, vu, .none] } } := I3.kept (t' := s3.toks) fun b ob q => Heap.get?_push_of_some _ q
  obtain ⟨T, id, hT, ht, hg⟩ := hr pins { s3 with heap := s3.heap.push { cls := .type "slice", data := .fields #[vl, vu, .none] } } σ H3 x v vl vu l u s3.heap.objs.size Q I4 r1 (Heap.IsSliceOf.new ..) pl pu q3
  show wpAny (model X.prog X.w) X.A (subscriptTail e (.Slice lo hi none p2) v (.ref s3.heap.objs.size)) (EP X pins σ Q) X.xe { s3 with heap := s3.heap.push { cls := .type "slice", data := .fields #[vl, vu, .none] } }
  exact tail_any (ops := [.ref s3.heap.objs.size, v]) ht hT hg (by with_unfolding_all rfl)

/-- the items of xs[lo:hi] -/
def cutV (xs : List V) (lo hi : Option Int) : List V := (xs.drop (HT.sIx xs.length 0 lo)).take (HT.sIx xs.length xs.length hi - HT.sIx xs.length 0 lo)
theorem cutV_length (xs : List V) (lo hi : Option Int) : (cutV xs lo hi).length ≤ xs.length := by
  unfold cutV
  rw [List.length_take, List.length_drop]
  omega
/-- t[lo:hi], not the whole of it (the whole would be t itself) -/
def rSlT (K : PySem.W.Frag) : V → Option Int → Option Int → Hp → VK → Prop := fun x lo hi H Q => ∃ a xs, x = .ref a ∧ SqT K H a xs ∧
  ¬ (HT.sIx xs.length 0 lo = 0 ∧ HT.sIx xs.length xs.length hi = xs.length) ∧ ∀ p, H p = none → Q (.ref p) (upd H p (.tup (cutV xs lo hi)))
theorem sl_tup : SlR X (rSlT X.K) := by
  intro pins s σ H x v vl vu lo hi sl Q I rx hs pl pu h
  obtain ⟨a, xs, rfl, hx, hw, q⟩ := h
  cases rx
  obtain ⟨its, r, ht, hz⟩ := I.tuple hx
  have hlen : its.toArray.size = xs.length := by rw [List.size_toArray]; exact r.length.symm
  refine ⟨"tuple", _, PyProof.Rows.slot_tuple_getitem.lookup, ht.typeIs, ?_⟩
  refine HT.getItem_tuple_cut ht hs pl pu (by rw [hlen]; exact hw) ?_ (by rw [hlen]; exact hz)
  rw [hlen]
  refine ⟨.ref s.heap.objs.size, _, I.laid (t' := s.toks) (o := .tup (cutV xs lo hi)) (fun b ob q => Heap.get?_push_of_some _ q) (Nat.le_refl _) ?_, rfl, q _ (I.hok.fresh (Nat.le_refl _))⟩
  exact ⟨Nat.le_trans (cutV_length xs lo hi) hz, _, (r.drop (HT.sIx xs.length 0 lo)).take (HT.sIx xs.length xs.length hi - HT.sIx xs.length 0 lo), IsTupX.new _ _⟩

/-! ### t < u, t + u -/
/-- t + u, t not empty: u empty gives t itself -/
def rCatT (K : PySem.W.Frag) : R2 := fun x y H Q => ∃ a b xs ys, x = .ref a ∧ y = .ref b ∧ SqT K H a xs ∧ SqT K H b ys ∧ xs ≠ [] ∧ xs.length + ys.length ≤ sizeLine ∧
  (ys = [] → Q (.ref a) H) ∧ (ys ≠ [] → ∀ p, H p = none → Q (.ref p) (upd H p (.tup (xs ++ ys))))
theorem Vals.nil_iff {xs : List V} {us : List Value} (r : Vals xs us) : us = [] ↔ xs = [] := by
  cases r with
  | nil => simp
  | cons _ _ => simp
theorem op_catT : OpR X (binaryOp .Add) (rCatT X.K) := by
  intro pins s σ H x y v u Q I rx ry h
  obtain ⟨a, b, xs, ys, rfl, rfl, ha, hb, hx, hz, q1, q2⟩ := h
  cases rx
  cases ry
  obtain ⟨its, r1, p1, _⟩ := I.tuple ha
  obtain ⟨its2, r2, p2, _⟩ := I.tuple hb
  refine HT.cat_tup p1 p2 (fun z => hx (r1.nil_iff.mp z)) (fun z => ⟨.ref a, H, I, rfl, q1 (r2.nil_iff.mp z)⟩) (fun z => ?_) (by rw [← r1.length, ← r2.length]; exact hz)
  refine ⟨.ref s.heap.objs.size, _, I.laid (t' := s.toks) (o := .tup (xs ++ ys)) (fun b ob q => Heap.get?_push_of_some _ q) (Nat.le_refl _) ?_, rfl, q2 (fun w => z (r2.nil_iff.mpr w)) _ (I.hok.fresh (Nat.le_refl _))⟩
  exact ⟨by rw [List.length_append]; exact hz, _, r1.append r2, IsTupX.new _ _⟩
end
end L2

namespace L2
open PySem PySem.Spec PyProof.Rows

/-! ### places -/
/-- the place that an index of any sign means -/
def ixN (n : Nat) (i : Int) : Option Nat := if 0 ≤ i then (if i < n then some i.toNat else none) else if -(n : Int) ≤ i then some (i + n).toNat else none
def atI {α : Type} (xs : List α) (i : Int) : Option α := (ixN xs.length i).bind fun j => xs[j]?
theorem ixN_seq {n : Nat} {i : Int} {j : Nat} (h : ixN n i = some j) : seqIndex? i n = some j ∧ j < n ∧ -(n : Int) ≤ i ∧ i < n := by
  unfold ixN at h
  by_cases h0 : 0 ≤ i
  · rw [if_pos h0] at h
    by_cases h1 : i < n
    · rw [if_pos h1] at h
      have e : i.toNat = j := Option.some.inj h
      exact ⟨by rw [seqIndex_of h0 h1, e], by omega, by omega, h1⟩
    · rw [if_neg h1] at h; cases h
  · rw [if_neg h0] at h
    by_cases h1 : -(n : Int) ≤ i
    · rw [if_pos h1] at h
      have e : (i + n).toNat = j := Option.some.inj h
      exact ⟨by rw [seqIndex_neg (by omega) h1, e], by omega, h1, by omega⟩
    · rw [if_neg h1] at h; cases h
theorem atI_get {α : Type} {xs : List α} {i : Int} {v : α} (h : atI xs i = some v) : ∃ j, seqIndex? i xs.length = some j ∧ xs[j]? = some v ∧ j < xs.length ∧ -(xs.length : Int) ≤ i ∧ i < xs.length := by
  unfold atI at h
  cases e : ixN xs.length i with
  | none => rw [e] at h; cases h
  | some j =>
    rw [e] at h
    obtain ⟨h1, h2, h3, h4⟩ := ixN_seq e
    exact ⟨j, h1, h, h2, h3, h4⟩
theorem atI_nat {α : Type} {xs : List α} {j : Nat} {v : α} (h : xs[j]? = some v) : atI xs (j : Int) = some v := by
  have hj : j < xs.length := (List.getElem?_eq_some_iff.mp h).1
  have e : ixN xs.length (j : Int) = some j := by
    unfold ixN
    rw [if_pos (by omega), if_pos (by omega)]; simp
  unfold atI; rw [e]; exact h
theorem atI_last {α : Type} (xs : List α) (v : α) : atI (xs ++ [v]) (-1) = some v := by
  have hl : (xs ++ [v]).length = xs.length + 1 := by simp
  have e : ixN (xs ++ [v]).length (-1) = some xs.length := by
    unfold ixN
    rw [hl, if_neg (by decide), if_pos (by omega)]
    congr 1
    omega
  unfold atI
  rw [e]
  show (xs ++ [v])[xs.length]? = some v
  simp

/-! ### what may be subscripted -/
/-- what stands as an index of a plain subscript -/
def PlainIx (b : Expr) : Prop := ∀ o i, subscripted b false o i = operate [o, i] (getItem o i)
/-- a subscript by values -/
def IxR (X : Cx) (r : R2) : Prop :=
  ∀ (value slice : Expr) (pins : List (Addr × Obj)) (s : Shared) (σ : St) (H : Hp) (x y : V) (v u : Value) (Q : VK), Inv X pins σ H s → RelV x v → RelV y u → r x y H Q →
    subscripted slice false v u = operate [v, u] (getItem v u) → wpAny (model X.prog X.w) X.A (subscriptTail value slice v u) (EP X pins σ Q) X.xe s
/-- a call of a builtin's method by values: the receiver, the arguments -/
def MtR (X : Cx) (id : String) (r : V → List V → Hp → VK → Prop) : Prop :=
  ∀ (pins : List (Addr × Obj)) (s : Shared) (σ : St) (H : Hp) (x : V) (xs : List V) (v : Value) (us : List Value) (Q : VK), Inv X pins σ H s → RelV x v → Vals xs us → r x xs H Q →
    wpAny (model X.prog X.w) X.A (call (.builtin id) (v :: us)) (EP X pins σ Q) X.xe s
section
variable {X : Cx} {a b : Expr} {ta tb : TE} {pos : Pos}
/-- a[b] -/
theorem pe_ix {r : R2} (hr : IxR X r) (ha : PE X a ta) (hb : PE X b tb) (hs : PlainIx b) : PE X (.Subscript a b pos) (tOp r ta tb) := by
  intro pins s σ H Q I h
  exact Subscript_ (binT ha hb I h fun v u s2 x y H2 I2 rx ry q => hr a b pins s2 σ H2 x y v u Q I2 rx ry q (hs _ _))

def rIxL (K : PySem.W.Frag) : R2 := fun x y H Q => ∃ p xs i v, x = .ref p ∧ y = .int i ∧ SqL K H p xs ∧ atI xs i = some v ∧ Q v H
def rIxT (K : PySem.W.Frag) : R2 := fun x y H Q => ∃ p xs i v, x = .ref p ∧ y = .int i ∧ SqT K H p xs ∧ atI xs i = some v ∧ Q v H
def rIxS : R2 := fun x y H Q => ∃ z i c, x = .str z ∧ y = .int i ∧ z.length ≤ sizeLine ∧ atI z.cps.toList i = some c ∧ Q (.str ⟨#[c]⟩) H
theorem ix_list : IxR X (rIxL X.K) := by
  intro value slice pins s σ H x y v u Q I rx ry h hs
  obtain ⟨p, xs, i, z, rfl, rfl, hq, he, q⟩ := h
  cases rx
  obtain ⟨t, rfl⟩ := ry
  obtain ⟨its, r, pl, hz⟩ := I.list hq
  obtain ⟨j, h1, h2, h3, h4, h5⟩ := atI_get he
  obtain ⟨w, ew, rw'⟩ := r.get h2
  have hl := r.length
  have hn := line63
  have fin : EP X pins σ Q w s := ⟨z, H, I, rw', q⟩
  by_cases h0 : 0 ≤ i
  · have hj : i.toNat = j := by
      rw [seqIndex_of h0 h5] at h1
      exact Option.some.inj h1
    exact item_listR pl.isList h0 (by omega) (by rw [hj]; simpa using ew) fin hs
  · have hj : (i + (its.toArray.size : Int)).toNat = j := by
      rw [seqIndex_neg (by omega) h4] at h1
      rw [List.size_toArray, ← hl]
      exact Option.some.inj h1
    exact subscriptTail_builtinR (x := w) pl.isList.typeIs slot_list_getitem.lookup
      (wpAny_getItem_list_neg (Q := fun r s' => r = w ∧ EP X pins σ Q r s') pl.isList (by omega) (by rw [List.size_toArray] <;> omega) (by omega) (by rw [hj]; simpa using ew) ⟨rfl, fin⟩) hs
theorem ix_tup : IxR X (rIxT X.K) := by
  intro value slice pins s σ H x y v u Q I rx ry h hs
  obtain ⟨p, xs, i, z, rfl, rfl, hq, he, q⟩ := h
  cases rx
  obtain ⟨t, rfl⟩ := ry
  obtain ⟨its, r, pl, hz⟩ := I.tuple hq
  obtain ⟨j, h1, h2, h3, h4, h5⟩ := atI_get he
  obtain ⟨w, ew, rw'⟩ := r.get h2
  have hl := r.length
  have hn := line63
  have fin : EP X pins σ Q w s := ⟨z, H, I, rw', q⟩
  exact subscriptTail_builtinR (x := w) pl.typeIs slot_tuple_getitem.lookup
    (getItem_tuple (j := j) (Q := fun r s' => r = w ∧ EP X pins σ Q r s') pl (by omega) (by omega) (by rw [List.size_toArray, ← hl]; exact h1) (by simpa using ew) ⟨rfl, fin⟩) hs
theorem ix_str : IxR X rIxS := by
  intro value slice pins s σ H x y v u Q I rx ry h hs
  obtain ⟨z, i, c, rfl, rfl, hz, he, q⟩ := h
  obtain ⟨t, rfl⟩ := rx
  obtain ⟨t', rfl⟩ := ry
  obtain ⟨j, h1, h2, h3, h4, h5⟩ := atI_get he
  have hl : z.cps.toList.length = z.length := by simp [Str.length]
  rw [hl] at h1 h4 h5
  have hn := line63
  exact tail_any (typeIs_str s z t) slot_str_getitem.lookup (getItem_str (c := c) (by
    have e1 : decide (i < -(2 ^ 63 : Int)) = false := decide_eq_false (by omega)
    have e2 : decide (i ≥ 2 ^ 63) = false := decide_eq_false (by omega)
    rw [e1, e2, Bool.or_false]) (by rw [h1]; simpa using h2) ⟨.str ⟨#[c]⟩, H, I.tok _, ⟨_, rfl⟩, q⟩) hs
/-! ### xs[i] = v, any sign -/
/-- the list's object behind a store -/
theorem mapSeq_set (its : List Value) (n j : Nat) (u : Value) : Obj.mapSeq (·.setIfInBounds j u) { cls := .type "list", data := .seq its.toArray n } = { cls := .type "list", data := .seq (its.set j u).toArray n } := by
  simp [Obj.mapSeq]
theorem Inv.lst {pins : List (Addr × Obj)} {σ : St} {H : Hp} {s : Shared} {p : Addr} {xs : List V} (I : Inv X pins σ H s) (h : H p = some (.lst xs)) :
    ∃ (its : List Value) (n : Nat), Vals xs its ∧ s.heap.get? p = some { cls := .type "list", data := .seq its.toArray n } ∧ xs.length ≤ sizeLine := by
  obtain ⟨z, its, n, r, e⟩ := I.hok p _ h
  exact ⟨its, n, r, e, z⟩
/-- the list at p is written by an update of its object -/
theorem Inv.lstUpd {pins : List (Addr × Obj)} {σ : St} {H : Hp} {s : Shared} {p : Addr} {xs ys : List V} {its its' : List Value} {n n' : Nat} {f : Obj → Obj} (I : Inv X pins σ H s) (h : H p = some (.lst xs))
    (ho : s.heap.get? p = some { cls := .type "list", data := .seq its.toArray n }) (hf : f { cls := .type "list", data := .seq its.toArray n } = { cls := .type "list", data := .seq its'.toArray n' }) (r : Vals ys its') (hz : ys.length ≤ sizeLine) (t : Nat) :
    Inv X pins σ (upd H p (.lst ys)) { s with heap := s.heap.update p f, toks := t } := by
  have e : (s.heap.update p f).get? p = some { cls := .type "list", data := .seq its'.toArray n' } := by
    rw [Heap.get?_update_self f ho (by rw [hf] <;> rfl), hf]
  refine I.write (x := p) (e := p) (by rw [h]; trivial) (.inl rfl) (fun b u hb q => (Heap.get?_update_other _ _ (Ne.symm hb)).trans q) ⟨_, e⟩ ?_
  exact ⟨hz, its', n', r, e⟩
def rSetL : V → V → V → Hp → (Hp → Prop) → Prop := fun o i v H Q => ∃ p xs k j, o = .ref p ∧ i = .int k ∧ H p = some (.lst xs) ∧ ixN xs.length k = some j ∧ Q (upd H p (.lst (xs.set j v)))
theorem set_list : PSet X rSetL := by
  intro pins s σ H o i v ov iv u Q I ro ri rv h
  obtain ⟨p, xs, k, j, rfl, rfl, hp, hj, q⟩ := h
  cases ro
  obtain ⟨t, rfl⟩ := ri
  obtain ⟨its, n, r, ho, hz⟩ := I.lst hp
  obtain ⟨h1, h2, h3, h4⟩ := ixN_seq hj
  have hl := r.length
  have hn := line63
  have I' : Inv X pins σ (upd H p (.lst (xs.set j v))) { s with heap := s.heap.update p (Obj.mapSeq (·.setIfInBounds j u)) } :=
    I.lstUpd hp ho (mapSeq_set its n j u) (r.set rv j) (by rw [List.length_set]; exact hz) s.toks
  by_cases h0 : 0 ≤ k
  · have hk : k.toNat = j := by
      rw [seqIndex_of h0 h4] at h1
      exact Option.some.inj h1
    exact PySem.W.ki_setAt ho h0 (by omega) (by rw [List.size_toArray, ← hl]; exact h4) (by rw [hk]; exact ⟨_, I', q⟩)
  · have hk : (k + (its.toArray.size : Int)).toNat = j := by
      rw [seqIndex_neg (by omega) h3] at h1
      rw [List.size_toArray, ← hl]
      exact Option.some.inj h1
    exact PySem.W.ki_setBack ho (by omega) (by rw [List.size_toArray, ← hl]; exact h3) (by omega) (by rw [hk]; exact ⟨_, I', q⟩)

/-! ### slices -/
theorem slice_bounds (lo hi : Option Int) (n : Nat) : (sliceBounds lo hi none n).1 = ((HT.sIx n 0 lo : Nat) : Int) ∧ (sliceBounds lo hi none n).2.1 = ((HT.sIx n n hi : Nat) : Int) ∧ (sliceBounds lo hi none n).2.2 = 1 := by
  refine ⟨?_, ?_, rfl⟩
  · cases lo with
    | none => simp [sliceBounds, HT.sIx]
    | some i =>
      simp only [sliceBounds, HT.sIx, Option.getD_none, show (1 : Int) > 0 by decide, if_true]
      by_cases h : i < 0
      · simp only [h, if_true] <;> omega
      · simp only [h, if_false] <;> omega
  · cases hi with
    | none => simp [sliceBounds, HT.sIx]
    | some i =>
      simp only [sliceBounds, HT.sIx, Option.getD_none, show (1 : Int) > 0 by decide, if_true]
      by_cases h : i < 0
      · simp only [h, if_true] <;> omega
      · simp only [h, if_false] <;> omega
theorem slicePick_cut (its : List Value) (lo hi : Option Int) : slicePick its.toArray lo hi none = ((its.drop (HT.sIx its.length 0 lo)).take (HT.sIx its.length its.length hi - HT.sIx its.length 0 lo)).toArray := by
  obtain ⟨h1, h2, h3⟩ := slice_bounds lo hi its.toArray.size
  unfold slicePick
  rw [h1, h2, h3]
  simp only [sliceRange_one, pick_run, List.size_toArray] <;> rfl
/-- xs[lo:hi] of a list: a new list -/
def rSlL (K : PySem.W.Frag) : V → Option Int → Option Int → Hp → VK → Prop := fun x lo hi H Q => ∃ a xs, x = .ref a ∧ SqL K H a xs ∧ ∀ p, H p = none → Q (.ref p) (upd H p (.lst (cutV xs lo hi)))
theorem sl_list : SlR X (rSlL X.K) := by
  intro pins s σ H x v vl vu lo hi sl Q I rx hs pl pu h
  obtain ⟨a, xs, rfl, hx, q⟩ := h
  cases rx
  obtain ⟨its, r, ht, hz⟩ := I.list hx
  have hlen := r.length
  refine ⟨"list", _, slot_list_getitem.lookup, ht.isList.typeIs, ?_⟩
  refine wpAny_getItem_list_slice ht.isList hs pl pu .none (by simp) ?_ (by rw [List.size_toArray] <;> omega)
  rw [slicePick_cut, ← hlen]
  refine ⟨.ref s.heap.objs.size, _, I.laid (t' := s.toks) (o := .lst (cutV xs lo hi)) (fun b ob q => Heap.get?_push_of_some _ q) (Nat.le_refl _) ?_, rfl, q _ (I.hok.fresh (Nat.le_refl _))⟩
  exact ⟨Nat.le_trans (cutV_length xs lo hi) hz, _, 0, (r.drop (HT.sIx xs.length 0 lo)).take (HT.sIx xs.length xs.length hi - HT.sIx xs.length 0 lo), Heap.get?_push_size _ rfl⟩

/-! ### in, not in: flat items -/
def flatV : V → Bool
  | .non => true
  | .bl _ => true
  | .int _ => true
  | .str _ => true
  | _ => false
/-- == of flat values -/
def eqV : V → V → Bool
  | .non, .non => true
  | .bl a, .bl b => a == b
  | .bl a, .int b => (if a then 1 else 0) == b
  | .int a, .bl b => a == (if b then 1 else 0)
  | .int a, .int b => a == b
  | .str a, .str b => a == b
  | _, _ => false
theorem eqAt_V {A : Around} {s : Shared} {y x : V} {u v : Value} (ry : RelV y u) (rx : RelV x v) (fy : flatV y = true) (fx : flatV x = true) : SeqAt.EqAt A s u v (eqV y x) := by
  cases y with
  | non =>
    cases ry
    cases x with
    | non => cases rx; exact SeqAt.EqAt.same _
    | bl b => cases rx; exact SeqAt.EqAt.none_bool b
    | int b => obtain ⟨t, rfl⟩ := rx; exact SeqAt.EqAt.none_int b t
    | str b => obtain ⟨t, rfl⟩ := rx; exact SeqAt.EqAt.none_str b t
    | _ => exact absurd (show false = true from fx) Bool.false_ne_true
  | bl a =>
    cases ry
    cases x with
    | non => cases rx; exact SeqAt.EqAt.bool_none a
    | bl b => cases rx; exact SeqAt.EqAt.bool_bool a b
    | int b => obtain ⟨t, rfl⟩ := rx; exact SeqAt.EqAt.bool_int a b t
    | str b => obtain ⟨t, rfl⟩ := rx; exact SeqAt.EqAt.bool_str a b t
    | _ => exact absurd (show false = true from fx) Bool.false_ne_true
  | int a =>
    obtain ⟨t', rfl⟩ := ry
    cases x with
    | non => cases rx; exact SeqAt.EqAt.int_none a t'
    | bl b => cases rx; exact SeqAt.EqAt.int_bool a t' b
    | int b => obtain ⟨t, rfl⟩ := rx; exact SeqAt.EqAt.int_int a t' b t
    | str b => obtain ⟨t, rfl⟩ := rx; exact SeqAt.EqAt.int_str a t' b t
    | _ => exact absurd (show false = true from fx) Bool.false_ne_true
  | str a =>
    obtain ⟨t', rfl⟩ := ry
    cases x with
    | non => cases rx; exact SeqAt.EqAt.str_none a t'
    | bl b => cases rx; exact SeqAt.EqAt.str_bool a t' b
    | int b => obtain ⟨t, rfl⟩ := rx; exact SeqAt.EqAt.str_int a t' b t
    | str b => obtain ⟨t, rfl⟩ := rx; exact SeqAt.EqAt.str_str a t' b t
    | _ => exact absurd (show false = true from fx) Bool.false_ne_true
  | _ => exact absurd (show false = true from fy) Bool.false_ne_true
/-- the items' answers, read off the values (a value's own answer does not lean on its token) -/
def eqU (x : V) (u : Value) : Bool := match u with
  | .none => eqV .non x
  | .bool b => eqV (.bl b) x
  | .int i _ => eqV (.int i) x
  | .str z _ => eqV (.str z) x
  | _ => false
theorem eqU_of {x y : V} {u : Value} (r : RelV y u) (f : flatV y = true) : eqU x u = eqV y x := by
  cases y with
  | non => cases r; rfl
  | bl b => cases r; rfl
  | int i => obtain ⟨t, rfl⟩ := r; rfl
  | str z => obtain ⟨t, rfl⟩ := r; rfl
  | _ => exact absurd (show false = true from f) Bool.false_ne_true
theorem any_eqU {x : V} : ∀ {xs : List V} {us : List Value}, Vals xs us → xs.all flatV = true → us.any (eqU x) = xs.any fun y => eqV y x
  | _, _, .nil, _ => rfl
  | y :: xs, u :: us, .cons r t, f => by
    rw [List.all_cons, Bool.and_eq_true] at f
    rw [List.any_cons, List.any_cons, eqU_of r f.1, any_eqU t f.2]
theorem mem_eqAt {A : Around} {s : Shared} {x : V} {v : Value} (rx : RelV x v) (fx : flatV x = true) : ∀ {xs : List V} {us : List Value}, Vals xs us → xs.all flatV = true → ∀ u ∈ us, SeqAt.EqAt A s u v (eqU x u)
  | _, _, .nil, _ => fun u hu => by cases hu
  | y :: xs, u :: us, .cons r t, f => fun u' hu => by
    rw [List.all_cons, Bool.and_eq_true] at f
    rcases List.mem_cons.mp hu with rfl | hu
    · rw [eqU_of r f.1]; exact eqAt_V r rx f.1 fx
    · exact mem_eqAt rx fx t f.2 u' hu
def inV (x : V) (xs : List V) : Bool := xs.any fun y => eqV y x
/-- x in a list or tuple of flat items -/
def rIn (K : PySem.W.Frag) (neg : Bool) : R2 := fun x y H Q => ∃ p xs, y = .ref p ∧ (SqL K H p xs ∨ SqT K H p xs) ∧ flatV x = true ∧ xs.all flatV = true ∧ Q (.bl (if neg then !inV x xs else inV x xs)) H
theorem op_in_seq : OpR X (compareOp .In) (rIn X.K false) := by
  intro pins s σ H x y v u Q I rx ry h
  obtain ⟨p, xs, rfl, hq, fx, fs, q⟩ := h
  cases ry
  rcases hq with hq | hq
  · obtain ⟨its, r, pl, hz⟩ := I.list hq
    refine SeqAt.in_listAt (eqU x) pl.isList (fun w hw => mem_eqAt rx fx r fs w (by simpa using hw)) ⟨.bl _, H, I, rfl, ?_⟩
    rw [show its.toArray.any (eqU x) = its.any (eqU x) by simp, any_eqU r fs]
    exact q
  · obtain ⟨its, r, pl, hz⟩ := I.tuple hq
    refine SeqAt.in_tupleAt (eqU x) pl (fun w hw => mem_eqAt rx fx r fs w (by simpa using hw)) ⟨.bl _, H, I, rfl, ?_⟩
    rw [show its.toArray.any (eqU x) = its.any (eqU x) by simp, any_eqU r fs]
    exact q
theorem op_notIn_seq : OpR X (compareOp .NotIn) (rIn X.K true) := by
  intro pins s σ H x y v u Q I rx ry h
  obtain ⟨p, xs, rfl, hq, fx, fs, q⟩ := h
  cases ry
  rcases hq with hq | hq
  · obtain ⟨its, r, pl, hz⟩ := I.list hq
    refine SeqAt.notIn_listAt (eqU x) pl.isList (fun w hw => mem_eqAt rx fx r fs w (by simpa using hw)) ⟨.bl _, H, I, rfl, ?_⟩
    rw [show its.toArray.any (eqU x) = its.any (eqU x) by simp, any_eqU r fs]
    exact q
  · obtain ⟨its, r, pl, hz⟩ := I.tuple hq
    refine SeqAt.notIn_tupleAt (eqU x) pl (fun w hw => mem_eqAt rx fx r fs w (by simpa using hw)) ⟨.bl _, H, I, rfl, ?_⟩
    rw [show its.toArray.any (eqU x) = its.any (eqU x) by simp, any_eqU r fs]
    exact q
/-! ### len, list(x), tuple(x) of any list or tuple that is read -/
theorem call_len_seq : CallR X (.builtin "len") (fun xs H Q => ∃ p ys, xs = [.ref p] ∧ (SqL X.K H p ys ∨ SqT X.K H p ys) ∧ Q (.int ys.length) H) := by
  intro pins s σ H xs us Q I r h
  obtain ⟨p, ys, rfl, hq, q⟩ := h
  obtain ⟨u, rfl, rx⟩ := vals1 r
  cases rx
  have hn := line63
  rcases hq with hq | hq
  · obtain ⟨its, r', pl, hz⟩ := I.list hq
    have hlen := r'.length
    exact Calls.call_len_list pl.isList (by simp only [List.size_toArray] <;> omega) ⟨.int ys.length, H, I.tok _, ⟨s.toks + 1, by rw [List.size_toArray, hlen]⟩, q⟩
  · obtain ⟨its, r', pl, hz⟩ := I.tuple hq
    have hlen := r'.length
    exact len_tuple pl (by simp only [List.size_toArray] <;> omega) ⟨.int ys.length, H, I.tok _, ⟨s.toks + 1, by rw [List.size_toArray, hlen]⟩, q⟩
theorem call_len_str : CallR X (.builtin "len") (fun xs H Q => ∃ z, xs = [.str z] ∧ z.length ≤ sizeLine ∧ Q (.int z.length) H) := by
  intro pins s σ H xs us Q I r h
  obtain ⟨z, rfl, hz, q⟩ := h
  obtain ⟨u, rfl, t, rfl⟩ := vals1 r
  have hn := line63
  exact len_str (by omega) ⟨.int z.length, H, I.tok _, ⟨_, rfl⟩, q⟩
theorem call_tuple_of : CallR X (.type "tuple") (fun xs H Q => ∃ p ys, xs = [.ref p] ∧ ((SqL X.K H p ys ∧ ∀ l, H l = none → Q (.ref l) (upd H l (.tup ys))) ∨ (SqT X.K H p ys ∧ Q (.ref p) H))) := by
  intro pins s σ H xs us Q I r h
  obtain ⟨p, ys, rfl, h⟩ := h
  obtain ⟨u, rfl, rx⟩ := vals1 r
  cases rx
  rcases h with ⟨hq, q⟩ | ⟨hq, q⟩
  · obtain ⟨its, r', pl, hz⟩ := I.list hq
    have hlen := r'.length
    refine call_tuple_list pl.isList (fun h' kp => ?_) (by simp only [List.size_toArray] <;> omega)
    have I1 : Inv X pins σ H { s with heap := h' } := I.kept (t' := s.toks) kp
    have I2 : Inv X pins σ (upd H h'.objs.size (.tup ys)) { s with heap := h'.push { cls := .type "tuple", data := .seq its.toArray } } :=
      I1.laid (t' := s.toks) (fun b o e => Heap.get?_push_of_some _ e) (Nat.le_refl _) (show ObjOk X.prog X.w _ _ _ (.tup ys) from ⟨hz, its, r', IsTupX.new _ _⟩)
    exact ⟨.ref h'.objs.size, _, I2, rfl, q _ (I1.hok.fresh (Nat.le_refl _))⟩
  · obtain ⟨its, r', pl, hz⟩ := I.tuple hq
    exact call_tuple_same pl ⟨.ref p, H, I, rfl, q⟩

/-! ### the call of a builtin's method: o.m(..) -/
/-- the value is of that builtin type -/
def tyV (K : PySem.W.Frag) (T : String) (x : V) (H : Hp) : Prop := match x with
  | .str _ => T = "str"
  | .int _ => T = "int"
  | .ref p => (T = "list" ∧ ∃ xs, SqL K H p xs) ∨ (T = "tuple" ∧ ∃ o, K.lookup p = some o ∧ o.cls = .type "tuple" ∧ o.dict = none) ∨
      (T = "dict" ∧ ((∃ kvs, H p = some (.dK kvs)) ∨ ∃ kvs, H p = some (.dT kvs))) ∨ (T = "set" ∧ ∃ S n, H p = some (.set S n)) ∨ (T = "tuple" ∧ ∃ xs, H p = some (.tup xs))
  | _ => False
theorem tyV_is {pins : List (Addr × Obj)} {σ : St} {H : Hp} {s : Shared} {T : String} {x : V} {v : Value} (I : Inv X pins σ H s) (r : RelV x v) (ty : tyV X.K T x H) :
    s.TypeIs v T ∧ ∀ a, v = .ref a → ∃ ob, s.heap.get? a = some ob ∧ ob.dict = none := by
  cases x with
  | str z =>
    obtain ⟨t, rfl⟩ := r
    cases (show T = "str" from ty)
    exact ⟨typeIs_str s z t, fun _ e => nomatch e⟩
  | int i =>
    obtain ⟨t, rfl⟩ := r
    cases (show T = "int" from ty)
    exact ⟨typeIs_int s i t, fun _ e => nomatch e⟩
  | ref p =>
    cases r
    rcases ty with ⟨rfl, xs, hq⟩ | ⟨rfl, o, hk, hc, hd⟩ | ⟨rfl, hk⟩ | ⟨rfl, S, n, hk⟩ | ⟨rfl, xs, hk⟩
    · obtain ⟨its, _, pl, _⟩ := I.list hq
      refine ⟨pl.isList.typeIs, fun a e => ?_⟩
      cases e
      obtain ⟨o, n, e, c, hd, _⟩ := pl
      exact ⟨o, e, hd⟩
    · refine ⟨⟨o, I.kIn p o hk, hc⟩, fun a e => ?_⟩
      cases e
      exact ⟨o, I.kIn _ o hk, hd⟩
    · have z : ∃ o, s.heap.get? p = some o ∧ o.ExactDict := by
        rcases hk with ⟨kvs, hk⟩ | ⟨kvs, hk⟩
        · obtain ⟨_, _, _, _, o, _, _, e, ex, _⟩ := I.hok p _ hk
          exact ⟨o, e, ex⟩
        · obtain ⟨_, _, _, _, o, _, _, e, ex, _⟩ := I.hok p _ hk
          exact ⟨o, e, ex⟩
      obtain ⟨o, e, ex⟩ := z
      refine ⟨⟨o, e, ex.1⟩, fun a e2 => ?_⟩
      cases e2
      exact ⟨o, e, ex.2.1⟩
    · obtain ⟨o, _, _, _, e, ex, _⟩ := I.hok p _ hk
      refine ⟨⟨o, e, ex.1⟩, fun a e2 => ?_⟩
      cases e2
      exact ⟨o, e, ex.2.1⟩
    · obtain ⟨_, its, _, o, h1, h2, n, h3, h4⟩ := (show ObjOk X.prog X.w H s.heap p (.tup xs) from I.hok p _ hk)
      exact ⟨⟨o, h1, h2⟩, fun a e => by cases e; exact ⟨o, h1, h4⟩⟩
  | _ => exact False.elim ty
def tBM0 (K : PySem.W.Frag) (T : String) (r : V → List V → Hp → VK → Prop) (to : TE) : TE := fun σ H Q => to σ H fun x H1 => tyV K T x H1 ∧ r x [] H1 Q
def tBM (K : PySem.W.Frag) (T : String) (r : V → List V → Hp → VK → Prop) (to : TE) (t : TA) : TE := fun σ H Q => to σ H fun x H1 => tyV K T x H1 ∧ t σ H1 fun xs H2 => r x xs H2 Q
variable {o e : Expr} {es : List Expr} {to : TE} {t : TA} {name : Str} {apos cpos : Pos} {T id : String} {r : V → List V → Hp → VK → Prop}
theorem pe_bm0 (pa : PlainAttrs T) (slot : Slot T name id) (hty : typeOf (.builtin id) = pure (.type "method_descriptor")) (hm : MtR X id r) (ho : PE X o to)
    (hbase : attributeBase o name X.env (eval o X.env) = eval o X.env := by rfl) (hline : (apos.endLine == cpos.line) = true := by rfl) : PE X (.Call (.Attribute o name apos) [] [] cpos) (tBM0 X.K T r to) := by
  intro pins s σ H Q I h
  refine wpAny_Call_method0_late hbase hline (thn (ho pins s σ H _ I h) fun v s1 ⟨x, H1, I1, r1, ty, q1⟩ => ?_)
  obtain ⟨h1, h2⟩ := tyV_is I1 r1 ty
  exact ⟨T, id, pa, slot, hty, h1, h2, Calls.callWith_builtin rfl (PySem.evalArgs_none (hm pins s1 σ H1 x [] v [] Q I1 r1 .nil q1))⟩
theorem pe_bm (pa : PlainAttrs T) (slot : Slot T name id) (hty : typeOf (.builtin id) = pure (.type "method_descriptor")) (hm : MtR X id r) (ho : PE X o to) (ha : PA X (e :: es) t)
    (hbase : attributeBase o name X.env (eval o X.env) = eval o X.env := by rfl)
    (hfew : ((backTo cpos (starEach (e :: es) X.env)).all (fun x => !x.1) && (backToKw cpos (keywordEach [] X.env)).all (fun x => x.1.isSome)
      && decide ((e :: es).length + ([] : List Keyword).length + (if ([] : List Keyword).isEmpty then 0 else 1) < 30)) = true := by rfl)
    (hline : (apos.endLine == cpos.line) = true := by rfl) (hs : starEach (e :: es) X.env = (false, eval e X.env) :: starEach es X.env := by rfl) (hplain : (backTo cpos (starEach es X.env)).any (·.1) = false := by rfl) :
    PE X (.Call (.Attribute o name apos) (e :: es) [] cpos) (tBM X.K T r to t) := by
  intro pins s σ H Q I h
  refine wpAny_Call_method_late hbase hfew hline rfl (thn (ho pins s σ H _ I h) fun v s1 ⟨x, H1, I1, r1, ty, q1⟩ => ?_)
  obtain ⟨h1, h2⟩ := tyV_is I1 r1 ty
  refine ⟨T, id, pa, slot, hty, h1, h2, ?_⟩
  have hA := ha cpos pins s1 σ H1 _ I1 q1
  rw [hs] at hA ⊢
  refine Calls.callWith_builtin (by show (false || (backTo cpos (starEach es X.env)).any (·.1)) = false; rw [hplain] <;> rfl) (Calls.evalArgs_plain ?_)
  exact thn hA fun us s2 ⟨vs, H2, I2, r2, q2⟩ => hm pins s2 σ H2 x vs v us Q I2 r1 r2 q2
/- xs.append(e), list.index on a module's tuple .. are MtR facts of 06m -/
end
end L2

namespace L2
open PySem PySem.Spec PyProof.Rows

def MtM (X : Cx) (id : String) (r : V → List V → Hp → VK → Prop) : Prop :=
  ∀ (pins : List (Addr × Obj)) (s : Shared) (σ : St) (H : Hp) (x : V) (xs : List V) (v : Value) (us : List Value) (Q : VK), Inv X pins σ H s → RelV x v → Vals xs us → r x xs H Q →
    wpAny (model X.prog X.w) X.A (call (.builtin id) (v :: us)) (EP X pins σ Q) X.xe s

/-! ### lists of values -/
theorem Vals.one : ∀ {x : V} {us : List Value}, Vals [x] us → ∃ u, us = [u] ∧ RelV x u
  | _, _, .cons r .nil => ⟨_, rfl, r⟩
theorem Vals.zero : ∀ {us : List Value}, Vals [] us → us = []
  | _, .nil => rfl
theorem Vals.dropLast {xs : List V} {us : List Value} (h : Vals xs us) : Vals xs.dropLast us.dropLast := by
  induction h with
  | nil => exact .nil
  | cons r t ih =>
    cases t with
    | nil => exact .nil
    | cons q t' => exact .cons r ih
theorem erase_last {α : Type} (l : List α) : l.eraseIdx (l.length - 1) = l.dropLast := by
  induction l with
  | nil => rfl
  | cons a r ih =>
    cases r with
    | nil => rfl
    | cons b r =>
      have e : (a :: b :: r).length - 1 = ((b :: r).length - 1) + 1 := by
        have h1 : (a :: b :: r).length = r.length + 2 := rfl
        have h2 : (b :: r).length = r.length + 1 := rfl
        omega
      rw [e, List.eraseIdx_cons_succ, ih]
      all_goals rfl
section
variable {X : Cx} {pins : List (Addr × Obj)} {σ : St} {H : Hp} {s : Shared} {l b : Addr} {xs ys zs : List V}

/-! ### the two steps: a tracked list is rewritten, a new list is laid -/
theorem Inv.lset {its its' : List Value} {n : Nat} {f : Array Value → Array Value} {t' : Nat} (I : Inv X pins σ H s) (hH : H l = some (.lst xs))
    (e : s.heap.get? l = some { cls := .type "list", data := .seq its.toArray n }) (hf : f its.toArray = its'.toArray) (hv : Vals ys its') (hz : ys.length ≤ sizeLine) :
    Inv X pins σ (upd H l (.lst ys)) { s with heap := s.heap.update l (Obj.mapSeq f), toks := t' } := by
  have q := PySem.IsL.update e f
  rw [hf] at q
  refine I.write (x := l) (e := l) (by rw [hH]; exact trivial) (.inl rfl) (fun b' u hb hu => (Heap.get?_update_other s.heap (Obj.mapSeq f) (Ne.symm hb)).trans hu) ⟨_, q⟩ ?_
  exact ⟨hz, its', _, hv, q⟩
theorem Inv.lnew {its : List Value} {t' : Nat} (I : Inv X pins σ H s) (hv : Vals ys its) (hz : ys.length ≤ sizeLine) :
    Inv X pins σ (upd H s.heap.objs.size (.lst ys)) { s with heap := s.heap.push { cls := .type "list", data := .seq its.toArray }, toks := t' } :=
  I.laid (fun _ _ q => Heap.get?_push_of_some _ q) (Nat.le_refl _) ⟨hz, its, 0, hv, Heap.get?_push_size _ rfl⟩
theorem Inv.fresh (I : Inv X pins σ H s) : H s.heap.objs.size = none := I.hok.fresh (Nat.le_refl _)
theorem Inv.lstM (I : Inv X pins σ H s) (hH : H l = some (.lst xs)) : xs.length ≤ sizeLine ∧ ∃ (its : List Value) (n : Nat), Vals xs its ∧ xs.length = its.length ∧ s.heap.get? l = some { cls := .type "list", data := .seq its.toArray n } := by
  obtain ⟨z, its, n, r, e⟩ := I.hok l _ hH
  exact ⟨z, its, n, r, r.length, e⟩

theorem notLongL {n : Nat} (h : n ≤ sizeLine) : Builtin.List.listTooLong n = false := by
  unfold Builtin.List.listTooLong
  exact decide_eq_false (by omega)
end

section
variable {X : Cx}

/-! ### methods -/
def rAppend : V → List V → Hp → VK → Prop := fun x vs H Q => ∃ l xs y, x = .ref l ∧ vs = [y] ∧ H l = some (.lst xs) ∧ xs.length < sizeLine ∧ Q .non (upd H l (.lst (xs ++ [y])))
theorem mt_append : MtM X "list.append" rAppend := by
  intro pins s σ H x vs v us Q I rx rv h
  obtain ⟨l, xs, y, rfl, rfl, hH, hz, q⟩ := h
  cases rx
  obtain ⟨u, rfl, ru⟩ := rv.one
  obtain ⟨z, its, n, r, hl, e⟩ := I.lstM hH
  refine call_meets F.slot_list_append ⟨_, e, rfl⟩ F.entry_list_append (F.args_list_append_2 _ _) (PySem.list_append l its.toArray n u (by rw [List.size_toArray]; omega)) ⟨e, ?_⟩
  refine ⟨.non, _, I.lset (its' := its ++ [u]) hH e (by simp) (r.append (.cons ru .nil)) ?_, rfl, q⟩
  rw [List.length_append, List.length_singleton]
  omega

def rExtend : V → List V → Hp → VK → Prop := fun x vs H Q => ∃ l b xs zs, x = .ref l ∧ vs = [.ref b] ∧ H l = some (.lst xs) ∧ H b = some (.lst zs) ∧ xs.length + zs.length ≤ sizeLine ∧ Q .non (upd H l (.lst (xs ++ zs)))
theorem mt_extend : MtM X "list.extend" rExtend := by
  intro pins s σ H x vs v us Q I rx rv h
  obtain ⟨l, b, xs, zs, rfl, rfl, hH, hB, hz, q⟩ := h
  cases rx
  obtain ⟨u, rfl, ru⟩ := rv.one
  cases ru
  obtain ⟨z, its, n, r, hl, e⟩ := I.lstM hH
  obtain ⟨z2, its2, n2, r2, hl2, e2⟩ := I.lstM hB
  have hsz : its.toArray.size + its2.toArray.size ≤ sizeLine := by rw [List.size_toArray, List.size_toArray]; omega
  have hlong : ¬ (!its.toArray.isEmpty && Builtin.List.listTooLong (its.toArray.size + its2.toArray.size)) = true := by
    rw [notLongL hsz, Bool.and_false]
    exact Bool.false_ne_true
  refine call_meets F.slot_list_extend ⟨_, e, rfl⟩ F.entry_list_extend (F.args_list_extend_2 _ _)
    (AutoSeq1.list_extend_list_list_0 l its.toArray n b its2.toArray n2 hlong (by rw [List.size_toArray]; omega) (by omega)) ⟨e, e2, ?_⟩
  refine ⟨.non, _, I.lset (its' := its ++ its2) hH e (by simp) (r.append r2) ?_, rfl, q⟩
  rw [List.length_append]
  omega

def rPop : V → List V → Hp → VK → Prop := fun x vs H Q => ∃ l xs y, x = .ref l ∧ vs = [] ∧ H l = some (.lst xs) ∧ xs[xs.length - 1]? = some y ∧ Q y (upd H l (.lst xs.dropLast))
theorem mt_pop : MtM X "list.pop" rPop := by
  intro pins s σ H x vs v us Q I rx rv h
  obtain ⟨l, xs, y, rfl, rfl, hH, hy, q⟩ := h
  cases rx
  have hus := rv.zero
  subst hus
  obtain ⟨z, its, n, r, hl, e⟩ := I.lstM hH
  obtain ⟨u, hu, ru⟩ := r.get hy
  have hy' : its.toArray[its.toArray.size - 1]? = some u := by
    show its.toArray[its.length - 1]? = some u
    rw [← Array.getElem?_toList, ← hl]
    exact hu
  refine call_meets F.slot_list_pop ⟨_, e, rfl⟩ F.entry_list_pop (F.args_list_pop_1 _) (MeetsSeq.list_pop_last l its.toArray n u hy' (by rw [List.size_toArray]; omega)) ⟨e, ?_⟩
  refine ⟨y, _, I.lset (its' := its.dropLast) hH e ?_ r.dropLast ?_, ru, q⟩
  · show its.toArray.eraseIdxIfInBounds (its.toArray.size - 1) = its.dropLast.toArray
    rw [List.size_toArray, List.eraseIdxIfInBounds_toArray, erase_last]
  · rw [List.length_dropLast]
    omega

/-! ### list + list, list += list, list * int -/
def rCat : R2 := fun x y H Q => ∃ l b xs zs, x = .ref l ∧ y = .ref b ∧ H l = some (.lst xs) ∧ H b = some (.lst zs) ∧ xs.length + zs.length ≤ sizeLine ∧ ∀ p, H p = none → Q (.ref p) (upd H p (.lst (xs ++ zs)))
theorem op_cat : OpR X (binaryOp .Add) rCat := by
  intro pins s σ H x y v u Q I rx ry h
  obtain ⟨l, b, xs, zs, rfl, rfl, hH, hB, hz, q⟩ := h
  cases rx
  cases ry
  obtain ⟨z, its, n, r, hl, e⟩ := I.lstM hH
  obtain ⟨z2, its2, n2, r2, hl2, e2⟩ := I.lstM hB
  refine PySem.P.add_list e e2 ?_ (by rw [List.size_toArray, List.size_toArray]; omega)
  have ea : its.toArray ++ its2.toArray = (its ++ its2).toArray := by simp
  rw [ea]
  exact ⟨.ref _, _, I.lnew (t' := s.toks) (r.append r2) (by rw [List.length_append]; omega), rfl, q _ I.fresh⟩
/-! ### del xs[i] -/
end

/-! ### xs[a:b] = ys -/
section
variable {prog : Program} {w : World} {A : Around} {E : Value → Shared → Prop} {s : Shared}
end

section
variable {X : Cx}
end
end L2

namespace L2
open PySem PySem.Spec PyProof.Rows

/-! ### lists of pairs as tables -/
section
variable {κ : Type} [DecidableEq κ]
def valV (kvs : List (κ × V)) (k : κ) : Option V := (kvs.find? fun kv => decide (kv.1 = k)).map (·.2)
/-- in its place, or at the end -/
def putK (kvs : List (κ × V)) (k : κ) (v : V) : List (κ × V) :=
  if (kvs.any fun kv => decide (kv.1 = k)) = true then kvs.map (fun kv => if kv.1 = k then (kv.1, v) else kv) else kvs ++ [(k, v)]
theorem valV_pos {p : κ × V} {r : List (κ × V)} {k : κ} (e : p.1 = k) : valV (p :: r) k = some p.2 := by simp [valV, List.find?_cons, e]
theorem valV_neg {p : κ × V} {r : List (κ × V)} {k : κ} (e : ¬ p.1 = k) : valV (p :: r) k = valV r k := by simp [valV, List.find?_cons, e]
theorem valV_any (k : κ) : ∀ kvs : List (κ × V), (kvs.any fun kv => decide (kv.1 = k)) = (valV kvs k).isSome
  | [] => rfl
  | p :: r => by
    rw [List.any_cons]
    by_cases e : p.1 = k
    · simp only [valV_pos e, decide_eq_true e, Bool.true_or, Option.isSome_some]
    · rw [valV_neg e, decide_eq_false e, Bool.false_or]; exact valV_any k r
theorem length_putK (kvs : List (κ × V)) (k : κ) (v : V) : (putK kvs k v).length ≤ kvs.length + 1 := by
  unfold putK
  split
  · rw [List.length_map]; omega
  · rw [List.length_append, List.length_cons, List.length_nil]; omega
theorem RelO.isSome_eq {o : Option V} {u : Option Value} (r : RelO o u) : o.isSome = u.isSome := by
  cases o with
  | none => cases u with
    | none => rfl
    | some _ => exact (show False from r).elim
  | some _ => cases u with
    | none => exact (show False from r).elim
    | some _ => rfl
theorem RelO.getD {o : Option V} {u : Option Value} {d : V} {d' : Value} (r : RelO o u) (rd : RelV d d') : RelV (o.getD d) (u.getD d') := by
  cases o with
  | none => cases u with
    | none => exact rd
    | some _ => exact (show False from r).elim
  | some _ => cases u with
    | none => exact (show False from r).elim
    | some _ => exact r

/-- raw tables of the same keys -/
theorem KV.val {kvs : List (κ × V)} {vs : List (κ × Value)} (r : KV kvs vs) (k : κ) : RelO (valV kvs k) (valueAt vs k) := by
  unfold KV at r
  induction r with
  | nil => exact True.intro
  | @cons p q ps qs h t ih =>
    obtain ⟨h1, h2⟩ := h
    by_cases e : p.1 = k
    · have e' : q.1 = k := h1.symm.trans e
      have b : valueAt (q :: qs) k = some q.2 := by simp [valueAt, List.find?_cons, e']
      rw [valV_pos e, b]; exact h2
    · have e' : ¬ q.1 = k := fun z => e (h1.trans z)
      have b : valueAt (q :: qs) k = valueAt qs k := by simp [valueAt, List.find?_cons, e']
      rw [valV_neg e, b]; exact ih
theorem KV.any {kvs : List (κ × V)} {vs : List (κ × Value)} (r : KV kvs vs) (k : κ) : (kvs.any fun kv => decide (kv.1 = k)) = vs.any fun kv => decide (kv.1 = k) := by
  unfold KV at r
  induction r with
  | nil => rfl
  | cons h t ih => rw [List.any_cons, List.any_cons, ih, h.1]
theorem KV.repl {kvs : List (κ × V)} {vs : List (κ × Value)} (r : KV kvs vs) (k : κ) {y : V} {u : Value} (ry : RelV y u) :
    KV (kvs.map fun kv => if kv.1 = k then (kv.1, y) else kv) (vs.map fun kv => if kv.1 = k then (kv.1, u) else kv) := by
  unfold KV at r ⊢
  induction r with
  | nil => exact .nil
  | @cons p q ps qs h t ih =>
    rw [List.map_cons, List.map_cons]
    refine .cons ?_ ih
    obtain ⟨h1, h2⟩ := h
    by_cases e : p.1 = k
    · rw [if_pos e, if_pos (h1.symm.trans e)]; exact ⟨h1, ry⟩
    · rw [if_neg e, if_neg (fun z => e (h1.trans z))]; exact ⟨h1, h2⟩
theorem KV.put {kvs : List (κ × V)} {vs : List (κ × Value)} (r : KV kvs vs) (k : κ) {y : V} {u : Value} (ry : RelV y u) : KV (putK kvs k y) (stored vs k u) := by
  unfold putK stored
  rw [r.any k]
  by_cases e : (vs.any fun kv => decide (kv.1 = k)) = true
  · rw [if_pos e, if_pos e]; exact r.repl k ry
  · rw [if_neg e, if_neg e]; exact Paired.snoc r ⟨rfl, ry⟩
theorem KV.length {kvs : List (κ × V)} {vs : List (κ × Value)} (r : KV kvs vs) : kvs.length = vs.length := Paired.length r
end


/-! ### a tracked dict, its keys ints and texts or tuples of these -/
theorem kV_is {P : Program} {w : World} {k : Key} {u : Value} (r : RelV (kV k) u) : (mixKind P w).is k u = true := by
  cases k with
  | inl i => obtain ⟨t, e⟩ := (show ∃ t, u = Value.int i t from r); subst e; exact mixKind_int P w i t
  | inr x => obtain ⟨t, e⟩ := (show ∃ t, u = Value.str x t from r); subst e; exact mixKind_str P w x t
theorem items_are {P : Program} {w : World} : ∀ {ks : List Key} {us : List Value}, Vals (ks.map kV) us → ItemsAre (mixKind P w) ks us
  | [], _, r => by rw [List.map_nil] at r; cases r; exact .nil
  | k :: ks, _, r => by
    rw [List.map_cons] at r
    cases r with
    | cons h t => exact .cons (kV_is h) (items_are t)

/-- raw entries of a dict with tuple keys -/
abbrev KT (H : Hp) : List (List Key × V) → List (List Key × Addr × Value) → Prop := Paired fun p q => p.1 = q.1 ∧ H q.2.1 = some (.tup (p.1.map kV)) ∧ RelV p.2 q.2.2
theorem KT.val {H : Hp} {kvs : List (List Key × V)} {xs : List (List Key × Addr × Value)} (r : KT H kvs xs) (k : List Key) : RelO (valV kvs k) ((atKey xs k).map (·.2)) := by
  induction r with
  | nil => exact True.intro
  | @cons p q ps qs h t ih =>
    obtain ⟨h1, _, h2⟩ := h
    by_cases e : p.1 = k
    · have e' : q.1 = k := h1.symm.trans e
      have b : atKey (q :: qs) k = some q.2 := by simp [atKey, List.find?_cons, e']
      rw [valV_pos e, b]; exact h2
    · have e' : ¬ q.1 = k := fun z => e (h1.trans z)
      have b : atKey (q :: qs) k = atKey qs k := by simp [atKey, List.find?_cons, e']
      rw [valV_neg e, b]; exact ih
theorem KT.repl {H : Hp} {kvs : List (List Key × V)} {xs : List (List Key × Addr × Value)} (r : KT H kvs xs) (k : List Key) {y : V} {u : Value} (ry : RelV y u) :
    KT H (kvs.map fun kv => if kv.1 = k then (kv.1, y) else kv) (xs.map (putAt k u)) := by
  induction r with
  | nil => exact .nil
  | @cons p q ps qs h t ih =>
    rw [List.map_cons, List.map_cons]
    refine .cons ?_ ih
    obtain ⟨h1, h2, h3⟩ := h
    unfold putAt
    by_cases e : p.1 = k
    · rw [if_pos e, if_pos (h1.symm.trans e)]; exact ⟨h1, h2, ry⟩
    · rw [if_neg e, if_neg (fun z => e (h1.trans z))]; exact ⟨h1, h2, h3⟩
theorem KT.put {H : Hp} {kvs : List (List Key × V)} {xs : List (List Key × Addr × Value)} (r : KT H kvs xs) (k : List Key) {b : Addr} {y : V} {u : Value} (hb : H b = some (.tup (k.map kV))) (ry : RelV y u) :
    KT H (putK kvs k y) (storedH xs k b u) := by
  have e : (kvs.any fun kv => decide (kv.1 = k)) = (atKey xs k).isSome := by
    rw [valV_any, (r.val k).isSome_eq, Option.isSome_map]
  unfold putK storedH
  rw [e]
  by_cases q : (atKey xs k).isSome = true
  · rw [if_pos q, if_pos q]; exact r.repl k ry
  · rw [if_neg q, if_neg q]; exact Paired.snoc r ⟨rfl, hb, ry⟩
theorem KT.keeps {H H' : Hp} {kvs : List (List Key × V)} {xs : List (List Key × Addr × Value)} (r : KT H kvs xs) (ht : ∀ b ys, H b = some (.tup ys) → H' b = some (.tup ys)) : KT H' kvs xs :=
  Paired.mapP r fun _ _ z => ⟨z.1, ht _ _ z.2.1, z.2.2⟩

section
variable {P : Program} {w : World} {H : Hp} {h : Heap} {a : Addr}
theorem rd_of {u : HO} (ok : HOk P w H h) (e : Rd H a u) : ObjOk P w H h a u := e.ok ok
theorem dk_rd {kvs : List (Key × V)} (ok : HOk P w H h) (e : Rd H a (.dK kvs)) : kvs.length ≤ sizeLine ∧ (a == sysModules) = false ∧ ∃ vs, KV kvs vs ∧ h.DictOf (mixKind P w) a vs :=
  show ObjOk P w H h a (.dK kvs) from rd_of ok e
theorem dk_of {kvs : List (Key × V)} (ok : HOk P w H h) (e : H a = some (.dK kvs)) : kvs.length ≤ sizeLine ∧ (a == sysModules) = false ∧ ∃ vs, KV kvs vs ∧ h.DictOf (mixKind P w) a vs := dk_rd ok (.inl e)
/-- a tracked tuple of ints and texts is a key -/
theorem key_of {ks : List Key} (ok : HOk P w H h) (e : H a = some (.tup (ks.map kV))) : (tupleKind (mixKind P w)).is h ks a := by
  obtain ⟨_, its, r, o, h1, h2, n, h3, _⟩ := (show ObjOk P w H h a (.tup (ks.map kV)) from ok a _ e)
  exact ⟨o, its.toArray, n, h1, h2, h3, by simpa using items_are r⟩
theorem dt_rd {kvs : List (List Key × V)} (ok : HOk P w H h) (e : Rd H a (.dT kvs)) : kvs.length ≤ sizeLine ∧ (a == sysModules) = false ∧
    ∃ xs, KT H kvs xs ∧ h.DictOfH (tupleKind (mixKind P w)) a xs := by
  obtain ⟨z, y, xs, r, o, es, ep, h1, h2, h3, h4, h5⟩ := (show ObjOk P w H h a (.dT kvs) from rd_of ok e)
  refine ⟨z, y, xs, r, o, es, ep, h1, h2, h3, h4, fun x hx => ?_, h5⟩
  have all : ∀ {l : List (List Key × V)} {m : List (List Key × Addr × Value)}, KT H l m → ∀ x ∈ m, (tupleKind (mixKind P w)).is h x.1 x.2.1 := by
    intro l m q
    induction q with
    | nil => intro x hx; exact nomatch hx
    | @cons p q ps qs hq t ih =>
      intro x hx
      rcases List.mem_cons.mp hx with e | hx
      · subst e
        exact key_of ok (by rw [← hq.1]; exact hq.2.1)
      · exact ih x hx
  exact all r x hx
theorem dt_of {kvs : List (List Key × V)} (ok : HOk P w H h) (e : H a = some (.dT kvs)) : kvs.length ≤ sizeLine ∧ (a == sysModules) = false ∧
    ∃ xs, KT H kvs xs ∧ h.DictOfH (tupleKind (mixKind P w)) a xs := dt_rd ok (.inl e)
end

/-- what the dict at a holds at the key y -/
def DGet (H : Hp) (a : Addr) (y : V) (r : Option V) : Prop :=
  (∃ kvs k, Rd H a (.dK kvs) ∧ y = kV k ∧ r = valV kvs k) ∨ ∃ kvs k b, Rd H a (.dT kvs) ∧ y = .ref b ∧ H b = some (.tup (k.map kV)) ∧ r = valV kvs k
/-- the heap behind a[y] = v -/
def DPut (H : Hp) (a : Addr) (y v : V) (H' : Hp) : Prop :=
  (∃ kvs k, H a = some (.dK kvs) ∧ y = kV k ∧ kvs.length < sizeLine ∧ H' = upd H a (.dK (putK kvs k v))) ∨
  ∃ kvs k b, H a = some (.dT kvs) ∧ y = .ref b ∧ H b = some (.tup (k.map kV)) ∧ kvs.length < sizeLine ∧ H' = upd H a (.dT (putK kvs k v))
theorem DGet.k {H : Hp} {a : Addr} {kvs : List (Key × V)} {k : Key} (e : H a = some (.dK kvs)) : DGet H a (kV k) (valV kvs k) := .inl ⟨kvs, k, .inl e, rfl, rfl⟩
theorem DPut.k {H : Hp} {a : Addr} {kvs : List (Key × V)} {k : Key} {v : V} (e : H a = some (.dK kvs)) (hl : kvs.length < sizeLine) : DPut H a (kV k) v (upd H a (.dK (putK kvs k v))) := .inl ⟨kvs, k, e, rfl, hl, rfl⟩
section
variable {X : Cx} {pins : List (Addr × Obj)} {σ : St} {H : Hp} {s : Shared} {a : Addr} {y v : V} {u r : Value} {o : Option V} {A : Around} {E : Value → Shared → Prop}

theorem Inv.big (I : Inv X pins σ H s) : sysModules < s.heap.objs.size := by
  have h : mainGlobals < s.heap.objs.size := (I.mod.glob.keeps I.bk).lt
  exact Nat.lt_trans (by decide) h

/-- d[y], there -/
theorem d_getItem {Q : Value → Shared → Prop} (hu : A.units + 1 < cLine) (I : Inv X pins σ H s) (g : DGet H a y (some v)) (ry : RelV y u) (h : ∀ w' s', Inv X pins σ H s' → RelV v w' → Q w' s') :
    wpAny (model X.prog X.w) A (getItem (.ref a) u) Q E s := by
  rcases g with ⟨kvs, k, e, ey, l⟩ | ⟨kvs, k, b, e, ey, eb, l⟩
  · subst ey
    obtain ⟨z, hd, vs, rel, dd⟩ := dk_rd I.hok e
    obtain ⟨w', hw, rw'⟩ := RelO.some_of (v := v) (o := valueAt vs k) (by rw [l]; exact rel.val k)
    exact wpAny_getItem_of (kV_is ry) dd.mapOf hw (h w' _ (I.tok _) rw')
  · subst ey
    cases (show u = Value.ref b from ry)
    obtain ⟨z, hd, xs, rel, dd⟩ := dt_rd I.hok e
    obtain ⟨w', hw, rw'⟩ := RelO.some_of (v := v) (o := (atKey xs k).map (·.2)) (by rw [l]; exact rel.val k)
    obtain ⟨p, hp, hp2⟩ := Option.map_eq_some_iff.mp hw
    refine wpAny_getItem_heap (tupleKind_room_in1 hu) (key_of I.hok eb) dd hp ?_
    rw [hp2]
    exact h w' _ (I.tok _) rw'
/-- a dict's object is replaced -/
theorem d_write {h' : Heap} {t' : Nat} {ob : HO} (I : Inv X pins σ H s) (mu : Mut (H a)) (hs : Heap.SameBut a s.heap h') (he : ∃ q, h'.get? a = some q) (new : ObjOk X.prog X.w (upd H a ob) h' a ob) :
    Inv X pins σ (upd H a ob) { s with heap := h', toks := t' } :=
  I.write (x := a) (e := a) mu (.inl rfl) (fun b q hb z => (hs.2 b hb).trans z) he new
theorem dk_new {P : Program} {w : World} {H' : Hp} {h' : Heap} {kvs : List (Key × V)} {vs : List (Key × Value)} (z : kvs.length ≤ sizeLine) (hd : (a == sysModules) = false) (rel : KV kvs vs) (dd : h'.DictOf (mixKind P w) a vs) :
    ObjOk P w H' h' a (.dK kvs) := ⟨z, hd, vs, rel, dd⟩
/-- d[y] = v -/
theorem d_setItem {H' : Hp} {Q : Unit → Shared → Prop} (hu : A.units + 1 < cLine) (I : Inv X pins σ H s) (g : DPut H a y v H') (ry : RelV y u) (rv : RelV v r) (h : ∀ s', Inv X pins σ H' s' → Q () s') :
    wpAny (model X.prog X.w) A (setItem (.ref a) u r) Q E s := by
  rcases g with ⟨kvs, k, e, ey, l, eH⟩ | ⟨kvs, k, b, e, ey, eb, l, eH⟩
  · subst ey eH
    obtain ⟨z, hd, vs, rel, dd⟩ := dk_of I.hok e
    have hz : vs.length ≤ sizeLine := by rw [← rel.length]; exact z
    have hl : (putK kvs k v).length ≤ sizeLine := by have := length_putK kvs k v; omega
    refine wpAny_setItem_pairs (hsz := hz) (kV_is ry) dd fun h' dd' hs => h _ ?_
    have he : ∃ q, h'.get? a = some q := let ⟨q, _, _, hq, _⟩ := dd'; ⟨q, hq⟩
    exact d_write I (by rw [e]; exact True.intro) hs he (dk_new hl hd (rel.put k rv) dd')
  · subst ey eH
    cases (show u = Value.ref b from ry)
    obtain ⟨z, hd, xs, rel, dd⟩ := dt_of I.hok e
    have hz : xs.length ≤ sizeLine := by rw [← Paired.length rel]; exact z
    have hl : (putK kvs k v).length ≤ sizeLine := by have := length_putK kvs k v; omega
    refine wpAny_setItem_heap (hsz := hz) (tupleKind_room_in1 hu) (key_of I.hok eb) dd fun h' dd' hs => h _ ?_
    obtain ⟨q, es, ep, hq, h2, h3, h4, _, h5⟩ := dd'
    refine d_write I (by rw [e]; exact True.intro) hs ⟨q, hq⟩ ⟨hl, hd, _, (rel.put k eb rv).keeps fun c ys ec => ?_, q, es, ep, hq, h2, h3, h4, h5⟩
    rw [upd_ne (ne_of ec e (fun z => nomatch z))]
    exact ec
end

section
variable {X : Cx} {pins : List (Addr × Obj)} {σ : St} {H : Hp} {s : Shared} {a : Addr} {kvs : List (Key × V)} {k : Key} {u : Value} {A : Around} {E : Value → Shared → Prop}
end


/-! ### readings and rules -/
/-- the element of a subscription, not a slice -/
def NoSl (i : Expr) : Prop := ∀ ov iv, subscripted i false ov iv = operate [ov, iv] (getItem ov iv)
theorem subD_of {prog : Program} {w : World} {A : Around} {E : Value → Shared → Prop} {s : Shared} {env : Env} {value slice : Expr} {pos : Pos} {T id : String} {Q : Value → Shared → Prop}
    (hl : typeLookup (.type T) "__getitem__" = pure (some (.builtin id))) (hs : NoSl slice)
    (h : wpAny (model prog w) A (eval value env) (fun o s₁ => wpAny (model prog w) A (eval slice env) (fun i s₂ => s₂.TypeIs o T ∧ wpAny (model prog w) A (getItem o i) Q E s₂) E s₁) E s) :
    wpAny (model prog w) A (eval (.Subscript value slice pos) env) Q E s := by
  refine Subscript_ (wpAny_mono h (fun o s₁ h₁ => wpAny_mono h₁ (fun i s₂ h₂ => ?_) fun _ _ x => x) fun _ _ x => x)
  obtain ⟨hT, h₂⟩ := h₂
  unfold subscriptTail
  refine wpAny_bind ?_
  rw [getitemInPython_of_ne hT.not_modules]
  refine wpAny_bind (wpAny_specialOf hT hl ?_)
  have fin : wpAny (model prog w) A (subscripted slice false o i) (fun r s₃ => wpAny (model prog w) A (letTemporaryGo value o r >>= fun _ => pure r) Q E s₃) E s₂ := by
    rw [hs o i]
    exact wpAny_operating (wpAny_mono h₂ (fun r s₃ h₃ => wpAny_bind (wpAny_letTemporaryGo (wpAny_pure h₃))) fun _ _ x => x)
  first
    | exact wpAny_pure (wpAny_bind fin)
    | exact wpAny_bind (wpAny_pure (wpAny_bind fin))
    | exact wpAny_bind fin

theorem dict_typeIs {X : Cx} {pins : List (Addr × Obj)} {σ : St} {H : Hp} {s : Shared} {a : Addr} {y : V} {o : Option V} (I : Inv X pins σ H s) (g : DGet H a y o) : s.TypeIs (.ref a) "dict" := by
  rcases g with ⟨kvs, k, e, _, _⟩ | ⟨kvs, k, b, e, _, _, _⟩
  · obtain ⟨_, _, vs, _, dd⟩ := dk_rd I.hok e
    exact dd.typeIs
  · obtain ⟨_, _, xs, _, dd⟩ := dt_rd I.hok e
    exact dd.typeIs
/-- d[y] -/
def tDGet (td ty : TE) : TE := fun σ H Q => td σ H fun x H1 => ty σ H1 fun y H2 => ∃ a v, x = .ref a ∧ DGet H2 a y (some v) ∧ Q v H2
/-- d[y] = v -/
def sDPut (td ty tv : TE) : TS := fun D σ H => tv σ H fun v H1 => td σ H1 fun x H2 => ty σ H2 fun y H3 => ∃ a H4, x = .ref a ∧ DPut H3 a y v H4 ∧ D.nx σ H4
section
variable {X : Cx} {o i e value : Expr} {pos pos' tpos : Pos} {td ty tv : TE}
theorem pe_dget (hu : X.A.units + 1 < cLine) (ho : PE X o td) (hi : PE X i ty) (hs : NoSl i) : PE X (.Subscript o i pos) (tDGet td ty) := by
  intro pins s σ H Q I h
  refine subD_of PySem.F.slot_dict_getitem.lookup hs (thn (ho pins s σ H _ I h) fun u s1 ⟨x, H1, I1, rx, q1⟩ => thn (hi pins s1 σ H1 _ I1 q1) fun iv s2 ⟨y, H2, I2, ry, a, v, ex, g, q2⟩ => ?_)
  subst ex
  obtain rfl : u = Value.ref a := rx
  exact ⟨dict_typeIs I2 g, d_getItem hu I2 g ry fun w' s3 I3 rw' => ⟨v, H2, I3, rw', q2⟩⟩
theorem ps_dput (hu : X.A.units + 1 < cLine) (ho : PE X o td) (hi : PE X i ty) (hv : PE X value tv) (hs : swapsWith value (some (.Subscript o i pos')) pos.line X.env = pure false) :
    PS X (.Assign [.Subscript o i pos'] value pos) (sDPut td ty tv) := by
  intro pins s σ H D I h
  refine wpAny_Assign_Subscript (thn (hv pins s σ H _ I h) fun r s1 ⟨v, H1, I1, rv, q1⟩ => thn (ho pins s1 σ H1 _ I1 q1) fun u s2 ⟨x, H2, I2, rx, q2⟩ => thn (hi pins s2 σ H2 _ I2 q2) fun iv s3 ⟨y, H3, I3, ry, a, H4, ex, g, q3⟩ => ?_) hs
  subst ex
  obtain rfl : u = Value.ref a := rx
  exact d_setItem hu I3 g ry rv fun s4 I4 => ⟨σ, H4, I4, q3⟩
end


/-! ### displays -/
theorem dk_empty {P : Program} {w : World} {H : Hp} (h : Heap) (hb : sysModules < h.objs.size) : ObjOk P w H (h.push { cls := .type "dict", data := .dict #[] }) h.objs.size (.dK []) :=
  ⟨Nat.zero_le _, beq_eq_false_iff_ne.mpr (Ne.symm (Nat.ne_of_lt hb)), [], .nil, Heap.DictOf.new h⟩
/-- {}, to be a dict of the kind that is wanted -/
def tDNewK : TE := fun _ H Q => ∀ p, H p = none → Q (.ref p) (upd H p (.dK []))
section
variable {X : Cx} {pos : Pos}
theorem pe_dnewK : PE X (.Dict [] [] pos) tDNewK := fun pins s σ H Q I h =>
  wpAny_Dict_empty ⟨.ref s.heap.objs.size, _, I.laid (a := s.heap.objs.size) (o := .dK []) (t' := s.toks) (fun _ _ q => Heap.get?_push_of_some _ q) (Nat.le_refl _) (dk_empty s.heap I.big), rfl, h _ (I.hok.fresh (Nat.le_refl _))⟩
end

/-- the pairs of a display, from the left -/
def tPairs : List (TE × TE) → St → Hp → (List (V × V) → Hp → Prop) → Prop
  | [], _, H, Q => Q [] H
  | (tk, tv) :: r, σ, H, Q => tk σ H fun x H1 => tv σ H1 fun y H2 => tPairs r σ H2 fun ps H3 => Q ((x, y) :: ps) H3
abbrev VV : List (V × V) → List (Value × Value) → Prop := Paired fun p q => RelV p.1 q.1 ∧ RelV p.2 q.2
def PPs (X : Cx) (pos : Pos) (keys : List (Option Expr)) (values : List Expr) (trs : List (TE × TE)) : Prop :=
  ∀ (pins : List (Addr × Obj)) (s : Shared) (σ : St) (H : Hp) (Q : List (V × V) → Hp → Prop), Inv X pins σ H s → tPairs trs σ H Q →
    wpAny (model X.prog X.w) X.A (evalPairs (pairTrees keys values X.env pos)) (fun vs s' => ∃ ps H', Inv X pins σ H' s' ∧ VV ps vs ∧ Q ps H') X.xe s
theorem pps_nil {X : Cx} {pos : Pos} : PPs X pos [] [] [] := fun pins s σ H Q I h => pairTrees_nil_walk ⟨[], H, I, .nil, h⟩
theorem pps_cons {X : Cx} {pos : Pos} {k v : Expr} {ks : List (Option Expr)} {vs : List Expr} {tk tv : TE} {trs : List (TE × TE)} (hk : PE X k tk) (hv : PE X v tv) (hr : PPs X pos ks vs trs) :
    PPs X pos (some k :: ks) (v :: vs) ((tk, tv) :: trs) := fun pins s σ H Q I h =>
  pairTrees_cons_walk (thn (hk pins s σ H _ I h) fun u s1 ⟨x, H1, I1, rx, q1⟩ => thn (hv pins s1 σ H1 _ I1 q1) fun w2 s2 ⟨y, H2, I2, ry, q2⟩ =>
    thn (hr pins s2 σ H2 _ I2 q2) fun ws s3 ⟨ps, H3, I3, rel, q3⟩ => ⟨(x, y) :: ps, H3, I3, .cons ⟨rx, ry⟩ rel, q3⟩)

def mergeK (kvs more : List (Key × V)) : List (Key × V) := more.foldl (fun acc kv => putK acc kv.1 kv.2) kvs
theorem KV.merge : ∀ {more : List (Key × V)} {rs : List (Key × Value)} {kvs : List (Key × V)} {vs : List (Key × Value)}, KV more rs → KV kvs vs → KV (mergeK kvs more) (merged vs rs) := by
  intro more rs kvs vs r
  unfold KV at r
  induction r generalizing kvs vs with
  | nil => intro q; exact q
  | @cons p q ps qs h t ih =>
    intro r0
    have e : KV (putK kvs p.1 p.2) (stored vs q.1 q.2) := by
      have := r0.put p.1 h.2
      rw [← h.1]; exact this
    exact ih e
theorem length_mergeK : ∀ (more kvs : List (Key × V)), (mergeK kvs more).length ≤ kvs.length + more.length
  | [], kvs => by show kvs.length ≤ kvs.length + 0; omega
  | p :: r, kvs => by
    have h1 := length_mergeK r (putK kvs p.1 p.2)
    have h2 := length_putK kvs p.1 p.2
    show (mergeK (putK kvs p.1 p.2) r).length ≤ _
    rw [List.length_cons]; omega
theorem carries_of {P : Program} {w : World} : ∀ {kvs : List (Key × V)} {ws : List (Value × Value)}, VV (kvs.map fun kv => (kV kv.1, kv.2)) ws → ∃ rs, Carries (mixKind P w) ws rs ∧ KV kvs rs
  | [], _, r => by rw [List.map_nil] at r; cases r; exact ⟨[], True.intro, .nil⟩
  | p :: kvs, _, r => by
    rw [List.map_cons] at r
    cases r with
    | @cons a b as bs h t =>
      obtain ⟨rs, c, q⟩ := carries_of (P := P) (w := w) t
      obtain ⟨b1, b2⟩ := b
      exact ⟨(p.1, b2) :: rs, ⟨kV_is h.1, rfl, c⟩, .cons ⟨rfl, h.2⟩ q⟩
/-- {k: v, ..} with keys ints and texts; the new dict stands empty while the pairs are made -/
def tDisp (trs : List (TE × TE)) : TE := fun σ H Q => ∀ p, H p = none → tPairs trs σ (upd H p (.dK [])) fun ps H2 => H2 p = some (.dK []) ∧ ∃ kvs : List (Key × V), ps = kvs.map (fun kv => (kV kv.1, kv.2)) ∧ kvs.length ≤ 15 ∧ Q (.ref p) (upd H2 p (.dK (mergeK [] kvs)))
theorem pe_disp {X : Cx} {pos : Pos} {keys : List (Option Expr)} {values : List Expr} {trs : List (TE × TE)} (h : PPs X pos keys values trs) (hall : keys.all (·.isSome) = true) (hl : keys.length = values.length) (h0 : keys ≠ [])
    (h15 : keys.length ≤ 15) : PE X (.Dict keys values pos) (tDisp trs) := by
  intro pins s σ H Q I q
  have hn := I.hok.fresh (Nat.le_refl s.heap.objs.size)
  have I1 := I.laid (a := s.heap.objs.size) (o := .dK []) (h' := s.heap.push { cls := .type "dict", data := .dict #[] }) (t' := s.toks) (fun _ _ q => Heap.get?_push_of_some _ q) (Nat.le_refl _) (dk_empty s.heap I.big)
  refine wpAny_Dict_walk (knd := mixKind X.prog X.w) hall hl h0 h15 (thn (h pins _ σ _ _ I1 (q _ hn)) fun ws s2 ⟨ps, H2, I2, rel, e, kvs, ep, lk, q2⟩ => ?_)
  subst ep
  obtain ⟨rs, c, rk⟩ := carries_of (P := X.prog) (w := X.w) rel
  obtain ⟨z, hd, vs0, r0, dd⟩ := dk_of I2.hok e
  cases r0
  refine ⟨rs, c, dd, fun h' dd' hs => ⟨.ref s.heap.objs.size, _, ?_, rfl, q2⟩⟩
  have hz : (mergeK [] kvs).length ≤ sizeLine := by
    have h1 := length_mergeK kvs []
    rw [List.length_nil] at h1
    rw [sizeLine_eq]; omega
  have he : ∃ q, h'.get? s.heap.objs.size = some q := let ⟨q, _, _, hq, _⟩ := dd'; ⟨q, hq⟩
  exact d_write I2 (by rw [e]; exact True.intro) hs he (dk_new hz hd (rk.merge .nil) dd')


/-! ### methods -/
structure M2 (X : Cx) (o : Expr) (m : Str) (apos : Pos) (e f : Expr) (cpos : Pos) : Prop where
  base : attributeBase o m X.env (eval o X.env) = eval o X.env
  few : ((backTo cpos (starEach [e, f] X.env)).all (fun x => !x.1) && (backToKw cpos (keywordEach [] X.env)).all (fun x => x.1.isSome)
    && decide (([e, f] : List Expr).length + ([] : List Keyword).length + (if ([] : List Keyword).isEmpty then 0 else 1) < 30)) = true
  line : (apos.endLine == cpos.line) = true
  trees : backTo cpos (starEach [e, f] X.env) = [(false, eval e X.env), (false, eval f X.env)]

/-- a is a dict, whatever its keys -/
def IsD (H : Hp) (a : Addr) : Prop := (∃ kvs, Rd H a (.dK kvs)) ∨ ∃ kvs, Rd H a (.dT kvs)
theorem isD_at {X : Cx} {pins : List (Addr × Obj)} {σ : St} {H : Hp} {s : Shared} {a : Addr} (I : Inv X pins σ H s) (d : IsD H a) :
    s.TypeIs (.ref a) "dict" ∧ (∀ b, Value.ref a = .ref b → ∃ ob, s.heap.get? b = some ob ∧ ob.dict = none) ∧ (a == sysModules) = false := by
  rcases d with ⟨kvs, e⟩ | ⟨kvs, e⟩
  · obtain ⟨_, hd, vs, _, dd⟩ := dk_rd I.hok e
    refine ⟨dd.typeIs, fun b q => ?_, hd⟩
    cases q
    obtain ⟨ob, _, _, h1, h2, _⟩ := dd
    exact ⟨ob, h1, h2.2.1⟩
  · obtain ⟨_, hd, xs, _, dd⟩ := dt_rd I.hok e
    refine ⟨dd.typeIs, fun b q => ?_, hd⟩
    cases q
    obtain ⟨ob, _, _, h1, h2, _⟩ := dd
    exact ⟨ob, h1, h2.2.1⟩

section
variable {X : Cx} {pins : List (Addr × Obj)} {σ : St} {H : Hp} {s : Shared} {a : Addr} {y d : V} {u r : Value} {o : Option V} {A : Around} {E : Value → Shared → Prop}
/-- d.get(y, x) -/
theorem d_get2 {Q : Value → Shared → Prop} (hu : A.units + 1 < cLine) (I : Inv X pins σ H s) (g : DGet H a y o) (ry : RelV y u) (rd : RelV d r) (h : ∀ w' s', Inv X pins σ H s' → RelV (o.getD d) w' → Q w' s') :
    wpAny (model X.prog X.w) A (call (.builtin "dict.get") [.ref a, u, r]) Q E s := by
  rcases g with ⟨kvs, k, e, ey, l⟩ | ⟨kvs, k, b, e, ey, eb, l⟩
  · subst ey
    obtain ⟨z, hd, vs, rel, dd⟩ := dk_rd I.hok e
    refine call_meetsIn PySem.F.slot_dict_get dd.typeIs PySem.F.entry_dict_get (PySem.F.args_dict_get_3 _ _ _) (meets_dict_get_default (mixKind X.prog X.w) a (kV_is ry) hd r) ⟨_, dd.mapOf, h _ _ (I.tok _) ?_⟩
    rw [l]
    exact (rel.val k).getD rd
  · subst ey
    cases (show u = Value.ref b from ry)
    obtain ⟨z, hd, xs, rel, dd⟩ := dt_rd I.hok e
    refine call_meetsIn PySem.F.slot_dict_get dd.typeIs PySem.F.entry_dict_get (PySem.F.args_dict_get_3 _ _ _) (meetsH_dict_get_default (tupleKind (mixKind X.prog X.w)) a b hd r) ⟨tupleKind_room_in1 hu, k, xs, key_of I.hok eb, dd, h _ _ (I.tok _) ?_⟩
    rw [l]
    exact (rel.val k).getD rd
end

def tDGet2 (td ty tx : TE) : TE := fun σ H Q => td σ H fun x H1 => ∃ a, x = .ref a ∧ IsD H1 a ∧ ty σ H1 fun y H2 => tx σ H2 fun z H3 => ∃ o, DGet H3 a y o ∧ Q (o.getD z) H3
section
variable {X : Cx} {o e f : Expr} {apos cpos : Pos} {td ty tx : TE}
theorem pe_dget2 (hu : X.A.units + 1 < cLine) (ho : PE X o td) (he : PE X e ty) (hf : PE X f tx) (m : M2 X o "get" apos e f cpos) : PE X (.Call (.Attribute o "get" apos) [e, f] [] cpos) (tDGet2 td ty tx) := by
  intro pins s σ H Q I h
  refine wpAny_Call_method m.base m.few m.line PySem.F.plainAttrs_dict PySem.F.slot_dict_get PySem.F.type_dict_get (thn (ho pins s σ H _ I h) fun u s1 ⟨x, H1, I1, rx, a, ex, d, q1⟩ => ?_)
  subst ex
  obtain rfl : u = Value.ref a := rx
  obtain ⟨t1, t2, _⟩ := isD_at I1 d
  refine ⟨t1, t2, ?_⟩
  rw [m.trees]
  refine Calls.callWith_builtin rfl (Calls.evalArgs_plain (Calls.spliced_cons (thn (he pins s1 σ H1 _ I1 q1) fun iv s2 ⟨y, H2, I2, ry, q2⟩ =>
    Calls.spliced_cons (thn (hf pins s2 σ H2 _ I2 q2) fun fv s3 ⟨z, H3, I3, rz, ov, g, q3⟩ => Calls.spliced_nil ?_))))
  exact d_get2 hu I3 g ry rz fun w' s4 I4 rw' => ⟨_, H3, I4, rw', q3⟩
end

/-! ### dict(d): a copy -/
section
variable {X : Cx} {pins : List (Addr × Obj)} {σ : St} {H : Hp} {s : Shared} {a : Addr} {kvs : List (Key × V)} {A : Around} {E : Value → Shared → Prop}
end


section
variable {X : Cx} {pins : List (Addr × Obj)} {σ : St} {H : Hp} {s : Shared} {a : Addr} {y : V} {u : Value} {A : Around} {E : Value → Shared → Prop}
end
end L2

namespace Att
open PySem PySem.W PySem.Calls PyProof.Rows

/-! ### the script -/
theorem ints_of_wellAll {P : Params} {h : Heap} : ∀ (ns : List Int) (vs : List Value), WellAll P h vs (ns.map WData.int) → IntsAre vs ns := by
  intro ns
  induction ns with
  | nil =>
    intro vs w
    rw [List.map_nil] at w
    cases w
    exact .nil
  | cons n ns ih =>
    intro vs w
    rw [List.map_cons] at w
    cases w with
    | cons a b =>
      cases a
      exact .cons _ _ (ih _ b)

theorem script_of {l : OpenLaw} {n : Nat} (hn : l.most = some n) {P : Params} {h : Heap} {args : List WData} {vals : List Value}
    (hpre : l.row.toRowW.claim.pre args = true) (hwl : WellAll P h vals args) :
    ∃ a vs ns, vals = [Value.ref a] ∧ args = [WData.list (ns.map WData.int)] ∧ h.get? a = some { cls := .type "list", data := .seq vs.toArray } ∧ IntsAre vs ns ∧ ns.length ≤ n := by
  have hsh : WShape.hasAll [] args [.list .int] = true := (pre_splitW hpre).1
  have hc : l.pre.holds [] { args := args } = true := (pre_splitW hpre).2
  obtain ⟨d, r, rfl, h1, h2⟩ := hasAllW_cons hsh
  obtain rfl := hasAllW_nil h2
  obtain ⟨xs, rfl, h3⟩ := hasW_list h1
  obtain ⟨ns, rfl⟩ := items_int h3
  have hlen : ns.length ≤ n := by
    unfold OpenLaw.pre at hc
    have h4 : (WTm.not (.lt (.lit (.int (n : Int))) (.len (.arg 0)))).holds [] { args := [.list (ns.map .int)] } = true := by
      have h4 := (holds_andW hc).1
      rw [hn] at h4
      exact h4
    have h5 := condW_of h4 (w_not (w_lt w_lit (w_len_list (w_arg rfl))))
    rw [List.length_map] at h5
    refine Nat.le_of_not_lt fun q => ?_
    have q' : (n : Int) < ((ns.length : Nat) : Int) := by omega
    first
      | (rw [decide_eq_true q'] at h5; exact absurd h5 (by decide))
      | (simp at h5; omega)
  cases hwl with
  | cons w1 w2 =>
    cases w2
    cases w1 with
    | list ho hall => exact ⟨_, _, ns, rfl, rfl, ho, ints_of_wellAll ns _ hall, hlen⟩

theorem post_true (l : OpenLaw) (args : List WData) : l.row.toRowW.claim.post args (.bool true) args = true :=
  postW_of (r := l.row.toRowW) (X := (true == true))
    (show WShape.has [] (.bool true) .bool = true by first | rfl | decide | simp [WShape.has, WShape.arms, WShape.armsAll])
    (show (WTm.eq .res (.lit (.bool true))).value [] { args := args, res := some (.bool true), after := args } = some (.bool (true == true)) from w_eq_bool (w_res rfl) w_lit) rfl

/-! ### the attachment: holds_open's last premise (the goal 'hc' behind k_head) from a wpAny of the law's body -/
/-- the same from a codeAny of the CALL (for a layer whose function contracts speak of calls) -/
theorem attach_call {l : OpenLaw} {n : Nat} {q : Program} {loose : List Str} {XP : (Str → Option Value) → Heap → Prop} {YP : World → Heap → Prop} {d : DefRec}
    (hn : l.most = some n) (hdf : d.params.defaults = [])
    (call : ∀ (w : World) (s₀ s₁ : Shared) (mg mb : Str → Option Value) (fa : Addr) (o : Obj) (pm cd doc : Value) (a : Addr) (vs : List Value) (ns : List Int),
      Ground q loose [] XP w s₀ mg mb s₁.heap → YP w s₁.heap →
      s₁.heap.get? fa = some o → o.data = .func (docDef d.name d.params d.body d.scope pm cd doc) → s₁.heap.CodeRec cd d.name → mg d.name = some (.ref fa) →
      s₁.heap.get? a = some { cls := .type "list", data := .seq vs.toArray } → IntsAre vs ns → ns.length ≤ n → s₁.gens = #[] →
      codeAny (model l.prog w) callerA (.call (.ref fa) ⟨[.ref a], []⟩) (fun r s' => r = .ok (.ret (.bool true)) ∧ OldK s₁.heap s'.heap ∧ s'.os = s₁.os ∧ AllBare s'.gens) s₁) :
    WalkO q loose XP YP l.row.toRowW d [] (fun f vs => PySem.call f vs) := by
  intro w s₀ s₁ mg mb G Y fa o pm cd doc dV kV ho hd hcd hD hmg hg args vals as hpre hlay hrd hwl hlo
  obtain rfl : dV = .none := Dflts.none hD hdf
  obtain rfl : kV = .none := Dflts.noKw hD
  obtain ⟨a, vs, ns, rfl, rfl, hobj, hints, hlen⟩ := script_of hn hpre hwl
  refine enter_call (codeAny_mono (call w s₀ s₁ mg mb fa o pm cd doc a vs ns G Y ho (fd_plain hd) hcd hmg hobj hints hlen hg) fun r s' hq => ?_)
  obtain ⟨rfl, h2, h3, h4⟩ := hq
  exact ⟨.inl ⟨.bool true, .bool true, [], rfl, fun _ => rfl, .bool true, post_true l _, fun _ => ⟨List.Pairwise.nil, fun _ hm => (nomatch hm)⟩⟩, h2, h3, h4⟩

/-! ### rules over ANY heap (no ledger) from facts about the written part K: the library's own take a ledger (News) for what they write -/
section
variable {prog : Program} {w : World} {A : Around} {E : Value → Shared → Prop} {s : Shared} {K : Frag}

/-! the whole heap as the ledger: makes every rule that writes through a ledger a rule over any heap -/
end
end Att

namespace L2
open PySem PySem.Spec PyProof.Rows

theorem vals_ints : ∀ {vs : List Value} {ns : List Int}, IntsAre vs ns → Vals (ns.map V.int) vs
  | _, _, .nil => .nil
  | _, _, .cons n t h => .cons ⟨t, rfl⟩ (vals_ints h)

/-- nothing is tracked but the script, known to the object (or it is an object of the module) -/
def Only (H : Hp) : Prop := ∀ b, H b = none ∨ ∃ o xs, H b = some (.frz o (.lst xs))

/-- THE HEAD: the law's promise, at the heap behind the top. F, the promise of the law's def, may use that base is part of the heap (so K.In base, base.Ns mainGlobals mg stand in Mod) -/
theorem law_call {P : Program} {w : World} {K : PySem.W.Frag} {mg mb : Str → Option Value} {CX : CXT} {k : Nat} {fa a : Addr} {fd : FuncData} {x : Str} {sp : Sp} {s₁ : Shared} {vs : List Value} {ns : List Int}
    (KX : K.In s₁.heap) (hns : s₁.heap.Ns mainGlobals mg) (hb : s₁.heap.Ns builtinsNs mb) (hbb : ∀ x : Str, x ≠ "__name__" → mb x = bootBuiltins x) (hlim : s₁.heap.NoLimit) (hg : s₁.gens = #[])
    (ha : s₁.heap.get? a = some { cls := .type "list", data := .seq vs.toArray }) (hi : IntsAre vs ns) (hl : ns.length ≤ sizeLine) (hr : Room k callerA)
    (F : ∀ base : Heap, K.In base → base.Ns mainGlobals mg → FnOk P w K mg base CX k fa fd [x] sp) (hbind : ∀ (s : Shared) (u : Value), BindsTo s fd ⟨[u], []⟩ [(x, u)])
    (hsp : ∀ H : Hp, Only H → SqL K H a (ns.map V.int) → sp [.ref a] H (fun v _ => v = .bl true) fun _ _ _ => False)
    (hCX : ∀ H e s', CX [] H s₁ (fun _ _ _ => False) e s' → False) :
    codeAny (model P w) callerA (.call (.ref fa) ⟨[.ref a], []⟩) (fun r s' => r = .ok (.ret (.bool true)) ∧ OldK s₁.heap s'.heap ∧ s'.os = s₁.os ∧ AllBare s'.gens) s₁ := by
  have rv := vals_ints hi
  have lenV := hi.length
  -- from an abstract heap in which nothing but the script may be tracked
  have core : ∀ H : Hp, Only H → SqL K H a (ns.map V.int) → HOk P w H s₁.heap → (∀ b, H b ≠ none → b = a) → (H a ≠ none → K.lookup a = none) →
      codeAny (model P w) callerA (.call (.ref fa) ⟨[.ref a], []⟩) (fun r s' => r = .ok (.ret (.bool true)) ∧ OldK s₁.heap s'.heap ∧ s'.os = s₁.os ∧ AllBare s'.gens) s₁ := by
    intro H hO hS hok hA hK
    have base_of : ∀ {b : Addr} {o : Obj}, s₁.heap.get? b = some o → H b = none → (hidT s₁.heap H).get? b = some o := fun e n => hidT_get e n
    have noA : ∀ {b : Addr} {o : Obj} {es : Array DictEntry} {ep : Nat}, s₁.heap.get? b = some o → o.data = .dict es ep → H b = none := fun {b o es ep} e d => by
      cases q : H b with
      | none => rfl
      | some u =>
        have e' : b = a := hA b (by rw [q]; simp)
        subst e'
        rw [ha] at e; cases e
        have d' : Data.seq vs.toArray _ = Data.dict es ep := d
        cases d'
    have nsK : ∀ {b : Addr} {m : Str → Option Value}, s₁.heap.Ns b m → (hidT s₁.heap H).Ns b m := fun {b m} ⟨o, es, ep, e, d, r⟩ => ⟨o, es, ep, base_of e (noA e d), d, r⟩
    have hKb : K.In (hidT s₁.heap H) := fun b o e => base_of (KX b o e) (by
      cases q : H b with
      | none => rfl
      | some u =>
        have e' : b = a := hA b (by rw [q]; simp)
        subst e'
        rw [hK (by rw [q]; simp)] at e; cases e)
    have hM : Mod K mg (hidT s₁.heap H) := ⟨hKb, nsK hns, ⟨mb, nsK hb, hbb⟩, let ⟨mc, h1, h2⟩ := hlim; ⟨mc, nsK h1, h2⟩⟩
    have e0 : Env0 P w K mg (hidT s₁.heap H) callerA [] s₁ H := ⟨rfl, hM, fun b o e => of_hidT e, Nat.le_of_eq (hidT_size _ _), trivial, fun b hb => absurd (show b ∈ ([] : List Addr) from hb) (by simp), hok, .of_eq hg⟩
    refine codeAny_mono ((F _ hKb (nsK hns)).run callerA [] s₁ H ⟨[.ref a], []⟩ [.ref a] [.ref a] _ _ hr e0 (hbind s₁ (.ref a)) (.cons rfl .nil) (hsp H hO hS)) fun r s' h => ?_
    cases r with
    | error e => exact (hCX H e s' h).elim
    | ok fl =>
      cases fl with
      | next => exact False.elim h
      | brk => exact False.elim h
      | cont => exact False.elim h
      | ret u =>
        obtain ⟨v, H', os, bare, un, hok', r', q⟩ := h
        have q' : v = .bl true := q
        subst q'
        obtain rfl : u = Value.bool true := r'
        refine ⟨rfl, OldK.of_keep fun b o e => ?_, os, bare⟩
        cases q : H b with
        | none => exact un.keep b o e q (by intro z; exact absurd (show b ∈ ([] : List Addr) from z) (by simp)) (by simp)
        | some u =>
          rcases hO b with z | ⟨ob, xs, z⟩
          · rw [q] at z; cases z
          · have z2 := un.frzs b ob _ z
            obtain ⟨e1, _⟩ := hok b _ z
            obtain ⟨e2, _⟩ := hok' b _ z2
            rw [e] at e1; cases e1
            exact e2
  cases hk : K.lookup a with
  | some o =>
    -- the script is one of the module's own objects
    have e := KX a o hk
    rw [ha] at e
    cases e
    refine core (fun _ => none) (fun _ => .inl rfl) (.inr ⟨_, vs.toArray, _, hk, rfl, rfl, rfl, by rw [List.size_toArray, lenV]; exact hl, by simpa using rv⟩) (fun b u z => by have z' : (none : Option HO) = some u := z; cases z') (fun b z => absurd rfl z) fun z => absurd rfl z
  | none =>
    refine core (fun b => if b = a then some (.frz { cls := .type "list", data := .seq vs.toArray } (.lst (ns.map V.int))) else none) (fun b => ?_) (.inl (.inr ⟨{ cls := .type "list", data := .seq vs.toArray }, if_pos rfl⟩)) (fun b u z => ?_) (fun b z => ?_) fun _ => hk
    · by_cases hb : b = a
      · exact .inr ⟨_, _, if_pos hb⟩
      · exact .inl (if_neg hb)
    · by_cases hb : b = a
      · have z' := (if_pos hb).symm.trans z
        cases z'
        subst hb
        exact ⟨ha, by rw [List.length_map]; exact hl, vs, _, rv, ha⟩
      · have z' := (if_neg hb).symm.trans z
        cases z'
    · by_cases hb : b = a
      · exact hb
      · exact absurd (if_neg hb) z
end L2

namespace L2
open PySem PySem.Spec PyProof.Rows

/-- the goal that k_head leaves (case hc), from the law's promise. F gives the function object fd (K's own) once, then the promise over every base -/
theorem walk_of {l : PySem.W.OpenLaw} {n k : Nat} {q : Program} {loose : List Str} {XP : (Str → Option Value) → Heap → Prop} {YP : World → Heap → Prop} {d : DefRec} {K : Params → PySem.W.Frag} {CX : World → CXT} {sp : World → Sp} {x : Str}
    (hn : l.most = some n) (hn2 : n ≤ sizeLine) (hdf : d.params.defaults = []) (hr : Room k callerA)
    (hY : ∀ (w : World) (h : Heap), YP w h → (K w.params).In h)
    (F : ∀ (w : World) (mg : Str → Option Value) (fa : Addr) (h : Heap), (K w.params).In h → h.Ns mainGlobals mg → mg d.name = some (.ref fa) →
      ∃ fd : FuncData, (∀ (s : Shared) (u : Value), BindsTo s fd ⟨[u], []⟩ [(x, u)]) ∧
        ∀ base : Heap, (K w.params).In base → base.Ns mainGlobals mg → FnOk l.prog w (K w.params) mg base (CX w) k fa fd [x] (sp w))
    (hsp : ∀ (w : World) (H : Hp) (a : Addr) (ns : List Int), ns.length ≤ n → Only H → SqL (K w.params) H a (ns.map V.int) → sp w [.ref a] H (fun v _ => v = .bl true) fun _ _ _ => False)
    (hCX : ∀ (w : World) (H : Hp) (s : Shared) (e : Value) (s' : Shared), CX w [] H s (fun _ _ _ => False) e s' → False) :
    PySem.W.WalkO q loose XP YP l.row.toRowW d [] (fun f vs => PySem.call f vs) := by
  refine Att.attach_call hn hdf fun w s₀ s₁ mg mb fa o pm cd doc a vs ns G Y ho hd hcd hmg hobj hints hlen hg => ?_
  have KX := hY w _ Y
  obtain ⟨fd, hb, hF⟩ := F w mg fa _ KX G.T.g hmg
  exact law_call KX G.T.g G.T.b G.T.builtins G.T.nolimit hg hobj hints (Nat.le_trans hlen hn2) hr hF hb (fun H hO hS => hsp w H a ns hlen hO hS) fun H e s' => hCX w H s₁ e s'
end L2

/- THE LAST THEOREM (shape; LID, My.* are yours):
   My.Adr: a structure of the addresses that your layer names (classes, functions); My.Txt K t: a structure (Prop) of the equations over K;
   My.txt_mk : {K} {implicit addresses ..} (e1 : nsIn K mainGlobals "law" = some (some (.ref f))) (e2 : K.lookup f = some ⟨oc, od, .func (fnOf "law" "law" params body scope dV kV doc pm an cdv ct), sl⟩) (e3 : codeIn K cdv "law" = true) .. : ∃ t, My.Txt K t

set_option maxRecDepth 100000 in
set_option maxHeartbeats 0 in
theorem PySem.Challenge.cw_LID_holds : PySem.Challenge.rw_LID.Holds := by
  w_on; o_law; k_head; (case hw => w_witness2)
  k_fill
  refine L2.walk_of (l := PySem.Challenge.rw_LID) (n := 63) (k := 40) (x := "script") (CX := fun w => ..) (sp := fun _ => My.sp_law) rfl (by decide) rfl ⟨rfl, by decide, by decide⟩ (fun w h Y => PySem.W.kIn_of Y) ?F ?S ?C
  case F =>
    intro w mg fa h KX G hmg
    have T : ∃ t, My.Txt (L2.KOf KX) t := by
      dsimp only [L2.KOf]                          -- K must stand as «<heap const> w.params» for k_is
      refine' My.txt_mk ?e1 ?e2 ?e3 ..
      (case e1 => PySem.W.k_is)                    -- in the order: a name -> its address -> its object -> its parts
      (case e2 => PySem.W.k_is)
      ..
    obtain ⟨t, T⟩ := T
    have e0 := hmg.symm.trans (PySem.W.mg_of KX G T.law)
    cases e0                                       -- fa is the law's own address
    exact ⟨_, fun s u => .of_eq rfl, fun base kb nb => My.law_fn T kb nb⟩     -- if «.of_eq rfl» comes too early: refine' ⟨_, ?b, fun base kb nb => My.law_fn T kb nb⟩; exact fun s u => .of_eq rfl
  case S => exact fun w H a ns hl hO hS => ..
  case C => exact ..
(the tactic k_is has no namespace: write k_is) -/

/-! SHORT WORDS over the layer: a def of the text, its body, what a loop and a test want. -/
namespace L2
open PySem PySem.Spec PyProof.Rows

/-! ### the text by places -/
def defArgs (s : Stmt) : Arguments := match s with
  | .FunctionDef _ a _ _ _ _ _ _ _ _ => a
  | _ => { posonlyargs := [], args := [], vararg := none, kwonlyargs := [], kw_defaults := [], kwarg := none, defaults := [] }
def defBody (s : Stmt) : List Stmt := match s with
  | .FunctionDef _ _ b _ _ _ _ _ _ _ => b
  | _ => []
def defScope (s : Stmt) : Scope := match s with
  | .FunctionDef _ _ _ _ _ _ sc _ _ _ => sc
  | _ => { kind := .function, names := [], isGenerator := false, isCoroutine := false }

/-! ### no exception leaves a def -/
abbrev E0 : XK := fun _ _ _ => False
/-! ### a def (or method) of the text as it stands behind the top -/
structure Fun (K : PySem.W.Frag) (x qual : Str) (st : Stmt) (f : Addr) (fd : FuncData) : Prop where
  ex : ∃ (oc : Value) (od : Option Addr) (kV doc pm : Value) (an : Option Addr) (cdv ct : Value) (osl : Array (Option Value)),
    fd = PySem.W.fnOf x qual (defArgs st) (defBody st) (defScope st) .none kV doc pm an cdv ct ∧ K.lookup f = some ⟨oc, od, .func fd, osl⟩ ∧ PySem.W.codeIn K cdv qual = true
  kp : PySem.W.keepIn K (.ref f) = true
section
variable {P : Program} {w : World} {K : PySem.W.Frag} {mg : Str → Option Value} {base : Heap}
/-- how its arguments bind (no defaults): h is «fun _ _ _ _ _ _ us hl => match us, hl with | [_, _], _ => rfl», one _ a parameter -/
theorem Fun.binds {x qual : Str} {st : Stmt} {f : Addr} {fd : FuncData} {ps : List Str} (F : Fun K x qual st f fd)
    (h : ∀ (kV doc pm : Value) (an : Option Addr) (cdv ct : Value) (us : List Value), us.length = ps.length → bindArgs (PySem.W.fnOf x qual (defArgs st) (defBody st) (defScope st) .none kV doc pm an cdv ct) ⟨us, []⟩ = pure (ps.zip us)) : Binds K fd ps [] := by
  obtain ⟨oc, od, kV, doc, pm, an, cdv, ct, osl, rfl, lk, hcd⟩ := F.ex
  exact .all (h kV doc pm an cdv ct)
end
theorem hu_of {A : Around} {k : Nat} (hr : Room k A) : A.units + 1 < cLine := Nat.lt_of_le_of_lt (Nat.add_le_add_left (by decide : 1 ≤ 64) _) hr.units
/-! ### expressions in short: the name that stands in the i-th slot -/
section
variable {X : Cx}
theorem pv (i : Nat) {x : Str} {pos : Pos} (hN : X.N[i]? = some x := by rfl) (hv : Vis X.env.scope x := by first | exact Or.inl rfl | exact Or.inr (Or.inl rfl) | exact Or.inr (Or.inr rfl)) (hd : (x == ("__debug__" : Str)) = false := by decide)
    (hcd : (x == ("__classdict__" : Str)) = false := by decide) : PE X (.Name x pos) (tVar i) := pe_var hN hv hd hcd
end

/-! ### tests -/
theorem iteF {A B : Prop} (h : B) : if false = true then A else B := by
  rw [if_neg Bool.false_ne_true]
  exact h
theorem iteT {A B : Prop} (h : A) : if true = true then A else B := by
  rw [if_pos rfl]
  exact h
/-! ### heaps -/
/-- all that was tracked is as it was -/
def Same (H H' : Hp) : Prop := ∀ b o, H b = some o → H' b = some o
theorem Same.refl (H : Hp) : Same H H := fun _ _ h => h
theorem Same.trans {H H1 H2 : Hp} (a : Same H H1) (b : Same H1 H2) : Same H H2 := fun c o h => b c o (a c o h)
end L2
namespace L2
open PySem PySem.Spec PyProof.Rows
section
variable {X : Cx}
end
/-! ### a dict's pairs: keys that differ -/
section
variable {κ : Type} [DecidableEq κ]
end
end L2

set_option Elab.async false
set_option linter.all false
set_option maxRecDepth 100000
/-! own errors: raised, passed on, caught -/
namespace L2
open PySem PySem.Spec PyProof.Rows

theorem ObjOk.ex {P : Program} {w : World} {H : Hp} {h : Heap} {a : Addr} {o : HO} (x : ObjOk P w H h a o) : ∃ ob, h.get? a = some ob := by
  cases o with
  | lst xs => obtain ⟨_, _, _, _, e⟩ := x; exact ⟨_, e⟩
  | tup xs => obtain ⟨_, _, _, ob, e, _⟩ := x; exact ⟨_, e⟩
  | dK kvs => obtain ⟨_, _, _, _, o, _, _, e, _⟩ := x; exact ⟨_, e⟩
  | dT kvs => obtain ⟨_, _, _, _, o, _, _, e, _⟩ := x; exact ⟨_, e⟩
  | set S n => obtain ⟨o, _, _, _, e, _⟩ := x; exact ⟨_, e⟩
  | ins C dx fs => obtain ⟨_, _, _, e, _⟩ := x; exact ⟨_, e⟩
  | own y => exact x
  | xd fs => obtain ⟨_, ⟨_, _, _, e, _⟩, _⟩ := x; exact ⟨_, e⟩
  | rng lo hi => obtain ⟨_, _, _, e⟩ := x; exact ⟨_, e⟩
  | frz ob u => obtain ⟨e, _⟩ := x; exact ⟨_, e⟩
  | tbl ps => exact ⟨_, (show h.get? a = some _ from x)⟩
  | met f y => exact ⟨_, (show h.get? a = some _ from x)⟩
  | ext φ => obtain ⟨_, e, _⟩ := x; exact e

/-- an error of the class cls flies at e, its trace at T -/
def FlyAt (h : Heap) (e T : Addr) (cls : Value) : Prop :=
  ∃ oe vs oT ts a0, h.get? e = some oe ∧ oe.cls = cls ∧ oe.data = .fields vs ∧ vs[0]? = some a0 ∧ vs[1]? = some (.ref T) ∧ T ≠ e ∧ h.get? T = some oT ∧ oT.data = .fields ts ∧ ts[3]? = some .none

/-- what lies behind a call that raises -/
def CXE (P : Program) (w : World) : CXT := fun outer H s E e s' =>
  ∃ a T cls H', e = .ref a ∧ FlyAt s'.heap a T cls ∧ s.heap.get? a = none ∧ s.heap.get? T = none ∧ H' a = none ∧ H' T = none ∧ s'.os = s.os ∧ AllBare s'.gens ∧
    Un (frs outer) [] H H' s.heap s'.heap ∧ HOk P w H' s'.heap ∧ E cls none H'

theorem passE0 {P : Program} {w : World} {X : Cx} : Passes (CXE P w) X E0 := fun _ _ _ _ _ _ _ ⟨_, _, _, _, _, _, _, _, _, _, _, _, _, _, h⟩ => h.elim

section
variable {X : Cx} {pins : List (Addr × Obj)} {σ : St} {H : Hp} {s : Shared}

/-- the frame's own step: everything but the frames and ys is as it was, the frames up to slots -/
theorem left_core {E : XK} {a : Addr} {cls a0 : Value} {ys : List Addr} {h'' : Heap} (I : Inv X pins σ H s) (hex : X.ex = []) (hstk : X.stack = X.env :: X.outer)
    (hys : ∀ y ∈ ys, H y = none ∧ X.s₀.heap.get? y = none) (ha : H a = none) (ha0 : X.s₀.heap.get? a = none)
    (fl : Heap.FlyingW (PySem.W.hideAll s.heap (frs X.stack ++ ys)) X.outer a cls a0 h'') (up : ∀ b ∈ frs X.stack, ∀ o, s.heap.get? b = some o → (∀ vs, o.data ≠ .fields vs) → ∃ sl, h''.get? b = some { o with slots := sl }) (hE : E cls none H) :
    CXE X.prog X.w X.outer X.H₀ X.s₀ E (.ref a) { s with heap := h'' } := by
  obtain ⟨f1, f2, f3, oe, vs, T, oT, ts, t1, ⟨t2, t3⟩, t4, t5, t6, t7, t8, t9, t10⟩ := fl
  have nex : ∀ b : Addr, b ∉ X.ex := fun b hb => by rw [hex] at hb; cases hb
  have inB : ∀ b o, s.heap.get? b = some o → b ∉ frs X.stack → b ∉ ys → h''.get? b = some o := fun b o e n1 n2 =>
    f1 b o (PySem.W.hideAll_get _ e fun hm => (List.mem_append.mp hm).elim n1 n2)
  have fr : ∀ b ∈ frs X.stack, ∃ o, s.heap.get? b = some o ∧ ∀ vs, o.data ≠ .fields vs := fun b hb => (I.stack.mem hb).2
  have old : ∀ b o, X.s₀.heap.get? b = some o → b ∉ ys := fun b o e hb => by rw [(hys b hb).2] at e; cases e
  have notF : ∀ b, b ∈ frs X.stack → b ∈ X.env.locals :: X.fs := I.stkSub
  have neL : ∀ b o, X.s₀.heap.get? b = some o → b ≠ X.env.locals := fun b o e => Nat.ne_of_lt (Nat.lt_of_lt_of_le (Heap.lt_size e) I.ok.above)
  have noT : ∀ o, s.heap.get? T = some o → T ∉ ys → False := fun o e n2 => by
    by_cases hf : T ∈ frs X.stack
    · obtain ⟨o2, e2, d2⟩ := fr T hf
      obtain ⟨sl, e3⟩ := up T hf o2 e2 d2
      rw [t8] at e3
      cases e3
      exact d2 _ t9
    · have := PySem.W.hideAll_get (frs X.stack ++ ys) e fun hm => (List.mem_append.mp hm).elim hf n2
      rw [t6] at this
      cases this
  refine ⟨a, T, cls, H, rfl, ⟨oe, vs, oT, ts, a0, t1, t2, t4, t3, t5, t7, t8, t9, t10⟩, ha0, ?_, ha, ?_, I.os, I.bare, ⟨fun b o e n hb hx => ?_, fun b o e n hb hx => ?_, fun b o e n hx => I.base.free b o e n (nex b), fun b o e hx => ?_, I.base.tups, I.base.frzs, I.base.tbls⟩, fun b o e => ?_, hE⟩
  · cases q : X.s₀.heap.get? T with
    | none => rfl
    | some o =>
      obtain ⟨o', e'⟩ := I.base.there T o q (nex T)
      exact (noT o' e' (old T o q)).elim
  · cases q : H T with
    | none => rfl
    | some u =>
      obtain ⟨ob, e⟩ := (I.hok T u q).ex
      exact (noT ob e fun hm => by rw [(hys T hm).1] at q; cases q).elim
  · refine inB b o (I.base.keep b o e n hb (nex b)) (fun hm => ?_) (old b o e)
    rcases List.mem_cons.mp (notF b hm) with z | z
    · exact neL b o e z
    · exact hb z
  · obtain ⟨sl, e1⟩ := I.base.slot b o e n hb (nex b)
    have hm : b ∈ frs X.stack := by rw [hstk]; unfold frs; rw [List.filterMap_cons]; split <;> first | exact hb | exact List.mem_cons_of_mem _ hb
    obtain ⟨o2, e2, d2⟩ := fr b hm
    rw [e1] at e2
    cases e2
    obtain ⟨sl', e3⟩ := up b hm _ e1 d2
    exact ⟨sl', e3⟩
  · obtain ⟨o', e1⟩ := I.base.there b o e (nex b)
    by_cases hm : b ∈ frs X.stack
    · obtain ⟨o2, e2, d2⟩ := fr b hm
      obtain ⟨sl', e3⟩ := up b hm _ e2 d2
      exact ⟨_, e3⟩
    · exact ⟨o', inB b o' e1 hm (old b o e)⟩
  · refine (I.hok b o e).stay (fun c u hc q => inB c u q (fun hm => ?_) fun hm => ?_) (fun _ q => q) fun _ _ q => q
    · have z := I.stkFree c hm
      rcases hc with rfl | hc
      · rw [e] at z; cases z
      · rw [hc] at z; cases z
    · have z := (hys c hm).1
      rcases hc with rfl | hc
      · rw [e] at z; cases z
      · rw [hc] at z; cases z

theorem hide_frames (I : Inv X pins σ H s) (ys : List Addr) : s.heap.FunFrames (PySem.W.hideAll s.heap (frs X.stack ++ ys)) X.stack :=
  PySem.W.funFrames_hide I.stack fun env he a hf => List.mem_append_left _ (List.mem_filterMap.mpr ⟨env, he, hf⟩)
end

/-- an error that is made right here -/
def Takes (X : Cx) (E : XK) : Prop := ∀ (pins : List (Addr × Obj)) (σ : St) (H : Hp) (s : Shared) (h' : Heap) (a : Addr) (cls : Value) (args : List Value),
  Inv X pins σ H s → Heap.MadeExcOf s.heap h' a cls args → E cls none H → X.xe (.ref a) { s with heap := h' }

/-- a body of a frame of its own: an error leaves it -/
structure Fram (X : Cx) (E : XK) : Prop where
  ex : X.ex = []
  stk : X.stack = X.env :: X.outer
  fr : X.env.frame = some X.env.locals
  xe : ∀ e s', wpAny (model X.prog X.w) X.A (leaving X.env e) (fun _ s'' => CXE X.prog X.w X.outer X.H₀ X.s₀ E e s'') (fun e' s'' => CXE X.prog X.w X.outer X.H₀ X.s₀ E e' s'') s' → X.xe e s'
theorem fram_of {P : Program} {w : World} {K : PySem.W.Frag} {mg : Str → Option Value} {base : Heap} {N : List Str} {qual : Str} {scope : Scope} {f : Addr} {cd : Value} {A : Around} {outer : List Env} {s : Shared} {H : Hp} {E : XK} :
    Fram (cxOf (CXE P w) P w K mg base N qual scope f cd A outer s H E) E := ⟨rfl, rfl, rfl, fun _ _ h => h⟩

section
variable {X : Cx} {E : XK}
theorem takes_gen (F : Fram X E) : Takes X E := by
  intro pins σ H1 s1 h' a cls args I hx hE
  have nex : ∀ b : Addr, b ∉ X.ex := fun b hb => by rw [F.ex] at hb; cases hb
  refine F.xe _ _ ?_
  have ff : s1.heap.FunFrames (PySem.W.hideAll s1.heap (frs X.stack ++ [])) (X.env :: X.outer) := by
    have z := hide_frames I []
    rw [F.stk] at z ⊢
    exact z
  refine wpAny_leaves_madeW (s := { s1 with heap := h' }) (h := s1.heap) (base := PySem.W.hideAll s1.heap (frs X.stack ++ [])) (by rw [← F.stk]; exact I.ok.frames) F.fr
    (fun b o q => PySem.W.of_hideAll _ q) ff hx fun h'' t fl _ _ up => ?_
  refine left_core (s := s1) (ys := []) I F.ex F.stk (fun y hy => nomatch hy) ?_ ?_ fl (fun b _ o e d => ?_) hE
  · cases q : H1 a with
    | none => rfl
    | some u =>
      obtain ⟨ob, e⟩ := (I.hok a u q).ex
      have := hx.new
      rw [e] at this
      cases this
  · cases q : X.s₀.heap.get? a with
    | none => rfl
    | some o =>
      obtain ⟨o', e'⟩ := I.base.there a o q (nex a)
      have := hx.new
      rw [e'] at this
      cases this
  · exact up b o (hx.keeps b o e) d

theorem passes_gen (F : Fram X E) : Passes (CXE X.prog X.w) X E := by
  intro pins σ H1 s1 e s' I h
  obtain ⟨a, T, cls, H', rfl, ⟨oe, vs, oT, ts, a0, t1, t2, t3, t4, t5, t6, t7, t8, t9⟩, n1, n2, ha, hT, os, bare, un, hok, hE⟩ := h
  have nex : ∀ b : Addr, b ∉ X.ex := fun b hb => by rw [F.ex] at hb; cases hb
  have I' : Inv X pins σ H' s' := I.call' os un hok bare fun b hb => nomatch hb
  have old : ∀ b, s1.heap.get? b = none → X.s₀.heap.get? b = none := fun b hb => by
    cases q : X.s₀.heap.get? b with
    | none => rfl
    | some o =>
      obtain ⟨o', e'⟩ := I.base.there b o q (nex b)
      rw [hb] at e'
      cases e'
  refine F.xe _ _ ?_
  have ff : s'.heap.FunFrames (PySem.W.hideAll s'.heap (frs X.stack ++ [a, T])) (X.env :: X.outer) := by
    have z := hide_frames I' [a, T]
    rw [F.stk] at z ⊢
    exact z
  refine wpAny_leaves_onW (base := PySem.W.hideAll s'.heap (frs X.stack ++ [a, T])) (cls := cls) (a0 := a0) (by rw [← F.stk]; exact I.ok.frames) F.fr
    ⟨fun b o q => PySem.W.of_hideAll _ q, PySem.W.hideAll_none _ (List.mem_append_right _ (by simp)), ff, oe, vs, T, oT, ts, t1, ⟨t2, t4⟩, t3, t5, PySem.W.hideAll_none _ (List.mem_append_right _ (by simp)), t6, t7, t8, t9⟩
    fun h'' fl up => ?_
  refine left_core I' F.ex F.stk (fun y hy => ?_) ha (old a n1) fl (fun b _ o e d => up b o e d) hE
  rcases List.mem_cons.mp hy with rfl | hy
  · exact ⟨ha, old _ n1⟩
  · obtain rfl := List.mem_singleton.mp hy
    exact ⟨hT, old _ n2⟩
end

section
variable {X : Cx}
/-- the error class at C, right below others of the program's own and ValueError -/
structure Err (K : PySem.W.Frag) (C : Addr) : Prop where
  ex : PySem.W.excIn K C [.type "ValueError", .type "Exception", .type "BaseException", .type "object"] "ValueError.__new__" = true

def tRaise (C : Addr) (E : XK) (t : TA) : TS := fun _ σ H => t σ H fun vs H1 => vs.length ≤ sizeLine ∧ E (.ref C) none H1
/-- raise C(e, ..) -/
theorem ps_raise {C : Addr} {x : Str} {np cpos pos : Pos} {e₀ : Expr} {rest : List Expr} {t : TA} {E : XK} (T : Takes X E) (hc : X.calm = true) (hg : Gl X x) (hm : X.mg x = some (.ref C)) (hC : Err X.K C) (ha : PA X (e₀ :: rest) t)
    (he : starEach (e₀ :: rest) X.env = (false, eval e₀ X.env) :: starEach rest X.env := by rfl) (hpl : (backTo cpos (starEach rest X.env)).any (·.1) = false := by rfl) (hdb : (x == ("__debug__" : Str)) = false := by decide) :
    PS X (.Raise (some (.Call (.Name x np) (e₀ :: rest) [] cpos)) none pos) (tRaise C E t) := by
  intro pins s σ H D I h
  have q := hC.ex
  have O : ∃ bm N nm q bs hdct sn sub ab col dd k0 k1 k2 k3 k5 mN, X.base.get? C = some (excClassObj nm q C N bs bm hdct sn sub ab col dd k0 k1 k2 k3 k5 "ValueError.__new__") ∧ X.base.Ns N mN ∧ mN "__init__" = none ∧
      OwnTail X.base [.type "ValueError", .type "Exception", .type "BaseException", .type "object"] bm := by
    have KX := I.mod.kin
    unfold PySem.W.excIn at q
    split at q
    · rename_i dd cd sl ho
      split at q
      · rename_i C' bm k0 k1 k2 k3 n k5 hm hs
        simp only [Bool.and_eq_true, beq_iff_eq, Bool.not_eq_true'] at q
        obtain ⟨⟨⟨⟨⟨rfl, rfl⟩, hdel⟩, ht⟩, hok⟩, hni⟩ := q
        obtain ⟨nm, bs, mro, ns, qn, hd, sn, sub, ab, col, del⟩ := cd
        dsimp only at hm hdel hok hni
        subst hm hdel
        have hsl : sl = #[k0, k1, k2, k3, some (.builtin "ValueError.__new__"), k5] := by
          obtain ⟨l⟩ := sl
          simp only at hs
          rw [hs]
        subst hsl
        exact ⟨bm, ns, nm, qn, bs, hd, sn, sub, ab, col, dd, k0, k1, k2, k3, k5, _, KX _ _ ho, .of_isNs (PySem.W.isNs_of_in KX hok), PySem.W.nsMap_none_of_in KX hok hni, PySem.W.tail_of_in KX ht⟩
      · cases q
    · cases q
  obtain ⟨tl, Nn, nm, qq, bs, hdct, sn, sub, ab, col, dd, k0, k1, k2, k3, k5, mN, h1, h2, h3, h4⟩ := O
  refine wpAny_Raise_call_subT (C := C) (nm := nm) (q := qq) (N := Nn) (bs := bs) (bm := tl) (hdct := hdct) (sn := sn) (sub := sub) (ab := ab) (col := col) (dd := dd) (k0 := k0) (k1 := k1) (k2 := k2) (k3 := k3) (k5 := k5)
    PySem.F.excBase_ValueError (mN := mN) (h4.hasType PySem.F.excBase_ValueError.hasBase) (I.ok.hd hc) (by rw [he]; show (false || (backTo cpos (starEach rest X.env)).any (·.1)) = false; rw [hpl]; rfl) h3 ?_
  refine ld_glob I hg hm ⟨rfl, ?_⟩ (hd := hdb)
  have w1 := ha cpos pins s σ H _ I h
  rw [he] at w1 ⊢
  refine Calls.evalArgs_plain (wpAny_mono w1 (fun us s2 q2 => ?_) fun _ _ y => y)
  obtain ⟨vs, H', I2, rv, hl, hE⟩ := q2
  refine ⟨rfl, ?_, I2.bk _ _ h1, h2.keeps I2.bk, h4.keeps I2.bk, fun h' e hm => T pins σ H' s2 h' e (.ref C) _ I2 hm hE⟩
  show us.length ≤ sizeLine
  rw [← rv.length]
  exact hl
end
end L2

set_option Elab.async false
set_option linter.all false
set_option maxRecDepth 100000
/-! try .. except C as n -/
namespace L2
open PySem PySem.Spec PyProof.Rows
section
variable {X : Cx} {pins : List (Addr × Obj)} {σ : St} {H H' : Hp} {s : Shared} {h' : Heap}

/-- an error as an object of the abstract heap: its class -/
def excO (a : Addr) (cls : Value) : HO := .ext fun h => ∃ o vs, h.get? a = some o ∧ o.cls = cls ∧ o.data = .fields vs
/-- an untracked record of ours becomes tracked -/
theorem Inv.track {a : Addr} {o : HO} (I : Inv X pins σ H s) (hn : H a = none) (h0 : X.s₀.heap.get? a = none) (hL : a ≠ X.env.locals) (hc : ∀ x c, X.env.cells.lookup x = some c → c ≠ a) (hp : ∀ p ∈ X.pn ++ pins, p.1 ≠ a)
    (new : ObjOk X.prog X.w (upd H a o) s.heap a o) : Inv X pins σ (upd H a o) s := by
  refine ⟨I.ok, I.os, I.bare, ⟨I.base.keep, I.base.slot, fun b u e n hx => ?_, I.base.there, fun b xs e => ?_, fun b u xs e => ?_, fun b ps e => ?_⟩, I.loc, I.cell, ?_, fun x c e => ?_, fun p q => ?_, fun b u e => ?_, I.len⟩
  · rw [upd_ne fun z => by rw [z, h0] at e; cases e]
    exact I.base.free b u e n hx
  · have q := I.base.tups b xs e
    rw [upd_ne (ne_of_none q hn)]
    exact q
  · have q := I.base.frzs b u xs e
    rw [upd_ne (ne_of_none q hn)]
    exact q
  · obtain ⟨m, q⟩ := I.base.tbls b ps e
    exact ⟨m, by rw [upd_ne (ne_of_none q hn)]; exact q⟩
  · rw [upd_ne hL.symm]
    exact I.free
  · rw [upd_ne (hc x c e)]
    exact I.freeC x c e
  · obtain ⟨e, n, r⟩ := I.pin p q
    exact ⟨e, by rw [upd_ne (hp p q)]; exact n, r⟩
  · by_cases hb : b = a
    · subst hb
      rw [upd_same] at e
      cases e
      exact new
    · rw [upd_ne hb] at e
      exact (I.hok b u e).stay (fun c v _ q => q) (fun c q => by rw [upd_ne (ne_of_none q hn)]; exact q) fun c xs q => by rw [upd_ne (ne_of_none q hn)]; exact q
end

section
variable {X : Cx} {pins : List (Addr × Obj)} {σ : St} {H H' : Hp} {s : Shared}
end
end L2

set_option Elab.async false
set_option linter.all false
set_option maxRecDepth 100000
/-! lambdas without parameters, that read names of the frame around them -/
namespace L2
open PySem PySem.Spec PyProof.Rows

section
variable {X : Cx} {pins : List (Addr × Obj)} {σ : St} {H : Hp} {s : Shared}
end

section
variable {X : Cx} {pins : List (Addr × Obj)} {σ1 : St} {H : Hp} {s : Shared}
end
end L2

set_option Elab.async false
set_option linter.all false
set_option maxRecDepth 100000
/-! the law's own hearing of a deed: heard(lambda: ..) -/
namespace L2
open PySem PySem.Spec PyProof.Rows

section
variable {X : Cx}
end
end L2

set_option Elab.async false
set_option linter.all false
set_option maxRecDepth 100000
/-! more rules: numbers of many bits, texts, tuples compared, isinstance, count, index -/
namespace L2
open PySem PySem.Spec PyProof.Rows
section
variable {X : Cx}
theorem big_bits {i : Int} (h : i.natAbs < 2 ^ 2000) : Builtin.Int.intBits i ≤ 2 ^ 20 := Nat.le_trans (intBits_le h) (by decide)
def CBig (i j : Int) : Prop := i.natAbs < 2 ^ 2000 ∧ j.natAbs < 2 ^ 2000
theorem op_mulB : OpR X (binaryOp .Mult) (rI CBig fun i j => .int (i * j)) := opI fun _ _ _ _ _ _ _ hc q => mul_int q (IntMulOk.of_bits (big_bits hc.1) (big_bits hc.2))
theorem call_int_text : CallR X (.type "int") (fun xs H Q => ∃ x n, xs = [.str x] ∧ PySem.intText? x = some n ∧ x.length ≤ 640 ∧ Q (.int n) H) := by
  intro pins s σ H xs us Q I r h
  obtain ⟨x, n, rfl, hn, hl, q⟩ := h
  obtain ⟨u, rfl, t, rfl⟩ := vals1 r
  exact PySem.W.KIN.call_text hn hl ⟨.int n, H, I.tok _, ⟨_, rfl⟩, q⟩

/-! ### tuples compared -/
theorem tup_items {pins : List (Addr × Obj)} {σ : St} {H : Hp} {s : Shared} {A : Around} {xs ys : List V} {its its2 : List Value} {e : Nat → Bool} {n : Nat} (r1 : Vals xs its) (r2 : Vals ys its2)
    (he : ∀ j x y u v, xs[j]? = some x → ys[j]? = some y → RelV x u → RelV y v → SeqAt.EqAt A s u v (e j)) : ∀ j (h1 : j < its.toArray.size) (h2 : j < its2.toArray.size), SeqAt.EqAt A s its.toArray[j] its2.toArray[j] (e j) := by
  intro j h1 h2
  have l1 := r1.length
  have l2 := r2.length
  rw [List.size_toArray] at h1 h2
  have k1 : xs[j]? = some xs[j] := List.getElem?_eq_getElem (by omega)
  have k2 : ys[j]? = some ys[j] := List.getElem?_eq_getElem (by omega)
  obtain ⟨u, e1, q1⟩ := r1.get k1
  obtain ⟨v, e2, q2⟩ := r2.get k2
  have z1 : its.toArray[j] = u := by
    rw [List.getElem?_eq_getElem h1] at e1
    simpa using Option.some.inj e1
  have z2 : its2.toArray[j] = v := by
    rw [List.getElem?_eq_getElem h2] at e2
    simpa using Option.some.inj e2
  rw [z1, z2]
  exact he j _ _ u v k1 k2 q1 q2
/-! ### list.count, list.index over flat items -/
end
end L2

set_option Elab.async false
set_option linter.all false
set_option maxRecDepth 100000
/-! isinstance of an own error -/
namespace L2
open PySem PySem.Spec PyProof.Rows

/-- what the written part says of an error class -/
structure ErrK (K : PySem.W.Frag) (C : Addr) : Prop where
  ex : PySem.W.excIn K C [.type "ValueError", .type "Exception", .type "BaseException", .type "object"] "ValueError.__new__" = true
  ga : PySem.W.findIn K (.ref C) "__getattribute__" = some (some (.builtin "BaseException.__getattribute__"))
  gn : PySem.W.findIn K (.ref C) "__getattr__" = some none
  cl : PySem.W.findIn K (.ref C) "__class__" = some (some (.builtin "object.__class__"))
theorem ErrK.err {K : PySem.W.Frag} {C : Addr} (e : ErrK K C) : Err K C := ⟨e.ex⟩
theorem err_obj {K : PySem.W.Frag} {C : Addr} {h : Heap} (KX : K.In h) (e : Err K C) : ∃ bm N nm q bs hdct sn sub ab col dd k0 k1 k2 k3 k5, h.get? C = some (excClassObj nm q C N bs bm hdct sn sub ab col dd k0 k1 k2 k3 k5 "ValueError.__new__") ∧
    OwnTail h [.type "ValueError", .type "Exception", .type "BaseException", .type "object"] bm := by
  have q := e.ex
  unfold PySem.W.excIn at q
  split at q
  · rename_i dd cd sl ho
    split at q
    · rename_i C' bm k0 k1 k2 k3 n k5 hm hs
      simp only [Bool.and_eq_true, beq_iff_eq, Bool.not_eq_true'] at q
      obtain ⟨⟨⟨⟨⟨rfl, rfl⟩, hdel⟩, ht⟩, hok⟩, hni⟩ := q
      obtain ⟨nm, bs, mro, ns, qn, hd, sn, sub, ab, col, del⟩ := cd
      dsimp only at hm hdel hok hni
      subst hm hdel
      have hsl : sl = #[k0, k1, k2, k3, some (.builtin "ValueError.__new__"), k5] := by
        obtain ⟨l⟩ := sl
        simp only at hs
        rw [hs]
      subst hsl
      exact ⟨bm, ns, nm, qn, bs, hd, sn, sub, ab, col, dd, k0, k1, k2, k3, k5, KX _ _ ho, PySem.W.tail_of_in KX ht⟩
    · cases q
  · cases q
section
variable {prog : Program} {w : World} {A : Around} {E : Value → Shared → Prop} {h : Heap} {g : Array GenState} {d : Drawn} {t : Nat} {os : OsState} {K : PySem.W.Frag} {a C : Addr} {o : Obj}
theorem exc_class_get {R : Result → Shared → Prop} (KX : K.In h) (e : ErrK K C) (hx : h.get? a = some o) (hc : o.cls = .ref C) (hq : R (.ok (.ret (.ref C))) ⟨h, g, d, t, os⟩) :
    codeAny (model prog w) A (.call (.builtin "getset_descriptor.__get__") ⟨[.builtin "object.__class__", .ref a, .ref C], []⟩) R ⟨h, g, d, t, os⟩ := by
  obtain ⟨bm, N, nm, q, bs, hdct, sn, sub, ab, col, dd, k0, k1, k2, k3, k5, hC, T⟩ := err_obj KX e.err
  have hT5 : (⟨h, g, d, t, os⟩ : Shared).TypeIs (.builtin "object.__class__") "getset_descriptor" := F.typeOf_object_class
  have hcB : (Value.ref C :: bm).contains (.type (".".intercalate ("object.__class__".cutAt '.').dropLast)) = true := by
    rw [F.owner_object_class, List.contains_cons, T.hasType (X := "object") (b := true) (by decide)]; rfl
  refine codeAny_call_builtin F.slot_gs_get.plain F.entry_gs_get (F.slot_gs_get.check _ _ _ _ _ _ _ _ hT5 (F.args_gs_get _ _ _) ?_)
  repeat (any_goals (first | assumption | (with_reducible refine wpAny_loadPart_at hx ?_; rw [hc]) | (with_reducible refine wpAny_isSubtype_exc hC ?_; rw [hcB]) | wp_step))
  refine ⟨Code.quiet_builtin _ (by decide +kernel), codeAny_builtin F.entry_object_class ?_⟩
  repeat (any_goals (first | assumption | (with_reducible refine wpAny_loadPart_at hx ?_; rw [hc]) | wp_step))
theorem exc_class_entry {tk : Tok} {Q : Fin → Shared → Prop} (KX : K.In h) (e : ErrK K C) (hx : h.get? a = some o) (hc : o.cls = .ref C) (hq : Q (.done (.ret (.ref C))) ⟨h, g, d, t, os⟩) :
    wpAny (model prog w) A (Builtin.«object.__getattribute__» ⟨[.ref a, .str "__class__" tk], []⟩) Q E ⟨h, g, d, t, os⟩ := by
  have L := PySem.W.looks_findIn (M := model prog w) KX e.cl
  have hT5 : (⟨h, g, d, t, os⟩ : Shared).TypeIs (.builtin "object.__class__") "getset_descriptor" := F.typeOf_object_class
  have f5 := F.typeOf_object_class
  have f6 := F.slot_gs_get.lookup
  have f7 := F.slot_gs_set.lookup
  repeat (any_goals (first | assumption | (with_reducible refine wpAny_loadPart_at hx ?_; rw [hc]) | with_reducible refine PySem.W.Looks.at L ?_ | wp_step))
  refine exc_class_get KX e hx hc ?_
  repeat (any_goals (first | assumption | wp_step))
theorem exc_class_check {M : Model} {nameV : Value} {Q : Unit → Shared → Prop} (KX : K.In h) (e : ErrK K C) (hx : h.get? a = some o) (hc : o.cls = .ref C) (hq : Q () ⟨h, g, d, t, os⟩) :
    wpAny M A (checkBuiltinCall "BaseException.__getattribute__" ⟨[.ref a, nameV], []⟩) Q E ⟨h, g, d, t, os⟩ := by
  obtain ⟨bm, N, nm, q, bs, hdct, sn, sub, ab, col, dd, k0, k1, k2, k3, k5, hC, T⟩ := err_obj KX e.err
  have hk : builtinKind "BaseException.__getattribute__" = some .slot := by decide +kernel
  have hsplit : splitId "BaseException.__getattribute__" = some ("BaseException", "__getattribute__") := by decide +kernel
  have hcB : (Value.ref C :: bm).contains (.type "BaseException") = true := by rw [List.contains_cons, T.hasType (X := "BaseException") (b := true) (by decide)]; rfl
  have ha := F.args_bexc_ga (.ref a) nameV
  simp only [checkBuiltinCall, hk, hsplit]
  refine wpAny_bind ?_
  · unfold isInstance
    repeat (first | (with_reducible refine wpAny_loadPart_at hx ?_; rw [hc]) | (with_reducible refine wpAny_isSubtype_exc hC ?_; rw [hcB]) | wp_step)
    exact hq
theorem exc_class_call {tk : Tok} {R : Result → Shared → Prop} (KX : K.In h) (e : ErrK K C) (hx : h.get? a = some o) (hc : o.cls = .ref C) (hq : R (.ok (.ret (.ref C))) ⟨h, g, d, t, os⟩) :
    codeAny (model prog w) A (.call (.builtin "BaseException.__getattribute__") ⟨[.ref a, .str "__class__" tk], []⟩) R ⟨h, g, d, t, os⟩ :=
  codeAny_call_builtin F.excAttr_ValueError.ga.plain F.entry_bexc_ga (exc_class_check KX e hx hc (exc_class_entry KX e hx hc hq))
theorem exc_class_by {tk : Tok} {Q : Value → Shared → Prop} (KX : K.In h) (e : ErrK K C) (hx : h.get? a = some o) (hc : o.cls = .ref C) (hq : Q (.ref C) ⟨h, g, d, t, os⟩) :
    wpAny (model prog w) A (getAttrBy (.ref a) (.str "__class__" tk) false) Q E ⟨h, g, d, t, os⟩ := by
  have L1 := PySem.W.looks_findIn (M := model prog w) KX e.ga
  have L2 := PySem.W.looks_findIn (M := model prog w) KX e.gn
  have f3 := F.excAttr_ValueError.ga.bind (.ref a)
  have hx2 : (Value.builtin "BaseException.__getattribute__" == Value.builtin "object.__getattribute__") = false := by decide +kernel
  have hx1 : (onTheHeap (Value.ref C) && Value.builtin "BaseException.__getattribute__" == Value.builtin "object.__getattribute__") = false := by rw [hx2]; rfl
  repeat (any_goals (first | assumption | (with_reducible refine wpAny_loadPart_at hx ?_; rw [hc]) | with_reducible refine PySem.W.Looks.at L1 ?_ | with_reducible refine PySem.W.Looks.at L2 ?_ | wp_step))
  refine exc_class_call KX e hx hc ?_
  repeat (any_goals (first | assumption | wp_step))
theorem exc_class_attr {Q : Option Value → Shared → Prop} (KX : K.In h) (e : ErrK K C) (hx : h.get? a = some o) (hc : o.cls = .ref C) (hq : Q (some (.ref C)) ⟨h, g, d, t + 1, os⟩) :
    wpAny (model prog w) A (getAttr? (.ref a) "__class__") Q E ⟨h, g, d, t, os⟩ := by
  unfold getAttr? getAttrBy?
  repeat (any_goals (first | assumption | with_reducible apply exc_class_by KX e hx hc | wp_step))
end
theorem kitx_exc {K : PySem.W.Frag} {a C : Addr} (e : ErrK K C) : PySem.W.KitX K (.ref a) (.ref C) (fun h => ∃ o, h.get? a = some o ∧ o.cls = .ref C) where
  ty := fun M h X ⟨o, e1, e2⟩ => by
    rw [← e2]
    exact (PySem.W.Looks.ld e1).andThen .now
  it := fun M h X _ => by
    obtain ⟨bm, N, nm, q, bs, hdct, sn, sub, ab, col, dd, k0, k1, k2, k3, k5, hC, T⟩ := err_obj X e.err
    intro A' Q' E' s' k q
    unfold isType loadHead
    exact wpAny_bind (wpAny_loadPart (k _ _ hC) (wpAny_pure q))
  ne := fun h tp dd its n sl X htp => by
    obtain ⟨bm, N, nm, q, bs, hdct, sn, sub, ab, col, dd, k0, k1, k2, k3, k5, hC, T⟩ := err_obj X e.err
    refine Bool.eq_false_iff.mpr fun q => ?_
    have e : C = tp := Value.ref.inj (beq_iff_eq.mp q)
    subst e
    rw [hC] at htp
    exact absurd (Value.type.inj (congrArg Obj.cls (Option.some.inj htp))) (by decide)
  ca := fun {prog w A E Q s} X ⟨o, e1, e2⟩ k => by
    obtain ⟨h, g, d, t, os⟩ := s
    exact exc_class_attr X e e1 e2 k

section
variable {X : Cx}
/-- a class as a value -/
def isCls : V → Bool
  | .ref _ => true
  | .ty _ => true
  | _ => false
def clsV : V → Value
  | .ref C => .ref C
  | .ty n => .type n
  | _ => .none
theorem clsV_of {c : V} {u : Value} (h : isCls c = true) (r : RelV c u) : u = clsV c := by
  cases c <;> first | exact r | cases h
/-- isinstance(x, c): c a class as a value -/
def rIsi (K : PySem.W.Frag) : List V → Hp → VK → Prop := fun xs H Q => ∃ x c b, xs = [x, c] ∧ isCls c = true ∧ ((∃ t, TyOf K H x t ∧ PySem.W.kitOne K t (clsV c) = some b) ∨ ∃ a C, x = .ref a ∧ H a = some (excO a (.ref C)) ∧ ErrK K C ∧ PySem.W.kitOne K (.ref C) (clsV c) = some b) ∧ Q (.bl b) H
theorem call_isi : CallR X (.builtin "isinstance") (rIsi X.K) := by
  intro pins s σ H xs us Q I r h
  obtain ⟨x, c, b, rfl, hc, hx, q⟩ := h
  obtain ⟨u, u2, rfl, ru, ru2⟩ := vals2 r
  obtain rfl := clsV_of hc ru2
  rcases hx with ⟨t, ty, k⟩ | ⟨a, C, rfl, hH, e, k⟩
  · exact isinst_ok I ru ty k fun tk => ⟨.bl b, H, I.tok tk, rfl, q⟩
  · obtain rfl : u = Value.ref a := ru
    obtain ⟨⟨o, vs, e1, e2, _⟩, _⟩ := (show ObjOk X.prog X.w H s.heap a (excO a (.ref C)) from I.hok a _ hH)
    exact PySem.W.kia_one (kitx_exc e) I.kIn ⟨o, e1, e2⟩ k (fun z => nomatch z) fun tk => ⟨.bl b, H, I.tok tk, rfl, q⟩
end
end L2

set_option Elab.async false
set_option linter.all false
set_option maxRecDepth 100000
/-! the head, where the law's own code has lambdas: the table of its code is tracked -/
namespace L2
open PySem PySem.Spec PyProof.Rows

/-- no list of the written part -/
def noLists (K : PySem.W.Frag) : Bool := K.all fun p => match p.2.cls with
  | .type n => !(n == "list")
  | _ => true
theorem noLists_at {K : PySem.W.Frag} {a : Addr} {o : Obj} (h : noLists K = true) (e : K.lookup a = some o) : o.cls ≠ .type "list" := fun z => by
  have q := List.all_eq_true.mp h (a, o) (PySem.W.mem_of_lookupK e)
  dsimp only at q
  rw [z] at q
  exact absurd q (by decide)
end L2

set_option Elab.async false
set_option linter.all false
set_option maxRecDepth 100000
namespace L2
open PySem PySem.Spec PyProof.Rows
section
variable {X : Cx}
end

/-- the cells that a lambda takes along -/
def closOf (cells : List (Str × Addr)) : List (Str × NameKind) → List (Str × Addr) → List (Str × Addr)
  | [], acc => acc
  | (n, k) :: r, acc => closOf cells r (if k == .free then (n, (cells.lookup n).getD 0) :: acc else acc)
theorem clos_go {env : Env} : ∀ (names : List (Str × NameKind)) (acc : List (Str × Addr)), (∀ y ∈ names, y.2 = .free → ∃ c, env.cells.lookup y.1 = some c) →
    (forIn names acc fun x (cs : List (Str × Addr)) => (do
      let (name, kind) := x
      if kind == .free then
        let c ← cellOf env name
        pure (ForInStep.yield ((name, c) :: cs))
      else pure (ForInStep.yield cs) : Sem (ForInStep (List (Str × Addr))))) = pure (closOf env.cells names acc)
  | [], acc, _ => rfl
  | (n, k) :: r, acc, h => by
    rw [List.forIn_cons]
    have ih := fun acc' => clos_go (env := env) r acc' fun y hy => h y (List.mem_cons_of_mem _ hy)
    by_cases hk : k = .free
    · subst hk
      obtain ⟨c, hc⟩ := h (n, .free) List.mem_cons_self rfl
      have hc' : env.cells.lookup n = some c := hc
      show _ = pure (closOf env.cells r (if NameKind.free == NameKind.free then _ else _))
      have e : cellOf env n = pure c := by unfold cellOf; rw [hc']
      simp only [beq_self_eq_true, if_true, e, pure_bind, hc', Option.getD_some]
      exact ih _
    · have hb : (k == NameKind.free) = false := beq_eq_false_iff_ne.mpr hk
      show _ = pure (closOf env.cells r (if k == NameKind.free then _ else _))
      simp only [hb, Bool.false_eq_true, if_false, pure_bind]
      exact ih _
theorem closureFor_eq {scope : Scope} {env : Env} (h : ∀ y ∈ scope.names, y.2 = .free → ∃ c, env.cells.lookup y.1 = some c) : closureFor scope env = pure (closOf env.cells scope.names []) := by
  unfold closureFor
  have := clos_go (env := env) scope.names [] h
  simp only [bind_pure] at this ⊢
  exact this
theorem clos_look {cells : List (Str × Addr)} {x : Str} {c : Addr} : ∀ (names : List (Str × NameKind)) (acc : List (Str × Addr)), (∀ y ∈ names, y.2 = .free → ∃ c, cells.lookup y.1 = some c) → (acc.lookup x = some c → cells.lookup x = some c) →
    (closOf cells names acc).lookup x = some c → cells.lookup x = some c
  | [], _, _, h, e => h e
  | (n, k) :: r, acc, h0, h, e => by
    unfold closOf at e
    refine clos_look r _ (fun y hy => h0 y (List.mem_cons_of_mem _ hy)) (fun e' => ?_) e
    split at e'
    · rename_i hk
      rw [List.lookup_cons] at e'
      split at e'
      · rename_i hx
        have hx' : x = n := eq_of_beq hx
        subst hx'
        obtain ⟨d, hd⟩ := h0 (x, k) List.mem_cons_self (eq_of_beq hk)
        have hd' : cells.lookup x = some d := hd
        rw [hd'] at e' ⊢
        exact e'
      · exact h e'
    · exact h e'
theorem clos_has {cells : List (Str × Addr)} {x : Str} : ∀ (names : List (Str × NameKind)) (acc : List (Str × Addr)), ((∃ c, acc.lookup x = some c) ∨ (x, NameKind.free) ∈ names) → ∃ c, (closOf cells names acc).lookup x = some c
  | [], acc, h => by
    rcases h with h | h
    · exact h
    · cases h
  | (n, k) :: r, acc, h => by
    unfold closOf
    refine clos_has r _ ?_
    rcases h with ⟨c, h⟩ | h
    · refine .inl ?_
      split
      · rw [List.lookup_cons]
        split
        · exact ⟨_, rfl⟩
        · exact ⟨c, h⟩
      · exact ⟨c, h⟩
    · rcases List.mem_cons.mp h with e | h
      · cases e
        refine .inl ?_
        rw [if_pos (by rfl), List.lookup_cons, beq_self_eq_true]
        exact ⟨_, rfl⟩
      · exact .inr h
end L2

set_option Elab.async false
set_option linter.all false
set_option maxRecDepth 100000
namespace L2
open PySem PySem.Spec PyProof.Rows
section
variable {P : Program} {w : World} {K : PySem.W.Frag} {mg : Str → Option Value} {base : Heap}
/-- a def whose errors are told -/
theorem okE {x qual : Str} {st : Stmt} {f : Addr} {fd : FuncData} {N ps : List Str} {k : Nat} {sp : Sp} (F : Fun K x qual st f fd) (S : FnScope N ps (defScope st)) (len : ∀ vs H Q E, sp vs H Q E → vs.length = ps.length)
    (hbody : ∀ (cdv : Value) (A : Around) (outer : List Env) (s : Shared) (H : Hp) (vs : List V) (Q : VK) (E : XK), Room k (A.deeper (envOfC qual (defScope st) s.heap.objs.size f cdv)) → sp vs H Q E →
      ∃ t, PSs (cxOf (CXE P w) P w K mg base N qual (defScope st) f cdv A outer s H E) (defBody st) t ∧ t { nx := fun _ H' => Q .non H', rt := Q } (start N vs) H) : FnOk P w K mg base (CXE P w) (k + 1) f fd ps sp := by
  obtain ⟨oc, od, kV, doc, pm, an, cdv, ct, osl, rfl, lk, hcd⟩ := F.ex
  exact fn_of lk hcd S len fun A outer s H vs Q E hr hsp => hbody cdv A outer s H vs Q E hr hsp
/-- a def that raises nothing -/
theorem okN {x qual : Str} {st : Stmt} {f : Addr} {fd : FuncData} {N ps : List Str} {k : Nat} {sp : Sp} (F : Fun K x qual st f fd) (S : FnScope N ps (defScope st)) (len : ∀ vs H Q E, sp vs H Q E → vs.length = ps.length)
    (hbody : ∀ (cdv : Value) (A : Around) (outer : List Env) (s : Shared) (H : Hp) (vs : List V) (Q : VK) (E : XK), Room k (A.deeper (envOfC qual (defScope st) s.heap.objs.size f cdv)) → sp vs H Q E →
      ∃ t, PSs (cxOf (CXE P w) P w K mg base N qual (defScope st) f cdv A outer s H E).nox (defBody st) t ∧ t { nx := fun _ H' => Q .non H', rt := Q } (start N vs) H) : FnOk P w K mg base (CXE P w) (k + 1) f fd ps sp :=
  okE F S len fun cdv A outer s H vs Q E hr hsp => by
    obtain ⟨t, h, q⟩ := hbody cdv A outer s H vs Q E hr hsp
    exact ⟨t, h.nox, q⟩
end
/-! a display of pairs: behind a veil, else the reading itself is reckoned out -/
structure PEx (X : Cx) (e : Expr) (t : TE) : Prop where
  pe : PE X e t
structure PSx (X : Cx) (e : List Stmt) (t : TS) : Prop where
  ps : PSs X e t
theorem disp2 {X : Cx} {k1 k2 v1 v2 : Expr} {pos pos' : Pos} {t1 t2 u1 u2 : TE} (h1 : PEx X k1 t1) (h2 : PEx X v1 u1) (h3 : PEx X k2 t2) (h4 : PEx X v2 u2) : PSx X [.Return (some (.Dict [some k1, some k2] [v1, v2] pos)) pos'] (tRet (tDisp [(t1, u1), (t2, u2)])) :=
  ⟨pss_one (ps_ret (pe_disp (pps_cons h1.pe h2.pe (pps_cons h3.pe h4.pe pps_nil)) rfl rfl (List.cons_ne_nil _ _) (Nat.le_of_ble_eq_true rfl)))⟩
theorem begun_body {X : Cx} {x y : Str} {i : Int} {p1 p2 p3 p4 p5 p6 : Pos} {j1 j2 j3 : Nat} : PSx X [.Return (some (.Dict [some (.Constant (.str x) j1 p1), some (.Constant (.str y) j2 p2)] [.Constant (.int i) j3 p3, .Dict [] [] p4] p5)) p6] (tRet (tDisp [(tC (.str x), tC (.int i)), (tC (.str y), tDNewK)])) :=
  disp2 ⟨pe_str⟩ ⟨pe_int⟩ ⟨pe_str⟩ ⟨pe_dnewK⟩
theorem okNx {P : Program} {w : World} {K : PySem.W.Frag} {mg : Str → Option Value} {base : Heap} {x qual : Str} {st : Stmt} {f : Addr} {fd : FuncData} {N ps : List Str} {k : Nat} {sp : Sp} (F : Fun K x qual st f fd) (S : FnScope N ps (defScope st)) (len : ∀ vs H Q E, sp vs H Q E → vs.length = ps.length)
    (hbody : ∀ (cdv : Value) (A : Around) (outer : List Env) (s : Shared) (H : Hp) (vs : List V) (Q : VK) (E : XK), Room k (A.deeper (envOfC qual (defScope st) s.heap.objs.size f cdv)) → sp vs H Q E →
      ∃ t, PSx (cxOf (CXE P w) P w K mg base N qual (defScope st) f cdv A outer s H E).nox (defBody st) t ∧ t { nx := fun _ H' => Q .non H', rt := Q } (start N vs) H) : FnOk P w K mg base (CXE P w) (k + 1) f fd ps sp :=
  okN F S len fun cdv A outer s H vs Q E hr hsp => by
    obtain ⟨t, h, q⟩ := hbody cdv A outer s H vs Q E hr hsp
    exact ⟨t, h.ps, q⟩
/-- a def of the text, with its promise -/
structure Def (P : Program) (w : World) (K : PySem.W.Frag) (mg : Str → Option Value) (base : Heap) (k : Nat) (x : Str) (ps : List Str) (sp : Sp) : Prop where
  ex : ∃ f fd, mg x = some (.ref f) ∧ PySem.W.keepIn K (.ref f) = true ∧ Binds K fd ps [] ∧ FnOk P w K mg base (CXE P w) k f fd ps sp
section
variable {X : Cx} {k k' : Nat} {x : Str} {ps : List Str} {sp : Sp} {E : XK} {p pos : Pos} {e : Expr} {es : List Expr} {t : TA}
theorem Def.pe (D : Def X.prog X.w X.K X.mg X.base k x ps sp) (hr : Room k' X.A) (hk : k ≤ k') (hg : Gl X x) (hx : Passes (CXE X.prog X.w) X E) (ha : PA X (e :: es) t) (hdb : (x == ("__debug__" : Str)) = false := by decide)
    (he : starEach (e :: es) X.env = (false, eval e X.env) :: starEach es X.env := by rfl) (hpl : (backTo pos (starEach es X.env)).any (·.1) = false := by rfl) : PE X (.Call (.Name x p) (e :: es) [] pos) (tCall sp [] E t) := by
  obtain ⟨f, fd, h1, h2, h3, h4⟩ := D.ex
  exact pe_call h4 (hr.mono hk) hg h1 h2 h3 .nil hx ha hdb he hpl
theorem Def.pe0 (D : Def X.prog X.w X.K X.mg X.base k x ps sp) (hr : Room k' X.A) (hk : k ≤ k') (hg : Gl X x) (hx : Passes (CXE X.prog X.w) X E) (hdb : (x == ("__debug__" : Str)) = false := by decide) :
    PE X (.Call (.Name x p) [] [] pos) (tCall sp [] E tNil) := by
  obtain ⟨f, fd, h1, h2, h3, h4⟩ := D.ex
  exact pe_call0 h4 (hr.mono hk) hg h1 h2 h3 .nil hx hdb
end
section
variable {X : Cx} {k k' : Nat} {x : Str} {ps ks : List Str} {sp : Sp} {E : XK} {p pos : Pos} {e : Expr} {es : List Expr} {t tk : TA} {kws : List Keyword}
end
theorem ifB {c : Bool} {A B : Prop} (hT : c = true → A) (hF : c = false → B) : if c = true then A else B := by
  cases c with
  | true => rw [if_pos rfl]; exact hT rfl
  | false => rw [if_neg (by decide)]; exact hF rfl
theorem ne_int' (x y : Int) : (!decide (V.int x = V.int y)) = decide (x ≠ y) := by
  by_cases h : x = y
  · subst h; simp
  · rw [decide_eq_false (fun e => h (V.int.inj e)), decide_eq_true h]; rfl
theorem eq_int' (x y : Int) : decide (V.int x = V.int y) = decide (x = y) := by
  by_cases h : x = y
  · subst h; simp
  · rw [decide_eq_false (fun e => h (V.int.inj e)), decide_eq_false h]
theorem SqL.upd {K : PySem.W.Frag} {H : Hp} {a b : Addr} {o : HO} {xs : List V} (h : SqL K H a xs) (n : a ≠ b) : SqL K (upd H b o) a xs := by
  rcases h with (h | ⟨o', h⟩) | h
  · exact .inl (.inl (by rw [upd_ne n]; exact h))
  · exact .inl (.inr ⟨o', by rw [upd_ne n]; exact h⟩)
  · exact .inr h
theorem Same.new {H : Hp} {p : Addr} {o : HO} (h : H p = none) : Same H (upd H p o) := fun b u e => by rw [upd_ne (ne_of_none e h)]; exact e

/-! ### the draws -/
structure TownAt (H : Hp) (t r : Addr) (c : Int) (rs : List (Key × V)) : Prop where
  tw : H t = some (.dK [(Sum.inr "count", .int c), (Sum.inr "rests", .ref r)])
  rt : H r = some (.dK rs)
  vs : ∀ kv ∈ rs, ∃ k z, kv = (Sum.inl k, V.int z)
  c0 : 0 ≤ c
  ln : (rs.length : Int) ≤ c
  ne : t ≠ r
theorem TownAt.same {H H' : Hp} {t r : Addr} {c : Int} {rs : List (Key × V)} (T : TownAt H t r c rs) (e : Same H H') : TownAt H' t r c rs := ⟨e _ _ T.tw, e _ _ T.rt, T.vs, T.c0, T.ln, T.ne⟩
def Apart (t r : Addr) (H H' : Hp) : Prop := ∀ b o, H b = some o → b ≠ t → b ≠ r → H' b = some o
theorem Apart.trans {t r : Addr} {H H1 H2 : Hp} (a : Apart t r H H1) (b : Apart t r H1 H2) : Apart t r H H2 := fun c o e n1 n2 => b c o (a c o e n1 n2) n1 n2
theorem Apart.of {t r : Addr} {H H1 : Hp} (a : Same H H1) : Apart t r H H1 := fun c o e _ _ => a c o e
theorem Apart.seq {K : PySem.W.Frag} {t r a : Addr} {H H' : Hp} {xs : List V} (e : Apart t r H H') (h : SqL K H a xs) (n1 : a ≠ t) (n2 : a ≠ r) : SqL K H' a xs := by
  rcases h with (h | ⟨o, h⟩) | h
  · exact .inl (.inl (e _ _ h n1 n2))
  · exact .inl (.inr ⟨o, e _ _ h n1 n2⟩)
  · exact .inr h
theorem rests_val {rs : List (Key × V)} (h : ∀ kv ∈ rs, ∃ k z, kv = (Sum.inl k, V.int z)) (k : Int) (d : Int) : ∃ z, (valV rs (Sum.inl k : Key)).getD (.int d) = .int z := by
  cases e : rs.find? fun kv => decide (kv.1 = (Sum.inl k : Key)) with
  | none => exact ⟨d, by unfold valV; rw [e]; rfl⟩
  | some p =>
    obtain ⟨k', z, rfl⟩ := h p (List.mem_of_find?_eq_some e)
    exact ⟨z, by unfold valV; rw [e]; rfl⟩
theorem rests_put {rs : List (Key × V)} (h : ∀ kv ∈ rs, ∃ k z, kv = (Sum.inl k, V.int z)) (k z : Int) : (∀ kv ∈ putK rs (Sum.inl k : Key) (.int z), ∃ k z, kv = (Sum.inl k, V.int z)) ∧ (putK rs (Sum.inl k : Key) (.int z)).length ≤ rs.length + 1 := by
  unfold putK
  split
  · refine ⟨fun kv hm => ?_, by rw [List.length_map]; omega⟩
    obtain ⟨p, hp, rfl⟩ := List.mem_map.mp hm
    obtain ⟨k', z', rfl⟩ := h p hp
    split
    · exact ⟨k', z, rfl⟩
    · exact ⟨k', z', rfl⟩
  · refine ⟨fun kv hm => ?_, by rw [List.length_append]; exact Nat.le_refl _⟩
    rcases List.mem_append.mp hm with hm | hm
    · exact h kv hm
    · exact ⟨k, z, List.mem_singleton.mp hm⟩
theorem cnt_ne : ¬ ((Sum.inr "count" : Key) = (Sum.inr "rests" : Key)) := by
  have h : ¬ ("count" : Str) = "rests" := by decide +kernel
  exact fun e => h (Sum.inr.inj e)
theorem town_put (c d : Int) (r : Addr) : putK [((Sum.inr "count" : Key), V.int c), (Sum.inr "rests", V.ref r)] (Sum.inr "count") (.int d) = [((Sum.inr "count" : Key), V.int d), ((Sum.inr "rests" : Key), V.ref r)] := by
  have h : ¬ ((Sum.inr "rests" : Key) = (Sum.inr "count" : Key)) := fun e => cnt_ne e.symm
  unfold putK
  rw [if_pos (by simp)]
  simp only [List.map_cons, List.map_nil, if_true, if_neg h]
theorem dget_count {H : Hp} {t r : Addr} {c : Int} (h : H t = some (.dK [(Sum.inr "count", .int c), (Sum.inr "rests", .ref r)])) : DGet H t (.str "count") (some (.int c)) := by
  have e := DGet.k (k := (Sum.inr "count" : Key)) h
  rw [valV_pos rfl] at e
  exact e
theorem dget_rests {H : Hp} {t r : Addr} {c : Int} (h : H t = some (.dK [(Sum.inr "count", .int c), (Sum.inr "rests", .ref r)])) : DGet H t (.str "rests") (some (.ref r)) := by
  have e := DGet.k (k := (Sum.inr "rests" : Key)) h
  rw [valV_neg cnt_ne, valV_pos rfl] at e
  exact e
theorem dput_count {H : Hp} {t r : Addr} {c : Int} (d : Int) (h : H t = some (.dK [(Sum.inr "count", .int c), (Sum.inr "rests", .ref r)])) : DPut H t (.str "count") (.int d) (upd H t (.dK [(Sum.inr "count", .int d), (Sum.inr "rests", .ref r)])) := by
  have e := DPut.k (k := (Sum.inr "count" : Key)) (v := .int d) h (by show 2 < sizeLine; decide)
  rw [town_put] at e
  exact e
/-- a draw: some number below many, and the town has counted it -/
def spDraw (K : PySem.W.Frag) : Sp := fun vs H Q _ => ∃ (a t r : Addr) (ns : List Int) (c many : Int) (rs : List (Key × V)), vs = [.ref a, .ref t, .int many] ∧ SqL K H a (ns.map V.int) ∧ TownAt H t r c rs ∧ a ≠ t ∧ a ≠ r ∧ ns.length ≤ 63 ∧ c < 100000 ∧ 0 < many ∧ many < 1000000 ∧
  ∀ (v : Int) (rs' : List (Key × V)) (H' : Hp), 0 ≤ v → v < many → TownAt H' t r (c + 1) rs' → Apart t r H H' → Q (.int v) H'
/-- a new town -/
def spBegun : Sp := fun vs H Q _ => vs = [] ∧ ∀ (t r : Addr) (H' : Hp), H t = none → H r = none → TownAt H' t r 0 [] → Same H H' → Q (.ref t) H'
/-- Python's own names that the text leaves -/
structure Own (mg : Str → Option Value) : Prop where
  len : mg "len" = none
  range : mg "range" = none
  abs : mg "abs" = none
  max : mg "max" = none
  int : mg "int" = none
  isi : mg "isinstance" = none
  bool : mg "bool" = none
  val : mg "ValueError" = none
  reversed : mg "reversed" = none
  divmod : mg "divmod" = none
  str : mg "str" = none
  sum : mg "sum" = none
end L2

set_option Elab.async false
set_option linter.all false
set_option maxRecDepth 100000
namespace L2
open PySem PySem.Spec PyProof.Rows
section
variable {X : Cx} {k : Nat} {x qual : Str} {st : Stmt} {fa : Addr} {fd : FuncData} {N : List Str} {p1 : Str} {E : XK} {c P : Addr} {q : Str} {params : Arguments} {body : Expr} {scope : Scope} {p lpos cpos : Pos} {th : St → Addr → Addr → Hp → VK → Prop}
end

/-- the free names of a lambda are cells around it -/
def freeIn (sc outer : Scope) : Bool := sc.names.all fun y => !(y.2 == .free) || outer.names.lookup y.1 == some .cell
theorem freeIn_at {sc outer : Scope} (h : freeIn sc outer = true) : ∀ y ∈ sc.names, y.2 = .free → outer.names.lookup y.1 = some .cell := fun y hy e => by
  have q := List.all_eq_true.mp h y hy
  rw [e] at q
  simpa using q
/-- a def and its code -/
structure FunC (K : PySem.W.Frag) (x qual : Str) (st : Stmt) (f : Addr) (fd : FuncData) (cdv : Value) : Prop where
  ex : ∃ (oc : Value) (od : Option Addr) (kV doc pm : Value) (an : Option Addr) (ct : Value) (osl : Array (Option Value)),
    fd = PySem.W.fnOf x qual (defArgs st) (defBody st) (defScope st) .none kV doc pm an cdv ct ∧ K.lookup f = some ⟨oc, od, .func fd, osl⟩ ∧ PySem.W.codeIn K cdv qual = true
theorem okNC {P : Program} {w : World} {K : PySem.W.Frag} {mg : Str → Option Value} {base : Heap} {x qual : Str} {st : Stmt} {f : Addr} {fd : FuncData} {cdv : Value} {N ps : List Str} {k : Nat} {sp : Sp} (F : FunC K x qual st f fd cdv) (S : FnScope N ps (defScope st)) (len : ∀ vs H Q E, sp vs H Q E → vs.length = ps.length)
    (hbody : ∀ (A : Around) (outer : List Env) (s : Shared) (H : Hp) (vs : List V) (Q : VK) (E : XK), Room k (A.deeper (envOfC qual (defScope st) s.heap.objs.size f cdv)) → sp vs H Q E →
      ∃ t, PSs (cxOf (CXE P w) P w K mg base N qual (defScope st) f cdv A outer s H E).nox (defBody st) t ∧ t { nx := fun _ H' => Q .non H', rt := Q } (start N vs) H) : FnOk P w K mg base (CXE P w) (k + 1) f fd ps sp := by
  obtain ⟨oc, od, kV, doc, pm, an, ct, osl, rfl, lk, hcd⟩ := F.ex
  exact fn_of lk hcd S len fun A outer s H vs Q E hr hsp => by
    obtain ⟨t, h, q⟩ := hbody A outer s H vs Q E hr hsp
    exact ⟨t, h.nox, q⟩
/-- a def at the top: its name, its object -/
structure DefAt (K : PySem.W.Frag) (x : Str) (st : Stmt) : Prop where
  ex : ∃ f fd, PySem.W.nsIn K mainGlobals x = some (some (.ref f)) ∧ Fun K x x st f fd
theorem defAt_mk {K : PySem.W.Frag} {x : Str} {st : Stmt} {f : Addr} {oc : Value} {od an : Option Addr} {osl : Array (Option Value)} {kV doc pm cdv ct : Value} (a : PySem.W.nsIn K mainGlobals x = some (some (.ref f)))
    (l : K.lookup f = some ⟨oc, od, .func (PySem.W.fnOf x x (defArgs st) (defBody st) (defScope st) .none kV doc pm an cdv ct), osl⟩) (c : PySem.W.codeIn K cdv x = true) (k : PySem.W.keepIn K (.ref f) = true) : DefAt K x st :=
  ⟨f, _, a, ⟨⟨oc, od, kV, doc, pm, an, cdv, ct, osl, rfl, l, c⟩, k⟩⟩
section
variable {P : Program} {w : World} {K : PySem.W.Frag} {mg : Str → Option Value} {base h : Heap} {x : Str} {st : Stmt} {k : Nat} {ps : List Str} {sp : Sp}
theorem DefAt.def (D : DefAt K x st) (X : K.In h) (G : h.Ns mainGlobals mg) (hok : ∀ f fd, Fun K x x st f fd → FnOk P w K mg base (CXE P w) k f fd ps sp)
    (hb : ∀ (kV doc pm : Value) (an : Option Addr) (cdv ct : Value) (us : List Value), us.length = ps.length → bindArgs (PySem.W.fnOf x x (defArgs st) (defBody st) (defScope st) .none kV doc pm an cdv ct) ⟨us, []⟩ = pure (ps.zip us)) : Def P w K mg base k x ps sp := by
  obtain ⟨f, fd, a, F⟩ := D.ex
  exact ⟨f, fd, PySem.W.mg_of X G a, F.kp, F.binds hb, hok f fd F⟩
end
/-! two ways that meet again -/
theorem ifJoinE {k : Bool} {ta tb : TE} {σ : St} {H : Hp} {Q : VK} (Good : V → Hp → Prop) (hT : k = true → (∀ v H', Good v H' → Q v H') → ta σ H Q) (hF : k = false → (∀ v H', Good v H' → Q v H') → tb σ H Q) (rest : ∀ v H', Good v H' → Q v H') : if k = true then ta σ H Q else tb σ H Q := by
  cases k with
  | true => rw [if_pos rfl]; exact hT rfl rest
  | false => rw [if_neg (by decide)]; exact hF rfl rest
/-! like tuples -/
section
variable {H H' : Hp} {a t r Pa : Addr} {q : Str} {ns : List Int} {c c' : Int} {K : PySem.W.Frag}
end
end L2

set_option Elab.async false
set_option linter.all false
set_option maxRecDepth 100000
/-! comprehensions: one clause, over what a loop can walk; the block's own names only -/
namespace L2
open PySem PySem.Spec PyProof.Rows
def blkEnv (scope : Scope) (env : Env) (C : Addr) : Env :=
  { scope := scope, locals := C, globals := env.globals, cells := cellsFrom (C + 1) scope.names [], qual := env.qual, func := none, code := env.code, frame := env.frame, builtins := env.builtins }
/-- the context of a comprehension's block -/
abbrev cxBlk (X : Cx) (NB : List Str) (scope : Scope) (s : Shared) (H : Hp) (ex : List Addr) : Cx :=
  { X with N := NB, s₀ := s, H₀ := H, env := blkEnv scope X.env s.heap.objs.size, outer := X.stack, ex := ex, fn := fun _ => true, pn := [], xe := fun _ _ => False }
structure BlkScope (NB : List Str) (scope : Scope) : Prop where
  kind : scope.kind = .function
  nd : NB.Nodup
  nofree : ∀ y ∈ scope.names, y.2 ≠ .free
  loc : ∀ y ∈ scope.names, y.2 = .local → scope.names.lookup y.1 = some .local
theorem relabel_same {scope : Scope} {env : Env} (h : ∀ y ∈ scope.names, y.2 ≠ .free) : relabel scope env = scope := by
  obtain ⟨k, names, g, c, m⟩ := scope
  have e : ∀ l : List (Str × NameKind), (∀ y ∈ l, y.2 ≠ .free) → (l.map fun (n, k) => if (k == NameKind.free && env.scope.kind == .function && env.kindOf n == some .cell) then (n, NameKind.cell) else (n, k)) = l := by
    intro l
    induction l with
    | nil => intro _; rfl
    | cons y r ih =>
      intro hl
      obtain ⟨n, k⟩ := y
      have hk : (k == NameKind.free) = false := beq_eq_false_iff_ne.mpr (hl (n, k) List.mem_cons_self)
      rw [List.map_cons, ih fun y hy => hl y (List.mem_cons_of_mem _ hy)]
      simp only [hk, Bool.false_and, Bool.false_eq_true, if_false]
  unfold relabel
  simp only [e names h]
theorem clos_none {scope : Scope} {env : Env} (h : ∀ y ∈ scope.names, y.2 ≠ .free) : closureFor scope env = pure [] := by
  rw [closureFor_eq fun y hy e => absurd e (h y hy)]
  have e : ∀ (l : List (Str × NameKind)) (acc : List (Str × Addr)), (∀ y ∈ l, y.2 ≠ .free) → closOf env.cells l acc = acc := by
    intro l
    induction l with
    | nil => intro acc _; rfl
    | cons y r ih =>
      intro acc hl
      obtain ⟨n, k⟩ := y
      have hk : (k == NameKind.free) = false := beq_eq_false_iff_ne.mpr (hl (n, k) List.mem_cons_self)
      unfold closOf
      rw [hk]
      exact ih acc fun y hy => hl y (List.mem_cons_of_mem _ hy)
  rw [e _ _ h]
theorem wpAny_newBlock {M : Model} {A : Around} {E : Value → Shared → Prop} {s : Shared} {scope : Scope} {globals : Addr} {qual : Str} {env : Env} {Q : Env → Shared → Prop} (hk : scope.kind = .function)
    (hQ : ∀ cenv s', cenv = { scope := scope, locals := s.heap.objs.size, globals := globals, cells := cellsFrom (s.heap.objs.size + 1) scope.names [], qual := qual, func := none, code := env.code, frame := env.frame, builtins := env.builtins } →
      InCallC s s.heap.objs.size (fun _ => none) (cellsFrom (s.heap.objs.size + 1) scope.names []) (fun _ => none) s' → Q cenv s') :
    wpAny M A (newFunctionEnv scope globals [] [] qual none .none (some env)) Q E s := by
  simp only [newFunctionEnv, Option.isSome_some, if_true]
  refine wpAny_bind (wpAny_alloc ?_)
  refine wpAny_bind (wpAny_layCells _ (fun name kind cells => by cases hkc : kind == NameKind.cell <;> simp [hkc]) _ _ _ _ ?_)
  have ok := cellsFrom_ok scope.names (s.heap.push { cls := .type "dict", data := .dict #[] }) (s.heap.objs.size + 1) [] ⟨fun _ _ hm => (nomatch hm), List.Pairwise.nil⟩ (by rw [Heap.size_push]; exact Nat.le_refl _)
  rw [Heap.size_push] at ok
  rw [show ({ s with heap := s.heap.push { cls := .type "dict", data := .dict #[] } } : Shared).heap.objs.size = s.heap.objs.size + 1 from Heap.size_push ..]
  refine wpAny_bind (wpAny_pure (wpAny_pure (hQ _ _ rfl ?_)))
  exact ⟨⟨⟨_, _, rfl⟩, (Heap.Ns.new s.heap (.type "dict")).keeps (pushCells_keeps _ _), fun b o e => pushCells_keeps _ _ b o (Heap.get?_push_of_some _ e), Nat.le_refl _⟩,
      fun n c hc => (ok.empty n c (mem_of_lookup hc)).1, ok.apart, fun n c hm => (ok.empty n c hm).2⟩
section
variable {prog : Program} {w : World} {A : Around} {E : Value → Shared → Prop} {R : Result → Shared → Prop} {s : Shared}
theorem comp_loop {elt target iter : Expr} {ifs : List Expr} {scope : Scope} {pos : Pos} {it acc : Value} {env : Env} (I : Nat → Shared → Prop)
    (turn : ∀ n s, I n s → wpAny (model prog w) A (pyNext it) (fun r s₁ => match r with
      | none => R (.ok .next) s₁
      | some v => wpAny (model prog w) A (letOwnedTupleGo target it v) (fun _ s₁' => wpAny (model prog w) A (assign target env v) (fun _ s₂ =>
          wpAny (model prog w) A (forIn ifs true fun c r => if r = true then do let ok ← isTrue c env (eval c env); pure (ForInStep.yield ok) else pure (ForInStep.yield r)) (fun ok s₃ =>
            if ok = true then wpAny (model prog w) A (eval elt env) (fun x s₄ =>
              wpAny (model prog w) A (call (.builtin "list.append") [acc, x]) (fun _ s₅ => ∃ m, m < n ∧ I m s₅) (notedBy (model prog w) A env fun e s' => R (.error e) s') s₄) (notedBy (model prog w) A env fun e s' => R (.error e) s') s₃
            else ∃ m, m < n ∧ I m s₃) (notedBy (model prog w) A env fun e s' => R (.error e) s') s₂) (notedBy (model prog w) A env fun e s' => R (.error e) s') s₁') (notedBy (model prog w) A env fun e s' => R (.error e) s') s₁) (notedBy (model prog w) A env fun e s' => R (.error e) s') s)
    (n : Nat) (h : I n s) :
    codeAny (model prog w) A (.compLoop (.ListComp elt [⟨target, iter, ifs, 0⟩] scope pos) 0 it acc env) R s := by
  refine codeAny_loop rfl I (fun n s hI => ?_) n h
  show wpAny _ A ((compTurn (.ListComp elt [⟨target, iter, ifs, 0⟩] scope pos) 0 it acc env).onRaise (fun x => do noteFrame x env; theTreesLotGoes x)) _ _ s
  refine wpAny_noted ?_
  rw [compTurn_list]
  refine wpAny_bind (wpAny_standAt (wpAny_bind (wpAny_mono (turn n s hI) (fun r s₁ h₁ => ?_) fun _ _ h' => h')))
  cases r with
  | none => exact wpAny_pure h₁
  | some v =>
    refine wpAny_bind (wpAny_mono h₁ (fun _ s₁' h₁' => ?_) fun _ _ h' => h')
    refine wpAny_bind (wpAny_mono h₁' (fun _ s₂ h₂ => wpAny_bind (wpAny_mono h₂ (fun ok s₃ h₃ => ?_) fun _ _ h' => h')) fun _ _ h' => h')
    cases ok with
    | false => exact wpAny_pure ⟨rfl, h₃⟩
    | true =>
      exact wpAny_bind (wpAny_bind (wpAny_mono h₃ (fun x s₄ h₄ => wpAny_bind (wpAny_mono h₄ (fun _ s₅ h₅ => wpAny_pure (wpAny_pure ⟨rfl, h₅⟩)) fun _ _ h' => h')) fun _ _ h' => h'))
end
/-- the tests of a clause -/
def PTs (X : Cx) (ifs : List Expr) (t : TT) : Prop :=
  ∀ (pins : List (Addr × Obj)) (s : Shared) (σ : St) (H : Hp) (Q : Bool → Hp → Prop), Inv X pins σ H s → t σ H Q →
    wpAny (model X.prog X.w) X.A (forIn ifs true fun c r => if r = true then do let ok ← isTrue c X.env (eval c X.env); pure (ForInStep.yield ok) else pure (ForInStep.yield r)) (TP X pins σ Q) X.xe s
def tAll : TT := fun _ H Q => Q true H
theorem pts_nil {X : Cx} : PTs X [] tAll := fun pins s σ H Q I h => wpAny_tests_nil ⟨H, I, h⟩
theorem pts_one {X : Cx} {c : Expr} {t : TT} (h : PT X c t) : PTs X [c] t := fun pins s σ H Q I q => wpAny_tests_one (h pins s σ H Q I q)
/-- [elt for tg in iter if ..] -/
def tComp (NB : List Str) (wi : TI) (g : TG) (tt : TT) (te : TE) : TE := fun σ H Q => wi σ H fun J H1 => ∃ W : Nat → Nat → List V → Hp → Prop, (∃ m, W 0 m [] H1) ∧ ∀ i m vs H, W i m vs H →
  (J.stop i H ∧ ∀ p, H p = none → Q (.ref p) (upd H p (.lst vs))) ∨ (J.go i H ∧ vs.length < sizeLine ∧ ∃ N : List V → Hp → Prop, (∀ vs' H', N vs' H' → ∃ m', m' < m ∧ W (i + 1) m' vs' H') ∧
    ∀ x H', J.yld i H x H' → g x (List.replicate NB.length none) H' fun σ2 H2 => tt σ2 H2 fun b H3 => if b = true then te σ2 H3 fun v H4 => N (vs ++ [v]) H4 else N vs H3)
abbrev lstO (ys : List Value) : Obj := { cls := .type "list", data := .seq ys.toArray ys.length }
section
variable {X : Cx}
theorem pe_lcomp {elt tg iter : Expr} {ifs : List Expr} {scope : Scope} {pos : Pos} {NB : List Str} {wi : TI} {g : TG} {tt : TT} {te : TE} (hc : X.calm = true) (S : BlkScope NB scope) (hi : PI X tg iter wi)
    (hg : ∀ s H ex, PG (cxBlk X NB scope s H ex) tg g) (ht : ∀ s H ex, PTs (cxBlk X NB scope s H ex) ifs tt) (he : ∀ s H ex, PE (cxBlk X NB scope s H ex) elt te)
    (hs : ∀ x, foldedSetIterable iter X.env x = pure x := by intro _; rfl) : PE X (.ListComp elt [⟨tg, iter, ifs, 0⟩] scope pos) (tComp NB wi g tt te) := by
  intro pins s σ H Q I h
  rw [eval_ListComp]
  refine wpAny_comprehension_free (use := none) (cl := []) rfl hs (clos_none S.nofree) S.kind S.loc (thn (hi pins s σ H _ I h) fun v s1 h1 => thn h1 fun itv s2 h2 => ?_)
  obtain ⟨it, fp, tn, J, H2, e, I2, T, st2, f2, W, ⟨m0, w0⟩, turn⟩ := h2
  subst e
  refine wpAny_newObj_type ?_
  have up2 : ∀ b o, s2.heap.get? b = some o → (s2.heap.push { cls := .type "list", data := .seq ([] : List Value).toArray }).get? b = some o := fun b o e => Heap.get?_push_of_some _ e
  have I3 : Inv X pins σ H2 { s2 with heap := s2.heap.push { cls := .type "list", data := .seq ([] : List Value).toArray } } := I2.kept (t' := s2.toks) up2
  have st3 : tn 0 (s2.heap.push { cls := .type "list", data := .seq ([] : List Value).toArray }) := T.keep _ _ _ st2 fun b _ o e => up2 b o e
  have hD3 : (s2.heap.push { cls := .type "list", data := .seq ([] : List Value).toArray }).get? s2.heap.objs.size = some (lstO []) := Heap.get?_push_size _ rfl
  have hD2 : H2 s2.heap.objs.size = none := I2.hok.fresh (Nat.le_refl _)
  have lt2 : ∀ b o, s2.heap.get? b = some o → b ≠ s2.heap.objs.size := fun b o e => Nat.ne_of_lt (Heap.lt_size e)
  have fpO : ∀ b ∈ fp, ∃ o, s2.heap.get? b = some o := fun b hb => let ⟨o, e, _⟩ := T.obj _ _ st2 b hb; ⟨o, e⟩
  have hDs0 : X.s₀.heap.objs.size ≤ s2.heap.objs.size := I2.sz
  have hDL : s2.heap.objs.size ≠ X.env.locals := Nat.ne_of_gt I2.lt
  have hDC : ∀ x c, X.env.cells.lookup x = some c → c ≠ s2.heap.objs.size := fun x c e => let ⟨v, o, e1, _⟩ := I2.cell x c e; lt2 c o e1
  have hDp : ∀ p ∈ X.pn ++ pins, p.1 ≠ s2.heap.objs.size := fun p hp => lt2 p.1 _ (I2.pin p hp).1
  have hDf : s2.heap.objs.size ∉ frs X.stack := fun z => let ⟨o, e, _⟩ := (I2.stack.mem z).2; lt2 _ o e rfl
  generalize hS3 : ({ s2 with heap := s2.heap.push { cls := .type "list", data := .seq ([] : List Value).toArray } } : Shared) = s3 at I3 ⊢
  have hh3 : s3.heap = s2.heap.push { cls := .type "list", data := .seq ([] : List Value).toArray } := by rw [← hS3]
  rw [← hh3] at st3 hD3 up2
  generalize s2.heap.objs.size = D at hD3 hD2 lt2 hDs0 hDL hDC hDp hDf ⊢
  refine wpAny_newBlock S.kind fun cenv s4 hce x4 => ?_
  subst hce
  rw [relabel_same S.nofree]
  have lt3 : ∀ b o, s3.heap.get? b = some o → b < s3.heap.objs.size := fun b o e => Heap.lt_size e
  have fp3 : ∀ b ∈ fp, b < s3.heap.objs.size := fun b hb => let ⟨o, e⟩ := fpO b hb; lt3 b o (up2 b o e)
  have dl3 : D < s3.heap.objs.size := lt3 D _ hD3
  have DfpN : ∀ b ∈ fp, b ≠ D := fun b hb => let ⟨o, e⟩ := fpO b hb; lt2 b o e
  obtain ⟨h4, tk4, rfl, hk4⟩ := x4.done
  have bsN : ∀ b o, X.base.get? b = some o → b ∉ D :: fp := fun b o e hb => by
    rcases List.mem_cons.mp hb with rfl | hb
    · exact absurd (Nat.lt_of_lt_of_le (Heap.lt_size (I2.ok.bs b o e).1) hDs0) (Nat.lt_irrefl _)
    · obtain ⟨_, _, _, f3, _⟩ := f2 b hb
      rcases f3 with z | z
      · exact I2.ok.noex b o e z
      · exact absurd (Nat.lt_of_lt_of_le (Heap.lt_size (I2.ok.bs b o e).1) z) (Nat.lt_irrefl _)
  have exF : ∀ b ∈ D :: fp, b ∉ frs X.stack := fun b hb hf => by
    rcases List.mem_cons.mp hb with rfl | hb
    · exact hDf hf
    · obtain ⟨_, f1, f2', _⟩ := f2 b hb
      rcases List.mem_cons.mp (I2.stkSub b hf) with z | z
      · exact f1 z
      · exact f2' z
  have cge : ∀ y c, (cellsFrom (s3.heap.objs.size + 1) scope.names []).lookup y = some c → s3.heap.objs.size < c := fun y c e => x4.above y c (PySem.mem_of_lookup e)
  have exLt : ∀ b ∈ D :: fp, b < s3.heap.objs.size := fun b hb => by
    rcases List.mem_cons.mp hb with rfl | hb
    · exact dl3
    · exact fp3 b hb
  have okB : (cxBlk X NB scope s3 H2 (D :: fp)).Ok := by
    refine ⟨I3.ok.mod, S.kind, I3.ok.glob, I3.ok.blt, Nat.le_refl _, fun y z c h1 h2 => ?_, fun y hy => ?_, fun y c _ h => Nat.le_of_lt (cge y c h), I3.ok.hd, I3.ok.frames, .inl rfl, fun b hb => ⟨Nat.ne_of_lt (exLt b hb), fun y c e z => ?_⟩, I3.bs, Nat.le_trans I3.ok.bsz I3.sz, bsN, exF, I3.stack, I3.stkFree⟩
    · exact name_of_addr x4.apart (PySem.mem_of_lookup h1) (PySem.mem_of_lookup h2)
    · have hy : scope.names.lookup y = some .cell ∨ scope.names.lookup y = some .free := hy
      rcases hy with hy | hy
      · exact cell_has hy
      · exact absurd rfl (S.nofree _ (PySem.mem_of_lookup hy))
    · have := cge y c e
      rw [z] at this
      exact absurd (Nat.lt_trans this (exLt b hb)) (Nat.lt_irrefl _)
  have rep : ∀ (j : Nat) (v : V), (List.replicate NB.length (none : Option V))[j]? ≠ some (some v) := fun j v z => by
    rw [List.getElem?_replicate] at z
    split at z <;> cases z
  have IB : Inv (cxBlk X NB scope s3 H2 (D :: fp)) [(D, lstO [])] (List.replicate NB.length none) H2 { s3 with heap := h4, toks := tk4 } := by
    refine ⟨okB, rfl, I3.bare, Un.kept hk4, ⟨_, x4.toInCall.ns, fun i y v h1 h2 h3 => absurd h2 (rep i v)⟩, fun y c h => ⟨_, x4.cell y c h⟩, I3.hok.fresh (Nat.le_refl _), fun y c h => I3.hok.fresh (Nat.le_of_lt (cge y c h)), fun p hp => ?_, I3.hok.kept hk4, by rw [List.length_replicate]⟩
    obtain rfl : p = (D, lstO []) := by simpa using hp
    exact ⟨hk4 _ _ hD3, hD2, Nat.ne_of_lt dl3, hDf, fun v z => nomatch z⟩
  -- what stays true of the iterator's objects
  have stat : ∀ {H' : Hp} {ys : List Value}, (∀ b ∈ fp, H' b = none) → ∀ b ∈ fp, FpOk (cxBlk X NB scope s3 H2 (D :: fp)) [(D, lstO ys)] H' b := fun hn b hb =>
    ⟨hn b hb, Nat.ne_of_lt (fp3 b hb), exF b (List.mem_cons_of_mem _ hb), .inl (List.mem_cons_of_mem _ hb), fun y c e z => by
      have := cge y c e
      rw [z] at this
      exact absurd (Nat.lt_trans this (fp3 b hb)) (Nat.lt_irrefl _), fun p hp => by
        obtain rfl : p = (D, _) := by simpa using hp
        exact (DfpN b hb).symm⟩
  have st4 : tn 0 h4 := T.keep _ _ _ st3 fun b _ o e => hk4 b o e
  have fr4 : ∀ b ∈ fp, H2 b = none := fun b hb => (f2 b hb).1
  have hcB : (cxBlk X NB scope s3 H2 (D :: fp)).calm = true := hc
  have loop : codeAny (model X.prog X.w) X.A (.compLoop (.ListComp elt [⟨tg, iter, ifs, 0⟩] scope pos) 0 (.ref it) (.ref D) (blkEnv scope X.env s3.heap.objs.size))
      (compPost (model X.prog X.w) X.A X.xe none (EP X pins σ Q) (.ref D) s3.heap.objs.size) { s3 with heap := h4, toks := tk4 } := by
    refine comp_loop (fun n s' => ∃ i vs ys H', Inv (cxBlk X NB scope s3 H2 (D :: fp)) [(D, lstO ys)] (List.replicate NB.length none) H' s' ∧ Vals vs ys ∧ vs.length ≤ sizeLine ∧ tn i s'.heap ∧ (∀ b ∈ fp, H' b = none) ∧ W i n vs H') ?_ m0 ⟨0, [], [], H2, IB, .nil, Nat.zero_le _, st4, fr4, w0⟩
    rintro n s5 ⟨i, vs, ys, H5, I5, rv, hvl, st5, fr5, w5⟩
    rcases turn i n vs H5 w5 with ⟨stop, qn⟩ | ⟨go, hlt, N, hN, step⟩
    · refine wpAny_mono (T.done (cxBlk X NB scope s3 H2 (D :: fp)) rfl rfl rfl hcB i _ s5 _ H5 (fun _ _ => False) I5 (stat fr5) st5 stop) (fun r s6 ⟨hr, I6⟩ => ?_) (fun _ _ z => z.elim)
      subst hr
      obtain ⟨m6, hn6, _⟩ := id I6.loc
      refine ⟨m6, hn6, fun h7 sb7 => ?_⟩
      have kp7 : ∀ b o, b ≠ s3.heap.objs.size → s6.heap.get? b = some o → h7.get? b = some o := fun b o hb e => (sb7.2 b hb).trans e
      have hC6 : H5 s3.heap.objs.size = none := I6.free
      have un7 : Un (frs X.stack) (D :: fp) H2 H5 s3.heap h7 := by
        have u := I6.base
        refine ⟨fun b o e n hb hx => kp7 b o (Nat.ne_of_lt (Heap.lt_size e)) (u.keep b o e n hb hx), fun b o e n hb hx => ?_, u.free, fun b o e hx => ?_, u.tups, u.frzs, u.tbls⟩
        · obtain ⟨sl, q⟩ := u.slot b o e n hb hx
          exact ⟨sl, kp7 b _ (Nat.ne_of_lt (Heap.lt_size e)) q⟩
        · obtain ⟨o', q⟩ := u.there b o e hx
          exact ⟨o', kp7 b _ (Nat.ne_of_lt (Heap.lt_size e)) q⟩
      have hok7 : HOk X.prog X.w H5 h7 := fun b u e => (I6.hok b u e).stay (fun c w' hcc q => kp7 c w' (by
        rintro rfl
        rcases hcc with rfl | hcc
        · rw [hC6] at e; cases e
        · rw [hC6] at hcc; cases hcc) q) (fun _ q => q) fun _ _ q => q
      have I7 : Inv X pins σ H5 { s6 with heap := h7 } := I3.call' (s' := { s6 with heap := h7 }) I6.os un7 hok7 I6.bare fun b hb => by
        rcases List.mem_cons.mp hb with rfl | hb
        · exact ⟨.inr hDs0, hDL, hDC, hDp⟩
        · obtain ⟨_, f1, _, f3, f4, f5⟩ := f2 b hb
          exact ⟨f3, f1, f4, f5⟩
      obtain ⟨eD, nD, _⟩ := I6.pin (D, lstO ys) (by simp)
      have nD' : H5 D = none := nD
      have eD' : h7.get? D = some (lstO ys) := kp7 D _ (Nat.ne_of_lt dl3) eD
      have hD0 : X.s₀.heap.get? D = none := by
        cases q : X.s₀.heap.get? D with
        | none => rfl
        | some o => exact absurd (Nat.lt_of_lt_of_le (Heap.lt_size q) hDs0) (Nat.lt_irrefl _)
      exact ⟨.ref D, upd H5 D (.lst vs), I7.track nD' hD0 hDL hDC hDp ⟨hvl, ys, ys.length, rv, eD'⟩, rfl, qn D nD'⟩
    · refine wpAny_mono (T.item (cxBlk X NB scope s3 H2 (D :: fp)) rfl rfl rfl hcB i _ s5 _ H5 (fun _ _ => False) I5 (stat fr5) st5 go) (fun r s6 ⟨u, hr, h6⟩ => ?_) (fun _ _ z => z.elim)
      subst hr
      refine wpAny_mono h6 (fun _ s7 ⟨x, H7, I7, r7, y7, st7, fr7⟩ => ?_) (fun _ _ z => z.elim)
      have I7' := I7.pinned (stat fr7) (T.obj _ _ st7)
      refine wpAny_mono (hg s3 H2 (D :: fp) _ s7 _ H7 x u _ I7' r7 (step x H7 y7)) (fun _ s8 ⟨σ8, H8, I8, q8⟩ => ?_) (fun _ _ z => z.elim)
      refine wpAny_mono (ht s3 H2 (D :: fp) _ s8 σ8 H8 _ I8 q8) (fun ok s9 ⟨H9, I9, q9⟩ => ?_) (fun _ _ z => z.elim)
      have fpK : ∀ {σ' : St} {H' : Hp} {s' : Shared}, Inv (cxBlk X NB scope s3 H2 (D :: fp)) ([(D, lstO ys)] ++ pinsAt fp s7.heap) σ' H' s' → tn (i + 1) s'.heap ∧ ∀ b ∈ fp, H' b = none := fun J =>
        ⟨T.keep _ _ _ st7 fun b hb o e => (J.pin (b, o) (List.mem_append_right _ (List.mem_append_right _ (mem_pinsAt hb e)))).1, fun b hb => by
          obtain ⟨o, e, d⟩ := T.obj _ _ st7 b hb
          exact (J.pin (b, o) (List.mem_append_right _ (List.mem_append_right _ (mem_pinsAt hb e)))).2.1⟩
      have wk : ∀ {σ' : St} {H' : Hp} {s' : Shared} {pl : List (Addr × Obj)}, Inv (cxBlk X NB scope s3 H2 (D :: fp)) pl σ' H' s' → Inv (cxBlk X NB scope s3 H2 (D :: fp)) pl (List.replicate NB.length none) H' s' := fun J =>
        J.weak (by rw [List.length_replicate]; exact J.len.symm) fun j v z => absurd z (rep j v)
      cases ok with
      | false =>
        rw [if_neg (by decide)] at q9
        rw [if_neg (by decide)]
        obtain ⟨m', hm, w9⟩ := hN vs H9 q9
        obtain ⟨t9, f9⟩ := fpK I9
        exact ⟨m', hm, i + 1, vs, ys, H9, wk I9.unpinned, rv, hvl, t9, f9, w9⟩
      | true =>
        rw [if_pos rfl] at q9
        rw [if_pos rfl]
        refine wpAny_mono (he s3 H2 (D :: fp) _ s9 σ8 H9 _ I9 q9) (fun y s10 ⟨v, H10, I10, rv10, q10⟩ => ?_) (fun _ _ z => z.elim)
        obtain ⟨eD, nD, _, nf, _⟩ := I10.pin (D, lstO ys) (by simp)
        have hyl := rv.length
        refine append_at (hsz := by show ys.toArray.size ≤ sizeLine; rw [List.size_toArray, ← hyl]; exact hvl) eD fun h11 sb11 hD11 => ?_
        obtain ⟨m', hm, w11⟩ := hN (vs ++ [v]) H10 q10
        obtain ⟨t10, f10⟩ := fpK I10
        have I10u := I10.unpinned
        have k11 : ∀ b o, b ≠ D → s10.heap.get? b = some o → h11.get? b = some o := fun b o hb e => (sb11.2 b hb).trans e
        have IE : Inv (cxBlk X NB scope s3 H2 (D :: fp)) [] σ8 H10 s10 := I10u.pins_of fun p hp => nomatch hp
        have I11 : Inv (cxBlk X NB scope s3 H2 (D :: fp)) [] σ8 H10 { s10 with heap := h11 } := IE.turned (t' := s10.toks) k11 nD (Nat.ne_of_lt dl3) (.inl List.mem_cons_self) (fun y' c e z => by
          have := cge y' c e
          rw [z] at this
          exact absurd (Nat.lt_trans this dl3) (Nat.lt_irrefl _)) (fun p hp => absurd (show p ∈ ([] : List (Addr × Obj)) from hp) (by simp))
        have eL : ({ cls := .type "list", data := .seq (ys.toArray.push y) (ys.length + 1) } : Obj) = lstO (ys ++ [y]) := by
          show ({ cls := .type "list", data := .seq (ys.toArray.push y) (ys.length + 1) } : Obj) = { cls := .type "list", data := .seq (ys ++ [y]).toArray (ys ++ [y]).length }
          rw [List.length_append, List.length_singleton, List.push_toArray]
        refine ⟨m', hm, i + 1, vs ++ [v], ys ++ [y], H10, wk (I11.pins_of fun p hp => ?_), rv.append (.cons rv10 .nil), by rw [List.length_append, List.length_singleton]; exact hlt, T.keep _ _ _ t10 fun b hb o e => k11 b o (DfpN b hb) e, f10, w11⟩
        obtain rfl : p = (D, lstO (ys ++ [y])) := by simpa using hp
        exact ⟨by rw [← eL]; exact hD11, nD, Nat.ne_of_lt dl3, nf, fun v z => nomatch z⟩
  exact codeAny_compStart_list loop (T.self _ 0 _ _ _ st4 loop)
end
end L2

set_option Elab.async false
set_option linter.all false
set_option maxRecDepth 100000
/-! texts: methods, slices, join of a list turned round -/
namespace L2
open PySem PySem.Spec PyProof.Rows
open Builtin Builtin.Str
section
variable {prog : Program} {w : World} {A : Around} {E : Value → Shared → Prop} {s : Shared}
theorem call_gives {name : Str} {id : String} {B : Builtin} {x : Str} {t : Tok} {rest : List Value} {m : Made} {Q : Value → Shared → Prop} (slot : Slot "str" name id) (entry : entryFor table id = some B) (args : argsOk id ⟨.str x t :: rest, []⟩)
    (g : Gives (B ⟨.str x t :: rest, []⟩) m) (h : m.post Q s) : wpAny (model prog w) A (call (.builtin id) (.str x t :: rest)) Q E s :=
  wpAny_call (codeAny_call_builtin slot.plain entry (slot.check _ _ _ _ _ _ _ _ (typeIs_str _ _ _) args (g prog w A (wants Q E) s h)))
end
section
variable {X : Cx}
def rTxt (C : Str → Str → Prop) (f : Str → Str → V) : V → List V → Hp → VK → Prop := fun x vs H Q => ∃ z y, x = .str z ∧ vs = [.str y] ∧ C z y ∧ Q (f z y) H
def CLen (z _ : Str) : Prop := z.length ≤ sizeLine
theorem mt_strip : MtR X "str.strip" (rTxt CLen fun z y => .str (Txt.stripChars z y)) := by
  intro pins s σ H x vs v us Q I rx rv h
  obtain ⟨z, y, rfl, rfl, hl, q⟩ := h
  obtain ⟨t, rfl⟩ := rx
  obtain ⟨u, rfl, t', rfl⟩ := vals1 rv
  exact call_gives F.slot_str_strip F.entry_str_strip (F.args_str_strip_2 _ _) (gives_str_strip_chars z y t t') (post_val_or_made (fun _ => fits_stripped _ _ _ hl) fun t2 k => ⟨.str _, H, I.tok k, ⟨t2, rfl⟩, q⟩)
theorem mt_startswith : MtR X "str.startswith" (rTxt (fun _ _ => True) fun z y => .bl (Txt.startswith z y)) := by
  intro pins s σ H x vs v us Q I rx rv h
  obtain ⟨z, y, rfl, rfl, _, q⟩ := h
  obtain ⟨t, rfl⟩ := rx
  obtain ⟨u, rfl, t', rfl⟩ := vals1 rv
  exact call_gives F.slot_str_startswith F.entry_str_startswith (F.args_str_startswith_2 _ _) (gives_str_startswith z y t t') ⟨.bl _, H, I, rfl, q⟩
theorem sl_str : SlR X (fun x lo hi H Q => ∃ z, x = .str z ∧ z.length ≤ sizeLine ∧ Q (.str (StrLaws.sliceText z lo hi)) H) := by
  intro pins s σ H x v vl vu lo hi sl Q I rx hs pl pu h
  obtain ⟨z, rfl, hl, q⟩ := h
  obtain ⟨t, rfl⟩ := rx
  have part : ∀ {v : Value} {o : Option Int}, IsPart v o → ∃ p : Option (Int × Tok), v = partValue p ∧ p.map (·.1) = o := fun p => by
    cases p with
    | none => exact ⟨none, rfl, rfl⟩
    | int i t => exact ⟨some (i, t), rfl, rfl⟩
  obtain ⟨p, rfl, rfl⟩ := part pl
  obtain ⟨p2, rfl, rfl⟩ := part pu
  refine ⟨"str", _, F.slot_str_getitem.lookup, typeIs_str _ _ _, ?_⟩
  refine wpAny_getItem_str_slice (l := p) (u := p2) (st := none) hs rfl ?_
  unfold sliceMade slicePicked
  refine post_val_or_made (fun _ => ?_) fun t2 k => ⟨.str (StrLaws.sliceText z (p.map (·.1)) (p2.map (·.1))), H, I.tok k, ⟨t2, rfl⟩, q⟩
  show (List.filterMap _ _).toArray.size ≤ sizeLine
  rw [List.size_toArray]
  exact Nat.le_trans (List.length_filterMap_le _ _) (Nat.le_trans (sliceIndices_le _ _ _) hl)
end
end L2

set_option Elab.async false
set_option linter.all false
set_option maxRecDepth 100000
/-! join of a list turned round; lists compared; more of texts and calls -/
namespace L2
open PySem PySem.Spec PyProof.Rows
open Builtin Builtin.Str
section
variable {prog : Program} {w : World} {A : Around} {E : Value → Shared → Prop} {s : Shared}
variable {I : Addr} {fp wr : List Addr} {G : Array GenState → Array GenState → Prop} {n : Nat} {P : Nat → Value → Prop} {St : Nat → Shared → Prop}
end
end L2

set_option Elab.async false
set_option linter.all false
set_option maxRecDepth 100000
namespace L2
open PySem PySem.Spec PyProof.Rows
open Builtin Builtin.Str
theorem boot_reversed : bootBuiltins "reversed" = some (.type "reversed") := by boot_by_name
section
variable {X : Cx}
end
end L2

set_option Elab.async false
set_option linter.all false
set_option maxRecDepth 100000
namespace L2
open PySem PySem.Spec PyProof.Rows
open Builtin Builtin.Str
section
variable {X : Cx}
end
section
variable {X : Cx} {k k' : Nat} {x p1 : Str} {sp : Sp} {E : XK} {p pos kpos : Pos} {e : Expr} {te : TE}
end
end L2

set_option Elab.async false
set_option linter.all false
set_option maxRecDepth 100000
namespace L2
open PySem PySem.Spec PyProof.Rows
/-- lo, lo + c, .. (n of them) -/
def Itr3 (lo c : Int) (n : Nat) : It := ⟨fun i _ => i < n, fun i H x H' => H' = H ∧ x = .int (lo + i * c), fun i _ => n ≤ i⟩
theorem turn_range3 {P : Program} {w : World} {K : PySem.W.Frag} {tg : Expr} (it : Addr) (lo c : Int) (n : Nat) : Turn P w K tg (Itr3 lo c n) [it] it (fun i h => IsRangeIter h it (lo + (i : Nat) * c) ((n : Int) - (i : Nat)) c) where
  mem := by simp
  obj := fun i h st b hb => by
    have e : b = it := by simpa using hb
    subst e
    exact ⟨_, st, fun v z => by
      have z' : Data.fields _ = Data.cell v := z
      cases z'⟩
  keep := fun i h h' st k => k it (by simp) _ st
  item := by
    intro X hP hw hK hc i pins s σ H E I hf st hg
    subst hP hw hK
    obtain ⟨f0, f1, f2, f3, f4, f5⟩ := hf it (by simp)
    have W := Walks.range (prog := X.prog) (w := X.w) (I.ok.hd hc) it lo c n
    refine W.item i s _ _ hg st fun v h' tk hv st' kk => ?_
    obtain ⟨t, rfl⟩ := hv
    have I1 : Inv X pins σ H { s with heap := h', toks := tk } := I.turned (fun b o hb e => kk b o (by simpa using hb) e) f0 f1 f3 f4 f5
    exact ⟨_, rfl, go_of (s := { s with heap := h', toks := tk }) (n := "range_iterator") st' rfl rfl (by decide) ⟨.int (lo + i * c), H, I1, ⟨t, rfl⟩, ⟨rfl, rfl⟩, st', fun b hb => (hf b hb).1⟩⟩
  done := by
    intro X hP hw hK hc i pins s σ H E I hf st hg
    subst hP hw hK
    obtain ⟨f0, f1, f2, f3, f4, f5⟩ := hf it (by simp)
    exact wpAny_pyNext_range_end (I.ok.hd hc) st (by have : n ≤ i := hg; omega) fun h' eb => ⟨rfl, I.turned (t' := s.toks) (fun b o hb e => eb b o hb e) f0 f1 f3 f4 f5⟩
  self := fun _ _ _ _ _ st h => wpAny_pyIter_rangeiter st h
section
variable {X : Cx} {tg : Expr}
def iRng3 (ta : TA) : TI := fun σ H R => ta σ H fun vs H1 => ∃ (i j c : Int) (n : Nat), vs = [.int i, .int j, .int c] ∧ (-(2 ^ 40) ≤ i ∧ i < 2 ^ 40 ∧ -(2 ^ 40) ≤ j ∧ j < 2 ^ 40 ∧ 0 < c ∧ c < 2 ^ 20) ∧ Builtin.Range.rangeSize i j c = (n : Int) ∧ R (Itr3 i c n) H1
theorem pi_range3 {a b d : Expr} {ta : TA} {p pos : Pos} (hg : Gl X "range") (hm : X.mg "range" = none) (ha : PA X [a, b, d] ta) (hs : starEach [a, b, d] X.env = (false, eval a X.env) :: starEach [b, d] X.env := by rfl) (hp : (backTo pos (starEach [b, d] X.env)).any (·.1) = false := by rfl) :
    PI X tg (.Call (.Name "range" p) [a, b, d] [] pos) (iRng3 ta) := by
  intro pins s σ H R I h
  refine Call_ (ld_blt I hg hm boot_range (PyProof.Rows.callWith_type1 (thn (ha pos pins s σ H _ I h) fun us s1 ⟨vs, H1, I1, r1, q1⟩ => ?_) hs hp))
  obtain ⟨i, j, c, n, e, ⟨b1, b2, b3, b4, b5, b6⟩, hn, q⟩ := q1
  subst e
  obtain ⟨u1, u2, u3, rfl, ⟨t1, rfl⟩, ⟨t2, rfl⟩, ⟨t3, rfl⟩⟩ : ∃ u1 u2 u3, us = [u1, u2, u3] ∧ RelV (.int i) u1 ∧ RelV (.int j) u2 ∧ RelV (.int c) u3 := by
    cases r1 with
    | cons p q =>
      cases q with
      | cons p' q' =>
        cases q' with
        | cons p'' q'' =>
          cases q''
          exact ⟨_, _, _, rfl, p, p', p''⟩
  refine call_range_3 (by omega) ?_ (.inl (PyProof.noPylong_small (by omega)))
  refine wpAny_pyIter_range (IsRange.new ..) ?_ ?_
  · have hq1 : 0 ≤ (n : Int) := Int.natCast_nonneg n
    have hq2 : (n : Int) ≤ 2 ^ 41 := by
      rw [← hn]
      unfold Builtin.Range.rangeSize
      rw [if_pos b5]
      split
      · have : (j - i - 1) / c ≤ (j - i - 1) / 1 := by
          rw [Int.ediv_one]
          exact Int.ediv_le_self _ (by omega)
        rw [Int.ediv_one] at this
        omega
      · omega
    unfold Builtin.Range.small
    simp only [hn]
    unfold Builtin.Range.rangeFitsLong
    rw [if_pos b5]
    rw [decide_eq_true (show -(2 ^ 63) ≤ i by omega), decide_eq_true (show i < 2 ^ 63 by omega), decide_eq_true (show -(2 ^ 63) ≤ j by omega), decide_eq_true (show j < 2 ^ 63 by omega), decide_eq_true (show -(2 ^ 63) ≤ c by omega), decide_eq_true (show c < 2 ^ 63 by omega), decide_eq_true (show -(2 ^ 63) ≤ (n : Int) by omega), decide_eq_true (show (n : Int) < 2 ^ 63 by omega),
      decide_eq_true (show -(2 ^ 63) ≤ j + (c - 1) by omega), decide_eq_true (show j + (c - 1) < 2 ^ 63 by omega)]
    simp
  have I2 : Inv X pins σ H1 { s1 with heap := s1.heap.push { cls := .type "range", data := .fields #[.int i t1, .int j t2, .int c t3] }, toks := s1.toks } := I1.kept fun b o e => Heap.get?_push_of_some _ e
  refine ⟨(s1.heap.push { cls := .type "range", data := .fields #[.int i t1, .int j t2, .int c t3] }).objs.size, [(s1.heap.push { cls := .type "range", data := .fields #[.int i t1, .int j t2, .int c t3] }).objs.size], _, _, H1, rfl,
    I2.kept (t' := s1.toks) fun b o e => Heap.get?_push_of_some _ e, turn_range3 _ i c n, ?_, fun b hb => ?_, q⟩
  · have e1 : i + ((0 : Nat) : Int) * c = i := by simp
    have e2 : ((n : Nat) : Int) - ((0 : Nat) : Int) = Builtin.Range.rangeSize i j c := by rw [hn]; simp
    show IsRangeIter _ _ (i + ((0 : Nat) : Int) * c) (((n : Nat) : Int) - ((0 : Nat) : Int)) c
    rw [e1, e2]
    exact Heap.get?_push_size _ rfl
  · have e : b = (s1.heap.push { cls := .type "range", data := .fields #[.int i t1, .int j t2, .int c t3] }).objs.size := by simpa using hb
    subst e
    exact I2.fpOk (Nat.le_refl _) (I2.hok.fresh (Nat.le_refl _))
theorem for_range3 {lo c : Int} {n : Nat} {g : TG} {tb : TS} {D : Ends} {σ : St} {H : Hp} (Pv : Nat → St → Hp → Prop) (h0 : Pv 0 σ H)
    (hs : ∀ i σ H, i < n → Pv i σ H → g (.int (lo + i * c)) σ H fun σ2 H2 => tb { D with nx := Pv (i + 1), ct := Pv (i + 1), bk := D.nx } σ2 H2) (hd : ∀ σ H, Pv n σ H → D.nx σ H) :
    ∃ W : Nat → Nat → St → Hp → Prop, (∃ m, W 0 m σ H) ∧ ∀ i m σ H, W i m σ H →
      ((Itr3 lo c n).stop i H ∧ D.nx σ H) ∨ ((Itr3 lo c n).go i H ∧ ∃ N : St → Hp → Prop, (∀ σ' H', N σ' H' → ∃ m', m' < m ∧ W (i + 1) m' σ' H') ∧ ∀ x H', (Itr3 lo c n).yld i H x H' → g x σ H' fun σ2 H2 => tb { D with nx := N, ct := N, bk := D.nx } σ2 H2) := by
  refine ⟨fun i m σ H => m = n - i ∧ i ≤ n ∧ Pv i σ H, ⟨n, by simp, Nat.zero_le _, h0⟩, ?_⟩
  rintro i m σ H ⟨rfl, hi, p⟩
  by_cases hlt : i < n
  · refine .inr ⟨hlt, Pv (i + 1), fun σ' H' p' => ⟨n - (i + 1), by omega, rfl, hlt, p'⟩, fun x H' y => ?_⟩
    obtain ⟨e, y⟩ := y
    subst e y
    exact hs i σ _ hlt p
  · have e : i = n := by omega
    subst e
    exact .inl ⟨Nat.le_refl _, hd σ H p⟩
end
end L2
namespace L2
open PySem PySem.Spec PyProof.Rows
/-! long displays of texts, and the statements around them: behind a veil -/
structure PAx (X : Cx) (es : List Expr) (t : TA) : Prop where
  pa : PA X es t
structure PSy (X : Cx) (st : Stmt) (t : TS) : Prop where
  ps : PS X st t
section
variable {X : Cx}
theorem pax_nil : PAx X [] tNil := ⟨pa_nil⟩
theorem pax_str {x : Str} {j : Nat} {p : Pos} {es : List Expr} {t : TA} (hr : PAx X es t) : PAx X (.Constant (.str x) j p :: es) (tCons (tC (.str x)) t) := ⟨pa_cons pe_str hr.pa rfl⟩
theorem pex_lst {es : List Expr} {t : TA} {pos : Pos} (h : PAx X es t) : PEx X (.List es pos) (tLst t) := ⟨pe_lst h.pa⟩
theorem psx_cons {st : Stmt} {rest : List Stmt} {t1 t2 : TS} (h : PSy X st t1) (hr : PSx X rest t2) : PSx X (st :: rest) (tSeq t1 t2) := ⟨pss_cons h.ps hr.ps⟩
theorem psx_one {st : Stmt} {t : TS} (h : PSy X st t) : PSx X [st] t := ⟨pss_one h.ps⟩
end
theorem okNCx {P : Program} {w : World} {K : PySem.W.Frag} {mg : Str → Option Value} {base : Heap} {x qual : Str} {st : Stmt} {f : Addr} {fd : FuncData} {cdv : Value} {N ps : List Str} {k : Nat} {sp : Sp} (F : FunC K x qual st f fd cdv) (S : FnScope N ps (defScope st)) (len : ∀ vs H Q E, sp vs H Q E → vs.length = ps.length)
    (hbody : ∀ (A : Around) (outer : List Env) (s : Shared) (H : Hp) (vs : List V) (Q : VK) (E : XK), Room k (A.deeper (envOfC qual (defScope st) s.heap.objs.size f cdv)) → sp vs H Q E →
      ∃ t, PSx (cxOf (CXE P w) P w K mg base N qual (defScope st) f cdv A outer s H E).nox (defBody st) t ∧ t { nx := fun _ H' => Q .non H', rt := Q } (start N vs) H) : FnOk P w K mg base (CXE P w) (k + 1) f fd ps sp :=
  okNC F S len fun A outer s H vs Q E hr hsp => by
    obtain ⟨t, h, q⟩ := hbody A outer s H vs Q E hr hsp
    exact ⟨t, h.ps, q⟩
end L2

set_option Elab.async false
set_option linter.all false
set_option maxRecDepth 100000
/-! more of lists and texts: join, sum, the largest, find from a place -/
namespace L2
open PySem PySem.Spec PyProof.Rows
open Builtin Builtin.Str
def find2 (z y : Str) (i : Int) : Int := match occurrences z y (fromIndex z.length i) z.length 1 with | k :: _ => (k : Int) | [] => -1
theorem vals_strs : ∀ {ys : List Str} {us : List Value}, Vals (ys.map V.str) us → ∃ l : List (Str × Tok), us = strValues l ∧ l.map (·.1) = ys
  | [], _, .nil => ⟨[], rfl, rfl⟩
  | y :: ys, _, .cons r t => by
    obtain ⟨l, e1, e2⟩ := vals_strs t
    obtain ⟨tk, rfl⟩ := r
    exact ⟨(y, tk) :: l, by rw [e1]; rfl, by rw [List.map_cons, e2]⟩
section
variable {X : Cx}
theorem mt_join : MtR X "str.join" (fun x vs H Q => ∃ (z : Str) (p : Addr) (ys : List Str), x = .str z ∧ vs = [.ref p] ∧ SqL X.K H p (ys.map V.str) ∧ JoinOk z ys = true ∧ Q (.str (Txt.join z ys)) H) := by
  intro pins s σ H x vs v us Q I rx rv h
  obtain ⟨z, p, ys, rfl, rfl, hq, hj, q⟩ := h
  obtain ⟨t, rfl⟩ := rx
  obtain ⟨u, rfl, ru⟩ := vals1 rv
  obtain rfl : u = Value.ref p := ru
  obtain ⟨its, rv, pl, hl⟩ := I.list hq
  obtain ⟨l, e1, e2⟩ := vals_strs rv
  subst e1
  have hok := hj
  unfold JoinOk at hok
  rw [Bool.not_eq_true', ← e2] at hok
  refine call_meets F.slot_str_join (typeIs_str _ _ _) F.entry_str_join (F.args_str_join_2 _ _) (meets_str_join_list z t p l hok) ⟨pl.isList, ?_⟩
  refine post_join l ⟨joinFit_length hok, fun t' k => ⟨.str (Txt.join z (l.map (·.1))), H, I.tok k, ⟨t', rfl⟩, ?_⟩⟩
  rw [e2]
  exact q
theorem mt_find2 : MtR X "str.find" (fun x vs H Q => ∃ (z y : Str) (i : Int), x = .str z ∧ vs = [.str y, .int i] ∧ Q (.int (find2 z y i)) H) := by
  intro pins s σ H x vs v us Q I rx rv h
  obtain ⟨z, y, i, rfl, rfl, q⟩ := h
  obtain ⟨t, rfl⟩ := rx
  obtain ⟨u1, u2, rfl, ⟨t1, rfl⟩, ⟨t2, rfl⟩⟩ := vals2 rv
  exact call_gives F.slot_str_find F.entry_str_find (F.args_str_find_3 _ _ _) (gives_str_find_from z y i t t1 t2) ⟨.int _, H, I.tok _, ⟨_, rfl⟩, q⟩
end
theorem walks_list {prog : Program} {w : World} {A : Around} (hh : A.handled = none) (I l : Addr) (hne : l ≠ I) (items : Array Value) :
    WalksS prog w A I [I, l] [I] (fun a b => a = b) items.size (fun i v => items[i]? = some v) (fun i s => s.heap.IsListIter I l i ∧ s.heap.IsList l items) where
  sub := fun b hb => by simp at hb; simp [hb]
  grefl := fun _ => rfl
  gtrans := fun _ _ _ a b => a.trans b
  frame := fun i s h' tk x _ hk => ⟨x.1.at fun o e => hk I (by simp) o e, x.2.at fun o e => hk l (by simp) o e⟩
  item := fun i s Q E hi x hQ => by
    have hx : items[i]? = some (items[i]'hi) := Array.getElem?_eq_getElem hi
    refine wpAny_pyNext_list_item x.1 x.2 hx fun h' st' sb => ?_
    exact hQ _ _ hx ⟨st', x.2.at fun o eo => (sb.2 l hne).trans eo⟩ ⟨fun b o hb eo => (sb.2 b (fun h => hb (by simp [h]))).trans eo, rfl, rfl, rfl, Nat.le_refl _⟩
  done := fun s Q E x hQ => wpAny_pyNext_list_end hh x.1 x.2 (Array.getElem?_eq_none (Nat.le_refl _)) fun h' eb => hQ _ ⟨fun b o hb eo => eb b o (fun h => hb (by simp [h])) eo, rfl, rfl, rfl, Nat.le_refl _⟩
  self := fun _ _ _ _ x hQ => wpAny_pyIter_listiter x.1 hQ
theorem ints_at {ns : List Int} {us : List Value} (r : Vals (ns.map V.int) us) : ∀ i v, us.toArray[i]? = some v → ∃ t, v = Value.int (ns.getD i 0) t := fun i v hv => by
  have h1 : us[i]? = some v := by simpa using hv
  have hlt := (List.getElem?_eq_some_iff.mp h1).1
  have hl := r.length
  rw [List.length_map] at hl
  have h2 : (ns.map V.int)[i]? = some (V.int (ns.getD i 0)) := by
    rw [List.getElem?_map, List.getElem?_eq_getElem (by omega)]
    simp [List.getD, List.getElem?_eq_getElem (show i < ns.length by omega)]
  obtain ⟨u, e, q⟩ := r.get h2
  rw [h1] at e
  cases e
  exact q
theorem preSum_list (ns : List Int) : ∀ k, k ≤ ns.length → preSum (fun i => ns.getD i 0) k = (ns.take k).sum := by
  intro k
  induction k with
  | zero => intro _; rfl
  | succ k ih =>
    intro hk
    have e : ns.take (k + 1) = ns.take k ++ [ns.getD k 0] := by
      rw [List.take_add_one, List.getElem?_eq_getElem (by omega)]
      simp [List.getD, List.getElem?_eq_getElem (show k < ns.length by omega)]
    show preSum _ k + ns.getD k 0 = _
    rw [ih (by omega), e, List.sum_append]
    simp
theorem best_is (val : Nat → Int) : ∀ k, argBest (fun i j => decide (val i > val j)) k ≤ k ∧ ∀ i, i ≤ k → val i ≤ val (argBest (fun i j => decide (val i > val j)) k) := by
  intro k
  induction k with
  | zero => exact ⟨Nat.le_refl _, fun i hi => by rw [Nat.le_zero.mp hi]; exact Int.le_refl _⟩
  | succ k ih =>
    unfold argBest
    by_cases h : val (k + 1) > val (argBest (fun i j => decide (val i > val j)) k)
    · rw [if_pos (decide_eq_true h)]
      refine ⟨Nat.le_refl _, fun i hi => ?_⟩
      rcases Nat.lt_or_ge i (k + 1) with h1 | h1
      · have := ih.2 i (by omega)
        omega
      · rw [show i = k + 1 by omega]; exact Int.le_refl _
    · rw [if_neg (by rw [decide_eq_true_eq]; exact h)]
      refine ⟨by omega, fun i hi => ?_⟩
      rcases Nat.lt_or_ge i (k + 1) with h1 | h1
      · exact ih.2 i (by omega)
      · rw [show i = k + 1 by omega]; omega
section
variable {X : Cx}
theorem call_sum (hc : X.calm = true) : CallR X (.builtin "sum") (fun xs H Q => ∃ (p : Addr) (ns : List Int), xs = [.ref p] ∧ SqL X.K H p (ns.map V.int) ∧ Q (.int ns.sum) H) := by
  intro pins s σ H xs us Q I r h
  obtain ⟨p, ns, rfl, hq, q⟩ := h
  obtain ⟨u, rfl, ru⟩ := vals1 r
  obtain rfl : u = Value.ref p := ru
  obtain ⟨its, rv, pl, hl⟩ := I.list hq
  have hil := pl.isList
  have hlt : p < s.heap.objs.size := by obtain ⟨o, e, _⟩ := hil; exact Heap.lt_size e
  have hlen := rv.length
  rw [List.length_map] at hlen
  refine call_sum_walkAnyS (wpAny_pyIter_list hil ?_)
  have I2 : Inv X pins σ H { s with heap := s.heap.push { cls := .type "list_iterator", data := .fields #[.ref p, .int 0 0] } } := I.kept (t' := s.toks) fun b o e => Heap.get?_push_of_some _ e
  refine ⟨s.heap.objs.size, _, _, _, _, _, _, fun i => ns.getD i 0, rfl, walks_list (A := X.A.in1) (I.ok.hd hc) _ p (Nat.ne_of_lt hlt) its.toArray, ⟨⟨_, Heap.get?_push_size _ rfl, rfl, rfl⟩, hil.push _⟩, fun b hb => ?_, ints_at rv, fun s' t' hm => ?_⟩
  · show b < (s.heap.push _).objs.size
    rw [Heap.size_push]
    rcases List.mem_cons.mp hb with rfl | hb
    · exact Nat.lt_succ_self _
    · rw [List.mem_singleton.mp hb]; exact Nat.lt_succ_of_lt hlt
  · obtain ⟨f0, f1, f2, f3, f4, f5⟩ := I.fpOk (Nat.le_refl _) (I.hok.fresh (Nat.le_refl _))
    obtain ⟨h', g', d', tk', os'⟩ := s'
    obtain rfl : g' = s.gens := hm.gens.symm
    obtain rfl : d' = s.drawn := hm.drawn
    obtain rfl : os' = s.os := hm.os
    have e : preSum (fun i => ns.getD i 0) its.toArray.size = ns.sum := by
      rw [List.size_toArray, ← hlen, preSum_list ns _ (Nat.le_refl _), List.take_length]
    rw [e]
    refine ⟨.int ns.sum, H, ?_, ⟨t', rfl⟩, q⟩
    exact (I2.turned (h' := h') (t' := tk') (it := s.heap.objs.size) (fun b o hb eo => hm.heap b o (by simpa using hb) eo) f0 f1 f3 f4 f5 :)
theorem call_maxL (hc : X.calm = true) : CallR X (.builtin "max") (fun xs H Q => ∃ (p : Addr) (ns : List Int), xs = [.ref p] ∧ SqL X.K H p (ns.map V.int) ∧ ns ≠ [] ∧ ∀ m, m ∈ ns → (∀ n ∈ ns, n ≤ m) → Q (.int m) H) := by
  intro pins s σ H xs us Q I r h
  obtain ⟨p, ns, rfl, hq, hne, q⟩ := h
  obtain ⟨u, rfl, ru⟩ := vals1 r
  obtain rfl : u = Value.ref p := ru
  obtain ⟨its, rv, pl, hl⟩ := I.list hq
  have hil := pl.isList
  have hlt : p < s.heap.objs.size := by obtain ⟨o, e, _⟩ := hil; exact Heap.lt_size e
  have hlen := rv.length
  rw [List.length_map] at hlen
  have hpos : 0 < ns.length := by cases ns with | nil => exact absurd rfl hne | cons a r => exact Nat.succ_pos _
  refine call_max_walkS (wpAny_pyIter_list hil ?_)
  have I2 : Inv X pins σ H { s with heap := s.heap.push { cls := .type "list_iterator", data := .fields #[.ref p, .int 0 0] } } := I.kept (t' := s.toks) fun b o e => Heap.get?_push_of_some _ e
  refine ⟨s.heap.objs.size, _, _, _, _, _, _, _, rfl, walks_list (A := X.A.in1) (I.ok.hd hc) _ p (Nat.ne_of_lt hlt) its.toArray, ⟨⟨_, Heap.get?_push_size _ rfl, rfl, rfl⟩, hil.push _⟩, fun b hb => ?_, by rw [List.size_toArray]; omega, CmpOf.ints_gt (fun i => ns.getD i 0) (ints_at rv), fun v s' hv hm => ?_⟩
  · show b < (s.heap.push _).objs.size
    rw [Heap.size_push]
    rcases List.mem_cons.mp hb with rfl | hb
    · exact Nat.lt_succ_self _
    · rw [List.mem_singleton.mp hb]; exact Nat.lt_succ_of_lt hlt
  · obtain ⟨f0, f1, f2, f3, f4, f5⟩ := I.fpOk (Nat.le_refl _) (I.hok.fresh (Nat.le_refl _))
    obtain ⟨h', g', d', tk', os'⟩ := s'
    obtain rfl : g' = s.gens := hm.gens.symm
    obtain rfl : d' = s.drawn := hm.drawn
    obtain rfl : os' = s.os := hm.os
    obtain ⟨t, rfl⟩ := ints_at rv _ _ hv
    obtain ⟨b1, b2⟩ := best_is (fun i => ns.getD i 0) (its.toArray.size - 1)
    generalize argBest (fun i j => decide (ns.getD i 0 > ns.getD j 0)) (its.toArray.size - 1) = j at b1 b2
    rw [List.size_toArray] at b1 b2
    have getD_eq : ∀ i, i < ns.length → ns.getD i 0 = ns[i]! := fun i hi => by simp [List.getD, List.getElem?_eq_getElem hi]
    have hj : j < ns.length := by omega
    refine ⟨.int (ns.getD j 0), H, ?_, ⟨t, rfl⟩, q _ ?_ fun n hn => ?_⟩
    · exact (I2.turned (h' := h') (t' := tk') (it := s.heap.objs.size) (fun b o hb eo => hm.heap b o (by simpa using hb) eo) f0 f1 f3 f4 f5 :)
    · have : ns.getD j 0 = ns[j] := by simp [List.getD, List.getElem?_eq_getElem hj]
      rw [this]
      exact List.getElem_mem hj
    · obtain ⟨i, hi, rfl⟩ := List.mem_iff_getElem.mp hn
      have e : ns.getD i 0 = ns[i] := by simp [List.getD, List.getElem?_eq_getElem hi]
      rw [← e]
      exact b2 i (by omega)
end
end L2

set_option Elab.async false
set_option linter.all false
set_option maxRecDepth 100000
/-! a dict of the written part: read alone -/
namespace L2
open PySem PySem.Spec PyProof.Rows
structure KDict (P : Program) (w : World) (K : PySem.W.Frag) (a : Addr) (kvs : List (Key × V)) : Prop where
  ne : (a == sysModules) = false
  ok : ∀ h : Heap, K.In h → ∃ vs, KV kvs vs ∧ h.DictOf (mixKind P w) a vs
section
variable {X : Cx} {o i : Expr} {td ty : TE} {pos : Pos} {a : Addr} {kvs : List (Key × V)}
def tKGet (a : Addr) (kvs : List (Key × V)) (td ty : TE) : TE := fun σ H Q => td σ H fun x H1 => ty σ H1 fun y H2 => ∃ k v, x = .ref a ∧ y = kV k ∧ valV kvs k = some v ∧ Q v H2
theorem pe_kdget (D : KDict X.prog X.w X.K a kvs) (ho : PE X o td) (hi : PE X i ty) (hs : NoSl i) : PE X (.Subscript o i pos) (tKGet a kvs td ty) := by
  intro pins s σ H Q I h
  refine subD_of PySem.F.slot_dict_getitem.lookup hs (thn (ho pins s σ H _ I h) fun u s1 ⟨x, H1, I1, rx, q1⟩ => thn (hi pins s1 σ H1 _ I1 q1) fun iv s2 ⟨y, H2, I2, ry, k, v, ex, ey, l, q2⟩ => ?_)
  subst ex ey
  obtain rfl : u = Value.ref a := rx
  obtain ⟨vs, rel, dd⟩ := D.ok s2.heap I2.kIn
  obtain ⟨w', hw, rw'⟩ := RelO.some_of (v := v) (o := valueAt vs k) (by rw [← l]; exact rel.val k)
  exact ⟨dd.typeIs, wpAny_getItem_of (kV_is ry) dd.mapOf hw ⟨v, H2, I2.tok _, rw', q2⟩⟩
def tKNotIn (a : Addr) (kvs : List (Key × V)) (ty td : TE) : TE := fun σ H Q => ty σ H fun y H1 => td σ H1 fun x H2 => ∃ k, x = .ref a ∧ y = kV k ∧ Q (.bl (!(valV kvs k).isSome)) H2
theorem pc_kdnotin (D : KDict X.prog X.w X.K a kvs) (hi : PE X i ty) (ho : PE X o td) : PC X .NotIn i o (tKNotIn a kvs ty td) := by
  intro pins s σ H Q I h
  refine thn (hi pins s σ H _ I h) fun iv s1 ⟨y, H1, I1, ry, q1⟩ => thn (ho pins s1 σ H1 _ I1 q1) fun u s2 ⟨x, H2, I2, rx, k, ex, ey, q2⟩ => ?_
  subst ex ey
  obtain rfl : u = Value.ref a := rx
  obtain ⟨vs, rel, dd⟩ := D.ok s2.heap I2.kIn
  refine wpAny_notIn_of (kV_is ry) D.ne dd.mapOf ?_
  rw [← (rel.val k).isSome_eq]
  exact ⟨.bl _, H2, I2.tok _, rfl, q2⟩
end
theorem boot_sum : bootBuiltins "sum" = some (.builtin "sum") := by boot_by_name
section
variable {X : Cx}
theorem ip_addS : PIp X .Add (fun x y H Q => ∃ i j, x = .str i ∧ y = .str j ∧ i.length + j.length ≤ sizeLine ∧ Q (.str (i ++ j)) H) := by
  intro pins s σ H x y v u Q I r1 r2 h
  obtain ⟨i, j, e1, e2, hl, q⟩ := h
  subst e1; subst e2
  obtain ⟨t, rfl⟩ := r1
  obtain ⟨t', rfl⟩ := r2
  exact SB.iadd (fun t2 k => ⟨.str _, H, I.tok k, ⟨t2, rfl⟩, q⟩) hl
end
end L2

set_option Elab.async false
set_option linter.all false
set_option maxRecDepth 100000
/-! a name set to a comprehension itself: stored ahead of the block's end -/
namespace L2
open PySem PySem.Spec PyProof.Rows
section
variable {X : Cx}
theorem ps_lcomp {elt tg iter : Expr} {ifs : List Expr} {scope : Scope} {pos spos py : Pos} {NB : List Str} {wi : TI} {g : TG} {tt : TT} {te : TE} {iy : Nat} {y : Str} (hc : X.calm = true) (S : BlkScope NB scope) (hi : PI X tg iter wi)
    (hg : ∀ s H ex, PG (cxBlk X NB scope s H ex) tg g) (ht : ∀ s H ex, PTs (cxBlk X NB scope s H ex) ifs tt) (he : ∀ s H ex, PE (cxBlk X NB scope s H ex) elt te)
    (hN : X.N.Nodup) (hiy : X.N[iy]? = some y) (hy : Loc X.env.scope y) (hsw : swapsWith (.ListComp elt [⟨tg, iter, ifs, 0⟩] scope pos) (some (.Name y py)) spos.line X.env = pure true)
    (hs : ∀ x, foldedSetIterable iter X.env x = pure x := by intro _; rfl) (hf : X.fn y = true ∨ X.env.scope.names.lookup y = some .local := by first | exact .inl rfl | exact .inr rfl | assumption) :
    PS X (.Assign [.Name y py] (.ListComp elt [⟨tg, iter, ifs, 0⟩] scope pos) spos) (tAsg (tComp NB wi g tt te) (gName iy)) := by
  intro pins s σ H Dn I h
  rw [exec_Assign_Name_used _ _ _ _ hsw]
  refine wpAny_bind (wpAny_standAt (wpAny_bind ?_))
  show wpAny _ X.A (do let _ ← comprehension (.ListComp elt [⟨tg, iter, ifs, 0⟩] scope pos) scope X.env _ (newList []) false (eval iter X.env) (some (assign (.Name y py) X.env))) _ _ s
  refine wpAny_bind (wpAny_mono (wpAny_comprehension_free (use := some (assign (.Name y py) X.env)) (Q := fun _ s' => SP X pins Dn .next s') (cl := []) rfl hs (clos_none S.nofree) S.kind S.loc (thn (hi pins s σ H _ I h) fun v s1 h1 => thn h1 fun itv s2 h2 => ?_)) (fun _ s' hq => wpAny_pure (wpAny_pure hq)) fun _ _ e => e)
  obtain ⟨it, fp, tn, J, H2, e, I2, T, st2, f2, W, ⟨m0, w0⟩, turn⟩ := h2
  subst e
  refine wpAny_newObj_type ?_
  have up2 : ∀ b o, s2.heap.get? b = some o → (s2.heap.push { cls := .type "list", data := .seq ([] : List Value).toArray }).get? b = some o := fun b o e => Heap.get?_push_of_some _ e
  have I3 : Inv X pins σ H2 { s2 with heap := s2.heap.push { cls := .type "list", data := .seq ([] : List Value).toArray } } := I2.kept (t' := s2.toks) up2
  have st3 : tn 0 (s2.heap.push { cls := .type "list", data := .seq ([] : List Value).toArray }) := T.keep _ _ _ st2 fun b _ o e => up2 b o e
  have hD3 : (s2.heap.push { cls := .type "list", data := .seq ([] : List Value).toArray }).get? s2.heap.objs.size = some (lstO []) := Heap.get?_push_size _ rfl
  have hD2 : H2 s2.heap.objs.size = none := I2.hok.fresh (Nat.le_refl _)
  have lt2 : ∀ b o, s2.heap.get? b = some o → b ≠ s2.heap.objs.size := fun b o e => Nat.ne_of_lt (Heap.lt_size e)
  have fpO : ∀ b ∈ fp, ∃ o, s2.heap.get? b = some o := fun b hb => let ⟨o, e, _⟩ := T.obj _ _ st2 b hb; ⟨o, e⟩
  have hDs0 : X.s₀.heap.objs.size ≤ s2.heap.objs.size := I2.sz
  have hDL : s2.heap.objs.size ≠ X.env.locals := Nat.ne_of_gt I2.lt
  have hDC : ∀ x c, X.env.cells.lookup x = some c → c ≠ s2.heap.objs.size := fun x c e => let ⟨v, o, e1, _⟩ := I2.cell x c e; lt2 c o e1
  have hDp : ∀ p ∈ X.pn ++ pins, p.1 ≠ s2.heap.objs.size := fun p hp => lt2 p.1 _ (I2.pin p hp).1
  have hDf : s2.heap.objs.size ∉ frs X.stack := fun z => let ⟨o, e, _⟩ := (I2.stack.mem z).2; lt2 _ o e rfl
  generalize hS3 : ({ s2 with heap := s2.heap.push { cls := .type "list", data := .seq ([] : List Value).toArray } } : Shared) = s3 at I3 ⊢
  have hh3 : s3.heap = s2.heap.push { cls := .type "list", data := .seq ([] : List Value).toArray } := by rw [← hS3]
  rw [← hh3] at st3 hD3 up2
  generalize s2.heap.objs.size = D at hD3 hD2 lt2 hDs0 hDL hDC hDp hDf ⊢
  refine wpAny_newBlock S.kind fun cenv s4 hce x4 => ?_
  subst hce
  rw [relabel_same S.nofree]
  have lt3 : ∀ b o, s3.heap.get? b = some o → b < s3.heap.objs.size := fun b o e => Heap.lt_size e
  have fp3 : ∀ b ∈ fp, b < s3.heap.objs.size := fun b hb => let ⟨o, e⟩ := fpO b hb; lt3 b o (up2 b o e)
  have dl3 : D < s3.heap.objs.size := lt3 D _ hD3
  have DfpN : ∀ b ∈ fp, b ≠ D := fun b hb => let ⟨o, e⟩ := fpO b hb; lt2 b o e
  obtain ⟨h4, tk4, rfl, hk4⟩ := x4.done
  have bsN : ∀ b o, X.base.get? b = some o → b ∉ D :: fp := fun b o e hb => by
    rcases List.mem_cons.mp hb with rfl | hb
    · exact absurd (Nat.lt_of_lt_of_le (Heap.lt_size (I2.ok.bs b o e).1) hDs0) (Nat.lt_irrefl _)
    · obtain ⟨_, _, _, f3, _⟩ := f2 b hb
      rcases f3 with z | z
      · exact I2.ok.noex b o e z
      · exact absurd (Nat.lt_of_lt_of_le (Heap.lt_size (I2.ok.bs b o e).1) z) (Nat.lt_irrefl _)
  have exF : ∀ b ∈ D :: fp, b ∉ frs X.stack := fun b hb hf => by
    rcases List.mem_cons.mp hb with rfl | hb
    · exact hDf hf
    · obtain ⟨_, f1, f2', _⟩ := f2 b hb
      rcases List.mem_cons.mp (I2.stkSub b hf) with z | z
      · exact f1 z
      · exact f2' z
  have cge : ∀ y c, (cellsFrom (s3.heap.objs.size + 1) scope.names []).lookup y = some c → s3.heap.objs.size < c := fun y c e => x4.above y c (PySem.mem_of_lookup e)
  have exLt : ∀ b ∈ D :: fp, b < s3.heap.objs.size := fun b hb => by
    rcases List.mem_cons.mp hb with rfl | hb
    · exact dl3
    · exact fp3 b hb
  have okB : (cxBlk X NB scope s3 H2 (D :: fp)).Ok := by
    refine ⟨I3.ok.mod, S.kind, I3.ok.glob, I3.ok.blt, Nat.le_refl _, fun y z c h1 h2 => ?_, fun y hy => ?_, fun y c _ h => Nat.le_of_lt (cge y c h), I3.ok.hd, I3.ok.frames, .inl rfl, fun b hb => ⟨Nat.ne_of_lt (exLt b hb), fun y c e z => ?_⟩, I3.bs, Nat.le_trans I3.ok.bsz I3.sz, bsN, exF, I3.stack, I3.stkFree⟩
    · exact name_of_addr x4.apart (PySem.mem_of_lookup h1) (PySem.mem_of_lookup h2)
    · have hy : scope.names.lookup y = some .cell ∨ scope.names.lookup y = some .free := hy
      rcases hy with hy | hy
      · exact cell_has hy
      · exact absurd rfl (S.nofree _ (PySem.mem_of_lookup hy))
    · have := cge y c e
      rw [z] at this
      exact absurd (Nat.lt_trans this (exLt b hb)) (Nat.lt_irrefl _)
  have rep : ∀ (j : Nat) (v : V), (List.replicate NB.length (none : Option V))[j]? ≠ some (some v) := fun j v z => by
    rw [List.getElem?_replicate] at z
    split at z <;> cases z
  have IB : Inv (cxBlk X NB scope s3 H2 (D :: fp)) [(D, lstO [])] (List.replicate NB.length none) H2 { s3 with heap := h4, toks := tk4 } := by
    refine ⟨okB, rfl, I3.bare, Un.kept hk4, ⟨_, x4.toInCall.ns, fun i y v h1 h2 h3 => absurd h2 (rep i v)⟩, fun y c h => ⟨_, x4.cell y c h⟩, I3.hok.fresh (Nat.le_refl _), fun y c h => I3.hok.fresh (Nat.le_of_lt (cge y c h)), fun p hp => ?_, I3.hok.kept hk4, by rw [List.length_replicate]⟩
    obtain rfl : p = (D, lstO []) := by simpa using hp
    exact ⟨hk4 _ _ hD3, hD2, Nat.ne_of_lt dl3, hDf, fun v z => nomatch z⟩
  -- what stays true of the iterator's objects
  have stat : ∀ {H' : Hp} {ys : List Value}, (∀ b ∈ fp, H' b = none) → ∀ b ∈ fp, FpOk (cxBlk X NB scope s3 H2 (D :: fp)) [(D, lstO ys)] H' b := fun hn b hb =>
    ⟨hn b hb, Nat.ne_of_lt (fp3 b hb), exF b (List.mem_cons_of_mem _ hb), .inl (List.mem_cons_of_mem _ hb), fun y c e z => by
      have := cge y c e
      rw [z] at this
      exact absurd (Nat.lt_trans this (fp3 b hb)) (Nat.lt_irrefl _), fun p hp => by
        obtain rfl : p = (D, _) := by simpa using hp
        exact (DfpN b hb).symm⟩
  have st4 : tn 0 h4 := T.keep _ _ _ st3 fun b _ o e => hk4 b o e
  have fr4 : ∀ b ∈ fp, H2 b = none := fun b hb => (f2 b hb).1
  have hcB : (cxBlk X NB scope s3 H2 (D :: fp)).calm = true := hc
  have loop : codeAny (model X.prog X.w) X.A (.compLoop (.ListComp elt [⟨tg, iter, ifs, 0⟩] scope pos) 0 (.ref it) (.ref D) (blkEnv scope X.env s3.heap.objs.size))
      (compPost (model X.prog X.w) X.A X.xe (some (assign (.Name y py) X.env)) (fun _ s' => SP X pins Dn .next s') (.ref D) s3.heap.objs.size) { s3 with heap := h4, toks := tk4 } := by
    refine comp_loop (fun n s' => ∃ i vs ys H', Inv (cxBlk X NB scope s3 H2 (D :: fp)) [(D, lstO ys)] (List.replicate NB.length none) H' s' ∧ Vals vs ys ∧ vs.length ≤ sizeLine ∧ tn i s'.heap ∧ (∀ b ∈ fp, H' b = none) ∧ W i n vs H') ?_ m0 ⟨0, [], [], H2, IB, .nil, Nat.zero_le _, st4, fr4, w0⟩
    rintro n s5 ⟨i, vs, ys, H5, I5, rv, hvl, st5, fr5, w5⟩
    rcases turn i n vs H5 w5 with ⟨stop, qn⟩ | ⟨go, hlt, N, hN, step⟩
    · refine wpAny_mono (T.done (cxBlk X NB scope s3 H2 (D :: fp)) rfl rfl rfl hcB i _ s5 _ H5 (fun _ _ => False) I5 (stat fr5) st5 stop) (fun r s6 ⟨hr, I6⟩ => ?_) (fun _ _ z => z.elim)
      subst hr
      obtain ⟨m6, hn6, _⟩ := id I6.loc
      have hC6 : H5 s3.heap.objs.size = none := I6.free
      have un7 : Un (frs X.stack) (D :: fp) H2 H5 s3.heap s6.heap := I6.base
      have I7 : Inv X pins σ H5 s6 := I3.call' (s' := s6) I6.os un7 I6.hok I6.bare fun b hb => by
        rcases List.mem_cons.mp hb with rfl | hb
        · exact ⟨.inr hDs0, hDL, hDC, hDp⟩
        · obtain ⟨_, f1, _, f3, f4, f5⟩ := f2 b hb
          exact ⟨f3, f1, f4, f5⟩
      obtain ⟨eD, nD, _⟩ := I6.pin (D, lstO ys) (by simp)
      have nD' : H5 D = none := nD
      have eD' : s6.heap.get? D = some (lstO ys) := eD
      have hD0 : X.s₀.heap.get? D = none := by
        cases q : X.s₀.heap.get? D with
        | none => rfl
        | some o => exact absurd (Nat.lt_of_lt_of_le (Heap.lt_size q) hDs0) (Nat.lt_irrefl _)
      have I8 : Inv X pins σ (upd H5 D (.lst vs)) s6 := I7.track nD' hD0 hDL hDC hDp ⟨hvl, ys, ys.length, rv, eD'⟩
      have hq := qn D nD'
      have s03 : X.s₀.heap.objs.size ≤ s3.heap.objs.size := I3.sz
      have cL : s3.heap.objs.size ≠ X.env.locals := Nat.ne_of_gt I3.lt
      have cC : ∀ x c, X.env.cells.lookup x = some c → c ≠ s3.heap.objs.size := fun x c e => let ⟨v, o, e1, _⟩ := I3.cell x c e; Nat.ne_of_lt (lt3 c o e1)
      have cP : ∀ p ∈ X.pn ++ pins, p.1 ≠ s3.heap.objs.size := fun p hp => Nat.ne_of_lt (lt3 p.1 _ (I3.pin p hp).1)
      show wpAny (model X.prog X.w) X.A (assign (.Name y py) X.env (.ref D)) _ X.xe s6
      refine wpAny_assign_Name (store_ok2 (v := .ref D) I8 hN hiy hy rfl (fun s9 I9 ⟨a9, sb9, ha9⟩ => ?_) hf)
      have na : s3.heap.objs.size ≠ a9 := by
        rcases ha9 with rfl | z
        · exact cL
        · exact (cC y a9 z).symm
      refine ⟨m6, hn6.sameBut sb9 na, fun h10 sb10 => ⟨_, _, ?_, hq⟩⟩
      have hD3' : upd H5 D (.lst vs) s3.heap.objs.size = none := by rw [upd_ne (Nat.ne_of_gt dl3)]; exact hC6
      exact (I9.turned (h' := h10) (t' := s9.toks) (it := s3.heap.objs.size) (fun b o hb e => (sb10.2 b hb).trans e) hD3' cL (.inr s03) cC cP :)
    · refine wpAny_mono (T.item (cxBlk X NB scope s3 H2 (D :: fp)) rfl rfl rfl hcB i _ s5 _ H5 (fun _ _ => False) I5 (stat fr5) st5 go) (fun r s6 ⟨u, hr, h6⟩ => ?_) (fun _ _ z => z.elim)
      subst hr
      refine wpAny_mono h6 (fun _ s7 ⟨x, H7, I7, r7, y7, st7, fr7⟩ => ?_) (fun _ _ z => z.elim)
      have I7' := I7.pinned (stat fr7) (T.obj _ _ st7)
      refine wpAny_mono (hg s3 H2 (D :: fp) _ s7 _ H7 x u _ I7' r7 (step x H7 y7)) (fun _ s8 ⟨σ8, H8, I8, q8⟩ => ?_) (fun _ _ z => z.elim)
      refine wpAny_mono (ht s3 H2 (D :: fp) _ s8 σ8 H8 _ I8 q8) (fun ok s9 ⟨H9, I9, q9⟩ => ?_) (fun _ _ z => z.elim)
      have fpK : ∀ {σ' : St} {H' : Hp} {s' : Shared}, Inv (cxBlk X NB scope s3 H2 (D :: fp)) ([(D, lstO ys)] ++ pinsAt fp s7.heap) σ' H' s' → tn (i + 1) s'.heap ∧ ∀ b ∈ fp, H' b = none := fun J =>
        ⟨T.keep _ _ _ st7 fun b hb o e => (J.pin (b, o) (List.mem_append_right _ (List.mem_append_right _ (mem_pinsAt hb e)))).1, fun b hb => by
          obtain ⟨o, e, d⟩ := T.obj _ _ st7 b hb
          exact (J.pin (b, o) (List.mem_append_right _ (List.mem_append_right _ (mem_pinsAt hb e)))).2.1⟩
      have wk : ∀ {σ' : St} {H' : Hp} {s' : Shared} {pl : List (Addr × Obj)}, Inv (cxBlk X NB scope s3 H2 (D :: fp)) pl σ' H' s' → Inv (cxBlk X NB scope s3 H2 (D :: fp)) pl (List.replicate NB.length none) H' s' := fun J =>
        J.weak (by rw [List.length_replicate]; exact J.len.symm) fun j v z => absurd z (rep j v)
      cases ok with
      | false =>
        rw [if_neg (by decide)] at q9
        rw [if_neg (by decide)]
        obtain ⟨m', hm, w9⟩ := hN vs H9 q9
        obtain ⟨t9, f9⟩ := fpK I9
        exact ⟨m', hm, i + 1, vs, ys, H9, wk I9.unpinned, rv, hvl, t9, f9, w9⟩
      | true =>
        rw [if_pos rfl] at q9
        rw [if_pos rfl]
        refine wpAny_mono (he s3 H2 (D :: fp) _ s9 σ8 H9 _ I9 q9) (fun y s10 ⟨v, H10, I10, rv10, q10⟩ => ?_) (fun _ _ z => z.elim)
        obtain ⟨eD, nD, _, nf, _⟩ := I10.pin (D, lstO ys) (by simp)
        have hyl := rv.length
        refine append_at (hsz := by show ys.toArray.size ≤ sizeLine; rw [List.size_toArray, ← hyl]; exact hvl) eD fun h11 sb11 hD11 => ?_
        obtain ⟨m', hm, w11⟩ := hN (vs ++ [v]) H10 q10
        obtain ⟨t10, f10⟩ := fpK I10
        have I10u := I10.unpinned
        have k11 : ∀ b o, b ≠ D → s10.heap.get? b = some o → h11.get? b = some o := fun b o hb e => (sb11.2 b hb).trans e
        have IE : Inv (cxBlk X NB scope s3 H2 (D :: fp)) [] σ8 H10 s10 := I10u.pins_of fun p hp => nomatch hp
        have I11 : Inv (cxBlk X NB scope s3 H2 (D :: fp)) [] σ8 H10 { s10 with heap := h11 } := IE.turned (t' := s10.toks) k11 nD (Nat.ne_of_lt dl3) (.inl List.mem_cons_self) (fun y' c e z => by
          have := cge y' c e
          rw [z] at this
          exact absurd (Nat.lt_trans this dl3) (Nat.lt_irrefl _)) (fun p hp => absurd (show p ∈ ([] : List (Addr × Obj)) from hp) (by simp))
        have eL : ({ cls := .type "list", data := .seq (ys.toArray.push y) (ys.length + 1) } : Obj) = lstO (ys ++ [y]) := by
          show ({ cls := .type "list", data := .seq (ys.toArray.push y) (ys.length + 1) } : Obj) = { cls := .type "list", data := .seq (ys ++ [y]).toArray (ys ++ [y]).length }
          rw [List.length_append, List.length_singleton, List.push_toArray]
        refine ⟨m', hm, i + 1, vs ++ [v], ys ++ [y], H10, wk (I11.pins_of fun p hp => ?_), rv.append (.cons rv10 .nil), by rw [List.length_append, List.length_singleton]; exact hlt, T.keep _ _ _ t10 fun b hb o e => k11 b o (DfpN b hb) e, f10, w11⟩
        obtain rfl : p = (D, lstO (ys ++ [y])) := by simpa using hp
        exact ⟨by rw [← eL]; exact hD11, nD, Nat.ne_of_lt dl3, nf, fun v z => nomatch z⟩
  exact codeAny_compStart_list loop (T.self _ 0 _ _ _ st4 loop)

theorem op_in_seqK {K0 : PySem.W.Frag} (hK : X.K = K0) : OpR X (compareOp .In) (rIn K0 false) := by
  subst hK
  exact op_in_seq
end
end L2

set_option linter.all false
namespace K01
/-- ten to the power, 1 below 0 -/
def ten (m : Int) : Int := 10 ^ m.toNat
theorem ten_pos (m : Int) : 0 < ten m := Int.pow_pos (by decide)
theorem ten_neg {m : Int} (h : m ≤ 0) : ten m = 1 := by
  unfold ten
  rw [Int.toNat_of_nonpos h]
  rfl
theorem ten_add {a b : Int} (ha : 0 ≤ a) (hb : 0 ≤ b) : ten (a + b) = ten a * ten b := by
  unfold ten
  rw [Int.toNat_add ha hb, Int.pow_add]
theorem ten_le {a b : Int} (h : a ≤ b) (hb : 0 ≤ b) : ten a ≤ ten b := by
  by_cases ha : 0 ≤ a
  · rw [show b = a + (b - a) by omega, ten_add ha (by omega)]
    have := ten_pos (b - a)
    have h2 := ten_pos a
    calc ten a = ten a * 1 := (Int.mul_one _).symm
      _ ≤ ten a * ten (b - a) := Int.mul_le_mul_of_nonneg_left (by omega) (Int.le_of_lt h2)
  · rw [ten_neg (by omega)]
    have := ten_pos b
    omega
end K01

set_option Elab.async false
set_option linter.all false
set_option maxRecDepth 100000
namespace K02
open PySem PySem.NumText Builtin Builtin.Str StrLaws
/-- a text by its signs -/
abbrev tx (l : List Nat) : Str := ⟨l.toArray⟩
theorem tx_list (l : List Nat) : (tx l).cps.toList = l := rfl
theorem tx_len (l : List Nat) : (tx l).length = l.length := by show l.toArray.size = _; rw [List.size_toArray]
theorem of_tx (z : Str) : z = tx z.cps.toList := by cases z; rfl
theorem len_list (z : Str) : z.length = z.cps.toList.length := by show z.cps.size = _; rw [Array.length_toList]
theorem tx_inj {a b : List Nat} (h : tx a = tx b) : a = b := by
  have := congrArg (fun z : Str => z.cps.toList) h
  exact this
theorem tx_app (a b : List Nat) : tx a ++ tx b = tx (a ++ b) := by
  show (⟨a.toArray ++ b.toArray⟩ : Str) = _
  rw [List.append_toArray]
theorem val_go (b : List Nat) : ∀ acc : Nat, b.foldl (fun acc c => acc * 10 + (c - 48)) acc = acc * 10 ^ b.length + b.foldl (fun acc c => acc * 10 + (c - 48)) 0 := by
  induction b with
  | nil => intro acc; simp
  | cons c r ih =>
    intro acc
    rw [List.foldl_cons, List.foldl_cons, ih (acc * 10 + (c - 48)), ih (0 * 10 + (c - 48)), List.length_cons, Nat.pow_succ]
    rw [Nat.add_mul, Nat.zero_mul, Nat.zero_add, Nat.mul_assoc, Nat.mul_comm 10, Nat.add_assoc]
theorem val_app (a b : List Nat) : digitsVal (a ++ b) = digitsVal a * 10 ^ b.length + digitsVal b := by
  unfold digitsVal
  rw [List.foldl_append, val_go]
theorem val_lt {l : List Nat} (h : AllDigits l) : digitsVal l < 10 ^ l.length := by
  induction l with
  | nil => decide
  | cons c r ih =>
    have h1 := ih h.tail
    have h2 := h.head
    rw [show c :: r = [c] ++ r from rfl, val_app, List.length_append, List.length_singleton]
    have e : digitsVal [c] = c - 48 := by simp [digitsVal]
    rw [e, Nat.pow_add]
    have h3 : (c - 48) * 10 ^ r.length ≤ 9 * 10 ^ r.length := Nat.mul_le_mul_right _ (by omega)
    omega
/-! slices -/
theorem slice_take (l : List Nat) {k : Nat} (h : k ≤ l.length) : sliceText (tx l) none (some (k : Int)) = tx (l.take k) := by
  have e := sliceText_nat (tx l) (a := 0) (b := k) (Nat.zero_le _) (by rw [tx_len]; exact h)
  have e2 : sliceText (tx l) none (some (k : Int)) = sliceText (tx l) (some ((0 : Nat) : Int)) (some (k : Int)) := by
    unfold sliceText
    rw [sliceIdx_none_lo]
    rfl
  rw [e2, e]
  simp
theorem slice_mid (l : List Nat) {a b : Nat} (h : a ≤ l.length) (hab : a ≤ b) : sliceText (tx l) (some (a : Int)) (some (b : Int)) = tx ((l.drop a).take (b - a)) := by
  by_cases hb : b ≤ l.length
  · exact sliceText_nat (tx l) hab (by rw [tx_len]; exact hb)
  · have e2 : sliceText (tx l) (some (a : Int)) (some (b : Int)) = sliceText (tx l) (some (a : Int)) (some ((l.length : Nat) : Int)) := by
      have e3 : strSliceIndices (some (a : Int)) (some (b : Int)) 1 (tx l).length = strSliceIndices (some (a : Int)) (some ((l.length : Nat) : Int)) 1 (tx l).length := by
        rw [tx_len]
        unfold strSliceIndices
        have h1 : ¬ ((b : Int) < 0) := by omega
        have h2 : ¬ (((l.length : Nat) : Int) < 0) := by omega
        have h3 : min (b : Int) (l.length : Int) = l.length := by omega
        have h4 : min ((l.length : Nat) : Int) (l.length : Int) = l.length := by omega
        simp only [h1, h2, if_false, h3, h4, show ((1 : Int) > 0) = True from by simp, if_true]
      unfold sliceText
      rw [e3]
    rw [e2, sliceText_nat (tx l) h (by rw [tx_len]; exact Nat.le_refl _)]
    have e4 : (l.drop a).take (l.length - a) = (l.drop a).take (b - a) := by
      rw [List.take_of_length_le (by rw [List.length_drop]; omega), List.take_of_length_le (by rw [List.length_drop]; omega)]
    show tx ((l.drop a).take (l.length - a)) = _
    rw [e4]
/-! the parts of a text -/
theorem sub_one (l : List Nat) (c : Nat) : subAt (tx l) ⟨#[c]⟩ 0 = (l.head? == some c) := by
  rw [subAt_eq]
  show ((l.drop 0).take 1 == [c]) = _
  cases l with
  | nil => rfl
  | cons a r =>
    simp only [List.drop_zero, List.take_succ_cons, List.take_zero, List.head?_cons]
    by_cases h : a = c
    · subst h; simp
    · rw [beq_eq_false_iff_ne.mpr (by simpa using h), beq_eq_false_iff_ne.mpr (by simpa using h)]
/-! figures alone -/
theorem goes_fig (c : Nat) : ("0123456789" : Str).cps.contains c = decide (48 ≤ c ∧ c ≤ 57) := by
  have e : ("0123456789" : Str).cps = #[48, 49, 50, 51, 52, 53, 54, 55, 56, 57] := by decide +kernel
  rw [e]
  by_cases h : 48 ≤ c ∧ c ≤ 57
  · rw [decide_eq_true h]
    have : c = 48 ∨ c = 49 ∨ c = 50 ∨ c = 51 ∨ c = 52 ∨ c = 53 ∨ c = 54 ∨ c = 55 ∨ c = 56 ∨ c = 57 := by omega
    rcases this with rfl | rfl | rfl | rfl | rfl | rfl | rfl | rfl | rfl | rfl <;> decide +kernel
  · rw [decide_eq_false h]
    simp
    omega
instance (l : List Nat) : Decidable (AllDigits l) := inferInstanceAs (Decidable (∀ c ∈ l, 48 ≤ c ∧ c ≤ 57))
theorem mem_tw {p : Nat → Bool} {l : List Nat} {c : Nat} (h : c ∈ l.takeWhile p) : p c = true := by
  induction l with
  | nil => cases h
  | cons a r ih =>
    rw [List.takeWhile_cons] at h
    cases hp : p a with
    | false => rw [hp] at h; cases h
    | true =>
      rw [hp, if_pos rfl] at h
      rcases List.mem_cons.mp h with rfl | h
      · exact hp
      · exact ih h
theorem strip_fig (l : List Nat) : decide (Txt.stripChars (tx l) "0123456789" = (Str.empty : Str)) = decide (AllDigits l) := by
  have g : ∀ c, ("0123456789" : Str).cps.contains c = true ↔ (48 ≤ c ∧ c ≤ 57) := fun c => by rw [goes_fig]; simp
  unfold Txt.stripChars Txt.stripBy stripSame stripped stripLo stripHi
  simp only [if_true, tx_len]
  generalize hp : (("0123456789" : Str).cps.contains : Nat → Bool) = p
  have g' : ∀ c, p c = true ↔ (48 ≤ c ∧ c ≤ 57) := fun c => by rw [← hp]; exact g c
  by_cases h : AllDigits l
  · rw [decide_eq_true h, decide_eq_true]
    have e1 : (tx l).cps.toList.takeWhile p = l := takeWhile_all fun c hc => (g' c).mpr (h c hc)
    rw [e1]
    have e2 : (tx l).cps.toList.drop l.length = [] := List.drop_eq_nil_of_le (Nat.le_refl _)
    rw [e2]
    show (if (l.length == 0 && l.length == l.length) = true then tx l else strSub (tx l) l.length l.length) = Str.empty
    by_cases hz : (l.length == 0 && l.length == l.length) = true
    · rw [if_pos hz]
      have : l.length = 0 := by
        simp only [Bool.and_eq_true, beq_iff_eq] at hz
        exact hz.1
      rw [List.length_eq_zero_iff.mp this]
      rfl
    · rw [if_neg hz, of_tx (strSub _ _ _), strSub_toList, Nat.sub_self, List.take_zero]
      rfl
  · rw [decide_eq_false h, decide_eq_false]
    have hlt : ((tx l).cps.toList.takeWhile p).length < l.length := by
      have hle : ((tx l).cps.toList.takeWhile p).length ≤ l.length := List.IsPrefix.length_le (List.takeWhile_prefix p)
      rcases Nat.lt_or_ge ((tx l).cps.toList.takeWhile p).length l.length with z | z
      · exact z
      · refine absurd (fun c hc => ?_) h
        have e : (tx l).cps.toList.takeWhile p = l := List.IsPrefix.eq_of_length_le (List.takeWhile_prefix p) z
        rw [← e] at hc
        exact (g' c).mp (mem_tw hc)
    generalize hlo : ((tx l).cps.toList.takeWhile p).length = lo at hlt
    have hdrop : ∃ a r, l.drop lo = a :: r ∧ p a = false := by
      have hd : l.dropWhile p = l.drop lo := by
        have := List.takeWhile_append_dropWhile (p := p) (l := l)
        have e3 : l.drop lo = ((l.takeWhile p) ++ l.dropWhile p).drop lo := by rw [this]
        rw [e3, List.drop_append_of_le_length (by rw [← hlo]; exact Nat.le_refl _), List.drop_eq_nil_of_le (by rw [← hlo]; exact Nat.le_refl _), List.nil_append]
      cases hx : l.drop lo with
      | nil =>
        have := congrArg List.length hx
        rw [List.length_drop, List.length_nil] at this
        omega
      | cons a r =>
        refine ⟨a, r, rfl, ?_⟩
        rw [hx] at hd
        have := List.head?_dropWhile_not (p := p) (l := l)
        rw [hd] at this
        simpa using this
    obtain ⟨a, r, hx, hpa⟩ := hdrop
    have hx' : (tx l).cps.toList.drop lo = a :: r := hx
    rw [hx']
    have hrl : r.length + 1 = l.length - lo := by
      have := congrArg List.length hx
      rw [List.length_drop, List.length_cons] at this
      omega
    have hk : ((a :: r).reverse.takeWhile p).length ≤ r.length := by
      rw [List.reverse_cons]
      have hle : ((r.reverse ++ [a]).takeWhile p).length ≤ r.length := by
        by_cases hall : ∀ c ∈ r.reverse, p c = true
        · rw [List.takeWhile_append_of_pos hall, List.takeWhile_cons, hpa]
          simp
        · have : ((r.reverse ++ [a]).takeWhile p).length < (r.reverse ++ [a]).length := by
            have hle : ((r.reverse ++ [a]).takeWhile p).length ≤ (r.reverse ++ [a]).length := List.IsPrefix.length_le (List.takeWhile_prefix p)
            rcases Nat.lt_or_ge ((r.reverse ++ [a]).takeWhile p).length (r.reverse ++ [a]).length with z | z
            · exact z
            · have e : (r.reverse ++ [a]).takeWhile p = r.reverse ++ [a] := List.IsPrefix.eq_of_length_le (List.takeWhile_prefix p) z
              have : p a = true := mem_tw (l := r.reverse ++ [a]) (by rw [e]; simp)
              rw [hpa] at this
              cases this
          rw [List.length_append, List.length_reverse, List.length_singleton] at this
          omega
      exact hle
    split
    · intro z
      have := congrArg (fun z : Str => z.cps.toList.length) z
      have e0 : l.length = 0 := this
      omega
    · intro z
      have := congrArg (fun z : Str => z.cps.toList.length) z
      have e0 : (strSub (tx l) lo (l.length - ((a :: r).reverse.takeWhile p).length)).cps.toList.length = 0 := this
      rw [strSub_toList, List.length_take, tx_list, hx, List.length_cons] at e0
      omega
/-! what is written is read back -/
end K02

set_option Elab.async false
set_option linter.all false
/-! pictures, reckoned as the program does -/
namespace K04
open PySem.NumText
abbrev Rw := Nat × Nat
def timesAt (t : List Nat) : Nat × List Nat := match t with
  | 40 :: r => if 41 ∈ r ∧ r.takeWhile (· != 41) ≠ [] ∧ AllDigits (r.takeWhile (· != 41)) ∧ (r.takeWhile (· != 41)).head? ≠ some 48 then (digitsVal (r.takeWhile (· != 41)), r.drop ((r.takeWhile (· != 41)).length + 1)) else (1, t)
  | _ => (1, t)
/-- a row more, at the end; one with the same symbol grows -/
def addRow (rows : List Rw) (c n : Nat) : List Rw := match rows.getLast? with
  | some (c', m) => if c' = c then rows.dropLast ++ [(c, n + m)] else rows ++ [(c, n)]
  | none => rows ++ [(c, n)]
def rowsGo : Nat → List Nat → List Rw → List Rw
  | 0, _, rows => rows
  | _, [], rows => rows
  | k + 1, c :: t, rows => rowsGo k (timesAt t).2 (addRow rows c (timesAt t).1)
def rowsOf (l : List Nat) : List Rw := rowsGo l.length l []
def ins (c : Nat) : Bool := [44, 66, 48, 47].contains c
def forms : List (List Nat) := [[57], [83, 57], [86, 57], [83, 86, 57], [57, 86, 57], [83, 57, 86, 57]]
structure Facts where
  kind : Nat
  signed : Bool
  before : Nat
  behind : Nat
deriving DecidableEq, Repr
/-- signed, behind the point, figures before and behind -/
def numGo : List Rw → Bool → Bool → Nat → Nat → Option (Bool × Nat × Nat)
  | [], s, _, a, b => some (s, a, b)
  | (c, n) :: r, s, p, a, b => if c = 57 then (if p then numGo r s p a n else numGo r s p n b) else if n > 1 then none else if c = 83 then numGo r true p a b else numGo r s true a b
def numberFacts (rows : List Rw) : Option Facts := if forms.contains (rows.map (·.1)) then (match numGo rows false false 0 0 with
  | some (s, a, b) => if a + b > 18 then none else some ⟨2, s, a, b⟩
  | none => none) else none
def plainFacts (rows : List Rw) : Option Facts := match rows with
  | [(c, n)] => if (c ≠ 88 ∧ c ≠ 65) ∨ n > 60 then none else some ⟨if c = 88 then 0 else 1, false, 0, 0⟩
  | _ => none
def floatsAt (rows : List Rw) : Bool := match rows with
  | (c, n) :: r => decide (n > 1) || (match r.dropWhile (fun x => ins x.1) with | (c', _) :: _ => c' == c | [] => false)
  | [] => false
def leadGo : List (List Nat) → List Rw → List Nat → List Nat × List Rw
  | [], rows, lead => (lead, rows)
  | ch :: more, rows, lead => match rows with
    | (c, n) :: r => if ch.contains c && !floatsAt rows then leadGo more r (lead ++ [c]) else leadGo more rows lead
    | [] => leadGo more rows lead
def leadOf (rows : List Rw) : List Nat × List Rw := leadGo [[43, 45], [36]] rows []
def placesGo (place : Nat) : List Rw → Nat → Nat × List Rw
  | [], many => (many, [])
  | (c, n) :: r, many => if c = place then placesGo place r (many + n) else if ins c then placesGo place r many else (many, (c, n) :: r)
def wholePart (rows : List Rw) : List Nat × Nat × Nat × List Rw := match rows with
  | (c, n) :: r => if [57, 90, 42, 43, 45, 36].contains c then (let x := placesGo c rows 0; let y := placesGo 57 x.2 0; ([c], x.1, y.1, y.2)) else ([], 0, 0, rows)
  | [] => ([], 0, 0, rows)
def brokenPart (rows : List Rw) (place : List Nat) : Option Nat × List Rw := match rows with
  | (46, n) :: r => if n > 1 ∨ r = [] then (none, rows) else (match r with
    | (c, m) :: r' => if c ≠ 57 ∧ ([c] ≠ place ∨ [43, 45, 36].contains c) then (none, rows) else (some m, r')
    | [] => (none, rows))
  | _ => (some 0, rows)
def shownL : List (List Nat) := [[43], [45], [67, 82], [68, 66]]
def tailOf (rows : List Rw) : Option (List Nat) := if rows = [] then some [] else if !shownL.contains (rows.map (·.1)) || rows.any (fun x => decide (x.2 > 1)) then none else some (rows.map (·.1))
def editedFacts (rows : List Rw) : Option Facts :=
  let ld := leadOf rows
  let wp := wholePart ld.2
  let bp := brokenPart wp.2.2.2 (if wp.2.2.1 = 0 then wp.1 else [57])
  let tl := tailOf bp.2
  match wp.1, bp.1, tl with
  | [place], some behind, some tail =>
    let fl : Bool := [43, 45, 36].contains place
    if fl && decide (wp.2.1 < 2) then none
    else
      let shown := [ld.1.take 1, [place], tail].filter (shownL.contains ·)
      if shown.length > 1 then none
      else
        let before := wp.2.1 + wp.2.2.1 - (if fl then 1 else 0)
        if before + behind > 18 then none else some ⟨3, shown.length == 1, before, behind⟩
  | _, _, _ => none
def factsOf (rows : List Rw) : Option Facts := match numberFacts rows with
  | some f => some f
  | none => match plainFacts rows with
    | some f => some f
    | none => editedFacts rows
def picture (l : List Nat) : Option Facts := factsOf (rowsOf l)
end K04

set_option Elab.async false
set_option linter.all false
set_option maxRecDepth 100000
/-! texts and rows, as the program's steps read them -/
namespace Lw
open PySem PySem.Spec PyProof.Rows L2 K02 K04
open Builtin Builtin.Str StrLaws
theorem in_sym (l : List Nat) (c : Nat) : (!(occurrences (tx l) (tx [c]) 0 (tx l).length 1).isEmpty) = l.contains c := by
  rcases occ_head (tx l) (tx [c]) 1 (Nat.le_refl _) with ⟨h1, h2⟩ | ⟨i, t, h1, h2, h3⟩
  · have hn : c ∉ l := fun hm => by
      obtain ⟨j, hj⟩ := List.mem_iff_getElem?.mp hm
      exact h2 j ((subAt_one (tx l) c j).mpr hj)
    rw [h1]
    simp [hn]
  · have hi : l[i]? = some c := (subAt_one (tx l) c i).mp h2
    have hm : c ∈ l := List.mem_iff_getElem?.mpr ⟨i, hi⟩
    rw [h1]
    simp [hm]
theorem starts_c (l : List Nat) (c : Nat) : Txt.startswith (tx l) (tx [c]) = (l.head? == some c) := by
  unfold Txt.startswith
  have e : (tx [c]) = (⟨#[c]⟩ : Str) := rfl
  rw [e, sub_one]
  cases l with
  | nil => rfl
  | cons a r =>
    rw [decide_eq_true (by show 0 + 1 ≤ (tx (a :: r)).length; rw [tx_len, List.length_cons]; omega)]
    rfl
theorem str_dec (a b : List Nat) : decide (V.str (tx a) = V.str (tx b)) = decide (a = b) := by
  by_cases h : a = b
  · rw [decide_eq_true h, decide_eq_true (by rw [h])]
  · rw [decide_eq_false h, decide_eq_false fun q => h (tx_inj (V.str.inj q))]
theorem sym_dec (a b : Nat) : decide (V.str (tx [a]) = V.str (tx [b])) = decide (a = b) := by
  rw [str_dec]
  by_cases h : a = b
  · rw [decide_eq_true h, decide_eq_true (by rw [h])]
  · rw [decide_eq_false h, decide_eq_false fun q => h (List.cons.inj q).1]
/-- where a sign is first found from a place on -/
theorem from_nat (n a : Nat) : fromIndex n (a : Int) = a := by
  unfold fromIndex
  rw [if_neg (by omega)]
  omega
theorem tw_at {l : List Nat} {c i : Nat} (hi : l[i]? = some c) (hn : ∀ k, k < i → l[k]? ≠ some c) : l.takeWhile (· != c) = l.take i := by
  induction l generalizing i with
  | nil => cases hi
  | cons a r ih =>
    cases i with
    | zero =>
      have : a = c := by simpa using hi
      subst this
      simp
    | succ i =>
      have hb : (a != c) = true := by
        have := hn 0 (Nat.succ_pos _)
        simpa using this
      rw [List.takeWhile_cons, hb]
      simp only [if_true, List.take_succ_cons]
      rw [ih (i := i) (by simpa using hi) fun k hk => by
        have := hn (k + 1) (by omega)
        simpa using this]
theorem find_is {l : List Nat} {a c : Nat} {r : List Nat} (h : l.drop a = 40 :: r) (hc : c ≠ 40) :
    (c ∉ r ∧ find2 (tx l) (tx [c]) (a : Int) = -1) ∨ (c ∈ r ∧ find2 (tx l) (tx [c]) (a : Int) = ((a + 1 + (r.takeWhile (· != c)).length : Nat) : Int)) := by
  have hd : ∀ i, l[a + i]? = (40 :: r)[i]? := fun i => by rw [← h, List.getElem?_drop]
  unfold find2
  rw [from_nat]
  rcases occ_head_from (tx l) (tx [c]) a 1 (Nat.le_refl _) with ⟨h1, h2⟩ | ⟨i, t, h1, h2, h3, h4⟩
  · refine .inl ⟨fun hm => ?_, by rw [h1]⟩
    obtain ⟨j, hj⟩ := List.mem_iff_getElem?.mp hm
    refine h2 (a + (j + 1)) (by omega) ((subAt_one (tx l) c _).mpr ?_)
    show l[a + (j + 1)]? = some c
    rw [hd]
    exact hj
  · have hi : l[i]? = some c := (subAt_one (tx l) c i).mp h3
    obtain ⟨k, rfl⟩ : ∃ k, i = a + k := ⟨i - a, by omega⟩
    rw [hd] at hi
    cases k with
    | zero => exact absurd (by simpa using hi) (Ne.symm hc)
    | succ k =>
      have hk : r[k]? = some c := by simpa using hi
      have e := tw_at (l := r) (c := c) (i := k) hk fun m hm z => h4 (a + (m + 1)) (by omega) (by omega) ((subAt_one (tx l) c _).mpr (by show l[a + (m + 1)]? = some c; rw [hd]; exact z))
      refine .inr ⟨List.mem_iff_getElem?.mpr ⟨k, hk⟩, ?_⟩
      have hkl := (List.getElem?_eq_some_iff.mp hk).1
      rw [h1, e, List.length_take, Nat.min_eq_left (by omega)]
      show ((a + (k + 1) : Nat) : Int) = _
      congr 1
      omega
theorem slice_none (l : List Nat) {a b : Nat} (h : b < a) (hl : 1 ≤ l.length) : sliceText (tx l) (some (a : Int)) (some (b : Int)) = tx [] := by
  have e3 : strSliceIndices (some (a : Int)) (some (b : Int)) 1 (tx l).length = [] := by
    rw [tx_len]
    unfold strSliceIndices
    have h1 : ¬ ((a : Int) < 0) := by omega
    have h2 : ¬ ((b : Int) < 0) := by omega
    have h3 : max (0 : Int) (min (a : Int) (l.length : Int)) ≥ max (0 : Int) (min (b : Int) (l.length : Int)) := by omega
    simp only [h1, h2, if_false, show ((1 : Int) > 0) = True from by simp, if_true]
    unfold sliceRange
    simp
    omega
  unfold sliceText
  rw [e3]
  split
  · rename_i h1
    have : l.length = 0 := by
      have h2 : (0 == (tx l).length) = true := by simpa using h1
      rw [tx_len] at h2
      have := beq_iff_eq.mp h2
      omega
    omega
  · rfl
/-! rows at hand -/
def rowO (x : Rw) : HO := .tup [.str (tx [x.1]), .int (x.2 : Nat)]
inductive Rws (H : Hp) : List Addr → List Rw → Prop where
  | nil : Rws H [] []
  | cons {r : Addr} {rs : List Addr} {x : Rw} {xs : List Rw} : H r = some (rowO x) → Rws H rs xs → Rws H (r :: rs) (x :: xs)
section
variable {H H' : Hp} {rs : List Addr} {rows : List Rw}
theorem Rws.len (h : Rws H rs rows) : rs.length = rows.length := by
  induction h with
  | nil => rfl
  | cons _ _ ih => rw [List.length_cons, List.length_cons, ih]
theorem Rws.keep (h : Rws H rs rows) (e : ∀ b xs, H b = some (.tup xs) → H' b = some (.tup xs)) : Rws H' rs rows := by
  induction h with
  | nil => exact .nil
  | cons a _ ih => exact .cons (e _ _ a) ih
theorem Rws.at (h : Rws H rs rows) : ∀ {i : Nat} {x : Rw}, rows[i]? = some x → ∃ r, rs[i]? = some r ∧ H r = some (rowO x) := by
  induction h with
  | nil => intro i x e; cases e
  | cons a _ ih =>
    intro i x e
    cases i with
    | zero => exact ⟨_, rfl, by have : _ = x := Option.some.inj e; rw [← this]; exact a⟩
    | succ i => exact ih (i := i) (x := x) e
theorem Rws.app (h : Rws H rs rows) {r : Addr} {x : Rw} (e : H r = some (rowO x)) : Rws H (rs ++ [r]) (rows ++ [x]) := by
  induction h with
  | nil => exact .cons e .nil
  | cons a _ ih => exact .cons a ih
theorem Rws.dr (h : Rws H rs rows) : ∀ k, Rws H (rs.drop k) (rows.drop k) := by
  induction h with
  | nil => intro k; rw [List.drop_nil, List.drop_nil]; exact .nil
  | cons a t ih =>
    intro k
    cases k with
    | zero => exact .cons a t
    | succ k => exact ih k
end
structure RowsAt (K : PySem.W.Frag) (H : Hp) (p : Addr) (rs : List Addr) (rows : List Rw) : Prop where
  sq : SqL K H p (rs.map V.ref)
  rw : Rws H rs rows
  le : rows.length ≤ 600
section
variable {K : PySem.W.Frag} {H H' : Hp} {p : Addr} {rs : List Addr} {rows : List Rw} {σ : L2.St} {i j k : Nat} {Q : VK}
theorem SqL.same {K : PySem.W.Frag} {H H' : Hp} {a : Addr} {xs : List V} (e : Same H H') (h : SqL K H a xs) : SqL K H' a xs := by
  rcases h with (h | ⟨o, h⟩) | h
  · exact .inl (.inl (e _ _ h))
  · exact .inl (.inr ⟨o, e _ _ h⟩)
  · exact .inr h
theorem RowsAt.same (R : RowsAt K H p rs rows) (e : Same H H') : RowsAt K H' p rs rows := ⟨SqL.same e R.sq, R.rw.keep fun b xs h => e _ _ h, R.le⟩
theorem RowsAt.len (R : RowsAt K H p rs rows) : (rs.map V.ref).length = rows.length := by rw [List.length_map, R.rw.len]
theorem RowsAt.at (R : RowsAt K H p rs rows) {x : Rw} (e : rows[k]? = some x) : ∃ r, atI (rs.map V.ref) (k : Int) = some (.ref r) ∧ H r = some (rowO x) := by
  obtain ⟨r, h1, h2⟩ := R.rw.at e
  exact ⟨r, atI_nat (by rw [List.getElem?_map, h1]; rfl), h2⟩
/-- the row itself -/
theorem row_at {te : TE} (h1 : σ[i]? = some (some (.ref p))) (h2 : ∀ Q : VK, Q (.int (k : Nat)) H → te σ H Q) (R : RowsAt K H p rs rows) {x : Rw} (e : rows[k]? = some x) (q : ∀ r, H r = some (rowO x) → Q (.ref r) H) : tOp (rIxL K) (tVar i) te σ H Q := by
  obtain ⟨r, a, b⟩ := R.at e
  exact ⟨_, h1, h2 _ ⟨p, _, _, _, rfl, rfl, R.sq, a, q r b⟩⟩
theorem sym_at {te : TE} (h1 : σ[i]? = some (some (.ref p))) (h2 : ∀ Q : VK, Q (.int (k : Nat)) H → te σ H Q) (R : RowsAt K H p rs rows) {x : Rw} (e : rows[k]? = some x) (q : Q (.str (tx [x.1])) H) : tOp (rIxT K) (tOp (rIxL K) (tVar i) te) (tC (.int 0)) σ H Q :=
  row_at h1 h2 R e fun r b => ⟨r, _, _, _, rfl, rfl, SqT.of b, rfl, q⟩
theorem num_at {te : TE} (h1 : σ[i]? = some (some (.ref p))) (h2 : ∀ Q : VK, Q (.int (k : Nat)) H → te σ H Q) (R : RowsAt K H p rs rows) {x : Rw} (e : rows[k]? = some x) (q : Q (.int (x.2 : Nat)) H) : tOp (rIxT K) (tOp (rIxL K) (tVar i) te) (tC (.int 1)) σ H Q :=
  row_at h1 h2 R e fun r b => ⟨r, _, _, _, rfl, rfl, SqT.of b, rfl, q⟩
theorem len_rows (h1 : σ[i]? = some (some (.ref p))) (R : RowsAt K H p rs rows) (q : Q (.int (rows.length : Nat)) H) : tCB (fun xs H Q => ∃ p ys, xs = [.ref p] ∧ (SqL K H p ys ∨ SqT K H p ys) ∧ Q (.int ys.length) H) (tCons (tVar i) tNil) σ H Q :=
  ⟨_, h1, p, _, rfl, .inl R.sq, by rw [R.len]; exact q⟩
theorem var_int (h : σ[i]? = some (some (.int (k : Nat)))) : ∀ Q : VK, Q (.int (k : Nat)) H → tVar i σ H Q := fun Q q => ⟨_, h, q⟩
end
theorem join_syms (l : List Nat) : Txt.join "" (l.map fun c => tx [c]) = tx l := by
  show Builtin.Str.glued _ _ = _
  rw [StrLaws.glued_eq_join]
  have e : ("" : Str) = ⟨#[]⟩ := by decide +kernel
  rw [e]
  exact join_ones l
theorem fold_len : ∀ (l : List Nat) (n : Nat), (l.map fun c => tx [c]).foldl (fun (m : Nat) (s : Str) => m + s.length + ("" : Str).length) n = n + l.length := by
  have e : ("" : Str).length = 0 := by decide +kernel
  intro l
  induction l with
  | nil => intro n; rfl
  | cons a r ih =>
    intro n
    show (r.map fun c => tx [c]).foldl _ (n + (tx [a]).length + ("" : Str).length) = _
    rw [ih, e, tx_len, List.length_cons, List.length_cons, List.length_nil]
    omega
theorem join_ok {l : List Nat} (h : l.length ≤ 1000) : JoinOk "" (l.map fun c => tx [c]) = true := by
  unfold JoinOk
  rw [← Array.foldl_toList, List.toList_toArray, fold_len]
  unfold tooLong
  have hz : 1000 ≤ sizeLine := by decide
  rw [decide_eq_false (by omega)]
  rfl
end Lw

set_option Elab.async false
set_option linter.all false
set_option maxRecDepth 100000
namespace Lw
open PySem PySem.Spec PyProof.Rows L2 K02 K04
def top (i : Nat) : Stmt := PySem.Challenge.pw_boxmoves_k24_whole_boxes_apart.main.body.getD i (.Pass ⟨0, 0, 0, 0⟩)
abbrev s_ten_to : Stmt := top 7
theorem sc_ten_to : FnScope ["many", "power", "turn"] ["many"] (defScope s_ten_to) := ⟨rfl, rfl, rfl, by decide +kernel, rfl, by decide +kernel, by decide +kernel⟩
abbrev s_is_figures : Stmt := top 8
theorem sc_is_figures : FnScope ["text"] ["text"] (defScope s_is_figures) := ⟨rfl, rfl, rfl, by decide +kernel, rfl, by decide +kernel, by decide +kernel⟩
abbrev s_number_of : Stmt := top 9
theorem sc_number_of : FnScope ["text", "number", "start", "part"] ["text"] (defScope s_number_of) := ⟨rfl, rfl, rfl, by decide +kernel, rfl, by decide +kernel, by decide +kernel⟩
abbrev s_size_of : Stmt := top 20
theorem sc_size_of : FnScope ["picture", "rows", "facts"] ["picture"] (defScope s_size_of) := ⟨rfl, rfl, rfl, by decide +kernel, rfl, by decide +kernel, by decide +kernel⟩
abbrev s_understood : Stmt := top 21
theorem sc_understood : FnScope ["picture", "rows", "facts"] ["picture"] (defScope s_understood) := ⟨rfl, rfl, rfl, by decide +kernel, rfl, by decide +kernel, by decide +kernel⟩
abbrev s_rows_of : Stmt := top 22
theorem sc_rows_of : FnScope ["thing", "rows", "at", "symbol", "many"] ["thing"] (defScope s_rows_of) := ⟨rfl, rfl, rfl, by decide +kernel, rfl, by decide +kernel, by decide +kernel⟩
abbrev s_times_at : Stmt := top 23
theorem sc_times_at : FnScope ["text", "at", "end", "number"] ["text", "at"] (defScope s_times_at) := ⟨rfl, rfl, rfl, by decide +kernel, rfl, by decide +kernel, by decide +kernel⟩
abbrev s_facts_of : Stmt := top 24
theorem sc_facts_of : FnScope ["rows", "facts"] ["rows"] (defScope s_facts_of) := ⟨rfl, rfl, rfl, by decide +kernel, rfl, by decide +kernel, by decide +kernel⟩
abbrev s_number_facts : Stmt := top 25
theorem sc_number_facts : FnScope ["rows", "symbol", "many", "signed", "behind_point", "figures"] ["rows"] (defScope s_number_facts) := ⟨rfl, rfl, rfl, by decide +kernel, rfl, by decide +kernel, by decide +kernel⟩
abbrev s_plain_facts : Stmt := top 26
theorem sc_plain_facts : FnScope ["rows", "symbol", "many"] ["rows"] (defScope s_plain_facts) := ⟨rfl, rfl, rfl, by decide +kernel, rfl, by decide +kernel, by decide +kernel⟩
abbrev s_edited_facts : Stmt := top 27
theorem sc_edited_facts : FnScope ["rows", "lead", "start", "place", "many", "nines", "behind", "end", "tail", "floats", "shown", "before"] ["rows"] (defScope s_edited_facts) := ⟨rfl, rfl, rfl, by decide +kernel, rfl, by decide +kernel, by decide +kernel⟩
abbrev s_lead_of : Stmt := top 28
theorem sc_lead_of : FnScope ["rows", "lead", "at", "choice"] ["rows"] (defScope s_lead_of) := ⟨rfl, rfl, rfl, by decide +kernel, rfl, by decide +kernel, by decide +kernel⟩
abbrev s_floats_at : Stmt := top 29
theorem sc_floats_at : FnScope ["rows", "at", "symbol", "many", "behind"] ["rows", "at"] (defScope s_floats_at) := ⟨rfl, rfl, rfl, by decide +kernel, rfl, by decide +kernel, by decide +kernel⟩
abbrev s_body_of : Stmt := top 30
theorem sc_body_of : FnScope ["rows", "at", "place", "many", "nines", "behind"] ["rows", "at"] (defScope s_body_of) := ⟨rfl, rfl, rfl, by decide +kernel, rfl, by decide +kernel, by decide +kernel⟩
abbrev s_whole_part : Stmt := top 31
theorem sc_whole_part : FnScope ["rows", "at", "place", "many", "nines"] ["rows", "at"] (defScope s_whole_part) := ⟨rfl, rfl, rfl, by decide +kernel, rfl, by decide +kernel, by decide +kernel⟩
abbrev s_places_of : Stmt := top 32
theorem sc_places_of : FnScope ["rows", "at", "place", "many"] ["rows", "at", "place"] (defScope s_places_of) := ⟨rfl, rfl, rfl, by decide +kernel, rfl, by decide +kernel, by decide +kernel⟩
abbrev s_broken_part : Stmt := top 33
theorem sc_broken_part : FnScope ["rows", "at", "place", "symbol", "many"] ["rows", "at", "place"] (defScope s_broken_part) := ⟨rfl, rfl, rfl, by decide +kernel, rfl, by decide +kernel, by decide +kernel⟩
abbrev s_tail_of : Stmt := top 34
theorem sc_tail_of : FnScope ["rows", "at", "tail"] ["rows", "at"] (defScope s_tail_of) := ⟨rfl, rfl, rfl, by decide +kernel, rfl, by decide +kernel, by decide +kernel⟩
abbrev s_signs_in : Stmt := top 36
theorem sc_signs_in : FnScope ["layout", "signs", "left", "items", "times", "item"] ["layout"] (defScope s_signs_in) := ⟨rfl, rfl, rfl, by decide +kernel, rfl, by decide +kernel, by decide +kernel⟩
abbrev s_where : Stmt := top 37
theorem sc_where : FnScope ["layout", "path", "start", "item"] ["layout", "path"] (defScope s_where) := ⟨rfl, rfl, rfl, by decide +kernel, rfl, by decide +kernel, by decide +kernel⟩
abbrev s_boxes : Stmt := top 38
theorem sc_boxes : FnScope ["layout"] ["layout"] (defScope s_boxes) := ⟨rfl, rfl, rfl, by decide +kernel, rfl, by decide +kernel, by decide +kernel⟩
abbrev s_found : Stmt := top 39
theorem sc_found : FnScope ["layout", "path", "start", "items", "item", "step", "ahead"] ["layout", "path"] (defScope s_found) := ⟨rfl, rfl, rfl, by decide +kernel, rfl, by decide +kernel, by decide +kernel⟩
abbrev s_paths_of_boxes : Stmt := top 40
theorem sc_paths_of_boxes : FnScope ["items", "with_tables", "paths", "left", "path", "item", "number"] ["items", "with_tables"] (defScope s_paths_of_boxes) := ⟨rfl, rfl, rfl, by decide +kernel, rfl, by decide +kernel, by decide +kernel⟩
abbrev s_last_first : Stmt := top 41
theorem sc_last_first : FnScope ["path", "items"] ["path", "items"] (defScope s_last_first) := ⟨rfl, rfl, rfl, by decide +kernel, rfl, by decide +kernel, by decide +kernel⟩
abbrev s_bare : Stmt := top 42
theorem sc_bare : FnScope ["item"] ["item"] (defScope s_bare) := ⟨rfl, rfl, rfl, by decide +kernel, rfl, by decide +kernel, by decide +kernel⟩
abbrev s_is_whole : Stmt := top 43
theorem sc_is_whole : FnScope ["thing"] ["thing"] (defScope s_is_whole) := ⟨rfl, rfl, rfl, by decide +kernel, rfl, by decide +kernel, by decide +kernel⟩
abbrev s_item_at : Stmt := top 44
theorem sc_item_at : FnScope ["items", "step", "name", "number", "under", "at", "item"] ["items", "step"] (defScope s_item_at) := ⟨rfl, rfl, rfl, by decide +kernel, rfl, by decide +kernel, by decide +kernel⟩
abbrev s_step_parts : Stmt := top 45
theorem sc_step_parts : FnScope ["step"] ["step"] (defScope s_step_parts) := ⟨rfl, rfl, rfl, by decide +kernel, rfl, by decide +kernel, by decide +kernel⟩
abbrev s_ahead_in_table : Stmt := top 46
theorem sc_ahead_in_table : FnScope ["item", "number"] ["item", "number"] (defScope s_ahead_in_table) := ⟨rfl, rfl, rfl, by decide +kernel, rfl, by decide +kernel, by decide +kernel⟩
abbrev s__law_draw : Stmt := top 48
theorem sc__law_draw : FnScope ["_law_script", "_law_town", "_law_many", "_law_at", "_law_rest", "_law_number"] ["_law_script", "_law_town", "_law_many"] (defScope s__law_draw) := ⟨rfl, rfl, rfl, by decide +kernel, rfl, by decide +kernel, by decide +kernel⟩
abbrev s__law_begun : Stmt := top 49
theorem sc__law_begun : FnScope [] [] (defScope s__law_begun) := ⟨rfl, rfl, rfl, by decide +kernel, rfl, by decide +kernel, by decide +kernel⟩
abbrev s__law_a_layout : Stmt := top 50
theorem sc__law_a_layout : FnScope ["_law_script", "_law_town", "_law_deep", "_law_found", "_law_under", "_law_letters", "_law_k", "_law_turn", "_law_name", "_law_item", "_law_size"] ["_law_script", "_law_town", "_law_deep"] (defScope s__law_a_layout) := ⟨rfl, rfl, rfl, by decide +kernel, rfl, by decide +kernel, by decide +kernel⟩
abbrev s__law_item_size : Stmt := top 51
theorem sc__law_item_size : FnScope ["_law_item", "_law_size"] ["_law_item"] (defScope s__law_item_size) := ⟨rfl, rfl, rfl, by decide +kernel, rfl, by decide +kernel, by decide +kernel⟩
abbrev s__law_plain : Stmt := top 53
theorem sc__law_plain : FnScope ["_law_items", "_law_found", "_law_item", "_law_steps", "_law_step"] ["_law_items"] (defScope s__law_plain) := ⟨rfl, rfl, rfl, by decide +kernel, rfl, by decide +kernel, by decide +kernel⟩
abbrev s_law : Stmt := top 54
theorem sc_law : FnScope ["_law_script", "_law_town", "_law_items", "_law_at", "_law_path", "_law_start_at", "_law_size", "_law_picture_so", "_law_many", "_law_first", "_law_wide", "_law_none", "_law_under", "_law_item", "_law_name", "_law_word", "_law_here"] ["_law_script"] (defScope s_law) := ⟨rfl, rfl, rfl, by decide +kernel, rfl, by decide +kernel, by decide +kernel⟩
section
variable {P : Program} {w : World} {K : PySem.W.Frag} {mg : Str → Option Value} {base : Heap} {f : Addr} {fd : FuncData} {tk : Nat → Tok} {c kr : Nat → Addr}
/-! ### the program -/
def spTen : Sp := fun vs H Q _ => ∃ m : Int, vs = [.int m] ∧ -(2 ^ 62) ≤ m ∧ m < 2 ^ 62 ∧ Q (.int (K01.ten m)) H
theorem ok_ten_to (F : Fun K "ten_to" "ten_to" s_ten_to f fd) (O : Own mg) : FnOk P w K mg base (CXE P w) 1 f fd ["many"] spTen := by
  refine okN F sc_ten_to (fun vs H Q E h => ?_) (fun cdv A outer s H vs Q E hr h => ?_)
  · obtain ⟨m, rfl, _⟩ := h
    rfl
  · obtain ⟨m, rfl, h1, h2, k⟩ := h
    refine ⟨_, (pss_cons (ps_set (i := 1) sc_ten_to.nd rfl (Or.inl rfl) pe_int)
      (pss_cons (ps_for PassesOwn.never rfl (pi_range1 rfl O.range (pa_cons (pv 0) pa_nil)) (pg_name (i := 2) sc_ten_to.nd rfl (Or.inl rfl)) (pss_one (ps_set (i := 1) sc_ten_to.nd rfl (Or.inl rfl) (pe_op op_mul (pv 1) pe_int))))
      (pss_one (ps_ret (pv 1))))), ?_⟩
    refine ⟨_, rfl, m, rfl, h1, h2, for_range (n := m.toNat) (fun i σ H2 => ∃ v, σ = [some (.int m), some (.int (10 ^ i)), v] ∧ H2 = H) ⟨none, rfl, rfl⟩ ?_ ?_⟩
    · rintro i σ H2 hi ⟨v, rfl, rfl⟩
      refine ⟨_, rfl, _, _, rfl, rfl, .inr ⟨by decide, by decide⟩, ?_⟩
      exact ⟨_, by rw [Int.pow_succ]; rfl, rfl⟩
    · rintro σ H2 ⟨v, rfl, rfl⟩
      exact ⟨_, rfl, k⟩
theorem ten_bound {m : Int} (h : m ≤ 40) : (K01.ten m).natAbs < 2 ^ 200 := by
  have h1 := K01.ten_le (a := m) (b := 40) h (by decide)
  have h2 := K01.ten_pos m
  have h3 : K01.ten 40 < 2 ^ 200 := by decide
  omega
theorem big {a : Int} (h : a.natAbs < 2 ^ 200) : a.natAbs < 2 ^ 2000 := Nat.lt_of_lt_of_le h (by decide)
/-- the names of the text's top -/
structure Txt (K : PySem.W.Frag) (mg : Str → Option Value) (tk : Nat → Tok) (c kr : Nat → Addr) : Prop where
  m_BoxError : mg "BoxError" = some (.ref (c 0))
  m_NoPicture : mg "NoPicture" = some (.ref (c 1))
  m_NoPath : mg "NoPath" = some (.ref (c 8))
  m_FIGURES : mg "FIGURES" = some (.str "0123456789" (tk 0))
  m_PART : mg "PART" = some (.int 18 (tk 1))
  m_INSERTED : mg "INSERTED" = some (.str ",B0/" (tk 2))
  m_SIGNS : mg "SIGNS" = some (.str "+-" (tk 3))
  m_FLOATING : mg "FLOATING" = some (.str "+-$" (tk 4))
  m_PLACES : mg "PLACES" = some (.str "9Z*+-$" (tk 5))
  m_MOST_FIGURES : mg "MOST_FIGURES" = some (.int 18 (tk 6))
  m_MOST_SIGNS : mg "MOST_SIGNS" = some (.int 60 (tk 7))
  m_NUMBER_FORMS : mg "NUMBER_FORMS" = some (.ref (kr 0))
  m_SHOWN : mg "SHOWN" = some (.ref (kr 1))
  m_PLAIN_KINDS : mg "PLAIN_KINDS" = some (.ref (kr 2))
  q_FORMS : ∀ H, SqT K H (kr 0) [.str "9", .str "S9", .str "V9", .str "SV9", .str "9V9", .str "S9V9"]
  q_SHOWN : ∀ H, SqT K H (kr 1) [.str "+", .str "-", .str "CR", .str "DB"]
  e_NoPicture : Err K (c 1)
  e_NoPath : Err K (c 8)
  t_str : PySem.W.kitOne K (.type "str") (.type "str") = some true
  t_int : PySem.W.kitOne K (.type "int") (.type "str") = some false
  t_non : PySem.W.kitOne K (.type "NoneType") (.type "str") = some false
  t_tup : PySem.W.kitOne K (.type "tuple") (.type "str") = some false
def kinds2 : List (Key × V) := [(Sum.inr "X", .str "text"), (Sum.inr "A", .str "letters")]
def spIsFig : Sp := fun vs H Q _ => ∃ z : Str, vs = [.str z] ∧ z.length ≤ 1000 ∧ Q (.bl (decide (z.cps.toList ≠ [] ∧ NumText.AllDigits z.cps.toList))) H
theorem str_empty (z : Str) : decide (V.str z = V.str "") = decide (z.cps.toList = []) := by
  have e : ("" : Str) = tx [] := by decide +kernel
  rw [e]
  by_cases h : z.cps.toList = []
  · rw [decide_eq_true h, decide_eq_true]
    rw [of_tx z, h]
  · rw [decide_eq_false h, decide_eq_false]
    intro q
    exact h (by rw [V.str.inj q])
theorem strip_dec (z : Str) : decide (V.str (Txt.stripChars z "0123456789") = V.str "") = decide (NumText.AllDigits z.cps.toList) := by
  rw [str_empty, ← strip_fig z.cps.toList]
  have e : tx z.cps.toList = z := (of_tx z).symm
  rw [e]
  by_cases h : (Txt.stripChars z "0123456789").cps.toList = []
  · rw [decide_eq_true h, decide_eq_true]
    rw [of_tx (Txt.stripChars _ _), h]
    rfl
  · rw [decide_eq_false h, decide_eq_false]
    intro q
    exact h (by rw [q]; rfl)
theorem ok_is_figures (F : Fun K "is_figures" "is_figures" s_is_figures f fd) (T : Txt K mg tk c kr) : FnOk P w K mg base (CXE P w) 1 f fd ["text"] spIsFig := by
  refine okN F sc_is_figures (fun vs H Q E h => ?_) (fun cdv A outer s H vs Q E hr h => ?_)
  · obtain ⟨z, rfl, _⟩ := h
    rfl
  · obtain ⟨z, rfl, hl, k⟩ := h
    refine ⟨_, (pss_one (ps_ret (pe_and (pe_cmpR op_ne (pv 0) pe_str (nomark _)) (pe_one (pe_cmpR op_eq (pe_bm PySem.F.plainAttrs_str PySem.F.slot_str_strip PySem.F.type_str_strip mt_strip (pv 0) (pa_cons (pe_glob (v := V.str "0123456789") rfl T.m_FIGURES ⟨_, rfl⟩) pa_nil)) pe_str (nomark _)))))), ?_⟩
    refine ⟨_, rfl, rfl, _, rfl, ?_⟩
    refine ifB (fun h => ?_) (fun h => ?_)
    · refine ⟨_, rfl, rfl, z, "0123456789", rfl, rfl, Nat.le_trans hl (by decide), rfl, ?_⟩
      rw [str_empty] at h
      refine Eq.mp (congrArg (fun b => Q (.bl b) H) ?_) k
      rw [strip_dec]
      have hne : z.cps.toList ≠ [] := fun q => by rw [decide_eq_true q] at h; cases h
      by_cases hd : NumText.AllDigits z.cps.toList
      · rw [decide_eq_true hd, decide_eq_true ⟨hne, hd⟩]
      · rw [decide_eq_false hd, decide_eq_false fun q => hd q.2]
    · rw [str_empty] at h
      have hne : z.cps.toList = [] := by
        by_cases q : z.cps.toList = []
        · exact q
        · rw [decide_eq_false q] at h; cases h
      refine Eq.mp (congrArg (fun b => Q (.bl b) H) ?_) k
      exact decide_eq_false fun q => q.1 hne
def spNum : Sp := fun vs H Q _ => ∃ z : Str, vs = [.str z] ∧ NumText.AllDigits z.cps.toList ∧ 1 ≤ z.length ∧ z.length ≤ 500 ∧ Q (.int (NumText.digitsVal z.cps.toList : Nat)) H
theorem ok_number_of (F : Fun K "number_of" "number_of" s_number_of f fd) (O : Own mg) (T : Txt K mg tk c kr) (D_ten_to : Def P w K mg base 1 "ten_to" ["many"] spTen) : FnOk P w K mg base (CXE P w) 2 f fd ["text"] spNum := by
  refine okN F sc_number_of (fun vs H Q E h => ?_) (fun cdv A outer s H vs Q E hr h => ?_)
  · obtain ⟨z, rfl, _⟩ := h
    rfl
  · obtain ⟨z, rfl, hd, h1, h2, k⟩ := h
    have hll := len_list z
    refine ⟨_, (pss_cons (ps_set (i := 1) sc_number_of.nd rfl (Or.inl rfl) pe_int)
      (pss_cons (ps_for PassesOwn.never rfl (pi_range3 rfl O.range (pa_cons pe_int (pa_cons (pe_callB call_len_str rfl O.len PySem.boot_len (pa_cons (pv 0) pa_nil)) (pa_cons (pe_glob (v := V.int 18) rfl T.m_PART ⟨_, rfl⟩) pa_nil)))) (pg_name (i := 2) sc_number_of.nd rfl (Or.inl rfl)) (pss_cons (ps_set (i := 3) sc_number_of.nd rfl (Or.inl rfl) (pe_slice sl_str (pv 0) (po_some (pv 2)) (po_some (pe_op op_add (pv 2) (pe_glob (v := V.int 18) rfl T.m_PART ⟨_, rfl⟩)))))
      (pss_one (ps_set (i := 1) sc_number_of.nd rfl (Or.inl rfl) (pe_op op_add (pe_op op_mulB (pv 1) (D_ten_to.pe hr (by decide) rfl passE0 (pa_cons (pe_callB call_len_str rfl O.len PySem.boot_len (pa_cons (pv 3) pa_nil)) pa_nil))) (pe_callTy call_int_text rfl O.int PyProof.Rows.boot_int (pa_cons (pv 3) pa_nil)))))))
      (pss_one (ps_ret (pv 1))))), ?_⟩
    have hn : Builtin.Range.rangeSize 0 (z.length : Int) 18 = (((z.length - 1) / 18 + 1 : Nat) : Int) := by
      unfold Builtin.Range.rangeSize
      rw [if_pos (by decide), if_pos (by omega)]
      omega
    refine ⟨_, rfl, z, rfl, Nat.le_trans h2 (by decide), 0, (z.length : Int), 18, _, rfl, ⟨by decide, by decide, by omega, by omega, by decide, by decide⟩, hn, for_range3 (fun i σ H2 => ∃ x2 x3, σ = [some (.str z), some (.int (NumText.digitsVal (z.cps.toList.take (18 * i)) : Nat)), x2, x3] ∧ H2 = H) ⟨none, none, rfl, rfl⟩ ?_ ?_⟩
    · rintro i σ H2 hi ⟨x2, x3, rfl, rfl⟩
      have hi18 : 18 * i < z.length := by omega
      have hs : StrLaws.sliceText z (some (0 + (i : Int) * 18)) (some (0 + (i : Int) * 18 + 18)) = tx ((z.cps.toList.drop (18 * i)).take 18) := by
        have e1 : (0 + (i : Int) * 18) = ((18 * i : Nat) : Int) := by omega
        have e2 : (0 + (i : Int) * 18 + 18) = ((18 * i + 18 : Nat) : Int) := by omega
        rw [e2, e1]
        have := slice_mid z.cps.toList (a := 18 * i) (b := 18 * i + 18) (by omega) (by omega)
        rw [← of_tx z, show 18 * i + 18 - 18 * i = 18 by omega] at this
        exact this
      refine ⟨_, rfl, _, rfl, _, rfl, _, rfl, _, _, rfl, rfl, _, rfl, z, rfl, Nat.le_trans h2 (by decide), ?_⟩
      rw [hs]
      have hpd : NumText.AllDigits ((z.cps.toList.drop (18 * i)).take 18) := fun c hc => hd c (List.mem_of_mem_drop (List.mem_of_mem_take hc))
      have hpl : ((z.cps.toList.drop (18 * i)).take 18).length ≤ 18 := by rw [List.length_take]; omega
      have hp1 : 1 ≤ ((z.cps.toList.drop (18 * i)).take 18).length := by rw [List.length_take, List.length_drop]; omega
      have htk : z.cps.toList.take (18 * (i + 1)) = z.cps.toList.take (18 * i) ++ (z.cps.toList.drop (18 * i)).take 18 := by rw [show 18 * (i + 1) = 18 * i + 18 by omega, List.take_add]
      generalize (z.cps.toList.drop (18 * i)).take 18 = pl at hpd hpl hp1 htk
      have htl := tx_len pl
      have hv0 := val_lt (l := z.cps.toList.take (18 * i)) fun c hc => hd c (List.mem_of_mem_take hc)
      have hv1 : NumText.digitsVal (z.cps.toList.take (18 * i)) < 10 ^ 500 := Nat.lt_of_lt_of_le hv0 (Nat.pow_le_pow_right (by decide) (by rw [List.length_take]; omega))
      refine ⟨_, rfl, _, rfl, tx pl, rfl, by rw [htl]; exact Nat.le_trans hpl (by decide), _, rfl, by omega, by omega, _, _, rfl, rfl, ⟨Nat.lt_trans hv1 (by decide), big (ten_bound (by omega))⟩, ?_⟩
      refine ⟨_, rfl, tx pl, _, rfl, PySem.intText_digits hpd (fun q => by rw [tx_list] at q; rw [q] at hp1; exact absurd hp1 (by decide)) (by rw [htl]; omega), by rw [htl]; omega, _, _, rfl, rfl, ?_⟩
      have et : K01.ten (((tx pl).length : Nat) : Int) = ((10 ^ pl.length : Nat) : Int) := by
        unfold K01.ten
        rw [Int.toNat_natCast, htl]
        push_cast
        rfl
      have key : ((NumText.digitsVal (z.cps.toList.take (18 * i)) : Nat) : Int) * K01.ten (((tx pl).length : Nat) : Int) + ((NumText.digitsVal (tx pl).cps.toList : Nat) : Int) = ((NumText.digitsVal (z.cps.toList.take (18 * (i + 1))) : Nat) : Int) := by
        rw [htk, val_app, et, tx_list]
        push_cast
        rfl
      refine ⟨some (.int (0 + (i : Int) * 18)), some (.str (tx pl)), ?_, rfl⟩
      rw [← key]
      rfl
    · rintro σ H2 ⟨x2, x3, rfl, rfl⟩
      refine ⟨_, rfl, ?_⟩
      rw [List.take_of_length_le (by omega)]
      exact k
end
end Lw

set_option Elab.async false
set_option linter.all false
set_option maxRecDepth 100000
namespace Lw
open PySem PySem.Spec PyProof.Rows L2 K02 K04
section
variable {P : Program} {w : World} {K : PySem.W.Frag} {mg : Str → Option Value} {base : Heap} {f : Addr} {fd : FuncData} {tk : Nat → Tok} {c kr : Nat → Addr}
def spTimes : Sp := fun vs H Q _ => ∃ (l : List Nat) (a : Nat), vs = [.str (tx l), .int (a : Nat)] ∧ l.length ≤ 500 ∧ a ≤ l.length ∧ ∀ b, a ≤ b → b ≤ l.length → (timesAt (l.drop a)).2 = l.drop b → ∀ q, H q = none → Q (.ref q) (upd H q (.tup [.int ((timesAt (l.drop a)).1 : Nat), .int (b : Nat)]))
theorem times_no {t : List Nat} (h : t.take 1 ≠ [40]) : timesAt t = (1, t) := by
  unfold timesAt
  split
  · exact absurd rfl h
  · rfl
theorem times_bad {r : List Nat} (h : ¬ (41 ∈ r ∧ r.takeWhile (· != 41) ≠ [] ∧ NumText.AllDigits (r.takeWhile (· != 41)) ∧ (r.takeWhile (· != 41)).head? ≠ some 48)) : timesAt (40 :: r) = (1, 40 :: r) := if_neg h
theorem times_good {r : List Nat} (h : 41 ∈ r ∧ r.takeWhile (· != 41) ≠ [] ∧ NumText.AllDigits (r.takeWhile (· != 41)) ∧ (r.takeWhile (· != 41)).head? ≠ some 48) : timesAt (40 :: r) = (NumText.digitsVal (r.takeWhile (· != 41)), r.drop ((r.takeWhile (· != 41)).length + 1)) := if_pos h
theorem cast_succ (a : Nat) : (a : Int) + 1 = ((a + 1 : Nat) : Int) := by omega
theorem ok_times_at (F : Fun K "times_at" "times_at" s_times_at f fd) (O : Own mg) (T : Txt K mg tk c kr) (D_is_figures : Def P w K mg base 1 "is_figures" ["text"] spIsFig) (D_number_of : Def P w K mg base 2 "number_of" ["text"] spNum) :
    FnOk P w K mg base (CXE P w) 3 f fd ["text", "at"] spTimes := by
  refine okN F sc_times_at (fun vs H Q E h => ?_) (fun cdv A outer s H vs Q E hr h => ?_)
  · obtain ⟨l, a, rfl, _⟩ := h
    rfl
  · obtain ⟨l, a, rfl, hl, ha, k⟩ := h
    have hz : 1000 ≤ sizeLine := by decide
    have htl := tx_len l
    have e40 : ("(" : Str) = tx [40] := by decide +kernel
    have e41 : (")" : Str) = tx [41] := by decide +kernel
    have e48 : ("0" : Str) = tx [48] := by decide +kernel
    refine ⟨_, (pss_cons (ps_if (pt_cmpR op_ne (pe_slice sl_str (pv 0) (po_some (pv 1)) (po_some (pe_op op_add (pv 1) pe_int))) pe_str (nomark _)) (pss_one (ps_ret (pe_tup (pa_cons pe_int (pa_cons (pv 1) pa_nil))))) pss_nil)
      (pss_cons (ps_set (i := 2) sc_times_at.nd rfl (Or.inl rfl) (pe_bm PySem.F.plainAttrs_str PySem.F.slot_str_find PySem.F.type_str_find mt_find2 (pv 0) (pa_cons pe_str (pa_cons (pv 1) pa_nil))))
      (pss_cons (ps_set (i := 3) sc_times_at.nd rfl (Or.inl rfl) (pe_slice sl_str (pv 0) (po_some (pe_op op_add (pv 1) pe_int)) (po_some (pe_callB (call_max2 rfl) rfl O.max PyProof.Rows.boot_max (pa_cons (pv 2) (pa_cons (pv 1) pa_nil))))))
      (pss_cons (ps_if (PW.pt (pw_or (pt_not (pt_val (D_is_figures.pe hr (by decide) rfl passE0 (pa_cons (pv 3) pa_nil)))) (pw_or1 (pt_val (pe_bm PySem.F.plainAttrs_str PySem.F.slot_str_startswith PySem.F.type_str_startswith mt_startswith (pv 3) (pa_cons pe_str pa_nil)))))) (pss_one (ps_ret (pe_tup (pa_cons pe_int (pa_cons (pv 1) pa_nil))))) pss_nil)
      (pss_one (ps_ret (pe_tup (pa_cons (D_number_of.pe hr (by decide) rfl passE0 (pa_cons (pv 3) pa_nil)) (pa_cons (pe_op op_add (pv 2) pe_int) pa_nil))))))))), ?_⟩
    refine ⟨_, rfl, _, rfl, _, rfl, _, rfl, _, _, rfl, rfl, _, rfl, tx l, rfl, by omega, ?_⟩
    rw [cast_succ, slice_mid l (a := a) (b := a + 1) ha (by omega), show a + 1 - a = 1 by omega]
    refine ⟨rfl, _, rfl, ?_⟩
    have stop : timesAt (l.drop a) = (1, l.drop a) → ∀ q, H q = none → Q (.ref q) (upd H q (.tup [.int 1, .int (a : Nat)])) := fun e q hq => by
      have := k a (Nat.le_refl _) ha (by rw [e]) q hq
      rw [e] at this
      exact this
    rw [e40, str_dec]
    refine ifB (fun h1 => ?_) (fun h1 => ?_)
    · refine ⟨_, rfl, by show 2 ≤ sizeLine; omega, stop (times_no fun e => ?_)⟩
      rw [e] at h1
      cases h1
    have h2 : (l.drop a).take 1 = [40] := by
      by_cases e : (l.drop a).take 1 = [40]
      · exact e
      · rw [decide_eq_false e] at h1; cases h1
    obtain ⟨r, hr0⟩ : ∃ r, l.drop a = 40 :: r := by
      cases e : l.drop a with
      | nil => rw [e] at h2; cases h2
      | cons b r =>
        rw [e] at h2
        have : b = 40 := (List.cons.inj h2).1
        exact ⟨r, by rw [this]⟩
    have hrl : l.length = a + (r.length + 1) := by
      have := congrArg List.length hr0
      rw [List.length_drop, List.length_cons] at this
      omega
    have stopB : ¬ (41 ∈ r ∧ r.takeWhile (· != 41) ≠ [] ∧ NumText.AllDigits (r.takeWhile (· != 41)) ∧ (r.takeWhile (· != 41)).head? ≠ some 48) → ∀ q, H q = none → Q (.ref q) (upd H q (.tup [.int 1, .int (a : Nat)])) := fun z => stop (by rw [hr0]; exact times_bad z)
    refine ⟨_, rfl, rfl, _, rfl, tx l, ")", (a : Int), rfl, rfl, ?_⟩
    rw [e41]
    have hfind := find_is (c := 41) hr0 (by decide)
    generalize find2 (tx l) (tx [41]) (a : Int) = e at hfind
    refine ⟨_, rfl, _, rfl, _, _, rfl, rfl, _, rfl, _, rfl, _, rfl, _, _, rfl, _, rfl, tx l, rfl, by omega, ?_⟩
    rw [cast_succ]
    rcases hfind with ⟨hno, rfl⟩ | ⟨hin, rfl⟩
    · have es : StrLaws.sliceText (tx l) (some ((a + 1 : Nat) : Int)) (some (if (a : Int) > -1 then (a : Int) else -1)) = tx [] := by
        rw [if_pos (by omega)]
        exact slice_none l (by omega) (by omega)
      rw [es]
      refine ⟨_, rfl, tx [], rfl, by rw [tx_len]; decide, _, rfl, ?_⟩
      refine ifB (fun _ => ?_) (fun q => ?_)
      · exact ⟨_, rfl, by show 2 ≤ sizeLine; omega, stopB fun q => hno q.1⟩
      · have : decide ((tx []).cps.toList ≠ [] ∧ NumText.AllDigits (tx []).cps.toList) = false := decide_eq_false fun z => z.1 rfl
        rw [this] at q
        cases q
    · generalize hn : r.takeWhile (· != 41) = n
      have hnl : n.length ≤ r.length := by rw [← hn]; exact (List.takeWhile_sublist _).length_le
      have hnr : n.length < r.length := by
        rcases Nat.lt_or_ge n.length r.length with h | h
        · exact h
        · have e : n = r := by rw [← hn] at h ⊢; exact (List.takeWhile_sublist _).eq_of_length_le h
          rw [← e, ← hn] at hin
          have := mem_tw hin
          simp at this
      have htk : r.take n.length = n := by
        have := List.takeWhile_append_dropWhile (p := (· != 41)) (l := r)
        rw [hn] at this
        rw [← this, List.take_left]
      have es : StrLaws.sliceText (tx l) (some ((a + 1 : Nat) : Int)) (some (if (a : Int) > ((a + 1 + n.length : Nat) : Int) then (a : Int) else ((a + 1 + n.length : Nat) : Int))) = tx n := by
        rw [if_neg (by omega), slice_mid l (by omega) (by omega), show a + 1 + n.length - (a + 1) = n.length by omega]
        have : l.drop (a + 1) = r := by rw [← List.drop_drop, hr0]; rfl
        rw [this, htk]
      rw [es]
      have hnt := tx_len n
      refine ⟨_, rfl, tx n, rfl, by omega, _, rfl, ?_⟩
      refine ifB (fun q => ?_) (fun q => ?_)
      · refine ⟨_, rfl, by show 2 ≤ sizeLine; omega, stopB fun z => ?_⟩
        rw [hn] at z
        have : decide ((tx n).cps.toList ≠ [] ∧ NumText.AllDigits (tx n).cps.toList) = true := decide_eq_true ⟨z.2.1, z.2.2.1⟩
        rw [this] at q
        cases q
      have hfg : n ≠ [] ∧ NumText.AllDigits n := by
        by_cases z : n ≠ [] ∧ NumText.AllDigits n
        · exact z
        · have : decide ((tx n).cps.toList ≠ [] ∧ NumText.AllDigits (tx n).cps.toList) = false := decide_eq_false z
          rw [this] at q
          cases q
      refine ⟨_, rfl, rfl, tx n, "0", rfl, rfl, trivial, _, rfl, ?_⟩
      rw [e48, starts_c]
      refine ifB (fun q2 => ?_) (fun q2 => ?_)
      · refine ⟨_, rfl, by show 2 ≤ sizeLine; omega, stopB fun z => ?_⟩
        rw [hn] at z
        exact z.2.2.2 (by simpa using q2)
      have hgood : 41 ∈ r ∧ r.takeWhile (· != 41) ≠ [] ∧ NumText.AllDigits (r.takeWhile (· != 41)) ∧ (r.takeWhile (· != 41)).head? ≠ some 48 := by
        rw [hn]
        exact ⟨hin, hfg.1, hfg.2, by simpa using q2⟩
      have hn1 : 1 ≤ n.length := by cases n with | nil => exact absurd rfl hfg.1 | cons => simp
      refine ⟨_, rfl, tx n, rfl, hfg.2, by omega, by omega, _, rfl, _, _, rfl, rfl, by show 2 ≤ sizeLine; omega, fun p hp => ?_⟩
      have et := times_good hgood
      rw [hn] at et
      have := k (a + 1 + n.length + 1) (by omega) (by omega) (by
        rw [hr0, et]
        show r.drop (n.length + 1) = _
        have e1 : l.drop (a + 1) = r := by rw [← List.drop_drop, hr0]; rfl
        rw [← e1, List.drop_drop]
        congr 1) p hp
      rw [hr0, et] at this
      exact this
def tupV (v : V) (H : Hp) : Prop := v = .non ∨ (∃ i, v = .int i) ∨ ∃ a xs, v = .ref a ∧ H a = some (.tup xs)
/-- the rows of a text; none of what is no text -/
def spRows (K : PySem.W.Frag) : Sp := fun vs H Q _ => ∃ (v : V) (rows : List Rw), vs = [v] ∧ ((∃ l, v = .str (tx l) ∧ l.length ≤ 500 ∧ rows = rowsOf l) ∨ (tupV v H ∧ rows = [])) ∧ ∀ p rs H', Same H H' → RowsAt K H' p rs rows → Q (.ref p) H'
theorem times_le (t : List Nat) : (timesAt t).2.length ≤ t.length := by
  unfold timesAt
  split
  · split
    · show (List.drop _ _).length ≤ _
      rw [List.length_drop, List.length_cons]
      omega
    · exact Nat.le_refl _
  · exact Nat.le_refl _
theorem seq_join {c : TT} {t u : TS} {D : Ends} {σ : L2.St} {H : Hp} (Good : L2.St → Hp → Prop) (rest : ∀ σ' H', Good σ' H' → u D σ' H') (h : (∀ σ' H', Good σ' H' → u D σ' H') → c σ H fun b H1 => if b = true then t { D with nx := u D } σ H1 else u D σ H1) : tSeq (tIfS c t tNext) u D σ H := h rest
theorem Rws.last {H : Hp} {rs : List Addr} {rows : List Rw} (h : Rws H rs rows) : (rs = [] ∧ rows = []) ∨ ∃ rs' r rows' x, rs = rs' ++ [r] ∧ rows = rows' ++ [x] ∧ Rws H rs' rows' ∧ H r = some (rowO x) := by
  induction h with
  | nil => exact .inl ⟨rfl, rfl⟩
  | @cons r rs x xs a t ih =>
    rcases ih with ⟨rfl, rfl⟩ | ⟨rs', r', rows', x', rfl, rfl, h1, h2⟩
    · exact .inr ⟨[], r, [], x, rfl, rfl, .nil, a⟩
    · exact .inr ⟨r :: rs', r', x :: rows', x', rfl, rfl, .cons a h1, h2⟩
theorem add_nil (c n : Nat) : addRow [] c n = [] ++ [(c, n)] := rfl
theorem add_same (rows : List Rw) (c n m : Nat) : addRow (rows ++ [(c, m)]) c n = rows ++ [(c, n + m)] := by
  unfold addRow
  rw [List.getLast?_concat]
  simp
theorem add_other {rows : List Rw} {c c' n m : Nat} (h : c' ≠ c) : addRow (rows ++ [(c', m)]) c n = (rows ++ [(c', m)]) ++ [(c, n)] := by
  unfold addRow
  rw [List.getLast?_concat]
  simp [h]
theorem ok_rows_of (F : Fun K "rows_of" "rows_of" s_rows_of f fd) (O : Own mg) (T : Txt K mg tk c kr) (D_times_at : Def P w K mg base 3 "times_at" ["text", "at"] spTimes) :
    FnOk P w K mg base (CXE P w) 4 f fd ["thing"] (spRows K) := by
  refine okN F sc_rows_of (fun vs H Q E h => ?_) (fun cdv A outer s H vs Q E hr h => ?_)
  · obtain ⟨v, rows, rfl, _⟩ := h
    rfl
  · obtain ⟨v, rows, rfl, hv, k⟩ := h
    have hz : 1000 ≤ sizeLine := by decide
    refine ⟨_, (pss_cons (ps_if (pt_not (pt_val (pe_callB call_isi rfl O.isi PyProof.Rows.boot_isinstance (pa_cons (pv 0) (pa_cons (pe_bltn (v := V.ty "str") rfl O.str PyProof.Rows.boot_str rfl) pa_nil))))) (pss_one (ps_ret (pe_lst pa_nil))) pss_nil)
      (pss_cons (ps_set (i := 1) sc_rows_of.nd rfl (Or.inl rfl) (pe_lst pa_nil))
      (pss_cons (ps_set (i := 2) sc_rows_of.nd rfl (Or.inl rfl) pe_int)
      (pss_cons (ps_while PassesOwn.never (pt_cmpR op_lt (pv 2) (pe_callB call_len_str rfl O.len PySem.boot_len (pa_cons (pv 0) pa_nil)) (nomark _)) (pss_cons (ps_set (i := 3) sc_rows_of.nd rfl (Or.inl rfl) (pe_ix ix_str (pv 0) (pv 2) (fun _ _ => rfl)))
      (pss_cons (ps_asg (D_times_at.pe hr (by decide) rfl passE0 (pa_cons (pv 0) (pa_cons (pe_op op_add (pv 2) pe_int) pa_nil))) (pg_tup rfl (pgs_cons (pg_name (i := 4) sc_rows_of.nd rfl (Or.inl rfl)) (pgs_cons (pg_name (i := 2) sc_rows_of.nd rfl (Or.inl rfl)) pgs_nil))))
      (pss_cons (ps_if (PW.pt (pw_and (pt_truth (pv 1) (fun _ => rfl)) (pw_and1 (pt_cmpR op_eq (pe_ix ix_tup (pe_ix ix_list (pv 1) (pe_un un_neg pe_int) (fun _ _ => rfl)) pe_int (fun _ _ => rfl)) (pv 3) (nomark _))))) (pss_one (ps_aug (i := 4) sc_rows_of.nd rfl (Or.inl rfl) (pe_ix ix_tup (pe_bm0 PySem.F.plainAttrs_list PySem.F.slot_list_pop PySem.F.type_list_pop mt_pop (pv 1)) pe_int (fun _ _ => rfl)) ip_add)) pss_nil)
      (pss_one (ps_expr (pe_bm PySem.F.plainAttrs_list PySem.F.slot_list_append PySem.F.type_list_append mt_append (pv 1) (pa_cons (pe_tup (pa_cons (pv 3) (pa_cons (pv 4) pa_nil))) pa_nil))))))))
      (pss_one (ps_ret (pv 1))))))), ?_⟩
    rcases hv with ⟨l, rfl, hl, rfl⟩ | ⟨hv, rfl⟩
    · have htl := tx_len l
      refine ⟨_, rfl, .str (tx l), V.ty "str", true, rfl, rfl, .inl ⟨_, .str _, T.t_str⟩, true, rfl, ?_⟩
      refine iteF ⟨by show 0 ≤ sizeLine; omega, fun p hp => ?_⟩
      have S1 := Same.new (o := .lst []) hp
      refine ⟨fun m σ H2 => ∃ (a : Nat) (rs : List Addr) (rows : List Rw) (x3 x4 : Option V) (kf : Nat), m = l.length - a ∧ a ≤ l.length ∧ σ = [some (.str (tx l)), some (.ref p), some (.int (a : Nat)), x3, x4] ∧ H2 p = some (.lst (rs.map V.ref)) ∧ Rws H2 rs rows ∧ Same H H2 ∧ rows.length ≤ a ∧ (l.drop a).length ≤ kf ∧ rowsOf l = rowsGo kf (l.drop a) rows, ⟨l.length, 0, [], [], none, none, l.length, rfl, Nat.zero_le _, rfl, upd_same, .nil, S1, Nat.le_refl _, by simp, rfl⟩, ?_⟩
      rintro m σ H2 ⟨a, rs, rows, x3, x4, kf, rfl, hal, rfl, hp2, R2, S2, hra, hkf, hro⟩
      refine ⟨_, rfl, _, rfl, tx l, rfl, by omega, _, _, rfl, rfl, _, rfl, ?_⟩
      refine ifB (fun h1 => ?_) (fun h1 => ?_)
      · have ha : a < l.length := by have := of_decide_eq_true h1; omega
        obtain ⟨ch, hch⟩ : ∃ ch, l[a]? = some ch := ⟨_, List.getElem?_eq_getElem ha⟩
        have hdr : l.drop a = ch :: l.drop (a + 1) := by rw [List.drop_eq_getElem_cons ha]; congr 1; rw [List.getElem?_eq_getElem ha] at hch; exact Option.some.inj hch
        refine ⟨_, fun _ _ h => h, _, rfl, _, rfl, tx l, (a : Int), ch, rfl, rfl, by omega, atI_nat hch, ?_⟩
        refine ⟨_, rfl, _, rfl, _, _, rfl, rfl, l, a + 1, rfl, hl, by omega, fun b hb1 hb2 hb3 q hq => ⟨q, _, rfl, SqT.of upd_same, rfl, _, _, rfl, _, _, rfl, rfl, ?_⟩⟩
        have S3 := Same.new (o := .tup [.int ((timesAt (l.drop (a + 1))).1 : Nat), .int (b : Nat)]) hq
        generalize hH3 : upd H2 q (.tup [.int ((timesAt (l.drop (a + 1))).1 : Nat), .int (b : Nat)]) = H3 at S3
        have hp3 := S3 _ _ hp2
        have R3 := R2.keep fun b xs h => S3 _ _ h
        have S13 := S2.trans S3
        clear hH3 hq S3 hp2 R2 S2
        cases kf with
        | zero => rw [hdr] at hkf; exact absurd hkf (by simp)
        | succ kf =>
        rw [hdr] at hro hkf
        have hro2 : rowsOf l = rowsGo kf (timesAt (l.drop (a + 1))).2 (addRow rows ch (timesAt (l.drop (a + 1))).1) := hro
        have hkf2 : (timesAt (l.drop (a + 1))).2.length ≤ kf := by
          have := times_le (l.drop (a + 1))
          rw [List.length_cons] at hkf
          omega
        rw [hb3] at hro2 hkf2
        generalize (timesAt (l.drop (a + 1))).1 = n at hro2
        dsimp only
        refine seq_join (fun σ' H' => ∃ (rs1 : List Addr) (rows1 : List Rw) (nn : Nat), σ' = [some (.str (tx l)), some (.ref p), some (.int (b : Nat)), some (.str (tx [ch])), some (.int (nn : Nat))] ∧ H' p = some (.lst (rs1.map V.ref)) ∧ Rws H' rs1 rows1 ∧ Same H H' ∧ addRow rows ch n = rows1 ++ [(ch, nn)] ∧ rows1.length ≤ rows.length) ?_ (fun rest => ?_)
        · rintro σ' H4 ⟨rs1, rows1, nn, rfl, hp4, R4, S4, had, hle⟩
          refine ⟨_, rfl, .inl ⟨rfl, _, .inl (.inl hp4)⟩, _, rfl, _, rfl, by show 2 ≤ sizeLine; omega, fun q2 hq2 => ?_⟩
          have S5 := Same.new (o := .tup [.str (tx [ch]), .int (nn : Nat)]) hq2
          have g5 : upd H4 q2 (.tup [.str (tx [ch]), .int (nn : Nat)]) q2 = some (rowO (ch, nn)) := upd_same
          generalize upd H4 q2 (.tup [.str (tx [ch]), .int (nn : Nat)]) = H5 at S5 g5
          have hp5 := S5 _ _ hp4
          have nq : q2 ≠ p := fun z => by rw [z, hp4] at hq2; cases hq2
          have R5 := R4.keep fun b xs h => S5 _ _ h
          have S15 := S4.trans S5
          refine ⟨p, _, _, rfl, rfl, hp5, by rw [List.length_map, R4.len]; omega, l.length - b, by omega, b, rs1 ++ [q2], addRow rows ch n, _, _, kf, rfl, hb2, rfl, ?_, ?_, ?_, ?_, hkf2, hro2⟩
          · rw [upd_same, List.map_append]
            rfl
          · rw [had]
            refine Rws.app (R5.keep fun b xs h => ?_) ?_
            · rw [upd_ne fun z => by rw [z, hp5] at h; cases h]; exact h
            · rw [upd_ne nq]; exact g5
          · intro b o h
            rw [upd_ne (ne_of_none h hp)]
            exact S15 _ _ h
          · rw [had, List.length_append]
            simp
            omega
        · rcases R3.last with ⟨rfl, rfl⟩ | ⟨rs', r', rows', ⟨c', m'⟩, rfl, rfl, R4, g4⟩
          · refine ⟨_, rfl, false, .inl ⟨_, SqL.of hp3, rfl⟩, ?_⟩
            exact iteF (iteF (rest _ _ ⟨[], [], n, rfl, hp3, .nil, S13, add_nil ch n, Nat.le_refl _⟩))
          · have hp4 : H3 p = some (.lst (rs'.map V.ref ++ [V.ref r'])) := by rw [hp3, List.map_append]; rfl
            have sq4 : SqL K H3 p (rs'.map V.ref ++ [V.ref r']) := SqL.of hp4
            refine ⟨_, rfl, true, .inl ⟨_, sq4, by cases rs' <;> rfl⟩, ?_⟩
            refine iteT ⟨_, rfl, _, rfl, p, _, _, _, rfl, rfl, sq4, atI_last _ _, r', _, _, _, rfl, rfl, SqT.of g4, rfl, _, rfl, rfl, _, rfl, ?_⟩
            rw [show (⟨#[ch]⟩ : Str) = tx [ch] from rfl, sym_dec]
            refine ifB (fun h2 => ?_) (fun h2 => ?_)
            · have hc : c' = ch := of_decide_eq_true h2
              subst hc
              refine ⟨_, rfl, _, rfl, .inl ⟨rfl, _, sq4⟩, p, _, V.ref r', rfl, rfl, hp4, by rw [List.length_append]; simp, r', [.str (tx [c']), .int (m' : Nat)], 1, .int (m' : Nat), rfl, rfl, ?_, rfl, _, _, rfl, rfl, ?_⟩
              · exact SqT.of (by rw [upd_ne fun z => by rw [z, hp4] at g4; cases g4]; exact g4)
              · refine rest _ _ ⟨rs', rows', n + m', rfl, by rw [upd_same, List.dropLast_concat], R4.keep fun b xs h => ?_, fun b o h => ?_, add_same rows' c' n m', by simp⟩
                · rw [upd_ne fun z => by rw [z, hp4] at h; cases h]; exact h
                · rw [upd_ne (ne_of_none h hp)]; exact S13 _ _ h
            · have hc : c' ≠ ch := of_decide_eq_false h2
              exact rest _ _ ⟨_, _, n, rfl, hp3, R3, S13, add_other hc, Nat.le_refl _⟩
      · have ha : a = l.length := by have := of_decide_eq_false h1; omega
        subst ha
        rw [List.drop_length] at hro
        have hr2 : rowsOf l = rows := by
          rw [hro]
          cases kf <;> rfl
        refine ⟨_, rfl, k p rs H2 S2 ⟨SqL.of hp2, by rw [hr2]; exact R2, by rw [hr2]; omega⟩⟩
    · have isi : ∃ x c b, [v, V.ty "str"] = [x, c] ∧ isCls c = true ∧ ((∃ t, TyOf K H x t ∧ PySem.W.kitOne K t (clsV c) = some b) ∨ ∃ a C, x = .ref a ∧ H a = some (excO a (.ref C)) ∧ ErrK K C ∧ PySem.W.kitOne K (.ref C) (clsV c) = some b) ∧ b = false := by
        rcases hv with rfl | ⟨i, rfl⟩ | ⟨a, xs, rfl, e⟩
        · exact ⟨_, _, false, rfl, rfl, .inl ⟨_, .non, T.t_non⟩, rfl⟩
        · exact ⟨_, _, false, rfl, rfl, .inl ⟨_, .int _, T.t_int⟩, rfl⟩
        · exact ⟨_, _, false, rfl, rfl, .inl ⟨_, .tup e, T.t_tup⟩, rfl⟩
      obtain ⟨x, cc, b, e1, e2, e3, rfl⟩ := isi
      refine ⟨_, rfl, x, cc, false, e1, e2, e3, false, rfl, ?_⟩
      refine iteT ⟨by show 0 ≤ sizeLine; omega, fun p hp => ?_⟩
      exact k p [] _ (Same.new hp) ⟨SqL.of upd_same, .nil, by simp⟩
end
end Lw

set_option Elab.async false
set_option linter.all false
set_option maxRecDepth 100000
namespace Lw
open PySem PySem.Spec PyProof.Rows L2 K02 K04
section
variable {P : Program} {w : World} {K : PySem.W.Frag} {mg : Str → Option Value} {base : Heap} {f : Addr} {fd : FuncData} {tk : Nat → Tok} {c kr : Nat → Addr}
theorem drop_cons {α : Type} {l : List α} {a : Nat} {x : α} (h : l[a]? = some x) : l.drop a = x :: l.drop (a + 1) := by
  have ha := (List.getElem?_eq_some_iff.mp h).1
  rw [List.drop_eq_getElem_cons ha]
  congr 1
  rw [List.getElem?_eq_getElem ha] at h
  exact Option.some.inj h
theorem get_lt {α : Type} {l : List α} {a : Nat} (h : a < l.length) : ∃ x, l[a]? = some x := ⟨_, List.getElem?_eq_getElem h⟩
theorem e_ins : (",B0/" : Str) = tx [44, 66, 48, 47] := by decide +kernel
theorem e_flo : ("+-$" : Str) = tx [43, 45, 36] := by decide +kernel
theorem e_sig : ("+-" : Str) = tx [43, 45] := by decide +kernel
theorem e_pla : ("9Z*+-$" : Str) = tx [57, 90, 42, 43, 45, 36] := by decide +kernel
theorem e_dol : ("$" : Str) = tx [36] := by decide +kernel
theorem e_nin : ("9" : Str) = tx [57] := by decide +kernel
theorem e_dot : ("." : Str) = tx [46] := by decide +kernel
theorem e_emp : ("" : Str) = tx [] := by decide +kernel
def spFloats (K : PySem.W.Frag) : Sp := fun vs H Q _ => ∃ (p : Addr) (rs : List Addr) (rows : List Rw) (a : Nat), vs = [.ref p, .int (a : Nat)] ∧ RowsAt K H p rs rows ∧ a < rows.length ∧ Q (.bl (floatsAt (rows.drop a))) H
theorem ok_floats_at (F : Fun K "floats_at" "floats_at" s_floats_at f fd) (O : Own mg) (T : Txt K mg tk c kr) : FnOk P w K mg base (CXE P w) 1 f fd ["rows", "at"] (spFloats K) := by
  refine okN F sc_floats_at (fun vs H Q E h => ?_) (fun cdv A outer s H vs Q E hr h => ?_)
  · obtain ⟨p, rs, rows, a, rfl, _⟩ := h
    rfl
  · obtain ⟨p, rs, rows, a, rfl, R, ha, k⟩ := h
    refine ⟨_, (pss_cons (ps_asg (pe_ix ix_list (pv 0) (pv 1) (fun _ _ => rfl)) (pg_tup rfl (pgs_cons (pg_name (i := 2) sc_floats_at.nd rfl (Or.inl rfl)) (pgs_cons (pg_name (i := 3) sc_floats_at.nd rfl (Or.inl rfl)) pgs_nil))))
      (pss_cons (ps_if (pt_cmpR op_gt (pv 3) pe_int (nomark _)) (pss_one (ps_ret pe_bl)) pss_nil)
      (pss_cons (ps_set (i := 4) sc_floats_at.nd rfl (Or.inl rfl) (pe_op op_add (pv 1) pe_int))
      (pss_cons (ps_while PassesOwn.never (PW.pt (pw_and (pt_cmpR op_lt (pv 4) (pe_callB call_len_seq rfl O.len PySem.boot_len (pa_cons (pv 0) pa_nil)) (nomark _)) (pw_and1 (pt_cmpR op_in_str (pe_ix ix_tup (pe_ix ix_list (pv 0) (pv 4) (fun _ _ => rfl)) pe_int (fun _ _ => rfl)) (pe_glob (v := V.str ",B0/") rfl T.m_INSERTED ⟨_, rfl⟩) (by with_unfolding_all rfl))))) (pss_one (ps_aug (i := 4) sc_floats_at.nd rfl (Or.inl rfl) pe_int ip_add)))
      (pss_one (ps_ret (pe_and (pe_cmpR op_lt (pv 4) (pe_callB call_len_seq rfl O.len PySem.boot_len (pa_cons (pv 0) pa_nil)) (nomark _)) (pe_one (pe_cmpR op_eq (pe_ix ix_tup (pe_ix ix_list (pv 0) (pv 4) (fun _ _ => rfl)) pe_int (fun _ _ => rfl)) (pv 2) (nomark _)))))))))), ?_⟩
    obtain ⟨⟨y, n⟩, hx⟩ := get_lt ha
    rw [drop_cons hx] at k
    refine row_at rfl (var_int rfl) R hx fun r hr1 => ⟨r, _, rfl, SqT.of hr1, rfl, _, _, rfl, _, _, rfl, rfl, ?_⟩
    refine ⟨_, rfl, _, _, rfl, rfl, _, rfl, ?_⟩
    refine ifB (fun h1 => ?_) (fun h1 => ?_)
    · have hn : n > 1 := by have := of_decide_eq_true h1; omega
      have e : floatsAt ((y, n) :: rows.drop (a + 1)) = true := by unfold floatsAt; simp [hn]
      rw [e] at k
      exact k
    have hn : ¬ n > 1 := by have := of_decide_eq_false h1; omega
    have e : floatsAt ((y, n) :: rows.drop (a + 1)) = (match (rows.drop (a + 1)).dropWhile (fun x => ins x.1) with | (c', _) :: _ => c' == y | [] => false) := by
      show (decide (n > 1) || _) = _
      rw [decide_eq_false hn, Bool.false_or]
      all_goals rfl
    rw [e] at k
    clear e
    refine ⟨_, rfl, _, _, rfl, rfl, ?_⟩
    refine ⟨fun m σ H2 => ∃ b : Nat, m = rows.length - b ∧ b ≤ rows.length ∧ σ = [some (.ref p), some (.int (a : Nat)), some (.str (tx [y])), some (.int (n : Nat)), some (.int (b : Nat))] ∧ H2 = H ∧ (rows.drop (a + 1)).dropWhile (fun x => ins x.1) = (rows.drop b).dropWhile (fun x => ins x.1), ⟨_, a + 1, rfl, by omega, rfl, rfl, rfl⟩, ?_⟩
    rintro m σ H2 ⟨b, rfl, hb, rfl, rfl, hd⟩
    refine ⟨_, rfl, len_rows rfl R ⟨_, _, rfl, rfl, _, rfl, ?_⟩⟩
    rcases Nat.lt_or_ge b rows.length with hlt | hge
    · rw [decide_eq_true (by omega)]
      obtain ⟨⟨y2, n2⟩, hx2⟩ := get_lt hlt
      refine iteT (sym_at rfl (var_int rfl) R hx2 ⟨_, _, rfl, rfl, _, rfl, ?_⟩)
      rw [e_ins, in_sym]
      have hc : ([44, 66, 48, 47] : List Nat).contains y2 = ins y2 := rfl
      rw [hc]
      rw [drop_cons hx2] at hd
      refine ifB (fun h2 => ?_) (fun h2 => ?_)
      · refine ⟨_, fun _ _ h => h, ?_⟩
        refine ⟨_, rfl, _, _, rfl, rfl, _, ?_, b + 1, rfl, by omega, rfl, rfl, ?_⟩
        · omega
        · rw [hd, List.dropWhile_cons, if_pos h2]
      · rw [List.dropWhile_cons, if_neg (by rw [h2]; decide)] at hd
        rw [hd] at k
        refine ⟨_, rfl, len_rows rfl R ⟨_, _, rfl, rfl, _, rfl, ?_⟩⟩
        rw [decide_eq_true (by omega)]
        refine iteT (sym_at rfl (var_int rfl) R hx2 ⟨_, rfl, rfl, ?_⟩)
        rw [sym_dec]
        have e3 : decide (y2 = y) = (y2 == y) := by by_cases z : y2 = y <;> simp [z]
        rw [e3]
        exact k
    · rw [decide_eq_false (by omega)]
      refine iteF (iteF ?_)
      rw [List.drop_eq_nil_of_le hge] at hd
      rw [hd] at k
      refine ⟨_, rfl, len_rows rfl R ⟨_, _, rfl, rfl, _, rfl, ?_⟩⟩
      rw [decide_eq_false (by omega)]
      exact iteF k
def spPlaces (K : PySem.W.Frag) : Sp := fun vs H Q _ => ∃ (p : Addr) (rs : List Addr) (rows : List Rw) (a pc : Nat), vs = [.ref p, .int (a : Nat), .str (tx [pc])] ∧ RowsAt K H p rs rows ∧ a ≤ rows.length ∧
  ∀ b many : Nat, b ≤ rows.length → placesGo pc (rows.drop a) 0 = (many, rows.drop b) → ∀ q, H q = none → Q (.ref q) (upd H q (.tup [.int (many : Nat), .int (b : Nat)]))
theorem ok_places_of (F : Fun K "places_of" "places_of" s_places_of f fd) (O : Own mg) (T : Txt K mg tk c kr) : FnOk P w K mg base (CXE P w) 1 f fd ["rows", "at", "place"] (spPlaces K) := by
  refine okN F sc_places_of (fun vs H Q E h => ?_) (fun cdv A outer s H vs Q E hr h => ?_)
  · obtain ⟨p, rs, rows, a, pc, rfl, _⟩ := h
    rfl
  · obtain ⟨p, rs, rows, a, pc, rfl, R, ha, k⟩ := h
    have hz : 1000 ≤ sizeLine := by decide
    refine ⟨_, (pss_cons (ps_set (i := 3) sc_places_of.nd rfl (Or.inl rfl) pe_int)
      (pss_cons (ps_while PassesOwn.never (PW.pt (pw_and (pt_cmpR op_lt (pv 1) (pe_callB call_len_seq rfl O.len PySem.boot_len (pa_cons (pv 0) pa_nil)) (nomark _)) (pw_and1 (PW.pt (pw_or (pt_cmpR op_eq (pe_ix ix_tup (pe_ix ix_list (pv 0) (pv 1) (fun _ _ => rfl)) pe_int (fun _ _ => rfl)) (pv 2) (nomark _)) (pw_or1 (pt_cmpR op_in_str (pe_ix ix_tup (pe_ix ix_list (pv 0) (pv 1) (fun _ _ => rfl)) pe_int (fun _ _ => rfl)) (pe_glob (v := V.str ",B0/") rfl T.m_INSERTED ⟨_, rfl⟩) (by with_unfolding_all rfl)))))))) (pss_cons (ps_if (pt_cmpR op_eq (pe_ix ix_tup (pe_ix ix_list (pv 0) (pv 1) (fun _ _ => rfl)) pe_int (fun _ _ => rfl)) (pv 2) (nomark _)) (pss_one (ps_aug (i := 3) sc_places_of.nd rfl (Or.inl rfl) (pe_ix ix_tup (pe_ix ix_list (pv 0) (pv 1) (fun _ _ => rfl)) pe_int (fun _ _ => rfl)) ip_add)) pss_nil)
      (pss_one (ps_aug (i := 1) sc_places_of.nd rfl (Or.inl rfl) pe_int ip_add))))
      (pss_one (ps_ret (pe_tup (pa_cons (pv 3) (pa_cons (pv 1) pa_nil))))))), ?_⟩
    refine ⟨fun m σ H2 => ∃ b many : Nat, m = rows.length - b ∧ b ≤ rows.length ∧ σ = [some (.ref p), some (.int (b : Nat)), some (.str (tx [pc])), some (.int (many : Nat))] ∧ H2 = H ∧ placesGo pc (rows.drop a) 0 = placesGo pc (rows.drop b) many, ⟨_, a, 0, rfl, ha, rfl, rfl, rfl⟩, ?_⟩
    rintro m σ H2 ⟨b, many, rfl, hb, rfl, rfl, hd⟩
    refine ⟨_, rfl, len_rows rfl R ⟨_, _, rfl, rfl, _, rfl, ?_⟩⟩
    rcases Nat.lt_or_ge b rows.length with hlt | hge
    · rw [decide_eq_true (by omega)]
      obtain ⟨⟨y, n⟩, hx⟩ := get_lt hlt
      rw [drop_cons hx] at hd
      refine iteT (sym_at rfl (var_int rfl) R hx ⟨_, rfl, rfl, _, rfl, ?_⟩)
      rw [sym_dec]
      by_cases h1 : y = pc
      · rw [decide_eq_true h1]
        refine iteT (iteT ⟨_, fun _ _ h => h, sym_at rfl (var_int rfl) R hx ⟨_, rfl, rfl, _, rfl, ?_⟩⟩)
        rw [sym_dec, decide_eq_true h1]
        refine iteT ⟨_, rfl, num_at rfl (var_int rfl) R hx ⟨_, _, rfl, rfl, ?_⟩⟩
        refine ⟨_, rfl, _, _, rfl, rfl, rows.length - (b + 1), by omega, b + 1, many + n, rfl, by omega, rfl, rfl, ?_⟩
        rw [hd]
        show (if y = pc then placesGo pc (rows.drop (b + 1)) (many + n) else _) = _
        rw [if_pos h1]
      · rw [decide_eq_false h1]
        refine iteF (sym_at rfl (var_int rfl) R hx ⟨_, _, rfl, rfl, _, rfl, ?_⟩)
        rw [e_ins, in_sym]
        have hc : ([44, 66, 48, 47] : List Nat).contains y = ins y := rfl
        rw [hc]
        refine ifB (fun h2 => ?_) (fun h2 => ?_)
        · refine ⟨_, fun _ _ h => h, sym_at rfl (var_int rfl) R hx ⟨_, rfl, rfl, _, rfl, ?_⟩⟩
          rw [sym_dec, decide_eq_false h1]
          refine iteF ⟨_, rfl, _, _, rfl, rfl, rows.length - (b + 1), by omega, b + 1, many, rfl, by omega, rfl, rfl, ?_⟩
          rw [hd]
          show (if y = pc then _ else if ins y then placesGo pc (rows.drop (b + 1)) many else _) = _
          rw [if_neg h1, if_pos h2]
        · have hd2 : placesGo pc (rows.drop a) 0 = (many, rows.drop b) := by
            rw [hd, drop_cons hx]
            show (if y = pc then _ else if ins y then _ else (many, (y, n) :: rows.drop (b + 1))) = _
            rw [if_neg h1, if_neg (by rw [h2]; decide)]
          exact ⟨_, rfl, _, rfl, by show 2 ≤ sizeLine; omega, k b many (by omega) hd2⟩
    · rw [decide_eq_false (by omega)]
      refine iteF (iteF ?_)
      have hb2 : rows.drop b = [] := List.drop_eq_nil_of_le hge
      have hd2 : placesGo pc (rows.drop a) 0 = (many, rows.drop b) := by rw [hd, hb2]; rfl
      exact ⟨_, rfl, _, rfl, by show 2 ≤ sizeLine; omega, k b many (by omega) hd2⟩
def spWhole (K : PySem.W.Frag) : Sp := fun vs H Q _ => ∃ (p : Addr) (rs : List Addr) (rows : List Rw) (a : Nat), vs = [.ref p, .int (a : Nat)] ∧ RowsAt K H p rs rows ∧ a ≤ rows.length ∧
  ∀ (pl : List Nat) (many nines b : Nat), b ≤ rows.length → wholePart (rows.drop a) = (pl, many, nines, rows.drop b) → ∀ q H', Same H H' → H' q = some (.tup [.str (tx pl), .int (many : Nat), .int (nines : Nat), .int (b : Nat)]) → Q (.ref q) H'
theorem ok_whole_part (F : Fun K "whole_part" "whole_part" s_whole_part f fd) (O : Own mg) (T : Txt K mg tk c kr) (D_places_of : Def P w K mg base 1 "places_of" ["rows", "at", "place"] (spPlaces K)) : FnOk P w K mg base (CXE P w) 2 f fd ["rows", "at"] (spWhole K) := by
  refine okN F sc_whole_part (fun vs H Q E h => ?_) (fun cdv A outer s H vs Q E hr h => ?_)
  · obtain ⟨p, rs, rows, a, rfl, _⟩ := h
    rfl
  · obtain ⟨p, rs, rows, a, rfl, R, ha, k⟩ := h
    have hz : 1000 ≤ sizeLine := by decide
    refine ⟨_, (pss_cons (ps_if (PW.pt (pw_or (pt_cmpR op_ge (pv 1) (pe_callB call_len_seq rfl O.len PySem.boot_len (pa_cons (pv 0) pa_nil)) (nomark _)) (pw_or1 (pt_cmpR op_notin_str (pe_ix ix_tup (pe_ix ix_list (pv 0) (pv 1) (fun _ _ => rfl)) pe_int (fun _ _ => rfl)) (pe_glob (v := V.str "9Z*+-$") rfl T.m_PLACES ⟨_, rfl⟩) (by with_unfolding_all rfl))))) (pss_one (ps_ret (pe_tup (pa_cons pe_str (pa_cons pe_int (pa_cons pe_int (pa_cons (pv 1) pa_nil))))))) pss_nil)
      (pss_cons (ps_set (i := 2) sc_whole_part.nd rfl (Or.inl rfl) (pe_ix ix_tup (pe_ix ix_list (pv 0) (pv 1) (fun _ _ => rfl)) pe_int (fun _ _ => rfl)))
      (pss_cons (ps_asg (D_places_of.pe hr (by decide) rfl passE0 (pa_cons (pv 0) (pa_cons (pv 1) (pa_cons (pv 2) pa_nil)))) (pg_tup rfl (pgs_cons (pg_name (i := 3) sc_whole_part.nd rfl (Or.inl rfl)) (pgs_cons (pg_name (i := 1) sc_whole_part.nd rfl (Or.inl rfl)) pgs_nil))))
      (pss_cons (ps_asg (D_places_of.pe hr (by decide) rfl passE0 (pa_cons (pv 0) (pa_cons (pv 1) (pa_cons pe_str pa_nil)))) (pg_tup rfl (pgs_cons (pg_name (i := 4) sc_whole_part.nd rfl (Or.inl rfl)) (pgs_cons (pg_name (i := 1) sc_whole_part.nd rfl (Or.inl rfl)) pgs_nil))))
      (pss_one (ps_ret (pe_tup (pa_cons (pv 2) (pa_cons (pv 3) (pa_cons (pv 4) (pa_cons (pv 1) pa_nil))))))))))), ?_⟩
    refine ⟨_, rfl, len_rows rfl R ⟨_, _, rfl, rfl, _, rfl, ?_⟩⟩
    have none : wholePart (rows.drop a) = ([], 0, 0, rows.drop a) → ∀ q, H q = none → Q (.ref q) (upd H q (.tup [.str "", .int 0, .int 0, .int (a : Nat)])) := fun e q hq =>
      k [] 0 0 a ha e q _ (Same.new hq) (by rw [upd_same, e_emp]; rfl)
    rcases Nat.lt_or_ge a rows.length with hlt | hge
    · rw [decide_eq_false (by omega)]
      obtain ⟨⟨y, n⟩, hx⟩ := get_lt hlt
      refine iteF (sym_at rfl (var_int rfl) R hx ⟨_, _, rfl, rfl, _, rfl, ?_⟩)
      rw [e_pla, in_sym]
      refine ifB (fun h1 => ?_) (fun h1 => ?_)
      · refine ⟨_, rfl, by show 4 ≤ sizeLine; omega, none ?_⟩
        rw [drop_cons hx]
        show (if ([57, 90, 42, 43, 45, 36] : List Nat).contains y then _ else _) = _
        rw [if_neg (by rw [Bool.not_eq_true'] at h1; rw [h1]; decide)]
      · have h2 : ([57, 90, 42, 43, 45, 36] : List Nat).contains y = true := by
          cases e : ([57, 90, 42, 43, 45, 36] : List Nat).contains y with
          | true => rfl
          | false => rw [e] at h1; cases h1
        refine sym_at rfl (var_int rfl) R hx ?_
        refine ⟨_, rfl, _, rfl, _, rfl, p, rs, rows, a, y, rfl, R, ha, fun b many hb hp1 q hq => ⟨q, _, rfl, SqT.of upd_same, rfl, _, _, rfl, _, _, rfl, rfl, ?_⟩⟩
        have S1 := Same.new (o := .tup [.int (many : Nat), .int (b : Nat)]) hq
        generalize upd H q (.tup [.int (many : Nat), .int (b : Nat)]) = H1 at S1
        refine ⟨_, rfl, _, rfl, p, rs, rows, b, 57, by rw [e_nin]; rfl, R.same S1, hb, fun b2 nines hb2 hp2 q2 hq2 => ⟨q2, _, rfl, SqT.of upd_same, rfl, _, _, rfl, _, _, rfl, rfl, ?_⟩⟩
        have S2 := Same.new (o := .tup [.int (nines : Nat), .int (b2 : Nat)]) hq2
        generalize upd H1 q2 (.tup [.int (nines : Nat), .int (b2 : Nat)]) = H2 at S2
        refine ⟨_, rfl, _, rfl, _, rfl, _, rfl, by show 4 ≤ sizeLine; omega, fun q3 hq3 => ?_⟩
        refine k [y] many nines b2 hb2 ?_ q3 _ ((S1.trans S2).trans (Same.new hq3)) upd_same
        rw [drop_cons hx] at hp1 ⊢
        show (if ([57, 90, 42, 43, 45, 36] : List Nat).contains y then _ else _) = _
        rw [if_pos h2, hp1]
        show ([y], many, (placesGo 57 (rows.drop b) 0).1, (placesGo 57 (rows.drop b) 0).2) = _
        rw [hp2]
    · rw [decide_eq_true (by omega)]
      refine iteT (iteT ⟨_, rfl, by show 4 ≤ sizeLine; omega, none ?_⟩)
      rw [List.drop_eq_nil_of_le hge]
      rfl
def oV : Option Nat → V
  | none => .non
  | some n => .int (n : Nat)
def spBroken (K : PySem.W.Frag) : Sp := fun vs H Q _ => ∃ (p : Addr) (rs : List Addr) (rows : List Rw) (a : Nat) (pl : List Nat), vs = [.ref p, .int (a : Nat), .str (tx pl)] ∧ RowsAt K H p rs rows ∧ a ≤ rows.length ∧
  ∀ (o : Option Nat) (b : Nat), b ≤ rows.length → brokenPart (rows.drop a) pl = (o, rows.drop b) → ∀ q, H q = none → Q (.ref q) (upd H q (.tup [oV o, .int (b : Nat)]))
theorem broken_not {y n : Nat} {r : List Rw} {pl : List Nat} (h : y ≠ 46) : brokenPart ((y, n) :: r) pl = (some 0, (y, n) :: r) := by
  unfold brokenPart
  split
  · rename_i e
    exact absurd (Prod.mk.inj (List.cons.inj e).1).1 h
  · rfl
theorem ok_broken_part (F : Fun K "broken_part" "broken_part" s_broken_part f fd) (O : Own mg) (T : Txt K mg tk c kr) : FnOk P w K mg base (CXE P w) 1 f fd ["rows", "at", "place"] (spBroken K) := by
  refine okN F sc_broken_part (fun vs H Q E h => ?_) (fun cdv A outer s H vs Q E hr h => ?_)
  · obtain ⟨p, rs, rows, a, pl, rfl, _⟩ := h
    rfl
  · obtain ⟨p, rs, rows, a, pl, rfl, R, ha, k⟩ := h
    have hz : 1000 ≤ sizeLine := by decide
    have h2s : 2 ≤ sizeLine := by omega
    refine ⟨_, (pss_cons (ps_if (PW.pt (pw_or (pt_cmpR op_ge (pv 1) (pe_callB call_len_seq rfl O.len PySem.boot_len (pa_cons (pv 0) pa_nil)) (nomark _)) (pw_or1 (pt_cmpR op_ne (pe_ix ix_tup (pe_ix ix_list (pv 0) (pv 1) (fun _ _ => rfl)) pe_int (fun _ _ => rfl)) pe_str (nomark _))))) (pss_one (ps_ret (pe_tup (pa_cons pe_int (pa_cons (pv 1) pa_nil))))) pss_nil)
      (pss_cons (ps_if (PW.pt (pw_or (pt_cmpR op_gt (pe_ix ix_tup (pe_ix ix_list (pv 0) (pv 1) (fun _ _ => rfl)) pe_int (fun _ _ => rfl)) pe_int (nomark _)) (pw_or1 (pt_cmpR op_eq (pe_op op_add (pv 1) pe_int) (pe_callB call_len_seq rfl O.len PySem.boot_len (pa_cons (pv 0) pa_nil)) (nomark _))))) (pss_one (ps_ret (pe_tup (pa_cons pe_non (pa_cons (pv 1) pa_nil))))) pss_nil)
      (pss_cons (ps_asg (pe_ix ix_list (pv 0) (pe_op op_add (pv 1) pe_int) (fun _ _ => rfl)) (pg_tup rfl (pgs_cons (pg_name (i := 3) sc_broken_part.nd rfl (Or.inl rfl)) (pgs_cons (pg_name (i := 4) sc_broken_part.nd rfl (Or.inl rfl)) pgs_nil))))
      (pss_cons (ps_if (PW.pt (pw_and (pt_cmpR op_ne (pv 3) pe_str (nomark _)) (pw_and1 (PW.pt (pw_or (pt_cmpR op_ne (pv 3) (pv 2) (nomark _)) (pw_or1 (pt_cmpR op_in_str (pv 3) (pe_glob (v := V.str "+-$") rfl T.m_FLOATING ⟨_, rfl⟩) (by with_unfolding_all rfl)))))))) (pss_one (ps_ret (pe_tup (pa_cons pe_non (pa_cons (pv 1) pa_nil))))) pss_nil)
      (pss_one (ps_ret (pe_tup (pa_cons (pv 4) (pa_cons (pe_op op_add (pv 1) pe_int) pa_nil))))))))), ?_⟩
    refine ⟨_, rfl, len_rows rfl R ⟨_, _, rfl, rfl, _, rfl, ?_⟩⟩
    rcases Nat.lt_or_ge a rows.length with hlt | hge
    · rw [decide_eq_false (by omega)]
      obtain ⟨⟨y, n⟩, hx⟩ := get_lt hlt
      refine iteF (sym_at rfl (var_int rfl) R hx ⟨rfl, _, rfl, ?_⟩)
      rw [e_dot, sym_dec]
      by_cases h1 : y = 46
      · rw [decide_eq_true h1]
        subst h1
        refine iteF (num_at rfl (var_int rfl) R hx ⟨_, _, rfl, rfl, _, rfl, ?_⟩)
        by_cases h2 : n > 1
        · rw [decide_eq_true (by omega)]
          refine iteT (iteT ⟨_, rfl, h2s, k none a ha ?_⟩)
          rw [drop_cons hx]
          show (if n > 1 ∨ _ then _ else _) = _
          rw [if_pos (.inl h2)]
        · rw [decide_eq_false (by omega)]
          refine iteF ⟨_, rfl, _, _, rfl, rfl, len_rows rfl R ⟨rfl, _, rfl, ?_⟩⟩
          rw [eq_int']
          by_cases h3 : a + 1 = rows.length
          · rw [decide_eq_true (by omega)]
            refine iteT ⟨_, rfl, h2s, k none a ha ?_⟩
            rw [drop_cons hx]
            show (if n > 1 ∨ _ then _ else _) = _
            rw [if_pos (.inr (List.drop_eq_nil_of_le (by omega)))]
          · rw [decide_eq_false (by omega)]
            obtain ⟨⟨y2, n2⟩, hx2⟩ := get_lt (show a + 1 < rows.length by omega)
            refine iteF (row_at (k := a + 1) rfl (fun Q q => ⟨_, rfl, _, _, rfl, rfl, q⟩) R hx2 fun r hr1 => ⟨r, _, rfl, SqT.of hr1, rfl, _, _, rfl, _, _, rfl, rfl, ?_⟩)
            have eb : brokenPart (rows.drop a) pl = if y2 ≠ 57 ∧ ([y2] ≠ pl ∨ [43, 45, 36].contains y2 = true) then (none, rows.drop a) else (some n2, rows.drop (a + 2)) := by
              rw [drop_cons hx]
              show (if n > 1 ∨ rows.drop (a + 1) = [] then _ else _) = _
              rw [if_neg (by rw [drop_cons hx2]; simp; omega), drop_cons hx2]
            refine ⟨_, rfl, rfl, _, rfl, ?_⟩
            rw [e_nin, sym_dec]
            by_cases h4 : y2 = 57
            · rw [decide_eq_true h4]
              refine iteF (iteF ⟨_, rfl, _, rfl, _, _, rfl, rfl, h2s, k (some n2) (a + 2) (by omega) ?_⟩)
              rw [eb, if_neg fun z => z.1 h4]
            · rw [decide_eq_false h4]
              refine iteT ⟨_, rfl, _, rfl, rfl, _, rfl, ?_⟩
              rw [str_dec]
              by_cases h5 : [y2] = pl
              · rw [decide_eq_true h5]
                refine iteF ⟨_, rfl, _, _, rfl, rfl, _, rfl, ?_⟩
                rw [e_flo, in_sym]
                refine ifB (fun h6 => ?_) (fun h6 => ?_)
                · refine ⟨_, rfl, h2s, k none a ha ?_⟩
                  rw [eb, if_pos ⟨h4, .inr h6⟩]
                · refine ⟨_, rfl, _, rfl, _, _, rfl, rfl, h2s, k (some n2) (a + 2) (by omega) ?_⟩
                  rw [eb, if_neg fun z => z.2.elim (fun q => q h5) (fun q => by rw [h6] at q; cases q)]
              · rw [decide_eq_false h5]
                refine iteT (iteT ⟨_, rfl, h2s, k none a ha ?_⟩)
                rw [eb, if_pos ⟨h4, .inl h5⟩]
      · rw [decide_eq_false h1]
        refine iteT ⟨_, rfl, h2s, k (some 0) a ha ?_⟩
        rw [drop_cons hx]
        exact broken_not h1
    · rw [decide_eq_true (by omega)]
      refine iteT (iteT ⟨_, rfl, h2s, k (some 0) a ha ?_⟩)
      rw [List.drop_eq_nil_of_le hge]
      rfl
def spLead (K : PySem.W.Frag) : Sp := fun vs H Q _ => ∃ (p : Addr) (rs : List Addr) (rows : List Rw), vs = [.ref p] ∧ RowsAt K H p rs rows ∧
  ∀ (ld : List Nat) (b : Nat), b ≤ rows.length → ld.length ≤ 2 → leadOf rows = (ld, rows.drop b) → ∀ q H', Same H H' → H' q = some (.tup [.str (tx ld), .int (b : Nat)]) → Q (.ref q) H'
theorem ok_lead_of (F : Fun K "lead_of" "lead_of" s_lead_of f fd) (O : Own mg) (T : Txt K mg tk c kr) (D_floats_at : Def P w K mg base 1 "floats_at" ["rows", "at"] (spFloats K)) : FnOk P w K mg base (CXE P w) 2 f fd ["rows"] (spLead K) := by
  refine okN F sc_lead_of (fun vs H Q E h => ?_) (fun cdv A outer s H vs Q E hr h => ?_)
  · obtain ⟨p, rs, rows, rfl, _⟩ := h
    rfl
  · obtain ⟨p, rs, rows, rfl, R, k⟩ := h
    have hz : 1000 ≤ sizeLine := by decide
    have h2s : 2 ≤ sizeLine := by omega
    refine ⟨_, (pss_cons (ps_set (i := 1) sc_lead_of.nd rfl (Or.inl rfl) pe_str)
      (pss_cons (ps_set (i := 2) sc_lead_of.nd rfl (Or.inl rfl) pe_int)
      (pss_cons (ps_for PassesOwn.never rfl (pi_tup (pe_tup (pa_cons (pe_glob (v := V.str "+-") rfl T.m_SIGNS ⟨_, rfl⟩) (pa_cons pe_str pa_nil)))) (pg_name (i := 3) sc_lead_of.nd rfl (Or.inl rfl)) (pss_one (ps_if (PW.pt (pw_and (pt_cmpR op_lt (pv 2) (pe_callB call_len_seq rfl O.len PySem.boot_len (pa_cons (pv 0) pa_nil)) (nomark _)) (pw_and (pt_cmpR op_in_str (pe_ix ix_tup (pe_ix ix_list (pv 0) (pv 2) (fun _ _ => rfl)) pe_int (fun _ _ => rfl)) (pv 3) (by with_unfolding_all rfl)) (pw_and1 (pt_not (pt_val (D_floats_at.pe hr (by decide) rfl passE0 (pa_cons (pv 0) (pa_cons (pv 2) pa_nil))))))))) (pss_cons (ps_aug (i := 1) sc_lead_of.nd rfl (Or.inl rfl) (pe_ix ix_tup (pe_ix ix_list (pv 0) (pv 2) (fun _ _ => rfl)) pe_int (fun _ _ => rfl)) ip_addS)
      (pss_one (ps_aug (i := 2) sc_lead_of.nd rfl (Or.inl rfl) pe_int ip_add))) pss_nil)))
      (pss_one (ps_ret (pe_tup (pa_cons (pv 1) (pa_cons (pv 2) pa_nil)))))))), ?_⟩
    refine ⟨h2s, fun t ht => ⟨t, rfl, ⟨_, SqT.of upd_same⟩, ?_⟩⟩
    have S1 := Same.new (o := .tup [.str "+-", .str "$"]) ht
    have g1 : upd H t (.tup [.str "+-", .str "$"]) t = some (.tup [.str (tx [43, 45]), .str (tx [36])]) := by rw [upd_same, e_sig, e_dol]
    generalize upd H t (.tup [.str "+-", .str "$"]) = H1 at S1 g1
    have R1 := R.same S1
    refine for_tup (xs := [.str (tx [43, 45]), .str (tx [36])]) (fun i σ H2 => ∃ (ld : List Nat) (b : Nat) (x : Option V), σ = [some (.ref p), some (.str (tx ld)), some (.int (b : Nat)), x] ∧ H2 = H1 ∧ b ≤ rows.length ∧ ld.length ≤ i ∧ leadOf rows = leadGo (([[43, 45], [36]] : List (List Nat)).drop i) (rows.drop b) ld) ⟨[], 0, none, by rw [← e_emp]; rfl, rfl, Nat.zero_le _, Nat.le_refl _, rfl⟩ (fun i σ H2 hi hP => ?_) ?_ ?_
    · obtain ⟨_, _, _, _, rfl, _⟩ := hP
      exact SqT.of g1
    · rintro i x σ H2 hi ⟨ld, b, x3, rfl, rfl, hb, hll, hlo⟩
      have hi2 : i < 2 := (List.getElem?_eq_some_iff.mp hi).1
      obtain ⟨ch, hch, hxc⟩ : ∃ ch, ([[43, 45], [36]] : List (List Nat))[i]? = some ch ∧ x = .str (tx ch) := by
        match i, hi, hi2 with
        | 0, hi, _ => exact ⟨_, rfl, (Option.some.inj hi).symm⟩
        | 1, hi, _ => exact ⟨_, rfl, (Option.some.inj hi).symm⟩
      subst hxc
      rw [drop_cons hch] at hlo
      refine ⟨_, rfl, len_rows rfl R1 ⟨_, _, rfl, rfl, _, rfl, ?_⟩⟩
      rcases Nat.lt_or_ge b rows.length with hlt | hge
      · rw [decide_eq_true (by omega)]
        obtain ⟨⟨y, n⟩, hx⟩ := get_lt hlt
        have el : leadGo (ch :: ([[43, 45], [36]] : List (List Nat)).drop (i + 1)) (rows.drop b) ld = if (ch.contains y && !floatsAt (rows.drop b)) = true then leadGo (([[43, 45], [36]] : List (List Nat)).drop (i + 1)) (rows.drop (b + 1)) (ld ++ [y]) else leadGo (([[43, 45], [36]] : List (List Nat)).drop (i + 1)) (rows.drop b) ld := by
          rw [drop_cons hx]
          rfl
        rw [el] at hlo
        refine iteT (sym_at rfl (var_int rfl) R1 hx ⟨_, rfl, _, _, rfl, rfl, _, rfl, ?_⟩)
        rw [in_sym]
        refine ifB (fun h1 => ?_) (fun h1 => ?_)
        · refine ⟨_, rfl, _, rfl, p, rs, rows, b, rfl, R1, hlt, _, rfl, ?_⟩
          rw [h1, Bool.true_and] at hlo
          refine ifB (fun h2 => ?_) (fun h2 => ?_)
          · refine ⟨_, rfl, sym_at rfl (var_int rfl) R1 hx ⟨_, _, rfl, rfl, by rw [tx_len, tx_len]; simp; omega, ?_⟩⟩
            rw [tx_app]
            refine ⟨_, rfl, _, _, rfl, rfl, ld ++ [y], b + 1, _, rfl, rfl, by omega, by rw [List.length_append]; simp; omega, ?_⟩
            rw [hlo, if_pos h2]
          · refine ⟨ld, b, _, rfl, rfl, hb, by omega, ?_⟩
            rw [hlo, if_neg (by rw [h2]; decide)]
        · rw [h1, Bool.false_and] at hlo
          exact iteF ⟨ld, b, _, rfl, rfl, hb, by omega, by rw [hlo]; rfl⟩
      · rw [decide_eq_false (by omega)]
        refine iteF (iteF ⟨ld, b, _, rfl, rfl, hb, by omega, ?_⟩)
        rw [hlo, List.drop_eq_nil_of_le hge]
        rfl
    · rintro σ H2 ⟨ld, b, x3, rfl, rfl, hb, hll, hlo⟩
      refine ⟨_, rfl, _, rfl, h2s, fun q hq => ?_⟩
      exact k ld b hb hll hlo q _ (S1.trans (Same.new hq)) upd_same
theorem comp_list {K : PySem.W.Frag} {a : Addr} {xs : List V} {NB : List Str} {g : TG} {tt : TT} {te : TE} {Q : VK} {H : Hp} (Pv : Nat → List V → Hp → Prop) (h0 : Pv 0 [] H) (hl : ∀ i vs H, i ≤ xs.length → Pv i vs H → SqL K H a xs ∧ vs.length ≤ i)
    (hs : ∀ i x vs H, xs[i]? = some x → Pv i vs H → g x (List.replicate NB.length none) H fun σ2 H2 => tt σ2 H2 fun b H3 => if b = true then te σ2 H3 fun v H4 => Pv (i + 1) (vs ++ [v]) H4 else Pv (i + 1) vs H3)
    (hd : ∀ vs H, Pv xs.length vs H → ∀ p, H p = none → Q (.ref p) (upd H p (.lst vs))) (hz : xs.length < sizeLine) :
    ∃ W : Nat → Nat → List V → Hp → Prop, (∃ m, W 0 m [] H) ∧ ∀ i m vs H, W i m vs H →
      ((Itl K a).stop i H ∧ ∀ p, H p = none → Q (.ref p) (upd H p (.lst vs))) ∨ ((Itl K a).go i H ∧ vs.length < sizeLine ∧ ∃ N : List V → Hp → Prop, (∀ vs' H', N vs' H' → ∃ m', m' < m ∧ W (i + 1) m' vs' H') ∧
        ∀ x H', (Itl K a).yld i H x H' → g x (List.replicate NB.length none) H' fun σ2 H2 => tt σ2 H2 fun b H3 => if b = true then te σ2 H3 fun v H4 => N (vs ++ [v]) H4 else N vs H3) := by
  refine ⟨fun i m vs H => m = xs.length - i ∧ i ≤ xs.length ∧ Pv i vs H, ⟨xs.length, by simp, Nat.zero_le _, h0⟩, ?_⟩
  rintro i m vs H ⟨rfl, hi, p⟩
  obtain ⟨q, hv⟩ := hl i vs H hi p
  by_cases hlt : i < xs.length
  · refine .inr ⟨⟨xs, xs[i], q, by simp [hlt]⟩, by omega, Pv (i + 1), fun vs' H' p' => ⟨xs.length - (i + 1), by omega, rfl, hlt, p'⟩, fun x H' y => ?_⟩
    obtain ⟨e, y⟩ := y
    subst e
    exact hs i x vs _ (y xs q) p
  · have e : i = xs.length := by omega
    subst e
    exact .inl ⟨⟨xs, q, Nat.le_refl _⟩, hd vs H p⟩
end
end Lw

set_option Elab.async false
set_option linter.all false
set_option maxRecDepth 100000
namespace Lw
open PySem PySem.Spec PyProof.Rows L2 K02 K04
section
variable {P : Program} {w : World} {K : PySem.W.Frag} {mg : Str → Option Value} {base : Heap} {f : Addr} {fd : FuncData} {tk : Nat → Tok} {c kr : Nat → Addr}
theorem Rws.at' {H : Hp} {rs : List Addr} {rows : List Rw} (h : Rws H rs rows) : ∀ {i : Nat} {r : Addr}, rs[i]? = some r → ∃ x, rows[i]? = some x ∧ H r = some (rowO x) := by
  induction h with
  | nil => intro i r e; cases e
  | cons a _ ih =>
    intro i r e
    cases i with
    | zero => exact ⟨_, rfl, by have : _ = r := Option.some.inj e; rw [← this]; exact a⟩
    | succ i => exact ih (i := i) (r := r) e
theorem pg_tupK {X : Cx} {K0 : PySem.W.Frag} {es : List Expr} {k : Nat} {t : TGs} {n : Nat} {pos : Pos} (hK : X.K = K0) (hc : X.calm = true) (h : PGs X es t)
    (hn : (assignEach es X.env).length = n := by rfl) (hst : (assignEach es X.env).findIdx? (·.1) = none := by rfl) : PG X (.Tuple es k pos) (gTup K0 n t) := by
  subst hK
  exact pg_tup hc h hn hst
/-- of each row one thing -/
theorem comp_rows {p : Addr} {rs : List Addr} {rows : List Rw} {te : TE} {NB : List Str} {n : Nat} {H : Hp} {Q : VK} (val : Rw → V) (hNB : NB.length = 3) (hn : n = 2) (R : RowsAt K H p rs rows)
    (hte : ∀ (x : Rw) (Q : VK), Q (val x) H → te [none, some (.str (tx [x.1])), some (.int (x.2 : Nat))] H Q) (hd : ∀ q, H q = none → Q (.ref q) (upd H q (.lst (rows.map val)))) :
    ∃ W : Nat → Nat → List V → Hp → Prop, (∃ m, W 0 m [] H) ∧ ∀ i m vs H, W i m vs H →
      ((Itl K p).stop i H ∧ ∀ p, H p = none → Q (.ref p) (upd H p (.lst vs))) ∨ ((Itl K p).go i H ∧ vs.length < sizeLine ∧ ∃ N : List V → Hp → Prop, (∀ vs' H', N vs' H' → ∃ m', m' < m ∧ W (i + 1) m' vs' H') ∧
        ∀ x H', (Itl K p).yld i H x H' → gTup K n (gCons (gName 1) (gCons (gName 2) gNil)) x (List.replicate NB.length none) H' fun σ2 H2 => tAll σ2 H2 fun b H3 => if b = true then te σ2 H3 fun v H4 => N (vs ++ [v]) H4 else N vs H3) := by
  have hz : 1000 ≤ sizeLine := by decide
  have hl := R.le
  have hlen := R.len
  refine comp_list (xs := rs.map V.ref) (fun i vs H2 => H2 = H ∧ vs = (rows.take i).map val) ⟨rfl, rfl⟩ ?_ ?_ ?_ (by omega)
  · rintro i vs H2 hi ⟨rfl, rfl⟩
    exact ⟨R.sq, by rw [List.length_map, List.length_take]; omega⟩
  · rintro i x vs H2 hx ⟨rfl, rfl⟩
    rw [List.getElem?_map] at hx
    obtain ⟨r, hr, rfl⟩ := Option.map_eq_some_iff.mp hx
    obtain ⟨y, hy, g⟩ := R.rw.at' hr
    subst hn
    rw [hNB]
    refine ⟨r, _, rfl, SqT.of g, rfl, _, _, rfl, _, _, rfl, rfl, ?_⟩
    dsimp only [tAll]
    rw [if_pos rfl]
    refine hte y _ ⟨rfl, ?_⟩
    have hi := (List.getElem?_eq_some_iff.mp hy).1
    rw [List.take_add_one, hy, List.map_append]
    rfl
  · rintro vs H2 ⟨rfl, rfl⟩ q hq
    rw [List.take_of_length_le (by omega)]
    exact hd q hq
theorem cut_from {α : Type} (rs : List Addr) (a : Nat) : cutV (rs.map V.ref) (some (a : Int)) none = (rs.drop a).map V.ref := by
  unfold cutV
  rw [HT.sIx_nat, HT.sIx_none]
  rcases Nat.le_total a (rs.map V.ref).length with h | h
  · rw [Nat.min_eq_left h, List.take_of_length_le (by rw [List.length_drop]; exact Nat.le_refl _), List.map_drop]
  · rw [Nat.min_eq_right h, List.drop_eq_nil_of_le (Nat.le_refl _), List.take_nil, List.drop_eq_nil_of_le (by rw [List.length_map] at h; exact h)]
    rfl
theorem comp_rowsT {rows : List Rw} {tl te : TE} {NB : List Str} {n : Nat} {σ : L2.St} {H : Hp} {Q : VK} (val : Rw → V) (hNB : NB.length = 3) (hn : n = 2)
    (h : ∀ R : VK, (∀ p rs H1, Same H H1 → RowsAt K H1 p rs rows → R (.ref p) H1) → tl σ H R)
    (hte : ∀ (x : Rw) (H : Hp) (Q : VK), Q (val x) H → te [none, some (.str (tx [x.1])), some (.int (x.2 : Nat))] H Q) (hd : ∀ q H1, Same H H1 → H1 q = none → Q (.ref q) (upd H1 q (.lst (rows.map val)))) :
    tComp NB (iList K tl) (gTup K n (gCons (gName 1) (gCons (gName 2) gNil))) tAll te σ H Q :=
  h _ fun p rs H1 S1 R1 => ⟨p, rfl, ⟨_, R1.sq⟩, comp_rows val hNB hn R1 (fun x Q q => hte x H1 Q q) fun q hq => hd q H1 S1 hq⟩
theorem slice_rows {p : Addr} {rs : List Addr} {rows : List Rw} {σ : L2.St} {H : Hp} {i j a : Nat} (RA : RowsAt K H p rs rows) (h1 : σ[i]? = some (some (.ref p))) (h2 : σ[j]? = some (some (.int (a : Nat)))) :
    ∀ R : VK, (∀ p2 rs2 H1, Same H H1 → RowsAt K H1 p2 rs2 (rows.drop a) → R (.ref p2) H1) → tSl (rSlL K) (tVar i) (tPart (tVar j)) tNoPart σ H R := fun R r =>
  ⟨_, h1, _, h2, _, rfl, p, _, rfl, RA.sq, fun p2 hp2 => by
    rw [cut_from (α := Unit)]
    have S2 := Same.new (o := .lst ((rs.drop a).map V.ref)) hp2
    exact r p2 (rs.drop a) _ S2 ⟨SqL.of upd_same, (RA.rw.dr a).keep fun b xs h => S2 _ _ h, by rw [List.length_drop]; have := RA.le; omega⟩⟩
theorem var_rows {p : Addr} {rs : List Addr} {rows : List Rw} {σ : L2.St} {H : Hp} {i : Nat} (RA : RowsAt K H p rs rows) (h1 : σ[i]? = some (some (.ref p))) :
    ∀ R : VK, (∀ p2 rs2 H1, Same H H1 → RowsAt K H1 p2 rs2 rows → R (.ref p2) H1) → tVar i σ H R := fun R r => ⟨_, h1, r p rs H (Same.refl H) RA⟩
theorem eqV_tx (a b : List Nat) : eqV (.str (tx a)) (.str (tx b)) = decide (a = b) := by
  show (tx a == tx b) = _
  by_cases h : a = b
  · subst h; simp
  · rw [decide_eq_false h]
    exact beq_eq_false_iff_ne.mpr fun z => h (tx_inj z)
theorem in_list (ls : List (List Nat)) (s : List Nat) : inV (.str (tx s)) (ls.map fun l => V.str (tx l)) = ls.contains s := by
  unfold inV
  induction ls with
  | nil => rfl
  | cons a r ih =>
    rw [List.map_cons, List.any_cons, ih, eqV_tx, List.contains_cons]
    congr 1
    by_cases h : a = s
    · subst h; simp
    · rw [decide_eq_false h]
      exact (beq_eq_false_iff_ne.mpr fun z => h z.symm).symm
theorem e_forms : ([.str "9", .str "S9", .str "V9", .str "SV9", .str "9V9", .str "S9V9"] : List V) = forms.map fun l => V.str (tx l) := by decide +kernel
theorem e_shown : ([.str "+", .str "-", .str "CR", .str "DB"] : List V) = shownL.map fun l => V.str (tx l) := by decide +kernel
theorem flat_txs (ls : List (List Nat)) : (ls.map fun l => V.str (tx l)).all flatV = true := by
  induction ls with
  | nil => rfl
  | cons a r ih => rw [List.map_cons, List.all_cons, ih]; rfl
def tV : Option (List Nat) → V
  | none => .non
  | some l => .str (tx l)
def spTail (K : PySem.W.Frag) : Sp := fun vs H Q _ => ∃ (p : Addr) (rs : List Addr) (rows : List Rw) (a : Nat), vs = [.ref p, .int (a : Nat)] ∧ RowsAt K H p rs rows ∧ a ≤ rows.length ∧ ∀ H', Same H H' → Q (tV (tailOf (rows.drop a))) H'
theorem map_sym (rows : List Rw) : (rows.map fun x => V.str (tx [x.1])) = ((rows.map (·.1)).map fun c => tx [c]).map V.str := by rw [List.map_map, List.map_map]; rfl
theorem map_num (rows : List Rw) : (rows.map fun x => V.int (x.2 : Nat)) = (rows.map fun x => ((x.2 : Nat) : Int)).map V.int := by rw [List.map_map]; rfl
set_option maxHeartbeats 2000000 in
theorem ok_tail_of (F : Fun K "tail_of" "tail_of" s_tail_of f fd) (O : Own mg) (T : Txt K mg tk c kr) : FnOk P w K mg base (CXE P w) 1 f fd ["rows", "at"] (spTail K) := by
  refine okN F sc_tail_of (fun vs H Q E h => ?_) (fun cdv A outer s H vs Q E hr h => ?_)
  · obtain ⟨p, rs, rows, a, rfl, _⟩ := h
    rfl
  · obtain ⟨p, rs, rows, a, rfl, R, ha, k⟩ := h
    have hz : 1000 ≤ sizeLine := by decide
    have hle := R.le
    refine ⟨_, (pss_cons (ps_if (pt_cmpR op_eq (pv 1) (pe_callB call_len_seq rfl O.len PySem.boot_len (pa_cons (pv 0) pa_nil)) (nomark _)) (pss_one (ps_ret pe_str)) pss_nil)
      (pss_cons (ps_set (i := 2) sc_tail_of.nd rfl (Or.inl rfl) (pe_bm PySem.F.plainAttrs_str PySem.F.slot_str_join PySem.F.type_str_join mt_join pe_str (pa_cons (pe_lcomp (NB := [".0", "symbol", "many"]) rfl ⟨rfl, by decide +kernel, by decide +kernel, by decide +kernel⟩ (pi_list (pe_slice sl_list (pv 0) (po_some (pv 1)) po_none)) (fun _ _ _ => (pg_tupK (K0 := K) (n := 2) rfl rfl (pgs_cons (pg_name (i := 1) (show ([".0", "symbol", "many"] : List Str).Nodup by decide +kernel) rfl (Or.inl rfl) (Or.inr rfl)) (pgs_cons (pg_name (i := 2) (show ([".0", "symbol", "many"] : List Str).Nodup by decide +kernel) rfl (Or.inl rfl) (Or.inr rfl)) pgs_nil)))) (fun _ _ _ => pts_nil) (fun _ _ _ => (pv 1))) pa_nil)))
      (pss_cons (ps_if (PW.pt (pw_or (pt_cmpR op_notIn_seq (pv 2) (pe_glob (v := V.ref (kr 1)) rfl T.m_SHOWN rfl) (by with_unfolding_all rfl)) (pw_or1 (pt_cmpR op_gt (pe_callB (call_maxL rfl) rfl O.max PyProof.Rows.boot_max (pa_cons (pe_lcomp (NB := [".0", "symbol", "many"]) rfl ⟨rfl, by decide +kernel, by decide +kernel, by decide +kernel⟩ (pi_list (pe_slice sl_list (pv 0) (po_some (pv 1)) po_none)) (fun _ _ _ => (pg_tupK (K0 := K) (n := 2) rfl rfl (pgs_cons (pg_name (i := 1) (show ([".0", "symbol", "many"] : List Str).Nodup by decide +kernel) rfl (Or.inl rfl) (Or.inr rfl)) (pgs_cons (pg_name (i := 2) (show ([".0", "symbol", "many"] : List Str).Nodup by decide +kernel) rfl (Or.inl rfl) (Or.inr rfl)) pgs_nil)))) (fun _ _ _ => pts_nil) (fun _ _ _ => (pv 2))) pa_nil)) pe_int (nomark _))))) (pss_one (ps_ret pe_non)) pss_nil)
      (pss_one (ps_ret (pv 2)))))), ?_⟩
    refine ⟨_, rfl, len_rows rfl R ⟨rfl, _, rfl, ?_⟩⟩
    rw [eq_int']
    by_cases h1 : a = rows.length
    · rw [decide_eq_true (by omega)]
      have e : tailOf (rows.drop a) = some [] := by rw [h1, List.drop_length]; rfl
      rw [e] at k
      have := k H (Same.refl H)
      refine iteT ?_
      show Q (.str "") H
      rw [e_emp]
      exact this
    · rw [decide_eq_false (by omega)]
      have hne : rows.drop a ≠ [] := fun z => by
        have := congrArg List.length z
        rw [List.length_drop, List.length_nil] at this
        omega
      have et : tailOf (rows.drop a) = if (!shownL.contains ((rows.drop a).map (·.1)) || (rows.drop a).any (fun x => decide (x.2 > 1))) = true then none else some ((rows.drop a).map (·.1)) := by
        unfold tailOf
        rw [if_neg hne]
      rw [et] at k
      have hdl : (rows.drop a).length ≤ 600 := by rw [List.length_drop]; omega
      refine iteF ⟨rfl, comp_rowsT (fun x => .str (tx [x.1])) rfl rfl (slice_rows R rfl rfl) (fun x H Q q => ⟨_, rfl, q⟩) fun q H2 S2 hq => ?_⟩
      have RR := R.same S2
      have hsl : ∀ {H3 : Hp}, RowsAt K H3 p rs rows → ∀ {σ : L2.St} {i j : Nat}, σ[i]? = some (some (.ref p)) → σ[j]? = some (some (.int (a : Nat))) → ∀ R : VK, (∀ p2 rs2 H1, Same H3 H1 → RowsAt K H1 p2 rs2 (rows.drop a) → R (.ref p2) H1) → tSl (rSlL K) (tVar i) (tPart (tVar j)) tNoPart σ H3 R := fun {_} R3 {_ _ _} h1 h2 => slice_rows R3 h1 h2
      generalize hD : rows.drop a = D at k hne hdl hsl
      rw [map_sym]
      have S3 := S2.trans (Same.new (o := .lst (((D.map (·.1)).map fun c => tx [c]).map V.str)) hq)
      have R3 := RR.same (Same.new (o := .lst (((D.map (·.1)).map fun c => tx [c]).map V.str)) hq)
      refine ⟨"", q, _, rfl, rfl, SqL.of upd_same, join_ok (by rw [List.length_map]; omega), ?_⟩
      rw [join_syms]
      generalize upd H2 q (.lst (((D.map (·.1)).map fun c => tx [c]).map V.str)) = H3 at S3 R3
      refine ⟨_, rfl, kr 1, _, rfl, .inr (T.q_SHOWN _), rfl, by rw [e_shown]; exact flat_txs _, _, rfl, ?_⟩
      rw [e_shown, if_pos rfl, in_list]
      refine ifB (fun h2 => ?_) (fun h2 => ?_)
      · rw [h2, Bool.true_or] at k
        exact k _ S3
      · rw [h2, Bool.false_or] at k
        dsimp only [tTest, tOp, tCB, tCons]
        refine comp_rowsT (fun x => .int (x.2 : Nat)) rfl rfl (hsl R3 rfl rfl) (fun x H Q q => ⟨_, rfl, q⟩) fun q5 H4 S4 hq5 => ?_
        rw [map_num]
        have S5 := (S3.trans S4).trans (Same.new (o := .lst ((D.map fun x => ((x.2 : Nat) : Int)).map V.int)) hq5)
        refine ⟨q5, _, rfl, SqL.of upd_same, by simpa using hne, fun m hm hmx => ?_⟩
        generalize upd H4 q5 (.lst ((D.map fun x => ((x.2 : Nat) : Int)).map V.int)) = H5 at S5
        refine ⟨_, _, rfl, rfl, _, rfl, ?_⟩
        have hany : decide ((1 : Int) < m) = D.any (fun x => decide (x.2 > 1)) := by
          obtain ⟨y, hy, rfl⟩ := List.mem_map.mp hm
          by_cases h3 : y.2 > 1
          · rw [decide_eq_true (by omega), List.any_eq_true.mpr ⟨y, hy, decide_eq_true h3⟩]
          · rw [decide_eq_false (by omega)]
            refine (List.any_eq_false.mpr fun z hz2 => ?_).symm
            have := hmx _ (List.mem_map.mpr ⟨z, hz2, rfl⟩)
            rw [decide_eq_true_eq]
            omega
        rw [hany]
        refine ifB (fun h3 => ?_) (fun h3 => ?_)
        · rw [h3] at k
          exact k _ S5
        · rw [h3] at k
          exact ⟨_, rfl, k _ S5⟩
end
end Lw

set_option Elab.async false
set_option linter.all false
set_option maxRecDepth 100000
namespace Lw
open PySem PySem.Spec PyProof.Rows L2 K02 K04
section
variable {P : Program} {w : World} {K : PySem.W.Frag} {mg : Str → Option Value} {base : Heap} {f : Addr} {fd : FuncData} {tk : Nat → Tok} {c kr : Nat → Addr}
def kindS : Nat → Str
  | 0 => "text"
  | 1 => "letters"
  | 2 => "number"
  | _ => "edited"
def fO (x : Facts) : HO := .tup [.str (kindS x.kind), .bl x.signed, .int (x.before : Nat), .int (x.behind : Nat)]
def FV (o : Option Facts) (v : V) (H : Hp) : Prop := match o with
  | none => v = .non
  | some x => ∃ q, v = .ref q ∧ H q = some (fO x)
def spFacts (K : PySem.W.Frag) (fn : List Rw → Option Facts) : Sp := fun vs H Q _ => ∃ (p : Addr) (rs : List Addr) (rows : List Rw), vs = [.ref p] ∧ RowsAt K H p rs rows ∧ ∀ v H', Same H H' → FV (fn rows) v H' → Q v H'
theorem num_step {rows : List Rw} {i : Nat} {y n : Nat} {s p : Bool} {a b : Nat} (h : rows[i]? = some (y, n)) : numGo (rows.drop i) s p a b = if y = 57 then (if p then numGo (rows.drop (i + 1)) s p a n else numGo (rows.drop (i + 1)) s p n b) else if n > 1 then none else if y = 83 then numGo (rows.drop (i + 1)) true p a b else numGo (rows.drop (i + 1)) s true a b := by
  rw [drop_cons h]
  rfl
set_option maxHeartbeats 2000000 in
theorem ok_number_facts (F : Fun K "number_facts" "number_facts" s_number_facts f fd) (O : Own mg) (T : Txt K mg tk c kr) : FnOk P w K mg base (CXE P w) 1 f fd ["rows"] (spFacts K numberFacts) := by
  refine okN F sc_number_facts (fun vs H Q E h => ?_) (fun cdv A outer s H vs Q E hr h => ?_)
  · obtain ⟨p, rs, rows, rfl, _⟩ := h
    rfl
  · obtain ⟨p, rs, rows, rfl, R, k⟩ := h
    have hz : 1000 ≤ sizeLine := by decide
    have hle := R.le
    refine ⟨_, (pss_cons (ps_if (pt_cmpR op_notIn_seq (pe_bm PySem.F.plainAttrs_str PySem.F.slot_str_join PySem.F.type_str_join mt_join pe_str (pa_cons (pe_lcomp (NB := [".0", "symbol", "many"]) rfl ⟨rfl, by decide +kernel, by decide +kernel, by decide +kernel⟩ (pi_list (pv 0)) (fun _ _ _ => (pg_tupK (K0 := K) (n := 2) rfl rfl (pgs_cons (pg_name (i := 1) (show ([".0", "symbol", "many"] : List Str).Nodup by decide +kernel) rfl (Or.inl rfl) (Or.inr rfl)) (pgs_cons (pg_name (i := 2) (show ([".0", "symbol", "many"] : List Str).Nodup by decide +kernel) rfl (Or.inl rfl) (Or.inr rfl)) pgs_nil)))) (fun _ _ _ => pts_nil) (fun _ _ _ => (pv 1))) pa_nil)) (pe_glob (v := V.ref (kr 0)) rfl T.m_NUMBER_FORMS rfl) (by with_unfolding_all rfl)) (pss_one (ps_ret pe_non)) pss_nil)
      (pss_cons (ps_set (i := 3) sc_number_facts.nd rfl (Or.inl rfl) pe_bl)
      (pss_cons (ps_set (i := 4) sc_number_facts.nd rfl (Or.inl rfl) pe_bl)
      (pss_cons (ps_set (i := 5) sc_number_facts.nd rfl (Or.inl rfl) (pe_lst (pa_cons pe_int (pa_cons pe_int pa_nil))))
      (pss_cons (ps_for PassesOwn.never rfl (pi_list (pv 0)) (pg_tup rfl (pgs_cons (pg_name (i := 1) sc_number_facts.nd rfl (Or.inl rfl)) (pgs_cons (pg_name (i := 2) sc_number_facts.nd rfl (Or.inl rfl)) pgs_nil))) (pss_one (ps_if (pt_cmpR op_eq (pv 1) pe_str (nomark _)) (pss_one (ps_asg (pv 2) (pg_sub (pv 5) (pe_ifExp (pt_truth (pv 4) (fun _ => rfl)) pe_int pe_int) set_list))) (pss_one (ps_if (pt_cmpR op_gt (pv 2) pe_int (nomark _)) (pss_one (ps_ret pe_non)) (pss_one (ps_if (pt_cmpR op_eq (pv 1) pe_str (nomark _)) (pss_one (ps_set (i := 3) sc_number_facts.nd rfl (Or.inl rfl) pe_bl)) (pss_one (ps_set (i := 4) sc_number_facts.nd rfl (Or.inl rfl) pe_bl)))))))))
      (pss_cons (ps_if (pt_cmpR op_gt (pe_callB (call_sum rfl) rfl O.sum L2.boot_sum (pa_cons (pv 5) pa_nil)) (pe_glob (v := V.int 18) rfl T.m_MOST_FIGURES ⟨_, rfl⟩) (nomark _)) (pss_one (ps_ret pe_non)) pss_nil)
      (pss_one (ps_ret (pe_tup (pa_cons pe_str (pa_cons (pv 3) (pa_cons (pe_ix ix_list (pv 5) pe_int (fun _ _ => rfl)) (pa_cons (pe_ix ix_list (pv 5) pe_int (fun _ _ => rfl)) pa_nil))))))))))))), ?_⟩
    have e83 : ("S" : Str) = tx [83] := by decide +kernel
    refine ⟨rfl, comp_rowsT (fun x => .str (tx [x.1])) rfl rfl (var_rows R rfl) (fun x H Q q => ⟨_, rfl, q⟩) fun q H2 S2 hq => ?_⟩
    rw [map_sym]
    have S3 := S2.trans (Same.new (o := .lst (((rows.map (·.1)).map fun c => tx [c]).map V.str)) hq)
    refine ⟨"", q, _, rfl, rfl, SqL.of upd_same, join_ok (by rw [List.length_map]; omega), ?_⟩
    rw [join_syms]
    generalize upd H2 q (.lst (((rows.map (·.1)).map fun c => tx [c]).map V.str)) = H3 at S3
    have R3 := R.same S3
    refine ⟨kr 0, _, rfl, .inr (T.q_FORMS _), rfl, by rw [e_forms]; exact flat_txs _, _, rfl, ?_⟩
    rw [e_forms, if_pos rfl, in_list]
    refine ifB (fun h2 => ?_) (fun h2 => ?_)
    · have hn : numberFacts rows = none := by
        unfold numberFacts
        rw [if_neg (by rw [Bool.not_eq_true'] at h2; rw [h2]; decide)]
      exact k .non H3 S3 (by rw [hn]; rfl)
    have hf : forms.contains (rows.map (·.1)) = true := by
      cases e : forms.contains (rows.map (·.1)) with
      | true => rfl
      | false => rw [e] at h2; cases h2
    have en : numberFacts rows = (match numGo rows false false 0 0 with
        | some (s, a, b) => if a + b > 18 then none else some ⟨2, s, a, b⟩
        | none => none) := by
      unfold numberFacts
      rw [if_pos hf]
      all_goals rfl
    refine ⟨by show 2 ≤ sizeLine; omega, fun fl hfl => ?_⟩
    have S4 := Same.new (o := .lst [.int 0, .int 0]) hfl
    refine ⟨_, rfl, p, rfl, ⟨_, (R3.same S4).sq⟩, ?_⟩
    refine for_list (xs := rs.map V.ref) (fun i σ H5 => ∃ (x1 x2 : Option V) (sg pt : Bool) (a b : Nat), σ = [some (.ref p), x1, x2, some (.bl sg), some (.bl pt), some (.ref fl)] ∧ H5 fl = some (.lst [.int (a : Nat), .int (b : Nat)]) ∧ Same H3 H5 ∧ numGo rows false false 0 0 = numGo (rows.drop i) sg pt a b) ⟨none, none, false, false, 0, 0, rfl, upd_same, S4, rfl⟩ ?_ ?_ ?_
    · rintro i σ H5 hi ⟨x1, x2, sg, pt, a, b, rfl, g5, S5, hg⟩
      exact (R3.same S5).sq
    · rintro i x σ H5 hx ⟨x1, x2, sg, pt, a, b, rfl, g5, S5, hg⟩
      rw [List.getElem?_map] at hx
      obtain ⟨r, hr1, rfl⟩ := Option.map_eq_some_iff.mp hx
      obtain ⟨⟨y, n⟩, hy, g⟩ := (R3.same S5).rw.at' hr1
      rw [num_step hy] at hg
      refine ⟨r, _, rfl, SqT.of g, rfl, _, _, rfl, _, _, rfl, rfl, ?_⟩
      refine ⟨_, rfl, rfl, _, rfl, ?_⟩
      rw [e_nin, sym_dec]
      have keep : ∀ (o : HO), Same H3 (upd H5 fl o) := fun o b u h => by rw [upd_ne (ne_of_none h hfl)]; exact S5 _ _ h
      by_cases h1 : y = 57
      · rw [decide_eq_true h1]
        rw [if_pos h1] at hg
        refine iteT ⟨_, rfl, _, rfl, _, rfl, pt, rfl, ?_⟩
        refine ifB (fun h3 => ?_) (fun h3 => ?_)
        · rw [if_pos h3] at hg
          refine ⟨fl, _, 1, 1, rfl, rfl, g5, rfl, some (.str (tx [y])), some (.int (n : Nat)), sg, pt, a, n, rfl, ?_, keep _, hg⟩
          rw [upd_same]
          rfl
        · rw [if_neg (by rw [h3]; decide)] at hg
          refine ⟨fl, _, 0, 0, rfl, rfl, g5, rfl, some (.str (tx [y])), some (.int (n : Nat)), sg, pt, n, b, rfl, ?_, keep _, hg⟩
          rw [upd_same]
          rfl
      · rw [decide_eq_false h1]
        rw [if_neg h1] at hg
        refine iteF ⟨_, rfl, _, _, rfl, rfl, _, rfl, ?_⟩
        by_cases h3 : n > 1
        · rw [decide_eq_true (by omega)]
          rw [if_pos h3] at hg
          refine iteT (k .non H5 (S3.trans S5) ?_)
          rw [en, hg]
          rfl
        · rw [decide_eq_false (by omega)]
          rw [if_neg h3] at hg
          refine iteF ⟨_, rfl, rfl, _, rfl, ?_⟩
          rw [e83, sym_dec]
          by_cases h4 : y = 83
          · rw [decide_eq_true h4]
            rw [if_pos h4] at hg
            exact iteT ⟨some (.str (tx [y])), some (.int (n : Nat)), true, pt, a, b, rfl, g5, S5, hg⟩
          · rw [decide_eq_false h4]
            rw [if_neg h4] at hg
            exact iteF ⟨some (.str (tx [y])), some (.int (n : Nat)), sg, true, a, b, rfl, g5, S5, hg⟩
    · rintro σ H5 ⟨x1, x2, sg, pt, a, b, rfl, g5, S5, hg⟩
      rw [R.len, List.drop_length] at hg
      rw [hg] at en
      refine ⟨_, rfl, fl, [(a : Int), (b : Int)], rfl, SqL.of g5, _, _, rfl, rfl, _, rfl, ?_⟩
      have es : ([(a : Int), (b : Int)] : List Int).sum = ((a + b : Nat) : Int) := by simp
      rw [es]
      by_cases h1 : a + b > 18
      · rw [decide_eq_true (by omega)]
        refine iteT (k .non H5 (S3.trans S5) ?_)
        rw [en]
        show FV (if a + b > 18 then none else _) _ _
        rw [if_pos h1]
        rfl
      · rw [decide_eq_false (by omega)]
        refine iteF ⟨_, rfl, _, rfl, fl, _, _, _, rfl, rfl, SqL.of g5, rfl, _, rfl, fl, _, _, _, rfl, rfl, SqL.of g5, rfl, by show 4 ≤ sizeLine; omega, fun q6 hq6 => ?_⟩
        refine k _ _ ((S3.trans S5).trans (Same.new hq6)) ?_
        rw [en]
        show FV (if a + b > 18 then none else _) _ _
        rw [if_neg h1]
        exact ⟨q6, rfl, upd_same⟩
theorem val_kinds (y : Nat) : valV kinds2 (Sum.inr (tx [y]) : Key) = if y = 88 then some (.str "text") else if y = 65 then some (.str "letters") else none := by
  have eX : ("X" : Str) = tx [88] := by decide +kernel
  have eA : ("A" : Str) = tx [65] := by decide +kernel
  unfold valV kinds2
  rw [eX, eA]
  by_cases h1 : y = 88
  · subst h1
    rw [if_pos rfl]
    simp
  · rw [if_neg h1]
    have n1 : ¬ ((Sum.inr (tx [88]) : Key) = Sum.inr (tx [y])) := fun z => h1 (List.cons.inj (tx_inj (Sum.inr.inj z))).1.symm
    by_cases h2 : y = 65
    · subst h2
      rw [if_pos rfl]
      simp
    · rw [if_neg h2]
      have n2 : ¬ ((Sum.inr (tx [65]) : Key) = Sum.inr (tx [y])) := fun z => h2 (List.cons.inj (tx_inj (Sum.inr.inj z))).1.symm
      simp [n1, n2]
set_option maxHeartbeats 2000000 in
theorem ok_plain_facts (F : Fun K "plain_facts" "plain_facts" s_plain_facts f fd) (O : Own mg) (T : Txt K mg tk c kr) (KD : KDict P w K (kr 2) kinds2) : FnOk P w K mg base (CXE P w) 1 f fd ["rows"] (spFacts K plainFacts) := by
  refine okN F sc_plain_facts (fun vs H Q E h => ?_) (fun cdv A outer s H vs Q E hr h => ?_)
  · obtain ⟨p, rs, rows, rfl, _⟩ := h
    rfl
  · obtain ⟨p, rs, rows, rfl, R, k⟩ := h
    have hz : 1000 ≤ sizeLine := by decide
    refine ⟨_, (pss_cons (ps_if (pt_cmpR op_ne (pe_callB call_len_seq rfl O.len PySem.boot_len (pa_cons (pv 0) pa_nil)) pe_int (nomark _)) (pss_one (ps_ret pe_non)) pss_nil)
      (pss_cons (ps_asg (pe_ix ix_list (pv 0) pe_int (fun _ _ => rfl)) (pg_tup rfl (pgs_cons (pg_name (i := 1) sc_plain_facts.nd rfl (Or.inl rfl)) (pgs_cons (pg_name (i := 2) sc_plain_facts.nd rfl (Or.inl rfl)) pgs_nil))))
      (pss_cons (ps_if (PW.pt (pw_or (pt_cmp (pc_kdnotin KD (pv 1) (pe_glob (v := V.ref (kr 2)) rfl T.m_PLAIN_KINDS rfl)) (by with_unfolding_all rfl)) (pw_or1 (pt_cmpR op_gt (pv 2) (pe_glob (v := V.int 60) rfl T.m_MOST_SIGNS ⟨_, rfl⟩) (nomark _))))) (pss_one (ps_ret pe_non)) pss_nil)
      (pss_one (ps_ret (pe_tup (pa_cons (pe_kdget KD (pe_glob (v := V.ref (kr 2)) rfl T.m_PLAIN_KINDS rfl) (pv 1) (fun _ _ => rfl)) (pa_cons pe_bl (pa_cons pe_int (pa_cons pe_int pa_nil)))))))))), ?_⟩
    refine ⟨_, rfl, p, _, rfl, .inl R.sq, ?_⟩
    rw [R.len]
    refine ⟨rfl, _, rfl, ?_⟩
    rw [ne_int']
    match rows, R, k with
    | [], R, k => exact iteT (k .non H (Same.refl H) rfl)
    | _ :: _ :: _, R, k =>
      rw [decide_eq_true (by simp; omega)]
      exact iteT (k .non H (Same.refl H) rfl)
    | [(y, n)], R, k =>
      refine iteF (row_at (k := 0) rfl (fun Q q => q) R rfl fun r hr1 => ⟨r, _, rfl, SqT.of hr1, rfl, _, _, rfl, _, _, rfl, rfl, ?_⟩)
      refine ⟨_, rfl, Sum.inr (tx [y]), rfl, rfl, _, rfl, ?_⟩
      have ep : plainFacts [(y, n)] = if (y ≠ 88 ∧ y ≠ 65) ∨ n > 60 then none else some ⟨if y = 88 then 0 else 1, false, 0, 0⟩ := rfl
      rw [val_kinds]
      by_cases h1 : y = 88 ∨ y = 65
      · have h2 : (if y = 88 then some (V.str "text") else if y = 65 then some (.str "letters") else none) = some (.str (kindS (if y = 88 then 0 else 1))) := by
          rcases h1 with rfl | rfl
          · rfl
          · rfl
        rw [h2]
        refine iteF ⟨_, rfl, _, _, rfl, rfl, _, rfl, ?_⟩
        by_cases h3 : n > 60
        · rw [decide_eq_true (by omega)]
          refine iteT (k .non H (Same.refl H) ?_)
          rw [ep, if_pos (.inr h3)]
          rfl
        · rw [decide_eq_false (by omega)]
          refine iteF ⟨_, rfl, Sum.inr (tx [y]), .str (kindS (if y = 88 then 0 else 1)), rfl, rfl, by rw [val_kinds, h2], by show 4 ≤ sizeLine; omega, fun q hq => ?_⟩
          refine k _ _ (Same.new hq) ?_
          rw [ep, if_neg (by omega)]
          exact ⟨q, rfl, upd_same⟩
      · rw [if_neg (by omega), if_neg (by omega)]
        refine iteT (iteT (k .non H (Same.refl H) ?_))
        rw [ep, if_pos (.inl (by omega))]
        rfl
end
end Lw

set_option Elab.async false
set_option linter.all false
set_option maxRecDepth 100000
namespace Lw
open PySem PySem.Spec PyProof.Rows L2 K02 K04
theorem comp_tup {K : PySem.W.Frag} {a : Addr} {xs : List V} {NB : List Str} {g : TG} {tt : TT} {te : TE} {Q : VK} {H : Hp} (Pv : Nat → List V → Hp → Prop) (h0 : Pv 0 [] H) (hl : ∀ i vs H, i ≤ xs.length → Pv i vs H → SqT K H a xs ∧ vs.length ≤ i)
    (hs : ∀ i x vs H, xs[i]? = some x → Pv i vs H → g x (List.replicate NB.length none) H fun σ2 H2 => tt σ2 H2 fun b H3 => if b = true then te σ2 H3 fun v H4 => Pv (i + 1) (vs ++ [v]) H4 else Pv (i + 1) vs H3)
    (hd : ∀ vs H, Pv xs.length vs H → ∀ p, H p = none → Q (.ref p) (upd H p (.lst vs))) (hz : xs.length < sizeLine) :
    ∃ W : Nat → Nat → List V → Hp → Prop, (∃ m, W 0 m [] H) ∧ ∀ i m vs H, W i m vs H →
      ((Itt K a).stop i H ∧ ∀ p, H p = none → Q (.ref p) (upd H p (.lst vs))) ∨ ((Itt K a).go i H ∧ vs.length < sizeLine ∧ ∃ N : List V → Hp → Prop, (∀ vs' H', N vs' H' → ∃ m', m' < m ∧ W (i + 1) m' vs' H') ∧
        ∀ x H', (Itt K a).yld i H x H' → g x (List.replicate NB.length none) H' fun σ2 H2 => tt σ2 H2 fun b H3 => if b = true then te σ2 H3 fun v H4 => N (vs ++ [v]) H4 else N vs H3) := by
  refine ⟨fun i m vs H => m = xs.length - i ∧ i ≤ xs.length ∧ Pv i vs H, ⟨xs.length, by simp, Nat.zero_le _, h0⟩, ?_⟩
  rintro i m vs H ⟨rfl, hi, p⟩
  obtain ⟨q, hv⟩ := hl i vs H hi p
  by_cases hlt : i < xs.length
  · refine .inr ⟨⟨xs, xs[i], q, by simp [hlt]⟩, by omega, Pv (i + 1), fun vs' H' p' => ⟨xs.length - (i + 1), by omega, rfl, hlt, p'⟩, fun x H' y => ?_⟩
    obtain ⟨e, y⟩ := y
    subst e
    exact hs i x vs _ (y xs q) p
  · have e : i = xs.length := by omega
    subst e
    exact .inl ⟨⟨xs, q, Nat.le_refl _⟩, hd vs H p⟩
section
variable {P : Program} {w : World} {K : PySem.W.Frag} {mg : Str → Option Value} {base : Heap} {f : Addr} {fd : FuncData} {tk : Nat → Tok} {c kr : Nat → Addr}
def editedEnd (ld pl : List Nat) (many nines : Nat) (o : Option Nat) (tl : Option (List Nat)) : Option Facts :=
  match pl, o, tl with
  | [place], some behind, some tail =>
    let fl : Bool := [43, 45, 36].contains place
    if fl && decide (many < 2) then none
    else
      let shown := [ld.take 1, [place], tail].filter (shownL.contains ·)
      if shown.length > 1 then none
      else
        let before := many + nines - (if fl then 1 else 0)
        if before + behind > 18 then none else some ⟨3, shown.length == 1, before, behind⟩
  | _, _, _ => none
theorem edited_eq {rows : List Rw} {ld pl : List Nat} {b many nines b2 b3 : Nat} {o : Option Nat} (h1 : leadOf rows = (ld, rows.drop b)) (h2 : wholePart (rows.drop b) = (pl, many, nines, rows.drop b2)) (h3 : brokenPart (rows.drop b2) (if nines = 0 then pl else [57]) = (o, rows.drop b3)) :
    editedFacts rows = editedEnd ld pl many nines o (tailOf (rows.drop b3)) := by
  unfold editedFacts
  simp only [h1, h2, h3]
  rfl
theorem whole_one (r : List Rw) : (wholePart r).1 = [] ∨ ∃ y, (wholePart r).1 = [y] := by
  unfold wholePart
  split
  · split
    · exact .inr ⟨_, rfl⟩
    · exact .inl rfl
  · exact .inl rfl
/-- the parts that show a sign -/
theorem comp_shown {a : Addr} {ls : List (List Nat)} {H : Hp} {Q : VK} (T : Txt K mg tk c kr) (hq : H a = some (.tup (ls.map fun l => V.str (tx l)))) (hl : ls.length ≤ 3)
    (hd : ∀ q, H q = none → Q (.ref q) (upd H q (.lst ((ls.filter (shownL.contains ·)).map fun l => V.str (tx l))))) :
    ∃ W : Nat → Nat → List V → Hp → Prop, (∃ m, W 0 m [] H) ∧ ∀ i m vs H, W i m vs H →
      ((Itt K a).stop i H ∧ ∀ p, H p = none → Q (.ref p) (upd H p (.lst vs))) ∨ ((Itt K a).go i H ∧ vs.length < sizeLine ∧ ∃ N : List V → Hp → Prop, (∀ vs' H', N vs' H' → ∃ m', m' < m ∧ W (i + 1) m' vs' H') ∧
        ∀ x H', (Itt K a).yld i H x H' → gName 1 x (List.replicate 2 none) H' fun σ2 H2 => tTest (tOp (rIn K false) (tVar 1) (tC (.ref (kr 1)))) σ2 H2 fun b H3 => if b = true then tVar 1 σ2 H3 fun v H4 => N (vs ++ [v]) H4 else N vs H3) := by
  have hz : 1000 ≤ sizeLine := by decide
  refine comp_tup (NB := ["a", "b"]) (xs := ls.map fun l => V.str (tx l)) (fun i vs H2 => H2 = H ∧ vs = ((ls.take i).filter (shownL.contains ·)).map fun l => V.str (tx l)) ⟨rfl, rfl⟩ ?_ ?_ ?_ (by rw [List.length_map]; omega)
  · rintro i vs H2 hi ⟨rfl, rfl⟩
    refine ⟨SqT.of hq, ?_⟩
    rw [List.length_map]
    exact Nat.le_trans (List.length_filter_le _ _) (by rw [List.length_take]; omega)
  · rintro i x vs H2 hx ⟨rfl, rfl⟩
    rw [List.getElem?_map] at hx
    obtain ⟨l, hl1, rfl⟩ := Option.map_eq_some_iff.mp hx
    refine ⟨_, rfl, kr 1, _, rfl, .inr (T.q_SHOWN _), rfl, by rw [e_shown]; exact flat_txs _, _, rfl, ?_⟩
    rw [e_shown, if_neg (by decide), in_list]
    have ef : ((ls.take (i + 1)).filter (shownL.contains ·)) = ((ls.take i).filter (shownL.contains ·)) ++ (if shownL.contains l then [l] else []) := by
      rw [List.take_add_one, hl1, List.filter_append]
      by_cases hm : l ∈ shownL <;> simp [hm]
    refine ifB (fun h => ?_) (fun h => ?_)
    · refine ⟨_, rfl, rfl, ?_⟩
      rw [ef, h, List.map_append]
      rfl
    · refine ⟨rfl, ?_⟩
      rw [ef, h]
      simp
  · rintro vs H2 ⟨rfl, rfl⟩ q hq2
    rw [List.length_map, List.take_length]
    exact hd q hq2
theorem comp_shownT {ls : List (List Nat)} {tl : TE} {NB : List Str} {σ : L2.St} {H : Hp} {Q : VK} (T : Txt K mg tk c kr) (hNB : NB.length = 2) (hl : ls.length ≤ 3)
    (h : ∀ R : VK, (∀ p H1, Same H H1 → H1 p = some (.tup (ls.map fun l => V.str (tx l))) → R (.ref p) H1) → tl σ H R)
    (hd : ∀ q H1, Same H H1 → H1 q = none → Q (.ref q) (upd H1 q (.lst ((ls.filter (shownL.contains ·)).map fun l => V.str (tx l))))) :
    tComp NB (iTup K tl) (gName 1) (tTest (tOp (rIn K false) (tVar 1) (tC (.ref (kr 1))))) (tVar 1) σ H Q := by
  refine h _ fun p H1 S1 g1 => ⟨p, rfl, ⟨_, SqT.of g1⟩, ?_⟩
  rw [hNB]
  exact comp_shown T g1 hl fun q hq => hd q H1 S1 hq
theorem slice_one (l : List Nat) : StrLaws.sliceText (tx l) none (some 1) = tx (l.take 1) := by
  cases l with
  | nil => decide +kernel
  | cons a r => exact slice_take (a :: r) (k := 1) (by simp)
def spBody (K : PySem.W.Frag) : Sp := fun vs H Q _ => ∃ (p : Addr) (rs : List Addr) (rows : List Rw) (a : Nat), vs = [.ref p, .int (a : Nat)] ∧ RowsAt K H p rs rows ∧ a ≤ rows.length ∧
  ∀ (pl : List Nat) (many nines b2 b3 : Nat) (o : Option Nat), b3 ≤ rows.length → wholePart (rows.drop a) = (pl, many, nines, rows.drop b2) → brokenPart (rows.drop b2) (if nines = 0 then pl else [57]) = (o, rows.drop b3) → ∀ q H', Same H H' → H' q = some (.tup [.str (tx pl), .int (many : Nat), .int (nines : Nat), oV o, .int (b3 : Nat)]) → Q (.ref q) H'
theorem ok_body_of (F : Fun K "body_of" "body_of" s_body_of f fd) (D_whole_part : Def P w K mg base 2 "whole_part" ["rows", "at"] (spWhole K)) (D_broken_part : Def P w K mg base 1 "broken_part" ["rows", "at", "place"] (spBroken K)) :
    FnOk P w K mg base (CXE P w) 3 f fd ["rows", "at"] (spBody K) := by
  refine okN F sc_body_of (fun vs H Q E h => ?_) (fun cdv A outer s H vs Q E hr h => ?_)
  · obtain ⟨p, rs, rows, a, rfl, _⟩ := h
    rfl
  · obtain ⟨p, rs, rows, b, rfl, R, hb, k⟩ := h
    have hz : 1000 ≤ sizeLine := by decide
    refine ⟨_, (pss_cons (ps_asg (D_whole_part.pe hr (by decide) rfl passE0 (pa_cons (pv 0) (pa_cons (pv 1) pa_nil))) (pg_tup rfl (pgs_cons (pg_name (i := 2) sc_body_of.nd rfl (Or.inl rfl)) (pgs_cons (pg_name (i := 3) sc_body_of.nd rfl (Or.inl rfl)) (pgs_cons (pg_name (i := 4) sc_body_of.nd rfl (Or.inl rfl)) (pgs_cons (pg_name (i := 1) sc_body_of.nd rfl (Or.inl rfl)) pgs_nil))))))
      (pss_cons (ps_asg (D_broken_part.pe hr (by decide) rfl passE0 (pa_cons (pv 0) (pa_cons (pv 1) (pa_cons (pe_ifExp (pt_cmpR op_eq (pv 4) pe_int (nomark _)) (pv 2) pe_str) pa_nil)))) (pg_tup rfl (pgs_cons (pg_name (i := 5) sc_body_of.nd rfl (Or.inl rfl)) (pgs_cons (pg_name (i := 1) sc_body_of.nd rfl (Or.inl rfl)) pgs_nil))))
      (pss_one (ps_ret (pe_tup (pa_cons (pv 2) (pa_cons (pv 3) (pa_cons (pv 4) (pa_cons (pv 5) (pa_cons (pv 1) pa_nil)))))))))), ?_⟩
    refine ⟨_, rfl, _, rfl, p, rs, rows, b, rfl, R, hb, fun pl many nines b2 hb2 h2 q2 H2 S2 g2 => ⟨q2, _, rfl, SqT.of g2, rfl, _, _, rfl, _, _, rfl, _, _, rfl, _, _, rfl, rfl, ?_⟩⟩
    refine ⟨_, rfl, _, rfl, _, rfl, rfl, _, rfl, ?_⟩
    refine ifJoinE (fun x H' => x = .str (tx (if nines = 0 then pl else [57])) ∧ H' = H2) (fun z rest => ?_) (fun z rest => ?_) ?_
    · rw [eq_int'] at z
      have hn : nines = 0 := by have := of_decide_eq_true z; omega
      rw [if_pos hn] at rest
      exact ⟨_, rfl, rest _ _ ⟨rfl, rfl⟩⟩
    · rw [eq_int'] at z
      have hn : nines ≠ 0 := by have := of_decide_eq_false z; omega
      rw [if_neg hn] at rest
      exact rest _ _ ⟨by rw [e_nin], rfl⟩
    rintro x H' ⟨rfl, rfl⟩
    refine ⟨p, rs, rows, b2, _, rfl, R.same S2, hb2, fun o b3 hb3 h3 q3 hq3 => ⟨q3, _, rfl, SqT.of upd_same, rfl, _, _, rfl, _, _, rfl, rfl, ?_⟩⟩
    have S3 := S2.trans (Same.new (o := .tup [oV o, .int (b3 : Nat)]) hq3)
    generalize upd H' q3 (.tup [oV o, .int (b3 : Nat)]) = H3 at S3
    refine ⟨_, rfl, _, rfl, _, rfl, _, rfl, _, rfl, by show 5 ≤ sizeLine; omega, fun q4 hq4 => ?_⟩
    exact k pl many nines b2 b3 o hb3 h2 h3 q4 _ (S3.trans (Same.new hq4)) upd_same
set_option maxHeartbeats 4000000 in
theorem ok_edited_facts (F : Fun K "edited_facts" "edited_facts" s_edited_facts f fd) (O : Own mg) (T : Txt K mg tk c kr) (D_lead_of : Def P w K mg base 2 "lead_of" ["rows"] (spLead K)) (D_body_of : Def P w K mg base 3 "body_of" ["rows", "at"] (spBody K)) (D_tail_of : Def P w K mg base 1 "tail_of" ["rows", "at"] (spTail K)) :
    FnOk P w K mg base (CXE P w) 4 f fd ["rows"] (spFacts K editedFacts) := by
  refine okN F sc_edited_facts (fun vs H Q E h => ?_) (fun cdv A outer s H vs Q E hr h => ?_)
  · obtain ⟨p, rs, rows, rfl, _⟩ := h
    rfl
  · obtain ⟨p, rs, rows, rfl, R, k⟩ := h
    have hz : 1000 ≤ sizeLine := by decide
    refine ⟨_, (pss_cons (ps_asg (D_lead_of.pe hr (by decide) rfl passE0 (pa_cons (pv 0) pa_nil)) (pg_tup rfl (pgs_cons (pg_name (i := 1) sc_edited_facts.nd rfl (Or.inl rfl)) (pgs_cons (pg_name (i := 2) sc_edited_facts.nd rfl (Or.inl rfl)) pgs_nil))))
      (pss_cons (ps_asg (D_body_of.pe hr (by decide) rfl passE0 (pa_cons (pv 0) (pa_cons (pv 2) pa_nil))) (pg_tup rfl (pgs_cons (pg_name (i := 3) sc_edited_facts.nd rfl (Or.inl rfl)) (pgs_cons (pg_name (i := 4) sc_edited_facts.nd rfl (Or.inl rfl)) (pgs_cons (pg_name (i := 5) sc_edited_facts.nd rfl (Or.inl rfl)) (pgs_cons (pg_name (i := 6) sc_edited_facts.nd rfl (Or.inl rfl)) (pgs_cons (pg_name (i := 7) sc_edited_facts.nd rfl (Or.inl rfl)) pgs_nil)))))))
      (pss_cons (ps_set (i := 8) sc_edited_facts.nd rfl (Or.inl rfl) (D_tail_of.pe hr (by decide) rfl passE0 (pa_cons (pv 0) (pa_cons (pv 7) pa_nil))))
      (pss_cons (ps_if (PW.pt (pw_or (pt_cmpR op_eq (pv 3) pe_str (nomark _)) (pw_or (pt_cmp (pc_isN (pv 6))) (pw_or1 (pt_cmp (pc_isN (pv 8))))))) (pss_one (ps_ret pe_non)) pss_nil)
      (pss_cons (ps_set (i := 9) sc_edited_facts.nd rfl (Or.inl rfl) (pe_cmpR op_in_str (pv 3) (pe_glob (v := V.str "+-$") rfl T.m_FLOATING ⟨_, rfl⟩) (by with_unfolding_all rfl)))
      (pss_cons (ps_if (PW.pt (pw_and (pt_truth (pv 9) (fun _ => rfl)) (pw_and1 (pt_cmpR op_lt (pv 4) pe_int (nomark _))))) (pss_one (ps_ret pe_non)) pss_nil)
      (pss_cons (ps_lcomp (NB := [".0", "part"]) (iy := 10) rfl ⟨rfl, by decide +kernel, by decide +kernel, by decide +kernel⟩ (pi_tup (pe_tup (pa_cons (pe_slice sl_str (pv 1) po_none (po_some pe_int)) (pa_cons (pv 3) (pa_cons (pv 8) pa_nil))))) (fun _ _ _ => (pg_name (i := 1) (show ([".0", "part"] : List Str).Nodup by decide +kernel) rfl (Or.inl rfl))) (fun _ _ _ => (pts_one (pt_cmpR (op_in_seqK (K0 := K) rfl) (pv 1) (pe_glob (v := V.ref (kr 1)) rfl T.m_SHOWN rfl) (by with_unfolding_all rfl)))) (fun _ _ _ => (pv 1)) sc_edited_facts.nd rfl (Or.inl rfl) rfl)
      (pss_cons (ps_if (pt_cmpR op_gt (pe_callB call_len_seq rfl O.len PySem.boot_len (pa_cons (pv 10) pa_nil)) pe_int (nomark _)) (pss_one (ps_ret pe_non)) pss_nil)
      (pss_cons (ps_set (i := 11) sc_edited_facts.nd rfl (Or.inl rfl) (pe_op op_sub (pe_op op_add (pv 4) (pv 5)) (pe_ifExp (pt_truth (pv 9) (fun _ => rfl)) pe_int pe_int)))
      (pss_cons (ps_if (pt_cmpR op_gt (pe_op op_add (pv 11) (pv 6)) (pe_glob (v := V.int 18) rfl T.m_MOST_FIGURES ⟨_, rfl⟩) (nomark _)) (pss_one (ps_ret pe_non)) pss_nil)
      (pss_one (ps_ret (pe_tup (pa_cons pe_str (pa_cons (pe_cmpR op_eq (pe_callB call_len_seq rfl O.len PySem.boot_len (pa_cons (pv 10) pa_nil)) pe_int (nomark _)) (pa_cons (pv 11) (pa_cons (pv 6) pa_nil))))))))))))))))), ?_⟩
    refine ⟨_, rfl, p, rs, rows, rfl, R, fun ld b hb hll h1 q1 H1 S1 g1 => ⟨q1, _, rfl, SqT.of g1, rfl, _, _, rfl, _, _, rfl, rfl, ?_⟩⟩
    refine ⟨_, rfl, _, rfl, p, rs, rows, b, rfl, R.same S1, hb, fun pl many nines b2 b3 o hb3 h2 h3 q2 H3 S2 g2 => ⟨q2, _, rfl, SqT.of g2, rfl, _, _, rfl, _, _, rfl, _, _, rfl, _, _, rfl, _, _, rfl, rfl, ?_⟩⟩
    have S3 := S1.trans S2
    clear g1 g2 S1 S2
    have ee := edited_eq h1 h2 h3
    have hone := whole_one (rows.drop b)
    rw [h2] at hone
    refine ⟨_, rfl, _, rfl, p, rs, rows, b3, rfl, R.same S3, hb3, fun H4 S4 => ?_⟩
    have S14 := S3.trans S4
    generalize tailOf (rows.drop b3) = tl at ee
    rw [ee] at k
    clear ee h1 h2 h3 S3 S4
    refine ⟨_, rfl, rfl, _, rfl, ?_⟩
    rw [e_emp, str_dec]
    rcases hone with hp | ⟨place, hp⟩
    · have hp2 : pl = [] := hp
      subst hp2
      rw [decide_eq_true rfl]
      exact iteT (iteT (k .non H4 S14 rfl))
    have hp2 : pl = [place] := hp
    subst hp2
    rw [decide_eq_false (by simp)]
    refine iteF ⟨_, rfl, _, rfl, ?_⟩
    cases o with
    | none => exact iteT (iteT (k .non H4 S14 rfl))
    | some behind =>
    refine iteF ⟨_, rfl, _, rfl, ?_⟩
    cases tl with
    | none => exact iteT (k .non H4 S14 rfl)
    | some tail =>
    refine iteF ⟨_, rfl, _, _, rfl, rfl, ?_⟩
    rw [e_flo, in_sym]
    generalize hfl : ([43, 45, 36] : List Nat).contains place = fl
    have ek : editedEnd ld [place] many nines (some behind) (some tail) = if (fl && decide (many < 2)) = true then none else if ([ld.take 1, [place], tail].filter (shownL.contains ·)).length > 1 then none else if many + nines - (if fl = true then 1 else 0) + behind > 18 then none else some ⟨3, ([ld.take 1, [place], tail].filter (shownL.contains ·)).length == 1, many + nines - (if fl = true then 1 else 0), behind⟩ := by
      rw [← hfl]
      rfl
    rw [ek] at k
    clear ek
    dsimp only
    refine seq_join (fun σ' H' => σ' = [some (.ref p), some (.str (tx ld)), some (.int (b : Nat)), some (.str (tx [place])), some (.int (many : Nat)), some (.int (nines : Nat)), some (.int (behind : Nat)), some (.int (b3 : Nat)), some (.str (tx tail)), some (.bl fl), none, none] ∧ H' = H4 ∧ ¬ (fl && decide (many < 2)) = true) ?_ (fun rest => ?_)
    · rintro σ' H' ⟨rfl, rfl, hfm⟩
      rw [if_neg hfm] at k
      have hmm : fl = true → 2 ≤ many := fun z => by
        rcases Nat.lt_or_ge many 2 with q | q
        · exact absurd (by rw [z, decide_eq_true q]; rfl) hfm
        · exact q
      dsimp only [tSeq, tAsg]
      refine comp_shownT (ls := [ld.take 1, [place], tail]) T rfl (by simp) (fun R r => ⟨_, rfl, _, rfl, tx ld, rfl, by rw [tx_len]; omega, _, rfl, _, rfl, by show 3 ≤ sizeLine; omega, fun p5 hp5 => r p5 _ (Same.new hp5) (by rw [upd_same, slice_one]; rfl)⟩) fun q5 H5 S5 hq5 => ?_
      have S6 := (S14.trans S5).trans (Same.new (o := .lst (([ld.take 1, [place], tail].filter (shownL.contains ·)).map fun l => V.str (tx l))) hq5)
      have g6 : upd H5 q5 (.lst (([ld.take 1, [place], tail].filter (shownL.contains ·)).map fun l => V.str (tx l))) q5 = some (.lst (([ld.take 1, [place], tail].filter (shownL.contains ·)).map fun l => V.str (tx l))) := upd_same
      generalize upd H5 q5 (.lst (([ld.take 1, [place], tail].filter (shownL.contains ·)).map fun l => V.str (tx l))) = H6 at S6 g6
      generalize [ld.take 1, [place], tail].filter (shownL.contains ·) = sh at g6 k
      refine ⟨_, rfl, q5, _, rfl, .inl (SqL.of g6), _, _, rfl, rfl, _, rfl, ?_⟩
      rw [List.length_map]
      by_cases h7 : sh.length > 1
      · rw [decide_eq_true (by omega)]
        rw [if_pos h7] at k
        exact iteT (k .non H6 S6 rfl)
      · rw [decide_eq_false (by omega)]
        rw [if_neg h7] at k
        refine iteF ⟨_, rfl, _, rfl, _, _, rfl, rfl, _, rfl, fl, rfl, ?_⟩
        have hbf : ((many : Nat) : Int) + (nines : Nat) - (if fl = true then 1 else 0) = ((many + nines - (if fl = true then 1 else 0) : Nat) : Int) := by
          cases fl with
          | true => have := hmm rfl; simp; omega
          | false => simp
        refine ifJoinE (fun x H' => x = .int (if fl = true then 1 else 0) ∧ H' = H6) (fun z rest => rest _ _ ⟨by rw [if_pos z], rfl⟩) (fun z rest => rest _ _ ⟨by rw [if_neg (by rw [z]; decide)], rfl⟩) ?_
        rintro x H7 ⟨rfl, rfl⟩
        refine ⟨_, _, rfl, rfl, ?_⟩
        dsimp only [gName]
        rw [hbf]
        generalize many + nines - (if fl = true then 1 else 0) = before at k
        refine ⟨_, rfl, _, rfl, _, _, rfl, rfl, _, _, rfl, rfl, _, rfl, ?_⟩
        by_cases h8 : before + behind > 18
        · rw [decide_eq_true (by omega)]
          rw [if_pos h8] at k
          exact iteT (k .non H7 S6 rfl)
        · rw [decide_eq_false (by omega)]
          rw [if_neg h8] at k
          refine iteF ⟨_, rfl, q5, _, rfl, .inl (SqL.of g6), rfl, _, rfl, _, rfl, by show 4 ≤ sizeLine; omega, fun q9 hq9 => ?_⟩
          refine k _ _ (S6.trans (Same.new hq9)) ⟨q9, rfl, ?_⟩
          rw [upd_same, List.length_map, eq_int']
          have e9 : decide ((sh.length : Int) = 1) = (sh.length == 1) := by
            by_cases z : sh.length = 1
            · rw [z]; rfl
            · rw [decide_eq_false (by omega)]; exact (beq_eq_false_iff_ne.mpr z).symm
          rw [e9]
          rfl
    · refine ⟨_, rfl, fl, rfl, ?_⟩
      cases fl with
      | false =>
        exact iteF (iteF (rest _ _ ⟨rfl, rfl, by simp⟩))
      | true =>
        refine iteT ⟨_, rfl, _, _, rfl, rfl, _, rfl, ?_⟩
        by_cases h6 : many < 2
        · rw [decide_eq_true (by omega)]
          refine iteT (k .non H4 S14 ?_)
          rw [decide_eq_true h6]
          rfl
        · rw [decide_eq_false (by omega)]
          exact iteF (rest _ _ ⟨rfl, rfl, by rw [decide_eq_false h6]; decide⟩)
end
end Lw

set_option Elab.async false
set_option linter.all false
set_option maxRecDepth 100000
namespace Lw
open PySem PySem.Spec PyProof.Rows L2 K02 K04
section
variable {P : Program} {w : World} {K : PySem.W.Frag} {mg : Str → Option Value} {base : Heap} {f : Addr} {fd : FuncData} {tk : Nat → Tok} {c kr : Nat → Addr}
theorem FV.isN {o : Option Facts} {v : V} {H : Hp} (h : FV o v H) : decide (v = .non) = !o.isSome := by
  cases o with
  | none => rw [show v = .non from h]; rfl
  | some x => obtain ⟨q, h1, h2⟩ := h; rw [h1]; rfl
set_option maxHeartbeats 1000000 in
theorem ok_facts_of (F : Fun K "facts_of" "facts_of" s_facts_of f fd) (D_number_facts : Def P w K mg base 1 "number_facts" ["rows"] (spFacts K numberFacts)) (D_plain_facts : Def P w K mg base 1 "plain_facts" ["rows"] (spFacts K plainFacts)) (D_edited_facts : Def P w K mg base 4 "edited_facts" ["rows"] (spFacts K editedFacts)) :
    FnOk P w K mg base (CXE P w) 5 f fd ["rows"] (spFacts K factsOf) := by
  refine okN F sc_facts_of (fun vs H Q E h => ?_) (fun cdv A outer s H vs Q E hr h => ?_)
  · obtain ⟨p, rs, rows, rfl, _⟩ := h
    rfl
  · obtain ⟨p, rs, rows, rfl, R, k⟩ := h
    refine ⟨_, (pss_cons (ps_set (i := 1) sc_facts_of.nd rfl (Or.inl rfl) (D_number_facts.pe hr (by decide) rfl passE0 (pa_cons (pv 0) pa_nil)))
      (pss_cons (ps_if (pt_cmp (pc_isN (pv 1))) (pss_one (ps_set (i := 1) sc_facts_of.nd rfl (Or.inl rfl) (D_plain_facts.pe hr (by decide) rfl passE0 (pa_cons (pv 0) pa_nil)))) pss_nil)
      (pss_cons (ps_if (pt_cmp (pc_isN (pv 1))) (pss_one (ps_set (i := 1) sc_facts_of.nd rfl (Or.inl rfl) (D_edited_facts.pe hr (by decide) rfl passE0 (pa_cons (pv 0) pa_nil)))) pss_nil)
      (pss_one (ps_ret (pv 1)))))), ?_⟩
    refine ⟨_, rfl, p, rs, rows, rfl, R, fun v1 H1 S1 f1 => ?_⟩
    refine ⟨_, rfl, _, rfl, ?_⟩
    rw [f1.isN]
    cases e1 : numberFacts rows with
    | some x =>
      rw [e1] at f1
      have ef : factsOf rows = some x := by unfold factsOf; rw [e1]
      refine iteF ⟨_, rfl, _, rfl, ?_⟩
      rw [f1.isN]
      refine iteF ⟨_, rfl, k v1 H1 S1 ?_⟩
      rw [ef]
      exact f1
    | none =>
      refine iteT ⟨_, rfl, p, rs, rows, rfl, R.same S1, fun v2 H2 S2 f2 => ?_⟩
      refine ⟨_, rfl, _, rfl, ?_⟩
      rw [f2.isN]
      cases e2 : plainFacts rows with
      | some x =>
        rw [e2] at f2
        have ef : factsOf rows = some x := by unfold factsOf; rw [e1, e2]
        refine iteF ⟨_, rfl, k v2 H2 (S1.trans S2) ?_⟩
        rw [ef]
        exact f2
      | none =>
        have ef : factsOf rows = editedFacts rows := by unfold factsOf; rw [e1, e2]
        refine iteT ⟨_, rfl, p, rs, rows, rfl, (R.same S1).same S2, fun v3 H3 S3 f3 => ⟨_, rfl, k v3 H3 ((S1.trans S2).trans S3) ?_⟩⟩
        rw [ef]
        exact f3
def spUnder (K : PySem.W.Frag) (c : Nat → Addr) : Sp := fun vs H Q E => ∃ l : List Nat, vs = [.str (tx l)] ∧ l.length ≤ 500 ∧ (picture l = none → ∀ H', Same H H' → E (.ref (c 1)) none H') ∧
  (∀ x, picture l = some x → ∀ q p rs r H', Same H H' → H' q = some (.tup [.ref p, .ref r]) → H' r = some (fO x) → RowsAt K H' p rs (rowsOf l) → Q (.ref q) H')
theorem ok_understood (F : Fun K "understood" "understood" s_understood f fd) (T : Txt K mg tk c kr) (D_rows_of : Def P w K mg base 4 "rows_of" ["thing"] (spRows K)) (D_facts_of : Def P w K mg base 5 "facts_of" ["rows"] (spFacts K factsOf)) :
    FnOk P w K mg base (CXE P w) 6 f fd ["picture"] (spUnder K c) := by
  refine okE F sc_understood (fun vs H Q E h => ?_) (fun cdv A outer s H vs Q E hr h => ?_)
  · obtain ⟨l, rfl, _⟩ := h
    rfl
  · obtain ⟨l, rfl, hl, k1, k2⟩ := h
    have hz : 1000 ≤ sizeLine := by decide
    have fr := fram_of (P := P) (w := w) (K := K) (mg := mg) (base := base) (N := ["picture", "rows", "facts"]) (qual := "understood") (scope := defScope s_understood) (f := f) (cd := cdv) (A := A) (outer := outer) (s := s) (H := H) (E := E)
    have ht := takes_gen fr
    have hx := passes_gen fr
    refine ⟨_, (pss_cons (ps_set (i := 1) sc_understood.nd rfl (Or.inl rfl) (D_rows_of.pe hr (by decide) rfl hx (pa_cons (pv 0) pa_nil)))
      (pss_cons (ps_set (i := 2) sc_understood.nd rfl (Or.inl rfl) (D_facts_of.pe hr (by decide) rfl hx (pa_cons (pv 1) pa_nil)))
      (pss_cons (ps_if (pt_cmp (pc_isN (pv 2))) (pss_one (ps_raise ht rfl rfl T.m_NoPicture T.e_NoPicture (pa_cons pe_str pa_nil))) pss_nil)
      (pss_one (ps_ret (pe_tup (pa_cons (pv 1) (pa_cons (pv 2) pa_nil)))))))), ?_⟩
    refine ⟨_, rfl, _, rowsOf l, rfl, .inl ⟨l, rfl, hl, rfl⟩, fun p rs H1 S1 R1 => ⟨_, rfl, p, rs, rowsOf l, rfl, R1, fun v2 H2 S2 f2 => ?_⟩⟩
    refine ⟨_, rfl, _, rfl, ?_⟩
    rw [f2.isN]
    cases e : factsOf (rowsOf l) with
    | none => exact iteT ⟨by show 1 ≤ sizeLine; omega, k1 e _ (S1.trans S2)⟩
    | some x =>
      rw [e] at f2
      obtain ⟨r, rfl, g⟩ := f2
      refine iteF ⟨_, rfl, _, rfl, by show 2 ≤ sizeLine; omega, fun q hq => ?_⟩
      have S3 := Same.new (o := .tup [.ref p, .ref r]) hq
      exact k2 x e q p rs r _ ((S1.trans S2).trans S3) upd_same (S3 _ _ g) ((R1.same S2).same S3)
end
end Lw

set_option Elab.async false
set_option linter.all false
set_option maxRecDepth 100000
/-! drawn pictures: their rows, written short or out, and their facts -/
namespace K04
open PySem PySem.NumText K02
theorem tm_le (t : List Nat) : (timesAt t).2.length ≤ t.length := by
  unfold timesAt
  split
  · split
    · show (List.drop _ _).length ≤ _
      rw [List.length_drop, List.length_cons]
      omega
    · exact Nat.le_refl _
  · exact Nat.le_refl _
theorem tm_no {t : List Nat} (h : t.head? ≠ some 40) : timesAt t = (1, t) := by
  unfold timesAt
  split
  · exact absurd rfl h
  · rfl
theorem go_fuel : ∀ (k k' : Nat) (l : List Nat) (rows : List Rw), l.length ≤ k → l.length ≤ k' → rowsGo k l rows = rowsGo k' l rows := by
  intro k
  induction k with
  | zero =>
    intro k' l rows h h'
    cases l with
    | nil => cases k' <;> rfl
    | cons a r => simp at h
  | succ k ih =>
    intro k' l rows h h'
    cases l with
    | nil => cases k' <;> rfl
    | cons c t =>
      cases k' with
      | zero => simp at h'
      | succ k' =>
        have := tm_le t
        rw [List.length_cons] at h h'
        exact ih k' _ _ (by omega) (by omega)
def run (l : List Nat) (rows : List Rw) : List Rw := rowsGo l.length l rows
theorem run_nil (rows : List Rw) : run [] rows = rows := rfl
theorem run_cons (c : Nat) (t : List Nat) (rows : List Rw) : run (c :: t) rows = run (timesAt t).2 (addRow rows c (timesAt t).1) := by
  show rowsGo t.length (timesAt t).2 (addRow rows c (timesAt t).1) = _
  exact go_fuel _ _ _ _ (tm_le t) (Nat.le_refl _)
theorem run_plain {c : Nat} {t : List Nat} (rows : List Rw) (h : t.head? ≠ some 40) : run (c :: t) rows = run t (addRow rows c 1) := by
  rw [run_cons, tm_no h]
def rle (rows : List Rw) (l : List Nat) : List Rw := l.foldl (fun r c => addRow r c 1) rows
theorem rle_app (rows : List Rw) (a b : List Nat) : rle rows (a ++ b) = rle (rle rows a) b := List.foldl_append
theorem run_rep {c : Nat} {t : List Nat} (hc : c ≠ 40) (h : t.head? ≠ some 40) : ∀ (m : Nat) (rows : List Rw), run (List.replicate m c ++ t) rows = run t (rle rows (List.replicate m c)) := by
  intro m
  induction m with
  | zero => intro rows; rfl
  | succ m ih =>
    intro rows
    rw [List.replicate_succ, List.cons_append, run_plain, ih]
    · rfl
    · cases m with
      | zero => exact h
      | succ m => rw [List.replicate_succ, List.cons_append, List.head?_cons]; exact fun z => hc (Option.some.inj z)
theorem last_cases (rows : List Rw) : rows = [] ∨ ∃ r c m, rows = r ++ [(c, m)] := by
  rcases List.eq_nil_or_concat rows with h | ⟨r, x, h⟩
  · exact .inl h
  · exact .inr ⟨r, x.1, x.2, by rw [h, List.concat_eq_append]⟩
theorem ad_nil (c n : Nat) : addRow [] c n = [(c, n)] := rfl
theorem ad_same (rows : List Rw) (c n m : Nat) : addRow (rows ++ [(c, m)]) c n = rows ++ [(c, n + m)] := by
  unfold addRow
  rw [List.getLast?_concat]
  simp
theorem ad_other {rows : List Rw} {c c' n m : Nat} (h : c' ≠ c) : addRow (rows ++ [(c', m)]) c n = (rows ++ [(c', m)]) ++ [(c, n)] := by
  unfold addRow
  rw [List.getLast?_concat]
  simp [h]
theorem add_add (rows : List Rw) (c a b : Nat) : addRow (addRow rows c a) c b = addRow rows c (b + a) := by
  rcases last_cases rows with rfl | ⟨r, c', m, rfl⟩
  · rw [ad_nil, ad_nil]
    exact ad_same [] c b a
  · by_cases h : c' = c
    · subst h
      rw [ad_same, ad_same, ad_same, Nat.add_assoc]
    · rw [ad_other h, ad_other h, ad_same]
theorem rle_rep (c : Nat) : ∀ (m : Nat) (rows : List Rw), rle rows (List.replicate (m + 1) c) = addRow rows c (m + 1) := by
  intro m
  induction m with
  | zero => intro rows; rfl
  | succ m ih =>
    intro rows
    rw [List.replicate_succ]
    show rle (addRow rows c 1) (List.replicate (m + 1) c) = _
    rw [ih, add_add]
theorem tw_all {p : Nat → Bool} {a : List Nat} {c : Nat} {t : List Nat} (h : ∀ x ∈ a, p x = true) (hc : p c = false) : (a ++ c :: t).takeWhile p = a := by
  induction a with
  | nil => simp [hc]
  | cons x r ih =>
    rw [List.cons_append, List.takeWhile_cons, h x List.mem_cons_self, if_pos rfl, ih fun y hy => h y (List.mem_cons_of_mem _ hy)]
/-- a text of figures without noughts ahead -/
def Num (d : List Nat) (n : Nat) : Prop := d ≠ [] ∧ AllDigits d ∧ d.head? ≠ some 48 ∧ digitsVal d = n
theorem tm_num {d : List Nat} {n : Nat} (h : Num d n) (t : List Nat) : timesAt (40 :: (d ++ 41 :: t)) = (n, t) := by
  have e : (d ++ 41 :: t).takeWhile (· != 41) = d := tw_all (fun x hx => by have := h.2.1 x hx; simp; omega) (by simp)
  show (if 41 ∈ (d ++ 41 :: t) ∧ _ ∧ _ ∧ _ then _ else _) = _
  rw [e, if_pos ⟨by simp, h.1, h.2.1, h.2.2.1⟩, h.2.2.2]
  congr 1
  rw [← List.drop_drop, List.drop_left]
  rfl
theorem run_num {c n : Nat} {d t : List Nat} (rows : List Rw) (h : Num d n) : run (c :: 40 :: (d ++ 41 :: t)) rows = run t (addRow rows c n) := by
  rw [run_cons, tm_num h]
/-- a text, and it written short here and there -/
inductive Sh : List Nat → List Nat → Prop
  | nil : Sh [] []
  | out {a b : List Nat} {c : Nat} (m : Nat) : Sh a b → c ≠ 40 → Sh (a ++ List.replicate (m + 1) c) (b ++ List.replicate (m + 1) c)
  | brk {a b d : List Nat} {c : Nat} (m : Nat) : Sh a b → c ≠ 40 → Num d (m + 1) → Sh (a ++ List.replicate (m + 1) c) (b ++ (c :: 40 :: (d ++ [41])))
theorem Sh.rows {a b : List Nat} (h : Sh a b) : ∀ (t : List Nat) (rows : List Rw), t.head? ≠ some 40 → run (b ++ t) rows = run t (rle rows a) := by
  induction h with
  | nil => intro t rows _; rfl
  | @out a b c m _ hc ih =>
    intro t rows ht
    rw [List.append_assoc, ih _ _ (by rw [List.replicate_succ, List.cons_append, List.head?_cons]; exact fun z => hc (Option.some.inj z)), run_rep hc ht, rle_app]
  | @brk a b d c m _ hc hd ih =>
    intro t rows ht
    have e : (c :: 40 :: (d ++ [41])) ++ t = c :: 40 :: (d ++ 41 :: t) := by simp
    rw [List.append_assoc, ih _ _ (by rw [List.cons_append, List.head?_cons]; exact fun z => hc (Option.some.inj z)), e, run_num _ hd, rle_app, rle_rep]
theorem rowsOf_sh {a b : List Nat} (h : Sh a b) : rowsOf b = rle [] a := by
  have := h.rows [] [] (by simp)
  rw [List.append_nil, run_nil] at this
  exact this
theorem sh_self : ∀ (a : List Nat), 40 ∉ a → Sh a a := by
  have key : ∀ (l a : List Nat), 40 ∉ l → Sh a a → Sh (a ++ l) (a ++ l) := by
    intro l
    induction l with
    | nil => intro a _ h; rw [List.append_nil]; exact h
    | cons c t ih =>
      intro a hl h
      have e : a ++ c :: t = (a ++ List.replicate (0 + 1) c) ++ t := by simp
      rw [e]
      exact ih _ (fun z => hl (List.mem_cons_of_mem _ z)) (Sh.out 0 h fun z => hl (by rw [z]; exact List.mem_cons_self))
  intro a h
  exact key a [] h .nil
end K04

set_option Elab.async false
set_option linter.all false
set_option maxRecDepth 100000
namespace K04
open PySem PySem.NumText K02
end K04

set_option Elab.async false
set_option linter.all false
set_option maxRecDepth 100000
namespace K04
open PySem PySem.NumText K02
section
variable {lead W N broken tail : List Nat} {first : Nat}
end
end K04

set_option Elab.async false
set_option linter.all false
set_option maxRecDepth 100000
namespace K04
open PySem PySem.NumText K02
section
variable {lead W N broken tail : List Nat} {first : Nat}
end
/-! the other kinds -/
end K04

set_option Elab.async false
set_option linter.all false
set_option maxRecDepth 100000
/-! rows written out, written short, and their sizes -/
namespace K04
open K02 PySem.NumText
/-- how many signs but S and V -/
def noSV (c : Nat) : Bool := !([83, 86] : List Nat).contains c
def szR (rows : List Rw) : Nat := ((rows.filter fun x => noSV x.1).map (·.2)).sum
theorem szR_app (a b : List Rw) : szR (a ++ b) = szR a + szR b := by simp [szR]
theorem szR_one (c n : Nat) : szR [(c, n)] = if noSV c = true then n else 0 := by
  unfold szR
  rw [List.filter_cons]
  split <;> simp
theorem szR_add (rows : List Rw) (c n : Nat) : szR (addRow rows c n) = szR rows + if noSV c = true then n else 0 := by
  rcases last_cases rows with rfl | ⟨r, c', m, rfl⟩
  · rw [ad_nil, szR_one]; simp [szR]
  · by_cases h : c' = c
    · subst h
      rw [ad_same, szR_app, szR_app, szR_one, szR_one]
      split <;> omega
    · rw [ad_other h, szR_app (r ++ [(c', m)]), szR_one]
theorem szR_rle (l : List Nat) : ∀ rows, szR (rle rows l) = szR rows + (l.filter noSV).length := by
  induction l with
  | nil => intro rows; rfl
  | cons c t ih =>
    intro rows
    show szR (rle (addRow rows c 1) t) = _
    rw [ih, szR_add, List.filter_cons]
    split <;> simp <;> omega
theorem szR_self (l : List Nat) : szR (rle [] l) = (l.filter noSV).length := by rw [szR_rle]; simp [szR]
end K04

set_option Elab.async false
set_option linter.all false
set_option maxRecDepth 100000
/-! text.count; an item of a written list, drawn -/
namespace L2
open PySem PySem.Spec PyProof.Rows
open Builtin Builtin.Str
section
variable {X : Cx}
end
/-- the script and the town, as every draw asks for them -/
structure Bag (K : PySem.W.Frag) (H : Hp) (a t r : Addr) (ns : List Int) (c : Int) : Prop where
  sq : SqL K H a (ns.map V.int)
  tw : ∃ rs, TownAt H t r c rs
  nat : a ≠ t
  nar : a ≠ r
  ln : ns.length ≤ 63
section
variable {K : PySem.W.Frag} {H H' : Hp} {a t r : Addr} {ns : List Int} {c c' : Int}
theorem Bag.drawn (B : Bag K H a t r ns c) (A : Apart t r H H') {rs : List (Key × V)} (T : TownAt H' t r c' rs) : Bag K H' a t r ns c' :=
  ⟨A.seq B.sq B.nat B.nar, ⟨rs, T⟩, B.nat, B.nar, B.ln⟩
theorem Bag.same (B : Bag K H a t r ns c) (e : Same H H') : Bag K H' a t r ns c := by
  obtain ⟨rs, T⟩ := B.tw
  exact ⟨(Apart.of e).seq B.sq B.nat B.nar, ⟨rs, T.same e⟩, B.nat, B.nar, B.ln⟩
/-- a draw by names -/
theorem Bag.draw {σ : St} {i j : Nat} {n : Int} {tn : TE} {Q : VK} {E : XK} (B : Bag K H a t r ns c) (hi : σ[i]? = some (some (.ref a))) (hj : σ[j]? = some (some (.ref t))) (hn : ∀ R : VK, R (.int n) H → tn σ H R) (h0 : 0 < n) (h1 : n < 1000000) (hc : c < 100000)
    (k : ∀ (d : Nat) (H' : Hp), (d : Int) < n → Bag K H' a t r ns (c + 1) → Apart t r H H' → Q (.int d) H') : tCall (spDraw K) [] E (tCons (tVar i) (tCons (tVar j) (tCons tn tNil))) σ H Q := by
  obtain ⟨rs, T⟩ := B.tw
  refine ⟨_, hi, _, hj, hn _ ⟨a, t, r, ns, c, n, rs, rfl, B.sq, T, B.nat, B.nar, B.ln, hc, h0, h1, fun v rs' H' v0 v1 T' A' => ?_⟩⟩
  obtain ⟨d, rfl⟩ := Int.eq_ofNat_of_zero_le v0
  exact k d H' v1 (B.drawn A' T') A'
/-- what is at hand stays so over a draw -/
theorem Bag.keep (B : Bag K H a t r ns c) (A : Apart t r H H') {b : Addr} {o : HO} (e : H b = some o) (n : ∀ kvs, o ≠ .dK kvs) : H' b = some o := by
  obtain ⟨rs, T⟩ := B.tw
  refine A b o e (fun z => ?_) fun z => ?_
  · rw [z, T.tw] at e; cases e; exact n _ rfl
  · rw [z, T.rt] at e; cases e; exact n _ rfl
end
end L2

set_option Elab.async false
set_option linter.all false
set_option maxRecDepth 100000
/-! more of long displays: a text so many times in it, a list and a display -/
namespace L2
open PySem PySem.Spec PyProof.Rows
section
variable {X : Cx}
end
end L2

set_option Elab.async false
set_option linter.all false
set_option maxRecDepth 100000
/-! texts walked sign by sign, text.index, lists of other lengths, texts in braces -/
namespace L2
open PySem PySem.Spec PyProof.Rows
open Builtin Builtin.Str
section
variable {X : Cx} {tg : Expr}
end
section
variable {X : Cx}
/-! texts in braces -/
end
end L2

set_option Elab.async false
set_option linter.all false
set_option maxRecDepth 100000
/-! text.replace(a, b) of written a and b: behind a test that made a written text -/
namespace L2
open PySem PySem.Spec PyProof.Rows
open Builtin Builtin.Str
section
variable {X : Cx}
variable {o e : Expr} {es : List Expr} {to : TE} {t : TA} {name : Str} {apos cpos : Pos} {T id : String} {r : V → List V → Hp → VK → Prop}
end
end L2

set_option Elab.async false
set_option linter.all false
set_option maxRecDepth 100000
namespace Lw
open PySem PySem.Spec PyProof.Rows L2 K02 K04
open Builtin Builtin.Str StrLaws
section
variable {P : Program} {w : World} {K : PySem.W.Frag} {mg : Str → Option Value} {base : Heap} {f : Addr} {fd : FuncData} {tk : Nat → Tok} {c kr : Nat → Addr}
theorem comp_rowsG {p : Addr} {rs : List Addr} {rows : List Rw} {te : TE} {tt : TT} {NB : List Str} {n i : Nat} {σ : L2.St} {H : Hp} {Q : VK} (val : Rw → V) (ok : Rw → Bool) (hNB : NB.length = 3) (hn : n = 2) (hσ : σ[i]? = some (some (.ref p))) (R : RowsAt K H p rs rows)
    (htt : ∀ x ∈ rows, ∀ (H1 : Hp) (R : Bool → Hp → Prop), R (ok x) H1 → tt [none, some (.str (tx [x.1])), some (.int (x.2 : Nat))] H1 R)
    (hte : ∀ x ∈ rows, ∀ (H1 : Hp) (Q : VK), (∀ H2, Same H1 H2 → Q (val x) H2) → te [none, some (.str (tx [x.1])), some (.int (x.2 : Nat))] H1 Q)
    (hd : ∀ q H1, Same H H1 → H1 q = none → Q (.ref q) (upd H1 q (.lst ((rows.filter ok).map val)))) :
    tComp NB (iList K (tVar i)) (gTup K n (gCons (gName 1) (gCons (gName 2) gNil))) tt te σ H Q := by
  have hz : 1000 ≤ sizeLine := by decide
  have hl := R.le
  have hlen := R.len
  refine ⟨_, hσ, p, rfl, ⟨_, R.sq⟩, ?_⟩
  refine comp_list (xs := rs.map V.ref) (fun i vs H2 => Same H H2 ∧ vs = ((rows.take i).filter ok).map val) ⟨Same.refl H, rfl⟩ ?_ ?_ ?_ (by omega)
  · rintro i vs H2 hi ⟨S, rfl⟩
    exact ⟨(R.same S).sq, by rw [List.length_map]; exact Nat.le_trans (List.length_filter_le _ _) (by rw [List.length_take]; omega)⟩
  · rintro i x vs H2 hx ⟨S, rfl⟩
    rw [List.getElem?_map] at hx
    obtain ⟨r, hr, rfl⟩ := Option.map_eq_some_iff.mp hx
    obtain ⟨y, hy, g⟩ := (R.same S).rw.at' hr
    subst hn
    rw [hNB]
    have hm := List.mem_of_getElem? hy
    have htk : (rows.take (i + 1)).filter ok = (rows.take i).filter ok ++ if ok y = true then [y] else [] := by
      rw [List.take_add_one, hy, List.filter_append]
      congr 1
      show List.filter ok [y] = _
      rw [List.filter_cons]
      rfl
    refine ⟨r, _, rfl, SqT.of g, rfl, _, _, rfl, _, _, rfl, rfl, ?_⟩
    refine htt y hm _ _ ?_
    rw [htk]
    cases ok y with
    | true => exact iteT (hte y hm _ _ fun H3 S3 => ⟨S.trans S3, by simp⟩)
    | false => exact iteF ⟨S, by simp⟩
  · rintro vs H2 ⟨S, rfl⟩ q hq
    rw [List.take_of_length_le (by omega)]
    exact hd q H2 S hq
structure PicAt (a l : List Nat) (x : Facts) : Prop where
  pc : picture l = some x
  sh : Sh a l
  no : 40 ∉ a
  la : a.length ≤ 100
  ll : l.length ≤ 500
def spSize : Sp := fun vs H Q _ => ∃ (a l : List Nat) (x : Facts), vs = [.str (tx l)] ∧ PicAt a l x ∧ ∀ H', Same H H' → Q (.int ((a.filter noSV).length : Nat)) H'
theorem ok_size_of (F : Fun K "size_of" "size_of" s_size_of f fd) (O : Own mg) (D_understood : Def P w K mg base 6 "understood" ["picture"] (spUnder K c)) : FnOk P w K mg base (CXE P w) 7 f fd ["picture"] spSize := by
  refine okE F sc_size_of (fun vs H Q E h => ?_) (fun cdv A outer s H vs Q E hr h => ?_)
  · obtain ⟨a, l, x, rfl, _⟩ := h
    rfl
  · obtain ⟨a, l, x, rfl, hp, k⟩ := h
    have fr := fram_of (P := P) (w := w) (K := K) (mg := mg) (base := base) (N := ["picture", "rows", "facts"]) (qual := "size_of") (scope := defScope s_size_of) (f := f) (cd := cdv) (A := A) (outer := outer) (s := s) (H := H) (E := E)
    have hx := passes_gen fr
    have hla := hp.la
    have e83 : ("S" : Str) = tx [83] := by decide +kernel
    have e86 : ("V" : Str) = tx [86] := by decide +kernel
    refine ⟨_, (pss_cons (ps_asg (D_understood.pe hr (by decide) rfl hx (pa_cons (pv 0) pa_nil)) (pg_tup rfl (pgs_cons (pg_name (i := 1) sc_size_of.nd rfl (Or.inl rfl)) (pgs_cons (pg_name (i := 2) sc_size_of.nd rfl (Or.inl rfl)) pgs_nil))))
      (pss_one (ps_ret (pe_callB (call_sum rfl) rfl O.sum L2.boot_sum (pa_cons (pe_lcomp (NB := [".0", "symbol", "many"]) rfl ⟨rfl, by decide +kernel, by decide +kernel, by decide +kernel⟩ (pi_list (pv 1)) (fun _ _ _ => (pg_tupK (K0 := K) (n := 2) rfl rfl (pgs_cons (pg_name (i := 1) (show ([".0", "symbol", "many"] : List Str).Nodup by decide +kernel) rfl (Or.inl rfl) (Or.inr rfl)) (pgs_cons (pg_name (i := 2) (show ([".0", "symbol", "many"] : List Str).Nodup by decide +kernel) rfl (Or.inl rfl) (Or.inr rfl)) pgs_nil)))) (fun _ _ _ => (pts_one (PW.pt (pw_and (pt_cmpR op_ne (pv 1) pe_str (nomark _)) (pw_and1 (pt_cmpR op_ne (pv 1) pe_str (nomark _))))))) (fun _ _ _ => (pv 2))) pa_nil))))), ?_⟩
    refine ⟨_, rfl, l, rfl, hp.ll, (fun z => by rw [hp.pc] at z; cases z), fun x2 e q p rs r H1 S1 g1 g2 R1 => ?_⟩
    refine ⟨q, _, rfl, SqT.of g1, rfl, _, _, rfl, _, _, rfl, rfl, ?_⟩
    dsimp only [tRet, tCB, tCons, tNil]
    refine comp_rowsG (p := p) (rs := rs) (rows := rowsOf l) (fun x => .int (x.2 : Nat)) (fun x => noSV x.1) rfl rfl rfl R1 (fun x hx H1 R h => ?_) (fun x hx H1 Q h => ⟨_, rfl, h _ (Same.refl _)⟩) (fun q H2 S hq => ?_)
    · have hd : noSV x.1 = (!decide (x.1 = 83) && !decide (x.1 = 86)) := by
        unfold noSV
        by_cases z1 : x.1 = 83 <;> by_cases z2 : x.1 = 86 <;> simp [z1, z2]
      rw [hd] at h
      refine ⟨_, rfl, rfl, _, rfl, ?_⟩
      rw [e83, sym_dec]
      cases h1 : decide (x.1 = 83) with
      | true => rw [h1] at h; exact iteF h
      | false =>
        rw [h1] at h
        refine iteT ⟨_, rfl, rfl, _, rfl, ?_⟩
        rw [e86, sym_dec]
        exact h
    · have em : (((rowsOf l).filter fun x => noSV x.1).map fun x => V.int (x.2 : Nat)) = (((rowsOf l).filter fun x => noSV x.1).map fun x => ((x.2 : Nat) : Int)).map V.int := by rw [List.map_map]; rfl
      have es : ∀ rows : List Rw, (rows.map fun x => ((x.2 : Nat) : Int)).sum = (((rows.map (·.2)).sum : Nat) : Int) := by
        intro rows
        induction rows with
        | nil => rfl
        | cons y r ih => rw [List.map_cons, List.sum_cons, ih, List.map_cons, List.sum_cons]; push_cast; rfl
      rw [em]
      refine ⟨q, _, rfl, SqL.of upd_same, ?_⟩
      rw [es]
      have := szR_self a
      rw [← rowsOf_sh hp.sh] at this
      unfold szR at this
      rw [this]
      exact k _ (S1.trans (S.trans (Same.new hq)))
end
end Lw

set_option Elab.async false
set_option linter.all false
set_option maxRecDepth 100000
/-! comprehensions whose block reads names of the def around it -/
namespace L2
open PySem PySem.Spec PyProof.Rows
def blkEnvF (scope : Scope) (env : Env) (C : Addr) : Env :=
  { scope := relabel scope env, locals := C, globals := env.globals, cells := closOf env.cells scope.names [], qual := env.qual, func := none, code := env.code, frame := env.frame, builtins := env.builtins }
abbrev cxBlkF (X : Cx) (NB : List Str) (scope : Scope) (s : Shared) (H : Hp) (ex : List Addr) : Cx :=
  { X with N := NB, s₀ := s, H₀ := H, env := blkEnvF scope X.env s.heap.objs.size, outer := X.stack, ex := ex, fn := fun _ => false, pn := [], xe := fun _ _ => False }
/-- the block's own names, then those that it reads of the def around it -/
structure BlkScopeF (NB FR : List Str) (scope : Scope) : Prop where
  kind : scope.kind = .function
  nd : (NB ++ FR).Nodup
  nocell : ∀ y ∈ scope.names, y.2 ≠ .cell
  loc : ∀ y ∈ scope.names, y.2 = .local → scope.names.lookup y.1 = some .local
  nd2 : (scope.names.map (·.1)).Nodup
  fr : ∀ y ∈ FR, (y, NameKind.free) ∈ scope.names
def tCompF (n : Nat) (fi : List Nat) (wi : TI) (g : TG) (tt : TT) (te : TE) : TE := fun σ H Q => wi σ H fun J H1 => ∃ fv : List V, fi.map (fun i => σ[i]?) = fv.map (fun v => some (some v)) ∧ ∃ W : Nat → Nat → List V → Hp → Prop, (∃ m, W 0 m [] H1) ∧ ∀ i m vs H, W i m vs H →
  (J.stop i H ∧ ∀ p, H p = none → Q (.ref p) (upd H p (.lst vs))) ∨ (J.go i H ∧ vs.length < sizeLine ∧ ∃ N : List V → Hp → Prop, (∀ vs' H', N vs' H' → ∃ m', m' < m ∧ W (i + 1) m' vs' H') ∧
    ∀ x H', J.yld i H x H' → g x (List.replicate n none ++ fv.map some) H' fun σ2 H2 => σ2.drop n = fv.map some ∧ tt σ2 H2 fun b H3 => if b = true then te σ2 H3 fun v H4 => N (vs ++ [v]) H4 else N vs H3)
def reF (env : Env) (x : Str × NameKind) : Str × NameKind := if (x.2 == NameKind.free && env.scope.kind == .function && env.kindOf x.1 == some .cell) then (x.1, NameKind.cell) else (x.1, x.2)
theorem reF_look (env : Env) {x : Str × NameKind} {y : Str} (h : y ≠ x.1) (l : List (Str × NameKind)) : (reF env x :: l).lookup y = l.lookup y := by
  have hb : (y == x.1) = false := beq_eq_false_iff_ne.mpr h
  unfold reF
  split <;> rw [List.lookup_cons, hb]
theorem relabel_cell {env : Env} {scope : Scope} {y : Str} (nd : (scope.names.map (·.1)).Nodup) (h : (y, NameKind.free) ∈ scope.names) (hk : (env.scope.kind == .function) = true) (hc : env.scope.names.lookup y = some .cell) : (relabel scope env).names.lookup y = some .cell := by
  have key : ∀ l : List (Str × NameKind), (l.map (·.1)).Nodup → (y, NameKind.free) ∈ l → (l.map (reF env)).lookup y = some .cell := by
    intro l
    induction l with
    | nil => intro _ h; cases h
    | cons z r ih =>
      intro nd h
      rw [List.map_cons, List.nodup_cons] at nd
      rw [List.map_cons]
      rcases List.mem_cons.mp h with h | h
      · subst h
        have e : (env.kindOf y == some NameKind.cell) = true := by rw [show env.kindOf y = env.scope.names.lookup y from rfl, hc]; rfl
        have e2 : reF env (y, NameKind.free) = (y, NameKind.cell) := by unfold reF; rw [if_pos (by rw [hk, e]; rfl)]
        rw [e2, List.lookup_cons, beq_self_eq_true]
      · have hne : y ≠ z.1 := fun q => nd.1 (by rw [← q]; exact List.mem_map.mpr ⟨_, h, rfl⟩)
        rw [reF_look env hne]
        exact ih nd.2 h
  exact key scope.names nd h
theorem relabel_free {env : Env} {scope : Scope} {y : Str} (nc : ∀ y ∈ scope.names, y.2 ≠ .cell) (h : (relabel scope env).names.lookup y = some .cell ∨ (relabel scope env).names.lookup y = some .free) : (y, NameKind.free) ∈ scope.names := by
  have key : ∀ l : List (Str × NameKind), (∀ y ∈ l, y.2 ≠ .cell) → ((l.map (reF env)).lookup y = some .cell ∨ (l.map (reF env)).lookup y = some .free) → (y, NameKind.free) ∈ l := by
    intro l
    induction l with
    | nil => intro _ h; rcases h with h | h <;> simp at h
    | cons z r ih =>
      intro nc h
      have hk : z.2 ≠ .cell := nc z List.mem_cons_self
      rw [List.map_cons] at h
      by_cases hn : y = z.1
      · obtain ⟨n, k⟩ := z
        have hn : y = n := hn
        subst hn
        have hf : k = .free := by
          cases k with
          | cell => exact absurd rfl hk
          | free => rfl
          | _ =>
            have e2 : ∀ q : NameKind, (q == NameKind.free) = false → reF env (y, q) = (y, q) := fun q hq => by unfold reF; rw [if_neg (by rw [show ((y, q).2 == NameKind.free) = false from hq]; simp)]
            rw [e2 _ rfl, List.lookup_cons, beq_self_eq_true] at h
            rcases h with h | h <;> cases h
        rw [hf]
        exact List.mem_cons_self
      · rw [reF_look env hn] at h
        exact List.mem_cons_of_mem _ (ih (fun y hy => nc y (List.mem_cons_of_mem _ hy)) h)
  exact key scope.names nc h
theorem cellsFrom_none : ∀ (l : List (Str × NameKind)) (n : Nat) (acc : List (Str × Addr)), (∀ y ∈ l, y.2 ≠ .cell) → cellsFrom n l acc = acc
  | [], _, _, _ => rfl
  | (x, k) :: r, n, acc, h => by
    have hk : (k == NameKind.cell) = false := beq_eq_false_iff_ne.mpr (h (x, k) List.mem_cons_self)
    unfold cellsFrom
    rw [hk]
    exact cellsFrom_none r n acc fun y hy => h y (List.mem_cons_of_mem _ hy)
theorem pushCells_none : ∀ (l : List (Str × NameKind)) (h : Heap), (∀ y ∈ l, y.2 ≠ .cell) → pushCells h l = h
  | [], _, _ => rfl
  | (x, k) :: r, h, hn => by
    have hk : (k == NameKind.cell) = false := beq_eq_false_iff_ne.mpr (hn (x, k) List.mem_cons_self)
    unfold pushCells
    rw [hk]
    exact pushCells_none r h fun y hy => hn y (List.mem_cons_of_mem _ hy)
theorem wpAny_newBlockF {M : Model} {A : Around} {E : Value → Shared → Prop} {s : Shared} {scope : Scope} {globals : Addr} {qual : Str} {env : Env} {cl : List (Str × Addr)} {Q : Env → Shared → Prop} (hk : scope.kind = .function) (hn : ∀ y ∈ scope.names, y.2 ≠ .cell)
    (hQ : ∀ cenv s', cenv = { scope := scope, locals := s.heap.objs.size, globals := globals, cells := cl, qual := qual, func := none, code := env.code, frame := env.frame, builtins := env.builtins } →
      InCall s s.heap.objs.size (fun _ => none) s' → Q cenv s') :
    wpAny M A (newFunctionEnv scope globals cl [] qual none .none (some env)) Q E s := by
  simp only [newFunctionEnv, Option.isSome_some, if_true]
  refine wpAny_bind (wpAny_alloc ?_)
  refine wpAny_bind (wpAny_layCells _ (fun name kind cells => by cases hkc : kind == NameKind.cell <;> simp [hkc]) _ _ _ _ ?_)
  rw [cellsFrom_none _ _ _ hn, pushCells_none _ _ hn]
  refine wpAny_bind (wpAny_pure (wpAny_pure (hQ _ _ rfl ?_)))
  exact ⟨⟨_, _, rfl⟩, Heap.Ns.new s.heap (.type "dict"), fun b o e => Heap.get?_push_of_some _ e, Nat.le_refl _⟩
section
variable {X : Cx}
theorem pe_lcompF {elt tg iter : Expr} {ifs : List Expr} {scope : Scope} {pos : Pos} {NB FR : List Str} {fi : List Nat} {wi : TI} {g : TG} {tt : TT} {te : TE} (hc : X.calm = true) (S : BlkScopeF NB FR scope) (hfree : freeIn scope X.env.scope = true) (hfi : fi.map (fun i => X.N[i]?) = FR.map some) (hi : PI X tg iter wi)
    (hg : ∀ s H ex, PG (cxBlkF X (NB ++ FR) scope s H ex) tg g) (ht : ∀ s H ex, PTs (cxBlkF X (NB ++ FR) scope s H ex) ifs tt) (he : ∀ s H ex, PE (cxBlkF X (NB ++ FR) scope s H ex) elt te)
    (hs : ∀ x, foldedSetIterable iter X.env x = pure x := by intro _; rfl) : PE X (.ListComp elt [⟨tg, iter, ifs, 0⟩] scope pos) (tCompF NB.length fi wi g tt te) := by
  intro pins s σ H Q I h
  have hfc : ∀ y ∈ scope.names, y.2 = .free → X.env.scope.names.lookup y.1 = some .cell := freeIn_at hfree
  have hasF : ∀ y ∈ scope.names, y.2 = .free → ∃ c, X.env.cells.lookup y.1 = some c := fun y hy e => I.ok.has y.1 (.inl (hfc y hy e))
  have clook : ∀ y c, (closOf X.env.cells scope.names []).lookup y = some c → X.env.cells.lookup y = some c := fun y c e => clos_look scope.names [] hasF (fun z => nomatch z) e
  rw [eval_ListComp]
  refine wpAny_comprehension_free (use := none) (cl := closOf X.env.cells scope.names []) rfl hs (closureFor_eq hasF) S.kind S.loc (thn (hi pins s σ H _ I h) fun v s1 h1 => thn h1 fun itv s2 h2 => ?_)
  obtain ⟨it, fp, tn, J, H2, e, I2, T, st2, f2, fv, hfv, W, ⟨m0, w0⟩, turn⟩ := h2
  subst e
  refine wpAny_newObj_type ?_
  have up2 : ∀ b o, s2.heap.get? b = some o → (s2.heap.push { cls := .type "list", data := .seq ([] : List Value).toArray }).get? b = some o := fun b o e => Heap.get?_push_of_some _ e
  have I3 : Inv X pins σ H2 { s2 with heap := s2.heap.push { cls := .type "list", data := .seq ([] : List Value).toArray } } := I2.kept (t' := s2.toks) up2
  have st3 : tn 0 (s2.heap.push { cls := .type "list", data := .seq ([] : List Value).toArray }) := T.keep _ _ _ st2 fun b _ o e => up2 b o e
  have hD3 : (s2.heap.push { cls := .type "list", data := .seq ([] : List Value).toArray }).get? s2.heap.objs.size = some (lstO []) := Heap.get?_push_size _ rfl
  have hD2 : H2 s2.heap.objs.size = none := I2.hok.fresh (Nat.le_refl _)
  have lt2 : ∀ b o, s2.heap.get? b = some o → b ≠ s2.heap.objs.size := fun b o e => Nat.ne_of_lt (Heap.lt_size e)
  have fpO : ∀ b ∈ fp, ∃ o, s2.heap.get? b = some o := fun b hb => let ⟨o, e, _⟩ := T.obj _ _ st2 b hb; ⟨o, e⟩
  have hDs0 : X.s₀.heap.objs.size ≤ s2.heap.objs.size := I2.sz
  have hDL : s2.heap.objs.size ≠ X.env.locals := Nat.ne_of_gt I2.lt
  have hDC : ∀ x c, X.env.cells.lookup x = some c → c ≠ s2.heap.objs.size := fun x c e => let ⟨v, o, e1, _⟩ := I2.cell x c e; lt2 c o e1
  have hDp : ∀ p ∈ X.pn ++ pins, p.1 ≠ s2.heap.objs.size := fun p hp => lt2 p.1 _ (I2.pin p hp).1
  have hDf : s2.heap.objs.size ∉ frs X.stack := fun z => let ⟨o, e, _⟩ := (I2.stack.mem z).2; lt2 _ o e rfl
  generalize hS3 : ({ s2 with heap := s2.heap.push { cls := .type "list", data := .seq ([] : List Value).toArray } } : Shared) = s3 at I3 ⊢
  have hh3 : s3.heap = s2.heap.push { cls := .type "list", data := .seq ([] : List Value).toArray } := by rw [← hS3]
  rw [← hh3] at st3 hD3 up2
  generalize s2.heap.objs.size = D at hD3 hD2 lt2 hDs0 hDL hDC hDp hDf ⊢
  refine wpAny_newBlockF S.kind S.nocell fun cenv s4 hce x4 => ?_
  subst hce
  have lt3 : ∀ b o, s3.heap.get? b = some o → b < s3.heap.objs.size := fun b o e => Heap.lt_size e
  have fp3 : ∀ b ∈ fp, b < s3.heap.objs.size := fun b hb => let ⟨o, e⟩ := fpO b hb; lt3 b o (up2 b o e)
  have dl3 : D < s3.heap.objs.size := lt3 D _ hD3
  have DfpN : ∀ b ∈ fp, b ≠ D := fun b hb => let ⟨o, e⟩ := fpO b hb; lt2 b o e
  obtain ⟨h4, tk4, rfl, hk4⟩ := x4.done
  have bsN : ∀ b o, X.base.get? b = some o → b ∉ D :: fp := fun b o e hb => by
    rcases List.mem_cons.mp hb with rfl | hb
    · exact absurd (Nat.lt_of_lt_of_le (Heap.lt_size (I2.ok.bs b o e).1) hDs0) (Nat.lt_irrefl _)
    · obtain ⟨_, _, _, f3, _⟩ := f2 b hb
      rcases f3 with z | z
      · exact I2.ok.noex b o e z
      · exact absurd (Nat.lt_of_lt_of_le (Heap.lt_size (I2.ok.bs b o e).1) z) (Nat.lt_irrefl _)
  have exF : ∀ b ∈ D :: fp, b ∉ frs X.stack := fun b hb hf => by
    rcases List.mem_cons.mp hb with rfl | hb
    · exact hDf hf
    · obtain ⟨_, f1, f2', _⟩ := f2 b hb
      rcases List.mem_cons.mp (I2.stkSub b hf) with z | z
      · exact f1 z
      · exact f2' z
  have ccl : ∀ y c, (closOf X.env.cells scope.names []).lookup y = some c → (∃ v, s3.heap.IsCell c v) ∧ H2 c = none ∧ c ≠ D ∧ ∀ b ∈ fp, c ≠ b := fun y c e => by
    have e' := clook y c e
    exact ⟨I3.cell y c e', I3.freeC y c e', hDC y c e', fun b hb => (f2 b hb).2.2.2.2.1 y c e'⟩
  have clt : ∀ y c, (closOf X.env.cells scope.names []).lookup y = some c → c < s3.heap.objs.size := fun y c e => let ⟨⟨v, o, ho, _⟩, _⟩ := ccl y c e; lt3 c o ho
  have exLt : ∀ b ∈ D :: fp, b < s3.heap.objs.size := fun b hb => by
    rcases List.mem_cons.mp hb with rfl | hb
    · exact dl3
    · exact fp3 b hb
  have okB : (cxBlkF X (NB ++ FR) scope s3 H2 (D :: fp)).Ok := by
    refine ⟨I3.ok.mod, S.kind, I3.ok.glob, I3.ok.blt, Nat.le_refl _, fun y z c h1 h2 => ?_, fun y hy => ?_, (fun y c z _ => nomatch z), I3.ok.hd, I3.ok.frames, .inl rfl, fun b hb => ⟨Nat.ne_of_lt (exLt b hb), fun y c e z => ?_⟩, I3.bs, Nat.le_trans I3.ok.bsz I3.sz, bsN, exF, I3.stack, I3.stkFree⟩
    · exact I3.ok.inj y z c (clook y c h1) (clook z c h2)
    · exact clos_has scope.names [] (.inr (relabel_free S.nocell hy))
    · obtain ⟨_, _, n1, n2⟩ := ccl y c e
      rcases List.mem_cons.mp hb with q | q
      · exact n1 (z.trans q)
      · exact n2 b q z
  have hlen0 : (List.replicate NB.length (none : Option V) ++ fv.map some).length = (NB ++ FR).length := by
    have h1 := congrArg List.length hfv
    have h2 := congrArg List.length hfi
    simp only [List.length_map] at h1 h2
    rw [List.length_append, List.length_append, List.length_replicate, List.length_map]
    omega
  have rep : ∀ (j : Nat) (v : V), (List.replicate NB.length (none : Option V) ++ fv.map some)[j]? = some (some v) → ∃ k, j = NB.length + k ∧ fv[k]? = some v := fun j v z => by
    rw [List.getElem?_append] at z
    split at z
    · rw [List.getElem?_replicate] at z
      split at z <;> cases z
    · rename_i hj
      rw [List.length_replicate] at hj z
      refine ⟨j - NB.length, by omega, ?_⟩
      rw [List.getElem?_map] at z
      cases e : fv[j - NB.length]? with
      | none => rw [e] at z; cases z
      | some y => rw [e] at z; exact congrArg some (Option.some.inj (Option.some.inj z))
  have fvAt : ∀ (k : Nat) (v : V) (y : Str), fv[k]? = some v → FR[k]? = some y → ∃ i, X.N[i]? = some y ∧ σ[i]? = some (some v) := fun k v y h1 h2 => by
    have a1 := congrArg (fun l => l[k]?) hfv
    have a2 := congrArg (fun l => l[k]?) hfi
    simp only [List.getElem?_map, h1, h2] at a1 a2
    cases e : fi[k]? with
    | none => rw [e] at a1; cases a1
    | some i =>
      rw [e] at a1 a2
      exact ⟨i, Option.some.inj a2, Option.some.inj a1⟩
  have IB : Inv (cxBlkF X (NB ++ FR) scope s3 H2 (D :: fp)) [(D, lstO [])] (List.replicate NB.length none ++ fv.map some) H2 { s3 with heap := h4, toks := tk4 } := by
    refine ⟨okB, rfl, I3.bare, Un.kept hk4, ⟨_, x4.ns, fun i y v h1 h2 h3 => ?_⟩, fun y c h => let ⟨⟨v, o, ho, hd⟩, _⟩ := ccl y c h; ⟨v, o, hk4 _ _ ho, hd⟩, I3.hok.fresh (Nat.le_refl _), fun y c h => (ccl y c h).2.1, fun p hp => ?_, I3.hok.kept hk4, hlen0⟩
    · obtain ⟨k, rfl, hk⟩ := rep i v h2
      have hy : FR[k]? = some y := by
        have h1 : (NB ++ FR)[NB.length + k]? = some y := h1
        rw [List.getElem?_append_right (Nat.le_add_right _ _), Nat.add_sub_cancel_left] at h1
        exact h1
      obtain ⟨io, hN, hσ⟩ := fvAt k v y hk hy
      have hfr : (y, NameKind.free) ∈ scope.names := S.fr y (List.mem_of_getElem? hy)
      obtain ⟨m, _, hl⟩ := I3.loc
      obtain ⟨u, r, l⟩ := hl io y v hN hσ (.inr (.inl (hfc _ hfr rfl)))
      refine ⟨u, r, .inr ⟨.inl ?_, ?_⟩⟩
      · exact relabel_cell S.nd2 hfr (by show (X.env.scope.kind == .function) = true; rw [I3.ok.kind]; rfl) (hfc _ hfr rfl)
      · obtain ⟨c, hc1⟩ := clos_has (cells := X.env.cells) (x := y) scope.names [] (.inr hfr)
        refine ⟨c, hc1, ?_⟩
        have hc2 := clook y c hc1
        rcases l with ⟨hk, _⟩ | ⟨_, c', hc', o, ho, hd⟩
        · have e1 := hfc _ hfr rfl
          rw [show X.env.kindOf y = X.env.scope.names.lookup y from rfl] at hk
          rw [hk] at e1
          cases e1
        · rw [hc2] at hc'
          cases hc'
          exact ⟨o, hk4 _ _ ho, hd⟩
    obtain rfl : p = (D, lstO []) := by simpa using hp
    exact ⟨hk4 _ _ hD3, hD2, Nat.ne_of_lt dl3, hDf, fun v z => nomatch z⟩
  -- what stays true of the iterator's objects
  have stat : ∀ {H' : Hp} {ys : List Value}, (∀ b ∈ fp, H' b = none) → ∀ b ∈ fp, FpOk (cxBlkF X (NB ++ FR) scope s3 H2 (D :: fp)) [(D, lstO ys)] H' b := fun hn b hb =>
    ⟨hn b hb, Nat.ne_of_lt (fp3 b hb), exF b (List.mem_cons_of_mem _ hb), .inl (List.mem_cons_of_mem _ hb), fun y c e z => (ccl y c e).2.2.2 b hb z, fun p hp => by
        obtain rfl : p = (D, _) := by simpa using hp
        exact (DfpN b hb).symm⟩
  have st4 : tn 0 h4 := T.keep _ _ _ st3 fun b _ o e => hk4 b o e
  have fr4 : ∀ b ∈ fp, H2 b = none := fun b hb => (f2 b hb).1
  have hcB : (cxBlkF X (NB ++ FR) scope s3 H2 (D :: fp)).calm = true := hc
  have loop : codeAny (model X.prog X.w) X.A (.compLoop (.ListComp elt [⟨tg, iter, ifs, 0⟩] scope pos) 0 (.ref it) (.ref D) (blkEnvF scope X.env s3.heap.objs.size))
      (compPost (model X.prog X.w) X.A X.xe none (EP X pins σ Q) (.ref D) s3.heap.objs.size) { s3 with heap := h4, toks := tk4 } := by
    refine comp_loop (fun n s' => ∃ i vs ys H', Inv (cxBlkF X (NB ++ FR) scope s3 H2 (D :: fp)) [(D, lstO ys)] (List.replicate NB.length none ++ fv.map some) H' s' ∧ Vals vs ys ∧ vs.length ≤ sizeLine ∧ tn i s'.heap ∧ (∀ b ∈ fp, H' b = none) ∧ W i n vs H') ?_ m0 ⟨0, [], [], H2, IB, .nil, Nat.zero_le _, st4, fr4, w0⟩
    rintro n s5 ⟨i, vs, ys, H5, I5, rv, hvl, st5, fr5, w5⟩
    rcases turn i n vs H5 w5 with ⟨stop, qn⟩ | ⟨go, hlt, N, hN, step⟩
    · refine wpAny_mono (T.done (cxBlkF X (NB ++ FR) scope s3 H2 (D :: fp)) rfl rfl rfl hcB i _ s5 _ H5 (fun _ _ => False) I5 (stat fr5) st5 stop) (fun r s6 ⟨hr, I6⟩ => ?_) (fun _ _ z => z.elim)
      subst hr
      obtain ⟨m6, hn6, _⟩ := id I6.loc
      refine ⟨m6, hn6, fun h7 sb7 => ?_⟩
      have kp7 : ∀ b o, b ≠ s3.heap.objs.size → s6.heap.get? b = some o → h7.get? b = some o := fun b o hb e => (sb7.2 b hb).trans e
      have hC6 : H5 s3.heap.objs.size = none := I6.free
      have un7 : Un (frs X.stack) (D :: fp) H2 H5 s3.heap h7 := by
        have u := I6.base
        refine ⟨fun b o e n hb hx => kp7 b o (Nat.ne_of_lt (Heap.lt_size e)) (u.keep b o e n hb hx), fun b o e n hb hx => ?_, u.free, fun b o e hx => ?_, u.tups, u.frzs, u.tbls⟩
        · obtain ⟨sl, q⟩ := u.slot b o e n hb hx
          exact ⟨sl, kp7 b _ (Nat.ne_of_lt (Heap.lt_size e)) q⟩
        · obtain ⟨o', q⟩ := u.there b o e hx
          exact ⟨o', kp7 b _ (Nat.ne_of_lt (Heap.lt_size e)) q⟩
      have hok7 : HOk X.prog X.w H5 h7 := fun b u e => (I6.hok b u e).stay (fun c w' hcc q => kp7 c w' (by
        rintro rfl
        rcases hcc with rfl | hcc
        · rw [hC6] at e; cases e
        · rw [hC6] at hcc; cases hcc) q) (fun _ q => q) fun _ _ q => q
      have I7 : Inv X pins σ H5 { s6 with heap := h7 } := I3.call' (s' := { s6 with heap := h7 }) I6.os un7 hok7 I6.bare fun b hb => by
        rcases List.mem_cons.mp hb with rfl | hb
        · exact ⟨.inr hDs0, hDL, hDC, hDp⟩
        · obtain ⟨_, f1, _, f3, f4, f5⟩ := f2 b hb
          exact ⟨f3, f1, f4, f5⟩
      obtain ⟨eD, nD, _⟩ := I6.pin (D, lstO ys) (by simp)
      have nD' : H5 D = none := nD
      have eD' : h7.get? D = some (lstO ys) := kp7 D _ (Nat.ne_of_lt dl3) eD
      have hD0 : X.s₀.heap.get? D = none := by
        cases q : X.s₀.heap.get? D with
        | none => rfl
        | some o => exact absurd (Nat.lt_of_lt_of_le (Heap.lt_size q) hDs0) (Nat.lt_irrefl _)
      exact ⟨.ref D, upd H5 D (.lst vs), I7.track nD' hD0 hDL hDC hDp ⟨hvl, ys, ys.length, rv, eD'⟩, rfl, qn D nD'⟩
    · refine wpAny_mono (T.item (cxBlkF X (NB ++ FR) scope s3 H2 (D :: fp)) rfl rfl rfl hcB i _ s5 _ H5 (fun _ _ => False) I5 (stat fr5) st5 go) (fun r s6 ⟨u, hr, h6⟩ => ?_) (fun _ _ z => z.elim)
      subst hr
      refine wpAny_mono h6 (fun _ s7 ⟨x, H7, I7, r7, y7, st7, fr7⟩ => ?_) (fun _ _ z => z.elim)
      have I7' := I7.pinned (stat fr7) (T.obj _ _ st7)
      refine wpAny_mono (hg s3 H2 (D :: fp) _ s7 _ H7 x u _ I7' r7 (step x H7 y7)) (fun _ s8 ⟨σ8, H8, I8, hk8, q8⟩ => ?_) (fun _ _ z => z.elim)
      refine wpAny_mono (ht s3 H2 (D :: fp) _ s8 σ8 H8 _ I8 q8) (fun ok s9 ⟨H9, I9, q9⟩ => ?_) (fun _ _ z => z.elim)
      have fpK : ∀ {σ' : St} {H' : Hp} {s' : Shared}, Inv (cxBlkF X (NB ++ FR) scope s3 H2 (D :: fp)) ([(D, lstO ys)] ++ pinsAt fp s7.heap) σ' H' s' → tn (i + 1) s'.heap ∧ ∀ b ∈ fp, H' b = none := fun J =>
        ⟨T.keep _ _ _ st7 fun b hb o e => (J.pin (b, o) (List.mem_append_right _ (List.mem_append_right _ (mem_pinsAt hb e)))).1, fun b hb => by
          obtain ⟨o, e, d⟩ := T.obj _ _ st7 b hb
          exact (J.pin (b, o) (List.mem_append_right _ (List.mem_append_right _ (mem_pinsAt hb e)))).2.1⟩
      have wk : ∀ {H' : Hp} {s' : Shared} {pl : List (Addr × Obj)}, Inv (cxBlkF X (NB ++ FR) scope s3 H2 (D :: fp)) pl σ8 H' s' → Inv (cxBlkF X (NB ++ FR) scope s3 H2 (D :: fp)) pl (List.replicate NB.length none ++ fv.map some) H' s' := fun J =>
        J.weak (hlen0.trans J.len.symm) fun j v z => by
          obtain ⟨k, rfl, hk⟩ := rep j v z
          have := congrArg (fun l => l[k]?) hk8
          simp only [List.getElem?_drop, List.getElem?_map, hk] at this
          exact this
      cases ok with
      | false =>
        rw [if_neg (by decide)] at q9
        rw [if_neg (by decide)]
        obtain ⟨m', hm, w9⟩ := hN vs H9 q9
        obtain ⟨t9, f9⟩ := fpK I9
        exact ⟨m', hm, i + 1, vs, ys, H9, wk I9.unpinned, rv, hvl, t9, f9, w9⟩
      | true =>
        rw [if_pos rfl] at q9
        rw [if_pos rfl]
        refine wpAny_mono (he s3 H2 (D :: fp) _ s9 σ8 H9 _ I9 q9) (fun y s10 ⟨v, H10, I10, rv10, q10⟩ => ?_) (fun _ _ z => z.elim)
        obtain ⟨eD, nD, _, nf, _⟩ := I10.pin (D, lstO ys) (by simp)
        have hyl := rv.length
        refine append_at (hsz := by show ys.toArray.size ≤ sizeLine; rw [List.size_toArray, ← hyl]; exact hvl) eD fun h11 sb11 hD11 => ?_
        obtain ⟨m', hm, w11⟩ := hN (vs ++ [v]) H10 q10
        obtain ⟨t10, f10⟩ := fpK I10
        have I10u := I10.unpinned
        have k11 : ∀ b o, b ≠ D → s10.heap.get? b = some o → h11.get? b = some o := fun b o hb e => (sb11.2 b hb).trans e
        have IE : Inv (cxBlkF X (NB ++ FR) scope s3 H2 (D :: fp)) [] σ8 H10 s10 := I10u.pins_of fun p hp => nomatch hp
        have I11 : Inv (cxBlkF X (NB ++ FR) scope s3 H2 (D :: fp)) [] σ8 H10 { s10 with heap := h11 } := IE.turned (t' := s10.toks) k11 nD (Nat.ne_of_lt dl3) (.inl List.mem_cons_self) (fun y' c e z => (ccl y' c e).2.2.1 z) (fun p hp => absurd (show p ∈ ([] : List (Addr × Obj)) from hp) (by simp))
        have eL : ({ cls := .type "list", data := .seq (ys.toArray.push y) (ys.length + 1) } : Obj) = lstO (ys ++ [y]) := by
          show ({ cls := .type "list", data := .seq (ys.toArray.push y) (ys.length + 1) } : Obj) = { cls := .type "list", data := .seq (ys ++ [y]).toArray (ys ++ [y]).length }
          rw [List.length_append, List.length_singleton, List.push_toArray]
        refine ⟨m', hm, i + 1, vs ++ [v], ys ++ [y], H10, wk (I11.pins_of fun p hp => ?_), rv.append (.cons rv10 .nil), by rw [List.length_append, List.length_singleton]; exact hlt, T.keep _ _ _ t10 fun b hb o e => k11 b o (DfpN b hb) e, f10, w11⟩
        obtain rfl : p = (D, lstO (ys ++ [y])) := by simpa using hp
        exact ⟨by rw [← eL]; exact hD11, nD, Nat.ne_of_lt dl3, nf, fun v z => nomatch z⟩
  exact codeAny_compStart_list loop (T.self _ 0 _ _ _ st4 loop)
end
end L2

set_option Elab.async false
set_option linter.all false
set_option maxRecDepth 100000
/-! enumerate(text), list(text) -/
namespace L2
open PySem PySem.Spec PyProof.Rows
open Builtin Builtin.Str
section
variable {X : Cx} {pins : List (Addr × Obj)} {σ : List (Option V)} {H : Hp} {s : Shared} {h' : Heap}
/-- several records have turned -/
theorem Inv.turnedL {t' : Nat} {ch : List Addr} (I : Inv X pins σ H s) (hf : ∀ b ∈ ch, FpOk X pins H b) (k : ∀ b o, b ∉ ch → s.heap.get? b = some o → h'.get? b = some o) : Inv X pins σ H { s with heap := h', toks := t' } := by
  have nit : ∀ b u, H b = some u → b ∉ ch := fun b u e z => by rw [(hf b z).1] at e; cases e
  refine I.step (g' := s.gens) (d' := s.drawn) (ch := ch) (fun b hb => ?_) (fun b o _ _ hc e _ => k b o hc e) (fun b o _ _ hc e _ => ⟨o.slots, k b o hc e⟩) (fun _ _ _ _ n => n) (fun b o hc e => ⟨o, k b o hc e⟩) (fun _ _ e => e) (fun _ _ _ e => e) (fun b ps e => ⟨#[], by rw [e]; simp⟩) (fun m hm => ?_) (fun b u e => ?_) I.bare
  · obtain ⟨_, f1, _, f3, f4, f5⟩ := hf b hb
    exact ⟨f3, f1, f4, f5⟩
  · obtain ⟨o, es, ep, ho, r⟩ := hm
    exact ⟨o, es, ep, k _ o (fun z => (hf _ z).2.1 rfl) ho, r⟩
  · refine (I.hok b u e).stay (fun c v hc q => k c v ?_ q) (fun _ q => q) fun _ _ q => q
    rcases hc with z | z
    · rw [z]; exact nit b u e
    · exact nit c _ z
/-- .. and a new tuple is laid -/
theorem Inv.turnedT {t' : Nat} {ch : List Addr} {T : Addr} {xs : List V} (I : Inv X pins σ H s) (hf : ∀ b ∈ ch, FpOk X pins H b) (k : ∀ b o, b ∉ ch → s.heap.get? b = some o → h'.get? b = some o) (hT : s.heap.objs.size ≤ T)
    (new : ObjOk X.prog X.w (upd H T (.tup xs)) h' T (.tup xs)) : Inv X pins σ (upd H T (.tup xs)) { s with heap := h', toks := t' } := by
  have hn := I.hok.fresh hT
  have nit : ∀ b u, H b = some u → b ∉ ch := fun b u e z => by rw [(hf b z).1] at e; cases e
  have nT : ∀ b o, H b = some o → upd H T (.tup xs) b = some o := fun b o e => by rw [upd_ne (ne_of_none e hn)]; exact e
  refine I.step (g' := s.gens) (d' := s.drawn) (ch := ch) (fun b hb => ?_) (fun b o _ _ hc e _ => k b o hc e) (fun b o _ _ hc e _ => ⟨o.slots, k b o hc e⟩) (fun b o _ e n => ?_) (fun b o hc e => ⟨o, k b o hc e⟩) (fun b ys e => nT b _ e) (fun b o u e => nT b _ e) (fun b ps e => ⟨#[], by rw [nT b _ e]; simp⟩) (fun m hm => ?_) (fun b u e => ?_) I.bare
  · obtain ⟨_, f1, _, f3, f4, f5⟩ := hf b hb
    exact ⟨f3, f1, f4, f5⟩
  · rw [upd_ne (fun z => absurd (Heap.lt_size e) (by rw [z]; exact Nat.not_lt.mpr hT))]
    exact n
  · obtain ⟨o, es, ep, ho, r⟩ := hm
    exact ⟨o, es, ep, k _ o (fun z => (hf _ z).2.1 rfl) ho, r⟩
  · by_cases hb : b = T
    · subst hb; rw [upd_same] at e; cases e; exact new
    · rw [upd_ne hb] at e
      refine (I.hok b u e).stay (fun c v hc q => k c v ?_ q) (fun c q => nT c _ q) fun c ys q => nT c _ q
      rcases hc with z | z
      · rw [z]; exact nit b u e
      · exact nit c _ z
end
section
variable {X : Cx}
end
end L2

set_option Elab.async false
set_option linter.all false
set_option maxRecDepth 100000
/-! list(text) -/
namespace L2
open PySem PySem.Spec PyProof.Rows
open Builtin Builtin.Str
section
variable {prog : Program} {w : World} {A : Around} {E : Value → Shared → Prop} {s : Shared}
end
section
variable {X : Cx}
end
/-! written dicts of texts, of any number -/
section
variable {X : Cx} {o i : Expr} {td ty : TE} {a : Addr} {kvs : List (Key × V)}
end
end L2

set_option Elab.async false
set_option linter.all false
set_option maxRecDepth 100000
/-! loops over texts, their signs numbered; comprehensions over texts with names of the def around -/
namespace L2
open PySem PySem.Spec PyProof.Rows
end L2

set_option Elab.async false
set_option linter.all false
set_option maxRecDepth 100000
/-! zip(text, text) -/
namespace L2
open PySem PySem.Spec PyProof.Rows
open Builtin Builtin.Str
section
variable {prog : Program} {w : World} {A : Around} {E : Value → Shared → Prop} {s : Shared} {z TI TO i1 i2 : Addr} {k n1 n2 : Nat} {P1 P2 : Nat → Value → Prop} {S1 S2 : Nat → Heap → Prop} {a b : Value}
end
section
variable {prog : Program} {w : World} {A : Around} {E : Value → Shared → Prop} {s : Shared} {z TI TO i1 i2 : Addr} {k n1 n2 : Nat} {P1 P2 : Nat → Value → Prop} {S1 S2 : Nat → Heap → Prop} {a b : Value}
end
section
variable {X : Cx}
end
end L2

set_option Elab.async false
set_option linter.all false
namespace L2
open PySem PySem.Spec PyProof.Rows
/-! ### things within things: tuples of tuples -/
inductive Dv where
  | non | bl (b : Bool) | int (i : Int) | str (x : Str) | tup (ds : List Dv)
mutual
def Dv.depth : Dv → Nat
  | .tup ds => Dv.depthL ds + 1
  | _ => 0
def Dv.depthL : List Dv → Nat
  | [] => 0
  | d :: ds => max (Dv.depth d) (Dv.depthL ds)
end
mutual
def Dv.eqb : Dv → Dv → Bool
  | .non, .non => true
  | .bl a, .bl b => a == b
  | .bl a, .int b => (if a then 1 else 0) == b
  | .int a, .bl b => a == (if b then 1 else 0)
  | .int a, .int b => a == b
  | .str a, .str b => a == b
  | .tup xs, .tup ys => Dv.eqbL xs ys
  | _, _ => false
def Dv.eqbL : List Dv → List Dv → Bool
  | [], [] => true
  | x :: xs, y :: ys => Dv.eqb x y && Dv.eqbL xs ys
  | _, _ => false
end
mutual
/-- what a value is, all the way down -/
inductive Deep (H : Hp) : V → Dv → Prop where
  | non : Deep H .non .non
  | bl {b : Bool} : Deep H (.bl b) (.bl b)
  | int {i : Int} : Deep H (.int i) (.int i)
  | str {x : Str} : Deep H (.str x) (.str x)
  | tup {a : Addr} {xs : List V} {ds : List Dv} (h : H a = some (.tup xs)) (t : Deeps H xs ds) : Deep H (.ref a) (.tup ds)
inductive Deeps (H : Hp) : List V → List Dv → Prop where
  | nil : Deeps H [] []
  | cons {x : V} {d : Dv} {xs : List V} {ds : List Dv} (h : Deep H x d) (t : Deeps H xs ds) : Deeps H (x :: xs) (d :: ds)
end
theorem Deeps.length {H : Hp} : ∀ {xs : List V} {ds : List Dv}, Deeps H xs ds → xs.length = ds.length
  | _, _, .nil => rfl
  | _, _, .cons _ t => congrArg (· + 1) t.length
theorem Deeps.getX {H : Hp} : ∀ {xs : List V} {ds : List Dv} {i : Nat} {x : V}, Deeps H xs ds → xs[i]? = some x → ∃ d, ds[i]? = some d ∧ Deep H x d
  | _, _, _, _, .nil, e => by simp at e
  | _, _, 0, _, .cons h _, e => by
    simp at e
    subst e
    exact ⟨_, rfl, h⟩
  | _, _, i + 1, x, .cons _ t, e => by
    obtain ⟨d, h1, h2⟩ := Deeps.getX (i := i) (x := x) t (by simpa using e)
    exact ⟨d, by simpa using h1, h2⟩
theorem Deeps.append {H : Hp} : ∀ {xs ys : List V} {ds es : List Dv}, Deeps H xs ds → Deeps H ys es → Deeps H (xs ++ ys) (ds ++ es)
  | _, _, _, _, .nil, q => q
  | _, _, _, _, .cons h t, q => .cons h (Deeps.append t q)
theorem Deeps.take {H : Hp} : ∀ {xs : List V} {ds : List Dv} (n : Nat), Deeps H xs ds → Deeps H (xs.take n) (ds.take n)
  | _, _, 0, _ => .nil
  | _, _, _ + 1, .nil => .nil
  | _, _, n + 1, .cons h t => .cons h (Deeps.take n t)
theorem Deeps.drop {H : Hp} : ∀ {xs : List V} {ds : List Dv} (n : Nat), Deeps H xs ds → Deeps H (xs.drop n) (ds.drop n)
  | _, _, 0, t => t
  | _, _, _ + 1, .nil => .nil
  | _, _, n + 1, .cons _ t => Deeps.drop n t
mutual
/-- tuples never change -/
theorem Deep.keep {H H' : Hp} (k : ∀ b ys, H b = some (.tup ys) → H' b = some (.tup ys)) : ∀ {x : V} {d : Dv}, Deep H x d → Deep H' x d
  | _, _, .non => .non
  | _, _, .bl => .bl
  | _, _, .int => .int
  | _, _, .str => .str
  | _, _, .tup h t => .tup (k _ _ h) (Deeps.keep k t)
theorem Deeps.keep {H H' : Hp} (k : ∀ b ys, H b = some (.tup ys) → H' b = some (.tup ys)) : ∀ {xs : List V} {ds : List Dv}, Deeps H xs ds → Deeps H' xs ds
  | _, _, .nil => .nil
  | _, _, .cons h t => .cons (Deep.keep k h) (Deeps.keep k t)
end
theorem Deep.same {H H' : Hp} {x : V} {d : Dv} (h : Deep H x d) (S : Same H H') : Deep H' x d := h.keep (fun b ys e => S _ _ e)
theorem Deeps.same {H H' : Hp} {xs : List V} {ds : List Dv} (h : Deeps H xs ds) (S : Same H H') : Deeps H' xs ds := h.keep (fun b ys e => S _ _ e)
section
variable {X : Cx} {pins : List (Addr × Obj)} {σ : St} {H : Hp} {s : Shared}
mutual
theorem Deep.inj (I : Inv X pins σ H s) : ∀ {x : V} {d e : Dv}, Deep H x d → Deep H x e → d = e
  | _, _, _, .non, .non => rfl
  | _, _, _, .bl, .bl => rfl
  | _, _, _, .int, .int => rfl
  | _, _, _, .str, .str => rfl
  | _, _, _, .tup h t, .tup h2 t2 => by
    have e := I.tuple_inj (.inl (.inl h)) (.inl (.inl h2))
    subst e
    rw [Deeps.inj I t t2]
theorem Deeps.inj (I : Inv X pins σ H s) : ∀ {xs : List V} {ds es : List Dv}, Deeps H xs ds → Deeps H xs es → ds = es
  | _, _, _, .nil, .nil => rfl
  | _, _, _, .cons h t, .cons h2 t2 => by rw [Deep.inj I h h2, Deeps.inj I t t2]
end
end
mutual
theorem Dv.eqb_self : ∀ d : Dv, d.eqb d = true
  | .non => rfl
  | .bl b => by cases b <;> rfl
  | .int i => by unfold Dv.eqb; exact beq_self_eq_true i
  | .str x => by unfold Dv.eqb; exact beq_self_eq_true x
  | .tup ds => by unfold Dv.eqb; exact Dv.eqbL_self ds
theorem Dv.eqbL_self : ∀ ds : List Dv, Dv.eqbL ds ds = true
  | [] => rfl
  | d :: ds => by unfold Dv.eqbL; rw [Dv.eqb_self d, Dv.eqbL_self ds]; rfl
end
theorem Dv.eqbL_range : ∀ (ds es : List Dv), Dv.eqbL ds es = ((List.range (min ds.length es.length)).all (fun j => ((ds[j]?).getD .non).eqb ((es[j]?).getD .non)) && ds.length == es.length)
  | [], [] => rfl
  | [], e :: es => rfl
  | d :: ds, [] => rfl
  | d :: ds, e :: es => by
    unfold Dv.eqbL
    rw [Dv.eqbL_range ds es, List.length_cons, List.length_cons, show min (ds.length + 1) (es.length + 1) = min ds.length es.length + 1 by omega, List.range_succ_eq_map, List.all_cons, List.all_map, Bool.and_assoc]
    congr 1
    congr 1
    exact Bool.eq_iff_iff.mpr (by simp)
theorem Dv.depth_le : ∀ {ds : List Dv} {i : Nat} {d : Dv}, ds[i]? = some d → d.depth ≤ Dv.depthL ds
  | [], _, _, e => by simp at e
  | x :: xs, 0, d, e => by
    simp at e
    subst e
    unfold Dv.depthL
    omega
  | x :: xs, i + 1, d, e => by
    have := Dv.depth_le (ds := xs) (i := i) (d := d) (by simpa using e)
    unfold Dv.depthL
    omega
section
variable {X : Cx} {pins : List (Addr × Obj)} {σ : St} {H : Hp} {s : Shared}
/-- two things compared, the tuples among them by what is known of their parts -/
theorem Deep.at1 (I : Inv X pins σ H s) {N : Nat} {x y : V} {d e : Dv} (hd : d.depth ≤ N) (hx : Deep H x d) (hy : Deep H y e) {A : Around} {u v : Value} (hu : A.units + N < cLine) (rx : RelV x u) (ry : RelV y v)
    (ih : ∀ n, N = n + 1 → ∀ (d e : Dv) (x y : V), d.depth ≤ n → Deep H x d → Deep H y e → ∀ {A : Around} {u v : Value}, A.units + n < cLine → RelV x u → RelV y v → SeqAt.EqAt A s u v (d.eqb e)) : SeqAt.EqAt A s u v (d.eqb e) := by
  cases hx with
  | non =>
    cases rx
    cases hy with
    | non =>
      cases ry
      exact .same _
    | @bl b2 =>
      cases ry
      exact SeqAt.EqAt.none_bool b2
    | @int i2 =>
      obtain ⟨ty, rfl⟩ := ry
      exact SeqAt.EqAt.none_int i2 ty
    | @str z2 =>
      obtain ⟨ty, rfl⟩ := ry
      exact SeqAt.EqAt.none_str z2 ty
    | @tup a2 ys es h2 t2 =>
      obtain rfl : v = Value.ref a2 := ry
      obtain ⟨its2, r2, p2, _⟩ := I.tuple (.inl (.inl h2))
      exact SeqAt.EqAt.none_tuple p2 (by omega)
  | @bl b =>
    cases rx
    cases hy with
    | non =>
      cases ry
      exact SeqAt.EqAt.bool_none b
    | @bl b2 =>
      cases ry
      exact SeqAt.EqAt.bool_bool b b2
    | @int i2 =>
      obtain ⟨ty, rfl⟩ := ry
      exact SeqAt.EqAt.bool_int b i2 ty
    | @str z2 =>
      obtain ⟨ty, rfl⟩ := ry
      exact SeqAt.EqAt.bool_str b z2 ty
    | @tup a2 ys es h2 t2 =>
      obtain rfl : v = Value.ref a2 := ry
      obtain ⟨its2, r2, p2, _⟩ := I.tuple (.inl (.inl h2))
      exact SeqAt.EqAt.bool_tuple b p2 (by omega)
  | @int i =>
    obtain ⟨tx, rfl⟩ := rx
    cases hy with
    | non =>
      cases ry
      exact SeqAt.EqAt.int_none i tx
    | @bl b2 =>
      cases ry
      exact SeqAt.EqAt.int_bool i tx b2
    | @int i2 =>
      obtain ⟨ty, rfl⟩ := ry
      exact SeqAt.EqAt.int_int i tx i2 ty
    | @str z2 =>
      obtain ⟨ty, rfl⟩ := ry
      exact SeqAt.EqAt.int_str i tx z2 ty
    | @tup a2 ys es h2 t2 =>
      obtain rfl : v = Value.ref a2 := ry
      obtain ⟨its2, r2, p2, _⟩ := I.tuple (.inl (.inl h2))
      exact SeqAt.EqAt.int_tuple i tx p2 (by omega)
  | @str z =>
    obtain ⟨tx, rfl⟩ := rx
    cases hy with
    | non =>
      cases ry
      exact SeqAt.EqAt.str_none z tx
    | @bl b2 =>
      cases ry
      exact SeqAt.EqAt.str_bool z tx b2
    | @int i2 =>
      obtain ⟨ty, rfl⟩ := ry
      exact SeqAt.EqAt.str_int z tx i2 ty
    | @str z2 =>
      obtain ⟨ty, rfl⟩ := ry
      exact SeqAt.EqAt.str_str z tx z2 ty
    | @tup a2 ys es h2 t2 =>
      obtain rfl : v = Value.ref a2 := ry
      obtain ⟨its2, r2, p2, _⟩ := I.tuple (.inl (.inl h2))
      exact SeqAt.EqAt.str_tuple z tx p2 (by omega)
  | @tup a xs ds h t =>
    obtain rfl : u = Value.ref a := rx
    obtain ⟨its, r1, p1, _⟩ := I.tuple (.inl (.inl h))
    cases hy with
    | non =>
      cases ry
      exact SeqAt.EqAt.tuple_none p1 (by omega)
    | @bl b2 =>
      cases ry
      exact SeqAt.EqAt.tuple_bool b2 p1 (by omega)
    | @int i2 =>
      obtain ⟨ty, rfl⟩ := ry
      exact SeqAt.EqAt.tuple_int i2 ty p1 (by omega)
    | @str z2 =>
      obtain ⟨ty, rfl⟩ := ry
      exact SeqAt.EqAt.tuple_str z2 ty p1 (by omega)
    | @tup a2 ys es h2 t2 =>
      obtain rfl : v = Value.ref a2 := ry
      obtain ⟨its2, r2, p2, _⟩ := I.tuple (.inl (.inl h2))
      obtain ⟨n, rfl⟩ : ∃ n, N = n + 1 := ⟨N - 1, by have := hd; unfold Dv.depth at this; omega⟩
      have hl1 := t.length
      have hl2 := t2.length
      have q1 := r1.length
      have q2 := r2.length
      have z := SeqAt.RcAt.tuples (A := A) (s := s) (e := fun j => ((ds[j]?).getD .non).eqb ((es[j]?).getD .non)) p1 p2 (by omega) (tup_items (pins := pins) (σ := σ) (H := H) (n := n) r1 r2 fun j x y u v g1 g2 w1 w2 => ?_)
      · rw [List.size_toArray, List.size_toArray, ← q1, ← q2, hl1, hl2, ← Dv.eqbL_range] at z
        by_cases ne : a = a2
        · subst ne
          rw [Deep.inj I (.tup h t) (.tup h2 t2), Dv.eqb_self]
          exact .same _
        · unfold Dv.eqb
          exact .of_refs ne z
      · obtain ⟨d1, k1, k2⟩ := t.getX g1
        obtain ⟨e1, m1, m2⟩ := t2.getX g2
        show SeqAt.EqAt A.in1 s u v (((ds[j]?).getD .non).eqb ((es[j]?).getD .non))
        rw [k1, m1]
        exact ih n rfl d1 e1 x y (Nat.le_trans (Dv.depth_le k1) (by have := hd; unfold Dv.depth at this; omega)) k2 m2 (by show A.units + 1 + n < cLine; omega) w1 w2
theorem Deep.at (I : Inv X pins σ H s) : ∀ (n : Nat) (d e : Dv) (x y : V), d.depth ≤ n → Deep H x d → Deep H y e → ∀ {A : Around} {u v : Value}, A.units + n < cLine → RelV x u → RelV y v → SeqAt.EqAt A s u v (d.eqb e) := by
  intro n
  induction n with
  | zero =>
    intro d e x y hd hx hy A u v hu rx ry
    exact Deep.at1 I hd hx hy hu rx ry fun n hn => absurd hn (by omega)
  | succ n ih =>
    intro d e x y hd hx hy A u v hu rx ry
    refine Deep.at1 I hd hx hy hu rx ry fun m hm => ?_
    obtain rfl : n = m := by omega
    exact ih
theorem Deep.rcNe (I : Inv X pins σ H s) {n : Nat} {x y : V} {d e : Dv} (hd : d.depth ≤ n) (hx : Deep H x d) (hy : Deep H y e) {u v : Value} (hu : X.A.units + n < cLine) (rx : RelV x u) (ry : RelV y v) : SeqAt.RcNeAt X.A s u v (!(d.eqb e)) := by
  cases hx with
  | non =>
    cases rx
    cases hy with
    | non =>
      cases ry
      exact SeqAt.RcNeAt.none_none
    | @bl b2 =>
      cases ry
      exact SeqAt.RcNeAt.none_bool b2
    | @int i2 =>
      obtain ⟨ty, rfl⟩ := ry
      exact SeqAt.RcNeAt.none_int i2 ty
    | @str z2 =>
      obtain ⟨ty, rfl⟩ := ry
      exact SeqAt.RcNeAt.none_str z2 ty
    | @tup a2 ys es h2 t2 =>
      obtain rfl : v = Value.ref a2 := ry
      obtain ⟨its2, r2, p2, _⟩ := I.tuple (.inl (.inl h2))
      exact SeqAt.RcNeAt.none_tuple p2 (by omega)
  | @bl b =>
    cases rx
    cases hy with
    | non =>
      cases ry
      exact SeqAt.RcNeAt.bool_none b
    | @bl b2 =>
      cases ry
      exact SeqAt.RcNeAt.bool_bool b b2
    | @int i2 =>
      obtain ⟨ty, rfl⟩ := ry
      exact SeqAt.RcNeAt.bool_int b i2 ty
    | @str z2 =>
      obtain ⟨ty, rfl⟩ := ry
      exact SeqAt.RcNeAt.bool_str b z2 ty
    | @tup a2 ys es h2 t2 =>
      obtain rfl : v = Value.ref a2 := ry
      obtain ⟨its2, r2, p2, _⟩ := I.tuple (.inl (.inl h2))
      exact SeqAt.RcNeAt.bool_tuple b p2 (by omega)
  | @int i =>
    obtain ⟨tx, rfl⟩ := rx
    cases hy with
    | non =>
      cases ry
      exact SeqAt.RcNeAt.int_none i tx
    | @bl b2 =>
      cases ry
      exact SeqAt.RcNeAt.int_bool i tx b2
    | @int i2 =>
      obtain ⟨ty, rfl⟩ := ry
      exact SeqAt.RcNeAt.int_int i tx i2 ty
    | @str z2 =>
      obtain ⟨ty, rfl⟩ := ry
      exact SeqAt.RcNeAt.int_str i tx z2 ty
    | @tup a2 ys es h2 t2 =>
      obtain rfl : v = Value.ref a2 := ry
      obtain ⟨its2, r2, p2, _⟩ := I.tuple (.inl (.inl h2))
      exact SeqAt.RcNeAt.int_tuple i tx p2 (by omega)
  | @str z =>
    obtain ⟨tx, rfl⟩ := rx
    cases hy with
    | non =>
      cases ry
      exact SeqAt.RcNeAt.str_none z tx
    | @bl b2 =>
      cases ry
      exact SeqAt.RcNeAt.str_bool z tx b2
    | @int i2 =>
      obtain ⟨ty, rfl⟩ := ry
      exact SeqAt.RcNeAt.str_int z tx i2 ty
    | @str z2 =>
      obtain ⟨ty, rfl⟩ := ry
      exact SeqAt.RcNeAt.str_str z tx z2 ty
    | @tup a2 ys es h2 t2 =>
      obtain rfl : v = Value.ref a2 := ry
      obtain ⟨its2, r2, p2, _⟩ := I.tuple (.inl (.inl h2))
      exact SeqAt.RcNeAt.str_tuple z tx p2 (by omega)
  | @tup a xs ds h t =>
    obtain rfl : u = Value.ref a := rx
    obtain ⟨its, r1, p1, _⟩ := I.tuple (.inl (.inl h))
    cases hy with
    | non =>
      cases ry
      exact SeqAt.RcNeAt.tuple_none p1 (by omega)
    | @bl b2 =>
      cases ry
      exact SeqAt.RcNeAt.tuple_bool b2 p1 (by omega)
    | @int i2 =>
      obtain ⟨ty, rfl⟩ := ry
      exact SeqAt.RcNeAt.tuple_int i2 ty p1 (by omega)
    | @str z2 =>
      obtain ⟨ty, rfl⟩ := ry
      exact SeqAt.RcNeAt.tuple_str z2 ty p1 (by omega)
    | @tup a2 ys es h2 t2 =>
      obtain rfl : v = Value.ref a2 := ry
      obtain ⟨its2, r2, p2, _⟩ := I.tuple (.inl (.inl h2))
      have hl1 := t.length
      have hl2 := t2.length
      have q1 := r1.length
      have q2 := r2.length
      have hd' : Dv.depthL ds + 1 ≤ n := by have := hd; unfold Dv.depth at this; exact this
      have z := SeqAt.RcNeAt.tuples (A := X.A) (s := s) (e := fun j => ((ds[j]?).getD .non).eqb ((es[j]?).getD .non)) p1 p2 (by omega) (tup_items (pins := pins) (σ := σ) (H := H) (n := n) r1 r2 fun j x y u v g1 g2 w1 w2 => ?_)
      · rw [List.size_toArray, List.size_toArray, ← q1, ← q2, hl1, hl2, ← Dv.eqbL_range] at z
        unfold Dv.eqb
        exact z
      · obtain ⟨d1, k1, k2⟩ := t.getX g1
        obtain ⟨e1, m1, m2⟩ := t2.getX g2
        show SeqAt.EqAt X.A.in1 s u v (((ds[j]?).getD .non).eqb ((es[j]?).getD .non))
        rw [k1, m1]
        exact Deep.at I (n - 1) d1 e1 x y (Nat.le_trans (Dv.depth_le k1) (by omega)) k2 m2 (by show X.A.units + 1 + (n - 1) < cLine; omega) w1 w2
def rEqDp (n : Nat) (neg : Bool) : R2 := fun x y H Q => ∃ d e, Deep H x d ∧ Deep H y e ∧ d.depth ≤ n ∧ Q (.bl (if neg then !(d.eqb e) else d.eqb e)) H
theorem op_neDp {n : Nat} (hu : X.A.units + n < cLine) : OpR X (compareOp .NotEq) (rEqDp n true) := by
  intro pins s σ H x y v u Q I rx ry h
  obtain ⟨d, e, hx, hy, hd, q⟩ := h
  exact Deep.rcNe I hd hx hy hu rx ry X.prog X.w X.xe _ ⟨.bl _, H, I, rfl, q⟩
end
end L2

set_option Elab.async false
set_option linter.all false
set_option maxRecDepth 100000
/-! tuples and lists walked side by side, or with their numbers -/
namespace L2
open PySem PySem.Spec PyProof.Rows
open Builtin Builtin.Str
section
variable {prog : Program} {w : World} {A : Around} {E : Value → Shared → Prop} {s : Shared} {j tt : Addr} {n : Nat} {its : Array Value}
theorem nx_tup {v : Value} {Q : Value → Shared → Prop} (g : s.heap.IsTupleIter j tt n) (gt : s.heap.IsTuple tt its) (gv : its[n]? = some v)
    (k : ∀ h', h'.IsTupleIter j tt (n + 1) → Heap.SameBut j s.heap h' → Q v { s with heap := h' }) : wpAny (model prog w) A (Builtin.SmallTypes.nextOf (.ref j)) Q E s := by
  obtain ⟨o, ho, hc, hd⟩ := id g; obtain ⟨ol, hol, _, nl, hdl⟩ := gt
  unfold Builtin.SmallTypes.nextOf; refine wpAny_bind (wpAny_callSpecial?_slot (name := Str.ofString "__next__") g.typeIs F.slot_tuple_iterator_next (wpAny_call_entry F.slot_tuple_iterator_next g.typeIs F.entry_tuple_iterator_next ?_ (F.args_tuple_iterator_next_1 _)))
  show wpAny _ _ (field (.ref j) 0 >>= _) _ _ s; refine wpAny_bind (wpAny_field ho hd (x := .ref tt) rfl ?_)
  show wpAny _ _ (if (Value.ref tt == Value.none) = true then _ else _) _ _ s; rw [if_neg (show ¬ ((Value.ref tt == Value.none) = true) from Bool.false_ne_true)]
  show wpAny _ _ (field (.ref j) 1 >>= _) _ _ s; refine wpAny_bind (wpAny_field ho hd (x := .int n 0) rfl ?_)
  show wpAny _ _ (seqItems? (.ref tt) >>= _) _ _ s; refine wpAny_bind (wpAny_seqItems hol hdl ?_)
  simp only [Int.toNat_natCast, gv]; refine wpAny_bind (wpAny_setField ho hd (by simp) (wpAny_pure ⟨v, rfl, wpAny_pure (k _ ?_ (Heap.SameBut.update ..))⟩))
  exact ⟨_, Heap.get?_update_self _ ho (Obj.isFreed_of_fields (Obj.data_mapFields hd _)), (Obj.cls_mapFields ..).trans hc, by rw [Obj.data_mapFields hd]; simp [rawInt]⟩
theorem nx_tupE {Q : Value → Shared → Prop} (hh : A.handled = none) (g : s.heap.IsTupleIter j tt n) (gt : s.heap.IsTuple tt its) (gv : its[n]? = none)
    (k : ∀ h' e, Heap.ExtBut j s.heap h' → (∃ o, h'.get? e = some o ∧ o.cls = .type "StopIteration") → E (.ref e) { s with heap := h' }) : wpAny (model prog w) A (Builtin.SmallTypes.nextOf (.ref j)) Q E s := by
  obtain ⟨o, ho, hc, hd⟩ := id g; obtain ⟨ol, hol, _, nl, hdl⟩ := gt
  unfold Builtin.SmallTypes.nextOf; refine wpAny_bind (wpAny_callSpecial?_slot (name := Str.ofString "__next__") g.typeIs F.slot_tuple_iterator_next (wpAny_call_entry F.slot_tuple_iterator_next g.typeIs F.entry_tuple_iterator_next ?_ (F.args_tuple_iterator_next_1 _)))
  show wpAny _ _ (field (.ref j) 0 >>= _) _ _ s; refine wpAny_bind (wpAny_field ho hd (x := .ref tt) rfl ?_)
  show wpAny _ _ (if (Value.ref tt == Value.none) = true then _ else _) _ _ s; rw [if_neg (show ¬ ((Value.ref tt == Value.none) = true) from Bool.false_ne_true)]
  show wpAny _ _ (field (.ref j) 1 >>= _) _ _ s; refine wpAny_bind (wpAny_field ho hd (x := .int n 0) rfl ?_)
  show wpAny _ _ (seqItems? (.ref tt) >>= _) _ _ s; refine wpAny_bind (wpAny_seqItems hol hdl ?_)
  simp only [Int.toNat_natCast, gv]; refine wpAny_bind (wpAny_rule (wpAny_bind (wpAny_setField ho hd (by simp) ?_)))
  show wpAny _ _ (newExc (.type "StopIteration") [] >>= _) _ _ _; refine wpAny_bind ?_
  simp only [newExc, newTuple]; refine wpAny_bind (wpAny_newObj_type ?_ (by size_fits))
  refine wpAny_bind (m := firstArgMember _ _) (wpAny_of_eq (a := Value.none) (by first | rfl | (simp only [firstArgMember]; rfl)) ?_); refine wpAny_newObj_type ?_ (by size_fits)
  simp only [raiseNew]; refine wpAny_bind (wpAny_handled ?_)
  first | rw [show A.in1.handled = none from hh] | rw [hh]
  refine wpAny_bind (wpAny_pure (wpAny_throw ?_)); exact k _ _ (((Heap.SameBut.update ..).extBut.push _).push _) ⟨_, Heap.get?_push_size _ rfl, rfl⟩
end
/-- a list or a tuple as it is walked: its record, and what lies there -/
inductive Sk where | tp | ls
def SkIt (k : Sk) (h : Heap) (it a : Addr) (i : Nat) : Prop := match k with | .tp => h.IsTupleIter it a i | .ls => h.IsListIter it a i
def SkOk (k : Sk) (h : Heap) (a : Addr) (its : Array Value) : Prop := match k with | .tp => h.IsTuple a its | .ls => h.IsList a its
theorem dr_sk {prog : Program} {w : World} {A : Around} (k : Sk) (hh : A.handled = none) (it a : Addr) (ne : a ≠ it) (its : Array Value) : Draws prog w A it [it, a] its.size (fun i v => its[i]? = some v) (fun i h => SkIt k h it a i ∧ SkOk k h a its) := by
  cases k with
  | ls => exact Draws.list hh it a ne its
  | tp =>
    exact { live := fun _ _ st => let ⟨o, ho, _⟩ := st.1; ⟨o, ho⟩, frame := fun _ _ _ st hk => ⟨let ⟨o, ho, r⟩ := st.1; ⟨o, hk it (by simp) o ho, r⟩, let ⟨o, ho, r⟩ := st.2; ⟨o, hk a (by simp) o ho, r⟩⟩, item := fun i s Q E hi st hQ => by
              refine nx_tup st.1 st.2 (v := its[i]) (by simp [hi]) fun h' g hs => ?_
              exact hQ _ h' s.toks (by simp [hi]) ⟨g, let ⟨o, ho, r⟩ := st.2; ⟨o, (hs.2 a ne).trans ho, r⟩⟩ hs
            , done := fun s Q E st hE => nx_tupE hh st.1 st.2 (by simp) hE }
def SkQ (k : Sk) (K : PySem.W.Frag) (H : Hp) (a : Addr) (xs : List V) : Prop := match k with | .tp => SqT K H a xs | .ls => SqL K H a xs
theorem Inv.sk {X : Cx} {pins : List (Addr × Obj)} {σ : St} {H : Hp} {s : Shared} {k : Sk} {a : Addr} {xs : List V} (I : Inv X pins σ H s) (h : SkQ k X.K H a xs) : ∃ its : List Value, Vals xs its ∧ SkOk k s.heap a its.toArray ∧ xs.length ≤ sizeLine := by
  cases k with
  | tp =>
    obtain ⟨its, r, p, z⟩ := I.tuple h
    exact ⟨its, r, p, z⟩
  | ls =>
    obtain ⟨its, r, p, z⟩ := I.list h
    exact ⟨its, r, p.isList, z⟩
theorem Inv.sk_inj {X : Cx} {pins : List (Addr × Obj)} {σ : St} {H : Hp} {s : Shared} {k : Sk} {a : Addr} {xs ys : List V} (I : Inv X pins σ H s) (h : SkQ k X.K H a xs) (h' : SkQ k X.K H a ys) : xs = ys := by
  obtain ⟨its, r, p, _⟩ := I.sk h
  obtain ⟨its2, r2, p2, _⟩ := I.sk h'
  have e : its = its2 := by
    cases k with
    | tp =>
      obtain ⟨o, ho, _, n, hd⟩ := p
      obtain ⟨o2, ho2, _, n2, hd2⟩ := p2
      obtain rfl := Option.some.inj (ho.symm.trans ho2)
      have := hd.symm.trans hd2
      injection this with q
      simpa using q
    | ls =>
      obtain ⟨o, ho, _, n, hd⟩ := p
      obtain ⟨o2, ho2, _, n2, hd2⟩ := p2
      obtain rfl := Option.some.inj (ho.symm.trans ho2)
      have := hd.symm.trans hd2
      injection this with q
      simpa using q
  subst e
  exact Vals.inj r r2
theorem ty_ne {a b : String} (h : a ≠ b) : Value.type a ≠ Value.type b := fun z => h (by injection z)
theorem sk_ne {k : Sk} {h : Heap} {it a : Addr} {i : Nat} {its : Array Value} (g : SkIt k h it a i) (p : SkOk k h a its) : a ≠ it := by
  cases k with
  | tp =>
    obtain ⟨o, ho, hc, _⟩ := g
    obtain ⟨o2, ho2, hc2, _⟩ := p
    rintro rfl
    obtain rfl := Option.some.inj (ho.symm.trans ho2)
    exact ty_ne (by decide) (hc.symm.trans hc2)
  | ls =>
    obtain ⟨o, ho, hc, _⟩ := g
    obtain ⟨o2, ho2, hc2, _⟩ := p
    rintro rfl
    obtain rfl := Option.some.inj (ho.symm.trans ho2)
    exact ty_ne (by decide) (hc.symm.trans hc2)
theorem sk_obj {k : Sk} {h : Heap} {it a : Addr} {i : Nat} (g : SkIt k h it a i) : ∃ o, h.get? it = some o ∧ ∀ v, o.data ≠ .cell v := by
  cases k with
  | tp => obtain ⟨o, ho, hc, hd⟩ := g; exact ⟨o, ho, fun v q => by rw [hd] at q; cases q⟩
  | ls => obtain ⟨o, ho, hc, hd⟩ := g; exact ⟨o, ho, fun v q => by rw [hd] at q; cases q⟩
theorem sk_keep {k : Sk} {h h' : Heap} {it a : Addr} {i : Nat} (g : SkIt k h it a i) (kk : ∀ o, h.get? it = some o → h'.get? it = some o) : SkIt k h' it a i := by
  cases k with
  | tp => obtain ⟨o, ho, r⟩ := g; exact ⟨o, kk o ho, r⟩
  | ls => obtain ⟨o, ho, r⟩ := g; exact ⟨o, kk o ho, r⟩
theorem sk_cls {k : Sk} {h : Heap} {a : Addr} {its : Array Value} {o : Obj} (p : SkOk k h a its) (e : h.get? a = some o) : o.cls = .type "tuple" ∨ o.cls = .type "list" := by
  cases k with
  | tp => obtain ⟨o2, ho, hc, _⟩ := p; obtain rfl := Option.some.inj (e.symm.trans ho); exact .inl hc
  | ls => obtain ⟨o2, ho, hc, _⟩ := p; obtain rfl := Option.some.inj (e.symm.trans ho); exact .inr hc
/-- each thing with its number -/
def ItN (k : Sk) (K : PySem.W.Frag) (a : Addr) : It := ⟨fun i H => ∃ xs x, SkQ k K H a xs ∧ xs[i]? = some x, fun i H v H' => ∃ p, H p = none ∧ v = .ref p ∧ ∀ xs, SkQ k K H a xs → ∃ x, xs[i]? = some x ∧ H' = upd H p (.tup [.int (i : Nat), x]), fun i H => ∃ xs, SkQ k K H a xs ∧ xs.length = i⟩
theorem turn_enumK {P : Program} {w : World} {K : PySem.W.Frag} {es : List Expr} {n : Nat} {pos : Pos} (k : Sk) (e it a : Addr) (hei : e ≠ it) :
    Turn P w K (.Tuple es n pos) (ItN k K a) [e, it] e (fun i h => (∃ old, IsEnum h e it (i : Nat) old) ∧ SkIt k h it a i) where
  mem := by simp
  obj := fun i h st b hb => by
    obtain ⟨⟨old, he⟩, g⟩ := st
    rcases List.mem_cons.mp hb with rfl | hb
    · exact ⟨_, he, fun v q => nomatch (show Data.fields _ = Data.cell v from q)⟩
    · obtain rfl : b = it := by simpa using hb
      exact sk_obj g
  keep := fun i h h' st kk => by
    obtain ⟨⟨old, he⟩, g⟩ := st
    exact ⟨⟨old, kk e (by simp) _ he⟩, sk_keep g fun o => kk it (by simp) o⟩
  item := by
    intro X hP hw hK hc i pins s σ H E I hf st hg
    subst hP hw hK
    obtain ⟨⟨old, he⟩, g⟩ := st
    obtain ⟨xs, x, hq, hx⟩ := hg
    obtain ⟨its, rv, p, hz⟩ := I.sk hq
    obtain ⟨u, hu, ru⟩ := rv.get hx
    have hlt : i < its.toArray.size := by
      rw [List.size_toArray]
      exact (List.getElem?_eq_some_iff.mp hu).1
    have hea : e ≠ a := fun q => by
      rcases sk_cls p (q ▸ he) with z | z
      · exact ty_ne (by decide) z
      · exact ty_ne (by decide) z
    have D := dr_sk (prog := X.prog) (w := X.w) (A := X.A.in1) k (I.ok.hd hc) it a (sk_ne g p) its.toArray
    refine wpAny_pyNext_enum_itemD D he ⟨g, p⟩ hlt hei (by simp [hei, hea]) fun v h1 tk hv ho st1 hT hsz hk => ⟨_, rfl, ?_⟩
    obtain rfl : v = u := by
      have : its.toArray[i]? = some u := by simpa using hu
      exact Option.some.inj (hv.symm.trans this)
    refine wpAny_letOwnedTupleGo_enum ho fun h2 he2 hs2 => ?_
    have hTe : s.heap.objs.size ≠ e := fun q => absurd (Heap.lt_size he) (by rw [← q]; exact Nat.lt_irrefl _)
    refine ⟨.ref s.heap.objs.size, upd H s.heap.objs.size (.tup [.int (i : Nat), x]), I.turnedT (ch := [e, it]) hf (fun b o hb q => ?_) (Nat.le_refl _) ?_, rfl, ⟨_, I.hok.fresh (Nat.le_refl _), rfl, fun ys hy => ⟨x, by rw [I.sk_inj hy hq]; exact hx, rfl⟩⟩, ⟨⟨_, he2⟩, ?_⟩, fun b hb => ?_⟩
    · simp only [List.mem_cons, List.not_mem_nil, or_false, not_or] at hb
      exact (hs2.2 b hb.1).trans (hk b o hb.1 hb.2 q)
    · exact ⟨by show 2 ≤ sizeLine; decide, [.int (i : Nat) tk, v], .cons ⟨_, rfl⟩ (.cons ru .nil), ⟨_, (hs2.2 _ hTe).trans hT, rfl, _, rfl, rfl⟩⟩
    · exact sk_keep st1.1 fun o q => (hs2.2 it hei.symm).trans q
    · have hlt : b < s.heap.objs.size := by
        rcases List.mem_cons.mp hb with q | q
        · rw [q]; exact Heap.lt_size he
        · obtain ⟨o, ho1, _⟩ := sk_obj g
          rw [show b = it by simpa using q]; exact Heap.lt_size ho1
      rw [upd_ne (Nat.ne_of_lt hlt)]
      exact (hf b hb).1
  done := by
    intro X hP hw hK hc i pins s σ H E I hf st hg
    subst hP hw hK
    obtain ⟨⟨old, he⟩, g⟩ := st
    obtain ⟨xs, hq, hx⟩ := hg
    obtain ⟨its, rv, p, hz⟩ := I.sk hq
    have hl := rv.length
    have D := dr_sk (prog := X.prog) (w := X.w) (A := X.A.in1) k (I.ok.hd hc) it a (sk_ne g p) its.toArray
    have hst : SkIt k s.heap it a its.toArray.size ∧ SkOk k s.heap a its.toArray := ⟨by rw [List.size_toArray, ← hl, hx]; exact g, p⟩
    exact wpAny_pyNext_enum_endD D he hst fun h1 eb => ⟨rfl, I.turnedL (t' := s.toks) (ch := [e, it]) hf fun b o hb q => eb b o (fun r => hb (by simp [r])) q⟩
  self := fun _ _ _ _ _ st h => let ⟨⟨_, he⟩, _⟩ := st; wpAny_pyIter_enum he h
abbrev eT1 (h : Heap) (a : Addr) : Heap := h.push { cls := .type "tuple_iterator", data := .fields #[.ref a, .int 0 0] }
abbrev eT2 (h : Heap) (a : Addr) : Heap := (eT1 h a).push { cls := .type "enumerate", data := .fields #[.none, .bool false, .ref h.objs.size, rawInt 0, .none, .none] }
open AutoSeq1 (wpAny_loadPart') in
set_option maxHeartbeats 1000000 in
theorem meets_enT (a : Addr) (its : Array Value) (n : Nat) (dd : Option Addr) (sl : Array (Option Value)) :
    Meets (Builtin.«enumerate.__new__» ⟨[.type "enumerate", .ref a], []⟩) (fun _ R s => s.heap.get? a = some ⟨.type "tuple", dd, .seq its n, sl⟩ ∧ R (.ok (.ret (.ref (eT1 s.heap a).objs.size))) { s with heap := eT2 s.heap a }) :=
  .of_wp fun prog w A R s h => by
    obtain ⟨hp, g, d, tk, os⟩ := s; obtain ⟨hl, h⟩ := h
    have hsub := sub_enumerate
    have hT : Heap.IsTuple (Shared.heap ⟨hp, g, d, tk, os⟩) a its := ⟨_, hl, rfl, n, rfl⟩
    wp_walk using wpAny_loadPart' hl
    refine wpAny_stack_any fun st => wpAny_pure ?_
    split
    · rename_i c _ _ _ _ _
      cases (c == Value.type "enumerate") <;> (wp_walk using wpAny_loadPart' hl, wpAny_pyIter_tuple hT; exact ⟨_, rfl, h⟩)
    · wp_walk using wpAny_loadPart' hl, wpAny_pyIter_tuple hT
      exact ⟨_, rfl, h⟩
theorem call_enT {prog : Program} {w : World} {A : Around} {E : Value → Shared → Prop} {s : Shared} {a : Addr} {its : Array Value} {Q : Value → Shared → Prop} (hT : s.heap.IsTuple a its)
    (h : ∀ h', IsEnum h' (s.heap.objs.size + 1) s.heap.objs.size 0 .none → h'.IsTupleIter s.heap.objs.size a 0 → h'.objs.size = s.heap.objs.size + 2 → (∀ b o, s.heap.get? b = some o → h'.get? b = some o) → Q (.ref (s.heap.objs.size + 1)) { s with heap := h' }) :
    wpAny (model prog w) A (call (.type "enumerate") [.ref a]) Q E s := by
  obtain ⟨⟨c, dd, dt, sl⟩, hl, hc, n, hd⟩ := hT
  replace hc : c = .type "tuple" := hc
  replace hd : dt = .seq its n := hd
  subst hc hd
  refine callType_new F.called_enumerate (by decide) (F.typeCall_enumerate_1 _) (F.newCall_enumerate_1 _) (fun obj => F.args_object_init_2 obj _) F.entry_enumerate_new (meets_enT a its n dd sl) ⟨hl, ?_⟩
  have hz : (eT1 s.heap a).objs.size = s.heap.objs.size + 1 := Heap.size_push ..
  have he : IsEnum (eT2 s.heap a) (eT1 s.heap a).objs.size s.heap.objs.size 0 .none := Heap.get?_push_size _ rfl
  rw [hz] at he
  show _ ∧ _
  rw [hz]
  exact ⟨⟨_, he, rfl⟩, h _ he ⟨_, Heap.get?_push_of_some _ (Heap.get?_push_size _ rfl), rfl, rfl⟩ (by rw [Heap.size_push, hz]) fun b o x => Heap.get?_push_of_some _ (Heap.get?_push_of_some _ x)⟩
theorem call_enK {prog : Program} {w : World} {A : Around} {E : Value → Shared → Prop} {s : Shared} (k : Sk) {a : Addr} {its : Array Value} {Q : Value → Shared → Prop} (p : SkOk k s.heap a its)
    (h : ∀ h', IsEnum h' (s.heap.objs.size + 1) s.heap.objs.size 0 .none → SkIt k h' s.heap.objs.size a 0 → (∀ b o, s.heap.get? b = some o → h'.get? b = some o) → Q (.ref (s.heap.objs.size + 1)) { s with heap := h' }) :
    wpAny (model prog w) A (call (.type "enumerate") [.ref a]) Q E s := by
  cases k with
  | tp => exact call_enT p fun h' h1 h2 _ h4 => h h' h1 h2 h4
  | ls => exact call_enumerate_list p fun h' h1 h2 _ h4 => h h' h1 h2 h4
section
variable {X : Cx}
def iEnumK (k : Sk) (K : PySem.W.Frag) (ta : TA) : TI := fun σ H R => ta σ H fun vs H1 => ∃ a, vs = [.ref a] ∧ (∃ xs, SkQ k K H1 a xs) ∧ R (ItN k K a) H1
theorem pi_enumK (k : Sk) {es : List Expr} {n : Nat} {tp : Pos} {a : Expr} {ta : TA} {p pos : Pos} (hg : Gl X "enumerate") (hm : X.mg "enumerate" = none) (ha : PA X [a] ta) (hs : starEach [a] X.env = [(false, eval a X.env)] := by rfl) :
    PI X (.Tuple es n tp) (.Call (.Name "enumerate" p) [a] [] pos) (iEnumK k X.K ta) := by
  intro pins s σ H R I h
  refine Call_ (ld_blt I hg hm boot_enumerate (PyProof.Rows.callWith_type1 (thn (ha pos pins s σ H _ I h) fun us s1 ⟨vs, H1, I1, r1, aa, e, ⟨xs, hq⟩, q⟩ => ?_) hs rfl))
  subst e
  obtain ⟨u, rfl, rfl⟩ := vals1 r1
  obtain ⟨its, rv, po, hz⟩ := I1.sk hq
  refine call_enK k po fun h1 he hst hk => ?_
  refine wpAny_pyIter_enum (s := { s1 with heap := h1 }) he ?_
  refine ⟨_, [s1.heap.objs.size + 1, s1.heap.objs.size], _, _, H1, rfl, I1.kept (t' := s1.toks) hk, turn_enumK k _ _ aa (Nat.succ_ne_self _), ⟨⟨_, he⟩, hst⟩, fun b hb => ?_, q⟩
  have hb2 : s1.heap.objs.size ≤ b := by
    simp only [List.mem_cons, List.not_mem_nil, or_false] at hb
    rcases hb with rfl | rfl
    · exact Nat.le_succ _
    · exact Nat.le_refl _
  exact I1.fpOk hb2 (I1.hok.fresh hb2)
end
end L2

set_option Elab.async false
set_option linter.all false
set_option maxRecDepth 100000
/-! lists and tuples side by side -/
namespace L2
open PySem PySem.Spec PyProof.Rows
open Builtin Builtin.Str
section
variable {prog : Program} {w : World} {A : Around} {E : Value → Shared → Prop} {s : Shared} {z TI TO i1 i2 : Addr} {k n1 n2 : Nat} {f1 f2 : List Addr} {P1 P2 : Nat → Value → Prop} {S1 S2 : Nat → Heap → Prop} {a b : Value}
end
section
variable {X : Cx}
end
end L2

set_option Elab.async false
set_option linter.all false
set_option maxRecDepth 100000
/-! a comprehension over two texts side by side -/
namespace L2
open PySem PySem.Spec PyProof.Rows
/-- a loop in a def that may raise -/
theorem own_gen {P : Program} {w : World} {K : PySem.W.Frag} {mg : Str → Option Value} {base : Heap} {N : List Str} {qual : Str} {scope : Scope} {f : Addr} {cd : Value} {A : Around} {outer : List Env} {s : Shared} {H : Hp} {E : XK} :
    PassesOwn (model (cxOf (CXE P w) P w K mg base N qual scope f cd A outer s H E).prog (cxOf (CXE P w) P w K mg base N qual scope f cd A outer s H E).w) (cxOf (CXE P w) P w K mg base N qual scope f cd A outer s H E).A (cxOf (CXE P w) P w K mg base N qual scope f cd A outer s H E).env (cxOf (CXE P w) P w K mg base N qual scope f cd A outer s H E).xe := by
  dsimp only [cxOf]
  passes_own
end L2

set_option Elab.async false
set_option linter.all false
set_option maxRecDepth 100000
/-! walks of a known length, told once for all of them -/
namespace L2
open PySem PySem.Spec PyProof.Rows
structure Fix (J : It) (n : Nat) (Ok : Hp → Prop) (item : Nat → Hp → V → Hp → Prop) : Prop where
  go : ∀ i H, Ok H → i < n → J.go i H
  stop : ∀ H, Ok H → J.stop n H
  yld : ∀ i H v H', Ok H → i < n → J.yld i H v H' → item i H v H'
section
variable {J : It} {n : Nat} {Ok : Hp → Prop} {item : Nat → Hp → V → Hp → Prop}
theorem for_fix {g : TG} {tb : TS} {D : Ends} {σ : St} {H : Hp} (F : Fix J n Ok item) (Pv : Nat → St → Hp → Prop) (h0 : Pv 0 σ H) (ho : ∀ i σ H, i ≤ n → Pv i σ H → Ok H)
    (hs : ∀ i v σ H H', i < n → Pv i σ H → item i H v H' → g v σ H' fun σ2 H2 => tb { D with nx := Pv (i + 1), ct := Pv (i + 1), bk := D.nx } σ2 H2) (hd : ∀ σ H, Pv n σ H → D.nx σ H) :
    ∃ W : Nat → Nat → St → Hp → Prop, (∃ m, W 0 m σ H) ∧ ∀ i m σ H, W i m σ H →
      (J.stop i H ∧ D.nx σ H) ∨ (J.go i H ∧ ∃ N : St → Hp → Prop, (∀ σ' H', N σ' H' → ∃ m', m' < m ∧ W (i + 1) m' σ' H') ∧ ∀ x H', J.yld i H x H' → g x σ H' fun σ2 H2 => tb { D with nx := N, ct := N, bk := D.nx } σ2 H2) := by
  refine ⟨fun i m σ H => m = n - i ∧ i ≤ n ∧ Pv i σ H, ⟨n, by simp, Nat.zero_le _, h0⟩, ?_⟩
  rintro i m σ H ⟨rfl, hi, p⟩
  have ok := ho i σ H hi p
  by_cases hlt : i < n
  · exact .inr ⟨F.go i H ok hlt, Pv (i + 1), fun σ' H' p' => ⟨n - (i + 1), by omega, rfl, hlt, p'⟩, fun x H' y => hs i x σ H H' hlt p (F.yld i H x H' ok hlt y)⟩
  · have e : i = n := by omega
    subst e
    exact .inl ⟨F.stop H ok, hd σ H p⟩
theorem comp_fix {NB : List Str} {wi : TI} {g : TG} {tt : TT} {te : TE} {Q : VK} {σ : St} {H : Hp} (F : Fix J n Ok item) (Pv : Nat → List V → Hp → Prop) (h : ∀ R : It → Hp → Prop, (∀ H1, Pv 0 [] H1 → R J H1) → wi σ H R) (ho : ∀ i vs H, i ≤ n → Pv i vs H → Ok H ∧ vs.length ≤ i)
    (hs : ∀ i v vs H H', i < n → Pv i vs H → item i H v H' → g v (List.replicate NB.length none) H' fun σ2 H2 => tt σ2 H2 fun b H3 => if b = true then te σ2 H3 fun v H4 => Pv (i + 1) (vs ++ [v]) H4 else Pv (i + 1) vs H3)
    (hd : ∀ vs H, Pv n vs H → ∀ p, H p = none → Q (.ref p) (upd H p (.lst vs))) (hz : n < sizeLine) : tComp NB wi g tt te σ H Q := by
  refine h _ fun H1 h0 => ⟨fun i m vs H => m = n - i ∧ i ≤ n ∧ Pv i vs H, ⟨n, by simp, Nat.zero_le _, h0⟩, ?_⟩
  rintro i m vs H ⟨rfl, hi, p⟩
  obtain ⟨ok, hv⟩ := ho i vs H hi p
  by_cases hlt : i < n
  · exact .inr ⟨F.go i H ok hlt, by omega, Pv (i + 1), fun vs' H' p' => ⟨n - (i + 1), by omega, rfl, hlt, p'⟩, fun x H' y => hs i x vs H H' hlt p (F.yld i H x H' ok hlt y)⟩
  · have e : i = n := by omega
    subst e
    exact .inl ⟨F.stop H ok, hd vs H p⟩
theorem compF_fix {nn : Nat} {fi : List Nat} {fv : List V} {wi : TI} {g : TG} {tt : TT} {te : TE} {Q : VK} {σ : St} {H : Hp} (F : Fix J n Ok item) (Pv : Nat → List V → Hp → Prop) (h : ∀ R : It → Hp → Prop, (∀ H1, Pv 0 [] H1 → R J H1) → wi σ H R) (hfv : fi.map (fun i => σ[i]?) = fv.map (fun v => some (some v))) (ho : ∀ i vs H, i ≤ n → Pv i vs H → Ok H ∧ vs.length ≤ i)
    (hs : ∀ i v vs H H', i < n → Pv i vs H → item i H v H' → g v (List.replicate nn none ++ fv.map some) H' fun σ2 H2 => σ2.drop nn = fv.map some ∧ tt σ2 H2 fun b H3 => if b = true then te σ2 H3 fun v H4 => Pv (i + 1) (vs ++ [v]) H4 else Pv (i + 1) vs H3)
    (hd : ∀ vs H, Pv n vs H → ∀ p, H p = none → Q (.ref p) (upd H p (.lst vs))) (hz : n < sizeLine) : tCompF nn fi wi g tt te σ H Q := by
  refine h _ fun H1 h0 => ⟨fv, hfv, fun i m vs H => m = n - i ∧ i ≤ n ∧ Pv i vs H, ⟨n, by simp, Nat.zero_le _, h0⟩, ?_⟩
  rintro i m vs H ⟨rfl, hi, p⟩
  obtain ⟨ok, hv⟩ := ho i vs H hi p
  by_cases hlt : i < n
  · exact .inr ⟨F.go i H ok hlt, by omega, Pv (i + 1), fun vs' H' p' => ⟨n - (i + 1), by omega, rfl, hlt, p'⟩, fun x H' y => hs i x vs H H' hlt p (F.yld i H x H' ok hlt y)⟩
  · have e : i = n := by omega
    subst e
    exact .inl ⟨F.stop H ok, hd vs H p⟩
end
theorem at_lt {xs : List V} {i : Nat} (h : i < xs.length) : ∃ x, xs[i]? = some x := ⟨_, List.getElem?_eq_getElem h⟩
theorem fixT {K : PySem.W.Frag} {a : Addr} {xs : List V} : Fix (Itt K a) xs.length (fun H => SqT K H a xs) (fun i H v H' => H' = H ∧ xs[i]? = some v) :=
  ⟨fun i H ok h => let ⟨x, e⟩ := at_lt h; ⟨xs, x, ok, e⟩, fun H ok => ⟨xs, ok, Nat.le_refl _⟩, fun i H v H' ok _ y => ⟨y.1, y.2 _ ok⟩⟩
theorem fixL {K : PySem.W.Frag} {a : Addr} {xs : List V} : Fix (Itl K a) xs.length (fun H => SqL K H a xs) (fun i H v H' => H' = H ∧ xs[i]? = some v) :=
  ⟨fun i H ok h => let ⟨x, e⟩ := at_lt h; ⟨xs, x, ok, e⟩, fun H ok => ⟨xs, ok, Nat.le_refl _⟩, fun i H v H' ok _ y => ⟨y.1, y.2 _ ok⟩⟩
theorem fixR {lo : Int} {n : Nat} : Fix (Itr lo n) n (fun _ => True) (fun i H v H' => H' = H ∧ v = .int (lo + i)) := ⟨fun i H _ h => h, fun H _ => Nat.le_refl _, fun i H v H' _ _ y => y⟩
theorem fixN {k : Sk} {K : PySem.W.Frag} {a : Addr} {xs : List V} : Fix (ItN k K a) xs.length (fun H => SkQ k K H a xs) (fun i H v H' => ∃ p x, H p = none ∧ v = .ref p ∧ xs[i]? = some x ∧ H' = upd H p (.tup [.int (i : Nat), x])) :=
  ⟨fun i H ok h => let ⟨x, e⟩ := at_lt h; ⟨xs, x, ok, e⟩, fun H ok => ⟨xs, ok, rfl⟩, fun i H v H' ok _ ⟨p, hp, e, y⟩ => let ⟨x, h1, h2⟩ := y xs ok; ⟨p, x, hp, e, h1, h2⟩⟩
end L2

set_option Elab.async false
set_option linter.all false
set_option maxRecDepth 100000
/-! all(list), set(texts), tuple.index -/
namespace L2
open PySem PySem.Spec PyProof.Rows
section
variable {X : Cx}
end
section
variable {prog : Program} {w : World} {A : Around} {R : Result → Shared → Prop} {J : Addr} {fp wr : List Addr} {G : Array GenState → Array GenState → Prop} {n : Nat} {P : Nat → Value → Prop} {St : Nat → Shared → Prop}
end
end L2

set_option Elab.async false
set_option linter.all false
set_option maxRecDepth 100000
namespace L2
open PySem PySem.Spec PyProof.Rows
section
variable {X : Cx} {pins : List (Addr × Obj)} {σ : List (Option V)} {H : Hp} {s : Shared} {h' : Heap}
end
section
variable {X : Cx}
end
end L2

set_option Elab.async false
set_option linter.all false
set_option maxRecDepth 100000
namespace L2
open PySem PySem.Spec PyProof.Rows
open AutoSeq1 (wpAny_loadPart')
section
variable {X : Cx}
end
end L2

set_option Elab.async false
set_option linter.all false
set_option maxRecDepth 100000
/-! ranges that go down: range(i, j, -1), reversed(range(i, j)) -/
namespace L2
open PySem PySem.Spec PyProof.Rows
theorem fixR3 {lo c : Int} {n : Nat} : Fix (Itr3 lo c n) n (fun _ => True) (fun i H v H' => H' = H ∧ v = .int (lo + i * c)) := ⟨fun i H _ h => h, fun H _ => Nat.le_refl _, fun i H v H' _ _ y => y⟩
section
variable {X : Cx} {tg : Expr}
end
section
variable {prog : Program} {w : World} {A : Around} {E : Value → Shared → Prop} {s : Shared}
theorem sub_ri_reversed : isSubtype (.type "range_iterator") (.type "reversed") = pure false := by rw [isSubtype_type]; kernel_rfl
abbrev rvO (i j : Int) : Obj := { cls := .type "range_iterator", data := .fields #[rawInt (i + (Builtin.Range.rangeSize i j 1 - 1) * 1), rawInt (Builtin.Range.rangeSize i j 1), rawInt (-1)] }
theorem rng_rev {r : Addr} {i j : Int} {t u v : Tok} {Q : Value → Shared → Prop} (hr : IsRange s.heap r i j 1 t u v) (b : -(2 ^ 40) ≤ i ∧ i < 2 ^ 40 ∧ -(2 ^ 40) ≤ j ∧ j < 2 ^ 40)
    (q : Q (.ref s.heap.objs.size) { s with heap := s.heap.push (rvO i j) }) : wpAny (model prog w) A (call (.builtin "range.__reversed__") [.ref r]) Q E s := by
  have hT : s.TypeIs (.ref r) "range" := ⟨_, hr, rfl⟩
  refine wpAny_call_entry F.slot_range_reversed hT F.entry_range_reversed ?_ (F.args_range_reversed_1 _)
  have hf : ∀ x : Int, -(2 ^ 41) ≤ x → x ≤ 2 ^ 41 → Builtin.Range.rangeFitsLong x = true := fun x h1 h2 => by
    unfold Builtin.Range.rangeFitsLong
    rw [decide_eq_true (show -(2 ^ 63) ≤ x by omega), decide_eq_true (show x < 2 ^ 63 by omega)]
    rfl
  have hn : 0 ≤ Builtin.Range.rangeSize i j 1 ∧ Builtin.Range.rangeSize i j 1 ≤ 2 ^ 41 := by
    unfold Builtin.Range.rangeSize
    rw [if_pos (by decide)]
    split
    · rw [Int.ediv_one]; omega
    · omega
  unfold Builtin.«range.__reversed__»
  refine wpAny_bind (wpAny_of_eq (a := Value.ref r) rfl ?_)
  unfold Builtin.Range.rangeFields
  refine wpAny_bind (wpAny_bind (wpAny_field hr rfl (x := .int i t) rfl ?_)); refine wpAny_bind (wpAny_of_eq (a := some i) rfl ?_)
  refine wpAny_bind (wpAny_field hr rfl (x := .int j u) rfl ?_); refine wpAny_bind (wpAny_of_eq (a := some j) rfl ?_)
  refine wpAny_bind (wpAny_field hr rfl (x := .int 1 v) rfl ?_); refine wpAny_bind (wpAny_of_eq (a := some 1) rfl (wpAny_pure ?_))
  dsimp only
  rw [hf i (by omega) (by omega), hf j (by omega) (by omega), hf 1 (by decide) (by decide), hf (-1) (by decide) (by decide), hf (i - 1) (by omega) (by omega), hf (Builtin.Range.rangeSize i j 1) (by omega) (by omega)]
  exact wpAny_bind (wpAny_newObj_type (wpAny_pure ⟨_, rfl, q⟩))
theorem code_rev_rng {r : Addr} {i j : Int} {t u v : Tok} {Q₁ : Value → Shared → Prop} (hr : IsRange s.heap r i j 1 t u v) (b : -(2 ^ 40) ≤ i ∧ i < 2 ^ 40 ∧ -(2 ^ 40) ≤ j ∧ j < 2 ^ 40)
    (q : Q₁ (.ref s.heap.objs.size) { s with heap := s.heap.push (rvO i j) }) : codeAny (model prog w) A (.call (.builtin "reversed.__new__") ⟨[.type "reversed", .ref r], []⟩) (wants Q₁ E) s := by
  have hT : s.TypeIs (.ref r) "range" := ⟨_, hr, rfl⟩
  refine codeAny_of_tree ?_
  show wpAny _ A.in1 (do checkBuiltinCall "reversed.__new__" ⟨[.type "reversed", .ref r], []⟩; again (.builtin "reversed.__new__" ⟨[.type "reversed", .ref r], []⟩)) _ _ s
  refine wpAny_bind (wpAny_of_eq (F.newCall_reversed_1 _) (wpAny_pure ⟨plainId_quiet F.plain_reversed_new _, codeAny_builtin F.entry_reversed_new ?_⟩)); rw [Around.under_plainId F.plain_reversed_new _]
  unfold Builtin.«reversed.__new__»; refine wpAny_bind (wpAny_of_eq (newClass_reversed _) ?_)
  try dsimp only
  refine wpAny_bind (wpAny_of_eq (a := ()) (by first | rfl | kernel_rfl) ?_); refine wpAny_bind (wpAny_of_eq (a := ()) (by first | rfl | kernel_rfl) ?_)
  try dsimp only
  refine wpAny_bind (wpAny_specialOf hT F.slot_range_reversed.lookup ?_)
  try dsimp only
  refine wpAny_bind (wpAny_of_eq (F.slot_range_reversed.bind _) ?_)
  try dsimp only
  first
  | rw [if_neg (show ¬ ((Value.builtin "range.__reversed__" == Value.none) = true) from Bool.false_ne_true)]
  | (show wpAny _ _ (if (Value.builtin "range.__reversed__" == Value.none) = true then _ else _) _ _ _; rw [if_neg (show ¬ ((Value.builtin "range.__reversed__" == Value.none) = true) from Bool.false_ne_true)])
  refine wpAny_bind (wpAny_rule ?_)
  refine wpAny_bind (m := runValue (.call (.builtin "range.__reversed__") ⟨[.ref r], []⟩)) (show wpAny _ _ (call (.builtin "range.__reversed__") [.ref r]) _ _ _ from rng_rev hr b ?_)
  first
  | exact wpAny_pure q
  | exact wpAny_bind (wpAny_pure (wpAny_pure q))
theorem call_rev_rng {r : Addr} {i j : Int} {t u v : Tok} {Q : Value → Shared → Prop} (hr : IsRange s.heap r i j 1 t u v) (b : -(2 ^ 40) ≤ i ∧ i < 2 ^ 40 ∧ -(2 ^ 40) ≤ j ∧ j < 2 ^ 40)
    (q : Q (.ref s.heap.objs.size) { s with heap := s.heap.push (rvO i j) }) : wpAny (model prog w) A (call (.type "reversed") [.ref r]) Q E s := by
  refine callType_other (U := "range_iterator") (Q₁ := fun obj s₁ => obj = .ref s.heap.objs.size ∧ s₁ = { s with heap := s.heap.push (rvO i j) }) (by decide +kernel) F.create_reversed ⟨_, _, F.mro_reversed⟩ F.made_reversed sub_ri_reversed (F.typeCall_reversed_1 _) (code_rev_rng hr b ⟨rfl, rfl⟩) ?_
  rintro obj s₁ ⟨rfl, rfl⟩
  exact ⟨⟨_, Heap.get?_push_size _ rfl, rfl⟩, q⟩
end
section
variable {X : Cx} {tg : Expr}
def iRev (ta : TA) : TI := fun σ H R => ta σ H fun vs H1 => ∃ i j : Int, vs = [.int i, .int j] ∧ (-(2 ^ 40) ≤ i ∧ i < 2 ^ 40 ∧ -(2 ^ 40) ≤ j ∧ j < 2 ^ 40) ∧ R (Itr3 (i + ((j - i).toNat : Nat) - 1) (-1) (j - i).toNat) H1
theorem size_up (i j : Int) : Builtin.Range.rangeSize i j 1 = (((j - i).toNat : Nat) : Int) := by
  unfold Builtin.Range.rangeSize
  rw [if_pos (by decide)]
  split <;> simp <;> omega
end
end L2

set_option Elab.async false
set_option linter.all false
set_option maxRecDepth 100000
/-! xs[a:] = ys, texts compared, d[..] as a target, things within things that stay -/
namespace L2
open PySem PySem.Spec PyProof.Rows
section
variable {prog : Program} {w : World} {A : Around} {E : Value → Shared → Prop} {s : Shared}
end
section
variable {X : Cx}
end
/-! what is deep stays while lists and dicts change -/
theorem Deep.updL {H : Hp} {l : Addr} {o o' : HO} {v : V} {d : Dv} (h : Deep H v d) (e : H l = some o) (n1 : ∀ ys, o ≠ .tup ys) : Deep (upd H l o') v d :=
  h.keep (fun b ys q => by rw [upd_ne (ne_of q e fun z => n1 ys z.symm)]; exact q)
theorem Deeps.updL {H : Hp} {l : Addr} {o o' : HO} {v : List V} {d : List Dv} (h : Deeps H v d) (e : H l = some o) (n1 : ∀ ys, o ≠ .tup ys) : Deeps (upd H l o') v d :=
  h.keep (fun b ys q => by rw [upd_ne (ne_of q e fun z => n1 ys z.symm)]; exact q)
theorem Deep.str' {H : Hp} {v : V} {x : Str} (h : Deep H v (.str x)) : v = .str x := by cases h; rfl
theorem Deep.int' {H : Hp} {v : V} {i : Int} (h : Deep H v (.int i)) : v = .int i := by cases h; rfl
theorem Deep.tup' {H : Hp} {v : V} {ds : List Dv} (h : Deep H v (.tup ds)) : ∃ a xs, v = .ref a ∧ H a = some (.tup xs) ∧ Deeps H xs ds := by cases h with | tup h t => exact ⟨_, _, rfl, h, t⟩
/-! rules in a block: the written part by hand -/
section
variable {X : Cx} {K0 : PySem.W.Frag}
end
end L2

set_option Elab.async false
set_option linter.all false
set_option maxRecDepth 100000
/-! tuples: the whole cut out, the empty one ahead; rules that do not name the written part -/
namespace L2
open PySem PySem.Spec PyProof.Rows
open AutoSeq1 (wpAny_loadPart')
section
variable {prog : Program} {w : World} {A : Around} {E : Value → Shared → Prop} {s : Shared}
theorem tup_add0 (t b : Addr) (ys : Array Value) (n n2 : Nat) (dd dd2 : Option Addr) (sl sl2 : Array (Option Value)) :
    Meets (Builtin.«tuple.__add__» ⟨[.ref t, .ref b], []⟩) (fun _ R s => s.heap.get? t = some ⟨.type "tuple", dd, .seq #[] n, sl⟩ ∧ s.heap.get? b = some ⟨.type "tuple", dd2, .seq ys n2, sl2⟩ ∧ R (.ok (.ret (.ref b))) s) :=
  .of_wp fun prog w A R s h => by
    obtain ⟨hp, g, d, tk, os⟩ := s; obtain ⟨hl, hb, h⟩ := h
    have f2 := AutoSeq1.sub_tuple_tuple
    wp_walk using wpAny_loadPart' hl, wpAny_loadPart' hb
    exact ⟨_, rfl, h⟩
theorem cat_tup0 {t b : Addr} {ws : List Value} {Q : Value → Shared → Prop} (ht : IsTup s.heap t #[]) (hb : IsTup s.heap b ws.toArray) (q : Q (.ref b) s) : wpAny (model prog w) A (binaryOp .Add (.ref t) (.ref b)) Q E s := by
  obtain ⟨⟨cls, dd, data, sl⟩, ho, hc, n, hd⟩ := id ht
  obtain ⟨⟨cls2, dd2, data2, sl2⟩, ho2, hc2, n2, hd2⟩ := id hb
  simp only at hc hd hc2 hd2
  subst hc hd hc2 hd2
  exact concat_meets ⟨_, ho, rfl⟩ ⟨_, ho2, rfl⟩ noFill_tuple_add seq_tuple_add PySem.F.slot_tuple_add PySem.F.entry_tuple_add (PySem.F.args_tuple_add_2 _ _) (tup_add0 t b ws.toArray n n2 dd dd2 sl sl2) ⟨ho, ho2, q⟩
open HT in
theorem tup_whole {t sl : Addr} {its : Array Value} {vl vu : Value} {lo hi : Option Int} {Q : Value → Shared → Prop} (ht : IsTup s.heap t its) (hs : s.heap.IsSliceOf sl vl vu .none) (pl : IsPart vl lo) (pu : IsPart vu hi) (hw : sIx its.size 0 lo = 0 ∧ sIx its.size its.size hi = its.size) (q : Q (.ref t) s) :
    wpAny (model prog w) A (getItem (.ref t) (.ref sl)) Q E s := by
  obtain ⟨os, hos, hcs, hds⟩ := id hs
  have hTs : s.TypeIs (.ref sl) "slice" := ⟨os, hos, hcs⟩
  unfold getItem
  try with_reducible refine wpAny_holding ?_
  first | refine wpAny_bind (wpAny_pure ?_) | skip
  refine wpAny_bind (wpAny_sequenceKey ht.typeIs (by decide) ?_)
  refine wpAny_bind (wpAny_callSpecial?_slot (name := Str.ofString "__getitem__") ht.typeIs PyProof.Rows.slot_tuple_getitem (wpAny_call_entry PyProof.Rows.slot_tuple_getitem ht.typeIs entry_tuple_getitem ?_ (args_tuple_getitem _ _)))
  show wpAny _ _ (Builtin.Tuple.tupleItemsOf (.ref t) >>= _) _ _ s; refine wpAny_bind (tupleItemsOf_ ht ?_)
  refine wpAny_bind (wpAny_typeOf hTs ?_); rw [if_pos (by decide)]; refine wpAny_bind (sliceApplied_gen hs pl pu ?_)
  rw [hw.1, hw.2]
  show wpAny _ _ (if (((0 : Nat) : Int) == 0 && (1 : Int) == 1 && (its.size - 0) == its.size) = true then _ else _) _ _ s; rw [if_pos (by simp)]
  obtain ⟨⟨cls, dd, data, sl'⟩, ho, hc, n, hd⟩ := id ht
  simp only at hc hd
  subst hc hd
  wp_walk using wpAny_loadPart' ho
  exact ⟨_, rfl, wpAny_pure q⟩
end
section
variable {X : Cx}
theorem op_catT0 : OpR X (binaryOp .Add) (fun x y H Q => ∃ a b ys, x = .ref a ∧ y = .ref b ∧ Rd H a (.tup []) ∧ Rd H b (.tup ys) ∧ Q (.ref b) H) := by
  intro pins s σ H x y v u Q I rx ry h
  obtain ⟨a, b, ys, rfl, rfl, ha, hb, q⟩ := h
  cases rx
  cases ry
  obtain ⟨its, r1, p1, _⟩ := I.tuple (.inl ha)
  obtain ⟨its2, r2, p2, _⟩ := I.tuple (.inl hb)
  obtain rfl : its = [] := r1.nil_iff.mpr rfl
  exact cat_tup0 p1 p2 ⟨.ref b, H, I, rfl, q⟩
/-- t + u, whatever they hold -/
def rCatR : R2 := fun x y H Q => ∃ a b xs ys, x = .ref a ∧ y = .ref b ∧ Rd H a (.tup xs) ∧ Rd H b (.tup ys) ∧ xs.length + ys.length ≤ sizeLine ∧ (xs = [] → Q (.ref b) H) ∧ (xs ≠ [] → ys = [] → Q (.ref a) H) ∧ (xs ≠ [] → ys ≠ [] → ∀ p, H p = none → Q (.ref p) (upd H p (.tup (xs ++ ys))))
theorem op_catR : OpR X (binaryOp .Add) rCatR := by
  intro pins s σ H x y v u Q I rx ry h
  obtain ⟨a, b, xs, ys, rfl, rfl, ha, hb, hz, q0, q1, q2⟩ := h
  by_cases hx : xs = []
  · subst hx
    exact op_catT0 pins s σ H _ _ v u Q I rx ry ⟨a, b, ys, rfl, rfl, ha, hb, q0 rfl⟩
  · exact op_catT pins s σ H _ _ v u Q I rx ry ⟨a, b, xs, ys, rfl, rfl, .inl ha, .inl hb, hx, hz, q1 hx, q2 hx⟩
theorem ix_tupR : IxR X (fun x y H Q => ∃ p xs i v, x = .ref p ∧ y = .int i ∧ Rd H p (.tup xs) ∧ atI xs i = some v ∧ Q v H) := fun value slice pins s σ H x y v u Q I rx ry ⟨p, xs, i, z, e1, e2, hq, he, q⟩ hs => ix_tup value slice pins s σ H x y v u Q I rx ry ⟨p, xs, i, z, e1, e2, .inl hq, he, q⟩ hs
theorem ix_listR : IxR X (fun x y H Q => ∃ p xs i v, x = .ref p ∧ y = .int i ∧ Rd H p (.lst xs) ∧ atI xs i = some v ∧ Q v H) := fun value slice pins s σ H x y v u Q I rx ry ⟨p, xs, i, z, e1, e2, hq, he, q⟩ hs => ix_list value slice pins s σ H x y v u Q I rx ry ⟨p, xs, i, z, e1, e2, .inl hq, he, q⟩ hs
/-- t[lo:hi] -/
def rSlR : V → Option Int → Option Int → Hp → VK → Prop := fun x lo hi H Q => ∃ a xs, x = .ref a ∧ Rd H a (.tup xs) ∧ ((HT.sIx xs.length 0 lo = 0 ∧ HT.sIx xs.length xs.length hi = xs.length) → Q (.ref a) H) ∧ (¬ (HT.sIx xs.length 0 lo = 0 ∧ HT.sIx xs.length xs.length hi = xs.length) → ∀ p, H p = none → Q (.ref p) (upd H p (.tup (cutV xs lo hi))))
theorem sl_tupR : SlR X rSlR := by
  intro pins s σ H x v vl vu lo hi sl Q I rx hs pl pu h
  obtain ⟨a, xs, rfl, hx, q1, q2⟩ := h
  by_cases hw : HT.sIx xs.length 0 lo = 0 ∧ HT.sIx xs.length xs.length hi = xs.length
  · cases rx
    obtain ⟨its, r, ht, hz⟩ := I.tuple (.inl hx)
    have hlen : its.toArray.size = xs.length := by rw [List.size_toArray]; exact r.length.symm
    exact ⟨"tuple", _, PyProof.Rows.slot_tuple_getitem.lookup, ht.typeIs, tup_whole ht hs pl pu (by rw [hlen]; exact hw) ⟨.ref a, H, I, rfl, q1 hw⟩⟩
  · exact sl_tup pins s σ H (.ref a) v vl vu lo hi sl Q I rx hs pl pu ⟨a, xs, rfl, .inl hx, hw, q2 hw⟩
theorem cutV_nat (xs : List V) (a c : Nat) : cutV xs (some (a : Int)) (some (c : Int)) = (xs.take c).drop a := by
  unfold cutV
  rw [HT.sIx_nat, HT.sIx_nat, List.drop_take]
  by_cases h : a ≤ xs.length
  · rw [show min a xs.length = a by omega]
    apply List.ext_getElem?
    intro i
    rw [List.getElem?_take, List.getElem?_take]
    by_cases h1 : i < min c xs.length - a
    · rw [if_pos h1, if_pos (by omega)]
    · rw [if_neg h1]
      by_cases h2 : i < c - a
      · rw [if_pos h2, List.getElem?_drop, List.getElem?_eq_none (by omega)]
      · rw [if_neg h2]
  · rw [show min a xs.length = xs.length by omega, List.drop_length, List.take_nil, List.drop_of_length_le (by omega), List.take_nil]
theorem rSlR.deep {x : V} {lo : Nat} {hi : Nat} {H : Hp} {Q : VK} {ds : List Dv} (hx : Deep H x (.tup ds)) (k : ∀ v H', Same H H' → Deep H' v (.tup ((ds.take hi).drop lo)) → Q v H') : rSlR x (some (lo : Int)) (some (hi : Int)) H Q := by
  obtain ⟨a, xs, rfl, h1, t1⟩ := hx.tup'
  have l1 := t1.length
  refine ⟨a, xs, rfl, .inl h1, fun z => ?_, fun _ p hp => ?_⟩
  · rw [HT.sIx_nat, HT.sIx_nat] at z
    refine k _ _ (Same.refl _) ?_
    have e : (ds.take hi).drop lo = ds := by
      by_cases h0 : ds = []
      · rw [h0]; simp
      · have : 0 < ds.length := List.length_pos_iff.mpr h0
        rw [List.take_of_length_le (by omega), show lo = 0 by omega, List.drop_zero]
    rw [e]
    exact hx
  · have S := Same.new (o := .tup (cutV xs (some (lo : Int)) (some (hi : Int)))) hp
    have t2 : Deeps H (cutV xs (some (lo : Int)) (some (hi : Int))) ((ds.take hi).drop lo) := by
      rw [cutV_nat]
      exact (t1.take hi).drop lo
    exact k _ _ S (.tup upd_same (t2.same S))
/-- isinstance of what is deep: the name of its type -/
def tyD : Dv → String
  | .non => "NoneType"
  | .bl _ => "bool"
  | .int _ => "int"
  | .str _ => "str"
  | .tup _ => "tuple"
end
theorem Deep.ty {K : PySem.W.Frag} {H : Hp} {v : V} {d : Dv} (h : Deep H v d) : TyOf K H v (.type (tyD d)) := by
  cases h with
  | non => exact .non
  | bl => exact .bl _
  | int => exact .int _
  | str => exact .str _
  | tup h t => exact .tup h
end L2

set_option Elab.async false
set_option linter.all false
set_option maxRecDepth 100000
/-! all([.. for ..]) where all are so; [.. for ..] of known things -/
namespace L2
open PySem PySem.Spec PyProof.Rows
section
variable {J : It} {n : Nat} {Ok : Hp → Prop} {item : Nat → Hp → V → Hp → Prop} {wi : TI} {g : TG} {te : TE} {Q : VK} {σ : St} {H : Hp} {K : PySem.W.Frag}
end
end L2

set_option Elab.async false
set_option linter.all false
set_option maxRecDepth 100000
/-! [.. for ..] that tells deep things one by one, laying new things only -/
namespace L2
open PySem PySem.Spec PyProof.Rows
section
variable {J : It} {n : Nat} {Ok : Hp → Prop} {item : Nat → Hp → V → Hp → Prop} {wi : TI} {g : TG} {te : TE} {Q : VK} {σ : St} {H : Hp}
theorem deeps_snoc {H H' : Hp} {vs : List V} {u : V} {ds : List Dv} {i : Nat} {d : Dv} (h : Deeps H vs (ds.take i)) (S : Same H H') (e : ds[i]? = some d) (hu : Deep H' u d) : Deeps H' (vs ++ [u]) (ds.take (i + 1)) := by
  rw [List.take_add_one, e]
  exact (h.same S).append (.cons hu .nil)
theorem comp_deep {NB : List Str} (F : Fix J n Ok item) (ds : List Dv) (hn : ds.length = n) (h : ∀ R : It → Hp → Prop, (∀ H1, Same H H1 → R J H1) → wi σ H R) (ho : ∀ H1, Same H H1 → Ok H1)
    (hs : ∀ i v H1 H2 d (R : V → Hp → Prop), ds[i]? = some d → Same H H1 → item i H1 v H2 → (∀ u H4, Same H1 H4 → Deep H4 u d → R u H4) → g v (List.replicate NB.length none) H2 fun σ2 H3 => te σ2 H3 R)
    (hd : ∀ xs H1 p, Same H H1 → Deeps H1 xs ds → H1 p = none → Q (.ref p) (upd H1 p (.lst xs))) (hz : n < sizeLine) : tComp NB wi g tAll te σ H Q := by
  refine comp_fix F (fun i vs H1 => Same H H1 ∧ Deeps H1 vs (ds.take i)) (fun R k => h R fun H1 S => k H1 ⟨S, .nil⟩) (fun i vs H1 hi ⟨S, t⟩ => ⟨ho H1 S, by rw [t.length, List.length_take]; omega⟩) ?_ ?_ hz
  · rintro i v vs H1 H2 hi ⟨S, t⟩ it
    have e : ds[i]? = some ds[i] := List.getElem?_eq_getElem (by omega)
    exact hs i v H1 H2 _ (fun u H4 => Same H H4 ∧ Deeps H4 (vs ++ [u]) (ds.take (i + 1))) e S it fun u H4 S4 du => ⟨S.trans S4, deeps_snoc t S4 e du⟩
  · rintro vs H1 ⟨S, t⟩ p hp
    rw [List.take_of_length_le (by omega)] at t
    exact hd vs H1 p S t hp
theorem compF_deep {nn : Nat} {fi : List Nat} {fv : List V} (F : Fix J n Ok item) (ds : List Dv) (hn : ds.length = n) (h : ∀ R : It → Hp → Prop, (∀ H1, Same H H1 → R J H1) → wi σ H R) (hfv : fi.map (fun i => σ[i]?) = fv.map (fun v => some (some v))) (ho : ∀ H1, Same H H1 → Ok H1)
    (hs : ∀ i v H1 H2 d (R : V → Hp → Prop), ds[i]? = some d → Same H H1 → item i H1 v H2 → (∀ u H4, Same H1 H4 → Deep H4 u d → R u H4) → g v (List.replicate nn none ++ fv.map some) H2 fun σ2 H3 => σ2.drop nn = fv.map some ∧ te σ2 H3 R)
    (hd : ∀ xs H1 p, Same H H1 → Deeps H1 xs ds → H1 p = none → Q (.ref p) (upd H1 p (.lst xs))) (hz : n < sizeLine) : tCompF nn fi wi g tAll te σ H Q := by
  refine compF_fix F (fun i vs H1 => Same H H1 ∧ Deeps H1 vs (ds.take i)) (fun R k => h R fun H1 S => k H1 ⟨S, .nil⟩) hfv (fun i vs H1 hi ⟨S, t⟩ => ⟨ho H1 S, by rw [t.length, List.length_take]; omega⟩) ?_ ?_ hz
  · rintro i v vs H1 H2 hi ⟨S, t⟩ it
    have e : ds[i]? = some ds[i] := List.getElem?_eq_getElem (by omega)
    exact hs i v H1 H2 _ (fun u H4 => Same H H4 ∧ Deeps H4 (vs ++ [u]) (ds.take (i + 1))) e S it fun u H4 S4 du => ⟨S.trans S4, deeps_snoc t S4 e du⟩
  · rintro vs H1 ⟨S, t⟩ p hp
    rw [List.take_of_length_le (by omega)] at t
    exact hd vs H1 p S t hp
theorem deep_tup {H : Hp} {xs : List V} {ds : List Dv} (t : Deeps H xs ds) {p : Addr} (hp : H p = none) : Deep (upd H p (.tup xs)) (.ref p) (.tup ds) := .tup upd_same (t.same (Same.new hp))
theorem deeps_ints {H : Hp} : ∀ {xs : List V} {ns : List Int}, Deeps H xs (ns.map Dv.int) → xs = ns.map V.int
  | _, [], .nil => rfl
  | _, n :: ns, .cons h t => by
    obtain rfl := h.int'
    rw [deeps_ints (ns := ns) t]
    rfl
end
section
variable {X : Cx} {K0 : PySem.W.Frag} {o e : Expr} {es : List Expr} {to : TE} {t : TA} {name : Str} {apos cpos : Pos} {T id : String} {r : V → List V → Hp → VK → Prop}
end
theorem cb1 {r : List V → Hp → VK → Prop} {te : TE} {σ : St} {H : Hp} {Q : VK} (h : te σ H fun v H1 => r [v] H1 Q) : tCB r (tCons te tNil) σ H Q := h
theorem ret_te {te : TE} {D : Ends} {σ : St} {H : Hp} (h : te σ H D.rt) : tRet te D σ H := h
theorem rSlR.deep0 {x : V} {hi : Nat} {H : Hp} {Q : VK} {ds : List Dv} (hx : Deep H x (.tup ds)) (k : ∀ v H', Same H H' → Deep H' v (.tup (ds.take hi)) → Q v H') : rSlR x none (some (hi : Int)) H Q := by
  have h := rSlR.deep (lo := 0) (hi := hi) (Q := Q) hx (by simpa using k)
  obtain ⟨a, xs, e, h1, h2, h3⟩ := h
  refine ⟨a, xs, e, h1, fun z => h2 ?_, fun z p hp => ?_⟩
  · rw [HT.sIx_nat, Nat.zero_min]; exact ⟨rfl, z.2⟩
  · have e2 : cutV xs none (some (hi : Int)) = cutV xs (some ((0 : Nat) : Int)) (some (hi : Int)) := by unfold cutV; rw [HT.sIx_none, show HT.sIx xs.length 0 (some ((0 : Nat) : Int)) = 0 by rw [HT.sIx_nat, Nat.zero_min]]
    rw [e2]
    exact h3 (fun y => z ⟨rfl, y.2⟩) p hp
end L2

set_option Elab.async false
set_option linter.all false
set_option maxRecDepth 100000
/-! a comprehension whose walk is known only behind its iterable -/
namespace L2
open PySem PySem.Spec PyProof.Rows
theorem tCompF_of {n : Nat} {fi : List Nat} {wi : TI} {g : TG} {tt : TT} {te : TE} {Q : VK} {σ : St} {H : Hp} (h : wi σ H fun J H1 => tCompF n fi (fun _ H R => R J H) g tt te σ H1 Q) : tCompF n fi wi g tt te σ H Q := h
end L2

set_option Elab.async false
set_option linter.all false
set_option maxRecDepth 100000
/-! a name set to a comprehension whose block reads names of the def -/
namespace L2
open PySem PySem.Spec PyProof.Rows
section
variable {X : Cx}
theorem ps_lcompF {elt tg iter : Expr} {ifs : List Expr} {scope : Scope} {pos spos py : Pos} {NB FR : List Str} {fi : List Nat} {wi : TI} {g : TG} {tt : TT} {te : TE} {iy : Nat} {y : Str} (hc : X.calm = true) (S : BlkScopeF NB FR scope) (hfree : freeIn scope X.env.scope = true) (hfi : fi.map (fun i => X.N[i]?) = FR.map some) (hi : PI X tg iter wi)
    (hg : ∀ s H ex, PG (cxBlkF X (NB ++ FR) scope s H ex) tg g) (ht : ∀ s H ex, PTs (cxBlkF X (NB ++ FR) scope s H ex) ifs tt) (he : ∀ s H ex, PE (cxBlkF X (NB ++ FR) scope s H ex) elt te)
    (hN : X.N.Nodup) (hiy : X.N[iy]? = some y) (hy : Loc X.env.scope y) (hsw : swapsWith (.ListComp elt [⟨tg, iter, ifs, 0⟩] scope pos) (some (.Name y py)) spos.line X.env = pure true)
    (hs : ∀ x, foldedSetIterable iter X.env x = pure x := by intro _; rfl) (hf : X.fn y = true ∨ X.env.scope.names.lookup y = some .local := by first | exact .inl rfl | exact .inr rfl | assumption) :
    PS X (.Assign [.Name y py] (.ListComp elt [⟨tg, iter, ifs, 0⟩] scope pos) spos) (tAsg (tCompF NB.length fi wi g tt te) (gName iy)) := by
  intro pins s σ H Dn I h
  have hfc : ∀ y ∈ scope.names, y.2 = .free → X.env.scope.names.lookup y.1 = some .cell := freeIn_at hfree
  have hasF : ∀ y ∈ scope.names, y.2 = .free → ∃ c, X.env.cells.lookup y.1 = some c := fun y hy e => I.ok.has y.1 (.inl (hfc y hy e))
  have clook : ∀ y c, (closOf X.env.cells scope.names []).lookup y = some c → X.env.cells.lookup y = some c := fun y c e => clos_look scope.names [] hasF (fun z => nomatch z) e
  rw [exec_Assign_Name_used _ _ _ _ hsw]
  refine wpAny_bind (wpAny_standAt (wpAny_bind ?_))
  show wpAny _ X.A (do let _ ← comprehension (.ListComp elt [⟨tg, iter, ifs, 0⟩] scope pos) scope X.env _ (newList []) false (eval iter X.env) (some (assign (.Name y py) X.env))) _ _ s
  refine wpAny_bind (wpAny_mono (wpAny_comprehension_free (use := some (assign (.Name y py) X.env)) (Q := fun _ s' => SP X pins Dn .next s') (cl := closOf X.env.cells scope.names []) rfl hs (closureFor_eq hasF) S.kind S.loc (thn (hi pins s σ H _ I h) fun v s1 h1 => thn h1 fun itv s2 h2 => ?_)) (fun _ s' hq => wpAny_pure (wpAny_pure hq)) fun _ _ e => e)
  obtain ⟨it, fp, tn, J, H2, e, I2, T, st2, f2, fv, hfv, W, ⟨m0, w0⟩, turn⟩ := h2
  subst e
  refine wpAny_newObj_type ?_
  have up2 : ∀ b o, s2.heap.get? b = some o → (s2.heap.push { cls := .type "list", data := .seq ([] : List Value).toArray }).get? b = some o := fun b o e => Heap.get?_push_of_some _ e
  have I3 : Inv X pins σ H2 { s2 with heap := s2.heap.push { cls := .type "list", data := .seq ([] : List Value).toArray } } := I2.kept (t' := s2.toks) up2
  have st3 : tn 0 (s2.heap.push { cls := .type "list", data := .seq ([] : List Value).toArray }) := T.keep _ _ _ st2 fun b _ o e => up2 b o e
  have hD3 : (s2.heap.push { cls := .type "list", data := .seq ([] : List Value).toArray }).get? s2.heap.objs.size = some (lstO []) := Heap.get?_push_size _ rfl
  have hD2 : H2 s2.heap.objs.size = none := I2.hok.fresh (Nat.le_refl _)
  have lt2 : ∀ b o, s2.heap.get? b = some o → b ≠ s2.heap.objs.size := fun b o e => Nat.ne_of_lt (Heap.lt_size e)
  have fpO : ∀ b ∈ fp, ∃ o, s2.heap.get? b = some o := fun b hb => let ⟨o, e, _⟩ := T.obj _ _ st2 b hb; ⟨o, e⟩
  have hDs0 : X.s₀.heap.objs.size ≤ s2.heap.objs.size := I2.sz
  have hDL : s2.heap.objs.size ≠ X.env.locals := Nat.ne_of_gt I2.lt
  have hDC : ∀ x c, X.env.cells.lookup x = some c → c ≠ s2.heap.objs.size := fun x c e => let ⟨v, o, e1, _⟩ := I2.cell x c e; lt2 c o e1
  have hDp : ∀ p ∈ X.pn ++ pins, p.1 ≠ s2.heap.objs.size := fun p hp => lt2 p.1 _ (I2.pin p hp).1
  have hDf : s2.heap.objs.size ∉ frs X.stack := fun z => let ⟨o, e, _⟩ := (I2.stack.mem z).2; lt2 _ o e rfl
  generalize hS3 : ({ s2 with heap := s2.heap.push { cls := .type "list", data := .seq ([] : List Value).toArray } } : Shared) = s3 at I3 ⊢
  have hh3 : s3.heap = s2.heap.push { cls := .type "list", data := .seq ([] : List Value).toArray } := by rw [← hS3]
  rw [← hh3] at st3 hD3 up2
  generalize s2.heap.objs.size = D at hD3 hD2 lt2 hDs0 hDL hDC hDp hDf ⊢
  refine wpAny_newBlockF S.kind S.nocell fun cenv s4 hce x4 => ?_
  subst hce
  have lt3 : ∀ b o, s3.heap.get? b = some o → b < s3.heap.objs.size := fun b o e => Heap.lt_size e
  have fp3 : ∀ b ∈ fp, b < s3.heap.objs.size := fun b hb => let ⟨o, e⟩ := fpO b hb; lt3 b o (up2 b o e)
  have dl3 : D < s3.heap.objs.size := lt3 D _ hD3
  have DfpN : ∀ b ∈ fp, b ≠ D := fun b hb => let ⟨o, e⟩ := fpO b hb; lt2 b o e
  obtain ⟨h4, tk4, rfl, hk4⟩ := x4.done
  have bsN : ∀ b o, X.base.get? b = some o → b ∉ D :: fp := fun b o e hb => by
    rcases List.mem_cons.mp hb with rfl | hb
    · exact absurd (Nat.lt_of_lt_of_le (Heap.lt_size (I2.ok.bs b o e).1) hDs0) (Nat.lt_irrefl _)
    · obtain ⟨_, _, _, f3, _⟩ := f2 b hb
      rcases f3 with z | z
      · exact I2.ok.noex b o e z
      · exact absurd (Nat.lt_of_lt_of_le (Heap.lt_size (I2.ok.bs b o e).1) z) (Nat.lt_irrefl _)
  have exF : ∀ b ∈ D :: fp, b ∉ frs X.stack := fun b hb hf => by
    rcases List.mem_cons.mp hb with rfl | hb
    · exact hDf hf
    · obtain ⟨_, f1, f2', _⟩ := f2 b hb
      rcases List.mem_cons.mp (I2.stkSub b hf) with z | z
      · exact f1 z
      · exact f2' z
  have ccl : ∀ y c, (closOf X.env.cells scope.names []).lookup y = some c → (∃ v, s3.heap.IsCell c v) ∧ H2 c = none ∧ c ≠ D ∧ ∀ b ∈ fp, c ≠ b := fun y c e => by
    have e' := clook y c e
    exact ⟨I3.cell y c e', I3.freeC y c e', hDC y c e', fun b hb => (f2 b hb).2.2.2.2.1 y c e'⟩
  have clt : ∀ y c, (closOf X.env.cells scope.names []).lookup y = some c → c < s3.heap.objs.size := fun y c e => let ⟨⟨v, o, ho, _⟩, _⟩ := ccl y c e; lt3 c o ho
  have exLt : ∀ b ∈ D :: fp, b < s3.heap.objs.size := fun b hb => by
    rcases List.mem_cons.mp hb with rfl | hb
    · exact dl3
    · exact fp3 b hb
  have okB : (cxBlkF X (NB ++ FR) scope s3 H2 (D :: fp)).Ok := by
    refine ⟨I3.ok.mod, S.kind, I3.ok.glob, I3.ok.blt, Nat.le_refl _, fun y z c h1 h2 => ?_, fun y hy => ?_, (fun y c z _ => nomatch z), I3.ok.hd, I3.ok.frames, .inl rfl, fun b hb => ⟨Nat.ne_of_lt (exLt b hb), fun y c e z => ?_⟩, I3.bs, Nat.le_trans I3.ok.bsz I3.sz, bsN, exF, I3.stack, I3.stkFree⟩
    · exact I3.ok.inj y z c (clook y c h1) (clook z c h2)
    · exact clos_has scope.names [] (.inr (relabel_free S.nocell hy))
    · obtain ⟨_, _, n1, n2⟩ := ccl y c e
      rcases List.mem_cons.mp hb with q | q
      · exact n1 (z.trans q)
      · exact n2 b q z
  have hlen0 : (List.replicate NB.length (none : Option V) ++ fv.map some).length = (NB ++ FR).length := by
    have h1 := congrArg List.length hfv
    have h2 := congrArg List.length hfi
    simp only [List.length_map] at h1 h2
    rw [List.length_append, List.length_append, List.length_replicate, List.length_map]
    omega
  have rep : ∀ (j : Nat) (v : V), (List.replicate NB.length (none : Option V) ++ fv.map some)[j]? = some (some v) → ∃ k, j = NB.length + k ∧ fv[k]? = some v := fun j v z => by
    rw [List.getElem?_append] at z
    split at z
    · rw [List.getElem?_replicate] at z
      split at z <;> cases z
    · rename_i hj
      rw [List.length_replicate] at hj z
      refine ⟨j - NB.length, by omega, ?_⟩
      rw [List.getElem?_map] at z
      cases e : fv[j - NB.length]? with
      | none => rw [e] at z; cases z
      | some y => rw [e] at z; exact congrArg some (Option.some.inj (Option.some.inj z))
  have fvAt : ∀ (k : Nat) (v : V) (y : Str), fv[k]? = some v → FR[k]? = some y → ∃ i, X.N[i]? = some y ∧ σ[i]? = some (some v) := fun k v y h1 h2 => by
    have a1 := congrArg (fun l => l[k]?) hfv
    have a2 := congrArg (fun l => l[k]?) hfi
    simp only [List.getElem?_map, h1, h2] at a1 a2
    cases e : fi[k]? with
    | none => rw [e] at a1; cases a1
    | some i =>
      rw [e] at a1 a2
      exact ⟨i, Option.some.inj a2, Option.some.inj a1⟩
  have IB : Inv (cxBlkF X (NB ++ FR) scope s3 H2 (D :: fp)) [(D, lstO [])] (List.replicate NB.length none ++ fv.map some) H2 { s3 with heap := h4, toks := tk4 } := by
    refine ⟨okB, rfl, I3.bare, Un.kept hk4, ⟨_, x4.ns, fun i y v h1 h2 h3 => ?_⟩, fun y c h => let ⟨⟨v, o, ho, hd⟩, _⟩ := ccl y c h; ⟨v, o, hk4 _ _ ho, hd⟩, I3.hok.fresh (Nat.le_refl _), fun y c h => (ccl y c h).2.1, fun p hp => ?_, I3.hok.kept hk4, hlen0⟩
    · obtain ⟨k, rfl, hk⟩ := rep i v h2
      have hy : FR[k]? = some y := by
        have h1 : (NB ++ FR)[NB.length + k]? = some y := h1
        rw [List.getElem?_append_right (Nat.le_add_right _ _), Nat.add_sub_cancel_left] at h1
        exact h1
      obtain ⟨io, hN, hσ⟩ := fvAt k v y hk hy
      have hfr : (y, NameKind.free) ∈ scope.names := S.fr y (List.mem_of_getElem? hy)
      obtain ⟨m, _, hl⟩ := I3.loc
      obtain ⟨u, r, l⟩ := hl io y v hN hσ (.inr (.inl (hfc _ hfr rfl)))
      refine ⟨u, r, .inr ⟨.inl ?_, ?_⟩⟩
      · exact relabel_cell S.nd2 hfr (by show (X.env.scope.kind == .function) = true; rw [I3.ok.kind]; rfl) (hfc _ hfr rfl)
      · obtain ⟨c, hc1⟩ := clos_has (cells := X.env.cells) (x := y) scope.names [] (.inr hfr)
        refine ⟨c, hc1, ?_⟩
        have hc2 := clook y c hc1
        rcases l with ⟨hk, _⟩ | ⟨_, c', hc', o, ho, hd⟩
        · have e1 := hfc _ hfr rfl
          rw [show X.env.kindOf y = X.env.scope.names.lookup y from rfl] at hk
          rw [hk] at e1
          cases e1
        · rw [hc2] at hc'
          cases hc'
          exact ⟨o, hk4 _ _ ho, hd⟩
    obtain rfl : p = (D, lstO []) := by simpa using hp
    exact ⟨hk4 _ _ hD3, hD2, Nat.ne_of_lt dl3, hDf, fun v z => nomatch z⟩
  -- what stays true of the iterator's objects
  have stat : ∀ {H' : Hp} {ys : List Value}, (∀ b ∈ fp, H' b = none) → ∀ b ∈ fp, FpOk (cxBlkF X (NB ++ FR) scope s3 H2 (D :: fp)) [(D, lstO ys)] H' b := fun hn b hb =>
    ⟨hn b hb, Nat.ne_of_lt (fp3 b hb), exF b (List.mem_cons_of_mem _ hb), .inl (List.mem_cons_of_mem _ hb), fun y c e z => (ccl y c e).2.2.2 b hb z, fun p hp => by
        obtain rfl : p = (D, _) := by simpa using hp
        exact (DfpN b hb).symm⟩
  have st4 : tn 0 h4 := T.keep _ _ _ st3 fun b _ o e => hk4 b o e
  have fr4 : ∀ b ∈ fp, H2 b = none := fun b hb => (f2 b hb).1
  have hcB : (cxBlkF X (NB ++ FR) scope s3 H2 (D :: fp)).calm = true := hc
  have loop : codeAny (model X.prog X.w) X.A (.compLoop (.ListComp elt [⟨tg, iter, ifs, 0⟩] scope pos) 0 (.ref it) (.ref D) (blkEnvF scope X.env s3.heap.objs.size))
      (compPost (model X.prog X.w) X.A X.xe (some (assign (.Name y py) X.env)) (fun _ s' => SP X pins Dn .next s') (.ref D) s3.heap.objs.size) { s3 with heap := h4, toks := tk4 } := by
    refine comp_loop (fun n s' => ∃ i vs ys H', Inv (cxBlkF X (NB ++ FR) scope s3 H2 (D :: fp)) [(D, lstO ys)] (List.replicate NB.length none ++ fv.map some) H' s' ∧ Vals vs ys ∧ vs.length ≤ sizeLine ∧ tn i s'.heap ∧ (∀ b ∈ fp, H' b = none) ∧ W i n vs H') ?_ m0 ⟨0, [], [], H2, IB, .nil, Nat.zero_le _, st4, fr4, w0⟩
    rintro n s5 ⟨i, vs, ys, H5, I5, rv, hvl, st5, fr5, w5⟩
    rcases turn i n vs H5 w5 with ⟨stop, qn⟩ | ⟨go, hlt, N, hN, step⟩
    · refine wpAny_mono (T.done (cxBlkF X (NB ++ FR) scope s3 H2 (D :: fp)) rfl rfl rfl hcB i _ s5 _ H5 (fun _ _ => False) I5 (stat fr5) st5 stop) (fun r s6 ⟨hr, I6⟩ => ?_) (fun _ _ z => z.elim)
      subst hr
      obtain ⟨m6, hn6, _⟩ := id I6.loc
      have hC6 : H5 s3.heap.objs.size = none := I6.free
      have un7 : Un (frs X.stack) (D :: fp) H2 H5 s3.heap s6.heap := I6.base
      have I7 : Inv X pins σ H5 s6 := I3.call' (s' := s6) I6.os un7 I6.hok I6.bare fun b hb => by
        rcases List.mem_cons.mp hb with rfl | hb
        · exact ⟨.inr hDs0, hDL, hDC, hDp⟩
        · obtain ⟨_, f1, _, f3, f4, f5⟩ := f2 b hb
          exact ⟨f3, f1, f4, f5⟩
      obtain ⟨eD, nD, _⟩ := I6.pin (D, lstO ys) (by simp)
      have nD' : H5 D = none := nD
      have eD' : s6.heap.get? D = some (lstO ys) := eD
      have hD0 : X.s₀.heap.get? D = none := by
        cases q : X.s₀.heap.get? D with
        | none => rfl
        | some o => exact absurd (Nat.lt_of_lt_of_le (Heap.lt_size q) hDs0) (Nat.lt_irrefl _)
      have I8 : Inv X pins σ (upd H5 D (.lst vs)) s6 := I7.track nD' hD0 hDL hDC hDp ⟨hvl, ys, ys.length, rv, eD'⟩
      have hq := qn D nD'
      have s03 : X.s₀.heap.objs.size ≤ s3.heap.objs.size := I3.sz
      have cL : s3.heap.objs.size ≠ X.env.locals := Nat.ne_of_gt I3.lt
      have cC : ∀ x c, X.env.cells.lookup x = some c → c ≠ s3.heap.objs.size := fun x c e => let ⟨v, o, e1, _⟩ := I3.cell x c e; Nat.ne_of_lt (lt3 c o e1)
      have cP : ∀ p ∈ X.pn ++ pins, p.1 ≠ s3.heap.objs.size := fun p hp => Nat.ne_of_lt (lt3 p.1 _ (I3.pin p hp).1)
      show wpAny (model X.prog X.w) X.A (assign (.Name y py) X.env (.ref D)) _ X.xe s6
      refine wpAny_assign_Name (store_ok2 (v := .ref D) I8 hN hiy hy rfl (fun s9 I9 ⟨a9, sb9, ha9⟩ => ?_) hf)
      have na : s3.heap.objs.size ≠ a9 := by
        rcases ha9 with rfl | z
        · exact cL
        · exact (cC y a9 z).symm
      refine ⟨m6, hn6.sameBut sb9 na, fun h10 sb10 => ⟨_, _, ?_, hq⟩⟩
      have hD3' : upd H5 D (.lst vs) s3.heap.objs.size = none := by rw [upd_ne (Nat.ne_of_gt dl3)]; exact hC6
      exact (I9.turned (h' := h10) (t' := s9.toks) (it := s3.heap.objs.size) (fun b o hb e => (sb10.2 b hb).trans e) hD3' cL (.inr s03) cC cP :)
    · refine wpAny_mono (T.item (cxBlkF X (NB ++ FR) scope s3 H2 (D :: fp)) rfl rfl rfl hcB i _ s5 _ H5 (fun _ _ => False) I5 (stat fr5) st5 go) (fun r s6 ⟨u, hr, h6⟩ => ?_) (fun _ _ z => z.elim)
      subst hr
      refine wpAny_mono h6 (fun _ s7 ⟨x, H7, I7, r7, y7, st7, fr7⟩ => ?_) (fun _ _ z => z.elim)
      have I7' := I7.pinned (stat fr7) (T.obj _ _ st7)
      refine wpAny_mono (hg s3 H2 (D :: fp) _ s7 _ H7 x u _ I7' r7 (step x H7 y7)) (fun _ s8 ⟨σ8, H8, I8, hk8, q8⟩ => ?_) (fun _ _ z => z.elim)
      refine wpAny_mono (ht s3 H2 (D :: fp) _ s8 σ8 H8 _ I8 q8) (fun ok s9 ⟨H9, I9, q9⟩ => ?_) (fun _ _ z => z.elim)
      have fpK : ∀ {σ' : St} {H' : Hp} {s' : Shared}, Inv (cxBlkF X (NB ++ FR) scope s3 H2 (D :: fp)) ([(D, lstO ys)] ++ pinsAt fp s7.heap) σ' H' s' → tn (i + 1) s'.heap ∧ ∀ b ∈ fp, H' b = none := fun J =>
        ⟨T.keep _ _ _ st7 fun b hb o e => (J.pin (b, o) (List.mem_append_right _ (List.mem_append_right _ (mem_pinsAt hb e)))).1, fun b hb => by
          obtain ⟨o, e, d⟩ := T.obj _ _ st7 b hb
          exact (J.pin (b, o) (List.mem_append_right _ (List.mem_append_right _ (mem_pinsAt hb e)))).2.1⟩
      have wk : ∀ {H' : Hp} {s' : Shared} {pl : List (Addr × Obj)}, Inv (cxBlkF X (NB ++ FR) scope s3 H2 (D :: fp)) pl σ8 H' s' → Inv (cxBlkF X (NB ++ FR) scope s3 H2 (D :: fp)) pl (List.replicate NB.length none ++ fv.map some) H' s' := fun J =>
        J.weak (hlen0.trans J.len.symm) fun j v z => by
          obtain ⟨k, rfl, hk⟩ := rep j v z
          have := congrArg (fun l => l[k]?) hk8
          simp only [List.getElem?_drop, List.getElem?_map, hk] at this
          exact this
      cases ok with
      | false =>
        rw [if_neg (by decide)] at q9
        rw [if_neg (by decide)]
        obtain ⟨m', hm, w9⟩ := hN vs H9 q9
        obtain ⟨t9, f9⟩ := fpK I9
        exact ⟨m', hm, i + 1, vs, ys, H9, wk I9.unpinned, rv, hvl, t9, f9, w9⟩
      | true =>
        rw [if_pos rfl] at q9
        rw [if_pos rfl]
        refine wpAny_mono (he s3 H2 (D :: fp) _ s9 σ8 H9 _ I9 q9) (fun y s10 ⟨v, H10, I10, rv10, q10⟩ => ?_) (fun _ _ z => z.elim)
        obtain ⟨eD, nD, _, nf, _⟩ := I10.pin (D, lstO ys) (by simp)
        have hyl := rv.length
        refine append_at (hsz := by show ys.toArray.size ≤ sizeLine; rw [List.size_toArray, ← hyl]; exact hvl) eD fun h11 sb11 hD11 => ?_
        obtain ⟨m', hm, w11⟩ := hN (vs ++ [v]) H10 q10
        obtain ⟨t10, f10⟩ := fpK I10
        have I10u := I10.unpinned
        have k11 : ∀ b o, b ≠ D → s10.heap.get? b = some o → h11.get? b = some o := fun b o hb e => (sb11.2 b hb).trans e
        have IE : Inv (cxBlkF X (NB ++ FR) scope s3 H2 (D :: fp)) [] σ8 H10 s10 := I10u.pins_of fun p hp => nomatch hp
        have I11 : Inv (cxBlkF X (NB ++ FR) scope s3 H2 (D :: fp)) [] σ8 H10 { s10 with heap := h11 } := IE.turned (t' := s10.toks) k11 nD (Nat.ne_of_lt dl3) (.inl List.mem_cons_self) (fun y' c e z => (ccl y' c e).2.2.1 z) (fun p hp => absurd (show p ∈ ([] : List (Addr × Obj)) from hp) (by simp))
        have eL : ({ cls := .type "list", data := .seq (ys.toArray.push y) (ys.length + 1) } : Obj) = lstO (ys ++ [y]) := by
          show ({ cls := .type "list", data := .seq (ys.toArray.push y) (ys.length + 1) } : Obj) = { cls := .type "list", data := .seq (ys ++ [y]).toArray (ys ++ [y]).length }
          rw [List.length_append, List.length_singleton, List.push_toArray]
        refine ⟨m', hm, i + 1, vs ++ [v], ys ++ [y], H10, wk (I11.pins_of fun p hp => ?_), rv.append (.cons rv10 .nil), by rw [List.length_append, List.length_singleton]; exact hlt, T.keep _ _ _ t10 fun b hb o e => k11 b o (DfpN b hb) e, f10, w11⟩
        obtain rfl : p = (D, lstO (ys ++ [y])) := by simpa using hp
        exact ⟨by rw [← eL]; exact hD11, nD, Nat.ne_of_lt dl3, nf, fun v z => nomatch z⟩
  exact codeAny_compStart_list loop (T.self _ 0 _ _ _ st4 loop)
end
end L2

set_option Elab.async false
set_option linter.all false
set_option maxRecDepth 100000
/-! one of a written list of things, drawn; written things behind a veil -/
namespace L2
open PySem PySem.Spec PyProof.Rows
section
variable {X : Cx}
def rIxLR : R2 := fun x y H Q => ∃ p xs i v, x = .ref p ∧ y = .int i ∧ Rd H p (.lst xs) ∧ atI xs i = some v ∧ Q v H
theorem pex_pick {es : List Expr} {t : TA} {b : Expr} {tb : TE} {p pos : Pos} (h : PAx X es t) (hb : PEx X b tb) (hs : PlainIx b) : PEx X (.Subscript (.List es p) b pos) (tOp rIxLR (tLst t) tb) := ⟨pe_ix ix_listR (pe_lst h.pa) hb.pe hs⟩
theorem psy_set {i : Nat} {x : Str} {e : Expr} {te : TE} {pos pos' : Pos} (hN : X.N.Nodup) (hi : X.N[i]? = some x) (hx : Loc X.env.scope x) (he : PEx X e te) (hs : swapsWith e (some (.Name x pos')) pos.line X.env = pure false) (hf : X.fn x = true) : PSy X (.Assign [.Name x pos'] e pos) (tAsg te (gName i)) := ⟨ps_set hN hi hx he.pe hs (.inl hf)⟩
theorem psy_for {tg iter : Expr} {body : List Stmt} {wi : TI} {g : TG} {tb : TS} {pos : Pos} (hp : PassesOwn (model X.prog X.w) X.A X.env X.xe) (hc : X.calm = true) (hi : PI X tg iter wi) (hg : PG X tg g) (hb : PSx X body tb) (hs : ∀ x, foldedSetIterable iter X.env x = pure x) : PSy X (.For tg iter body [] pos) (tFor wi g tb) := ⟨ps_for hp hc hi hg hb.ps hs⟩
theorem psy_ret {e : Expr} {te : TE} {pos : Pos} (he : PEx X e te) : PSy X (.Return (some e) pos) (tRet te) := ⟨ps_ret he.pe⟩
end
/-- displays whose things are deep -/
def TaD (ta : TA) (ds : List Dv) : Prop := ∀ (σ : St) (H : Hp) (R : List V → Hp → Prop), (∀ xs H1, Same H H1 → Deeps H1 xs ds → R xs H1) → ta σ H R
theorem taD_nil : TaD tNil [] := fun σ H R h => h [] H (Same.refl _) .nil
theorem taD_str {x : Str} {t : TA} {ds : List Dv} (h : TaD t ds) : TaD (tCons (tC (.str x)) t) (.str x :: ds) := fun σ H R k => h σ H _ fun xs H1 S t => k _ _ S (.cons .str t)
section
variable {K : PySem.W.Frag}
section
variable {H H' : Hp} {a t r : Addr} {ns : List Int} {c c' : Int}
theorem Bag.tups (B : Bag K H a t r ns c) (A : Apart t r H H') : ∀ b ys, H b = some (.tup ys) → H' b = some (.tup ys) := fun b ys e => B.keep A e fun _ z => nomatch z
theorem Bag.pickD {σ : St} {i j : Nat} {n : Int} {ta : TA} {ds : List Dv} {Q : VK} {E : XK} (B : Bag K H a t r ns c) (hi : σ[i]? = some (some (.ref a))) (hj : σ[j]? = some (some (.ref t))) (hta : TaD ta ds) (hn : n = (ds.length : Int)) (h0 : 0 < n) (h1 : n < 1000) (hc : c < 100000)
    (k : ∀ (d : Nat) (x : V) (dv : Dv) (H' : Hp), ds[d]? = some dv → Deep H' x dv → Bag K H' a t r ns (c + 1) → Apart t r H H' → Q x H') : tOp rIxLR (tLst ta) (tCall (spDraw K) [] E (tCons (tVar i) (tCons (tVar j) (tCons (tC (.int n)) tNil)))) σ H Q := by
  have hz : 1000 ≤ sizeLine := by decide
  refine hta _ _ _ fun xs H1 S1 T1 => ⟨by have := T1.length; omega, fun p hp => ?_⟩
  have S := Same.new (o := .lst xs) hp
  have B1 := B.same (S1.trans S)
  refine B1.draw hi hj (fun R h => h) h0 (by omega) hc fun d H' hd B' A' => ?_
  have hl := T1.length
  obtain ⟨x, hx⟩ : ∃ x, xs[d]? = some x := ⟨_, List.getElem?_eq_getElem (by omega)⟩
  have hpp : H' p = some (.lst xs) := B1.keep A' upd_same fun _ z => nomatch z
  obtain ⟨dv, hdv, ddv⟩ := T1.getX hx
  exact ⟨p, xs, d, x, rfl, rfl, .inl hpp, atI_nat hx, k d x dv H' hdv ((ddv.same S).keep (B1.tups A')) B' (fun b o e n1 n2 => A' b o ((S1.trans S) _ _ e) n1 n2)⟩
end
end
end L2

set_option Elab.async false
set_option linter.all false
set_option maxRecDepth 100000
/-! arguments that are no stars, told by their shape alone: nothing of the code's meaning is reckoned out -/
namespace L2
open PySem PySem.Spec PyProof.Rows
def isStar : Expr → Bool
  | .Starred .. => true
  | _ => false
theorem star_of {e : Expr} {es : List Expr} {env : Env} (h : isStar e = false) : starEach (e :: es) env = (false, eval e env) :: starEach es env := by
  cases e <;> first | rfl | cases h
section
variable {X : Cx} {K0 : PySem.W.Frag} {o e e1 : Expr} {es : List Expr} {to te te1 : TE} {t : TA} {name : Str} {apos cpos : Pos} {T id : String} {r : V → List V → Hp → VK → Prop}
theorem pa_c (ha : PE X e te) (hr : PA X es t) (h : isStar e = false := by rfl) : PA X (e :: es) (tCons te t) := pa_cons ha hr (star_of h)
theorem pex_op {a b : Expr} {ta tb : TE} {pos : Pos} {op : Operator} {r : R2} (hr : OpR X (binaryOp op) r) (ha : PEx X a ta) (hb : PEx X b tb) : PEx X (.BinOp a op b pos) (tOp r ta tb) := ⟨pe_op hr ha.pe hb.pe⟩
theorem pax_c (ha : PEx X e te) (hr : PAx X es t) (h : isStar e = false) : PAx X (e :: es) (tCons te t) := ⟨pa_cons ha.pe hr.pa (star_of h)⟩
theorem pex_if {c a b : Expr} {tA : TT} {ta tb : TE} {pos : Pos} (hc : PT X c tA) (ha : PEx X a ta) (hb : PEx X b tb) : PEx X (.IfExp c a b pos) (tIf tA ta tb) := ⟨pe_ifExp hc ha.pe hb.pe⟩
theorem pex_tup {k : Nat} {pos : Pos} (h : PAx X es t) : PEx X (.Tuple es k pos) (tTup t) := ⟨pe_tup h.pa⟩
theorem psy_if {c : Expr} {a b : List Stmt} {tc : TT} {t1 u : TS} {pos : Pos} (hc : PT X c tc) (ha : PSx X a t1) (hb : PSx X b u) : PSy X (.If c a b pos) (tIfS tc t1 u) := ⟨ps_if hc ha.ps hb.ps⟩
theorem psx_nil : PSx X [] tNext := ⟨pss_nil⟩
end
end L2

set_option Elab.async false
set_option linter.all false
set_option maxRecDepth 100000
/-! three lists or tuples side by side -/
namespace L2
open PySem PySem.Spec PyProof.Rows
open Builtin Builtin.Str
section
variable {prog : Program} {w : World} {A : Around} {E : Value → Shared → Prop} {s : Shared} {z TI TO i1 i2 i3 : Addr} {k n1 n2 n3 : Nat} {f1 f2 f3 : List Addr} {P1 P2 P3 : Nat → Value → Prop} {S1 S2 S3 : Nat → Heap → Prop} {a b c : Value}
end
section
variable {X : Cx}
end
end L2

set_option Elab.async false
set_option linter.all false
set_option maxRecDepth 100000
/-! reversed(tuple) -/
namespace L2
open PySem PySem.Spec PyProof.Rows
open Builtin Builtin.Str
theorem norev_tuple : typeLookup (.type "tuple") "__reversed__" = pure none := by rw [typeLookup_type, builtinLookup_eq_fast]; kernel_rfl
theorem getit_tuple : typeLookup (.type "tuple") "__getitem__" = pure (some (.builtin "tuple.__getitem__")) := by rw [typeLookup_type, builtinLookup_eq_fast]; kernel_rfl
theorem sub_tuple_dict : isSubtype (.type "tuple") (.type "dict") = pure false := by rw [isSubtype_type]; kernel_rfl
abbrev IsRevT (h : Heap) (it a : Addr) (i : Int) : Prop := h.get? it = some { cls := .type "reversed", data := .fields #[.ref a, rawInt i] }
set_option maxHeartbeats 4000000 in
theorem meets_revT (a : Addr) (xs : Array Value) : Meets (Builtin.«reversed.__new__» ⟨[.type "reversed", .ref a], []⟩) (fun _ R s => IsTup s.heap a xs ∧ ((xs.size : Nat) : Int) < 2 ^ 63 ∧ ∀ k, R (.ok (.ret (.ref s.heap.objs.size))) { s with heap := s.heap.push { cls := .type "reversed", data := .fields #[.ref a, rawInt ((xs.size : Int) - 1)] }, toks := k }) :=
  .of_wp fun prog w A R s h => by
    obtain ⟨hp, g, d, tk, os⟩ := s; obtain ⟨h1, hl, h⟩ := h
    have hsub := F.sub_reversed_self
    have ht : Shared.TypeIs ⟨hp, g, d, tk, os⟩ (.ref a) "tuple" := by obtain ⟨o, e, c, _⟩ := h1; exact ⟨o, e, c⟩
    have hx := norev_tuple
    have hy := getit_tuple
    have hd := sub_tuple_dict
    have p1 : IsTup (Shared.heap ⟨hp, g, d, tk, os⟩) a xs := h1
    wp_walk using wpAny_specialOf ht hx ?_, wpAny_specialOf ht hy ?_, len_tuple p1 hl ?_
    exact ⟨_, rfl, h _⟩
theorem slot_rev_next : Slot "reversed" (Str.ofString "__next__") "reversed.__next__" := Slot.of (owner := "reversed") (n := "__next__") (by rw [typeLookup_type, builtinLookup_eq_fast]; kernel_rfl) (by decide +kernel) (by decide +kernel) (by decide +kernel) (Or.inl (by decide +kernel)) F.sub_reversed_self (by decide +kernel)
theorem slot_rev_iter : Slot "reversed" (Str.ofString "__iter__") "reversed.__iter__" := Slot.of (owner := "reversed") (n := "__iter__") (by rw [typeLookup_type, builtinLookup_eq_fast]; kernel_rfl) (by decide +kernel) (by decide +kernel) (by decide +kernel) (Or.inl (by decide +kernel)) F.sub_reversed_self (by decide +kernel)
theorem entry_rev_next : entryFor table "reversed.__next__" = some Builtin.«reversed.__next__» := entryFor_of_tree (by kernel_rfl)
theorem args_rev_next (a : Value) : argsOk "reversed.__next__" { pos := [a] } := by first | with_unfolding_all rfl | kernel_rfl
theorem args_rev_iter (a : Value) : argsOk "reversed.__iter__" { pos := [a] } := by first | with_unfolding_all rfl | kernel_rfl
theorem sub_rev_obj : isSubtype (.type "reversed") (.type "object") = pure true := by rw [isSubtype_type]; kernel_rfl
theorem slot_rev_init : Slot "reversed" (Str.ofString "__init__") "object.__init__" := Slot.of (owner := "object") (n := "__init__") (by rw [typeLookup_type, builtinLookup_eq_fast]; kernel_rfl) (by decide +kernel) (by decide +kernel) (by decide +kernel) (Or.inl (by decide +kernel)) sub_rev_obj (by decide +kernel)
theorem called_rev : TypeCalled "reversed" "reversed.__new__" "object.__init__" := ⟨by decide, F.create_reversed, ⟨_, _, F.mro_reversed⟩, F.made_reversed, F.plain_reversed_new, F.sub_reversed_self, slot_rev_init⟩
theorem entry_rev_iter : entryFor table "reversed.__iter__" = some Builtin.«dict_keyiterator.__iter__» := entryFor_alias (id' := "dict_keyiterator.__iter__") (by rw [fastTable_eq_tree]; kernel_rfl) (by first | kernel_rfl | decide +kernel) (by first | kernel_rfl | decide +kernel) (by rw [fastTable_eq_tree]; kernel_rfl)
section
variable {prog : Program} {w : World} {A : Around} {E : Value → Shared → Prop} {s : Shared}
set_option maxHeartbeats 4000000 in
theorem revT_item {it a : Addr} {i : Nat} {xs : Array Value} {x : Value} {Q : Value → Shared → Prop} (h : IsRevT s.heap it a (i : Int)) (hT : IsTup s.heap a xs) (hi : i < xs.size) (hl : ((xs.size : Nat) : Int) < 2 ^ 63) (hx : xs[i]? = some x)
    (hQ : ∀ h' k, IsRevT h' it a ((i : Int) - 1) → Heap.SameBut it s.heap h' → Q x { s with heap := h', toks := k }) : wpAny (model prog w) A (Builtin.«reversed.__next__» ⟨[.ref it], []⟩) (fun fin s' => ∃ v, fin = .done (.ret v) ∧ Q v s') E s := by
  have ht : Shared.TypeIs s (.ref a) "tuple" := by obtain ⟨o, e, c, _⟩ := hT; exact ⟨o, e, c⟩
  have hn : ¬ ((i : Int) < 0) := by omega
  show wpAny _ _ (field (.ref it) 0 >>= _) _ _ _
  refine wpAny_bind (wpAny_field h rfl (x := .ref a) rfl ?_)
  refine wpAny_bind (wpAny_field h rfl (x := rawInt (i : Int)) rfl ?_)
  unfold rawInt
  dsimp only
  rw [if_neg hn]
  refine wpAny_bind (wpAny_specialOf ht getit_tuple ?_)
  rw [if_neg (by decide)]
  refine wpAny_bind (wpAny_mkInt ?_)
  refine wpAny_bind (wpAny_attempt (getItem_tuple (s := { s with toks := s.toks + 1 }) (j := i) hT (by omega) (by omega) ?_ hx ?_))
  · unfold seqIndex?
    dsimp only
    rw [if_neg hn, if_pos (by simp; omega)]
    rfl
  dsimp only
  refine wpAny_bind (wpAny_field (s := { s with toks := s.toks + 1 }) h rfl (x := rawInt (i : Int)) rfl ?_)
  unfold rawInt
  dsimp only
  refine wpAny_bind (wpAny_setField_rec (s := { s with toks := s.toks + 1 }) h (by simp) fun h₁ hz₁ hs₁ => ?_)
  exact wpAny_pure ⟨_, rfl, hQ _ _ hz₁ hs₁⟩
set_option maxHeartbeats 4000000 in
theorem revT_end {it a : Addr} {Q : Fin → Shared → Prop} (h : IsRevT s.heap it a (-1)) (hh : A.handled = none)
    (hE : ∀ h' e k, (∀ c o, c ≠ it → s.heap.get? c = some o → h'.get? c = some o) → (∃ o, h'.get? e = some o ∧ o.cls = .type "StopIteration") → E (.ref e) { s with heap := h', toks := k }) : wpAny (model prog w) A (Builtin.«reversed.__next__» ⟨[.ref it], []⟩) Q E s := by
  show wpAny _ _ (field (.ref it) 0 >>= _) _ _ _
  refine wpAny_bind (wpAny_field h rfl (x := .ref a) rfl ?_)
  refine wpAny_bind (wpAny_field h rfl (x := rawInt (-1)) rfl ?_)
  unfold rawInt
  dsimp only
  rw [if_pos (by decide)]
  refine wpAny_bind (wpAny_rule ?_)
  wp_walk
  refine wpAny_raiseNew_none hh ?_
  refine hE _ _ _ (fun c o hc e => ?_) ⟨_, Heap.get?_push_size _ rfl, rfl⟩
  refine Heap.get?_push_of_some _ (Heap.get?_push_of_some _ ?_)
  rw [Heap.get?_update_ne _ _ _ _ hc, Heap.get?_update_ne _ _ _ _ hc]
  exact e
theorem pyIter_revT {it a : Addr} {i : Int} {Q : Value → Shared → Prop} (h : IsRevT s.heap it a i) (hQ : Q (.ref it) s) : wpAny (model prog w) A (pyIter (.ref it)) Q E s :=
  have hT : s.TypeIs (.ref it) "reversed" := ⟨_, h, rfl⟩
  wpAny_pyIter_slot hT slot_rev_iter (wpAny_call_entry slot_rev_iter hT entry_rev_iter (id (wpAny_pure ⟨_, rfl, "reversed", .builtin "reversed.__next__", hT, slot_rev_next.lookup, hQ⟩)) (args_rev_iter _))
theorem pyNext_revT {it a : Addr} {i : Nat} {xs : Array Value} {x : Value} {Q : Option Value → Shared → Prop} (h : IsRevT s.heap it a (i : Int)) (hT : IsTup s.heap a xs) (hi : i < xs.size) (hl : ((xs.size : Nat) : Int) < 2 ^ 63) (hx : xs[i]? = some x)
    (hQ : ∀ h' k, IsRevT h' it a ((i : Int) - 1) → Heap.SameBut it s.heap h' → Q (some x) { s with heap := h', toks := k }) : wpAny (model prog w) A (pyNext (.ref it)) Q E s := by
  have hT2 : s.TypeIs (.ref it) "reversed" := ⟨_, h, rfl⟩
  unfold pyNext
  exact wpAny_bind (wpAny_attempt (wpAny_callSpecial?_slot (name := Str.ofString "__next__") hT2 slot_rev_next (wpAny_call_entry slot_rev_next hT2 entry_rev_next (revT_item h hT hi hl hx fun h' k a1 a2 => wpAny_pure (hQ h' k a1 a2)) (args_rev_next _))))
theorem pyEnd_revT {it a : Addr} {Q : Option Value → Shared → Prop} (h : IsRevT s.heap it a (-1)) (hh : A.handled = none)
    (hQ : ∀ h' k, (∀ c o, c ≠ it → s.heap.get? c = some o → h'.get? c = some o) → Q none { s with heap := h', toks := k }) : wpAny (model prog w) A (pyNext (.ref it)) Q E s := by
  have hT2 : s.TypeIs (.ref it) "reversed" := ⟨_, h, rfl⟩
  unfold pyNext
  refine wpAny_bind (wpAny_attempt (wpAny_callSpecial?_slot (name := Str.ofString "__next__") hT2 slot_rev_next (wpAny_call_entry slot_rev_next hT2 entry_rev_next (revT_end h hh fun h' e k hk he => ?_) (args_rev_next _))))
  obtain ⟨o, ho, hc⟩ := he
  refine wpAny_bind (wpAny_isInstance (T := "StopIteration") (b := true) ⟨o, ho, hc⟩ isSubtype_stop ?_)
  exact wpAny_pure (hQ _ _ hk)
theorem call_revT {a : Addr} {xs : Array Value} {Q : Value → Shared → Prop} (hT : IsTup s.heap a xs) (hl : ((xs.size : Nat) : Int) < 2 ^ 63)
    (hQ : ∀ k, Q (.ref s.heap.objs.size) { s with heap := s.heap.push { cls := .type "reversed", data := .fields #[.ref a, rawInt ((xs.size : Int) - 1)] }, toks := k }) : wpAny (model prog w) A (call (.type "reversed") [.ref a]) Q E s :=
  callType_new called_rev (by decide) (F.typeCall_reversed_1 _) (F.newCall_reversed_1 _) (fun obj => F.args_object_init_2 obj _) F.entry_reversed_new (meets_revT a xs) ⟨hT, hl, fun k => ⟨⟨_, Heap.get?_push_size _ rfl, rfl⟩, hQ k⟩⟩
end
def ItRv (K : PySem.W.Frag) (a : Addr) (n : Nat) : It := ⟨fun i H => ∃ xs x, SqT K H a xs ∧ xs.length = n ∧ i < n ∧ xs[n - 1 - i]? = some x, fun i H v H' => H' = H ∧ ∀ xs, SqT K H a xs → xs[n - 1 - i]? = some v, fun i H => i = n⟩
theorem turn_revT {P : Program} {w : World} {K : PySem.W.Frag} {tg : Expr} (a it : Addr) (n : Nat) : Turn P w K tg (ItRv K a n) [it] it (fun i h => i ≤ n ∧ IsRevT h it a ((n : Int) - 1 - (i : Int))) where
  mem := by simp
  obj := fun i h st b hb => by
    have e : b = it := by simpa using hb
    subst e
    exact ⟨_, st.2, fun v z => nomatch (show Data.fields _ = Data.cell v from z)⟩
  keep := fun i h h' st k => ⟨st.1, k it (by simp) _ st.2⟩
  item := by
    intro X hP hw hK hc i pins s σ H E I hf st hg
    subst hP hw hK
    obtain ⟨xs, x, hq, hl, hi, hx⟩ := hg
    obtain ⟨its, rv, p, hz⟩ := I.tuple hq
    obtain ⟨u, hu, ru⟩ := rv.get hx
    obtain ⟨f0, f1, f2, f3, f4, f5⟩ := hf it (by simp)
    have e1 : (n : Int) - 1 - (i : Int) = ((n - 1 - i : Nat) : Int) := by omega
    have st2 := st.2
    rw [e1] at st2
    have hlen := rv.length
    have h63 := line63
    refine pyNext_revT (xs := its.toArray) (x := u) st2 p (by rw [List.size_toArray]; omega) (by rw [List.size_toArray]; omega) (by simpa using hu) fun h' k st' sb => ?_
    have I1 : Inv X pins σ H { s with heap := h', toks := k } := I.turned (t' := k) (fun b o hb e => (sb.2 b hb).trans e) f0 f1 f3 f4 f5
    have e2 : ((n - 1 - i : Nat) : Int) - 1 = (n : Int) - 1 - ((i + 1 : Nat) : Int) := by omega
    rw [e2] at st'
    exact ⟨u, rfl, go_of (s := { s with heap := h', toks := k }) st' rfl rfl (by decide) ⟨x, H, I1, ru, ⟨rfl, fun ys hy => by rw [I.tuple_inj hy hq]; exact hx⟩, ⟨by omega, st'⟩, fun b hb => (hf b hb).1⟩⟩
  done := by
    intro X hP hw hK hc i pins s σ H E I hf st hg
    subst hP hw hK
    have hg : i = n := hg
    obtain ⟨f0, f1, f2, f3, f4, f5⟩ := hf it (by simp)
    have st2 := st.2
    rw [show (n : Int) - 1 - (i : Int) = -1 by omega] at st2
    exact pyEnd_revT st2 (I.ok.hd hc) fun h' k eb => ⟨rfl, I.turned (t' := k) (fun b o hb e => eb b o hb e) f0 f1 f3 f4 f5⟩
  self := fun _ _ _ _ _ st h => pyIter_revT st.2 h
section
variable {X : Cx}
def iRvT (K : PySem.W.Frag) (ta : TA) : TI := fun σ H R => ta σ H fun vs H1 => ∃ a xs, vs = [.ref a] ∧ SqT K H1 a xs ∧ R (ItRv K a xs.length) H1
theorem pi_revT {tg e : Expr} {ta : TA} {p pos : Pos} (hg : Gl X "reversed") (hm : X.mg "reversed" = none) (ha : PA X [e] ta) (h1 : isStar e = false) : PI X tg (.Call (.Name "reversed" p) [e] [] pos) (iRvT X.K ta) := by
  intro pins s σ H R I h
  refine Call_ (ld_blt I hg hm boot_reversed (PyProof.Rows.callWith_type1 (thn (ha pos pins s σ H _ I h) fun us s1 ⟨vs, H1, I1, r1, a, xs, e, hq, q⟩ => ?_) (star_of h1) rfl))
  subst e
  obtain ⟨u, rfl, rfl⟩ := vals1 r1
  obtain ⟨its, rv, pp, hz⟩ := I1.tuple hq
  have hlen := rv.length
  have h63 := line63
  refine call_revT (xs := its.toArray) pp (by rw [List.size_toArray]; omega) fun k => ?_
  have g : IsRevT (s1.heap.push { cls := .type "reversed", data := .fields #[.ref a, rawInt ((its.toArray.size : Int) - 1)] }) s1.heap.objs.size a ((xs.length : Int) - 1 - ((0 : Nat) : Int)) := by
    have e : (xs.length : Int) - 1 - ((0 : Nat) : Int) = (its.toArray.size : Int) - 1 := by rw [List.size_toArray]; omega
    rw [e]
    exact Heap.get?_push_size _ rfl
  refine pyIter_revT (s := { s1 with heap := s1.heap.push { cls := .type "reversed", data := .fields #[.ref a, rawInt ((its.toArray.size : Int) - 1)] }, toks := k }) g ?_
  refine ⟨s1.heap.objs.size, [s1.heap.objs.size], _, _, H1, rfl, I1.kept (t' := k) fun b o e => Heap.get?_push_of_some _ e, turn_revT a _ xs.length, ⟨Nat.zero_le _, g⟩, fun b hb => ?_, q⟩
  obtain rfl : b = s1.heap.objs.size := by simpa using hb
  exact I1.fpOk (Nat.le_refl _) (I1.hok.fresh (Nat.le_refl _))
end
theorem fixRv {K : PySem.W.Frag} {a : Addr} {xs : List V} : Fix (ItRv K a xs.length) xs.length (fun H => SqT K H a xs) (fun i H v H' => H' = H ∧ xs[xs.length - 1 - i]? = some v) :=
  ⟨fun i H ok h => let ⟨x, e⟩ := at_lt (xs := xs) (i := xs.length - 1 - i) (by omega); ⟨xs, x, ok, rfl, h, e⟩, fun H ok => rfl, fun i H v H' ok _ y => ⟨y.1, y.2 _ ok⟩⟩
end L2

set_option Elab.async false
set_option linter.all false
set_option maxRecDepth 100000
/-! a thing in a tuple of things; three comparisons in a row; reversed(range(n)); written dicts behind a veil -/
namespace L2
open PySem PySem.Spec PyProof.Rows
section
variable {X : Cx}
def rInDp (n : Nat) (neg : Bool) : R2 := fun x y H Q => ∃ d ds a xs, Deep H x d ∧ y = .ref a ∧ H a = some (.tup xs) ∧ Deeps H xs ds ∧ (∀ e ∈ ds, e.depth ≤ n) ∧ Q (.bl (if neg then !(ds.any fun e => e.eqb d) else ds.any fun e => e.eqb d)) H
open Classical in
theorem inDp_fn {pins : List (Addr × Obj)} {σ : St} {H : Hp} {s : Shared} (I : Inv X pins σ H s) {n : Nat} {d : Dv} {x : V} {v : Value} (hu : X.A.units + 1 + n < cLine) (hx : Deep H x d) (rx : RelV x v) :
    ∃ f : Value → Bool, ∀ (its : List Value) (xs : List V) (ds : List Dv), Deeps H xs ds → Vals xs its → (∀ e ∈ ds, e.depth ≤ n) → (∀ y, y ∈ its → SeqAt.EqAt X.A.in1 s y v (f y)) ∧ its.any f = ds.any fun e => e.eqb d := by
  refine ⟨fun y => decide (∃ z e, RelV z y ∧ Deep H z e ∧ e.eqb d = true), ?_⟩
  intro its xs ds t rv
  induction rv generalizing ds with
  | nil =>
    cases t
    exact fun _ => ⟨fun y hy => (by simp at hy), rfl⟩
  | @cons z y zs ys rz rr ih =>
    cases t with
    | @cons _ e _ es de dt =>
      intro hd
      obtain ⟨h1, h2⟩ := ih es dt fun e he => hd e (List.mem_cons_of_mem _ he)
      have hf : decide (∃ z e, RelV z y ∧ Deep H z e ∧ e.eqb d = true) = e.eqb d := by
        by_cases h : e.eqb d = true
        · rw [h]
          exact decide_eq_true ⟨z, e, rz, de, h⟩
        · rw [decide_eq_false, (Bool.not_eq_true _).mp h]
          rintro ⟨z2, e2, r2, d2, q2⟩
          obtain rfl := RelV.inj r2 rz
          rw [Deep.inj I d2 de] at q2
          exact h q2
      constructor
      · intro w hw
        rcases List.mem_cons.mp hw with rfl | hw
        · show SeqAt.EqAt X.A.in1 s w v (decide (∃ z e, RelV z w ∧ Deep H z e ∧ e.eqb d = true))
          rw [hf]
          exact Deep.at I n e d z x (hd e List.mem_cons_self) de hx hu rz rx
        · exact h1 w hw
      · rw [List.any_cons, List.any_cons, h2, hf]
theorem op_notInDp {n : Nat} (hu : X.A.units + 1 + n < cLine) : OpR X (compareOp .NotIn) (rInDp n true) := by
  intro pins s σ H x y v u Q I rx ry h
  obtain ⟨d, ds, a, xs, hx, rfl, ha, t, hd, q⟩ := h
  cases ry
  obtain ⟨its, r, pl, hz⟩ := I.tuple (.inl (.inl ha))
  obtain ⟨f, hf⟩ := inDp_fn I hu hx rx
  obtain ⟨h1, h2⟩ := hf its xs ds t r hd
  refine SeqAt.notIn_tupleAt f pl (fun w hw => h1 w (by simpa using hw)) ⟨.bl _, H, I, rfl, ?_⟩
  rw [show its.toArray.any f = its.any f by simp, h2]
  exact q
theorem hd7_of {A : Around} {k : Nat} (hr : Room k A) : A.units + 1 + 7 < cLine := Nat.lt_of_le_of_lt (by omega : A.units + 1 + 7 ≤ A.units + 64) hr.units
theorem hd16_of {A : Around} {k : Nat} (hr : Room k A) : A.units + 16 < cLine := Nat.lt_of_le_of_lt (by omega : A.units + 16 ≤ A.units + 64) hr.units
/-- a r1 b r2 c r3 d -/
def tChain3 (r r' r'' : R2) (ta tb tc td : TE) : TE := fun σ H Q => ta σ H fun x H1 => tb σ H1 fun y H2 => r x y H2 fun z H3 => ∃ k, z = .bl k ∧
  (if k = true then tc σ H3 fun w' H4 => r' y w' H4 fun z2 H5 => ∃ k2, z2 = .bl k2 ∧ (if k2 = true then td σ H5 fun w2 H6 => r'' w' w2 H6 Q else Q (.bl false) H5) else Q (.bl false) H3)
theorem pt_chain3 {a b c d : Expr} {ta tb tc td : TE} {pos : Pos} {op op' op'' : CmpOp} {r r' r'' : R2} (ho : OpR X (compareOp op) r) (ho' : OpR X (compareOp op') r') (ho'' : OpR X (compareOp op'') r'') (ha : PE X a ta) (hb : PE X b tb) (hc : PE X c tc) (hd : PE X d td)
    (hm : lastMarks [op, op', op''] [b, c, d] = false := by with_unfolding_all rfl) : PT X (.Compare a [op, op', op''] [b, c, d] pos) (tTest (tChain3 r r' r'' ta tb tc td)) := by
  intro pins s σ H Q I h
  refine isTrue_chain (thn (ha pins s σ H _ I h) fun v s1 ⟨x, H1, I1, r1, q1⟩ => test_link (thn (hb pins s1 σ H1 _ I1 q1) fun u s2 ⟨y, H2, I2, r2, q2⟩ =>
    thn (ho pins s2 σ H2 x y v u _ I2 r1 r2 q2) fun d1 s3 ⟨z, H3, I3, r3, k, e, q3⟩ => ?_)) hm
  subst e
  cases r3
  refine wpAny_truthy_bool ?_
  cases k with
  | false =>
    obtain ⟨k', e', q'⟩ := q3
    cases e'
    exact ite_ff ⟨H3, I3, q'⟩
  | true =>
    refine ite_tt (test_link (thn (hc pins s3 σ H3 _ I3 q3) fun w' s4 ⟨z', H4, I4, r4, q4⟩ => thn (ho' pins s4 σ H4 y z' u w' _ I4 r2 r4 q4) fun d' s5 ⟨z2, H5, I5, r5, k2, e2, q5⟩ => ?_))
    subst e2
    cases r5
    refine wpAny_truthy_bool ?_
    cases k2 with
    | false =>
      obtain ⟨k', e', q'⟩ := q5
      cases e'
      exact ite_ff ⟨H5, I5, q'⟩
    | true =>
      refine ite_tt (test_last (thn (hd pins s5 σ H5 _ I5 q5) fun w2 s6 ⟨z3, H6, I6, r6, q6⟩ => thn (ho'' pins s6 σ H6 z' z3 w' w2 _ I6 r4 r6 q6) fun d2 s7 ⟨z4, H7, I7, r7, k3, e3, q7⟩ => ?_))
      subst e3
      cases r7
      exact wpAny_truthy_bool ⟨H7, I7, q7⟩
/-- reversed(range(n)) -/
theorem pi_rev1 {tg a : Expr} {ta : TA} {p p2 pos pos2 : Pos} (hg : Gl X "reversed") (hm : X.mg "reversed" = none) (hg2 : Gl X "range") (hm2 : X.mg "range" = none) (ha : PA X [a] ta) (h1 : isStar a = false) :
    PI X tg (.Call (.Name "reversed" p) [.Call (.Name "range" p2) [a] [] pos2] [] pos) (iRev (fun σ H Q => ta σ H fun vs H1 => Q (.int 0 :: vs) H1)) := by
  intro pins s σ H R I h
  have hs3 : starEach [.Call (.Name "range" p2) [a] [] pos2] X.env = [(false, eval (.Call (.Name "range" p2) [a] [] pos2) X.env)] := rfl
  refine Call_ (ld_blt I hg hm boot_reversed (PyProof.Rows.callWith_type1 ?_ hs3 rfl))
  rw [hs3]
  show wpAny _ _ (spliced ((false, eval (.Call (.Name "range" p2) [a] [] pos2) X.env) :: [])) _ _ s
  refine Calls.spliced_cons ?_
  refine Call_ (ld_blt I hg2 hm2 boot_range (PyProof.Rows.callWith_type1 (thn (ha pos2 pins s σ H _ I h) fun us s1 ⟨vs, H1, I1, r1, i, j, e, bd, q⟩ => ?_) (star_of h1) rfl))
  obtain ⟨rfl, rfl⟩ : (0 : Int) = i ∧ vs = [.int j] := by
    injection e with e1 e2
    injection e1 with e1
    exact ⟨e1, e2⟩
  obtain ⟨v1, rfl, ⟨t, rfl⟩⟩ := vals1 r1
  refine call_range_1 (Calls.spliced_nil ?_)
  have I2 : Inv X pins σ H1 { s1 with heap := s1.heap.push { cls := .type "range", data := .fields #[.int 0 s1.toks, .int j t, .int 1 (s1.toks + 1)] }, toks := s1.toks + 1 + 1 } := I1.kept fun b o e => Heap.get?_push_of_some _ e
  refine call_rev_rng (s := { s1 with heap := s1.heap.push { cls := .type "range", data := .fields #[.int 0 s1.toks, .int j t, .int 1 (s1.toks + 1)] }, toks := s1.toks + 1 + 1 }) (IsRange.new ..) bd ?_
  generalize hS2 : ({ s1 with heap := s1.heap.push { cls := .type "range", data := .fields #[.int 0 s1.toks, .int j t, .int 1 (s1.toks + 1)] }, toks := s1.toks + 1 + 1 } : Shared) = s2 at I2
  have hit : IsRangeIter (s2.heap.push (rvO 0 j)) s2.heap.objs.size (0 + ((j - 0).toNat : Nat) - 1 + ((0 : Nat) : Int) * (-1)) ((((j - 0).toNat : Nat) : Int) - ((0 : Nat) : Int)) (-1) := by
    have e1 : 0 + ((j - 0).toNat : Nat) - 1 + ((0 : Nat) : Int) * (-1) = 0 + (Builtin.Range.rangeSize 0 j 1 - 1) * 1 := by rw [size_up]; simp
    have e2 : (((j - 0).toNat : Nat) : Int) - ((0 : Nat) : Int) = Builtin.Range.rangeSize 0 j 1 := by rw [size_up]; simp
    rw [e1, e2]
    exact Heap.get?_push_size _ rfl
  refine wpAny_pyIter_rangeiter (s := { s2 with heap := s2.heap.push (rvO 0 j) }) hit ?_
  refine ⟨s2.heap.objs.size, [s2.heap.objs.size], _, _, H1, rfl, I2.kept (t' := s2.toks) fun b o e => Heap.get?_push_of_some _ e, turn_range3 _ _ (-1) _, hit, fun b hb => ?_, q⟩
  obtain rfl : b = s2.heap.objs.size := by simpa using hb
  exact I2.fpOk (Nat.le_refl _) (I2.hok.fresh (Nat.le_refl _))
/-! written dicts -/
structure PPx (X : Cx) (pos : Pos) (ks : List (Option Expr)) (vs : List Expr) (trs : List (TE × TE)) : Prop where
  pp : PPs X pos ks vs trs
theorem ppx_nil {pos : Pos} : PPx X pos [] [] [] := ⟨pps_nil⟩
theorem ppx_cons {pos : Pos} {k v : Expr} {ks : List (Option Expr)} {vs : List Expr} {tk tv : TE} {trs : List (TE × TE)} (hk : PEx X k tk) (hv : PEx X v tv) (h : PPx X pos ks vs trs) : PPx X pos (some k :: ks) (v :: vs) ((tk, tv) :: trs) := ⟨pps_cons hk.pe hv.pe h.pp⟩
theorem pex_dispN {pos : Pos} {ks : List (Option Expr)} {vs : List Expr} {trs : List (TE × TE)} (h : PPx X pos ks vs trs) (hall : ks.all (·.isSome) = true) (hl : ks.length = vs.length) (h0 : ks ≠ []) (h15 : ks.length ≤ 15) : PEx X (.Dict ks vs pos) (tDisp trs) := ⟨pe_disp h.pp hall hl h0 h15⟩
theorem pex_dget {o i : Expr} {pos : Pos} {td ty : TE} (hu : X.A.units + 1 < cLine) (ho : PEx X o td) (hi : PEx X i ty) (hs : NoSl i) : PEx X (.Subscript o i pos) (tDGet td ty) := ⟨pe_dget hu ho.pe hi.pe hs⟩
end
end L2

set_option Elab.async false
set_option linter.all false
set_option maxRecDepth 100000
namespace Lw
open PySem PySem.Spec PyProof.Rows L2 K02 K04
open Builtin Builtin.Str StrLaws
/-! ### layouts -/
inductive Ly where
  | box (nm : Str) (p : Nat)
  | grp (nm : Str) (its : List (Bool × Ly))
  | tab (nm : Str) (k : Nat) (its : List (Bool × Ly))
def picS : Nat → Str
  | 0 => "9(3)" | 1 => "S99V9" | 2 => "X(4)" | 3 => "AA" | 4 => "Z9.9" | _ => "X"
def szP : Nat → Nat
  | 0 => 3 | 1 => 3 | 2 => 4 | 3 => 2 | 4 => 4 | _ => 1
mutual
def Ly.dv : Ly → Dv
  | .box nm p => .tup [.str "box", .str nm, .str (picS p)]
  | .grp nm its => .tup [.str "group", .str nm, .tup (dvL its)]
  | .tab nm k its => .tup [.str "table", .str nm, .int (k : Nat), .tup (dvL its)]
def dvL : List (Bool × Ly) → List Dv
  | [] => []
  | x :: xs => dvI x :: dvL xs
def dvI : Bool × Ly → Dv
  | (ov, y) => if ov = true then .tup [.str "over", y.dv] else y.dv
end
mutual
def Ly.sz : Ly → Nat
  | .box _ p => szP p
  | .grp _ its => szL its
  | .tab _ k its => szL its * k
def szL : List (Bool × Ly) → Nat
  | [] => 0
  | x :: xs => szI x + szL xs
def szI : Bool × Ly → Nat
  | (ov, y) => if ov = true then 0 else y.sz
end
mutual
def Ly.cn : Ly → Nat
  | .box _ _ => 1
  | .grp _ its => 1 + cnL its
  | .tab _ _ its => 1 + cnL its
def cnL : List (Bool × Ly) → Nat
  | [] => 0
  | x :: xs => cnI x + cnL xs
def cnI : Bool × Ly → Nat
  | (_, y) => y.cn
end
mutual
def Ly.okK : Ly → Prop
  | .box _ _ => True
  | .grp _ its => okL its
  | .tab _ k its => k ≤ 1000 ∧ okL its
def okL : List (Bool × Ly) → Prop
  | [] => True
  | x :: xs => okI x ∧ okL xs
def okI : Bool × Ly → Prop
  | (_, y) => y.okK
end
theorem okL_at : ∀ {its : List (Bool × Ly)} {j : Nat} {x : Bool × Ly}, okL its → its[j]? = some x → okI x
  | [], _, _, _, h => by simp at h
  | y :: ys, 0, x, o, h => by
    rw [okL] at o
    have : y = x := by simpa using h
    subst this
    exact o.1
  | y :: ys, j + 1, x, o, h => by
    rw [okL] at o
    exact okL_at (its := ys) (j := j) o.2 (by simpa using h)
theorem dvL_map : ∀ its : List (Bool × Ly), dvL its = its.map dvI
  | [] => rfl
  | x :: xs => by rw [dvL, dvL_map xs]; rfl
theorem Ly.cn_pos (y : Ly) : 1 ≤ y.cn := by cases y <;> rw [Ly.cn] <;> omega
theorem cnI_pos (x : Bool × Ly) : 1 ≤ cnI x := by obtain ⟨o, y⟩ := x; rw [cnI]; exact y.cn_pos
theorem len_cn : ∀ its : List (Bool × Ly), its.length ≤ cnL its
  | [] => Nat.zero_le _
  | x :: xs => by
    have := len_cn xs
    have := cnI_pos x
    rw [List.length_cons, cnL]
    omega
/-- the six pictures -/
theorem pic_self {l : List Nat} {x : Facts} {z : Str} {n : Nat} (e : z = tx l) (h1 : picture l = some x) (h2 : 40 ∉ l) (h3 : l.length ≤ 100) (h4 : (l.filter noSV).length = n) : ∃ (a l : List Nat) (x : Facts), z = tx l ∧ PicAt a l x ∧ (a.filter noSV).length = n :=
  ⟨l, l, x, e, ⟨h1, sh_self l h2, h2, h3, by omega⟩, h4⟩
theorem pic_brk {c d m : Nat} {x : Facts} {z : Str} (e : z = tx [c, 40, d, 41]) (h1 : picture [c, 40, d, 41] = some x) (hc : c ≠ 40) (hn : Num [d] (m + 1)) (hm : m ≤ 50) (h4 : noSV c = true) : ∃ (a l : List Nat) (x : Facts), z = tx l ∧ PicAt a l x ∧ (a.filter noSV).length = m + 1 := by
  refine ⟨List.replicate (m + 1) c, _, x, e, ⟨h1, ?_, ?_, by rw [List.length_replicate]; omega, (show 4 ≤ 500 by decide)⟩, ?_⟩
  · exact Sh.brk m Sh.nil hc hn
  · intro h
    exact hc (List.eq_of_mem_replicate h).symm
  · rw [List.filter_eq_self.mpr (fun y hy => by rw [List.eq_of_mem_replicate hy]; exact h4), List.length_replicate]
theorem pic_size (p : Nat) : ∃ (a l : List Nat) (x : Facts), picS p = tx l ∧ PicAt a l x ∧ (a.filter noSV).length = szP p := by
  unfold picS szP
  split
  · exact pic_brk (c := 57) (d := 51) (m := 2) (by decide +kernel) (by first | rfl | decide +kernel) (by decide) ⟨by decide, (fun x hx => by obtain rfl := List.mem_singleton.mp hx; decide), by decide, by decide⟩ (by decide) (by decide)
  · exact pic_self (l := [83, 57, 57, 86, 57]) (by decide +kernel) (by first | rfl | decide +kernel) (by decide) (by decide) (by decide)
  · exact pic_brk (c := 88) (d := 52) (m := 3) (by decide +kernel) (by first | rfl | decide +kernel) (by decide) ⟨by decide, (fun x hx => by obtain rfl := List.mem_singleton.mp hx; decide), by decide, by decide⟩ (by decide) (by decide)
  · exact pic_self (l := [65, 65]) (by decide +kernel) (by first | rfl | decide +kernel) (by decide) (by decide) (by decide)
  · exact pic_self (l := [90, 57, 46, 57]) (by decide +kernel) (by first | rfl | decide +kernel) (by decide) (by decide) (by decide)
  · exact pic_self (l := [88]) (by decide +kernel) (by first | rfl | decide +kernel) (by decide) (by decide) (by decide)
/-- a list that grows and shrinks -/
structure LsSt (Hb H : Hp) (q : Addr) (xs : List V) (acc : List Dv) : Prop where
  S : Same Hb H
  f : Hb q = none
  g : H q = some (.lst xs)
  t : Deeps H xs acc
theorem same_off {H H2 : Hp} {l : Addr} {o : HO} (S : Same H H2) (h : H l = none) : Same H (upd H2 l o) := fun b o' e => by rw [upd_ne (ne_of_none e h)]; exact S _ _ e
theorem LsSt.same {Hb H H' : Hp} {q : Addr} {xs : List V} {acc : List Dv} (B : LsSt Hb H q xs acc) (S : Same H H') : LsSt Hb H' q xs acc := ⟨B.S.trans S, B.f, S _ _ B.g, B.t.same S⟩
theorem LsSt.put {Hb H : Hp} {q : Addr} {xs ys : List V} {acc acc' : List Dv} (B : LsSt Hb H q xs acc) (t : Deeps H ys acc') : LsSt Hb (upd H q (.lst ys)) q ys acc' := ⟨same_off B.S B.f, B.f, upd_same, t.updL B.g (fun zs z => nomatch z)⟩
section
variable {P : Program} {w : World} {K : PySem.W.Frag} {mg : Str → Option Value} {base : Heap} {f : Addr} {fd : FuncData} {tk : Nat → Tok} {c kr : Nat → Addr}
/-- the first word of an item, and what is behind it -/
def Ly.word : Ly → Str
  | .box _ _ => "box"
  | .grp _ _ => "group"
  | .tab _ _ _ => "table"
def Ly.name : Ly → Str
  | .box nm _ => nm
  | .grp nm _ => nm
  | .tab nm _ _ => nm
theorem box_at {H : Hp} {v : V} {nm : Str} {p : Nat} (h : Deep H v (Ly.box nm p).dv) : ∃ a, v = .ref a ∧ H a = some (.tup [.str "box", .str nm, .str (picS p)]) := by
  rw [Ly.dv] at h
  obtain ⟨a, xs, rfl, g, t⟩ := Deep.tup' h
  cases t with
  | cons p1 t => cases t with
    | cons p2 t => cases t with
      | cons p3 t =>
        cases t
        obtain rfl := p1.str'
        obtain rfl := p2.str'
        obtain rfl := p3.str'
        exact ⟨a, rfl, g⟩
theorem grp_at {H : Hp} {v : V} {nm : Str} {its : List (Bool × Ly)} (h : Deep H v (Ly.grp nm its).dv) : ∃ a x, v = .ref a ∧ H a = some (.tup [.str "group", .str nm, x]) ∧ Deep H x (.tup (dvL its)) := by
  rw [Ly.dv] at h
  obtain ⟨a, xs, rfl, g, t⟩ := Deep.tup' h
  cases t with
  | cons p1 t => cases t with
    | cons p2 t => cases t with
      | cons p3 t =>
        cases t
        obtain rfl := p1.str'
        obtain rfl := p2.str'
        exact ⟨a, _, rfl, g, p3⟩
theorem tab_at {H : Hp} {v : V} {nm : Str} {k : Nat} {its : List (Bool × Ly)} (h : Deep H v (Ly.tab nm k its).dv) : ∃ a x, v = .ref a ∧ H a = some (.tup [.str "table", .str nm, .int (k : Nat), x]) ∧ Deep H x (.tup (dvL its)) := by
  rw [Ly.dv] at h
  obtain ⟨a, xs, rfl, g, t⟩ := Deep.tup' h
  cases t with
  | cons p1 t => cases t with
    | cons p2 t => cases t with
      | cons p3 t => cases t with
        | cons p4 t =>
          cases t
          obtain rfl := p1.str'
          obtain rfl := p2.str'
          obtain rfl := p3.int'
          exact ⟨a, _, rfl, g, p4⟩
theorem over_at {H : Hp} {v : V} {y : Ly} (h : Deep H v (dvI (true, y))) : ∃ a x, v = .ref a ∧ H a = some (.tup [.str "over", x]) ∧ Deep H x y.dv := by
  rw [dvI, if_pos rfl] at h
  obtain ⟨a, xs, rfl, g, t⟩ := Deep.tup' h
  cases t with
  | cons p1 t => cases t with
    | cons p2 t =>
      cases t
      obtain rfl := p1.str'
      exact ⟨a, _, rfl, g, p2⟩
/-- any item: its word first -/
theorem ly_at {H : Hp} {v : V} {y : Ly} (h : Deep H v y.dv) : ∃ a xs, v = .ref a ∧ H a = some (.tup (.str y.word :: .str y.name :: xs)) := by
  cases y with
  | box nm p => obtain ⟨a, rfl, g⟩ := box_at h; exact ⟨a, _, rfl, g⟩
  | grp nm its => obtain ⟨a, x, rfl, g, _⟩ := grp_at h; exact ⟨a, _, rfl, g⟩
  | tab nm k its => obtain ⟨a, x, rfl, g, _⟩ := tab_at h; exact ⟨a, _, rfl, g⟩
theorem w_bo : decide (V.str "box" = V.str "over") = false := by decide +kernel
theorem w_go : decide (V.str "group" = V.str "over") = false := by decide +kernel
theorem w_to : decide (V.str "table" = V.str "over") = false := by decide +kernel
theorem w_gb : decide (V.str "group" = V.str "box") = false := by decide +kernel
theorem w_tb : decide (V.str "table" = V.str "box") = false := by decide +kernel
theorem w_tg : decide (V.str "table" = V.str "group") = false := by decide +kernel
theorem w_ob : decide (V.str "over" = V.str "box") = false := by decide +kernel
theorem w_og : decide (V.str "over" = V.str "group") = false := by decide +kernel
theorem w_ot : decide (V.str "over" = V.str "table") = false := by decide +kernel
theorem w_bt : decide (V.str "box" = V.str "table") = false := by decide +kernel
theorem w_gt : decide (V.str "group" = V.str "table") = false := by decide +kernel
theorem word_over (y : Ly) : decide (V.str y.word = V.str "over") = false := by
  cases y with
  | box nm p => exact w_bo
  | grp nm its => exact w_go
  | tab nm k its => exact w_to
def spBare : Sp := fun vs H Q _ => ∃ (v : V) (o : Bool) (y : Ly), vs = [v] ∧ Deep H v (dvI (o, y)) ∧ ∀ u, Deep H u y.dv → Q u H
theorem ok_bare (F : Fun K "bare" "bare" s_bare f fd) : FnOk P w K mg base (CXE P w) 1 f fd ["item"] spBare := by
  refine okNx F sc_bare (fun vs H Q E h => ?_) (fun cdv A outer s H vs Q E hr h => ?_)
  · obtain ⟨v, o, y, rfl, _⟩ := h
    rfl
  · obtain ⟨v, o, y, rfl, D, k⟩ := h
    refine ⟨_, (psx_one (psy_ret (pex_if (pt_cmpR op_eq (pe_ix ix_tupR (pv 0) pe_int (fun _ _ => rfl)) pe_str (nomark _)) (PEx.mk (pe_ix ix_tupR (pv 0) pe_int (fun _ _ => rfl))) (PEx.mk (pv 0))))), ?_⟩
    cases o with
    | true =>
      obtain ⟨a, x, rfl, g, D2⟩ := over_at D
      exact ⟨_, rfl, a, _, 0, _, rfl, rfl, .inl g, rfl, rfl, true, rfl, iteT ⟨_, rfl, a, _, 1, _, rfl, rfl, .inl g, rfl, k _ D2⟩⟩
    | false =>
      have D : Deep H v y.dv := by rw [dvI, if_neg (by decide)] at D; exact D
      obtain ⟨a, xs, rfl, g⟩ := ly_at D
      exact ⟨_, rfl, a, _, 0, _, rfl, rfl, .inl g, atI_nat (j := 0) rfl, rfl, false, by rw [word_over], iteF ⟨_, rfl, k _ D⟩⟩
/-- the stack of what is still to be counted -/
def stD (x : List (Bool × Ly) × Nat) : Dv := .tup [.tup (dvL x.1), .int (x.2 : Nat)]
def wS : List (List (Bool × Ly) × Nat) → Nat
  | [] => 0
  | x :: xs => szL x.1 * x.2 + wS xs
def cS : List (List (Bool × Ly) × Nat) → Nat
  | [] => 0
  | x :: xs => (1 + cnL x.1) + cS xs
theorem wS_app : ∀ a b, wS (a ++ b) = wS a + wS b
  | [], b => by rw [List.nil_append, wS]; omega
  | x :: a, b => by rw [List.cons_append, wS, wS, wS_app a b]; omega
theorem cS_app : ∀ a b, cS (a ++ b) = cS a + cS b
  | [], b => by rw [List.nil_append, cS]; omega
  | x :: a, b => by rw [List.cons_append, cS, cS, cS_app a b]; omega
theorem len_cS : ∀ st, st.length ≤ cS st
  | [] => Nat.zero_le _
  | x :: xs => by
    have := len_cS xs
    rw [List.length_cons, cS]
    omega
def spSigns : Sp := fun vs H Q _ => ∃ (v : V) (its : List (Bool × Ly)), vs = [v] ∧ Deep H v (.tup (dvL its)) ∧ cnL its ≤ 10000 ∧ okL its ∧ ∀ H', Same H H' → Q (.int (szL its : Nat)) H'
theorem szL_at {its : List (Bool × Ly)} {j : Nat} {x : Bool × Ly} (h : its[j]? = some x) : szL (its.drop j) = szI x + szL (its.drop (j + 1)) ∧ cnL (its.drop j) = cnI x + cnL (its.drop (j + 1)) := by
  have hl := (List.getElem?_eq_some_iff.mp h).1
  rw [List.drop_eq_getElem_cons hl, (List.getElem?_eq_some_iff.mp h).2, szL, cnL]
  exact ⟨rfl, rfl⟩
set_option maxHeartbeats 2000000 in
theorem ok_signs_in (F : Fun K "signs_in" "signs_in" s_signs_in f fd) (D_size_of : Def P w K mg base 7 "size_of" ["picture"] spSize) : FnOk P w K mg base (CXE P w) 8 f fd ["layout"] spSigns := by
  refine okNx F sc_signs_in (fun vs H Q E h => ?_) (fun cdv A outer s H vs Q E hr h => ?_)
  · obtain ⟨v, its, rfl, _⟩ := h
    rfl
  · obtain ⟨v, its, rfl, D, hc, hok, k⟩ := h
    have hz : 100000 ≤ sizeLine := by rw [sizeLine_eq]; decide
    refine ⟨_, (psx_cons (psy_set (i := 1) sc_signs_in.nd rfl (Or.inl rfl) (PEx.mk pe_int) rfl rfl)
      (psx_cons (psy_set (i := 2) sc_signs_in.nd rfl (Or.inl rfl) (pex_lst (pax_c (pex_tup (pax_c (PEx.mk (pv 0)) (pax_c (PEx.mk pe_int) pax_nil rfl) rfl)) pax_nil rfl)) rfl rfl)
      (psx_cons (PSy.mk (ps_while PassesOwn.never (pt_truth (pv 2) (fun _ => rfl)) (pss_cons (ps_asg (pe_bm0 PySem.F.plainAttrs_list PySem.F.slot_list_pop PySem.F.type_list_pop mt_pop (pv 2)) (pg_tup rfl (pgs_cons (pg_name (i := 3) sc_signs_in.nd rfl (Or.inl rfl)) (pgs_cons (pg_name (i := 4) sc_signs_in.nd rfl (Or.inl rfl)) pgs_nil))))
      (pss_one (ps_for PassesOwn.never rfl (pi_tup (pv 3)) (pg_name (i := 5) sc_signs_in.nd rfl (Or.inl rfl)) (pss_one (ps_if (pt_cmpR op_eq (pe_ix ix_tupR (pv 5) pe_int (fun _ _ => rfl)) pe_str (nomark _)) (pss_one (ps_aug (i := 1) sc_signs_in.nd rfl (Or.inl rfl) (pe_op op_mul (pv 4) (D_size_of.pe hr (by decide) rfl passE0 (pa_c (pe_ix ix_tupR (pv 5) pe_int (fun _ _ => rfl)) pa_nil))) ip_add)) (pss_one (ps_if (pt_cmpR op_eq (pe_ix ix_tupR (pv 5) pe_int (fun _ _ => rfl)) pe_str (nomark _)) (pss_one (ps_expr (pe_bm PySem.F.plainAttrs_list PySem.F.slot_list_append PySem.F.type_list_append mt_append (pv 2) (pa_c (pe_tup (pa_c (pe_ix ix_tupR (pv 5) pe_int (fun _ _ => rfl)) (pa_c (pv 4) pa_nil))) pa_nil)))) (pss_one (ps_if (pt_cmpR op_eq (pe_ix ix_tupR (pv 5) pe_int (fun _ _ => rfl)) pe_str (nomark _)) (pss_one (ps_expr (pe_bm PySem.F.plainAttrs_list PySem.F.slot_list_append PySem.F.type_list_append mt_append (pv 2) (pa_c (pe_tup (pa_c (pe_ix ix_tupR (pv 5) pe_int (fun _ _ => rfl)) (pa_c (pe_op op_mul (pv 4) (pe_ix ix_tupR (pv 5) pe_int (fun _ _ => rfl))) pa_nil))) pa_nil)))) pss_nil)))))))))))
      (psx_one (psy_ret (PEx.mk (pv 1))))))), ?_⟩
    dsimp only [gName, tAsg, tSeq, tNext]
    refine ⟨_, rfl, by show 2 ≤ sizeLine; omega, fun p hp => ⟨by show 1 ≤ sizeLine; omega, fun lf hlf => ?_⟩⟩
    have S1 := Same.new (o := .tup [v, .int 1]) hp
    have hf0 : H lf = none := by
      cases e : H lf with
      | none => rfl
      | some o => rw [S1 _ _ e] at hlf; cases hlf
    have B1 : LsSt H (upd (upd H p (.tup [v, .int 1])) lf (.lst [.ref p])) lf [.ref p] ([(its, 1)].map stD) := by
      have S2 := Same.new (o := .lst [V.ref p]) hlf
      exact ⟨S1.trans S2, hf0, upd_same, .cons ((Deep.tup upd_same (.cons (D.same S1) (.cons .int .nil))).same S2) .nil⟩
    generalize upd (upd H p (.tup [v, .int 1])) lf (.lst [.ref p]) = H1 at B1
    clear S1 hlf hp
    refine ⟨fun m σ H2 => ∃ (n : Nat) (xs : List V) (st : List (List (Bool × Ly) × Nat)) (y3 y4 y5 : Option V), σ = [some v, some (.int (n : Nat)), some (.ref lf), y3, y4, y5] ∧ LsSt H H2 lf xs (st.map stD) ∧ n + wS st = szL its ∧ cS st ≤ m ∧ m ≤ 20000 ∧ ∀ e ∈ st, okL e.1, ⟨20000, 0, _, _, none, none, none, rfl, B1, by simp [wS], by simp only [cS]; omega, Nat.le_refl _, fun e he => by rw [List.mem_singleton.mp he]; exact hok⟩, ?_⟩
    clear B1
    rintro m σ H2 ⟨n, xs, st, y3, y4, y5, rfl, B, hw, hcs, hm, hst⟩
    have lxs := B.t.length
    rw [List.length_map] at lxs
    have lst := len_cS st
    rcases List.eq_nil_or_concat st with rfl | ⟨st0, e0, rfl⟩
    · have e : xs = [] := List.eq_nil_of_length_eq_zero (by simpa using lxs)
      subst e
      refine ⟨_, rfl, false, .inl ⟨_, .inl (.inl B.g), rfl⟩, iteF ⟨_, rfl, ?_⟩⟩
      rw [wS, Nat.add_zero] at hw
      rw [hw]
      exact k _ B.S
    rw [List.concat_eq_append] at B hw hcs lxs lst
    rw [List.concat_eq_append] at hst
    obtain ⟨its0, t0⟩ := e0
    have hok0 : okL its0 := hst _ (List.mem_append_right _ List.mem_cons_self)
    have hst0 : ∀ e ∈ st0, okL e.1 := fun e he => hst e (List.mem_append_left _ he)
    rw [wS_app] at hw
    rw [cS_app] at hcs
    have hw : n + (wS st0 + (szL its0 * t0 + 0)) = szL its := hw
    have hcs : cS st0 + ((1 + cnL its0) + 0) ≤ m := hcs
    rw [List.map_append] at B
    obtain ⟨xs0, xl, rfl, t1, Dl⟩ : ∃ xs0 xl, xs = xs0 ++ [xl] ∧ Deeps H2 xs0 (st0.map stD) ∧ Deep H2 xl (stD (its0, t0)) := by
      rcases List.eq_nil_or_concat xs with rfl | ⟨xs0, xl, rfl⟩
      · simp at lxs
      · rw [List.concat_eq_append] at B ⊢
        have l0 : xs0.length = (st0.map stD).length := by
          have := B.t.length
          rw [List.length_append, List.length_append] at this
          simpa using this
        have ht := B.t.take xs0.length
        have hd := B.t.drop xs0.length
        rw [List.take_left' rfl, l0, List.take_left' rfl] at ht
        rw [List.drop_left' rfl, l0, List.drop_left' rfl] at hd
        cases hd with
        | cons h t => exact ⟨xs0, xl, rfl, ht, h⟩
    refine ⟨_, rfl, true, .inl ⟨_, .inl (.inl B.g), by simp⟩, iteT ?_⟩
    refine ⟨fun σ' H' => ∃ m', m' < m ∧ ∃ (n : Nat) (xs : List V) (st : List (List (Bool × Ly) × Nat)) (y3 y4 y5 : Option V), σ' = [some v, some (.int (n : Nat)), some (.ref lf), y3, y4, y5] ∧ LsSt H H' lf xs (st.map stD) ∧ n + wS st = szL its ∧ cS st ≤ m' ∧ m' ≤ 20000 ∧ ∀ e ∈ st, okL e.1, fun _ _ h => h, ?_⟩
    refine ⟨_, rfl, .inl ⟨rfl, _, .inl (.inl B.g)⟩, ?_⟩
    refine ⟨lf, _, xl, rfl, rfl, B.g, by simp, ?_⟩
    have B3 : LsSt H (upd H2 lf (.lst (xs0 ++ [xl]).dropLast)) lf xs0 (st0.map stD) := by
      rw [List.dropLast_concat]
      exact B.put t1
    have Dl3 := Dl.updL (o' := .lst (xs0 ++ [xl]).dropLast) B.g (fun zs z => nomatch z)
    generalize upd H2 lf (.lst (xs0 ++ [xl]).dropLast) = H3 at B3 Dl3
    clear B Dl t1 lxs
    obtain ⟨pa, px, rfl, gp, tp⟩ := Deep.tup' (show Deep H3 xl (.tup [.tup (dvL its0), .int (t0 : Nat)]) from Dl3)
    obtain ⟨xi, rfl, Di⟩ : ∃ xi, px = [xi, .int (t0 : Nat)] ∧ Deep H3 xi (.tup (dvL its0)) := by
      cases tp with
      | cons p1 t => cases t with
        | cons p2 t =>
          cases t
          obtain rfl := p2.int'
          exact ⟨_, rfl, p1⟩
    refine ⟨pa, _, rfl, .inl (.inl gp), rfl, _, _, rfl, _, _, rfl, rfl, ?_⟩
    obtain ⟨ia, ix, rfl, gi, ti⟩ := Deep.tup' Di
    rw [dvL_map] at ti
    have lix := ti.length
    rw [List.length_map] at lix
    dsimp only [gName, tAsg, tSeq, tNext]
    refine ⟨_, rfl, ia, rfl, ⟨_, .inl (.inl gi)⟩, ?_⟩
    refine for_fix (fixT (K := K) (a := ia) (xs := ix)) (fun j σ H4 => ∃ (n' : Nat) (xs : List V) (st : List (List (Bool × Ly) × Nat)) (y5 : Option V), σ = [some v, some (.int (n' : Nat)), some (.ref lf), some (.ref ia), some (.int (t0 : Nat)), y5] ∧ LsSt H H4 lf xs (st.map stD) ∧ n' + wS st + szL (its0.drop j) * t0 = szL its ∧ cS st + cnL (its0.drop j) + 1 ≤ m ∧ H4 ia = some (.tup ix) ∧ Deeps H4 ix (its0.map dvI) ∧ ∀ e ∈ st, okL e.1) ⟨n, xs0, st0, y5, rfl, B3, by rw [List.drop_zero]; omega, by rw [List.drop_zero]; omega, gi, ti, hst0⟩ ?_ ?_ ?_
    · rintro j σ H4 _ ⟨n', xs, st, y5, rfl, _, _, _, g4, _, _⟩
      exact .inl (.inl g4)
    · rintro j x σ H40 H4 hj ⟨n', xs, st, y5, rfl, B4, hw4, hc4, g4, t4, hst4⟩ ⟨rfl, hx⟩
      obtain ⟨d, hd, Dx⟩ := t4.getX hx
      rw [List.getElem?_map] at hd
      cases eo : its0[j]? with
      | none => rw [eo] at hd; cases hd
      | some oy =>
        rw [eo] at hd
        obtain rfl := Option.some.inj hd
        obtain ⟨q1, q2⟩ := szL_at eo
        rw [q1] at hw4
        rw [q2] at hc4
        have hpos := cnI_pos oy
        have lxs := B4.t.length
        rw [List.length_map] at lxs
        have lst4 := len_cS st
        have hoky := okL_at hok0 eo
        have nia : ia ≠ lf := fun z => by rw [z, B4.g] at g4; cases g4
        obtain ⟨ov, y⟩ := oy
        cases ov with
        | true =>
          obtain ⟨a, x2, rfl, g, _⟩ := over_at Dx
          rw [szI, if_pos rfl, Nat.zero_add] at hw4
          refine ⟨_, rfl, a, _, 0, _, rfl, rfl, .inl g, rfl, rfl, false, by rw [w_ob], iteF ?_⟩
          refine ⟨_, rfl, a, _, 0, _, rfl, rfl, .inl g, rfl, rfl, false, by rw [w_og], iteF ?_⟩
          refine ⟨_, rfl, a, _, 0, _, rfl, rfl, .inl g, rfl, rfl, false, by rw [w_ot], iteF ?_⟩
          exact ⟨n', xs, st, _, rfl, B4, by omega, by omega, g4, t4, hst4⟩
        | false =>
          rw [dvI, if_neg (by decide)] at Dx
          rw [szI, if_neg (by decide)] at hw4
          rw [Nat.add_mul] at hw4
          rw [cnI] at hc4 hpos
          cases y with
          | box nm p =>
            obtain ⟨a, rfl, g⟩ := box_at Dx
            obtain ⟨pa2, pl, px2, ep, hp, es⟩ := pic_size p
            rw [Ly.sz] at hw4
            refine ⟨_, rfl, a, _, 0, _, rfl, rfl, .inl g, rfl, rfl, true, rfl, iteT ?_⟩
            refine ⟨_, rfl, _, rfl, _, rfl, a, _, 2, _, rfl, rfl, .inl g, rfl, pa2, pl, px2, (by rw [ep]; rfl), hp, fun H5 S5 => ?_⟩
            rw [es]
            have hszp : szP p ≤ 4 := by unfold szP; split <;> decide
            refine ⟨_, _, rfl, rfl, .inr ⟨by omega, by omega⟩, ?_⟩
            refine ⟨_, _, rfl, rfl, ?_⟩
            refine ⟨n' + szP p * t0, xs, st, some (.ref a), ?_, B4.same S5, by omega, by rw [Ly.cn] at hc4; omega, S5 _ _ g4, t4.same S5, hst4⟩
            have e : ((n' : Nat) : Int) + ((t0 : Nat) : Int) * ((szP p : Nat) : Int) = ((n' + szP p * t0 : Nat) : Int) := by push_cast; rw [Int.mul_comm]
            rw [← e]
            rfl
          | grp nm its1 =>
            obtain ⟨a, x2, rfl, g, D2⟩ := grp_at Dx
            rw [Ly.sz] at hw4
            rw [Ly.cn] at hc4
            have hok1 : okL its1 := by rw [okI, Ly.okK] at hoky; exact hoky
            refine ⟨_, rfl, a, _, 0, _, rfl, rfl, .inl g, rfl, rfl, false, by rw [w_gb], iteF ?_⟩
            refine ⟨_, rfl, a, _, 0, _, rfl, rfl, .inl g, rfl, rfl, true, rfl, iteT ?_⟩
            refine ⟨_, rfl, .inl ⟨rfl, _, .inl (.inl B4.g)⟩, ?_⟩
            refine ⟨_, rfl, a, _, 2, _, rfl, rfl, .inl g, rfl, _, rfl, by show 2 ≤ sizeLine; omega, fun p5 hp5 => ?_⟩
            have S5 := Same.new (o := .tup [x2, .int (t0 : Nat)]) hp5
            have B5 := B4.same S5
            have D5 : Deep (upd H4 p5 (.tup [x2, .int (t0 : Nat)])) (.ref p5) (stD (its1, t0)) := .tup upd_same (.cons (D2.same S5) (.cons .int .nil))
            have g5 := S5 _ _ g4
            have t5 := t4.same S5
            generalize upd H4 p5 (.tup [x2, .int (t0 : Nat)]) = H5 at B5 D5 g5 t5
            refine ⟨lf, xs, .ref p5, rfl, rfl, B5.g, by omega, ?_⟩
            refine ⟨n', xs ++ [.ref p5], st ++ [(its1, t0)], _, rfl, ?_, ?_, ?_, by rw [upd_ne nia]; exact g5, t5.updL B5.g (fun zs z => nomatch z), ?_⟩
            · rw [List.map_append]
              exact B5.put (B5.t.append (.cons D5 .nil))
            · rw [wS_app]
              show n' + (wS st + (szL its1 * t0 + 0)) + _ = _
              omega
            · rw [cS_app]
              show cS st + ((1 + cnL its1) + 0) + _ + 1 ≤ m
              omega
            · intro e he
              rcases List.mem_append.mp he with he | he
              · exact hst4 e he
              · rw [List.mem_singleton.mp he]; exact hok1
          | tab nm k1 its1 =>
            obtain ⟨a, x2, rfl, g, D2⟩ := tab_at Dx
            rw [Ly.sz] at hw4
            rw [Ly.cn] at hc4
            obtain ⟨hk1, hok1⟩ : k1 ≤ 1000 ∧ okL its1 := by rw [okI, Ly.okK] at hoky; exact hoky
            refine ⟨_, rfl, a, _, 0, _, rfl, rfl, .inl g, rfl, rfl, false, by rw [w_tb], iteF ?_⟩
            refine ⟨_, rfl, a, _, 0, _, rfl, rfl, .inl g, rfl, rfl, false, by rw [w_tg], iteF ?_⟩
            refine ⟨_, rfl, a, _, 0, _, rfl, rfl, .inl g, rfl, rfl, true, rfl, iteT ?_⟩
            refine ⟨_, rfl, .inl ⟨rfl, _, .inl (.inl B4.g)⟩, ?_⟩
            refine ⟨_, rfl, a, _, 3, _, rfl, rfl, .inl g, rfl, _, rfl, _, rfl, a, _, 2, _, rfl, rfl, .inl g, rfl, _, _, rfl, rfl, .inr ⟨by omega, by omega⟩, by show 2 ≤ sizeLine; omega, fun p5 hp5 => ?_⟩
            have e : ((t0 : Nat) : Int) * ((k1 : Nat) : Int) = ((t0 * k1 : Nat) : Int) := by push_cast; rfl
            dsimp only
            rw [e]
            have S5 := Same.new (o := .tup [x2, .int (t0 * k1 : Nat)]) hp5
            have B5 := B4.same S5
            have D5 : Deep (upd H4 p5 (.tup [x2, .int (t0 * k1 : Nat)])) (.ref p5) (stD (its1, t0 * k1)) := .tup upd_same (.cons (D2.same S5) (.cons .int .nil))
            have g5 := S5 _ _ g4
            have t5 := t4.same S5
            generalize upd H4 p5 (.tup [x2, .int (t0 * k1 : Nat)]) = H5 at B5 D5 g5 t5
            refine ⟨lf, xs, .ref p5, rfl, rfl, B5.g, by omega, ?_⟩
            refine ⟨n', xs ++ [.ref p5], st ++ [(its1, t0 * k1)], _, rfl, ?_, ?_, ?_, by rw [upd_ne nia]; exact g5, t5.updL B5.g (fun zs z => nomatch z), ?_⟩
            · rw [List.map_append]
              exact B5.put (B5.t.append (.cons D5 .nil))
            · rw [wS_app]
              show n' + (wS st + (szL its1 * (t0 * k1) + 0)) + _ = _
              have e2 : szL its1 * k1 * t0 = szL its1 * (t0 * k1) := by rw [Nat.mul_assoc, Nat.mul_comm k1 t0]
              omega
            · rw [cS_app]
              show cS st + ((1 + cnL its1) + 0) + _ + 1 ≤ m
              omega
            · intro e he
              rcases List.mem_append.mp he with he | he
              · exact hst4 e he
              · rw [List.mem_singleton.mp he]; exact hok1
    · rintro σ H4 ⟨n', xs, st, y5, rfl, B4, hw4, hc4, _, _, hst4⟩
      rw [List.drop_eq_nil_of_le (by omega)] at hw4 hc4
      simp only [szL, cnL] at hw4 hc4
      exact ⟨m - 1, by omega, n', xs, st, _, _, _, rfl, B4, by omega, by omega, by omega, hst4⟩
end
end Lw

set_option Elab.async false
set_option linter.all false
set_option maxRecDepth 100000
namespace Lw
open PySem PySem.Spec PyProof.Rows L2 K02 K04
open Builtin Builtin.Str StrLaws
/-! ### steps and paths -/
structure KitL (K : PySem.W.Frag) : Prop where
  st : PySem.W.kitOne K (.type "str") (.type "tuple") = some false
  tt : PySem.W.kitOne K (.type "tuple") (.type "tuple") = some true
  ii : PySem.W.kitOne K (.type "int") (.type "int") = some true
  ib : PySem.W.kitOne K (.type "int") (.type "bool") = some false
abbrev Step := Str × Option Nat
def stepD : Step → Dv
  | (nm, none) => .str nm
  | (nm, some i) => .tup [.str nm, .int (i : Nat)]
def numV : Option Nat → V
  | none => .non
  | some i => .int (i : Nat)
section
variable {P : Program} {w : World} {K : PySem.W.Frag} {mg : Str → Option Value} {base : Heap} {f : Addr} {fd : FuncData} {tk : Nat → Tok} {c kr : Nat → Addr}
def spWholeI : Sp := fun vs H Q _ => ∃ i : Int, vs = [.int i] ∧ Q (.bl true) H
theorem ok_is_whole (F : Fun K "is_whole" "is_whole" s_is_whole f fd) (O : Own mg) (KT : KitL K) : FnOk P w K mg base (CXE P w) 1 f fd ["thing"] spWholeI := by
  refine okNx F sc_is_whole (fun vs H Q E h => ?_) (fun cdv A outer s H vs Q E hr h => ?_)
  · obtain ⟨i, rfl, _⟩ := h
    rfl
  · obtain ⟨i, rfl, k⟩ := h
    refine ⟨_, (psx_one (psy_ret (PEx.mk (pe_and (pe_callB call_isi rfl O.isi PyProof.Rows.boot_isinstance (pa_c (pv 0) (pa_c (pe_bltn (v := V.ty "int") rfl O.int PyProof.Rows.boot_int rfl) pa_nil))) (pe_one (pe_not (pe_callB call_isi rfl O.isi PyProof.Rows.boot_isinstance (pa_c (pv 0) (pa_c (pe_bltn (v := V.ty "bool") rfl O.bool PyProof.Rows.boot_bool rfl) pa_nil))))))))), ?_⟩
    refine ⟨_, rfl, _, _, true, rfl, rfl, .inl ⟨_, .int _, KT.ii⟩, true, rfl, iteT ?_⟩
    exact ⟨_, rfl, _, _, false, rfl, rfl, .inl ⟨_, .int _, KT.ib⟩, _, rfl, k⟩
def spParts : Sp := fun vs H Q _ => ∃ (v : V) (st : Step), vs = [v] ∧ Deep H v (stepD st) ∧ ∀ q H', Same H H' → H' q = some (.tup [.str st.1, numV st.2]) → Q (.ref q) H'
theorem ok_step_parts (F : Fun K "step_parts" "step_parts" s_step_parts f fd) (O : Own mg) (OT : mg "tuple" = none) (KT : KitL K) (D_is_whole : Def P w K mg base 1 "is_whole" ["thing"] spWholeI) : FnOk P w K mg base (CXE P w) 2 f fd ["step"] spParts := by
  refine okNx F sc_step_parts (fun vs H Q E h => ?_) (fun cdv A outer s H vs Q E hr h => ?_)
  · obtain ⟨v, st, rfl, _⟩ := h
    rfl
  · obtain ⟨v, ⟨nm, o⟩, rfl, D, k⟩ := h
    have hz : 1000 ≤ sizeLine := by decide
    refine ⟨_, (psx_cons (psy_if (PW.pt (pw_and (pt_val (pe_callB call_isi rfl O.isi PyProof.Rows.boot_isinstance (pa_c (pv 0) (pa_c (pe_bltn (v := V.ty "tuple") rfl OT PyProof.Rows.boot_tuple rfl) pa_nil)))) (pw_and (pt_cmpR op_eq (pe_callB call_len_seq rfl O.len PySem.boot_len (pa_c (pv 0) pa_nil)) pe_int (nomark _)) (pw_and1 (pt_val (D_is_whole.pe hr (by decide) rfl passE0 (pa_c (pe_ix ix_tupR (pv 0) pe_int (fun _ _ => rfl)) pa_nil))))))) (psx_one (psy_ret (PEx.mk (pv 0)))) psx_nil)
      (psx_one (psy_ret (pex_tup (pax_c (PEx.mk (pv 0)) (pax_c (PEx.mk pe_non) pax_nil rfl) rfl))))), ?_⟩
    cases o with
    | none =>
      obtain rfl := Deep.str' (show Deep H v (.str nm) from D)
      refine ⟨_, rfl, _, _, false, rfl, rfl, .inl ⟨_, .str _, KT.st⟩, _, rfl, iteF ?_⟩
      exact ⟨_, rfl, by show 2 ≤ sizeLine; omega, fun p hp => k _ _ (Same.new hp) upd_same⟩
    | some i =>
      obtain ⟨a, xs, rfl, g, t⟩ := Deep.tup' (show Deep H v (.tup [.str nm, .int (i : Nat)]) from D)
      obtain rfl : xs = [.str nm, .int (i : Nat)] := by
        cases t with
        | cons p1 t => cases t with
          | cons p2 t => cases t; rw [p1.str', p2.int']
      refine ⟨_, rfl, _, _, true, rfl, rfl, .inl ⟨_, D.ty, KT.tt⟩, _, rfl, iteT ?_⟩
      refine ⟨_, rfl, a, _, rfl, .inr (.inl (.inl g)), rfl, true, rfl, iteT ?_⟩
      refine ⟨_, rfl, a, _, 1, _, rfl, rfl, .inl g, rfl, _, rfl, true, rfl, iteT ⟨_, rfl, k _ _ (Same.refl _) g⟩⟩
/-- last first -/
def pairD (path : Dv) (y : Ly) : Dv := .tup [path, y.dv]
def spLast : Sp := fun vs H Q _ => ∃ (wv iv : V) (pd : Dv) (its : List (Bool × Ly)), vs = [wv, iv] ∧ Deep H wv pd ∧ Deep H iv (.tup (dvL its)) ∧ its.length ≤ 10000 ∧ ∀ q xs H', Same H H' → H q = none → H' q = some (.lst xs) → Deeps H' xs ((its.map fun x => pairD pd x.2).reverse) → Q (.ref q) H'
theorem ok_last_first (F : Fun K "last_first" "last_first" s_last_first f fd) (O : Own mg) (D_bare : Def P w K mg base 1 "bare" ["item"] spBare) : FnOk P w K mg base (CXE P w) 2 f fd ["path", "items"] spLast := by
  refine okNx F sc_last_first (fun vs H Q E h => ?_) (fun cdv A outer s H vs Q E hr h => ?_)
  · obtain ⟨wv, iv, pd, its, rfl, _⟩ := h
    rfl
  · obtain ⟨wv, iv, pd, its, rfl, DP, DI, hl, k⟩ := h
    have hz : 100000 ≤ sizeLine := by rw [sizeLine_eq]; decide
    refine ⟨_, (psx_one (psy_ret (PEx.mk (pe_lcompF (NB := [".0", "item"]) (FR := ["path"]) (fi := [0]) rfl ⟨rfl, by decide +kernel, by decide +kernel, by decide +kernel, by decide +kernel, by decide +kernel⟩ rfl rfl (pi_revT rfl O.reversed (pa_c (pv 1) pa_nil) rfl) (fun _ _ _ => (pg_name (i := 1) (show ([".0", "item", "path"] : List Str).Nodup by decide +kernel) rfl (Or.inl rfl))) (fun _ _ _ => pts_nil) (fun _ _ _ => (pe_tup (pa_c (pv 2) (pa_c (D_bare.pe hr (by decide) rfl passE0 (pa_c (pv 1) pa_nil)) pa_nil)))))))), ?_⟩
    obtain ⟨a, xs, rfl, g, t⟩ := Deep.tup' DI
    rw [dvL_map] at t
    have lx := t.length
    rw [List.length_map] at lx
    refine ret_te ?_
    refine tCompF_of ?_
    refine ⟨_, rfl, a, xs, rfl, .inl (.inl g), ?_⟩
    refine compF_deep (fv := [wv]) (fixRv (K := K) (a := a) (xs := xs)) ((its.map fun x => pairD pd x.2).reverse) (by rw [List.length_reverse, List.length_map]; omega) (fun R h => h H (Same.refl _)) rfl (fun H1 S => .inl (.inl (S _ _ g))) ?_ ?_ (by omega)
    · rintro i v H1 H2 d R hd S ⟨rfl, hv⟩ kk
      obtain ⟨dv, hdv, ddv⟩ := t.getX hv
      rw [List.getElem?_map] at hdv
      cases e : its[xs.length - 1 - i]? with
      | none => rw [e] at hdv; cases hdv
      | some oy =>
        rw [e] at hdv
        obtain rfl := Option.some.inj hdv
        obtain ⟨o, y⟩ := oy
        have hil : i < its.length := by
          have := (List.getElem?_eq_some_iff.mp hd).1
          rw [List.length_reverse, List.length_map] at this
          exact this
        have ed : d = pairD pd y := by
          rw [List.getElem?_reverse (by rw [List.length_map]; exact hil), List.length_map, List.getElem?_map, ← lx, e] at hd
          exact (Option.some.inj hd).symm
        refine ⟨rfl, _, rfl, _, rfl, v, o, y, rfl, ddv.same S, fun u Du => ⟨by show 2 ≤ sizeLine; omega, fun p hp => kk _ _ (Same.new hp) ?_⟩⟩
        rw [ed]
        exact .tup upd_same (.cons ((DP.same S).same (Same.new hp)) (.cons (Du.same (Same.new hp)) .nil))
    · rintro ys H1 p S t2 hp
      refine k _ _ _ (S.trans (Same.new hp)) ?_ upd_same (t2.same (Same.new hp))
      cases e : H p with
      | none => rfl
      | some o => rw [S _ _ e] at hp; cases hp
/-- how far into a table -/
def aheadOf : Ly → Option Nat → Option Nat
  | .box _ _, none => some 0
  | .grp _ _, none => some 0
  | .tab _ k its, some i => if i < k then some (i * szL its) else none
  | _, _ => none
def Ly.cnt (y : Ly) : Prop := y.cn ≤ 10000 ∧ y.okK
def spAhead : Sp := fun vs H Q _ => ∃ (v : V) (y : Ly) (o : Option Nat) (n : Nat), vs = [v, numV o] ∧ Deep H v y.dv ∧ y.cnt ∧ aheadOf y o = some n ∧ ∀ H', Same H H' → Q (.int (n : Nat)) H'
theorem ok_ahead_in_table (F : Fun K "ahead_in_table" "ahead_in_table" s_ahead_in_table f fd) (T : Txt K mg tk c kr) (D_signs_in : Def P w K mg base 8 "signs_in" ["layout"] spSigns) : FnOk P w K mg base (CXE P w) 9 f fd ["item", "number"] spAhead := by
  refine okE F sc_ahead_in_table (fun vs H Q E h => ?_) (fun cdv A outer s H vs Q E hr h => ?_)
  · obtain ⟨v, y, o, n, rfl, _⟩ := h
    rfl
  · obtain ⟨v, y, o, n, rfl, D, ⟨hcn, hok⟩, ha, k⟩ := h
    have fr := fram_of (P := P) (w := w) (K := K) (mg := mg) (base := base) (N := ["item", "number"]) (qual := "ahead_in_table") (scope := defScope s_ahead_in_table) (f := f) (cd := cdv) (A := A) (outer := outer) (s := s) (H := H) (E := E)
    have ht := takes_gen fr
    have hx := passes_gen fr
    refine ⟨_, (pss_cons (ps_if (PW.pt (pw_and (pt_cmpR op_ne (pe_ix ix_tupR (pv 0) pe_int (fun _ _ => rfl)) pe_str (nomark _)) (pw_and1 (pt_cmp (pc_isN (pv 1)))))) (pss_one (ps_ret pe_int)) pss_nil)
      (pss_cons (ps_if (PW.pt (pw_or (pt_cmpR op_ne (pe_ix ix_tupR (pv 0) pe_int (fun _ _ => rfl)) pe_str (nomark _)) (pw_or (pt_cmp (pc_isN (pv 1))) (pw_or1 (pt_not (pt_chain op_le op_lt pe_int (pv 1) (pe_ix ix_tupR (pv 0) pe_int (fun _ _ => rfl)))))))) (pss_one (ps_raise ht rfl rfl T.m_NoPath T.e_NoPath (pa_c pe_str pa_nil))) pss_nil)
      (pss_one (ps_ret (pe_op op_mul (pv 1) (D_signs_in.pe hr (by decide) rfl hx (pa_c (pe_ix ix_tupR (pv 0) pe_int (fun _ _ => rfl)) pa_nil))))))), ?_⟩
    cases y with
    | box nm p =>
      cases o with
      | some i => cases ha
      | none =>
        obtain ⟨a, rfl, g⟩ := box_at D
        have : n = 0 := (Option.some.inj ha).symm
        subst this
        exact ⟨_, rfl, a, _, 0, _, rfl, rfl, .inl g, rfl, rfl, true, by rw [w_bt]; rfl, iteT ⟨_, rfl, true, rfl, iteT (k _ (Same.refl _))⟩⟩
    | grp nm its =>
      cases o with
      | some i => cases ha
      | none =>
        obtain ⟨a, x, rfl, g, _⟩ := grp_at D
        have : n = 0 := (Option.some.inj ha).symm
        subst this
        exact ⟨_, rfl, a, _, 0, _, rfl, rfl, .inl g, rfl, rfl, true, by rw [w_gt]; rfl, iteT ⟨_, rfl, true, rfl, iteT (k _ (Same.refl _))⟩⟩
    | tab nm k1 its =>
      cases o with
      | none => cases ha
      | some i =>
        obtain ⟨a, x, rfl, g, D2⟩ := tab_at D
        rw [Ly.cn] at hcn
        rw [Ly.okK] at hok
        have ha : (if i < k1 then some (i * szL its) else none) = some n := ha
        by_cases hik : i < k1
        · rw [if_pos hik] at ha
          have : n = i * szL its := (Option.some.inj ha).symm
          subst this
          refine ⟨_, rfl, a, _, 0, _, rfl, rfl, .inl g, rfl, rfl, false, by decide +kernel, iteF ?_⟩
          refine ⟨_, rfl, a, _, 0, _, rfl, rfl, .inl g, rfl, rfl, false, by decide +kernel, iteF ?_⟩
          refine ⟨_, rfl, false, rfl, iteF ?_⟩
          refine ⟨_, rfl, _, _, rfl, rfl, true, ?_, iteT ?_⟩
          · show V.bl (decide ((0 : Int) ≤ (i : Nat))) = _
            rw [decide_eq_true (by omega)]
          refine ⟨_, rfl, a, _, 2, _, rfl, rfl, .inl g, rfl, _, _, rfl, rfl, true, ?_, iteF ?_⟩
          · show V.bl (decide (((i : Nat) : Int) < ((k1 : Nat) : Int))) = _
            rw [decide_eq_true (by omega)]
          refine ⟨_, rfl, _, rfl, a, _, 3, _, rfl, rfl, .inl g, rfl, x, its, rfl, D2, by omega, hok.2, fun H1 S1 => ⟨_, _, rfl, rfl, .inl ⟨by omega, by omega⟩, ?_⟩⟩
          have e : ((i : Nat) : Int) * ((szL its : Nat) : Int) = ((i * szL its : Nat) : Int) := by push_cast; rfl
          dsimp only
          rw [e]
          exact k _ S1
        · rw [if_neg hik] at ha
          cases ha
end
end Lw

set_option Elab.async false
set_option linter.all false
set_option maxRecDepth 100000
namespace Lw
open PySem PySem.Spec PyProof.Rows L2 K02 K04
open Builtin Builtin.Str StrLaws
/-! ### where things stand -/
def dfI : Bool × Ly := (false, .box "" 0)
/-- the place of the last item that lies over nothing, up to here -/
def under (its : List (Bool × Ly)) : Nat → Nat
  | 0 => 0
  | j + 1 => if (its.getD (j + 1) dfI).1 = true then under its j else j + 1
def underB (its : List (Bool × Ly)) : Nat → Nat
  | 0 => 0
  | j + 1 => under its j
theorem under_le (its : List (Bool × Ly)) : ∀ j, under its j ≤ j
  | 0 => Nat.le_refl _
  | j + 1 => by
    rw [under]
    split
    · exact Nat.le_succ_of_le (under_le its j)
    · exact Nat.le_refl _
theorem under_step (its : List (Bool × Ly)) (j : Nat) : under its j = if (its.getD j dfI).1 = true then underB its j else j := by
  cases j with
  | zero => show 0 = _; rw [underB]; split <;> rfl
  | succ j => rfl
structure AtI (its : List (Bool × Ly)) (st : Step) (j : Nat) (o : Bool) (y : Ly) (n : Nat) : Prop where
  at_ : its[j]? = some (o, y)
  nm : y.name = st.1
  no : ∀ (i : Nat) (x : Bool × Ly), i < j → its[i]? = some x → x.2.name ≠ st.1
  ah : aheadOf y st.2 = some n
theorem cnL_take : ∀ (its : List (Bool × Ly)) (n : Nat), cnL (its.take n) ≤ cnL its
  | [], n => by rw [List.take_nil]; exact Nat.le_refl _
  | x :: xs, 0 => by rw [List.take_zero, cnL]; exact Nat.zero_le _
  | x :: xs, n + 1 => by
    have := cnL_take xs n
    rw [List.take_succ_cons, cnL, cnL]
    omega
theorem okL_take : ∀ (its : List (Bool × Ly)) (n : Nat), okL its → okL (its.take n)
  | [], n, h => by rw [List.take_nil]; exact h
  | x :: xs, 0, h => by rw [List.take_zero]; rw [okL]; trivial
  | x :: xs, n + 1, h => by
    rw [okL] at h
    rw [List.take_succ_cons, okL]
    exact ⟨h.1, okL_take xs n h.2⟩
theorem cn_at : ∀ {its : List (Bool × Ly)} {j : Nat} {x : Bool × Ly}, its[j]? = some x → cnI x ≤ cnL its
  | [], _, _, h => by simp at h
  | y :: ys, 0, x, h => by
    have : y = x := by simpa using h
    subst this
    rw [cnL]; omega
  | y :: ys, j + 1, x, h => by
    have := cn_at (its := ys) (j := j) (x := x) (by simpa using h)
    rw [cnL]; omega
section
variable {P : Program} {w : World} {K : PySem.W.Frag} {mg : Str → Option Value} {base : Heap} {f : Addr} {fd : FuncData} {tk : Nat → Tok} {c kr : Nat → Addr}
def spItemAt : Sp := fun vs H Q _ => ∃ (iv sv : V) (its : List (Bool × Ly)) (st : Step) (j : Nat) (o : Bool) (y : Ly) (n : Nat), vs = [iv, sv] ∧ Deep H iv (.tup (dvL its)) ∧ Deep H sv (stepD st) ∧ cnL its ≤ 10000 ∧ okL its ∧ AtI its st j o y n ∧
  ∀ q u H', Same H H' → H' q = some (.tup [.int ((szL (its.take (under its j)) + n : Nat)), u]) → Deep H' u y.dv → Q (.ref q) H'
theorem seqJ {t u : TS} {D : Ends} {σ : L2.St} {H : Hp} (Good : L2.St → Hp → Prop) (rest : ∀ σ' H', Good σ' H' → u D σ' H') (h : (∀ σ' H', Good σ' H' → u D σ' H') → t { D with nx := u D } σ H) : tSeq t u D σ H := h rest
set_option maxHeartbeats 2000000 in
theorem ok_item_at (F : Fun K "item_at" "item_at" s_item_at f fd) (O : Own mg) (OE : mg "enumerate" = none) (T : Txt K mg tk c kr) (D_step_parts : Def P w K mg base 2 "step_parts" ["step"] spParts) (D_bare : Def P w K mg base 1 "bare" ["item"] spBare) (D_signs_in : Def P w K mg base 8 "signs_in" ["layout"] spSigns) (D_ahead_in_table : Def P w K mg base 9 "ahead_in_table" ["item", "number"] spAhead) : FnOk P w K mg base (CXE P w) 10 f fd ["items", "step"] spItemAt := by
  refine okE F sc_item_at (fun vs H Q E h => ?_) (fun cdv A outer s H vs Q E hr h => ?_)
  · obtain ⟨iv, sv, its, st, j, o, y, n, rfl, _⟩ := h
    rfl
  · obtain ⟨iv, sv, its, st, j, o, y, n, rfl, DI, DS, hc, hok, HA, k⟩ := h
    have fr := fram_of (P := P) (w := w) (K := K) (mg := mg) (base := base) (N := ["items", "step", "name", "number", "under", "at", "item"]) (qual := "item_at") (scope := defScope s_item_at) (f := f) (cd := cdv) (A := A) (outer := outer) (s := s) (H := H) (E := E)
    have ht := takes_gen fr
    have hx := passes_gen fr
    have hz : 100000 ≤ sizeLine := by rw [sizeLine_eq]; decide
    refine ⟨_, (pss_cons (ps_asg (D_step_parts.pe hr (by decide) rfl hx (pa_c (pv 1) pa_nil)) (pg_tup rfl (pgs_cons (pg_name (i := 2) sc_item_at.nd rfl (Or.inl rfl)) (pgs_cons (pg_name (i := 3) sc_item_at.nd rfl (Or.inl rfl)) pgs_nil))))
      (pss_cons (ps_set (i := 4) sc_item_at.nd rfl (Or.inl rfl) pe_int)
      (pss_cons (ps_for own_gen rfl (pi_enumK .tp rfl OE (pa_c (pv 0) pa_nil)) (pg_tup rfl (pgs_cons (pg_name (i := 5) sc_item_at.nd rfl (Or.inl rfl)) (pgs_cons (pg_name (i := 6) sc_item_at.nd rfl (Or.inl rfl)) pgs_nil))) (pss_cons (ps_if (pt_cmpR op_ne (pe_ix ix_tupR (pv 6) pe_int (fun _ _ => rfl)) pe_str (nomark _)) (pss_one (ps_set (i := 4) sc_item_at.nd rfl (Or.inl rfl) (pv 5))) pss_nil)
      (pss_one (ps_if (pt_cmpR op_eq (pe_ix ix_tupR (D_bare.pe hr (by decide) rfl hx (pa_c (pv 6) pa_nil)) pe_int (fun _ _ => rfl)) (pv 2) (nomark _)) (pss_one (ps_ret (pe_tup (pa_c (pe_op op_add (D_signs_in.pe hr (by decide) rfl hx (pa_c (pe_slice sl_tupR (pv 0) po_none (po_some (pv 4))) pa_nil)) (D_ahead_in_table.pe hr (by decide) rfl hx (pa_c (D_bare.pe hr (by decide) rfl hx (pa_c (pv 6) pa_nil)) (pa_c (pv 3) pa_nil)))) (pa_c (D_bare.pe hr (by decide) rfl hx (pa_c (pv 6) pa_nil)) pa_nil))))) pss_nil))))
      (pss_one (ps_raise ht rfl rfl T.m_NoPath T.e_NoPath (pa_c pe_str pa_nil)))))), ?_⟩
    refine ⟨_, rfl, sv, st, rfl, DS, fun q0 H1 S1 g0 => ?_⟩
    refine ⟨q0, _, rfl, .inl (.inl g0), rfl, _, _, rfl, _, _, rfl, rfl, ?_⟩
    obtain ⟨ia, ix, rfl, gi, ti⟩ := Deep.tup' DI
    have ti2 := ti
    rw [dvL_map] at ti2
    have lix := ti2.length
    rw [List.length_map] at lix
    have hjl : j < its.length := (List.getElem?_eq_some_iff.mp HA.at_).1
    dsimp only [gName, tAsg, tSeq, tNext]
    refine ⟨_, rfl, ia, rfl, ⟨_, .inl (.inl (S1 _ _ gi))⟩, ?_⟩
    refine for_fix (fixN (k := .tp) (K := K) (a := ia) (xs := ix)) (fun i σ H2 => ∃ (y5 y6 : Option V), σ = [some (.ref ia), some sv, some (.str st.1), some (numV st.2), some (.int (underB its i : Nat)), y5, y6] ∧ Same H1 H2 ∧ i ≤ j) ⟨none, none, rfl, Same.refl _, Nat.zero_le _⟩ ?_ ?_ ?_
    · rintro i σ H2 _ ⟨y5, y6, rfl, S2, _⟩
      exact .inl (.inl (S2 _ _ (S1 _ _ gi)))
    · rintro i x σ H2 H3 hi ⟨y5, y6, rfl, S2, hij⟩ ⟨p, x, hp, rfl, hx3, rfl⟩
      obtain ⟨d, hd, Dx⟩ := ti2.getX hx3
      rw [List.getElem?_map] at hd
      cases eo : its[i]? with
      | none => rw [eo] at hd; cases hd
      | some oy =>
        rw [eo] at hd
        obtain rfl := Option.some.inj hd
        obtain ⟨ov, yi⟩ := oy
        have S3 := (S1.trans S2).trans (Same.new (o := .tup [.int ((i : Nat) : Int), x]) hp)
        have S13 := S2.trans (Same.new (o := .tup [.int ((i : Nat) : Int), x]) hp)
        refine ⟨p, _, rfl, .inl (.inl upd_same), rfl, _, _, rfl, _, _, rfl, rfl, ?_⟩
        generalize upd H2 p (.tup [.int ((i : Nat) : Int), x]) = H3 at S3 S13
        clear S2 hp
        have Dx3 := Dx.same S3
        have eg : its.getD i dfI = (ov, yi) := by rw [List.getD_eq_getElem?_getD, eo]; rfl
        have eu : (if ov = true then underB its i else i) = under its i := by rw [under_step, eg]
        dsimp only [gName, tAsg, tNext]
        refine seqJ (fun σ' H4 => σ' = [some (.ref ia), some sv, some (.str st.1), some (numV st.2), some (.int (under its i : Nat)), some (.int (i : Nat)), some x] ∧ H4 = H3) ?_ (fun rest => ?_)
        rotate_left
        · cases ov with
          | true =>
            obtain ⟨a, x2, rfl, g, _⟩ := over_at Dx3
            rw [if_pos rfl] at eu
            refine ⟨_, rfl, a, _, 0, _, rfl, rfl, .inl g, rfl, rfl, false, by decide +kernel, iteF (rest _ _ ⟨by rw [← eu]; rfl, rfl⟩)⟩
          | false =>
            rw [if_neg (by decide)] at eu
            have D : Deep H3 x yi.dv := by rw [dvI, if_neg (by decide)] at Dx3; exact Dx3
            obtain ⟨a, xs, rfl, g⟩ := ly_at D
            refine ⟨_, rfl, a, _, 0, _, rfl, rfl, .inl g, atI_nat (j := 0) rfl, rfl, true, by rw [word_over]; rfl, iteT ⟨_, rfl, rest _ _ ⟨by rw [← eu]; rfl, rfl⟩⟩⟩
        rintro σ4 H4 ⟨rfl, rfl⟩
        refine ⟨_, rfl, x, ov, yi, rfl, Dx3, fun u Du => ?_⟩
        obtain ⟨ua, uxs, rfl, gu⟩ := ly_at Du
        refine ⟨ua, _, 1, _, rfl, rfl, .inl gu, atI_nat (j := 1) rfl, _, rfl, rfl, _, rfl, ?_⟩
        by_cases hij2 : i = j
        · subst hij2
          obtain ⟨rfl, rfl⟩ : ov = o ∧ yi = y := by
            have := HA.at_
            rw [eo] at this
            have := Option.some.inj this
            exact ⟨congrArg (·.1) this, congrArg (·.2) this⟩
          rw [decide_eq_true (by rw [HA.nm])]
          refine iteT ?_
          refine ⟨_, rfl, _, rfl, _, rfl, ?_⟩
          refine rSlR.deep0 (hi := under its i) (ds := dvL its) ((Deep.tup gi ti).same S3) fun v5 H5 S5 D5 => ?_
          have et : (dvL its).take (under its i) = dvL (its.take (under its i)) := by rw [dvL_map, dvL_map, List.map_take]
          rw [et] at D5
          refine ⟨v5, its.take (under its i), rfl, D5, Nat.le_trans (cnL_take _ _) hc, okL_take _ _ hok, fun H6 S6 => ?_⟩
          have S36 := S5.trans S6
          refine ⟨_, rfl, x, ov, yi, rfl, Dx3.same S36, fun u7 Du7 => ⟨_, rfl, u7, yi, st.2, n, rfl, Du7, ⟨?_, ?_⟩, HA.ah, fun H8 S8 => ?_⟩⟩
          · have := cn_at eo
            rw [cnI] at this
            omega
          · have := okL_at hok eo
            rw [okI] at this
            exact this
          refine ⟨_, _, rfl, rfl, _, rfl, x, ov, yi, rfl, (Dx3.same S36).same S8, fun u9 Du9 => ⟨by show 2 ≤ sizeLine; omega, fun p10 hp10 => ?_⟩⟩
          have S10 := Same.new (o := .tup [.int (((szL (its.take (under its i)) : Nat) : Int) + ((n : Nat) : Int)), u9]) hp10
          refine k _ u9 _ ((S3.trans S36).trans (S8.trans S10)) ?_ (Du9.same S10)
          rw [upd_same]
          congr 3
        · have hne : yi.name ≠ st.1 := HA.no i (ov, yi) (by omega) eo
          rw [decide_eq_false (fun z => hne (V.str.inj z))]
          exact iteF ⟨some (.int (i : Nat)), some x, rfl, S13, by omega⟩
    · rintro σ H2 ⟨y5, y6, rfl, S2, hij⟩
      omega
/-- a path that leads somewhere -/
inductive Res : List (Bool × Ly) → List Step → Nat → Ly → Prop where
  | one {its : List (Bool × Ly)} {st : Step} {j : Nat} {o : Bool} {y : Ly} {n : Nat} (h : AtI its st j o y n) : Res its [st] (szL (its.take (under its j)) + n) y
  | grp {its in_ : List (Bool × Ly)} {st st2 : Step} {ss : List Step} {j : Nat} {o : Bool} {nm : Str} {n m : Nat} {y : Ly} (h : AtI its st j o (.grp nm in_) n) (r : Res in_ (st2 :: ss) m y) : Res its (st :: st2 :: ss) (szL (its.take (under its j)) + n + m) y
  | tab {its in_ : List (Bool × Ly)} {st st2 : Step} {ss : List Step} {j k : Nat} {o : Bool} {nm : Str} {n m : Nat} {y : Ly} (h : AtI its st j o (.tab nm k in_) n) (r : Res in_ (st2 :: ss) m y) : Res its (st :: st2 :: ss) (szL (its.take (under its j)) + n + m) y
def pathD (ss : List Step) : Dv := .tup (ss.map stepD)
theorem Res.ne {its : List (Bool × Ly)} {ss : List Step} {n : Nat} {y : Ly} (h : Res its ss n y) : ss ≠ [] := by cases h <;> exact fun z => nomatch z
structure LyBd (its : List (Bool × Ly)) : Prop where
  cn : cnL its ≤ 10000
  ok : okL its
theorem LyBd.grp {its in_ : List (Bool × Ly)} {j : Nat} {o : Bool} {nm : Str} (h : LyBd its) (e : its[j]? = some (o, .grp nm in_)) : LyBd in_ := by
  have h1 := cn_at e
  have h2 := okL_at h.ok e
  have h3 := h.cn
  rw [cnI, Ly.cn] at h1
  rw [okI, Ly.okK] at h2
  exact ⟨by omega, h2⟩
theorem LyBd.tab {its in_ : List (Bool × Ly)} {j k : Nat} {o : Bool} {nm : Str} (h : LyBd its) (e : its[j]? = some (o, .tab nm k in_)) : LyBd in_ := by
  have h1 := cn_at e
  have h2 := okL_at h.ok e
  have h3 := h.cn
  rw [cnI, Ly.cn] at h1
  rw [okI, Ly.okK] at h2
  exact ⟨by omega, h2.2⟩
def spFound : Sp := fun vs H Q _ => ∃ (iv wv : V) (its : List (Bool × Ly)) (ss : List Step) (n : Nat) (y : Ly), vs = [iv, wv] ∧ Deep H iv (.tup (dvL its)) ∧ Deep H wv (pathD ss) ∧ LyBd its ∧ Res its ss n y ∧ ss.length ≤ 1000 ∧ ∀ q u H', Same H H' → H' q = some (.tup [.int (n : Nat), u]) → Deep H' u y.dv → Q (.ref q) H'
set_option maxHeartbeats 2000000 in
theorem ok_found (F : Fun K "found" "found" s_found f fd) (O : Own mg) (OT : mg "tuple" = none) (KT : KitL K) (T : Txt K mg tk c kr) (D_item_at : Def P w K mg base 10 "item_at" ["items", "step"] spItemAt) : FnOk P w K mg base (CXE P w) 11 f fd ["layout", "path"] spFound := by
  refine okE F sc_found (fun vs H Q E h => ?_) (fun cdv A outer s H vs Q E hr h => ?_)
  · obtain ⟨iv, wv, its, ss, n, y, rfl, _⟩ := h
    rfl
  · obtain ⟨iv, wv, its, ss, n, y, rfl, DI, DW, hb, HR, hl, k⟩ := h
    have fr := fram_of (P := P) (w := w) (K := K) (mg := mg) (base := base) (N := ["layout", "path", "start", "items", "item", "step", "ahead"]) (qual := "found") (scope := defScope s_found) (f := f) (cd := cdv) (A := A) (outer := outer) (s := s) (H := H) (E := E)
    have ht := takes_gen fr
    have hx := passes_gen fr
    have hz : 100000 ≤ sizeLine := by rw [sizeLine_eq]; decide
    refine ⟨_, (pss_cons (ps_if (PW.pt (pw_or (pt_not (pt_val (pe_callB call_isi rfl O.isi PyProof.Rows.boot_isinstance (pa_c (pv 1) (pa_c (pe_bltn (v := V.ty "tuple") rfl OT PyProof.Rows.boot_tuple rfl) pa_nil))))) (pw_or1 (pt_cmpR op_eq (pe_callB call_len_seq rfl O.len PySem.boot_len (pa_c (pv 1) pa_nil)) pe_int (nomark _))))) (pss_one (ps_raise ht rfl rfl T.m_NoPath T.e_NoPath (pa_c pe_str pa_nil))) pss_nil)
      (pss_cons (ps_set (i := 2) sc_found.nd rfl (Or.inl rfl) pe_int)
      (pss_cons (ps_set (i := 3) sc_found.nd rfl (Or.inl rfl) (pv 0))
      (pss_cons (ps_set (i := 4) sc_found.nd rfl (Or.inl rfl) pe_non)
      (pss_cons (ps_for own_gen rfl (pi_tup (pv 1)) (pg_name (i := 5) sc_found.nd rfl (Or.inl rfl)) (pss_cons (ps_asg (D_item_at.pe hr (by decide) rfl hx (pa_c (pv 3) (pa_c (pv 5) pa_nil))) (pg_tup rfl (pgs_cons (pg_name (i := 6) sc_found.nd rfl (Or.inl rfl)) (pgs_cons (pg_name (i := 4) sc_found.nd rfl (Or.inl rfl)) pgs_nil))))
      (pss_cons (ps_aug (i := 2) sc_found.nd rfl (Or.inl rfl) (pv 6) ip_add)
      (pss_one (ps_set (i := 3) sc_found.nd rfl (Or.inl rfl) (pe_ifExp (pt_cmpR op_eq (pe_ix ix_tupR (pv 4) pe_int (fun _ _ => rfl)) pe_str (nomark _)) (pe_tup pa_nil) (pe_ix ix_tupR (pv 4) (pe_un un_neg pe_int) (fun _ _ => rfl))))))))
      (pss_one (ps_ret (pe_tup (pa_c (pv 2) (pa_c (pv 4) pa_nil)))))))))), ?_⟩
    obtain ⟨wa, wx, rfl, gw, tw⟩ := Deep.tup' (show Deep H wv (.tup (ss.map stepD)) from DW)
    have lwx := tw.length
    rw [List.length_map] at lwx
    have hss := HR.ne
    refine ⟨_, rfl, _, _, true, rfl, rfl, .inl ⟨_, DW.ty, KT.tt⟩, _, rfl, iteF ?_⟩
    refine ⟨_, rfl, wa, _, rfl, .inr (.inl (.inl gw)), rfl, false, ?_, iteF ?_⟩
    · show V.bl (decide (V.int ((wx.length : Nat) : Int) = V.int 0)) = _
      rw [decide_eq_false (fun z => by injection z with z; exact hss (List.eq_nil_of_length_eq_zero (by omega)))]
    dsimp only [gName, tAsg, tSeq, tNext]
    refine ⟨_, rfl, ?_⟩
    refine ⟨_, rfl, wa, rfl, ⟨_, .inl (.inl gw)⟩, ?_⟩
    -- at each step: either the path is done, or it goes on from here
    refine for_fix (fixT (K := K) (a := wa) (xs := wx)) (fun i σ H2 => ∃ (s0 : Nat) (cur : V) (it : V) (y5 y6 : Option V), σ = [some iv, some (.ref wa), some (.int (s0 : Nat)), some cur, some it, y5, y6] ∧ Same H H2 ∧ ((ss.drop i = [] ∧ s0 = n ∧ Deep H2 it y.dv) ∨ ∃ (in_ : List (Bool × Ly)) (m : Nat), Deep H2 cur (.tup (dvL in_)) ∧ LyBd in_ ∧ Res in_ (ss.drop i) m y ∧ s0 + m = n)) ⟨0, iv, .non, none, none, rfl, Same.refl _, .inr ⟨its, n, DI, hb, by rw [List.drop_zero]; exact HR, Nat.zero_add _⟩⟩ ?_ ?_ ?_
    · rintro i σ H2 _ ⟨s0, cur, it, y5, y6, rfl, S2, _⟩
      exact .inl (.inl (S2 _ _ gw))
    · rintro i x σ H20 H2 hi ⟨s0, cur, it, y5, y6, rfl, S2, hcase⟩ ⟨rfl, hx2⟩
      obtain ⟨d, hd, Dx⟩ := tw.getX hx2
      have hil : i < ss.length := by omega
      have hdr : ss.drop i = ss[i] :: ss.drop (i + 1) := List.drop_eq_getElem_cons hil
      have ed : d = stepD ss[i] := by
        rw [List.getElem?_map, List.getElem?_eq_getElem hil] at hd
        exact (Option.some.inj hd).symm
      subst ed
      rcases hcase with ⟨h1, _⟩ | ⟨in_, m, Dc, hbc, hres, hsum⟩
      · rw [hdr] at h1; cases h1
      rw [hdr] at hres
      generalize ss[i] = st at hres Dx
      generalize hgo : ss.drop (i + 1) = rest at hres
      dsimp only [gName, tAsg, tSeq, tNext]
      obtain ⟨j, o, y1, n1, HA, hnext⟩ : ∃ (j : Nat) (o : Bool) (y1 : Ly) (n1 : Nat), AtI in_ st j o y1 n1 ∧ ((rest = [] ∧ y1 = y ∧ szL (in_.take (under in_ j)) + n1 = m) ∨ ∃ (nm : Str) (in2 : List (Bool × Ly)) (m2 : Nat), (y1 = .grp nm in2 ∨ ∃ k2, y1 = .tab nm k2 in2) ∧ LyBd in2 ∧ Res in2 rest m2 y ∧ szL (in_.take (under in_ j)) + n1 + m2 = m) := by
        cases hres with
        | one h => exact ⟨_, _, _, _, h, .inl ⟨rfl, rfl, rfl⟩⟩
        | grp h r => exact ⟨_, _, _, _, h, .inr ⟨_, _, _, .inl rfl, hbc.grp h.at_, r, rfl⟩⟩
        | tab h r => exact ⟨_, _, _, _, h, .inr ⟨_, _, _, .inr ⟨_, rfl⟩, hbc.tab h.at_, r, rfl⟩⟩
      refine ⟨_, rfl, _, rfl, cur, x, in_, st, j, o, y1, n1, rfl, Dc, Dx.same S2, hbc.cn, hbc.ok, HA, fun q u H3 S3 g3 Du => ?_⟩
      refine ⟨q, _, rfl, .inl (.inl g3), rfl, _, _, rfl, _, _, rfl, rfl, ?_⟩
      dsimp only [gName, tAsg, tSeq, tNext]
      refine ⟨_, rfl, _, rfl, _, _, rfl, rfl, ?_⟩
      have es : ((s0 : Nat) : Int) + ((szL (in_.take (under in_ j)) + n1 : Nat) : Int) = ((s0 + (szL (in_.take (under in_ j)) + n1) : Nat) : Int) := by push_cast; rfl
      dsimp only
      rw [es]
      rcases hnext with ⟨rfl, rfl, hm⟩ | ⟨nm, in2, m2, hy, hb2, hr2, hm⟩
      · -- the last step
        cases y1 with
        | box nm p =>
          obtain ⟨a, rfl, g⟩ := box_at Du
          refine ⟨_, rfl, a, _, 0, _, rfl, rfl, .inl g, rfl, rfl, true, rfl, iteT ⟨by show 0 ≤ sizeLine; omega, fun p4 hp4 => ?_⟩⟩
          exact ⟨_, _, _, _, _, rfl, (S2.trans S3).trans (Same.new hp4), .inl ⟨rfl, by omega, Du.same (Same.new hp4)⟩⟩
        | grp nm in2 =>
          obtain ⟨a, x2, rfl, g, D2⟩ := grp_at Du
          refine ⟨_, rfl, a, _, 0, _, rfl, rfl, .inl g, rfl, rfl, false, by rw [w_gb], iteF ⟨_, rfl, _, rfl, a, _, _, _, rfl, rfl, .inl g, rfl, ?_⟩⟩
          exact ⟨_, _, _, _, _, rfl, S2.trans S3, .inl ⟨rfl, by omega, Du⟩⟩
        | tab nm k2 in2 =>
          obtain ⟨a, x2, rfl, g, D2⟩ := tab_at Du
          refine ⟨_, rfl, a, _, 0, _, rfl, rfl, .inl g, rfl, rfl, false, by rw [w_tb], iteF ⟨_, rfl, _, rfl, a, _, _, _, rfl, rfl, .inl g, rfl, ?_⟩⟩
          exact ⟨_, _, _, _, _, rfl, S2.trans S3, .inl ⟨rfl, by omega, Du⟩⟩
      · rcases hy with rfl | ⟨k2, rfl⟩
        · obtain ⟨a, x2, rfl, g, D2⟩ := grp_at Du
          refine ⟨_, rfl, a, _, 0, _, rfl, rfl, .inl g, rfl, rfl, false, by rw [w_gb], iteF ⟨_, rfl, _, rfl, a, _, _, _, rfl, rfl, .inl g, rfl, ?_⟩⟩
          exact ⟨_, _, _, _, _, rfl, S2.trans S3, .inr ⟨in2, m2, D2, hb2, hr2, by omega⟩⟩
        · obtain ⟨a, x2, rfl, g, D2⟩ := tab_at Du
          refine ⟨_, rfl, a, _, 0, _, rfl, rfl, .inl g, rfl, rfl, false, by rw [w_tb], iteF ⟨_, rfl, _, rfl, a, _, _, _, rfl, rfl, .inl g, rfl, ?_⟩⟩
          exact ⟨_, _, _, _, _, rfl, S2.trans S3, .inr ⟨in2, m2, D2, hb2, hr2, by omega⟩⟩
    · rintro σ H2 ⟨s0, cur, it, y5, y6, rfl, S2, hcase⟩
      rw [lwx, List.drop_length] at hcase
      rcases hcase with ⟨_, rfl, Dit⟩ | ⟨in_, m, _, _, hres, _⟩
      · refine ⟨_, rfl, _, rfl, by show 2 ≤ sizeLine; omega, fun p hp => ?_⟩
        exact k _ _ _ (S2.trans (Same.new hp)) upd_same (Dit.same (Same.new hp))
      · exact absurd rfl hres.ne
/-- where: from, how wide, and the picture of a box -/
def wideOf : Ly → Nat
  | .box _ p => szP p
  | .grp _ its => szL its
  | .tab _ _ its => szL its
def picOf : Ly → Dv
  | .box _ p => .str (picS p)
  | _ => .non
def whereD (n : Nat) (y : Ly) : Dv := .tup [.int (n : Nat), .int (wideOf y : Nat), picOf y]
theorem Res.bd {its : List (Bool × Ly)} {ss : List Step} {n : Nat} {y : Ly} (h : Res its ss n y) : LyBd its → y.cnt := by
  induction h with
  | one h =>
    intro hb
    have h1 := cn_at h.at_
    have h2 := okL_at hb.ok h.at_
    have h3 := hb.cn
    rw [cnI] at h1
    rw [okI] at h2
    exact ⟨by omega, h2⟩
  | grp h r ih => exact fun hb => ih (hb.grp h.at_)
  | tab h r ih => exact fun hb => ih (hb.tab h.at_)
def spWhere : Sp := fun vs H Q _ => ∃ (iv wv : V) (its : List (Bool × Ly)) (ss : List Step) (n : Nat) (y : Ly), vs = [iv, wv] ∧ Deep H iv (.tup (dvL its)) ∧ Deep H wv (pathD ss) ∧ LyBd its ∧ Res its ss n y ∧ ss.length ≤ 1000 ∧ ∀ u H', Same H H' → Deep H' u (whereD n y) → Q u H'
theorem ok_where (F : Fun K "where" "where" s_where f fd) (D_found : Def P w K mg base 11 "found" ["layout", "path"] spFound) (D_size_of : Def P w K mg base 7 "size_of" ["picture"] spSize) (D_signs_in : Def P w K mg base 8 "signs_in" ["layout"] spSigns) : FnOk P w K mg base (CXE P w) 12 f fd ["layout", "path"] spWhere := by
  refine okNx F sc_where (fun vs H Q E h => ?_) (fun cdv A outer s H vs Q E hr h => ?_)
  · obtain ⟨iv, wv, its, ss, n, y, rfl, _⟩ := h
    rfl
  · obtain ⟨iv, wv, its, ss, n, y, rfl, DI, DW, hb, HR, hl, k⟩ := h
    have hz : 100000 ≤ sizeLine := by rw [sizeLine_eq]; decide
    obtain ⟨hcn, hok⟩ := HR.bd hb
    refine ⟨_, (psx_cons (PSy.mk (ps_asg (D_found.pe hr (by decide) rfl passE0 (pa_c (pv 0) (pa_c (pv 1) pa_nil))) (pg_tup rfl (pgs_cons (pg_name (i := 2) sc_where.nd rfl (Or.inl rfl)) (pgs_cons (pg_name (i := 3) sc_where.nd rfl (Or.inl rfl)) pgs_nil)))))
      (psx_cons (psy_if (pt_cmpR op_eq (pe_ix ix_tupR (pv 3) pe_int (fun _ _ => rfl)) pe_str (nomark _)) (psx_one (psy_ret (pex_tup (pax_c (PEx.mk (pv 2)) (pax_c (PEx.mk (D_size_of.pe hr (by decide) rfl passE0 (pa_c (pe_ix ix_tupR (pv 3) pe_int (fun _ _ => rfl)) pa_nil))) (pax_c (PEx.mk (pe_ix ix_tupR (pv 3) pe_int (fun _ _ => rfl))) pax_nil rfl) rfl) rfl)))) psx_nil)
      (psx_one (psy_ret (pex_tup (pax_c (PEx.mk (pv 2)) (pax_c (PEx.mk (D_signs_in.pe hr (by decide) rfl passE0 (pa_c (pe_ix ix_tupR (pv 3) (pe_un un_neg pe_int) (fun _ _ => rfl)) pa_nil))) (pax_c (PEx.mk pe_non) pax_nil rfl) rfl) rfl)))))), ?_⟩
    refine ⟨_, rfl, _, rfl, iv, wv, its, ss, n, y, rfl, DI, DW, hb, HR, hl, fun q u H1 S1 g1 Du => ?_⟩
    refine ⟨q, _, rfl, .inl (.inl g1), rfl, _, _, rfl, _, _, rfl, rfl, ?_⟩
    dsimp only [gName, tAsg, tSeq, tNext]
    cases y with
    | box nm p =>
      obtain ⟨a, rfl, g⟩ := box_at Du
      obtain ⟨pa, pl, px, ep, hp, es⟩ := pic_size p
      refine ⟨_, rfl, a, _, 0, _, rfl, rfl, .inl g, rfl, rfl, true, rfl, iteT ?_⟩
      refine ⟨_, rfl, _, rfl, a, _, 2, _, rfl, rfl, .inl g, rfl, pa, pl, px, (by rw [ep]; rfl), hp, fun H2 S2 => ?_⟩
      rw [es]
      refine ⟨_, rfl, a, _, 2, _, rfl, rfl, .inl (S2 _ _ g), rfl, by show 3 ≤ sizeLine; omega, fun p3 hp3 => ?_⟩
      exact k _ _ ((S1.trans S2).trans (Same.new hp3)) (.tup upd_same (.cons .int (.cons .int (.cons .str .nil))))
    | grp nm in_ =>
      obtain ⟨a, x, rfl, g, D2⟩ := grp_at Du
      rw [Ly.cn] at hcn
      rw [Ly.okK] at hok
      refine ⟨_, rfl, a, _, 0, _, rfl, rfl, .inl g, rfl, rfl, false, by rw [w_gb], iteF ?_⟩
      refine ⟨_, rfl, _, rfl, _, rfl, a, _, _, _, rfl, rfl, .inl g, rfl, x, in_, rfl, D2, by omega, hok, fun H2 S2 => ⟨by show 3 ≤ sizeLine; omega, fun p3 hp3 => ?_⟩⟩
      exact k _ _ ((S1.trans S2).trans (Same.new hp3)) (.tup upd_same (.cons .int (.cons .int (.cons .non .nil))))
    | tab nm k2 in_ =>
      obtain ⟨a, x, rfl, g, D2⟩ := tab_at Du
      rw [Ly.cn] at hcn
      rw [Ly.okK] at hok
      refine ⟨_, rfl, a, _, 0, _, rfl, rfl, .inl g, rfl, rfl, false, by rw [w_tb], iteF ?_⟩
      refine ⟨_, rfl, _, rfl, _, rfl, a, _, _, _, rfl, rfl, .inl g, rfl, x, in_, rfl, D2, by omega, hok.2, fun H2 S2 => ⟨by show 3 ≤ sizeLine; omega, fun p3 hp3 => ?_⟩⟩
      exact k _ _ ((S1.trans S2).trans (Same.new hp3)) (.tup upd_same (.cons .int (.cons .int (.cons .non .nil))))
end
end Lw

set_option Elab.async false
set_option linter.all false
set_option maxRecDepth 100000
namespace Lw
open PySem PySem.Spec PyProof.Rows L2 K02 K04
open Builtin Builtin.Str StrLaws
/-! ### the paths of all boxes -/
mutual
def Ly.bx : Ly → List Step → List (List Step)
  | .box nm _, pre => [pre ++ [(nm, none)]]
  | .grp nm its, pre => bxL its (pre ++ [(nm, none)])
  | .tab nm k its, pre => (List.range k).flatMap fun i => bxL its (pre ++ [(nm, some i)])
def bxL : List (Bool × Ly) → List Step → List (List Step)
  | [], _ => []
  | x :: xs, pre => bxI x pre ++ bxL xs pre
def bxI : Bool × Ly → List Step → List (List Step)
  | (_, y), pre => y.bx pre
end
mutual
def Ly.wt : Ly → Nat
  | .box _ _ => 1
  | .grp _ its => 1 + wtL its
  | .tab _ k its => 1 + k * wtL its
def wtL : List (Bool × Ly) → Nat
  | [] => 0
  | x :: xs => wtI x + wtL xs
def wtI : Bool × Ly → Nat
  | (_, y) => y.wt
end
theorem Ly.wt_pos (y : Ly) : 1 ≤ y.wt := by cases y <;> rw [Ly.wt] <;> omega
theorem wtL_len : ∀ its : List (Bool × Ly), its.length ≤ wtL its
  | [] => Nat.zero_le _
  | (o, y) :: xs => by
    have := wtL_len xs
    have := y.wt_pos
    rw [List.length_cons, wtL, wtI]
    omega
/-- the stack: paths and what stands there -/
abbrev Pt := List Step × Ly
def ptD (x : Pt) : Dv := .tup [pathD x.1, x.2.dv]
def ptW : List Pt → Nat
  | [] => 0
  | x :: xs => x.2.wt + ptW xs
theorem ptW_app : ∀ a b, ptW (a ++ b) = ptW a + ptW b
  | [], b => by rw [List.nil_append, ptW]; omega
  | x :: a, b => by rw [List.cons_append, ptW, ptW, ptW_app a b]; omega
theorem ptW_len : ∀ st, st.length ≤ ptW st
  | [] => Nat.zero_le _
  | x :: xs => by
    have := ptW_len xs
    have := x.2.wt_pos
    rw [List.length_cons, ptW]
    omega
/-- what the stack still tells -/
def ptB (st : List Pt) : List (List Step) := st.reverse.flatMap fun x => x.2.bx x.1
theorem ptB_app (a b : List Pt) : ptB (a ++ b) = ptB b ++ ptB a := by unfold ptB; rw [List.reverse_append, List.flatMap_append]
def pts (pre : List Step) (its : List (Bool × Ly)) : List Pt := (its.map fun x => (pre, x.2)).reverse
theorem pts_B (pre : List Step) : ∀ its : List (Bool × Ly), ptB (pts pre its) = bxL its pre
  | [] => rfl
  | (o, y) :: xs => by
    have ih := pts_B pre xs
    unfold ptB pts at ih ⊢
    rw [List.reverse_reverse] at ih ⊢
    rw [List.map_cons, List.flatMap_cons, ih, bxL, bxI]
theorem pts_W (pre : List Step) (its : List (Bool × Ly)) : ptW (pts pre its) = wtL its := by
  have rev : ∀ l : List Pt, ptW l.reverse = ptW l := by
    intro l
    induction l with
    | nil => rfl
    | cons x xs ih =>
      rw [List.reverse_cons, ptW_app, ih]
      simp only [ptW]
      omega
  unfold pts
  rw [rev]
  induction its with
  | nil => rfl
  | cons x xs ih =>
    obtain ⟨o, y⟩ := x
    rw [List.map_cons, ptW, ih, wtL, wtI]
theorem pts_D (pre : List Step) (its : List (Bool × Ly)) : (its.map fun x => pairD (pathD pre) x.2).reverse = (pts pre its).map ptD := by
  unfold pts
  rw [← List.map_reverse, ← List.map_reverse, List.map_map]
  rfl
/-- two tuples put together -/
theorem cat_D {a b : Addr} {xs ys : List V} {ds es : List Dv} {H : Hp} {Q : VK} (ga : H a = some (.tup xs)) (gb : H b = some (.tup ys)) (ta : Deeps H xs ds) (tb : Deeps H ys es) (hl : xs.length + ys.length ≤ sizeLine) (k : ∀ u H', Same H H' → Deep H' u (.tup (ds ++ es)) → Q u H') : rCatR (.ref a) (.ref b) H Q := by
  refine ⟨a, b, xs, ys, rfl, rfl, .inl ga, .inl gb, hl, fun z => ?_, fun _ z => ?_, fun _ _ p hp => ?_⟩
  · subst z
    cases ta
    exact k _ _ (Same.refl _) (.tup gb tb)
  · subst z
    cases tb
    rw [List.append_nil] at k
    exact k _ _ (Same.refl _) (.tup ga ta)
  · exact k _ _ (Same.new hp) (deep_tup (ta.append tb) hp)
section
variable {P : Program} {w : World} {K : PySem.W.Frag} {mg : Str → Option Value} {base : Heap} {f : Addr} {fd : FuncData} {tk : Nat → Tok} {c kr : Nat → Addr}
structure TwoL (Hb H : Hp) (a1 a2 : Addr) (x1 x2 : List V) (d1 d2 : List Dv) : Prop where
  S : Same Hb H
  f1 : Hb a1 = none
  f2 : Hb a2 = none
  n12 : a1 ≠ a2
  g1 : H a1 = some (.lst x1)
  g2 : H a2 = some (.lst x2)
  t1 : Deeps H x1 d1
  t2 : Deeps H x2 d2
theorem lst_no {x : List V} : ∀ zs : List V, (HO.lst x) ≠ .tup zs := fun zs z => nomatch z
theorem TwoL.same {Hb H H' : Hp} {a1 a2 : Addr} {x1 x2 : List V} {d1 d2 : List Dv} (B : TwoL Hb H a1 a2 x1 x2 d1 d2) (S : Same H H') : TwoL Hb H' a1 a2 x1 x2 d1 d2 := ⟨B.S.trans S, B.f1, B.f2, B.n12, S _ _ B.g1, S _ _ B.g2, B.t1.same S, B.t2.same S⟩
theorem TwoL.put1 {Hb H : Hp} {a1 a2 : Addr} {x1 x2 x : List V} {d1 d2 d : List Dv} (B : TwoL Hb H a1 a2 x1 x2 d1 d2) (t : Deeps H x d) : TwoL Hb (upd H a1 (.lst x)) a1 a2 x x2 d d2 := ⟨same_off B.S B.f1, B.f1, B.f2, B.n12, upd_same, by rw [upd_ne B.n12.symm]; exact B.g2, t.updL B.g1 lst_no, B.t2.updL B.g1 lst_no⟩
theorem TwoL.put2 {Hb H : Hp} {a1 a2 : Addr} {x1 x2 x : List V} {d1 d2 d : List Dv} (B : TwoL Hb H a1 a2 x1 x2 d1 d2) (t : Deeps H x d) : TwoL Hb (upd H a2 (.lst x)) a1 a2 x1 x d1 d := ⟨same_off B.S B.f2, B.f1, B.f2, B.n12, by rw [upd_ne B.n12]; exact B.g1, upd_same, B.t1.updL B.g2 lst_no, t.updL B.g2 lst_no⟩
theorem path_snoc {pre : List Step} {st : Step} : (pre.map stepD) ++ [stepD st] = (pre ++ [st]).map stepD := by rw [List.map_append]; rfl
theorem wt_at : ∀ {its : List (Bool × Ly)} {x : Bool × Ly}, x ∈ its → x.2.wt ≤ wtL its
  | [], _, h => nomatch h
  | (o, y) :: ys, x, h => by
    rcases List.mem_cons.mp h with rfl | h
    · rw [wtL, wtI]; show y.wt ≤ _; omega
    · have := wt_at (its := ys) h
      rw [wtL]; omega
theorem okL_mem {its : List (Bool × Ly)} (h : okL its) {x : Bool × Ly} (hx : x ∈ its) : x.2.okK := by
  obtain ⟨j, hj⟩ := List.mem_iff_getElem?.mp hx
  have := okL_at h hj
  obtain ⟨o, y⟩ := x
  rw [okI] at this
  exact this
def PtOk (e : Pt) : Prop := e.2.okK ∧ e.1.length + e.2.wt ≤ 10000
theorem pts_ok {pre : List Step} {its : List (Bool × Ly)} (h : okL its) (hl : pre.length + wtL its ≤ 10000) : ∀ e ∈ pts pre its, PtOk e := by
  intro e he
  unfold pts at he
  obtain ⟨x, hx, rfl⟩ := List.mem_map.mp (List.mem_reverse.mp he)
  have := wt_at hx
  exact ⟨okL_mem h hx, by show pre.length + x.2.wt ≤ 10000; omega⟩
/-- what a table puts on the stack, turn by turn -/
def psh (pre : List Step) (nm : Str) (k : Nat) (its : List (Bool × Ly)) : Nat → List Pt
  | 0 => []
  | t + 1 => psh pre nm k its t ++ pts (pre ++ [(nm, some (k - 1 - t))]) its
theorem psh_W (pre : List Step) (nm : Str) (k : Nat) (its : List (Bool × Ly)) : ∀ t, ptW (psh pre nm k its t) = t * wtL its
  | 0 => by rw [psh, Nat.zero_mul]; rfl
  | t + 1 => by rw [psh, ptW_app, psh_W pre nm k its t, pts_W, Nat.succ_mul]
theorem psh_B (pre : List Step) (nm : Str) (k : Nat) (its : List (Bool × Ly)) : ∀ t, t ≤ k → ptB (psh pre nm k its t) = ((List.range k).drop (k - t)).flatMap fun i => bxL its (pre ++ [(nm, some i)])
  | 0, _ => by rw [psh, Nat.sub_zero, List.drop_eq_nil_of_le (by rw [List.length_range]; omega)]; rfl
  | t + 1, h => by
    have e : (List.range k).drop (k - (t + 1)) = (k - 1 - t) :: (List.range k).drop (k - t) := by
      rw [List.drop_eq_getElem_cons (by rw [List.length_range]; omega), List.getElem_range, show k - (t + 1) + 1 = k - t by omega, show k - (t + 1) = k - 1 - t by omega]
    rw [psh, ptB_app, pts_B, psh_B pre nm k its t (by omega), e, List.flatMap_cons]
def spPaths : Sp := fun vs H Q _ => ∃ (iv : V) (its : List (Bool × Ly)), vs = [iv, .bl true] ∧ Deep H iv (.tup (dvL its)) ∧ wtL its ≤ 10000 ∧ okL its ∧ ∀ q xs H', Same H H' → H' q = some (.lst xs) → Deeps H' xs ((bxL its []).map pathD) → Q (.ref q) H'
set_option maxHeartbeats 4000000 in
theorem ok_paths_of_boxes (F : Fun K "paths_of_boxes" "paths_of_boxes" s_paths_of_boxes f fd) (O : Own mg) (D_last_first : Def P w K mg base 2 "last_first" ["path", "items"] spLast) : FnOk P w K mg base (CXE P w) 3 f fd ["items", "with_tables"] spPaths := by
  refine okNx F sc_paths_of_boxes (fun vs H Q E h => ?_) (fun cdv A outer s H vs Q E hr h => ?_)
  · obtain ⟨iv, its, rfl, _⟩ := h
    rfl
  · obtain ⟨iv, its, rfl, DI, hw, hok, k⟩ := h
    have hz : 100000 ≤ sizeLine := by rw [sizeLine_eq]; decide
    refine ⟨_, (psx_cons (psy_set (i := 2) sc_paths_of_boxes.nd rfl (Or.inl rfl) (pex_lst pax_nil) rfl rfl)
      (psx_cons (psy_set (i := 3) sc_paths_of_boxes.nd rfl (Or.inl rfl) (PEx.mk (D_last_first.pe hr (by decide) rfl passE0 (pa_c (pe_tup pa_nil) (pa_c (pv 0) pa_nil)))) rfl rfl)
      (psx_cons (PSy.mk (ps_while PassesOwn.never (pt_truth (pv 3) (fun _ => rfl)) (pss_cons (ps_asg (pe_bm0 PySem.F.plainAttrs_list PySem.F.slot_list_pop PySem.F.type_list_pop mt_pop (pv 3)) (pg_tup rfl (pgs_cons (pg_name (i := 4) sc_paths_of_boxes.nd rfl (Or.inl rfl)) (pgs_cons (pg_name (i := 5) sc_paths_of_boxes.nd rfl (Or.inl rfl)) pgs_nil))))
      (pss_one (ps_if (pt_cmpR op_eq (pe_ix ix_tupR (pv 5) pe_int (fun _ _ => rfl)) pe_str (nomark _)) (pss_one (ps_expr (pe_bm PySem.F.plainAttrs_list PySem.F.slot_list_append PySem.F.type_list_append mt_append (pv 2) (pa_c (pe_op op_catR (pv 4) (pe_tup (pa_c (pe_ix ix_tupR (pv 5) pe_int (fun _ _ => rfl)) pa_nil))) pa_nil)))) (pss_one (ps_if (pt_cmpR op_eq (pe_ix ix_tupR (pv 5) pe_int (fun _ _ => rfl)) pe_str (nomark _)) (pss_one (ps_expr (pe_bm PySem.F.plainAttrs_list PySem.F.slot_list_extend PySem.F.type_list_extend mt_extend (pv 3) (pa_c (D_last_first.pe hr (by decide) rfl passE0 (pa_c (pe_op op_catR (pv 4) (pe_tup (pa_c (pe_ix ix_tupR (pv 5) pe_int (fun _ _ => rfl)) pa_nil))) (pa_c (pe_ix ix_tupR (pv 5) pe_int (fun _ _ => rfl)) pa_nil))) pa_nil)))) (pss_one (ps_if (pt_truth (pv 1) (fun _ => rfl)) (pss_one (ps_for PassesOwn.never rfl (pi_rev1 rfl O.reversed rfl O.range (pa_c (pe_ix ix_tupR (pv 5) pe_int (fun _ _ => rfl)) pa_nil) rfl) (pg_name (i := 6) sc_paths_of_boxes.nd rfl (Or.inl rfl)) (pss_one (ps_expr (pe_bm PySem.F.plainAttrs_list PySem.F.slot_list_extend PySem.F.type_list_extend mt_extend (pv 3) (pa_c (D_last_first.pe hr (by decide) rfl passE0 (pa_c (pe_op op_catR (pv 4) (pe_tup (pa_c (pe_tup (pa_c (pe_ix ix_tupR (pv 5) pe_int (fun _ _ => rfl)) (pa_c (pv 6) pa_nil))) pa_nil))) (pa_c (pe_ix ix_tupR (pv 5) pe_int (fun _ _ => rfl)) pa_nil))) pa_nil)))))) pss_nil)))))))))
      (psx_one (psy_ret (PEx.mk (pv 2))))))), ?_⟩
    dsimp only [gName, tAsg, tSeq, tNext]
    refine ⟨by show 0 ≤ sizeLine; omega, fun pa hpa => ?_⟩
    have S1 := Same.new (o := .lst []) hpa
    have g1 : upd H pa (.lst []) pa = some (.lst []) := upd_same
    generalize upd H pa (.lst []) = H1 at S1 g1
    refine ⟨by show 0 ≤ sizeLine; omega, fun e0 he0 => ?_⟩
    have S2 := Same.new (o := .tup []) he0
    refine ⟨_, rfl, .ref e0, iv, pathD [], its, rfl, .tup upd_same .nil, (DI.same S1).same S2, Nat.le_trans (wtL_len its) hw, fun lf xs H3 S3 hlf gl tl => ?_⟩
    rw [pts_D] at tl
    have S13 := S2.trans S3
    have T3 : TwoL H H3 pa lf [] xs [] ((pts [] its).map ptD) := by
      refine ⟨S1.trans S13, hpa, ?_, ?_, S13 _ _ g1, gl, .nil, tl⟩
      · cases e : H lf with
        | none => rfl
        | some o => rw [S2 _ _ (S1 _ _ e)] at hlf; cases hlf
      · intro z
        rw [← z, S2 _ _ g1] at hlf
        cases hlf
    clear S1 g1 S2 S3 S13 hlf gl tl he0 hpa
    have hB : ([] : List (List Step)) ++ ptB (pts [] its) = bxL its [] := by rw [pts_B]; rfl
    have hW : ptW (pts [] its) ≤ 10000 := by rw [pts_W]; exact hw
    have hO : ∀ e ∈ pts [] its, PtOk e := pts_ok hok (by simpa using hw)
    generalize pts [] its = st0 at T3 hB hW hO
    refine ⟨fun m σ H4 => ∃ (x1 x2 : List V) (acc : List (List Step)) (st : List Pt) (y4 y5 y6 : Option V), σ = [some iv, some (.bl true), some (.ref pa), some (.ref lf), y4, y5, y6] ∧ TwoL H H4 pa lf x1 x2 (acc.map pathD) (st.map ptD) ∧ acc ++ ptB st = bxL its [] ∧ ptW st ≤ m ∧ acc.length + m ≤ 10000 ∧ ∀ e ∈ st, PtOk e, ⟨10000, [], xs, [], st0, none, none, none, rfl, T3, hB, hW, by simp, hO⟩, ?_⟩
    clear T3 hB hW hO
    rintro m σ H4 ⟨x1, x2, acc, st, y4, y5, y6, rfl, T4, hB, hW, hm, hO⟩
    have l1 := T4.t1.length
    have l2 := T4.t2.length
    rw [List.length_map] at l1 l2
    rcases List.eq_nil_or_concat st with rfl | ⟨st0, e0, rfl⟩
    · have e : x2 = [] := List.eq_nil_of_length_eq_zero (by simpa using l2)
      subst e
      refine ⟨_, rfl, false, .inl ⟨_, .inl (.inl T4.g2), rfl⟩, iteF ⟨_, rfl, ?_⟩⟩
      have hB : acc ++ [] = bxL its [] := hB
      rw [List.append_nil] at hB
      rw [← hB] at k
      exact k _ _ _ T4.S T4.g1 T4.t1
    rw [List.concat_eq_append] at T4 hB hW l2 hO
    obtain ⟨pre, y⟩ := e0
    rw [ptB_app] at hB
    rw [ptW_app] at hW
    have hB : acc ++ (y.bx pre ++ [] ++ ptB st0) = bxL its [] := hB
    rw [List.append_nil] at hB
    have hW : ptW st0 + (y.wt + 0) ≤ m := hW
    obtain ⟨hOy, hOl⟩ : y.okK ∧ pre.length + y.wt ≤ 10000 := hO _ (List.mem_append_right _ List.mem_cons_self)
    have hO0 : ∀ e ∈ st0, PtOk e := fun e he => hO e (List.mem_append_left _ he)
    have hyw := y.wt_pos
    have lst0 := ptW_len st0
    rw [List.map_append] at T4
    obtain ⟨xs0, xl, rfl, t1, Dl⟩ : ∃ xs0 xl, x2 = xs0 ++ [xl] ∧ Deeps H4 xs0 (st0.map ptD) ∧ Deep H4 xl (ptD (pre, y)) := by
      rcases List.eq_nil_or_concat x2 with rfl | ⟨xs0, xl, rfl⟩
      · simp at l2
      · rw [List.concat_eq_append] at T4 ⊢
        have l0 : xs0.length = (st0.map ptD).length := by
          have := T4.t2.length
          rw [List.length_append, List.length_append] at this
          simpa using this
        have ht := T4.t2.take xs0.length
        have hd := T4.t2.drop xs0.length
        rw [List.take_left' rfl, l0, List.take_left' rfl] at ht
        rw [List.drop_left' rfl, l0, List.drop_left' rfl] at hd
        cases hd with
        | cons h t => exact ⟨xs0, xl, rfl, ht, h⟩
    refine ⟨_, rfl, true, .inl ⟨_, .inl (.inl T4.g2), by simp⟩, iteT ?_⟩
    refine ⟨fun σ' H' => ∃ m', m' < m ∧ ∃ (x1 x2 : List V) (acc : List (List Step)) (st : List Pt) (y4 y5 y6 : Option V), σ' = [some iv, some (.bl true), some (.ref pa), some (.ref lf), y4, y5, y6] ∧ TwoL H H' pa lf x1 x2 (acc.map pathD) (st.map ptD) ∧ acc ++ ptB st = bxL its [] ∧ ptW st ≤ m' ∧ acc.length + m' ≤ 10000 ∧ ∀ e ∈ st, PtOk e, fun _ _ h => h, ?_⟩
    refine ⟨_, rfl, .inl ⟨rfl, _, .inl (.inl T4.g2)⟩, ?_⟩
    refine ⟨lf, _, xl, rfl, rfl, T4.g2, by simp, ?_⟩
    have T5 : TwoL H (upd H4 lf (.lst (xs0 ++ [xl]).dropLast)) pa lf x1 xs0 (acc.map pathD) (st0.map ptD) := by
      rw [List.dropLast_concat]
      exact T4.put2 t1
    have Dl5 := Dl.updL (o' := .lst (xs0 ++ [xl]).dropLast) T4.g2 lst_no
    generalize upd H4 lf (.lst (xs0 ++ [xl]).dropLast) = H5 at T5 Dl5
    clear T4 Dl t1 l2
    obtain ⟨pb, px, rfl, gp, tp⟩ := Deep.tup' (show Deep H5 xl (.tup [pathD pre, y.dv]) from Dl5)
    obtain ⟨vp, vy, rfl, DP, DY⟩ : ∃ vp vy, px = [vp, vy] ∧ Deep H5 vp (.tup (pre.map stepD)) ∧ Deep H5 vy y.dv := by
      cases tp with
      | cons p1 t => cases t with
        | cons p2 t => cases t; exact ⟨_, _, rfl, p1, p2⟩
    refine ⟨pb, _, rfl, .inl (.inl gp), rfl, _, _, rfl, _, _, rfl, rfl, ?_⟩
    obtain ⟨va, vx, rfl, gv, tv⟩ := Deep.tup' DP
    have lvx := tv.length
    rw [List.length_map] at lvx
    dsimp only [gName, tAsg, tSeq, tNext]
    cases y with
    | box nm p =>
      obtain ⟨a, rfl, g⟩ := box_at DY
      refine ⟨_, rfl, a, _, 0, _, rfl, rfl, .inl g, rfl, rfl, true, rfl, iteT ?_⟩
      refine ⟨_, rfl, .inl ⟨rfl, _, .inl (.inl T5.g1)⟩, ?_⟩
      refine ⟨_, rfl, _, rfl, a, _, 1, _, rfl, rfl, .inl g, rfl, by show 1 ≤ sizeLine; omega, fun p6 hp6 => ?_⟩
      have S6 := Same.new (o := .tup [.str nm]) hp6
      refine cat_D (S6 _ _ gv) upd_same (tv.same S6) (ds := pre.map stepD) (es := [stepD (nm, none)]) (.cons .str .nil) (by show vx.length + 1 ≤ sizeLine; omega) fun u7 H7 S7 D7 => ?_
      rw [path_snoc] at D7
      have T7 := (T5.same S6).same S7
      refine ⟨pa, x1, u7, rfl, rfl, T7.g1, by omega, ?_⟩
      rw [Ly.wt] at hW
      rw [Ly.bx] at hB
      refine ⟨m - 1, by omega, x1 ++ [u7], xs0, acc ++ [pre ++ [(nm, none)]], st0, _, _, _, rfl, ?_, by rw [List.append_assoc]; exact hB, by omega, by rw [List.length_append, List.length_singleton]; omega, hO0⟩
      rw [List.map_append]
      exact T7.put1 (T7.t1.append (.cons D7 .nil))
    | grp nm in_ =>
      obtain ⟨a, x3, rfl, g, D3⟩ := grp_at DY
      rw [Ly.wt] at hW hOl
      rw [Ly.bx] at hB
      rw [Ly.okK] at hOy
      have hlen := wtL_len in_
      refine ⟨_, rfl, a, _, 0, _, rfl, rfl, .inl g, rfl, rfl, false, by rw [w_gb], iteF ?_⟩
      refine ⟨_, rfl, a, _, 0, _, rfl, rfl, .inl g, rfl, rfl, true, rfl, iteT ?_⟩
      refine ⟨_, rfl, .inl ⟨rfl, _, .inl (.inl T5.g2)⟩, ?_⟩
      refine ⟨_, rfl, _, rfl, a, _, 1, _, rfl, rfl, .inl g, rfl, by show 1 ≤ sizeLine; omega, fun p6 hp6 => ?_⟩
      have S6 := Same.new (o := .tup [.str nm]) hp6
      refine cat_D (S6 _ _ gv) upd_same (tv.same S6) (ds := pre.map stepD) (es := [stepD (nm, none)]) (.cons .str .nil) (by show vx.length + 1 ≤ sizeLine; omega) fun u7 H7 S7 D7 => ?_
      rw [path_snoc] at D7
      have S67 := S6.trans S7
      refine ⟨_, rfl, a, _, 2, _, rfl, rfl, .inl (S67 _ _ g), rfl, u7, x3, pathD (pre ++ [(nm, none)]), in_, rfl, D7, D3.same S67, by omega, fun q8 xs8 H8 S8 hq8 g8 t8 => ?_⟩
      rw [pts_D] at t8
      have T8 := (T5.same S67).same S8
      have lx0 := T8.t2.length
      rw [List.length_map] at lx0
      have lx8 := t8.length
      have lp8 : ((pts (pre ++ [(nm, none)]) in_).map ptD).length = in_.length := by unfold pts; simp
      refine ⟨lf, q8, xs0, xs8, rfl, rfl, T8.g2, g8, by omega, ?_⟩
      refine ⟨m - 1, by omega, x1, xs0 ++ xs8, acc, st0 ++ pts (pre ++ [(nm, none)]) in_, _, _, _, rfl, ?_, ?_, ?_, by omega, ?_⟩
      · rw [List.map_append]
        exact T8.put2 (T8.t2.append t8)
      · rw [ptB_app, pts_B]; exact hB
      · rw [ptW_app, pts_W]; omega
      · intro e he
        rcases List.mem_append.mp he with he | he
        · exact hO0 e he
        · exact pts_ok hOy (by rw [List.length_append, List.length_singleton]; omega) e he
    | tab nm k1 in_ =>
      obtain ⟨a, x3, rfl, g, D3⟩ := tab_at DY
      rw [Ly.wt] at hW hOl
      rw [Ly.bx] at hB
      rw [Ly.okK] at hOy
      have hlen := wtL_len in_
      refine ⟨_, rfl, a, _, 0, _, rfl, rfl, .inl g, rfl, rfl, false, by rw [w_tb], iteF ?_⟩
      refine ⟨_, rfl, a, _, 0, _, rfl, rfl, .inl g, rfl, rfl, false, by rw [w_tg], iteF ?_⟩
      refine ⟨_, rfl, true, rfl, iteT ?_⟩
      refine ⟨_, rfl, a, _, 2, _, rfl, rfl, .inl g, rfl, 0, (k1 : Nat), rfl, ⟨by decide, by decide, by omega, by omega⟩, ?_⟩
      have hn : (((k1 : Nat) : Int) - 0).toNat = k1 := by omega
      rw [hn]
      refine for_fix (fixR3 (lo := 0 + ((k1 : Nat) : Int) - 1) (c := -1) (n := k1)) (fun t σ H6 => ∃ (x2 : List V) (y6 : Option V), σ = [some iv, some (.bl true), some (.ref pa), some (.ref lf), some (.ref va), some (.ref a), y6] ∧ TwoL H H6 pa lf x1 x2 (acc.map pathD) ((st0 ++ psh pre nm k1 in_ t).map ptD) ∧ H6 va = some (.tup vx) ∧ Deeps H6 vx (pre.map stepD) ∧ H6 a = some (.tup [.str "table", .str nm, .int (k1 : Nat), x3]) ∧ Deep H6 x3 (.tup (dvL in_))) ⟨xs0, y6, rfl, by rw [psh, List.append_nil]; exact T5, gv, tv, g, D3⟩ ?_ ?_ ?_
      · intro t σ H6 _ _
        trivial
      · rintro t v σ H60 H6 ht ⟨x2, y6, rfl, T6, gv6, tv6, g6, D6⟩ ⟨rfl, rfl⟩
        have e1 : 0 + ((k1 : Nat) : Int) - 1 + ((t : Nat) : Int) * (-1) = ((k1 - 1 - t : Nat) : Int) := by omega
        rw [e1]
        dsimp only [gName, tAsg, tSeq, tNext]
        refine ⟨_, rfl, .inl ⟨rfl, _, .inl (.inl T6.g2)⟩, ?_⟩
        refine ⟨_, rfl, _, rfl, a, _, 1, _, rfl, rfl, .inl g6, rfl, _, rfl, by show 2 ≤ sizeLine; omega, fun p7 hp7 => ⟨by show 1 ≤ sizeLine; omega, fun p8 hp8 => ?_⟩⟩
        have S7 := Same.new (o := .tup [.str nm, .int (k1 - 1 - t : Nat)]) hp7
        have S8 := Same.new (o := .tup [.ref p7]) hp8
        have D8 : Deep (upd (upd H6 p7 (.tup [.str nm, .int (k1 - 1 - t : Nat)])) p8 (.tup [.ref p7])) (.ref p7) (stepD (nm, some (k1 - 1 - t))) := (Deep.tup upd_same (.cons .str (.cons .int .nil))).same S8
        refine cat_D ((S7.trans S8) _ _ gv6) upd_same (tv6.same (S7.trans S8)) (ds := pre.map stepD) (es := [stepD (nm, some (k1 - 1 - t))]) (.cons D8 .nil) (by show vx.length + 1 ≤ sizeLine; omega) fun u9 H9 S9 D9 => ?_
        rw [path_snoc] at D9
        have S69 := (S7.trans S8).trans S9
        have hlw : in_.length ≤ k1 * wtL in_ := Nat.le_trans hlen (Nat.le_mul_of_pos_left _ (by omega))
        have hww : wtL in_ ≤ k1 * wtL in_ := Nat.le_mul_of_pos_left _ (by omega)
        refine ⟨_, rfl, a, _, 3, _, rfl, rfl, .inl (S69 _ _ g6), rfl, u9, x3, pathD (pre ++ [(nm, some (k1 - 1 - t))]), in_, rfl, D9, D6.same S69, by omega, fun q10 xs10 H10 S10 hq10 g10 t10 => ?_⟩
        rw [pts_D] at t10
        have T10 := (T6.same S69).same S10
        have S610 := S69.trans S10
        have lx2 := T10.t2.length
        rw [List.length_map, List.length_append] at lx2
        have lpsh := ptW_len (psh pre nm k1 in_ t)
        rw [psh_W] at lpsh
        have hmul : t * wtL in_ ≤ k1 * wtL in_ := Nat.mul_le_mul_right _ (by omega)
        have lx10 := t10.length
        have lp10 : ((pts (pre ++ [(nm, some (k1 - 1 - t))]) in_).map ptD).length = in_.length := by unfold pts; simp
        refine ⟨lf, q10, x2, xs10, rfl, rfl, T10.g2, g10, by omega, ?_⟩
        have nva : va ≠ lf := fun z => by rw [z, T6.g2] at gv6; cases gv6
        have na : a ≠ lf := fun z => by rw [z, T6.g2] at g6; cases g6
        refine ⟨x2 ++ xs10, _, rfl, ?_, by rw [upd_ne nva]; exact S610 _ _ gv6, (tv6.same S610).updL T10.g2 lst_no, by rw [upd_ne na]; exact S610 _ _ g6, (D6.same S610).updL T10.g2 lst_no⟩
        rw [psh, ← List.append_assoc, List.map_append]
        exact T10.put2 (T10.t2.append t10)
      · rintro σ H6 ⟨x2, y6, rfl, T6, _, _, _, _⟩
        refine ⟨m - 1, by omega, x1, x2, acc, st0 ++ psh pre nm k1 in_ k1, _, _, _, rfl, T6, ?_, ?_, by omega, ?_⟩
        · rw [ptB_app, psh_B _ _ _ _ _ (Nat.le_refl _), Nat.sub_self, List.drop_zero]; exact hB
        · rw [ptW_app, psh_W]; omega
        · intro e he
          rcases List.mem_append.mp he with he | he
          · exact hO0 e he
          · have key : ∀ t, t ≤ k1 → ∀ e ∈ psh pre nm k1 in_ t, PtOk e := by
              intro t
              induction t with
              | zero => intro _ e he; exact nomatch he
              | succ t ih =>
                intro ht e he
                rcases List.mem_append.mp he with he | he
                · exact ih (by omega) e he
                · have hww : wtL in_ ≤ k1 * wtL in_ := Nat.le_mul_of_pos_left _ (by omega)
                  exact pts_ok hOy.2 (by rw [List.length_append, List.length_singleton]; omega) e he
            exact key k1 (Nat.le_refl _) e he
def spBoxes : Sp := fun vs H Q _ => ∃ (iv : V) (its : List (Bool × Ly)), vs = [iv] ∧ Deep H iv (.tup (dvL its)) ∧ wtL its ≤ 10000 ∧ okL its ∧ ∀ u H', Same H H' → Deep H' u (.tup ((bxL its []).map pathD)) → Q u H'
theorem ok_boxes (F : Fun K "boxes" "boxes" s_boxes f fd) (OT : mg "tuple" = none) (D_paths_of_boxes : Def P w K mg base 3 "paths_of_boxes" ["items", "with_tables"] spPaths) : FnOk P w K mg base (CXE P w) 4 f fd ["layout"] spBoxes := by
  refine okNx F sc_boxes (fun vs H Q E h => ?_) (fun cdv A outer s H vs Q E hr h => ?_)
  · obtain ⟨iv, its, rfl, _⟩ := h
    rfl
  · obtain ⟨iv, its, rfl, DI, hw, hok, k⟩ := h
    refine ⟨_, (psx_one (psy_ret (PEx.mk (pe_callTy call_tuple_of rfl OT PyProof.Rows.boot_tuple (pa_c (D_paths_of_boxes.pe hr (by decide) rfl passE0 (pa_c (pv 0) (pa_c pe_bl pa_nil))) pa_nil))))), ?_⟩
    refine ⟨_, rfl, iv, its, rfl, DI, hw, hok, fun q xs H1 S1 g1 t1 => ⟨q, xs, rfl, .inl ⟨.inl (.inl g1), fun l hl => ?_⟩⟩⟩
    exact k _ _ (S1.trans (Same.new hl)) (deep_tup t1 hl)
end
end Lw

set_option Elab.async false
set_option linter.all false
set_option maxRecDepth 100000
namespace Lw
open PySem PySem.Spec PyProof.Rows L2 K02 K04
open Builtin Builtin.Str StrLaws
section
variable {P : Program} {w : World} {K : PySem.W.Frag} {mg : Str → Option Value} {base : Heap} {f : Addr} {fd : FuncData} {tk : Nat → Tok}
/-! ### the law's own defs -/
theorem tru_list {H : Hp} {a : Addr} {ns : List Int} (h : SqL K H a (ns.map V.int)) : TruV K (.ref a) H (!ns.isEmpty) := .inl ⟨_, h, by cases ns <;> rfl⟩
theorem ok__law_draw (F : Fun K "_law_draw" "_law_draw" s__law_draw f fd) (O : Own mg) : FnOk P w K mg base (CXE P w) 1 f fd ["_law_script", "_law_town", "_law_many"] (spDraw K) := by
  refine okN F sc__law_draw (fun vs H Q E h => ?_) (fun cdv A outer s H vs Q E hr h => ?_)
  · obtain ⟨a, t, r, ns, c, many, rs, rfl, _⟩ := h
    rfl
  · obtain ⟨a, t, r, ns, c, many, rs, rfl, hS, T, nat, nar, hl, hc, hm0, hm1, k⟩ := h
    have hu := hu_of hr
    have T1 : TownAt (upd H t (.dK [(Sum.inr "count", .int (c + 1)), (Sum.inr "rests", .ref r)])) t r (c + 1) rs := ⟨upd_same, by rw [upd_ne T.ne.symm]; exact T.rt, T.vs, by have := T.c0; omega, by have := T.ln; omega, T.ne⟩
    have hS1 := hS.upd (o := .dK [(Sum.inr "count", .int (c + 1)), (Sum.inr "rests", .ref r)]) nat
    have A1 : Apart t r H (upd H t (.dK [(Sum.inr "count", .int (c + 1)), (Sum.inr "rests", .ref r)])) := fun b o e n1 n2 => by rw [upd_ne n1]; exact e
    refine ⟨_, (pss_cons (ps_dput hu (pv 1) pe_str (pe_op op_add (pe_dget hu (pv 1) pe_str (fun _ _ => rfl)) pe_int) rfl)
      (pss_cons (ps_set (i := 3) sc__law_draw.nd rfl (Or.inl rfl) (pe_ifExp (pt_truth (pv 0) (fun _ => rfl)) (pe_op op_mod (pe_dget hu (pv 1) pe_str (fun _ _ => rfl)) (pe_callB call_len_seq rfl O.len PySem.boot_len (pa_cons (pv 0) pa_nil))) pe_int))
      (pss_cons (ps_set (i := 4) sc__law_draw.nd rfl (Or.inl rfl) (pe_dget2 hu (pe_dget hu (pv 1) pe_str (fun _ _ => rfl)) (pv 3) (pe_ifExp (pt_truth (pv 0) (fun _ => rfl)) (pe_ix ix_list (pv 0) (pv 3) (fun _ _ => rfl)) pe_int) ⟨rfl, rfl, rfl, rfl⟩))
      (pss_cons (ps_if (pt_cmpR op_ge (pv 4) (pe_op op_pow pe_int pe_int) (nomark _)) (pss_cons (ps_dput hu (pe_dget hu (pv 1) pe_str (fun _ _ => rfl)) (pv 3) (pe_op op_fdiv (pv 4) (pv 2)) rfl)
      (pss_one (ps_ret (pe_op op_mod (pv 4) (pv 2))))) pss_nil)
      (pss_cons (ps_set (i := 5) sc__law_draw.nd rfl (Or.inl rfl) (pe_op op_mod (pe_op op_add (pv 4) (pe_op op_mul pe_int (pe_dget hu (pv 1) pe_str (fun _ _ => rfl)))) pe_int))
      (pss_cons (ps_set (i := 5) sc__law_draw.nd rfl (Or.inl rfl) (pe_op op_mod (pe_op op_pow (pv 5) pe_int) pe_int))
      (pss_one (ps_ret (pe_op op_mod (pe_op op_fdiv (pe_op op_mod (pe_op op_add (pe_op op_mul (pe_op op_fdiv (pv 5) pe_int) pe_int) (pv 5)) pe_int) pe_int) (pv 2)))))))))), ?_⟩
    refine ⟨_, rfl, t, _, rfl, dget_count T.tw, _, _, rfl, rfl, _, rfl, t, _, rfl, dput_count _ T.tw, ?_⟩
    refine ⟨_, rfl, _, tru_list hS1, ?_⟩
    refine ifB (fun hz => ?_) (fun hz => ?_)
    · have hp : 0 < ns.length := by cases ns with | nil => cases hz | cons a r => exact Nat.succ_pos _
      have hp' : (0 : Int) < ((ns.map V.int).length : Int) := by rw [List.length_map]; omega
      refine ⟨_, rfl, t, _, rfl, dget_count T1.tw, _, rfl, a, _, rfl, .inl hS1, _, _, rfl, rfl, hp', ?_⟩
      have m1 := Int.emod_nonneg (c + 1) (Int.ne_of_gt hp')
      have m2 := Int.emod_lt_of_pos (c + 1) hp'
      obtain ⟨j, hj⟩ := Int.eq_ofNat_of_zero_le m1
      have hjl : j < ns.length := by rw [hj, List.length_map] at m2; omega
      refine ⟨_, rfl, t, _, rfl, dget_rests T1.tw, r, rfl, .inl ⟨rs, .inl T1.rt⟩, _, rfl, _, rfl, _, tru_list hS1, ?_⟩
      rw [hz]
      refine iteT ⟨_, rfl, _, rfl, a, _, _, V.int ns[j], rfl, rfl, hS1, ?_, _, DGet.k (k := Sum.inl ((c + 1) % ((ns.map V.int).length : Int))) T1.rt, ?_⟩
      · show atI (ns.map V.int) ((c + 1) % ((ns.map V.int).length : Int)) = _
        rw [hj]
        refine atI_nat ?_
        rw [List.getElem?_map, List.getElem?_eq_getElem hjl]
        rfl
      obtain ⟨z, hz⟩ := rests_val T1.vs ((c + 1) % ((ns.map V.int).length : Int)) (ns[j])
      rw [hz]
      refine ⟨_, rfl, _, _, rfl, rfl, ⟨by decide, by decide, by decide⟩, _, _, rfl, rfl, _, rfl, ?_⟩
      refine ifB (fun g => ?_) (fun g => ?_)
      · have P2 := rests_put T1.vs ((c + 1) % ((ns.map V.int).length : Int)) (z / many)
        refine ⟨_, rfl, _, rfl, _, _, rfl, rfl, ⟨hm0, by omega⟩, _, rfl, t, _, rfl, dget_rests T1.tw, _, rfl, r, _, rfl, DPut.k (k := Sum.inl ((c + 1) % ((ns.map V.int).length : Int))) T1.rt (Nat.lt_of_lt_of_le (m := 100001) (by have := T.ln; omega) (by decide)), ?_⟩
        refine ⟨_, rfl, _, rfl, _, _, rfl, rfl, hm0, ?_⟩
        refine k _ (putK rs (Sum.inl ((c + 1) % ((ns.map V.int).length : Int))) (.int (z / many))) _ (Int.emod_nonneg _ (Int.ne_of_gt hm0)) (Int.emod_lt_of_pos _ hm0) ⟨?_, upd_same, P2.1, T1.c0, ?_, T.ne⟩ (A1.trans fun b o e n1 n2 => by rw [upd_ne n2]; exact e)
        · rw [upd_ne T.ne]; exact T1.tw
        · have := P2.2
          have := T.ln
          omega
      · refine ⟨_, rfl, _, rfl, t, _, rfl, dget_count T1.tw, _, _, rfl, rfl, .inl ⟨by decide, by decide⟩, _, _, rfl, rfl, _, _, rfl, rfl, (show (0 : Int) < 4294967291 by decide), ?_⟩
        have n1 := Int.emod_nonneg (z + 104729 * (c + 1)) (show (4294967291 : Int) ≠ 0 by decide)
        have n2 := Int.emod_lt_of_pos (z + 104729 * (c + 1)) (show (0 : Int) < 4294967291 by decide)
        refine ⟨_, rfl, _, _, rfl, rfl, ⟨by decide, by decide, by show Int.natAbs _ < 2 ^ 64; omega⟩, _, _, rfl, rfl, (show (0 : Int) < 4294967279 by decide), ?_⟩
        refine ⟨_, rfl, _, _, rfl, rfl, ⟨by decide, by decide⟩, _, _, rfl, rfl, .inr ⟨by decide, by decide⟩, _, rfl, _, _, rfl, rfl, _, _, rfl, rfl, (show (0 : Int) < 4294967231 by decide), _, _, rfl, rfl, ⟨by decide, by decide⟩, _, rfl, _, _, rfl, rfl, hm0, ?_⟩
        exact k _ rs _ (Int.emod_nonneg _ (Int.ne_of_gt hm0)) (Int.emod_lt_of_pos _ hm0) T1 A1
    · refine ⟨_, rfl, t, _, rfl, dget_rests T1.tw, r, rfl, .inl ⟨rs, .inl T1.rt⟩, _, rfl, _, rfl, _, tru_list hS1, ?_⟩
      rw [hz]
      refine iteF ⟨_, DGet.k (k := Sum.inl (0 : Int)) T1.rt, ?_⟩
      obtain ⟨z, hz⟩ := rests_val T1.vs ((0 : Int)) (0)
      rw [hz]
      refine ⟨_, rfl, _, _, rfl, rfl, ⟨by decide, by decide, by decide⟩, _, _, rfl, rfl, _, rfl, ?_⟩
      refine ifB (fun g => ?_) (fun g => ?_)
      · have P2 := rests_put T1.vs ((0 : Int)) (z / many)
        refine ⟨_, rfl, _, rfl, _, _, rfl, rfl, ⟨hm0, by omega⟩, _, rfl, t, _, rfl, dget_rests T1.tw, _, rfl, r, _, rfl, DPut.k (k := Sum.inl ((0 : Int))) T1.rt (Nat.lt_of_lt_of_le (m := 100001) (by have := T.ln; omega) (by decide)), ?_⟩
        refine ⟨_, rfl, _, rfl, _, _, rfl, rfl, hm0, ?_⟩
        refine k _ (putK rs (Sum.inl ((0 : Int))) (.int (z / many))) _ (Int.emod_nonneg _ (Int.ne_of_gt hm0)) (Int.emod_lt_of_pos _ hm0) ⟨?_, upd_same, P2.1, T1.c0, ?_, T.ne⟩ (A1.trans fun b o e n1 n2 => by rw [upd_ne n2]; exact e)
        · rw [upd_ne T.ne]; exact T1.tw
        · have := P2.2
          have := T.ln
          omega
      · refine ⟨_, rfl, _, rfl, t, _, rfl, dget_count T1.tw, _, _, rfl, rfl, .inl ⟨by decide, by decide⟩, _, _, rfl, rfl, _, _, rfl, rfl, (show (0 : Int) < 4294967291 by decide), ?_⟩
        have n1 := Int.emod_nonneg (z + 104729 * (c + 1)) (show (4294967291 : Int) ≠ 0 by decide)
        have n2 := Int.emod_lt_of_pos (z + 104729 * (c + 1)) (show (0 : Int) < 4294967291 by decide)
        refine ⟨_, rfl, _, _, rfl, rfl, ⟨by decide, by decide, by show Int.natAbs _ < 2 ^ 64; omega⟩, _, _, rfl, rfl, (show (0 : Int) < 4294967279 by decide), ?_⟩
        refine ⟨_, rfl, _, _, rfl, rfl, ⟨by decide, by decide⟩, _, _, rfl, rfl, .inr ⟨by decide, by decide⟩, _, rfl, _, _, rfl, rfl, _, _, rfl, rfl, (show (0 : Int) < 4294967231 by decide), _, _, rfl, rfl, ⟨by decide, by decide⟩, _, rfl, _, _, rfl, rfl, hm0, ?_⟩
        exact k _ rs _ (Int.emod_nonneg _ (Int.ne_of_gt hm0)) (Int.emod_lt_of_pos _ hm0) T1 A1
theorem ok__law_begun (F : Fun K "_law_begun" "_law_begun" s__law_begun f fd) : FnOk P w K mg base (CXE P w) 1 f fd [] spBegun := by
  refine okNx F sc__law_begun (fun vs H Q E h => ?_) (fun cdv A outer s H vs Q E hr h => ?_)
  · obtain ⟨rfl, _⟩ := h
    rfl
  · obtain ⟨rfl, k⟩ := h
    refine ⟨_, begun_body, ?_⟩
    intro p hp d hd
    have npd : d ≠ p := fun z => by rw [z, upd_same] at hd; cases hd
    have hd0 : H d = none := by rw [upd_ne npd] at hd; exact hd
    refine ⟨by rw [upd_ne npd.symm, upd_same], [(Sum.inr "count", .int 0), (Sum.inr "rests", .ref d)], rfl, Nat.le_of_ble_eq_true rfl, ?_⟩
    have e : mergeK [] [((Sum.inr "count" : Key), V.int 0), ((Sum.inr "rests" : Key), V.ref d)] = [((Sum.inr "count" : Key), V.int 0), ((Sum.inr "rests" : Key), V.ref d)] := by
      have h : ¬ ((Sum.inr "count" : Key) = (Sum.inr "rests" : Key)) := cnt_ne
      unfold mergeK putK
      simp [h]
    rw [e]
    refine k p d _ hp hd0 ⟨upd_same, by rw [upd_ne npd, upd_same], (fun kv hm => nomatch hm), by decide, by decide, npd.symm⟩ fun b o z => ?_
    rw [upd_ne (ne_of_none z hp), upd_ne (ne_of_none z hd0), upd_ne (ne_of_none z hp)]
    exact z
end
end Lw

set_option Elab.async false
set_option linter.all false
set_option maxRecDepth 100000
namespace Lw
open PySem PySem.Spec PyProof.Rows L2 K02 K04
open Builtin Builtin.Str StrLaws
/-! ### the law's own sizes -/
mutual
def Ly.dp : Ly → Nat
  | .box _ _ => 0
  | .grp _ its => 1 + dpL its
  | .tab _ _ its => 1 + dpL its
def dpL : List (Bool × Ly) → Nat
  | [] => 0
  | x :: xs => max (dpI x) (dpL xs)
def dpI : Bool × Ly → Nat
  | (_, y) => y.dp
end
theorem dpL_mem : ∀ {its : List (Bool × Ly)} {x : Bool × Ly}, x ∈ its → x.2.dp ≤ dpL its
  | [], _, h => nomatch h
  | (o, y) :: ys, x, h => by
    rcases List.mem_cons.mp h with rfl | h
    · rw [dpL, dpI]; show y.dp ≤ _; omega
    · have := dpL_mem (its := ys) h
      rw [dpL]; omega
theorem szL_sum : ∀ its : List (Bool × Ly), (its.map fun x => ((szI x : Nat) : Int)).sum = ((szL its : Nat) : Int)
  | [] => rfl
  | x :: xs => by rw [List.map_cons, List.sum_cons, szL_sum xs, szL]; push_cast; rfl
def dict6 : List (Key × V) := [(Sum.inr "9(3)", .int 3), (Sum.inr "S99V9", .int 3), (Sum.inr "X(4)", .int 4), (Sum.inr "AA", .int 2), (Sum.inr "Z9.9", .int 4), (Sum.inr "X", .int 1)]
theorem dict6_eq : mergeK [] dict6 = dict6 := by decide +kernel
theorem dict6_at (p : Nat) : valV dict6 (Sum.inr (picS p)) = some (.int (szP p : Nat)) := by
  unfold picS szP
  split <;> decide +kernel
section
variable {P : Program} {w : World} {K : PySem.W.Frag} {mg : Str → Option Value} {base : Heap} {f : Addr} {fd : FuncData} {tk : Nat → Tok} {c kr : Nat → Addr}
def spISz (d : Nat) : Sp := fun vs H Q _ => ∃ (v : V) (x : Bool × Ly), vs = [v] ∧ Deep H v (dvI x) ∧ x.2.dp < d ∧ x.2.cn ≤ 10000 ∧ x.2.okK ∧ ∀ H', Same H H' → Q (.int (szI x : Nat)) H'
theorem ok__law_item_size0 (F : Fun K "_law_item_size" "_law_item_size" s__law_item_size f fd) : FnOk P w K mg base (CXE P w) 1 f fd ["_law_item"] (spISz 0) := by
  refine okNx F sc__law_item_size (fun vs H Q E h => ?_) (fun cdv A outer s H vs Q E hr h => ?_)
  · obtain ⟨v, x, rfl, _⟩ := h
    rfl
  · obtain ⟨v, x, rfl, _, hd, _⟩ := h
    exact absurd hd (Nat.not_lt_zero _)
set_option maxHeartbeats 2000000 in
theorem ok__law_item_size (d : Nat) (F : Fun K "_law_item_size" "_law_item_size" s__law_item_size f fd) (O : Own mg) (D__law_item_size : Def P w K mg base (d + 1) "_law_item_size" ["_law_item"] (spISz d)) : FnOk P w K mg base (CXE P w) (d + 2) f fd ["_law_item"] (spISz (d + 1)) := by
  refine okNx F sc__law_item_size (fun vs H Q E h => ?_) (fun cdv A outer s H vs Q E hr h => ?_)
  · obtain ⟨v, x, rfl, _⟩ := h
    rfl
  · obtain ⟨v, ⟨ov, y⟩, rfl, D, hd, hcn, hok, k⟩ := h
    have hz : 100000 ≤ sizeLine := by rw [sizeLine_eq]; decide
    have hu := hu_of hr
    refine ⟨_, (psx_cons (psy_if (pt_cmpR op_eq (pe_ix ix_tupR (pv 0) pe_int (fun _ _ => rfl)) pe_str (nomark _)) (psx_one (psy_ret (PEx.mk pe_int))) psx_nil)
      (psx_cons (psy_if (pt_cmpR op_eq (pe_ix ix_tupR (pv 0) pe_int (fun _ _ => rfl)) pe_str (nomark _)) (psx_one (psy_ret (pex_dget hu (pex_dispN (ppx_cons (PEx.mk pe_str) (PEx.mk pe_int) (ppx_cons (PEx.mk pe_str) (PEx.mk pe_int) (ppx_cons (PEx.mk pe_str) (PEx.mk pe_int) (ppx_cons (PEx.mk pe_str) (PEx.mk pe_int) (ppx_cons (PEx.mk pe_str) (PEx.mk pe_int) (ppx_cons (PEx.mk pe_str) (PEx.mk pe_int) ppx_nil)))))) rfl rfl (List.cons_ne_nil _ _) (Nat.le_of_ble_eq_true rfl)) (PEx.mk (pe_ix ix_tupR (pv 0) pe_int (fun _ _ => rfl))) (fun _ _ => rfl)))) psx_nil)
      (psx_cons (psy_set (i := 1) sc__law_item_size.nd rfl (Or.inl rfl) (PEx.mk (pe_callB (call_sum rfl) rfl O.sum L2.boot_sum (pa_c (pe_lcomp (NB := [".0", "_law_one"]) rfl ⟨rfl, by decide +kernel, by decide +kernel, by decide +kernel⟩ (pi_tup (pe_ix ix_tupR (pv 0) (pe_un un_neg pe_int) (fun _ _ => rfl))) (fun _ _ _ => (pg_name (i := 1) (show ([".0", "_law_one"] : List Str).Nodup by decide +kernel) rfl (Or.inl rfl))) (fun _ _ _ => pts_nil) (fun _ _ _ => (D__law_item_size.pe hr (by omega) rfl passE0 (pa_c (pv 1) pa_nil)))) pa_nil))) rfl rfl)
      (psx_one (psy_ret (pex_if (pt_cmpR op_eq (pe_ix ix_tupR (pv 0) pe_int (fun _ _ => rfl)) pe_str (nomark _)) (pex_op op_mul (PEx.mk (pv 1)) (PEx.mk (pe_ix ix_tupR (pv 0) pe_int (fun _ _ => rfl)))) (PEx.mk (pv 1)))))))), ?_⟩
    cases ov with
    | true =>
      obtain ⟨a, x2, rfl, g, _⟩ := over_at D
      rw [szI, if_pos rfl] at k
      exact ⟨_, rfl, a, _, 0, _, rfl, rfl, .inl g, rfl, rfl, true, rfl, iteT (k _ (Same.refl _))⟩
    | false =>
      rw [dvI, if_neg (by decide)] at D
      rw [szI, if_neg (by decide)] at k
      have hd : y.dp < d + 1 := hd
      have hcn : y.cn ≤ 10000 := hcn
      have hok : y.okK := hok
      cases y with
      | box nm p =>
        obtain ⟨a, rfl, g⟩ := box_at D
        rw [Ly.sz] at k
        refine ⟨_, rfl, a, _, 0, _, rfl, rfl, .inl g, rfl, rfl, false, by rw [w_bo], iteF ?_⟩
        refine ⟨_, rfl, a, _, 0, _, rfl, rfl, .inl g, rfl, rfl, true, rfl, iteT ?_⟩
        refine fun pd hpd => ⟨upd_same, dict6, rfl, by decide, ?_⟩
        have S2 : Same H (upd (upd H pd (.dK [])) pd (.dK (mergeK [] dict6))) := same_off (Same.new hpd) hpd
        rw [dict6_eq] at S2 ⊢
        refine ⟨_, rfl, a, _, 2, _, rfl, rfl, .inl (S2 _ _ g), rfl, pd, _, rfl, ?_, k _ S2⟩
        have := DGet.k (k := Sum.inr (picS p)) (show upd (upd H pd (.dK [])) pd (.dK dict6) pd = some (.dK dict6) from upd_same)
        rw [dict6_at] at this
        exact this
      | grp nm in_ =>
        obtain ⟨a, x, rfl, g, D2⟩ := grp_at D
        rw [Ly.sz] at k
        rw [Ly.cn] at hcn
        rw [Ly.okK] at hok
        rw [Ly.dp] at hd
        refine ⟨_, rfl, a, _, 0, _, rfl, rfl, .inl g, rfl, rfl, false, by rw [w_go], iteF ?_⟩
        refine ⟨_, rfl, a, _, 0, _, rfl, rfl, .inl g, rfl, rfl, false, by rw [w_gb], iteF ?_⟩
        dsimp only [gName, tAsg, tSeq, tNext]
        refine cb1 ?_
        obtain ⟨xa, ys, rfl, gx, tx⟩ := Deep.tup' D2
        rw [dvL_map] at tx
        have lx := tx.length
        rw [List.length_map] at lx
        have ln := len_cn in_
        have hok2 : okL in_ := hok
        refine comp_deep (fixT (K := K) (a := xa) (xs := ys)) (in_.map fun x => Dv.int (szI x : Nat)) (by rw [List.length_map]; omega) (fun R h => ⟨_, rfl, _, rfl, a, _, _, _, rfl, rfl, .inl g, rfl, xa, rfl, ⟨_, .inl (.inl gx)⟩, h _ (Same.refl _)⟩) (fun H1 S => .inl (.inl (S _ _ gx))) ?_ ?_ (by omega)
        · rintro i v H1 H2 dd R hd2 S ⟨rfl, hv⟩ kk
          obtain ⟨dv, hdv, ddv⟩ := tx.getX hv
          rw [List.getElem?_map] at hdv hd2
          cases e : in_[i]? with
          | none => rw [e] at hdv; cases hdv
          | some z =>
            rw [e] at hdv hd2
            obtain rfl := Option.some.inj hdv
            have hm := List.mem_of_getElem? e
            have h1 := cn_at e
            have h2 := okL_mem hok2 hm
            have h3 := dpL_mem hm
            refine ⟨_, rfl, v, z, rfl, ddv.same S, by omega, by obtain ⟨o, yy⟩ := z; rw [cnI] at h1; show yy.cn ≤ 10000; omega, h2, fun H3 S3 => kk _ _ S3 ?_⟩
            rw [← Option.some.inj hd2]
            exact .int
        rintro zs H1' p' S' t2 hp'
        have e : zs = (in_.map fun x => ((szI x : Nat) : Int)).map V.int := by
          have := deeps_ints (ns := in_.map fun x => ((szI x : Nat) : Int)) (by rw [List.map_map]; exact t2)
          exact this
        subst e
        have S1 := S'.trans (Same.new (o := .lst ((in_.map fun x => ((szI x : Nat) : Int)).map V.int)) hp')
        refine ⟨p', _, rfl, .inl (.inl upd_same), ?_⟩
        rw [szL_sum]
        generalize upd H1' p' (.lst ((in_.map fun x => ((szI x : Nat) : Int)).map V.int)) = H1 at S1
        refine ⟨_, rfl, a, _, 0, _, rfl, rfl, .inl (S1 _ _ g), rfl, rfl, false, by rw [w_gt], iteF ⟨_, rfl, k _ S1⟩⟩
      | tab nm k1 in_ =>
        obtain ⟨a, x, rfl, g, D2⟩ := tab_at D
        rw [Ly.sz] at k
        rw [Ly.cn] at hcn
        rw [Ly.okK] at hok
        rw [Ly.dp] at hd
        refine ⟨_, rfl, a, _, 0, _, rfl, rfl, .inl g, rfl, rfl, false, by rw [w_to], iteF ?_⟩
        refine ⟨_, rfl, a, _, 0, _, rfl, rfl, .inl g, rfl, rfl, false, by rw [w_tb], iteF ?_⟩
        dsimp only [gName, tAsg, tSeq, tNext]
        refine cb1 ?_
        obtain ⟨xa, ys, rfl, gx, tx⟩ := Deep.tup' D2
        rw [dvL_map] at tx
        have lx := tx.length
        rw [List.length_map] at lx
        have ln := len_cn in_
        have hok2 : okL in_ := hok.2
        refine comp_deep (fixT (K := K) (a := xa) (xs := ys)) (in_.map fun x => Dv.int (szI x : Nat)) (by rw [List.length_map]; omega) (fun R h => ⟨_, rfl, _, rfl, a, _, _, _, rfl, rfl, .inl g, rfl, xa, rfl, ⟨_, .inl (.inl gx)⟩, h _ (Same.refl _)⟩) (fun H1 S => .inl (.inl (S _ _ gx))) ?_ ?_ (by omega)
        · rintro i v H1 H2 dd R hd2 S ⟨rfl, hv⟩ kk
          obtain ⟨dv, hdv, ddv⟩ := tx.getX hv
          rw [List.getElem?_map] at hdv hd2
          cases e : in_[i]? with
          | none => rw [e] at hdv; cases hdv
          | some z =>
            rw [e] at hdv hd2
            obtain rfl := Option.some.inj hdv
            have hm := List.mem_of_getElem? e
            have h1 := cn_at e
            have h2 := okL_mem hok2 hm
            have h3 := dpL_mem hm
            refine ⟨_, rfl, v, z, rfl, ddv.same S, by omega, by obtain ⟨o, yy⟩ := z; rw [cnI] at h1; show yy.cn ≤ 10000; omega, h2, fun H3 S3 => kk _ _ S3 ?_⟩
            rw [← Option.some.inj hd2]
            exact .int
        rintro zs H1' p' S' t2 hp'
        have e : zs = (in_.map fun x => ((szI x : Nat) : Int)).map V.int := by
          have := deeps_ints (ns := in_.map fun x => ((szI x : Nat) : Int)) (by rw [List.map_map]; exact t2)
          exact this
        subst e
        have S1 := S'.trans (Same.new (o := .lst ((in_.map fun x => ((szI x : Nat) : Int)).map V.int)) hp')
        refine ⟨p', _, rfl, .inl (.inl upd_same), ?_⟩
        rw [szL_sum]
        generalize upd H1' p' (.lst ((in_.map fun x => ((szI x : Nat) : Int)).map V.int)) = H1 at S1
        refine ⟨_, rfl, a, _, 0, _, rfl, rfl, .inl (S1 _ _ g), rfl, rfl, true, rfl, iteT ?_⟩
        refine ⟨_, rfl, _, rfl, a, _, 2, _, rfl, rfl, .inl (S1 _ _ g), rfl, _, _, rfl, rfl, .inr ⟨by have := hok.1; omega, by have := hok.1; omega⟩, ?_⟩
        have e : ((szL in_ : Nat) : Int) * ((k1 : Nat) : Int) = ((szL in_ * k1 : Nat) : Int) := by push_cast; rfl
        dsimp only
        rw [e]
        exact k _ S1
end
end Lw

set_option Elab.async false
set_option linter.all false
set_option maxRecDepth 100000
namespace Lw
open PySem PySem.Spec PyProof.Rows L2 K02 K04
open Builtin Builtin.Str StrLaws
/-! ### the layouts that are drawn -/
def lett (j : Nat) : Str := ⟨#[97 + j]⟩
/-- the size of the last item that lies over nothing -/
def lastSz (its : List (Bool × Ly)) : Nat := if its = [] then 0 else (its.getD (under its (its.length - 1)) dfI).2.sz
structure PB (its : List (Bool × Ly)) : Prop where
  len : its.length ≤ 4
  nm : ∀ (j : Nat) (x : Bool × Ly), its[j]? = some x → x.2.name = lett j
  first : ∀ x, its[0]? = some x → x.1 = false
  ov : ∀ (j : Nat) (y : Ly), its[j]? = some (true, y) → y.sz ≤ (its.getD (under its j) dfI).2.sz
def Good : Nat → List (Bool × Ly) → Prop
  | 0, its => its ≠ [] ∧ PB its ∧ ∀ x ∈ its, ∃ nm p, x.2 = .box nm p
  | d + 1, its => its ≠ [] ∧ PB its ∧ ∀ x ∈ its, (∃ nm p, x.2 = .box nm p) ∨ (∃ nm in_, x.2 = .grp nm in_ ∧ Good d in_) ∨ (∃ nm k in_, x.2 = .tab nm k in_ ∧ 1 ≤ k ∧ k ≤ 3 ∧ Good d in_)
def GoodY : Nat → Ly → Prop
  | 0, y => ∃ nm p, y = .box nm p
  | d + 1, y => (∃ nm p, y = .box nm p) ∨ (∃ nm in_, y = .grp nm in_ ∧ Good d in_) ∨ (∃ nm k in_, y = .tab nm k in_ ∧ 1 ≤ k ∧ k ≤ 3 ∧ Good d in_)
theorem good_iff (d : Nat) (its : List (Bool × Ly)) : Good d its ↔ its ≠ [] ∧ PB its ∧ ∀ x ∈ its, GoodY d x.2 := by
  cases d <;> rfl
def cnB : Nat → Nat
  | 0 => 4
  | d + 1 => 4 * (1 + cnB d)
def wtB : Nat → Nat
  | 0 => 4
  | d + 1 => 4 * (1 + 3 * wtB d)
theorem sum_le {g : Bool × Ly → Nat} {gl : List (Bool × Ly) → Nat} (h0 : gl [] = 0) (hc : ∀ x xs, gl (x :: xs) = g x + gl xs) {B : Nat} : ∀ {its : List (Bool × Ly)}, (∀ x ∈ its, g x ≤ B) → gl its ≤ its.length * B
  | [], _ => by rw [h0]; exact Nat.zero_le _
  | x :: xs, h => by
    have h1 := h x List.mem_cons_self
    have h2 := sum_le h0 hc (its := xs) fun y hy => h y (List.mem_cons_of_mem _ hy)
    rw [hc, List.length_cons, Nat.succ_mul]
    omega
theorem okL_of : ∀ {its : List (Bool × Ly)}, (∀ x ∈ its, x.2.okK) → okL its
  | [], _ => by rw [okL]; trivial
  | (o, y) :: xs, h => by
    rw [okL, okI]
    exact ⟨h _ List.mem_cons_self, okL_of fun x hx => h x (List.mem_cons_of_mem _ hx)⟩
theorem dpL_of {B : Nat} : ∀ {its : List (Bool × Ly)}, (∀ x ∈ its, x.2.dp ≤ B) → dpL its ≤ B
  | [], _ => by rw [dpL]; exact Nat.zero_le _
  | (o, y) :: xs, h => by
    have h1 := h _ List.mem_cons_self
    have h2 := dpL_of (its := xs) fun x hx => h x (List.mem_cons_of_mem _ hx)
    rw [dpL, dpI]
    show max y.dp (dpL xs) ≤ B
    have : y.dp ≤ B := h1
    omega
structure LBd (d : Nat) (its : List (Bool × Ly)) : Prop where
  cn : cnL its ≤ cnB d
  wt : wtL its ≤ wtB d
  ok : okL its
  dp : dpL its ≤ d
theorem good_bd : ∀ (d : Nat) (its : List (Bool × Ly)), Good d its → LBd d its
  | 0, its, h => by
    obtain ⟨_, hp, hx⟩ := h
    have hl := hp.len
    refine ⟨?_, ?_, okL_of fun x hx' => ?_, dpL_of fun x hx' => ?_⟩
    · have := sum_le (g := cnI) (gl := cnL) (by rw [cnL]) (fun x xs => by rw [cnL]) (B := 1) (its := its) fun x hx' => by
        obtain ⟨o, y⟩ := x
        obtain ⟨nm, p, e⟩ := hx _ hx'
        rw [cnI, show y = .box nm p from e, Ly.cn]
        exact Nat.le_refl _
      show cnL its ≤ 4
      omega
    · have := sum_le (g := wtI) (gl := wtL) (by rw [wtL]) (fun x xs => by rw [wtL]) (B := 1) (its := its) fun x hx' => by
        obtain ⟨o, y⟩ := x
        obtain ⟨nm, p, e⟩ := hx _ hx'
        rw [wtI, show y = .box nm p from e, Ly.wt]
        exact Nat.le_refl _
      show wtL its ≤ 4
      omega
    · obtain ⟨nm, p, e⟩ := hx _ hx'
      rw [e, Ly.okK]
      trivial
    · obtain ⟨nm, p, e⟩ := hx _ hx'
      rw [e, Ly.dp]
      exact Nat.le_refl _
  | d + 1, its, h => by
    obtain ⟨_, hp, hx⟩ := h
    have hl := hp.len
    have each : ∀ x ∈ its, x.2.cn ≤ 1 + cnB d ∧ x.2.wt ≤ 1 + 3 * wtB d ∧ x.2.okK ∧ x.2.dp ≤ d + 1 := by
      intro x hx'
      rcases hx x hx' with ⟨nm, p, e⟩ | ⟨nm, in_, e, hg⟩ | ⟨nm, k, in_, e, hk1, hk3, hg⟩
      · rw [e, Ly.cn, Ly.wt, Ly.okK, Ly.dp]
        exact ⟨by omega, by omega, trivial, by omega⟩
      · have b := good_bd d in_ hg
        have b1 := b.cn
        have b2 := b.wt
        have b4 := b.dp
        rw [e, Ly.cn, Ly.wt, Ly.okK, Ly.dp]
        exact ⟨by omega, by omega, b.ok, by omega⟩
      · have b := good_bd d in_ hg
        have b1 := b.cn
        have b2 := b.wt
        have b4 := b.dp
        have : k * wtL in_ ≤ 3 * wtB d := Nat.mul_le_mul hk3 b2
        rw [e, Ly.cn, Ly.wt, Ly.okK, Ly.dp]
        exact ⟨by omega, by omega, ⟨by omega, b.ok⟩, by omega⟩
    refine ⟨?_, ?_, okL_of fun x hx' => (each x hx').2.2.1, dpL_of fun x hx' => (each x hx').2.2.2⟩
    · have := sum_le (g := cnI) (gl := cnL) (by rw [cnL]) (fun x xs => by rw [cnL]) (B := 1 + cnB d) (its := its) fun x hx' => by
        obtain ⟨o, y⟩ := x
        rw [cnI]
        exact (each _ hx').1
      show cnL its ≤ 4 * (1 + cnB d)
      exact Nat.le_trans this (Nat.mul_le_mul_right _ hl)
    · have := sum_le (g := wtI) (gl := wtL) (by rw [wtL]) (fun x xs => by rw [wtL]) (B := 1 + 3 * wtB d) (its := its) fun x hx' => by
        obtain ⟨o, y⟩ := x
        rw [wtI]
        exact (each _ hx').2.1
      show wtL its ≤ 4 * (1 + 3 * wtB d)
      exact Nat.le_trans this (Nat.mul_le_mul_right _ hl)
theorem goodY_bd (d : Nat) (hd : d ≤ 2) {y : Ly} (h : GoodY d y) : y.cn ≤ 1000 ∧ y.wt ≤ 1000 ∧ y.okK ∧ y.dp ≤ d := by
  cases d with
  | zero =>
    obtain ⟨nm, p, rfl⟩ := h
    rw [Ly.cn, Ly.wt, Ly.okK, Ly.dp]
    exact ⟨by omega, by omega, trivial, by omega⟩
  | succ d =>
    have c1 : cnB d ≤ 20 ∧ wtB d ≤ 52 := by
      obtain rfl | rfl : d = 0 ∨ d = 1 := by omega
      · decide
      · decide
    rcases h with ⟨nm, p, rfl⟩ | ⟨nm, in_, rfl, hg⟩ | ⟨nm, k, in_, rfl, hk1, hk3, hg⟩
    · rw [Ly.cn, Ly.wt, Ly.okK, Ly.dp]
      exact ⟨by omega, by omega, trivial, by omega⟩
    · have b := good_bd d in_ hg
      have b1 := b.cn
      have b2 := b.wt
      have b4 := b.dp
      rw [Ly.cn, Ly.wt, Ly.okK, Ly.dp]
      exact ⟨by omega, by omega, b.ok, by omega⟩
    · have b := good_bd d in_ hg
      have b1 := b.cn
      have b2 := b.wt
      have b4 := b.dp
      have : k * wtL in_ ≤ 3 * wtB d := Nat.mul_le_mul hk3 b2
      rw [Ly.cn, Ly.wt, Ly.okK, Ly.dp]
      exact ⟨by omega, by omega, ⟨by omega, b.ok⟩, by omega⟩
theorem getD_app {its : List (Bool × Ly)} {x : Bool × Ly} {j : Nat} (h : j < its.length) : (its ++ [x]).getD j dfI = its.getD j dfI := by
  rw [List.getD_eq_getElem?_getD, List.getD_eq_getElem?_getD, List.getElem?_append_left h]
theorem getD_new (its : List (Bool × Ly)) (x : Bool × Ly) : (its ++ [x]).getD its.length dfI = x := by
  rw [List.getD_eq_getElem?_getD, List.getElem?_append_right (Nat.le_refl _), Nat.sub_self]
  rfl
theorem under_app {its : List (Bool × Ly)} {x : Bool × Ly} : ∀ {j : Nat}, j < its.length → under (its ++ [x]) j = under its j
  | 0, _ => rfl
  | j + 1, h => by
    rw [under, under, getD_app h, under_app (j := j) (by omega)]
theorem lastSz_new (its : List (Bool × Ly)) (y : Ly) : lastSz (its ++ [(false, y)]) = y.sz := by
  unfold lastSz
  rw [if_neg (by simp), List.length_append, List.length_singleton, Nat.add_sub_cancel, under_step, getD_new]
  show (((its ++ [(false, y)]).getD (if false = true then _ else its.length) dfI).2).sz = y.sz
  rw [if_neg (by decide), getD_new]
theorem lastSz_over {its : List (Bool × Ly)} (hne : its ≠ []) (y : Ly) : lastSz (its ++ [(true, y)]) = lastSz its := by
  obtain ⟨n, hn⟩ : ∃ n, its.length = n + 1 := ⟨its.length - 1, by
    have : its.length ≠ 0 := fun z => hne (List.eq_nil_of_length_eq_zero z)
    omega⟩
  have hu := under_le its n
  unfold lastSz
  rw [if_neg (by simp), if_neg hne, List.length_append, List.length_singleton, Nat.add_sub_cancel, under_step, getD_new]
  show (((its ++ [(true, y)]).getD (if true = true then underB (its ++ [(true, y)]) its.length else its.length) dfI).2).sz = _
  rw [if_pos rfl, hn, underB, under_app (by omega), getD_app (by omega), Nat.add_sub_cancel]
theorem PB.add {its : List (Bool × Ly)} (h : PB its) {y : Ly} (hl : its.length < 4) (hn : y.name = lett its.length) : PB (its ++ [(false, y)]) := by
  refine ⟨by rw [List.length_append, List.length_singleton]; omega, fun j x hj => ?_, fun x hx => ?_, fun j y' hj => ?_⟩
  · by_cases e : j < its.length
    · rw [List.getElem?_append_left e] at hj; exact h.nm j x hj
    · have e2 : j = its.length := by
        have := (List.getElem?_eq_some_iff.mp hj).1
        rw [List.length_append, List.length_singleton] at this
        omega
      subst e2
      rw [List.getElem?_append_right (Nat.le_refl _), Nat.sub_self] at hj
      rw [← Option.some.inj hj]
      exact hn
  · cases its with
    | nil => rw [← Option.some.inj hx]
    | cons z zs => exact h.first x hx
  · by_cases e : j < its.length
    · rw [List.getElem?_append_left e] at hj
      have := h.ov j y' hj
      have hu := under_le its j
      rw [under_app e, getD_app (by omega)]
      exact this
    · have e2 : j = its.length := by
        have := (List.getElem?_eq_some_iff.mp hj).1
        rw [List.length_append, List.length_singleton] at this
        omega
      subst e2
      rw [List.getElem?_append_right (Nat.le_refl _), Nat.sub_self] at hj
      cases hj
theorem PB.addO {its : List (Bool × Ly)} (h : PB its) (hne : its ≠ []) {y : Ly} (hl : its.length < 4) (hn : y.name = lett its.length) (hs : y.sz ≤ lastSz its) : PB (its ++ [(true, y)]) := by
  obtain ⟨n, hn2⟩ : ∃ n, its.length = n + 1 := ⟨its.length - 1, by
    have : its.length ≠ 0 := fun z => hne (List.eq_nil_of_length_eq_zero z)
    omega⟩
  have hu := under_le its n
  refine ⟨by rw [List.length_append, List.length_singleton]; omega, fun j x hj => ?_, fun x hx => ?_, fun j y' hj => ?_⟩
  · by_cases e : j < its.length
    · rw [List.getElem?_append_left e] at hj; exact h.nm j x hj
    · have e2 : j = its.length := by
        have := (List.getElem?_eq_some_iff.mp hj).1
        rw [List.length_append, List.length_singleton] at this
        omega
      subst e2
      rw [List.getElem?_append_right (Nat.le_refl _), Nat.sub_self] at hj
      rw [← Option.some.inj hj]
      exact hn
  · cases its with
    | nil => exact absurd rfl hne
    | cons z zs => exact h.first x hx
  · by_cases e : j < its.length
    · rw [List.getElem?_append_left e] at hj
      have := h.ov j y' hj
      have hu := under_le its j
      rw [under_app e, getD_app (by omega)]
      exact this
    · have e2 : j = its.length := by
        have := (List.getElem?_eq_some_iff.mp hj).1
        rw [List.length_append, List.length_singleton] at this
        omega
      subst e2
      rw [List.getElem?_append_right (Nat.le_refl _), Nat.sub_self] at hj
      have hj : (true, y) = (true, y') := Option.some.inj hj
      have e3 : y = y' := congrArg (·.2) hj
      subst e3
      rw [under_step, getD_new]
      show y.sz ≤ ((its ++ [(true, y)]).getD (if true = true then underB (its ++ [(true, y)]) its.length else its.length) dfI).2.sz
      rw [if_pos rfl, hn2, underB, under_app (by omega), getD_app (by omega)]
      unfold lastSz at hs
      rw [if_neg hne, hn2, Nat.add_sub_cancel] at hs
      exact hs
/-- how often is drawn at the most -/
def cb : Nat → Int
  | 0 => 20
  | d + 1 => 4 * cb d + 20
end Lw

set_option Elab.async false
set_option linter.all false
set_option maxRecDepth 100000
namespace Lw
open PySem PySem.Spec PyProof.Rows L2 K02 K04
open Builtin Builtin.Str StrLaws
/-! ### the boxes that lie over no other -/
mutual
def Ly.pq : Ly → List (List Step × Nat)
  | .box nm p => [([(nm, none)], p)]
  | .grp nm its => (pqL its).map fun x => ((nm, none) :: x.1, x.2)
  | .tab nm k its => (List.range k).flatMap fun i => (pqL its).map fun x => ((nm, some i) :: x.1, x.2)
def pqL : List (Bool × Ly) → List (List Step × Nat)
  | [] => []
  | x :: xs => pqI x ++ pqL xs
def pqI : Bool × Ly → List (List Step × Nat)
  | (o, y) => if o = true then [] else y.pq
end
def plL (its : List (Bool × Ly)) : List (List Step) := (pqL its).map (·.1)
/-- one behind the other -/
def Run (R : List Step → Nat → Nat → Prop) : Nat → List (List Step × Nat) → Nat → Prop
  | b, [], e => b = e
  | b, x :: l, e => R x.1 b x.2 ∧ Run R (b + szP x.2) l e
theorem Run.app {R : List Step → Nat → Nat → Prop} : ∀ {l1 l2 : List (List Step × Nat)} {b m e : Nat}, Run R b l1 m → Run R m l2 e → Run R b (l1 ++ l2) e
  | [], l2, b, m, e, h1, h2 => by have h1 : b = m := h1; subst h1; exact h2
  | x :: l1, l2, b, m, e, h1, h2 => ⟨h1.1, Run.app h1.2 h2⟩
theorem Run.shift {R R' : List Step → Nat → Nat → Prop} {g : List Step → List Step} {s : Nat} (hR : ∀ path n p, R' path n p → R (g path) (s + n) p) : ∀ {l : List (List Step × Nat)} {b e : Nat}, Run R' b l e → Run R (s + b) (l.map fun x => (g x.1, x.2)) (s + e)
  | [], b, e, h => by have h : b = e := h; subst h; rfl
  | x :: l, b, e, h => ⟨hR _ _ _ h.1, by have := Run.shift hR h.2; rw [← Nat.add_assoc] at this; exact this⟩
theorem lett_inj {i j : Nat} (h : lett i = lett j) : i = j := by
  have h1 : (lett i).cps = (lett j).cps := by rw [h]
  have h2 : (#[97 + i] : Array Nat) = #[97 + j] := h1
  have h3 : [97 + i] = [97 + j] := congrArg Array.toList h2
  have := (List.cons.inj h3).1
  omega
theorem PB.ati {its : List (Bool × Ly)} (h : PB its) {j : Nat} {o : Bool} {y : Ly} {st : Step} {n : Nat} (e : its[j]? = some (o, y)) (hs : st.1 = lett j) (ha : aheadOf y st.2 = some n) : AtI its st j o y n := by
  refine ⟨e, by rw [hs]; exact h.nm j (o, y) e, fun i x hi hx z => ?_, ha⟩
  rw [h.nm i x hx, hs] at z
  have := lett_inj z
  omega
def Bx (its : List (Bool × Ly)) (path : List Step) (n p : Nat) : Prop := ∃ nm, Res its path n (.box nm p)
theorem szL_app : ∀ a b : List (Bool × Ly), szL (a ++ b) = szL a + szL b
  | [], b => by rw [List.nil_append, szL]; omega
  | x :: a, b => by rw [List.cons_append, szL, szL, szL_app a b]; omega
theorem run_flat {R : List Step → Nat → Nat → Prop} {g : Nat → List (List Step × Nat)} {s w : Nat} {k : Nat} (h : ∀ i, i < k → Run R (s + i * w) (g i) (s + i * w + w)) : ∀ m, m ≤ k → Run R s ((List.range m).flatMap g) (s + m * w)
  | 0, _ => by rw [Nat.zero_mul]; rfl
  | m + 1, hm => by
    rw [List.range_succ, List.flatMap_append]
    refine Run.app (run_flat h m (by omega)) ?_
    rw [List.flatMap_cons, List.flatMap_nil, List.append_nil, Nat.succ_mul, ← Nat.add_assoc]
    exact h m (by omega)
theorem Res.ne' {its : List (Bool × Ly)} {ss : List Step} {n : Nat} {y : Ly} (h : Res its ss n y) : ∃ s2 t2, ss = s2 :: t2 := by
  cases ss with
  | nil => exact absurd rfl h.ne
  | cons a b => exact ⟨a, b, rfl⟩
theorem good_run : ∀ (d : Nat) (its : List (Bool × Ly)), Good d its → Run (Bx its) 0 (pqL its) (szL its) := by
  intro d
  induction d with
  | zero =>
    intro its hg
    obtain ⟨-, hp, hx⟩ := (good_iff 0 its).mp hg
    have key : ∀ (b a : List (Bool × Ly)), its = a ++ b → Run (Bx its) (szL a) (pqL b) (szL its) := by
      intro b
      induction b with
      | nil => intro a e; rw [e, List.append_nil]; rw [pqL]; rfl
      | cons x b ih =>
        intro a e
        have ih := ih (a ++ [x]) (by rw [List.append_assoc]; exact e)
        rw [szL_app] at ih
        rw [pqL]
        refine Run.app ?_ ih
        have ej : its[a.length]? = some x := by rw [e, List.getElem?_append_right (Nat.le_refl _), Nat.sub_self]; rfl
        have et : its.take a.length = a := by rw [e, List.take_left' rfl]
        obtain ⟨o, y⟩ := x
        obtain ⟨nm, p, rfl⟩ : ∃ nm p, y = .box nm p := hx (o, y) (List.mem_of_getElem? ej)
        rw [pqI, show szL [(o, Ly.box nm p)] = szI (o, Ly.box nm p) + 0 by rw [szL, szL], szI]
        cases o with
        | true => rw [if_pos rfl, if_pos rfl]; rfl
        | false =>
          rw [if_neg (by decide), if_neg (by decide), Ly.pq, Ly.sz]
          refine ⟨⟨nm, ?_⟩, by simp only [Run]; omega⟩
          have hu : under its a.length = a.length := by rw [under_step, List.getD_eq_getElem?_getD, ej]; rfl
          have := Res.one (hp.ati (st := (nm, none)) ej (hp.nm _ _ ej) rfl)
          rw [hu, et] at this
          exact this
    have := key its [] rfl
    rw [szL] at this
    exact this
  | succ d IH =>
    intro its hg
    obtain ⟨-, hp, hx⟩ := (good_iff (d + 1) its).mp hg
    have key : ∀ (b a : List (Bool × Ly)), its = a ++ b → Run (Bx its) (szL a) (pqL b) (szL its) := by
      intro b
      induction b with
      | nil => intro a e; rw [e, List.append_nil]; rw [pqL]; rfl
      | cons x b ih =>
        intro a e
        have ih := ih (a ++ [x]) (by rw [List.append_assoc]; exact e)
        rw [szL_app] at ih
        rw [pqL]
        refine Run.app ?_ ih
        have ej : its[a.length]? = some x := by rw [e, List.getElem?_append_right (Nat.le_refl _), Nat.sub_self]; rfl
        have et : its.take a.length = a := by rw [e, List.take_left' rfl]
        obtain ⟨o, y⟩ := x
        have hy := hx (o, y) (List.mem_of_getElem? ej)
        have hnm := hp.nm _ _ ej
        rw [pqI, show szL [(o, y)] = szI (o, y) + 0 by rw [szL, szL], szI]
        cases o with
        | true => rw [if_pos rfl, if_pos rfl]; rfl
        | false =>
          have hu : under its a.length = a.length := by rw [under_step, List.getD_eq_getElem?_getD, ej]; rfl
          rw [if_neg (by decide), if_neg (by decide)]
          rcases hy with ⟨nm, p, e2⟩ | ⟨nm, in_, e2, hgi⟩ | ⟨nm, k, in_, e2, hk1, hk3, hgi⟩
          · have e2 : y = .box nm p := e2
            subst e2
            rw [Ly.pq, Ly.sz]
            refine ⟨⟨nm, ?_⟩, by simp only [Run]; omega⟩
            have := Res.one (hp.ati (st := (nm, none)) ej hnm rfl)
            rw [hu, et] at this
            exact this
          · have e2 : y = .grp nm in_ := e2
            subst e2
            rw [Ly.pq, Ly.sz]
            have := Run.shift (R := Bx its) (R' := Bx in_) (g := fun x => (nm, none) :: x) (s := szL a) (fun path n p h => ?_) (IH in_ hgi)
            · exact this
            · obtain ⟨nm2, r⟩ := h
              obtain ⟨s2, t2, rfl⟩ := r.ne'
              have := Res.grp (hp.ati (st := (nm, none)) ej hnm rfl) r
              rw [hu, et] at this
              exact ⟨nm2, this⟩
          · have e2 : y = .tab nm k in_ := e2
            subst e2
            rw [Ly.pq, Ly.sz]
            have := run_flat (R := Bx its) (g := fun i => (pqL in_).map fun x => ((nm, some i) :: x.1, x.2)) (s := szL a) (w := szL in_) (k := k) (fun i hi => ?_) k (Nat.le_refl _)
            · rw [Nat.mul_comm (szL in_) k]; exact this
            · have := Run.shift (R := Bx its) (R' := Bx in_) (g := fun x => (nm, some i) :: x) (s := szL a + i * szL in_) (fun path n p h => ?_) (IH in_ hgi)
              · exact this
              · obtain ⟨nm2, r⟩ := h
                obtain ⟨s2, t2, rfl⟩ := r.ne'
                have ha : aheadOf (.tab nm k in_) (some i) = some (i * szL in_) := by
                  show (if i < k then some (i * szL in_) else none) = _
                  rw [if_pos hi]
                have := Res.tab (hp.ati (st := (nm, some i)) ej hnm ha) r
                rw [hu, et] at this
                exact ⟨nm2, this⟩
    have := key its [] rfl
    rw [szL] at this
    exact this
/-- they are among all boxes -/
theorem pl_bx : ∀ (d : Nat) (its : List (Bool × Ly)), Good d its → ∀ (pre path : List Step), path ∈ plL its → pre ++ path ∈ bxL its pre := by
  intro d
  induction d with
  | zero =>
    intro its hg pre path
    obtain ⟨-, hp, hx⟩ := (good_iff 0 its).mp hg
    clear hg hp
    induction its with
    | nil => intro h; unfold plL at h; rw [pqL] at h; cases h
    | cons x xs ih =>
      intro h
      unfold plL at h ih
      rw [pqL, List.map_append] at h
      rw [bxL]
      rcases List.mem_append.mp h with h | h
      · refine List.mem_append_left _ ?_
        obtain ⟨o, y⟩ := x
        rw [pqI] at h
        rw [bxI]
        split at h
        · cases h
        obtain ⟨nm, p, rfl⟩ : ∃ nm p, y = .box nm p := hx (o, y) List.mem_cons_self
        rw [Ly.pq] at h
        rw [Ly.bx]
        rw [List.mem_singleton.mp h]
        exact List.mem_singleton.mpr rfl
      · exact List.mem_append_right _ (ih (fun y hy => hx y (List.mem_cons_of_mem _ hy)) h)
  | succ d IH =>
    intro its hg pre path
    obtain ⟨-, hp, hx⟩ := (good_iff (d + 1) its).mp hg
    clear hg hp
    induction its with
    | nil => intro h; unfold plL at h; rw [pqL] at h; cases h
    | cons x xs ih =>
      intro h
      unfold plL at h ih
      rw [pqL, List.map_append] at h
      rw [bxL]
      rcases List.mem_append.mp h with h | h
      · refine List.mem_append_left _ ?_
        obtain ⟨o, y⟩ := x
        rw [pqI] at h
        rw [bxI]
        split at h
        · cases h
        rcases hx (o, y) List.mem_cons_self with ⟨nm, p, e2⟩ | ⟨nm, in_, e2, hgi⟩ | ⟨nm, k, in_, e2, hk1, hk3, hgi⟩
        · have e2 : y = .box nm p := e2
          subst e2
          rw [Ly.pq] at h
          rw [Ly.bx]
          rw [List.mem_singleton.mp h]
          exact List.mem_singleton.mpr rfl
        · have e2 : y = .grp nm in_ := e2
          subst e2
          rw [Ly.pq, List.map_map] at h
          rw [Ly.bx]
          obtain ⟨z, hz, rfl⟩ := List.mem_map.mp h
          have := IH in_ hgi (pre ++ [(nm, none)]) z.1 (List.mem_map.mpr ⟨z, hz, rfl⟩)
          rw [List.append_assoc] at this
          exact this
        · have e2 : y = .tab nm k in_ := e2
          subst e2
          rw [Ly.pq] at h
          rw [Ly.bx]
          obtain ⟨w, hw, rfl⟩ := List.mem_map.mp h
          obtain ⟨i, hi, hw⟩ := List.mem_flatMap.mp hw
          obtain ⟨z, hz, rfl⟩ := List.mem_map.mp hw
          refine List.mem_flatMap.mpr ⟨i, hi, ?_⟩
          have := IH in_ hgi (pre ++ [(nm, some i)]) z.1 (List.mem_map.mpr ⟨z, hz, rfl⟩)
          rw [List.append_assoc] at this
          exact this
      · exact List.mem_append_right _ (ih (fun y hy => hx y (List.mem_cons_of_mem _ hy)) h)
/-- a box, and all that it lies in -/
structure Lead (its : List (Bool × Ly)) (ss : List Step) (n : Nat) (nm : Str) (p : Nat) : Prop where
  r : Res its ss n (.box nm p)
  e : n + szP p ≤ szL its
  w : ∀ k, 1 ≤ k → k < ss.length → ∃ m z, Res its (ss.take k) m z ∧ picOf z = .non ∧ m ≤ n ∧ n + szP p ≤ m + wideOf z
theorem under_no {its : List (Bool × Ly)} (h0 : ∀ x, its[0]? = some x → x.1 = false) : ∀ {j : Nat}, j < its.length → (its.getD (under its j) dfI).1 = false
  | 0, hj => by
    rw [under, List.getD_eq_getElem?_getD, List.getElem?_eq_getElem hj]
    exact h0 _ (List.getElem?_eq_getElem hj)
  | j + 1, hj => by
    rw [under]
    split
    · exact under_no h0 (by omega)
    · rename_i h
      simpa using h
theorem szL_cut {its : List (Bool × Ly)} {j : Nat} {y : Ly} (h : its[j]? = some (false, y)) : szL (its.take j) + y.sz ≤ szL its := by
  have hl := (List.getElem?_eq_some_iff.mp h).1
  have e : its = its.take j ++ (false, y) :: its.drop (j + 1) := by
    have := List.take_append_drop j its
    rw [List.drop_eq_getElem_cons hl, (List.getElem?_eq_some_iff.mp h).2] at this
    exact this.symm
  have e2 : szL its = szL (its.take j) + (szI (false, y) + szL (its.drop (j + 1))) := by
    conv => lhs; rw [e]
    rw [szL_app, szL]
  rw [szI, if_neg (by decide)] at e2
  omega
theorem PB.room {its : List (Bool × Ly)} (hp : PB its) {j : Nat} {o : Bool} {y : Ly} (h : its[j]? = some (o, y)) : szL (its.take (under its j)) + y.sz ≤ szL its := by
  have hl := (List.getElem?_eq_some_iff.mp h).1
  have hul := under_le its j
  have hun := under_no hp.first hl
  have hu2 : its[under its j]? = some (false, (its.getD (under its j) dfI).2) := by
    rw [List.getD_eq_getElem?_getD] at hun ⊢
    rw [List.getElem?_eq_getElem (by omega : under its j < its.length)] at hun ⊢
    have hun : its[under its j].1 = false := hun
    show some its[under its j] = some (false, its[under its j].2)
    rw [← hun]
  have hc := szL_cut hu2
  cases o with
  | true => have := hp.ov j y h; omega
  | false =>
    have e : under its j = j := by rw [under_step, List.getD_eq_getElem?_getD, h]; rfl
    rw [e]
    exact szL_cut h
theorem lead_in {its in_ : List (Bool × Ly)} {j n0 n : Nat} {st : Step} {o : Bool} {y : Ly} {ss : List Step} {nm : Str} {p : Nat} (hA : AtI its st j o y n0) (hyz : wideOf y = szL in_) (hyp : picOf y = .non) (hroom : szL (its.take (under its j)) + n0 + szL in_ ≤ szL its) (hin : ∀ ss m z, Res in_ ss m z → Res its (st :: ss) (szL (its.take (under its j)) + n0 + m) z) (L : Lead in_ ss n nm p) : Lead its (st :: ss) (szL (its.take (under its j)) + n0 + n) nm p := by
  have hle := L.e
  refine ⟨hin _ _ _ L.r, by omega, fun k hk1 hk2 => ?_⟩
  by_cases ek : k = 1
  · subst ek
    refine ⟨_, y, ?_, hyp, Nat.le_add_right _ n, by rw [hyz]; omega⟩
    rw [List.take_succ_cons, List.take_zero]
    exact Res.one hA
  · obtain ⟨k', rfl⟩ : ∃ k', k = k' + 1 := ⟨k - 1, by omega⟩
    rw [List.length_cons] at hk2
    obtain ⟨m, z, r, hz, h1, h2⟩ := L.w k' (by omega) (by omega)
    refine ⟨_, z, ?_, hz, Nat.add_le_add_left h1 _, by omega⟩
    rw [List.take_succ_cons]
    exact hin _ _ _ r
theorem bx_lead : ∀ (d : Nat) (its : List (Bool × Ly)), Good d its → ∀ (pre path : List Step), path ∈ bxL its pre → ∃ ss n nm p, path = pre ++ ss ∧ Lead its ss n nm p ∧ ss.length ≤ d + 1 := by
  have split : ∀ (its : List (Bool × Ly)) (pre path : List Step), path ∈ bxL its pre → ∃ (j : Nat) (o : Bool) (y : Ly), its[j]? = some (o, y) ∧ path ∈ y.bx pre := by
    intro its pre path h
    induction its with
    | nil => rw [bxL] at h; cases h
    | cons x xs ih =>
      rw [bxL] at h
      rcases List.mem_append.mp h with h | h
      · obtain ⟨o, y⟩ := x
        rw [bxI] at h
        exact ⟨0, o, y, rfl, h⟩
      · obtain ⟨j, o, y, e, hm⟩ := ih h
        exact ⟨j + 1, o, y, by rw [List.getElem?_cons_succ]; exact e, hm⟩
  have boxc : ∀ (its : List (Bool × Ly)), PB its → ∀ (j : Nat) (o : Bool) (nm : Str) (p : Nat) (pre path : List Step), its[j]? = some (o, Ly.box nm p) → path ∈ (Ly.box nm p).bx pre → ∃ ss n nm' p', path = pre ++ ss ∧ Lead its ss n nm' p' ∧ ss.length ≤ 1 := by
    intro its hp j o nm p pre path ej hm
    rw [Ly.bx] at hm
    have hr := hp.room ej
    rw [Ly.sz] at hr
    refine ⟨[(nm, none)], _, nm, p, List.mem_singleton.mp hm, ⟨Res.one (hp.ati (st := (nm, none)) ej (hp.nm _ _ ej) rfl), by omega, fun k h1 h2 => ?_⟩, Nat.le_refl _⟩
    rw [List.length_singleton] at h2
    omega
  intro d
  induction d with
  | zero =>
    intro its hg pre path h
    obtain ⟨-, hp, hx⟩ := (good_iff 0 its).mp hg
    obtain ⟨j, o, y, ej, hm⟩ := split its pre path h
    obtain ⟨nm, p, rfl⟩ : ∃ nm p, y = .box nm p := hx (o, y) (List.mem_of_getElem? ej)
    exact boxc its hp j o nm p pre path ej hm
  | succ d IH =>
    intro its hg pre path h
    obtain ⟨-, hp, hx⟩ := (good_iff (d + 1) its).mp hg
    obtain ⟨j, o, y, ej, hm⟩ := split its pre path h
    have hnm := hp.nm _ _ ej
    have hr := hp.room ej
    rcases hx (o, y) (List.mem_of_getElem? ej) with ⟨nm, p, e2⟩ | ⟨nm, in_, e2, hgi⟩ | ⟨nm, k, in_, e2, hk1, hk3, hgi⟩
    · have e2 : y = .box nm p := e2
      subst e2
      obtain ⟨ss, n, nm', p', e, L, hl⟩ := boxc its hp j o nm p pre path ej hm
      exact ⟨ss, n, nm', p', e, L, by omega⟩
    · have e2 : y = .grp nm in_ := e2
      subst e2
      rw [Ly.bx] at hm
      rw [Ly.sz] at hr
      obtain ⟨ss, n, nm', p', e, L, hl⟩ := IH in_ hgi _ _ hm
      have hA := hp.ati (st := (nm, none)) ej hnm rfl
      refine ⟨(nm, none) :: ss, _, nm', p', by rw [e, List.append_assoc]; rfl, lead_in hA rfl rfl (by omega) (fun ss m z r => ?_) L, by rw [List.length_cons]; omega⟩
      obtain ⟨s2, t2, rfl⟩ := r.ne'
      exact Res.grp hA r
    · have e2 : y = .tab nm k in_ := e2
      subst e2
      rw [Ly.bx] at hm
      rw [Ly.sz] at hr
      obtain ⟨i, hi, hm⟩ := List.mem_flatMap.mp hm
      have hi := List.mem_range.mp hi
      obtain ⟨ss, n, nm', p', e, L, hl⟩ := IH in_ hgi _ _ hm
      have ha : aheadOf (.tab nm k in_) (some i) = some (i * szL in_) := by
        show (if i < k then some (i * szL in_) else none) = _
        rw [if_pos hi]
      have hA := hp.ati (st := (nm, some i)) ej hnm ha
      have hmul : i * szL in_ + szL in_ ≤ szL in_ * k := by
        rw [← Nat.succ_mul, Nat.mul_comm]
        exact Nat.mul_le_mul_left _ hi
      refine ⟨(nm, some i) :: ss, _, nm', p', by rw [e, List.append_assoc]; rfl, lead_in hA rfl rfl (by omega) (fun ss m z r => ?_) L, by rw [List.length_cons]; omega⟩
      obtain ⟨s2, t2, rfl⟩ := r.ne'
      exact Res.tab hA r
end Lw

set_option Elab.async false
set_option linter.all false
set_option maxRecDepth 100000
namespace Lw
open PySem PySem.Spec PyProof.Rows L2 K02 K04
open Builtin Builtin.Str StrLaws
/-! ### the law's plain paths -/
theorem pqL_app : ∀ a b : List (Bool × Ly), pqL (a ++ b) = pqL a ++ pqL b
  | [], b => by rw [List.nil_append, pqL, List.nil_append]
  | x :: a, b => by rw [List.cons_append, pqL, pqL, pqL_app a b, List.append_assoc]
/-- what is told ahead of the steps, the steps, and what is within -/
def hdI : Bool × Ly → List (List Step)
  | (false, .box nm _) => [[(nm, none)]]
  | _ => []
def stI : Bool × Ly → List Step
  | (false, .grp nm _) => [(nm, none)]
  | (false, .tab nm k _) => (List.range k).map fun i => (nm, some i)
  | _ => []
def inI : Ly → List (Bool × Ly)
  | .box _ _ => []
  | .grp _ its => its
  | .tab _ _ its => its
def under1 (in_ : List (Bool × Ly)) (st : Step) : List (List Step) := (plL in_).map fun p => st :: p
theorem plI_eq (x : Bool × Ly) : (pqI x).map (·.1) = hdI x ++ (stI x).flatMap (under1 (inI x.2)) := by
  obtain ⟨o, y⟩ := x
  rw [pqI]
  cases o with
  | true => rw [if_pos rfl]; cases y <;> rfl
  | false =>
    rw [if_neg (by decide)]
    cases y with
    | box nm p => rw [Ly.pq]; rfl
    | grp nm its =>
      rw [Ly.pq]
      show _ = [] ++ ([(nm, none)].flatMap (under1 its))
      rw [List.nil_append, List.flatMap_cons, List.flatMap_nil, List.append_nil, under1, plL, List.map_map, List.map_map]
      rfl
    | tab nm k its =>
      rw [Ly.pq]
      show _ = [] ++ (((List.range k).map fun i => ((nm, some i) : Step)).flatMap (under1 its))
      rw [List.nil_append, List.flatMap_map, List.map_flatMap]
      congr 1
      funext i
      rw [under1, plL, List.map_map, List.map_map]
      rfl
theorem plL_step {its : List (Bool × Ly)} {i : Nat} {x : Bool × Ly} (h : its[i]? = some x) : plL (its.take (i + 1)) = plL (its.take i) ++ hdI x ++ (stI x).flatMap (under1 (inI x.2)) := by
  rw [List.append_assoc, ← plI_eq, List.take_add_one, h]
  unfold plL
  rw [pqL_app, List.map_append]
  congr 1
  show List.map _ (pqL [x]) = _
  rw [pqL, pqL, List.append_nil]
mutual
theorem pq_len : ∀ y : Ly, y.pq.length ≤ y.wt
  | .box nm p => by rw [Ly.pq, Ly.wt]; exact Nat.le_refl _
  | .grp nm its => by
    have := pqL_len its
    rw [Ly.pq, Ly.wt, List.length_map]
    omega
  | .tab nm k its => by
    have h := pqL_len its
    rw [Ly.pq, Ly.wt]
    have key : ∀ m, ((List.range m).flatMap fun i => (pqL its).map fun x => (((nm, some i) : Step) :: x.1, x.2)).length = m * (pqL its).length := by
      intro m
      induction m with
      | zero => rw [Nat.zero_mul]; rfl
      | succ m ih => rw [List.range_succ, List.flatMap_append, List.length_append, ih, List.flatMap_cons, List.flatMap_nil, List.append_nil, List.length_map, Nat.succ_mul]
    rw [key]
    have := Nat.mul_le_mul_left k h
    omega
theorem pqL_len : ∀ its : List (Bool × Ly), (pqL its).length ≤ wtL its
  | [] => by rw [pqL, wtL]; exact Nat.le_refl _
  | x :: xs => by
    have h1 := pqI_len x
    have h2 := pqL_len xs
    rw [pqL, wtL, List.length_append]
    omega
theorem pqI_len : ∀ x : Bool × Ly, (pqI x).length ≤ wtI x
  | (o, y) => by
    have := pq_len y
    rw [pqI, wtI]
    split
    · exact Nat.zero_le _
    · exact this
end
mutual
theorem pq_deep : ∀ (y : Ly) (x : List Step × Nat), x ∈ y.pq → x.1.length ≤ y.wt
  | .box nm p, x, h => by rw [Ly.pq] at h; rw [List.mem_singleton.mp h, Ly.wt]; exact Nat.le_refl _
  | .grp nm its, x, h => by
    rw [Ly.pq] at h
    obtain ⟨z, hz, rfl⟩ := List.mem_map.mp h
    have := pqL_deep its z hz
    rw [Ly.wt]
    show z.1.length + 1 ≤ _
    omega
  | .tab nm k its, x, h => by
    rw [Ly.pq] at h
    obtain ⟨i, hi, h⟩ := List.mem_flatMap.mp h
    obtain ⟨z, hz, rfl⟩ := List.mem_map.mp h
    have h1 := pqL_deep its z hz
    have h2 : wtL its ≤ k * wtL its := Nat.le_mul_of_pos_left _ (by have := List.mem_range.mp hi; omega)
    rw [Ly.wt]
    show z.1.length + 1 ≤ _
    omega
theorem pqL_deep : ∀ (its : List (Bool × Ly)) (x : List Step × Nat), x ∈ pqL its → x.1.length ≤ wtL its
  | [], x, h => by rw [pqL] at h; cases h
  | y :: ys, x, h => by
    rw [pqL] at h
    rw [wtL]
    rcases List.mem_append.mp h with h | h
    · have := pqI_deep y x h; omega
    · have := pqL_deep ys x h; omega
theorem pqI_deep : ∀ (y : Bool × Ly) (x : List Step × Nat), x ∈ pqI y → x.1.length ≤ wtI y
  | (o, y), x, h => by
    rw [pqI] at h
    rw [wtI]
    split at h
    · cases h
    · exact pq_deep y x h
end
theorem plL_deep {its : List (Bool × Ly)} {p : List Step} (h : p ∈ plL its) : p.length ≤ wtL its := by
  unfold plL at h
  obtain ⟨z, hz, rfl⟩ := List.mem_map.mp h
  exact pqL_deep its z hz
theorem plL_len (its : List (Bool × Ly)) : (plL its).length ≤ wtL its := by unfold plL; rw [List.length_map]; exact pqL_len its
theorem wtL_take : ∀ (its : List (Bool × Ly)) (n : Nat), wtL (its.take n) ≤ wtL its
  | [], n => by rw [List.take_nil]; exact Nat.le_refl _
  | x :: xs, 0 => by rw [List.take_zero, wtL]; exact Nat.zero_le _
  | x :: xs, n + 1 => by
    have := wtL_take xs n
    rw [List.take_succ_cons, wtL, wtL]
    omega
section
variable {P : Program} {w : World} {K : PySem.W.Frag} {mg : Str → Option Value} {base : Heap} {f : Addr} {fd : FuncData} {tk : Nat → Tok} {c kr : Nat → Addr}
def spPl (d : Nat) : Sp := fun vs H Q _ => ∃ (v : V) (its : List (Bool × Ly)), vs = [v] ∧ Deep H v (.tup (dvL its)) ∧ dpL its < d ∧ wtL its ≤ 10000 ∧ okL its ∧ ∀ q xs H', Same H H' → H q = none → H' q = some (.lst xs) → Deeps H' xs ((plL its).map pathD) → Q (.ref q) H'
theorem ok__law_plain0 (F : Fun K "_law_plain" "_law_plain" s__law_plain f fd) : FnOk P w K mg base (CXE P w) 1 f fd ["_law_items"] (spPl 0) := by
  refine okNx F sc__law_plain (fun vs H Q E h => ?_) (fun cdv A outer s H vs Q E hr h => ?_)
  · obtain ⟨v, its, rfl, _⟩ := h
    rfl
  · obtain ⟨v, its, rfl, _, hd, _⟩ := h
    exact absurd hd (Nat.not_lt_zero _)
theorem fresh_in {H H' : Hp} {a : Addr} (S : Same H H') (h : H' a = none) : H a = none := by
  cases e : H a with
  | none => rfl
  | some o => rw [S _ _ e] at h; cases h
theorem last_at {H : Hp} {x : V} {oy : Bool × Ly} (Dx : Deep H x (dvI oy)) (hs : stI oy ≠ []) (hok : oy.2.okK) : ∃ a xs xl, x = .ref a ∧ H a = some (.tup xs) ∧ atI xs (-1) = some xl ∧ Deep H xl (.tup (dvL (inI oy.2))) ∧ dpL (inI oy.2) < oy.2.dp ∧ okL (inI oy.2) := by
  obtain ⟨o, y⟩ := oy
  cases o with
  | true => exact absurd (by cases y <;> rfl) hs
  | false =>
    rw [dvI, if_neg (by decide)] at Dx
    have hok : y.okK := hok
    cases y with
    | box nm p => exact absurd rfl hs
    | grp nm in_ =>
      obtain ⟨a, x3, rfl, g, D3⟩ := grp_at Dx
      rw [Ly.okK] at hok
      refine ⟨a, _, x3, rfl, g, rfl, D3, ?_, hok⟩
      show dpL in_ < (Ly.grp nm in_).dp
      rw [Ly.dp]; omega
    | tab nm k1 in_ =>
      obtain ⟨a, x3, rfl, g, D3⟩ := tab_at Dx
      rw [Ly.okK] at hok
      refine ⟨a, _, x3, rfl, g, rfl, D3, ?_, hok.2⟩
      show dpL in_ < (Ly.tab nm k1 in_).dp
      rw [Ly.dp]; omega
theorem flat_take {in_ : List (Bool × Ly)} {sts : List Step} {t : Nat} {st : Step} (h : sts[t]? = some st) : (sts.take (t + 1)).flatMap (under1 in_) = (sts.take t).flatMap (under1 in_) ++ under1 in_ st := by
  rw [List.take_add_one, h, List.flatMap_append]
  show _ ++ ([st].flatMap (under1 in_)) = _
  rw [List.flatMap_cons, List.flatMap_nil, List.append_nil]
theorem flat_len (in_ : List (Bool × Ly)) (sts : List Step) (t : Nat) : ((sts.take t).flatMap (under1 in_)).length ≤ (sts.flatMap (under1 in_)).length := by
  have := congrArg (fun l => (l.flatMap (under1 in_)).length) (List.take_append_drop t sts)
  simp only [List.flatMap_append, List.length_append] at this
  omega
theorem seqJ2 {t1 t2 u : TS} {D : Ends} {σ : L2.St} {H : Hp} (Good : L2.St → Hp → Prop) (rest : ∀ σ' H', Good σ' H' → u D σ' H') (h : (∀ σ' H', Good σ' H' → u D σ' H') → t1 { D with nx := t2 { D with nx := u D } } σ H) : tSeq t1 (tSeq t2 u) D σ H := h rest
set_option maxHeartbeats 2000000 in
theorem ok__law_plain (d : Nat) (F : Fun K "_law_plain" "_law_plain" s__law_plain f fd) (O : Own mg) (D__law_plain : Def P w K mg base (d + 1) "_law_plain" ["_law_items"] (spPl d)) : FnOk P w K mg base (CXE P w) (d + 2) f fd ["_law_items"] (spPl (d + 1)) := by
  refine okNx F sc__law_plain (fun vs H Q E h => ?_) (fun cdv A outer s H vs Q E hr h => ?_)
  · obtain ⟨v, its, rfl, _⟩ := h
    rfl
  · obtain ⟨v, its, rfl, DI, hd, hwt, hok, k⟩ := h
    have hz : 100000 ≤ sizeLine := by rw [sizeLine_eq]; decide
    refine ⟨_, (psx_cons (psy_set (i := 1) sc__law_plain.nd rfl (Or.inl rfl) (pex_lst pax_nil) rfl rfl)
      (psx_cons (psy_for PassesOwn.never rfl (pi_tup (pv 0)) (pg_name (i := 2) sc__law_plain.nd rfl (Or.inr rfl)) (psx_cons (psy_if (pt_cmpR op_eq (pe_ix ix_tupR (pv 2) pe_int (fun _ _ => rfl)) pe_str (nomark _)) (psx_one (PSy.mk (ps_expr (pe_bm PySem.F.plainAttrs_list PySem.F.slot_list_append PySem.F.type_list_append mt_append (pv 1) (pa_c (pe_tup (pa_c (pe_ix ix_tupR (pv 2) pe_int (fun _ _ => rfl)) pa_nil)) pa_nil))))) psx_nil)
      (psx_cons (psy_set (i := 3) sc__law_plain.nd rfl (Or.inl rfl) (pex_if (pt_cmpR op_eq (pe_ix ix_tupR (pv 2) pe_int (fun _ _ => rfl)) pe_str (nomark _)) (pex_lst (pax_c (PEx.mk (pe_ix ix_tupR (pv 2) pe_int (fun _ _ => rfl))) pax_nil rfl)) (pex_lst pax_nil)) rfl rfl)
      (psx_cons (psy_if (pt_cmpR op_eq (pe_ix ix_tupR (pv 2) pe_int (fun _ _ => rfl)) pe_str (nomark _)) (psx_one (PSy.mk (ps_lcompF (NB := [".0", "_law_number"]) (FR := ["_law_item"]) (fi := [2]) (iy := 3) rfl ⟨rfl, by decide +kernel, by decide +kernel, by decide +kernel, by decide +kernel, by decide +kernel⟩ rfl rfl (pi_range1 rfl O.range (pa_c (pe_ix ix_tupR (pv 2) pe_int (fun _ _ => rfl)) pa_nil)) (fun _ _ _ => (pg_name (i := 1) (show ([".0", "_law_number", "_law_item"] : List Str).Nodup by decide +kernel) rfl (Or.inl rfl))) (fun _ _ _ => pts_nil) (fun _ _ _ => (pe_tup (pa_c (pe_ix ix_tupR (pv 2) pe_int (fun _ _ => rfl)) (pa_c (pv 1) pa_nil)))) sc__law_plain.nd rfl (Or.inl rfl) rfl))) psx_nil)
      (psx_one (psy_for PassesOwn.never rfl (pi_list (pv 3)) (pg_name (i := 4) sc__law_plain.nd rfl (Or.inr rfl)) (psx_one (psy_set (i := 1) sc__law_plain.nd rfl (Or.inl rfl) (pex_op op_cat (PEx.mk (pv 1)) (PEx.mk (pe_lcompF (NB := [".0", "_law_path"]) (FR := ["_law_step"]) (fi := [4]) rfl ⟨rfl, by decide +kernel, by decide +kernel, by decide +kernel, by decide +kernel, by decide +kernel⟩ rfl rfl (pi_list (D__law_plain.pe hr (by omega) rfl passE0 (pa_c (pe_ix ix_tupR (pv 2) (pe_un un_neg pe_int) (fun _ _ => rfl)) pa_nil))) (fun _ _ _ => (pg_name (i := 1) (show ([".0", "_law_path", "_law_step"] : List Str).Nodup by decide +kernel) rfl (Or.inl rfl))) (fun _ _ _ => pts_nil) (fun _ _ _ => (pe_op op_catR (pe_tup (pa_c (pv 2) pa_nil)) (pv 1)))))) rfl rfl)) (fun _ => rfl)))))) (fun _ => rfl))
      (psx_one (psy_ret (PEx.mk (pv 1)))))), ?_⟩
    dsimp only [gName, tAsg, tSeq, tNext]
    refine ⟨by show 0 ≤ sizeLine; omega, fun q0 hq0 => ?_⟩
    have B0 : LsSt H (upd H q0 (.lst [])) q0 [] [] := ⟨Same.new hq0, hq0, upd_same, .nil⟩
    generalize upd H q0 (.lst []) = H1 at B0
    obtain ⟨ia, ix, rfl, gi, ti⟩ := Deep.tup' DI
    have ti2 := ti
    rw [dvL_map] at ti2
    have lix := ti2.length
    rw [List.length_map] at lix
    refine ⟨_, rfl, ia, rfl, ⟨_, .inl (.inl (B0.S _ _ gi))⟩, ?_⟩
    refine for_fix (fixT (K := K) (a := ia) (xs := ix)) (fun i σ H2 => ∃ (q : Addr) (xs : List V) (y2 y3 y4 : Option V), σ = [some (.ref ia), some (.ref q), y2, y3, y4] ∧ LsSt H H2 q xs ((plL (its.take i)).map pathD)) ⟨q0, [], none, none, none, rfl, by rw [List.take_zero]; unfold plL; rw [pqL]; exact B0⟩ ?_ ?_ ?_
    · rintro i σ H2 _ ⟨q, xs, y2, y3, y4, rfl, B⟩
      exact .inl (.inl (B.S _ _ gi))
    · rintro i x σ H20 H2 hi ⟨q, xs, y2, y3, y4, rfl, B⟩ ⟨rfl, hx⟩
      obtain ⟨d0, hd0, Dx⟩ := ti2.getX hx
      rw [List.getElem?_map] at hd0
      cases eo : its[i]? with
      | none => rw [eo] at hd0; cases hd0
      | some oy =>
        rw [eo] at hd0
        obtain rfl := Option.some.inj hd0
        have hst := plL_step eo
        have hlen := plL_len (its.take (i + 1))
        have hwt1 := wtL_take its (i + 1)
        rw [hst] at hlen
        rw [hst]
        clear hst
        generalize plL (its.take i) = acc at B hlen ⊢
        have hmem := List.mem_of_getElem? eo
        have hdp := dpL_mem hmem
        have hw1 := wt_at hmem
        have hok1 := okL_mem hok hmem
        have hwin : wtL (inI oy.2) ≤ oy.2.wt ∨ stI oy = [] := by
          obtain ⟨o, y⟩ := oy
          cases y with
          | box nm p => exact .inr (by cases o <;> rfl)
          | grp nm in_ => refine .inl ?_; show wtL in_ ≤ (Ly.grp nm in_).wt; rw [Ly.wt]; omega
          | tab nm k1 in_ =>
            cases k1 with
            | zero => exact .inr (by cases o <;> rfl)
            | succ k1 => refine .inl ?_; show wtL in_ ≤ (Ly.tab nm (k1 + 1) in_).wt; rw [Ly.wt, Nat.succ_mul]; omega
        dsimp only [gName, tAsg, tNext]
        refine seqJ (fun σ' H3 => ∃ xs3, σ' = [some (.ref ia), some (.ref q), some x, y3, y4] ∧ LsSt H H3 q xs3 ((acc ++ hdI oy).map pathD)) ?_ (fun rest => ?_)
        rotate_left
        · have Dx2 := Dx.same B.S
          obtain ⟨o, y⟩ := oy
          have lxs := B.t.length
          rw [List.length_map] at lxs
          rw [List.length_append, List.length_append] at hlen
          cases o with
          | true =>
            obtain ⟨a, x2, rfl, g, _⟩ := over_at Dx2
            refine ⟨_, rfl, a, _, 0, _, rfl, rfl, .inl g, rfl, rfl, false, by rw [w_ob], iteF ?_⟩
            refine rest _ _ ⟨xs, rfl, ?_⟩
            have : hdI (true, y) = [] := by cases y <;> rfl
            rw [this, List.append_nil]
            exact B
          | false =>
            rw [dvI, if_neg (by decide)] at Dx2
            cases y with
            | box nm p =>
              obtain ⟨a, rfl, g⟩ := box_at Dx2
              refine ⟨_, rfl, a, _, 0, _, rfl, rfl, .inl g, rfl, rfl, true, rfl, iteT ?_⟩
              refine ⟨_, rfl, .inl ⟨rfl, _, .inl (.inl B.g)⟩, ?_⟩
              refine ⟨_, rfl, a, _, 1, _, rfl, rfl, .inl g, rfl, by show 1 ≤ sizeLine; omega, fun p6 hp6 => ?_⟩
              have S6 := Same.new (o := .tup [.str nm]) hp6
              have B6 := B.same S6
              have D6 : Deep (upd H2 p6 (.tup [.str nm])) (.ref p6) (pathD [(nm, none)]) := .tup upd_same (.cons .str .nil)
              refine ⟨q, xs, .ref p6, rfl, rfl, B6.g, by omega, ?_⟩
              refine rest _ _ ⟨xs ++ [.ref p6], rfl, ?_⟩
              rw [List.map_append]
              exact B6.put (B6.t.append (.cons D6 .nil))
            | grp nm in_ =>
              obtain ⟨a, x3, rfl, g, D3⟩ := grp_at Dx2
              refine ⟨_, rfl, a, _, 0, _, rfl, rfl, .inl g, rfl, rfl, false, by rw [w_gb], iteF ?_⟩
              refine rest _ _ ⟨xs, rfl, ?_⟩
              show LsSt H _ q xs ((acc ++ []).map pathD)
              rw [List.append_nil]
              exact B
            | tab nm k1 in_ =>
              obtain ⟨a, x3, rfl, g, D3⟩ := tab_at Dx2
              refine ⟨_, rfl, a, _, 0, _, rfl, rfl, .inl g, rfl, rfl, false, by rw [w_tb], iteF ?_⟩
              refine rest _ _ ⟨xs, rfl, ?_⟩
              show LsSt H _ q xs ((acc ++ []).map pathD)
              rw [List.append_nil]
              exact B
        rintro σ3 H3 ⟨xs3, rfl, B3⟩
        generalize acc ++ hdI oy = acc3 at B3 hlen ⊢
        have Dx3 := Dx.same B3.S
        refine seqJ2 (fun σ' H4 => ∃ (l : Addr) (zs : List V), σ' = [some (.ref ia), some (.ref q), some x, some (.ref l), y4] ∧ LsSt H H4 q xs3 (acc3.map pathD) ∧ l ≠ q ∧ H l = none ∧ H4 l = some (.lst zs) ∧ Deeps H4 zs ((stI oy).map stepD)) ?_ (fun rest => ?_)
        rotate_left
        · obtain ⟨o, y⟩ := oy
          have nothing : ∀ l, H3 l = none → ∀ σ', σ' = [some (.ref ia), some (.ref q), some x, some (.ref l), y4] → stI (o, y) = [] → _ := fun l hl σ' e es => rest σ' (upd H3 l (.lst [])) ⟨l, [], e, B3.same (Same.new hl), ne_of_none B3.g hl |>.symm, fresh_in B3.S hl, upd_same, by rw [es]; exact .nil⟩
          cases o with
          | true =>
            have es : stI (true, y) = [] := by cases y <;> rfl
            obtain ⟨a, x2, rfl, g, _⟩ := over_at Dx3
            refine ⟨_, rfl, a, _, 0, _, rfl, rfl, .inl g, rfl, rfl, false, by rw [w_og], iteF ?_⟩
            refine ⟨by show 0 ≤ sizeLine; omega, fun l hl => ?_⟩
            refine ⟨_, rfl, a, _, 0, _, rfl, rfl, .inl (Same.new hl _ _ g), rfl, rfl, false, by rw [w_ot], iteF ?_⟩
            exact nothing l hl _ rfl es
          | false =>
            rw [dvI, if_neg (by decide)] at Dx3
            cases y with
            | box nm p =>
              obtain ⟨a, rfl, g⟩ := box_at Dx3
              refine ⟨_, rfl, a, _, 0, _, rfl, rfl, .inl g, rfl, rfl, false, by decide +kernel, iteF ?_⟩
              refine ⟨by show 0 ≤ sizeLine; omega, fun l hl => ?_⟩
              refine ⟨_, rfl, a, _, 0, _, rfl, rfl, .inl (Same.new hl _ _ g), rfl, rfl, false, by rw [w_bt], iteF ?_⟩
              exact nothing l hl _ rfl rfl
            | grp nm in_ =>
              obtain ⟨a, x3, rfl, g, D3⟩ := grp_at Dx3
              refine ⟨_, rfl, a, _, 0, _, rfl, rfl, .inl g, rfl, rfl, true, rfl, iteT ?_⟩
              refine ⟨_, rfl, a, _, 1, _, rfl, rfl, .inl g, rfl, by show 1 ≤ sizeLine; omega, fun l hl => ?_⟩
              refine ⟨_, rfl, a, _, 0, _, rfl, rfl, .inl (Same.new hl _ _ g), rfl, rfl, false, by rw [w_gt], iteF ?_⟩
              exact rest _ _ ⟨l, _, rfl, B3.same (Same.new hl), (ne_of_none B3.g hl).symm, fresh_in B3.S hl, upd_same, .cons .str .nil⟩
            | tab nm k1 in_ =>
              obtain ⟨a, x3, rfl, g, D3⟩ := tab_at Dx3
              have hk1 : k1 ≤ 1000 := by
                have h : (Ly.tab nm k1 in_).okK := hok1
                rw [Ly.okK] at h
                exact h.1
              refine ⟨_, rfl, a, _, 0, _, rfl, rfl, .inl g, rfl, rfl, false, by rw [w_tg], iteF ?_⟩
              refine ⟨by show 0 ≤ sizeLine; omega, fun l hl => ?_⟩
              have S4 := Same.new (o := .lst []) hl
              have B4 := B3.same S4
              have g4 := S4 _ _ g
              generalize upd H3 l (.lst []) = H4 at B4 g4
              refine ⟨_, rfl, a, _, 0, _, rfl, rfl, .inl g4, rfl, rfl, true, rfl, iteT ?_⟩
              refine compF_deep (fv := [.ref a]) (fixR (lo := 0) (n := k1)) (((List.range k1).map fun i => ((nm, some i) : Step)).map stepD) (by simp) (fun R h => ⟨_, rfl, a, _, 2, _, rfl, rfl, .inl g4, rfl, _, rfl, by omega, by omega, by rw [Int.toNat_natCast]; exact h _ (Same.refl _)⟩) rfl (fun H1 S => trivial) ?_ ?_ (by omega)
              · rintro j v H5 H6 dd R hdd S ⟨rfl, rfl⟩ kk
                have hj : j < k1 := by
                  have := (List.getElem?_eq_some_iff.mp hdd).1
                  simpa using this
                have ed : dd = stepD (nm, some j) := by
                  rw [List.getElem?_map, List.getElem?_map, List.getElem?_range hj] at hdd
                  exact (Option.some.inj hdd).symm
                refine ⟨rfl, _, rfl, a, _, 1, _, rfl, rfl, .inl (S _ _ g4), rfl, _, rfl, by show 2 ≤ sizeLine; omega, fun p7 hp7 => kk _ _ (Same.new hp7) ?_⟩
                rw [ed]
                refine .tup upd_same (.cons .str (.cons ?_ .nil))
                rw [show (0 : Int) + (j : Int) = ((j : Nat) : Int) by omega]
                exact .int
              · rintro ys H5 p5 S5 t5 hp5
                have B5 := B4.same S5
                exact rest _ _ ⟨p5, ys, rfl, B5.same (Same.new hp5), (ne_of_none B5.g hp5).symm, fresh_in B5.S hp5, upd_same, t5.same (Same.new hp5)⟩
        rintro σ4 H4 ⟨l, zs, rfl, B4, hlq, hl0, gl4, tl4⟩
        have lzs := tl4.length
        rw [List.length_map] at lzs
        refine ⟨_, rfl, l, rfl, ⟨_, .inl (.inl gl4)⟩, ?_⟩
        refine for_fix (fixL (K := K) (a := l) (xs := zs)) (fun t σ H5 => ∃ (q5 : Addr) (xs5 : List V) (y4 : Option V), σ = [some (.ref ia), some (.ref q5), some x, some (.ref l), y4] ∧ LsSt H H5 q5 xs5 ((acc3 ++ ((stI oy).take t).flatMap (under1 (inI oy.2))).map pathD) ∧ H5 l = some (.lst zs) ∧ Deeps H5 zs ((stI oy).map stepD)) ⟨q, xs3, y4, rfl, by rw [List.take_zero, List.flatMap_nil, List.append_nil]; exact B4, gl4, tl4⟩ ?_ ?_ ?_
        · rintro t σ H5 _ ⟨q5, xs5, y4, rfl, B5, gl5, _⟩
          exact .inl (.inl gl5)
        · rintro t zt σ H50 H5 ht ⟨q5, xs5, y4, rfl, B5, gl5, tl5⟩ ⟨rfl, hzt⟩
          obtain ⟨dz, hdz, Dz⟩ := tl5.getX hzt
          have htl : t < (stI oy).length := by omega
          rw [List.getElem?_map, List.getElem?_eq_getElem htl] at hdz
          obtain rfl := Option.some.inj hdz
          have hst : (stI oy)[t]? = some (stI oy)[t] := List.getElem?_eq_getElem htl
          generalize (stI oy)[t] = st at hst Dz
          have hsne : stI oy ≠ [] := fun z => by rw [z] at htl; exact absurd htl (Nat.not_lt_zero _)
          obtain ⟨a, axs, xl, rfl, ga, hla, Dl, hdl, hokl⟩ := last_at Dx hsne hok1
          have hwl : wtL (inI oy.2) ≤ 10000 := by
            rcases hwin with h | h
            · omega
            · exact absurd h hsne
          have hpl := plL_len (inI oy.2)
          have l5 := B5.t.length
          rw [List.length_map, List.length_append] at l5
          have lf := flat_len (inI oy.2) (stI oy) (t + 1)
          rw [flat_take hst, List.length_append] at lf
          rw [List.length_append] at hlen
          have lu : (under1 (inI oy.2) st).length = (plL (inI oy.2)).length := by unfold under1; rw [List.length_map]
          refine ⟨_, rfl, tCompF_of ?_⟩
          refine ⟨_, rfl, _, rfl, a, _, _, _, rfl, rfl, .inl (B5.S _ _ ga), hla, xl, inI oy.2, rfl, Dl.same B5.S, by omega, hwl, hokl, fun q6 xs6 H6 S6 hq6 g6 t6 => ?_⟩
          have l6 := t6.length
          rw [List.length_map] at l6
          refine ⟨q6, rfl, ⟨_, .inl (.inl g6)⟩, ?_⟩
          have Dz6 := Dz.same S6
          refine compF_deep (fv := [zt]) (fixL (K := K) (a := q6) (xs := xs6)) ((under1 (inI oy.2) st).map pathD) (by rw [List.length_map]; omega) (fun R h => h _ (Same.refl _)) rfl (fun H1 S => .inl (.inl (S _ _ g6))) ?_ ?_ (by omega)
          · rintro j v H7 H8 dd R hdd S ⟨rfl, hv⟩ kk
            obtain ⟨dv, hdv, ddv⟩ := t6.getX hv
            unfold under1 at hdd
            rw [List.getElem?_map] at hdv
            rw [List.getElem?_map, List.getElem?_map] at hdd
            cases ep : (plL (inI oy.2))[j]? with
            | none => rw [ep] at hdv; cases hdv
            | some pp =>
              rw [ep] at hdv hdd
              obtain rfl := Option.some.inj hdv
              have ed : dd = pathD (st :: pp) := (Option.some.inj hdd).symm
              obtain ⟨pa, px, rfl, gp, tp⟩ := Deep.tup' (show Deep H8 v (.tup (pp.map stepD)) from ddv.same S)
              have lpp := plL_deep (List.mem_of_getElem? ep)
              have lpx := tp.length
              rw [List.length_map] at lpx
              refine ⟨rfl, _, rfl, by show 1 ≤ sizeLine; omega, fun p8 hp8 => ⟨_, rfl, ?_⟩⟩
              have S8 := Same.new (o := .tup [zt]) hp8
              refine cat_D (ds := [stepD st]) (es := pp.map stepD) upd_same (S8 _ _ gp) (.cons ((Dz6.same S).same S8) .nil) (tp.same S8) (by show 1 + px.length ≤ sizeLine; omega) fun u9 H9 S9 D9 => kk _ _ (S8.trans S9) ?_
              rw [ed]
              exact D9
          · rintro ys H7 p7 S7 t7 hp7
            have S57 := S6.trans S7
            have B7 := B5.same (S57.trans (Same.new (o := .lst ys) hp7))
            have l7 := t7.length
            rw [List.length_map] at l7
            refine ⟨q5, p7, xs5, ys, rfl, rfl, B7.g, upd_same, by omega, fun p8 hp8 => ?_⟩
            have S8 := Same.new (o := .lst (xs5 ++ ys)) hp8
            have B8 := B7.same S8
            refine ⟨p8, xs5 ++ ys, _, rfl, ⟨B8.S, fresh_in B7.S hp8, upd_same, ?_⟩, ?_, ?_⟩
            · rw [flat_take hst, ← List.append_assoc, List.map_append]
              exact B8.t.append ((t7.same (Same.new hp7)).same S8)
            · exact S8 _ _ (Same.new hp7 _ _ (S57 _ _ gl5))
            · exact (tl5.same (S57.trans (Same.new hp7))).same S8
        · rintro σ H5 ⟨q5, xs5, y4, rfl, B5, _, _⟩
          rw [lzs, List.take_length] at B5
          exact ⟨q5, xs5, _, _, _, rfl, B5⟩
    · rintro σ H2 ⟨q, xs, y2, y3, y4, rfl, B⟩
      rw [List.take_of_length_le (by omega)] at B
      exact ⟨_, rfl, k _ _ _ B.S B.f B.g B.t⟩
end
end Lw

set_option Elab.async false
set_option linter.all false
set_option maxRecDepth 100000
namespace Lw
open PySem PySem.Spec PyProof.Rows L2 K02 K04
open Builtin Builtin.Str StrLaws
theorem par_cc {i j : Nat} {te1 te2 : TE} {D : Ends} {σ : L2.St} {H : Hp} (h : te1 σ H fun v H1 => te2 σ H1 fun w H2 => ∃ v' w', [v, w] = [v', w'] ∧ D.nx ((σ.set i (some v')).set j (some w')) H2) : tPar i j (tCons te1 (tCons te2 tNil)) D σ H := h
def six : List Dv := [.str "9(3)", .str "S99V9", .str "X(4)", .str "AA", .str "Z9.9", .str "X"]
theorem six_at {d : Nat} {dv : Dv} (h : six[d]? = some dv) : dv = .str (picS d) := by
  unfold six at h
  match d, h with
  | 0, h => exact (Option.some.inj h).symm
  | 1, h => exact (Option.some.inj h).symm
  | 2, h => exact (Option.some.inj h).symm
  | 3, h => exact (Option.some.inj h).symm
  | 4, h => exact (Option.some.inj h).symm
  | 5, h => exact (Option.some.inj h).symm
  | n + 6, h => simp at h
theorem depth_str' (x : Str) (n : Nat) : (Dv.str x).depth ≤ n := by unfold Dv.depth; omega
theorem depthL_le {n : Nat} : ∀ {ds : List Dv}, (∀ d ∈ ds, d.depth ≤ n) → Dv.depthL ds ≤ n
  | [], _ => by unfold Dv.depthL; omega
  | d :: ds, h => by
    have h1 := h d List.mem_cons_self
    have h2 := depthL_le (ds := ds) fun x hx => h x (List.mem_cons_of_mem _ hx)
    unfold Dv.depthL
    omega
theorem depth_tup {n : Nat} {ds : List Dv} (h : ∀ d ∈ ds, d.depth ≤ n) : (Dv.tup ds).depth ≤ n + 1 := by
  have := depthL_le h
  unfold Dv.depth
  omega
/-- is a tuple empty? -/
theorem ne_empty {a : Addr} {its : List (Bool × Ly)} {σ : L2.St} {H : Hp} {Q : Bool → Hp → Prop} (D : Deep H (.ref a) (.tup (dvL its))) (hd : (Dv.tup (dvL its)).depth ≤ 16) (k : ∀ H' b, Same H H' → (b = true ↔ its ≠ []) → Q b H') : tTup tNil σ H fun y H1 => rEqDp 16 true (.ref a) y H1 fun x H2 => ∃ k', x = .bl k' ∧ Q k' H2 := by
  refine ⟨Nat.zero_le _, fun l0 hl0 => ?_⟩
  have S := Same.new (o := .tup []) hl0
  refine ⟨_, .tup [], D.same S, .tup upd_same .nil, hd, _, rfl, k _ _ S ?_⟩
  cases its with
  | nil => simp [dvL, Dv.eqb, Dv.eqbL]
  | cons x xs => simp [dvL, Dv.eqb, Dv.eqbL]
mutual
theorem dvd_y : ∀ y : Ly, y.dv.depth ≤ 3 * y.dp + 1
  | .box nm p => by
    rw [Ly.dv, Ly.dp]
    exact depth_tup (n := 0) fun d hd => by
      simp only [List.mem_cons, List.not_mem_nil, or_false] at hd
      rcases hd with rfl | rfl | rfl <;> exact depth_str' _ _
  | .grp nm its => by
    have h := dvd_l its
    rw [Ly.dv, Ly.dp]
    have h2 := depth_tup h
    have := depth_tup (n := 3 * dpL its + 3) (ds := [.str "group", .str nm, .tup (dvL its)]) fun d hd => by
      simp only [List.mem_cons, List.not_mem_nil, or_false] at hd
      rcases hd with rfl | rfl | rfl
      · exact depth_str' _ _
      · exact depth_str' _ _
      · exact h2
    omega
  | .tab nm k its => by
    have h := dvd_l its
    rw [Ly.dv, Ly.dp]
    have h2 := depth_tup h
    have := depth_tup (n := 3 * dpL its + 3) (ds := [.str "table", .str nm, .int (k : Nat), .tup (dvL its)]) fun d hd => by
      simp only [List.mem_cons, List.not_mem_nil, or_false] at hd
      rcases hd with rfl | rfl | rfl | rfl
      · exact depth_str' _ _
      · exact depth_str' _ _
      · unfold Dv.depth; omega
      · exact h2
    omega
theorem dvd_l : ∀ its : List (Bool × Ly), ∀ d ∈ dvL its, d.depth ≤ 3 * dpL its + 2
  | [], d, hd => by rw [dvL] at hd; cases hd
  | x :: xs, d, hd => by
    have h1 := dvd_i x
    have h2 := dvd_l xs
    rw [dvL] at hd
    rw [dpL]
    rcases List.mem_cons.mp hd with rfl | hd
    · omega
    · have := h2 d hd
      omega
theorem dvd_i : ∀ x : Bool × Ly, (dvI x).depth ≤ 3 * dpI x + 2
  | (o, y) => by
    have h := dvd_y y
    rw [dvI, dpI]
    split
    · have := depth_tup (n := 3 * y.dp + 1) (ds := [.str "over", y.dv]) fun e he => by
        simp only [List.mem_cons, List.not_mem_nil, or_false] at he
        rcases he with rfl | rfl
        · exact depth_str' _ _
        · exact h
      omega
    · omega
end
theorem lett_at : ∀ i : Nat, i < 4 → atI ("abcdef" : Str).cps.toList (0 + (i : Int)) = some (97 + i) := by decide +kernel
theorem lastSz_nil : lastSz [] = 0 := by unfold lastSz; rw [if_pos rfl]
section
variable {P : Program} {w : World} {K : PySem.W.Frag} {mg : Str → Option Value} {base : Heap} {f : Addr} {fd : FuncData} {tk : Nat → Tok} {c kr : Nat → Addr}
def spALay (K : PySem.W.Frag) (e : Nat) : Sp := fun vs H Q _ => ∃ (a t r : Addr) (ns : List Int) (c : Int) (deep : Nat), vs = [.ref a, .ref t, .int (deep : Nat)] ∧ deep < e ∧ deep ≤ 2 ∧ Bag K H a t r ns c ∧ c + cb deep < 90000 ∧ ∀ (v : V) (H' : Hp) (its : List (Bool × Ly)) (c' : Int), Bag K H' a t r ns c' → c' ≤ c + cb deep → Apart t r H H' → Deep H' v (.tup (dvL its)) → Good deep its → Q v H'
theorem ok__law_a_layout0 (F : Fun K "_law_a_layout" "_law_a_layout" s__law_a_layout f fd) : FnOk P w K mg base (CXE P w) 4 f fd ["_law_script", "_law_town", "_law_deep"] (spALay K 0) := by
  refine okNx F sc__law_a_layout (fun vs H Q E h => ?_) (fun cdv A outer s H vs Q E hr h => ?_)
  · obtain ⟨a, t, r, ns, c, deep, rfl, _⟩ := h
    rfl
  · obtain ⟨a, t, r, ns, c, deep, rfl, hd, _⟩ := h
    exact absurd hd (Nat.not_lt_zero _)
/-- the loop's word -/
structure LaySt (K : PySem.W.Frag) (H0 H : Hp) (a t r : Addr) (ns : List Int) (c : Int) (fv : V) (its : List (Bool × Ly)) (deep : Nat) : Prop where
  B : Bag K H a t r ns c
  A : Apart t r H0 H
  D : Deep H fv (.tup (dvL its))
  P : PB its
  G : ∀ x ∈ its, GoodY deep x.2
theorem lay_box {H0 H : Hp} {a t r : Addr} {ns : List Int} {c : Int} {fv : V} {its : List (Bool × Ly)} {deep : Nat} {σ : L2.St} {E : XK} {Q : VK} {nm : Str} (L : LaySt K H0 H a t r ns c fv its deep) (h0 : σ[0]? = some (some (.ref a))) (h1 : σ[1]? = some (some (.ref t))) (h8 : σ[8]? = some (some (.str nm))) (hc : c < 99000) (k : ∀ (p : Nat) (iv : V) (H' : Hp), LaySt K H0 H' a t r ns (c + 1) fv its deep → Deep H' iv (Ly.box nm p).dv → Q iv H') :
    tTup (tCons (tC (.str "box")) (tCons (tVar 8) (tCons (tOp rIxLR (tLst (tCons (tC (.str "9(3)")) (tCons (tC (.str "S99V9")) (tCons (tC (.str "X(4)")) (tCons (tC (.str "AA")) (tCons (tC (.str "Z9.9")) (tCons (tC (.str "X")) tNil))))))) (tCall (spDraw K) [] E (tCons (tVar 0) (tCons (tVar 1) (tCons (tC (.int 6)) tNil))))) tNil))) σ H Q := by
  have hz : 1000 ≤ sizeLine := by decide
  refine ⟨_, h8, ?_⟩
  refine L.B.pickD (ds := six) h0 h1 (taD_str (taD_str (taD_str (taD_str (taD_str (taD_str taD_nil)))))) rfl (by decide) (by decide) (by omega) fun d x dv H1 hdv Dx B1 A1 => ⟨by show 3 ≤ sizeLine; omega, fun p hp => ?_⟩
  obtain rfl := six_at hdv
  obtain rfl := Dx.str'
  have S := Same.new (o := .tup [.str "box", .str nm, .str (picS d)]) hp
  refine k d _ _ ⟨B1.same S, (L.A.trans A1).trans (Apart.of S), (L.D.keep (L.B.tups A1)).same S, L.P, L.G⟩ ?_
  rw [Ly.dv]
  exact .tup upd_same (.cons .str (.cons .str (.cons .str .nil)))
theorem lay_depth {deep : Nat} {its : List (Bool × Ly)} (hd : deep ≤ 2) (h : ∀ x ∈ its, GoodY deep x.2) : (Dv.tup (dvL its)).depth ≤ 16 := by
  have h1 : dpL its ≤ 2 := dpL_of fun x hx => by
    obtain ⟨_, _, _, b4⟩ := goodY_bd deep hd (h x hx)
    omega
  have := depth_tup (dvd_l its)
  omega
set_option maxHeartbeats 4000000 in
theorem ok__law_a_layout (e : Nat) (F : Fun K "_law_a_layout" "_law_a_layout" s__law_a_layout f fd) (O : Own mg) (D__law_draw : Def P w K mg base 1 "_law_draw" ["_law_script", "_law_town", "_law_many"] (spDraw K)) (D__law_item_size : Def P w K mg base 4 "_law_item_size" ["_law_item"] (spISz 3)) (D__law_a_layout : Def P w K mg base (e + 4) "_law_a_layout" ["_law_script", "_law_town", "_law_deep"] (spALay K e)) : FnOk P w K mg base (CXE P w) (e + 5) f fd ["_law_script", "_law_town", "_law_deep"] (spALay K (e + 1)) := by
  refine okNx F sc__law_a_layout (fun vs H Q E h => ?_) (fun cdv A outer s H vs Q E hr h => ?_)
  · obtain ⟨a, t, r, ns, c, deep, rfl, _⟩ := h
    rfl
  · obtain ⟨a, t, r, ns, c, deep, rfl, hde, hd2, B0, hc, k⟩ := h
    have hz : 100000 ≤ sizeLine := by rw [sizeLine_eq]; decide
    have hcb : 20 ≤ cb deep := by
      cases deep with
      | zero => exact Int.le_refl _
      | succ d =>
        have : ∀ d, 20 ≤ cb d := by
          intro d
          induction d with
          | zero => exact Int.le_refl _
          | succ d ih => show 20 ≤ 4 * cb d + 20; omega
        exact this _
    refine ⟨_, (psx_cons (PSy.mk (ps_asg (pe_tup (pa_c (pe_tup pa_nil) (pa_c pe_int (pa_c pe_str pa_nil)))) (pg_tup rfl (pgs_cons (pg_name (i := 3) sc__law_a_layout.nd rfl (Or.inl rfl)) (pgs_cons (pg_name (i := 4) sc__law_a_layout.nd rfl (Or.inl rfl)) (pgs_cons (pg_name (i := 5) sc__law_a_layout.nd rfl (Or.inl rfl)) pgs_nil))))))
      (psx_cons (psy_for PassesOwn.never rfl (pi_range1 rfl O.range (pa_c (pe_op op_add pe_int (D__law_draw.pe hr (by omega) rfl passE0 (pa_c (pv 0) (pa_c (pv 1) (pa_c pe_int pa_nil))))) pa_nil)) (pg_name (i := 6) sc__law_a_layout.nd rfl (Or.inl rfl)) (psx_cons (PSy.mk (ps_par (i := 7) (j := 8) rfl sc__law_a_layout.nd rfl rfl (by decide) rfl rfl (pa_c (D__law_draw.pe hr (by omega) rfl passE0 (pa_c (pv 0) (pa_c (pv 1) (pa_c pe_int pa_nil)))) (pa_c (pe_ix ix_str (pv 5) (pv 6) (fun _ _ => rfl)) pa_nil)) rfl))
      (psx_cons (psy_if (PW.pt (pw_or (pt_cmpR op_eq (pv 2) pe_int (nomark _)) (pw_or1 (pt_cmpR op_lt (pv 7) pe_int (nomark _))))) (psx_one (psy_set (i := 9) sc__law_a_layout.nd rfl (Or.inl rfl) (pex_tup (pax_c (PEx.mk pe_str) (pax_c (PEx.mk (pv 8)) (pax_c (pex_pick (pax_str (pax_str (pax_str (pax_str (pax_str (pax_str pax_nil)))))) (PEx.mk (D__law_draw.pe hr (by omega) rfl passE0 (pa_c (pv 0) (pa_c (pv 1) (pa_c pe_int pa_nil))))) (fun _ _ => rfl)) pax_nil rfl) rfl) rfl)) rfl rfl)) (psx_one (psy_if (pt_cmpR op_lt (pv 7) pe_int (nomark _)) (psx_one (psy_set (i := 9) sc__law_a_layout.nd rfl (Or.inl rfl) (pex_tup (pax_c (PEx.mk pe_str) (pax_c (PEx.mk (pv 8)) (pax_c (PEx.mk (D__law_a_layout.pe hr (by omega) rfl passE0 (pa_c (pv 0) (pa_c (pv 1) (pa_c (pe_op op_sub (pv 2) pe_int) pa_nil))))) pax_nil rfl) rfl) rfl)) rfl rfl)) (psx_one (psy_set (i := 9) sc__law_a_layout.nd rfl (Or.inl rfl) (pex_tup (pax_c (PEx.mk pe_str) (pax_c (PEx.mk (pv 8)) (pax_c (pex_op op_add (PEx.mk pe_int) (PEx.mk (D__law_draw.pe hr (by omega) rfl passE0 (pa_c (pv 0) (pa_c (pv 1) (pa_c pe_int pa_nil)))))) (pax_c (PEx.mk (D__law_a_layout.pe hr (by omega) rfl passE0 (pa_c (pv 0) (pa_c (pv 1) (pa_c (pe_op op_sub (pv 2) pe_int) pa_nil))))) pax_nil rfl) rfl) rfl) rfl)) rfl rfl)))))
      (psx_cons (psy_set (i := 10) sc__law_a_layout.nd rfl (Or.inl rfl) (PEx.mk (D__law_item_size.pe hr (by omega) rfl passE0 (pa_c (pv 9) pa_nil))) rfl rfl)
      (psx_one (psy_if (PW.pt (pw_and (pt_cmpR (op_neDp (n := 16) (hd16_of hr)) (pv 3) (pe_tup pa_nil) (nomark _)) (pw_and (pt_cmpR op_eq (D__law_draw.pe hr (by omega) rfl passE0 (pa_c (pv 0) (pa_c (pv 1) (pa_c pe_int pa_nil)))) pe_int (nomark _)) (pw_and1 (pt_cmpR op_le (pv 10) (pv 4) (nomark _)))))) (psx_one (psy_set (i := 3) sc__law_a_layout.nd rfl (Or.inl rfl) (pex_op op_catR (PEx.mk (pv 3)) (pex_tup (pax_c (pex_tup (pax_c (PEx.mk pe_str) (pax_c (PEx.mk (pv 9)) pax_nil rfl) rfl)) pax_nil rfl))) rfl rfl)) (psx_one (PSy.mk (ps_par (i := 3) (j := 4) rfl sc__law_a_layout.nd rfl rfl (by decide) rfl rfl (pa_c (pe_op op_catR (pv 3) (pe_tup (pa_c (pv 9) pa_nil))) (pa_c (pv 10) pa_nil)) rfl)))))))) (fun _ => rfl))
      (psx_one (psy_ret (PEx.mk (pv 3)))))), ?_⟩
    refine ⟨by show 0 ≤ sizeLine; omega, fun p0 hp0 => ⟨by show 3 ≤ sizeLine; omega, fun p1 hp1 => ?_⟩⟩
    refine ⟨p1, _, rfl, .inl (.inl upd_same), rfl, _, _, rfl, _, _, rfl, _, _, rfl, rfl, ?_⟩
    have S0 := Same.new (o := .tup []) hp0
    have S01 := Same.new (o := .tup [.ref p0, .int 0, .str "abcdef"]) hp1
    have L0 : LaySt K H (upd (upd H p0 (.tup [])) p1 (.tup [.ref p0, .int 0, .str "abcdef"])) a t r ns c (.ref p0) [] deep := ⟨B0.same (S0.trans S01), Apart.of (S0.trans S01), (Deep.tup upd_same (by rw [dvL]; exact .nil)).same S01, ⟨Nat.zero_le _, fun j x h => by simp at h, fun x h => by simp at h, fun j y h => by simp at h⟩, fun x hx => nomatch hx⟩
    generalize upd (upd H p0 (.tup [])) p1 (.tup [.ref p0, .int 0, .str "abcdef"]) = H1 at L0
    clear S0 S01 hp0 hp1
    dsimp only [gName, tAsg, tSeq, tNext]
    refine L0.B.draw rfl rfl (fun R h => h) (by decide) (by decide) (by omega) fun n4 H2 hn4 B2 A2 => ?_
    have L2' : LaySt K H H2 a t r ns (c + 1) (.ref p0) [] deep := ⟨B2, L0.A.trans A2, L0.D.keep (L0.B.tups A2), L0.P, L0.G⟩
    clear L0 B2 A2
    refine ⟨_, _, rfl, rfl, _, rfl, by omega, by omega, ?_⟩
    have en : (1 + ((n4 : Nat) : Int)).toNat = n4 + 1 := by omega
    rw [en]
    refine for_fix (fixR (lo := 0) (n := n4 + 1)) (fun i σ H3 => ∃ (fv : V) (its : List (Bool × Ly)) (c3 : Int) (y6 y7 y8 y9 y10 : Option V), σ = [some (.ref a), some (.ref t), some (.int (deep : Nat)), some fv, some (.int (lastSz its : Nat)), some (.str "abcdef"), y6, y7, y8, y9, y10] ∧ LaySt K H H3 a t r ns c3 fv its deep ∧ its.length = i ∧ c3 ≤ c + 1 + i * ((cb deep - 1) / 4)) ⟨.ref p0, [], c + 1, none, none, none, none, none, by rw [lastSz_nil]; rfl, L2', rfl, by omega⟩ ?_ ?_ ?_
    · intro i σ H3 _ _
      trivial
    · rintro i v σ H30 H3 hi ⟨fv, its, c3, y6, y7, y8, y9, y10, rfl, L3, hli, hc3⟩ ⟨rfl, rfl⟩
      have hi4 : i < 4 := by omega
      have per : ∃ q : Int, (cb deep - 1) / 4 = q ∧ 4 ≤ q ∧ ∀ d, deep = d + 1 → q = cb d + 4 := by
        refine ⟨_, rfl, by omega, fun d hd => ?_⟩
        subst hd
        show (4 * cb d + 20 - 1) / 4 = cb d + 4
        omega
      obtain ⟨q, hq, hq4, hqd⟩ := per
      rw [hq] at hc3 ⊢
      have hiq : ((i : Nat) : Int) * q ≤ 3 * q := Int.mul_le_mul_of_nonneg_right (by omega) (by omega)
      have h4q : 4 * q ≤ cb deep - 1 := by omega
      dsimp only [gName, tAsg, tNext]
      refine par_cc (L3.B.draw rfl rfl (fun R h => h) (by decide) (by decide) (by omega) fun tn H4 htn B4 A4 => ?_)
      have L4 : LaySt K H H4 a t r ns (c3 + 1) fv its deep := ⟨B4, L3.A.trans A4, L3.D.keep (L3.B.tups A4), L3.P, L3.G⟩
      clear L3 B4 A4
      refine ⟨_, rfl, _, rfl, "abcdef", _, _, rfl, rfl, by decide +kernel, lett_at i hi4, ?_⟩
      refine ⟨_, _, rfl, ?_⟩
      have hlt : (⟨#[97 + i]⟩ : Str) = lett i := rfl
      rw [hlt]
      -- the item
      dsimp only
      refine seqJ (fun σ' H6 => ∃ (y : Ly) (iv : V) (c6 : Int), σ' = [some (.ref a), some (.ref t), some (.int (deep : Nat)), some fv, some (.int (lastSz its : Nat)), some (.str "abcdef"), some (.int (0 + (i : Int))), some (.int (tn : Nat)), some (.str (lett i)), some iv, y10] ∧ LaySt K H H6 a t r ns c6 fv its deep ∧ Deep H6 iv y.dv ∧ GoodY deep y ∧ y.name = lett i ∧ c6 ≤ c3 + q - 1) ?_ (fun rest => ?_)
      rotate_left
      · refine ⟨_, rfl, rfl, _, rfl, ?_⟩
        refine ifB (fun z => ?_) (fun z => ?_)
        · have gy : ∀ p, GoodY deep (.box (lett i) p) := fun p => by
            cases deep with
            | zero => exact ⟨_, _, rfl⟩
            | succ d => exact .inl ⟨_, _, rfl⟩
          refine iteT ?_
          exact lay_box L4 rfl rfl rfl (by omega) fun p iv H5 L5 D5 => rest _ _ ⟨.box (lett i) p, iv, _, rfl, L5, D5, gy p, rfl, by omega⟩
        have hdz : deep ≠ 0 := fun e => by rw [e] at z; exact absurd z (by decide)
        obtain ⟨d, rfl⟩ : ∃ d, deep = d + 1 := ⟨deep - 1, by omega⟩
        have hqd' := hqd d rfl
        refine ⟨_, rfl, _, _, rfl, rfl, _, rfl, ?_⟩
        refine ifB (fun z3 => ?_) (fun z3 => ?_)
        · exact lay_box L4 rfl rfl rfl (by omega) fun p iv H5 L5 D5 => rest _ _ ⟨.box (lett i) p, iv, _, rfl, L5, D5, .inl ⟨_, _, rfl⟩, rfl, by omega⟩
        have ed : (((d + 1 : Nat) : Nat) : Int) - 1 = ((d : Nat) : Int) := by omega
        refine ⟨_, rfl, _, _, rfl, rfl, _, rfl, ?_⟩
        refine ifB (fun z5 => ?_) (fun z5 => ?_)
        · refine ⟨_, rfl, _, rfl, _, rfl, _, rfl, _, _, rfl, rfl, a, t, r, ns, c3 + 1, d, by dsimp only; rw [ed]; rfl, by omega, by omega, L4.B, by omega, fun v5 H5 in_ c5 B5 hc5 A5 D5 G5 => ⟨by show 3 ≤ sizeLine; omega, fun p6 hp6 => ?_⟩⟩
          have S6 := Same.new (o := .tup [.str "group", .str (lett i), v5]) hp6
          have L5 : LaySt K H H5 a t r ns c5 fv its (d + 1) := ⟨B5, L4.A.trans A5, L4.D.keep (L4.B.tups A5), L4.P, L4.G⟩
          refine rest _ _ ⟨.grp (lett i) in_, .ref p6, c5, rfl, ⟨L5.B.same S6, L5.A.trans (Apart.of S6), L5.D.same S6, L5.P, L5.G⟩, ?_, .inr (.inl ⟨_, _, rfl, G5⟩), rfl, by omega⟩
          rw [Ly.dv]
          exact .tup upd_same (.cons .str (.cons .str (.cons (D5.same S6) .nil)))
        · refine ⟨_, rfl, ?_⟩
          refine L4.B.draw rfl rfl (fun R h => h) (by decide) (by decide) (by omega) fun kd H5 hkd B5 A5 => ?_
          have L5 : LaySt K H H5 a t r ns (c3 + 1 + 1) fv its (d + 1) := ⟨B5, L4.A.trans A5, L4.D.keep (L4.B.tups A5), L4.P, L4.G⟩
          refine ⟨_, _, rfl, rfl, ?_⟩
          have ek : (1 : Int) + ((kd : Nat) : Int) = ((kd + 1 : Nat) : Int) := by omega
          dsimp only
          rw [ek]
          refine ⟨_, rfl, _, rfl, _, rfl, _, _, rfl, rfl, a, t, r, ns, c3 + 1 + 1, d, by dsimp only; rw [ed]; rfl, by omega, by omega, L5.B, by omega, fun v6 H6 in_ c6 B6 hc6 A6 D6 G6 => ⟨by show 4 ≤ sizeLine; omega, fun p7 hp7 => ?_⟩⟩
          have S7 := Same.new (o := .tup [.str "table", .str (lett i), .int (kd + 1 : Nat), v6]) hp7
          have L6 : LaySt K H H6 a t r ns c6 fv its (d + 1) := ⟨B6, L5.A.trans A6, L5.D.keep (L5.B.tups A6), L5.P, L5.G⟩
          refine rest _ _ ⟨.tab (lett i) (kd + 1) in_, .ref p7, c6, rfl, ⟨L6.B.same S7, L6.A.trans (Apart.of S7), L6.D.same S7, L6.P, L6.G⟩, ?_, .inr (.inr ⟨_, _, _, rfl, by omega, by omega, G6⟩), rfl, by omega⟩
          rw [Ly.dv]
          exact .tup upd_same (.cons .str (.cons .str (.cons .int (.cons (D6.same S7) .nil))))
      rintro σ6 H6 ⟨y, iv, c6, rfl, L6, Dy, Gy, hyn, hc6⟩
      obtain ⟨b1, b2, b3, b4⟩ := goodY_bd deep hd2 Gy
      refine ⟨_, rfl, iv, (false, y), rfl, by rw [dvI, if_neg (by decide)]; exact Dy, by show y.dp < 3; omega, by show y.cn ≤ 10000; omega, b3, fun H7 S7 => ?_⟩
      have esz : szI (false, y) = y.sz := by rw [szI, if_neg (by decide)]
      rw [esz]
      have L7 : LaySt K H H7 a t r ns c6 fv its deep := ⟨L6.B.same S7, L6.A.trans (Apart.of S7), L6.D.same S7, L6.P, L6.G⟩
      have Dy7 := Dy.same S7
      clear L6 Dy
      obtain ⟨fa, fx, rfl, gf, tf⟩ := Deep.tup' L7.D
      have lfx := tf.length
      rw [dvL_map, List.length_map] at lfx
      have plain : ∀ H8 c8, LaySt K H H8 a t r ns c8 (.ref fa) its deep → Deep H8 iv y.dv → c8 ≤ c6 + 1 → ∀ De : Ends, (∀ σ' H', (∃ (fv : V) (its : List (Bool × Ly)) (c3 : Int) (y6 y7 y8 y9 y10 : Option V), σ' = [some (.ref a), some (.ref t), some (.int (deep : Nat)), some fv, some (.int (lastSz its : Nat)), some (.str "abcdef"), y6, y7, y8, y9, y10] ∧ LaySt K H H' a t r ns c3 fv its deep ∧ its.length = i + 1 ∧ c3 ≤ c + 1 + ((i + 1 : Nat) : Int) * q) → De.nx σ' H') → tPar 3 4 (tCons (tOp rCatR (tVar 3) (tTup (tCons (tVar 9) tNil))) (tCons (tVar 10) tNil)) De [some (.ref a), some (.ref t), some (.int (deep : Nat)), some (.ref fa), some (.int (lastSz its : Nat)), some (.str "abcdef"), some (.int (0 + (i : Int))), some (.int (tn : Nat)), some (.str (lett i)), some iv, some (.int (y.sz : Nat))] H8 := by
        intro H8 c8 L8 D8 hc8 De hnx
        obtain ⟨fa', fx', e', gf8, tf8⟩ := Deep.tup' L8.D
        cases e'
        have l8 := tf8.length
        rw [dvL_map, List.length_map] at l8
        refine par_cc ⟨_, rfl, _, rfl, by show 1 ≤ sizeLine; omega, fun p9 hp9 => ?_⟩
        have S9 := Same.new (o := .tup [iv]) hp9
        refine cat_D (S9 _ _ gf8) upd_same (tf8.same S9) (.cons (D8.same S9) .nil) (by show fx'.length + 1 ≤ sizeLine; omega) fun u10 H10 S10 D10 => ?_
        refine ⟨_, rfl, _, _, rfl, ?_⟩
        have S810 := S9.trans S10
        refine hnx _ _ ⟨u10, its ++ [(false, y)], c8, _, _, _, _, _, by rw [lastSz_new]; rfl, ⟨L8.B.same S810, L8.A.trans (Apart.of S810), ?_, L8.P.add (by omega) (by rw [hyn, hli]), ?_⟩, by rw [List.length_append, List.length_singleton, hli], ?_⟩
        · rw [dvL_map, List.map_append, ← dvL_map]
          have : [(false, y)].map dvI = [y.dv] := by rw [List.map_cons, List.map_nil, dvI, if_neg (by decide)]
          rw [this]
          exact D10
        · intro x hx
          rcases List.mem_append.mp hx with hx | hx
          · exact L8.G x hx
          · rw [List.mem_singleton.mp hx]; exact Gy
        · have : ((i + 1 : Nat) : Int) * q = ((i : Nat) : Int) * q + q := by push_cast; rw [Int.add_mul, Int.one_mul]
          omega
      dsimp only [gName, tAsg, tSeq, tNext]
      refine ⟨_, rfl, ?_⟩
      refine ne_empty L7.D (lay_depth hd2 L7.G) fun H8 b8 S8 hb8 => ?_
      have L8 : LaySt K H H8 a t r ns c6 (.ref fa) its deep := ⟨L7.B.same S8, L7.A.trans (Apart.of S8), L7.D.same S8, L7.P, L7.G⟩
      refine ifB (fun z => ?_) (fun z => ?_)
      rotate_left
      · exact plain H8 c6 L8 (Dy7.same S8) (by omega) _ (fun _ _ h => h)
      have hne := hb8.mp z
      refine L8.B.draw rfl rfl (fun R h => h) (by decide) (by decide) (by omega) fun d9 H9 hd9 B9 A9 => ?_
      have L9 : LaySt K H H9 a t r ns (c6 + 1) (.ref fa) its deep := ⟨B9, L8.A.trans A9, L8.D.keep (L8.B.tups A9), L8.P, L8.G⟩
      have Dy9 := (Dy7.same S8).keep (L8.B.tups A9)
      refine ⟨rfl, _, rfl, ?_⟩
      refine ifB (fun z2 => ?_) (fun z2 => ?_)
      rotate_left
      · exact plain H9 (c6 + 1) L9 Dy9 (by omega) _ (fun _ _ h => h)
      refine ⟨_, rfl, _, rfl, _, _, rfl, rfl, _, rfl, ?_⟩
      refine ifB (fun z3 => ?_) (fun z3 => ?_)
      rotate_left
      · exact plain H9 (c6 + 1) L9 Dy9 (by omega) _ (fun _ _ h => h)
      have z3 := of_decide_eq_true z3
      obtain ⟨fa', fx', e', gf9, tf9⟩ := Deep.tup' L9.D
      cases e'
      have l9 := tf9.length
      rw [dvL_map, List.length_map] at l9
      refine ⟨_, rfl, _, rfl, by show 2 ≤ sizeLine; omega, fun p10 hp10 => ⟨by show 1 ≤ sizeLine; omega, fun p11 hp11 => ?_⟩⟩
      have S10 := Same.new (o := .tup [.str "over", iv]) hp10
      have S11 := Same.new (o := .tup [.ref p10]) hp11
      have D11 : Deep (upd (upd H9 p10 (.tup [.str "over", iv])) p11 (.tup [.ref p10])) (.ref p10) (.tup [.str "over", y.dv]) := (Deep.tup upd_same (.cons .str (.cons (Dy9.same S10) .nil))).same S11
      refine cat_D ((S10.trans S11) _ _ gf9) upd_same (tf9.same (S10.trans S11)) (.cons D11 .nil) (by show fx'.length + 1 ≤ sizeLine; omega) fun u12 H12 S12 D12 => ?_
      have S912 := (S10.trans S11).trans S12
      refine ⟨u12, its ++ [(true, y)], c6 + 1, _, _, _, _, _, by rw [lastSz_over hne]; rfl, ⟨L9.B.same S912, L9.A.trans (Apart.of S912), ?_, L9.P.addO hne (by omega) (by rw [hyn, hli]) (by omega), ?_⟩, by rw [List.length_append, List.length_singleton, hli], ?_⟩
      · rw [dvL_map, List.map_append, ← dvL_map]
        have : [(true, y)].map dvI = [.tup [.str "over", y.dv]] := by rw [List.map_cons, List.map_nil, dvI, if_pos rfl]
        rw [this]
        exact D12
      · intro x hx
        rcases List.mem_append.mp hx with hx | hx
        · exact L9.G x hx
        · rw [List.mem_singleton.mp hx]; exact Gy
      · have : ((i + 1 : Nat) : Int) * q = ((i : Nat) : Int) * q + q := by push_cast; rw [Int.add_mul, Int.one_mul]
        omega
    · rintro σ H3 ⟨fv, its, c3, y6, y7, y8, y9, y10, rfl, L3, hli, hc3⟩
      refine ⟨_, rfl, k _ _ its c3 L3.B ?_ L3.A L3.D ((good_iff _ _).mpr ⟨fun z => by rw [z] at hli; simp at hli, L3.P, L3.G⟩)⟩
      have : n4 = 0 ∨ n4 = 1 ∨ n4 = 2 ∨ n4 = 3 := by omega
      rcases this with rfl | rfl | rfl | rfl <;> (push_cast at hc3; omega)
end
end Lw

set_option Elab.async false
set_option linter.all false
set_option maxRecDepth 100000
namespace Lw
open PySem PySem.Spec PyProof.Rows L2 K02 K04
open Builtin Builtin.Str StrLaws
def spLaw : Sp := fun vs H Q _ => ∃ (a : Addr) (ns : List Int), vs = [.ref a] ∧ ns.length ≤ 63 ∧ (∃ o, H a = some (.frz o (.lst (ns.map V.int)))) ∧ ∀ H', Q (.bl true) H'
def offs : List (List Step × Nat) → Nat
  | [] => 0
  | x :: l => szP x.2 + offs l
theorem Run.at {R : List Step → Nat → Nat → Prop} : ∀ {l : List (List Step × Nat)} {b e i : Nat} {x : List Step × Nat}, Run R b l e → l[i]? = some x → R x.1 (b + offs (l.take i)) x.2
  | [], b, e, i, x, _, h => by simp at h
  | y :: l, b, e, 0, x, r, h => by
    obtain rfl : y = x := by simpa using h
    exact r.1
  | y :: l, b, e, i + 1, x, r, h => by
    have := Run.at (i := i) r.2 (by simpa using h)
    rw [List.take_succ_cons, offs, ← Nat.add_assoc]
    exact this
theorem Run.end_ {R : List Step → Nat → Nat → Prop} : ∀ {l : List (List Step × Nat)} {b e : Nat}, Run R b l e → b + offs l = e
  | [], b, e, h => h
  | y :: l, b, e, h => by
    have := Run.end_ h.2
    rw [offs, ← Nat.add_assoc]
    exact this
theorem offs_step : ∀ {l : List (List Step × Nat)} {i : Nat} {x : List Step × Nat}, l[i]? = some x → offs (l.take (i + 1)) = offs (l.take i) + szP x.2
  | [], i, x, h => by simp at h
  | y :: l, 0, x, h => by
    obtain rfl : y = x := by simpa using h
    rw [List.take_succ_cons, List.take_zero, List.take_zero, offs]
    exact Nat.add_comm _ _
  | y :: l, i + 1, x, h => by
    have := offs_step (l := l) (i := i) (x := x) (by simpa using h)
    rw [List.take_succ_cons, List.take_succ_cons, offs, offs, this]
    omega
theorem depth_step (st : Step) : (stepD st).depth ≤ 1 := by
  obtain ⟨nm, o⟩ := st
  cases o with
  | none => exact depth_str' _ _
  | some i =>
    refine depth_tup (n := 0) fun d hd => ?_
    simp only [List.mem_cons, List.not_mem_nil, or_false] at hd
    rcases hd with rfl | rfl
    · exact depth_str' _ _
    · unfold Dv.depth; omega
theorem depth_path (ss : List Step) : (pathD ss).depth ≤ 7 := by
  have := depth_tup (n := 1) (ds := ss.map stepD) fun d hd => by
    obtain ⟨st, _, rfl⟩ := List.mem_map.mp hd
    exact depth_step st
  unfold pathD
  omega
theorem any_path {ps : List (List Step)} {p : List Step} (h : p ∈ ps) : ((ps.map pathD).any fun e => e.eqb (pathD p)) = true := List.any_eq_true.mpr ⟨pathD p, List.mem_map.mpr ⟨p, h, rfl⟩, Dv.eqb_self _⟩
def stOf : Ly → Step
  | .tab nm _ _ => (nm, some 0)
  | y => (y.name, none)
theorem w_nt : decide (V.str "table" = V.str "table") = true := by decide +kernel
theorem top_res {its : List (Bool × Ly)} (G : Good 2 its) {i : Nat} {o : Bool} {y : Ly} (e : its[i]? = some (o, y)) : Res its [stOf y] (szL (its.take (under its i))) y := by
  obtain ⟨_, hp, hx⟩ := (good_iff 2 its).mp G
  have hnm := hp.nm _ _ e
  have key : ∀ st : Step, st.1 = y.name → aheadOf y st.2 = some 0 → Res its [st] (szL (its.take (under its i))) y := fun st h1 h2 => Res.one (hp.ati (n := 0) e (by rw [h1]; exact hnm) h2)
  cases y with
  | box nm p => exact key _ rfl rfl
  | grp nm in_ => exact key _ rfl rfl
  | tab nm k in_ =>
    refine key _ rfl ?_
    rcases hx (o, .tab nm k in_) (List.mem_of_getElem? e) with ⟨_, _, e2⟩ | ⟨_, _, e2, _⟩ | ⟨nm', k', in', e2, hk1, _, _⟩
    · cases e2
    · cases e2
    · have e2 : Ly.tab nm k in_ = .tab nm' k' in' := e2
      cases e2
      show (if 0 < k then some (0 * szL in_) else none) = some 0
      rw [if_pos (by omega), Nat.zero_mul]
/-- what lies under the next item -/
def UnSt (H : Hp) (its : List (Bool × Ly)) (i : Nat) (w : V) : Prop := i = 0 ∨ ∃ j qu, i = j + 1 ∧ w = .ref qu ∧ H qu = some (.tup [.int (szL (its.take (under its j)) : Nat), .int ((its.getD (under its j) dfI).2.sz : Nat)])
theorem where_parts {H : Hp} {u : V} {n : Nat} {y : Ly} (D : Deep H u (whereD n y)) : ∃ q z, u = .ref q ∧ H q = some (.tup [.int (n : Nat), .int (wideOf y : Nat), z]) ∧ Deep H z (picOf y) := by
  obtain ⟨a, xs, rfl, g, t⟩ := Deep.tup' (show Deep H u (.tup [.int (n : Nat), .int (wideOf y : Nat), picOf y]) from D)
  cases t with
  | cons p1 t => cases t with
    | cons p2 t => cases t with
      | cons p3 t =>
        cases t
        obtain rfl := p1.int'
        obtain rfl := p2.int'
        exact ⟨a, _, rfl, g, p3⟩
theorem word_table (y : Ly) : (∃ nm k in_, y = .tab nm k in_) ∨ (stOf y = (y.name, none) ∧ decide (V.str y.word = V.str "table") = false) := by
  cases y with
  | box nm p => exact .inr ⟨rfl, w_bt⟩
  | grp nm in_ => exact .inr ⟨rfl, w_gt⟩
  | tab nm k in_ => exact .inl ⟨_, _, _, rfl⟩
theorem where_top {E : XK} {σ : L2.St} {H : Hp} {Q : VK} {iv : V} {its : List (Bool × Ly)} {n : Nat} {y : Ly} (h2 : σ[2]? = some (some iv)) (h14 : σ[14]? = some (some (.str y.name))) (h15 : σ[15]? = some (some (.str y.word))) (DI : Deep H iv (.tup (dvL its))) (hbd : LyBd its) (hres : Res its [stOf y] n y) (k : ∀ qh z H', Same H H' → H' qh = some (.tup [.int (n : Nat), .int (wideOf y : Nat), z]) → Q (.ref qh) H') :
    tCall spWhere [] E (tCons (tVar 2) (tCons (tTup (tCons (tIf (tTest (tOp rNe (tVar 15) (tC (.str "table")))) (tVar 14) (tTup (tCons (tVar 14) (tCons (tC (.int 0)) tNil)))) tNil)) tNil)) σ H Q := by
  have hz : 1000 ≤ sizeLine := by decide
  refine ⟨_, h2, _, h15, rfl, ?_⟩
  rcases word_table y with ⟨nm, kk, in_, rfl⟩ | ⟨e1, e2⟩
  · refine ⟨false, by show V.bl (!decide (V.str "table" = V.str "table")) = _; rw [w_nt]; rfl, iteF ⟨_, h14, by show 2 ≤ sizeLine; omega, fun p hp => ⟨by show 1 ≤ sizeLine; omega, fun p2 hp2 => ?_⟩⟩⟩
    have S1 := Same.new (o := .tup [.str nm, .int 0]) hp
    have S2 := Same.new (o := .tup [.ref p]) hp2
    have S12 := S1.trans S2
    refine ⟨iv, .ref p2, its, [stOf (.tab nm kk in_)], n, .tab nm kk in_, rfl, DI.same S12, .tup upd_same (.cons ((Deep.tup upd_same (.cons .str (.cons .int .nil))).same S2) .nil), hbd, hres, by show 1 ≤ 1000; omega, fun u H' S' D' => ?_⟩
    obtain ⟨qh, z, rfl, gh, _⟩ := where_parts D'
    exact k _ z _ (S12.trans S') gh
  · refine ⟨true, by rw [e2]; rfl, iteT ⟨_, h14, by show 1 ≤ sizeLine; omega, fun p2 hp2 => ?_⟩⟩
    have S2 := Same.new (o := .tup [.str y.name]) hp2
    rw [e1] at hres
    refine ⟨iv, .ref p2, its, [(y.name, none)], n, y, rfl, DI.same S2, .tup upd_same (.cons .str .nil), hbd, hres, by show 1 ≤ 1000; omega, fun u H' S' D' => ?_⟩
    obtain ⟨qh, z, rfl, gh, _⟩ := where_parts D'
    exact k _ z _ (S2.trans S') gh
section
variable {P : Program} {w : World} {K : PySem.W.Frag} {mg : Str → Option Value} {base : Heap} {f : Addr} {fd : FuncData} {tk : Nat → Tok} {c kr : Nat → Addr} {ca : Value}
set_option maxHeartbeats 4000000 in
theorem ok_law (F : FunC K "law" "law" s_law f fd ca) (O : Own mg) (D__law_begun : Def P w K mg base 1 "_law_begun" [] spBegun) (D__law_a_layout : Def P w K mg base 7 "_law_a_layout" ["_law_script", "_law_town", "_law_deep"] (spALay K 3)) (D__law_plain : Def P w K mg base 4 "_law_plain" ["_law_items"] (spPl 3)) (D__law_item_size : Def P w K mg base 4 "_law_item_size" ["_law_item"] (spISz 3))
    (D_where : Def P w K mg base 12 "where" ["layout", "path"] spWhere) (D_boxes : Def P w K mg base 4 "boxes" ["layout"] spBoxes) (D_signs_in : Def P w K mg base 8 "signs_in" ["layout"] spSigns) (D_size_of : Def P w K mg base 7 "size_of" ["picture"] spSize) : FnOk P w K mg base (CXE P w) 13 f fd ["_law_script"] spLaw := by
  refine okNCx F sc_law (fun vs H Q E h => ?_) (fun A outer s H vs Q E hr h => ?_)
  · obtain ⟨a, ns, rfl, _⟩ := h
    rfl
  · obtain ⟨a, ns, rfl, hln, ⟨oa, hsc⟩, k⟩ := h
    have hz : 100000 ≤ sizeLine := by rw [sizeLine_eq]; decide
    refine ⟨_, (psx_cons (psy_set (i := 1) sc_law.nd rfl (Or.inl rfl) (PEx.mk (D__law_begun.pe0 hr (by decide) rfl passE0)) rfl rfl)
      (psx_cons (PSy.mk (ps_par (i := 2) (j := 3) rfl sc_law.nd rfl rfl (by decide) rfl rfl (pa_c (D__law_a_layout.pe hr (by decide) rfl passE0 (pa_c (pv 0) (pa_c (pv 1) (pa_c pe_int pa_nil)))) (pa_c pe_int pa_nil)) rfl))
      (psx_cons (psy_for PassesOwn.never rfl (pi_list (D__law_plain.pe hr (by decide) rfl passE0 (pa_c (pv 2) pa_nil))) (pg_name (i := 4) sc_law.nd rfl (Or.inl rfl)) (psx_cons (PSy.mk (ps_asg (D_where.pe hr (by decide) rfl passE0 (pa_c (pv 2) (pa_c (pv 4) pa_nil))) (pg_tup rfl (pgs_cons (pg_name (i := 5) sc_law.nd rfl (Or.inl rfl)) (pgs_cons (pg_name (i := 6) sc_law.nd rfl (Or.inl rfl)) (pgs_cons (pg_name (i := 7) sc_law.nd rfl (Or.inl rfl)) pgs_nil))))))
      (psx_cons (psy_if (PW.pt (pw_or (pt_cmpR op_ne (pv 5) (pv 3) (nomark _)) (pw_or (pt_cmpR op_ne (pv 6) (D_size_of.pe hr (by decide) rfl passE0 (pa_c (pv 7) pa_nil)) (nomark _)) (pw_or1 (pt_cmpR (op_notInDp (n := 7) (hd7_of hr)) (pv 4) (D_boxes.pe hr (by decide) rfl passE0 (pa_c (pv 2) pa_nil)) (by with_unfolding_all rfl)))))) (psx_one (psy_ret (PEx.mk pe_bl))) psx_nil)
      (psx_one (psy_set (i := 3) sc_law.nd rfl (Or.inl rfl) (pex_op op_add (PEx.mk (pv 3)) (PEx.mk (pv 6))) rfl rfl)))) (fun _ => rfl))
      (psx_cons (psy_if (pt_cmpR op_ne (pv 3) (D_signs_in.pe hr (by decide) rfl passE0 (pa_c (pv 2) pa_nil)) (nomark _)) (psx_one (psy_ret (PEx.mk pe_bl))) psx_nil)
      (psx_cons (psy_for PassesOwn.never rfl (pi_tup (D_boxes.pe hr (by decide) rfl passE0 (pa_c (pv 2) pa_nil))) (pg_name (i := 4) sc_law.nd rfl (Or.inl rfl)) (psx_cons (PSy.mk (ps_asg (D_where.pe hr (by decide) rfl passE0 (pa_c (pv 2) (pa_c (pv 4) pa_nil))) (pg_tup rfl (pgs_cons (pg_name (i := 5) sc_law.nd rfl (Or.inl rfl)) (pgs_cons (pg_name (i := 6) sc_law.nd rfl (Or.inl rfl)) (pgs_cons (pg_name (i := 7) sc_law.nd rfl (Or.inl rfl)) pgs_nil))))))
      (psx_one (psy_for PassesOwn.never rfl (pi_range2 rfl O.range (pa_c pe_int (pa_c (pe_callB call_len_seq rfl O.len PySem.boot_len (pa_c (pv 4) pa_nil)) pa_nil))) (pg_name (i := 8) sc_law.nd rfl (Or.inl rfl)) (psx_cons (PSy.mk (ps_asg (D_where.pe hr (by decide) rfl passE0 (pa_c (pv 2) (pa_c (pe_slice sl_tupR (pv 4) po_none (po_some (pv 8))) pa_nil))) (pg_tup rfl (pgs_cons (pg_name (i := 9) sc_law.nd rfl (Or.inl rfl)) (pgs_cons (pg_name (i := 10) sc_law.nd rfl (Or.inl rfl)) (pgs_cons (pg_name (i := 11) sc_law.nd rfl (Or.inl rfl)) pgs_nil))))))
      (psx_one (psy_if (PW.pt (pw_or (pt_cmp (pc_notN (pv 11))) (pw_or1 (pt_not (pt_chain3 op_le op_le op_le (pv 9) (pv 5) (pe_op op_add (pv 5) (pv 6)) (pe_op op_add (pv 9) (pv 10))))))) (psx_one (psy_ret (PEx.mk pe_bl))) psx_nil))) (fun _ => rfl)))) (fun _ => rfl))
      (psx_cons (psy_set (i := 12) sc_law.nd rfl (Or.inl rfl) (PEx.mk pe_non) rfl rfl)
      (psx_cons (psy_for PassesOwn.never rfl (pi_tup (pv 2)) (pg_name (i := 13) sc_law.nd rfl (Or.inl rfl)) (psx_cons (psy_set (i := 14) sc_law.nd rfl (Or.inl rfl) (pex_if (pt_cmpR op_eq (pe_ix ix_tupR (pv 13) pe_int (fun _ _ => rfl)) pe_str (nomark _)) (PEx.mk (pe_ix ix_tupR (pe_ix ix_tupR (pv 13) pe_int (fun _ _ => rfl)) pe_int (fun _ _ => rfl))) (PEx.mk (pe_ix ix_tupR (pv 13) pe_int (fun _ _ => rfl)))) rfl rfl)
      (psx_cons (psy_set (i := 15) sc_law.nd rfl (Or.inl rfl) (pex_if (pt_cmpR op_eq (pe_ix ix_tupR (pv 13) pe_int (fun _ _ => rfl)) pe_str (nomark _)) (PEx.mk (pe_ix ix_tupR (pe_ix ix_tupR (pv 13) pe_int (fun _ _ => rfl)) pe_int (fun _ _ => rfl))) (PEx.mk (pe_ix ix_tupR (pv 13) pe_int (fun _ _ => rfl)))) rfl rfl)
      (psx_cons (psy_set (i := 16) sc_law.nd rfl (Or.inl rfl) (PEx.mk (D_where.pe hr (by decide) rfl passE0 (pa_c (pv 2) (pa_c (pe_tup (pa_c (pe_ifExp (pt_cmpR op_ne (pv 15) pe_str (nomark _)) (pv 14) (pe_tup (pa_c (pv 14) (pa_c pe_int pa_nil)))) pa_nil)) pa_nil)))) rfl rfl)
      (psx_one (psy_if (pt_cmpR op_eq (pe_ix ix_tupR (pv 13) pe_int (fun _ _ => rfl)) pe_str (nomark _)) (psx_one (psy_if (PW.pt (pw_or (pt_cmpR op_ne (pe_ix ix_tupR (pv 16) pe_int (fun _ _ => rfl)) (pe_ix ix_tupR (pv 12) pe_int (fun _ _ => rfl)) (nomark _)) (pw_or1 (pt_cmpR op_gt (D__law_item_size.pe hr (by decide) rfl passE0 (pa_c (pe_ix ix_tupR (pv 13) pe_int (fun _ _ => rfl)) pa_nil)) (pe_ix ix_tupR (pv 12) pe_int (fun _ _ => rfl)) (nomark _))))) (psx_one (psy_ret (PEx.mk pe_bl))) psx_nil)) (psx_one (psy_set (i := 12) sc_law.nd rfl (Or.inl rfl) (pex_tup (pax_c (PEx.mk (pe_ix ix_tupR (pv 16) pe_int (fun _ _ => rfl))) (pax_c (PEx.mk (D__law_item_size.pe hr (by decide) rfl passE0 (pa_c (pv 13) pa_nil))) pax_nil rfl) rfl)) rfl rfl))))))) (fun _ => rfl))
      (psx_one (psy_ret (PEx.mk pe_bl)))))))))), ?_⟩
    refine ⟨rfl, fun t r H1 ht hr1 T1 S1 => ?_⟩
    have B1 : Bag K H1 a t r ns 0 := ⟨.inl (.inr ⟨oa, S1 _ _ hsc⟩), ⟨[], T1⟩, (fun z => by rw [← z, hsc] at ht; cases ht), (fun z => by rw [← z, hsc] at hr1; cases hr1), hln⟩
    dsimp only [gName, tAsg, tSeq, tNext]
    refine par_cc ⟨_, rfl, _, rfl, a, t, r, ns, 0, 2, rfl, by decide, by decide, B1, by decide, fun v H2 its c2 _ _ _ DI G => ?_⟩
    refine ⟨_, _, rfl, ?_⟩
    have bd := good_bd 2 its G
    have hcn : cnL its ≤ 84 := bd.cn
    have hwt : wtL its ≤ 628 := bd.wt
    have hdp : dpL its ≤ 2 := bd.dp
    have hbd : LyBd its := ⟨by omega, bd.ok⟩
    have R := good_run 2 its G
    dsimp only
    refine ⟨_, rfl, v, its, rfl, DI, by omega, by omega, bd.ok, fun q xs H3 S3 _ g3 t3 => ⟨q, rfl, ⟨_, .inl (.inl g3)⟩, ?_⟩⟩
    have DI3 := DI.same S3
    have l3 := t3.length
    rw [List.length_map] at l3
    have lpq : (plL its).length = (pqL its).length := by unfold plL; rw [List.length_map]
    refine for_fix (fixL (K := K) (a := q) (xs := xs)) (fun i σ H4 => ∃ (y4 y5 y6 y7 : Option V), σ = [some (.ref a), some (.ref t), some v, some (.int (offs ((pqL its).take i) : Nat)), y4, y5, y6, y7, none, none, none, none, none, none, none, none, none] ∧ Same H3 H4) ⟨none, none, none, none, rfl, Same.refl _⟩ ?_ ?_ ?_
    · rintro i σ H4 _ ⟨y4, y5, y6, y7, rfl, S4⟩
      exact .inl (.inl (S4 _ _ g3))
    · rintro i pv σ H40 H4 hi ⟨y4, y5, y6, y7, rfl, S4⟩ ⟨rfl, hpv⟩
      obtain ⟨pd, hpd, Dp⟩ := t3.getX hpv
      have Dp4 := Dp.same S4
      unfold plL at hpd
      rw [List.map_map, List.getElem?_map] at hpd
      cases ep : (pqL its)[i]? with
      | none => rw [ep] at hpd; cases hpd
      | some pp =>
        rw [ep] at hpd
        obtain rfl : pathD pp.1 = pd := Option.some.inj hpd
        obtain ⟨nm, hres⟩ := R.at ep
        rw [Nat.zero_add] at hres
        have hmem : pp.1 ∈ plL its := by unfold plL; exact List.mem_map.mpr ⟨pp, List.mem_of_getElem? ep, rfl⟩
        have hlp := plL_deep hmem
        have hbx := pl_bx 2 its G [] pp.1 hmem
        rw [List.nil_append] at hbx
        rw [offs_step ep]
        dsimp only [gName, tAsg, tSeq, tNext]
        refine ⟨_, rfl, _, rfl, v, pv, its, pp.1, _, .box nm pp.2, rfl, DI3.same S4, Dp4, hbd, hres, by omega, fun u H5 S5 D5 => ?_⟩
        obtain ⟨qw, zw, rfl, gw, Dz⟩ := where_parts D5
        obtain rfl := Deep.str' (show Deep H5 zw (.str (picS pp.2)) from Dz)
        refine ⟨qw, _, rfl, .inl (.inl gw), rfl, _, _, rfl, _, _, rfl, _, _, rfl, rfl, ?_⟩
        dsimp only [gName, tAsg, tSeq, tNext]
        refine ⟨_, rfl, _, rfl, rfl, false, by simp, iteF ?_⟩
        obtain ⟨pa, pl, px, ep2, hp2, es⟩ := pic_size pp.2
        refine ⟨_, rfl, _, rfl, pa, pl, px, (by rw [ep2]; rfl), hp2, fun H6 S6 => ?_⟩
        rw [es]
        refine ⟨rfl, false, by simp [wideOf], iteF ?_⟩
        have S46 := S5.trans S6
        refine ⟨_, rfl, _, rfl, v, its, rfl, (DI3.same S4).same S46, by omega, bd.ok, fun u H7 S7 D7 => ?_⟩
        obtain ⟨qb, xb, rfl, gb, tb⟩ := Deep.tup' D7
        have S47 := S46.trans S7
        refine ⟨pathD pp.1, _, qb, xb, Dp4.same S47, rfl, gb, tb, fun e he => ?_, false, ?_, iteF ?_⟩
        · obtain ⟨ss, _, rfl⟩ := List.mem_map.mp he
          exact depth_path ss
        · rw [any_path hbx]; rfl
        refine ⟨_, rfl, _, rfl, _, _, rfl, rfl, ?_⟩
        refine ⟨some pv, some (.int (offs ((pqL its).take i) : Nat)), some (.int (szP pp.2 : Nat)), some (.str (picS pp.2)), ?_, S4.trans S47⟩
        have e : ((offs ((pqL its).take i) : Nat) : Int) + ((wideOf (.box nm pp.2) : Nat) : Int) = ((offs ((pqL its).take i) + szP pp.2 : Nat) : Int) := by push_cast; rfl
        rw [← e]
        rfl
    · rintro σ H4 ⟨y4, y5, y6, y7, rfl, S4⟩
      have et : offs ((pqL its).take xs.length) = szL its := by
        rw [l3, lpq, List.take_length]
        have := R.end_
        omega
      rw [et]
      have DI4 := DI3.same S4
      dsimp only [gName, tAsg, tSeq, tNext]
      refine ⟨_, rfl, _, rfl, v, its, rfl, DI4, by omega, bd.ok, fun H5 S5 => ⟨rfl, false, by simp, iteF ?_⟩⟩
      have DI5 := DI4.same S5
      refine ⟨_, rfl, v, its, rfl, DI5, by omega, bd.ok, fun u H6 S6 D6 => ?_⟩
      obtain ⟨qb, xb, rfl, gb, tb⟩ := Deep.tup' D6
      have DI6 := DI5.same S6
      have lxb := tb.length
      rw [List.length_map] at lxb
      refine ⟨qb, rfl, ⟨_, .inl (.inl gb)⟩, ?_⟩
      refine for_fix (fixT (K := K) (a := qb) (xs := xb)) (fun i σ H7 => ∃ (y3 y4 y5 y6 y7 y8 y9 y10 y11 : Option V), σ = [some (.ref a), some (.ref t), some v, y3, y4, y5, y6, y7, y8, y9, y10, y11, none, none, none, none, none] ∧ Same H6 H7) ⟨_, _, _, _, _, none, none, none, none, rfl, Same.refl _⟩ ?_ ?_ ?_
      · rintro i σ H7 _ ⟨y3, y4, y5, y6, y7, y8, y9, y10, y11, rfl, S7⟩
        exact .inl (.inl (S7 _ _ gb))
      · rintro i pv σ H70 H7 hi ⟨y3, y4, y5, y6, y7, y8, y9, y10, y11, rfl, S7⟩ ⟨rfl, hpv⟩
        obtain ⟨pd, hpd, Dp⟩ := tb.getX hpv
        have Dp7 := Dp.same S7
        rw [List.getElem?_map] at hpd
        cases ep : (bxL its [])[i]? with
        | none => rw [ep] at hpd; cases hpd
        | some ss =>
          rw [ep] at hpd
          obtain rfl : pathD ss = pd := Option.some.inj hpd
          obtain ⟨ss', n, nm, p, e, L, hls⟩ := bx_lead 2 its G [] ss (List.mem_of_getElem? ep)
          obtain rfl : ss = ss' := e
          dsimp only [gName, tAsg, tSeq, tNext]
          refine ⟨_, rfl, _, rfl, v, pv, its, ss, n, .box nm p, rfl, DI6.same S7, Dp7, hbd, L.r, by omega, fun u H8 S8 D8 => ?_⟩
          obtain ⟨qw, zw, rfl, gw, Dz⟩ := where_parts D8
          refine ⟨qw, _, rfl, .inl (.inl gw), rfl, _, _, rfl, _, _, rfl, _, _, rfl, rfl, ?_⟩
          try dsimp only [gName, tAsg, tSeq, tNext]
          have Dp8 := Dp7.same S8
          have DI8 := (DI6.same S7).same S8
          obtain ⟨pa, px, rfl, gp, tp⟩ := Deep.tup' (show Deep H8 pv (.tup (ss.map stepD)) from Dp8)
          have lpx := tp.length
          rw [List.length_map] at lpx
          refine ⟨_, rfl, pa, _, rfl, .inr (.inl (.inl gp)), 1, (px.length : Nat), rfl, ⟨by omega, by omega, by omega, by omega⟩, ?_⟩
          refine for_fix (fixR (lo := 1) (n := (((px.length : Nat) : Int) - 1).toNat)) (fun j σ H9 => ∃ (y3 y8 y9 y10 y11 : Option V), σ = [some (.ref a), some (.ref t), some v, y3, some (.ref pa), some (.int (n : Nat)), some (.int (szP p : Nat)), some zw, y8, y9, y10, y11, none, none, none, none, none] ∧ Same H8 H9) ⟨_, _, _, _, _, rfl, Same.refl _⟩ ?_ ?_ ?_
          · intro j σ H9 _ _
            trivial
          · rintro j jv σ H90 H9 hj ⟨y3, y8, y9, y10, y11, rfl, S9⟩ ⟨rfl, rfl⟩
            have e1 : (1 : Int) + ((j : Nat) : Int) = ((j + 1 : Nat) : Int) := by omega
            rw [e1]
            dsimp only [gName, tAsg, tSeq, tNext]
            obtain ⟨m, z, hr2, hz2, h1, h2⟩ := L.w (j + 1) (by omega) (by omega)
            refine ⟨_, rfl, _, rfl, _, rfl, _, rfl, ?_⟩
            refine rSlR.deep0 (hi := j + 1) (ds := ss.map stepD) (Dp8.same S9) fun v10 H10 S10 D10 => ?_
            rw [← List.map_take] at D10
            refine ⟨v, v10, its, ss.take (j + 1), m, z, rfl, (DI8.same S9).same S10, D10, hbd, hr2, by rw [List.length_take]; omega, fun u H11 S11 D11 => ?_⟩
            obtain ⟨qw2, zw2, rfl, gw2, Dz2⟩ := where_parts D11
            rw [hz2] at Dz2
            obtain rfl : zw2 = .non := by cases Dz2; rfl
            refine ⟨qw2, _, rfl, .inl (.inl gw2), rfl, _, _, rfl, _, _, rfl, _, _, rfl, rfl, ?_⟩
            refine ⟨_, rfl, false, rfl, iteF ?_⟩
            refine ⟨_, rfl, _, rfl, _, _, rfl, rfl, true, ?_, iteT ?_⟩
            · exact congrArg V.bl (decide_eq_true (by omega))
            refine ⟨_, rfl, _, rfl, _, _, rfl, rfl, _, _, rfl, rfl, true, ?_, iteT ?_⟩
            · exact congrArg V.bl (decide_eq_true (by omega))
            refine ⟨_, rfl, _, rfl, _, _, rfl, rfl, _, _, rfl, rfl, true, ?_, iteF ?_⟩
            · exact congrArg V.bl (decide_eq_true (by omega))
            exact ⟨_, _, _, _, _, rfl, (S9.trans S10).trans S11⟩
          · rintro σ H9 ⟨y3, y8, y9, y10, y11, rfl, S9⟩
            exact ⟨_, _, _, _, _, _, _, _, _, rfl, (S7.trans S8).trans S9⟩
      · rintro σ H7 ⟨y3, y4, y5, y6, y7, y8, y9, y10, y11, rfl, S7⟩
        have DI7 := DI6.same S7
        dsimp only [gName, tAsg, tSeq, tNext]
        obtain ⟨ia, ix, rfl, gi, ti⟩ := Deep.tup' DI7
        have ti2 := ti
        rw [dvL_map] at ti2
        have lix := ti2.length
        rw [List.length_map] at lix
        obtain ⟨_, hp, hgx⟩ := (good_iff 2 its).mp G
        refine ⟨_, rfl, ia, rfl, ⟨_, .inl (.inl gi)⟩, ?_⟩
        refine for_fix (fixT (K := K) (a := ia) (xs := ix)) (fun i σ H8 => ∃ (y3 y4 y5 y6 y7 y8 y9 y10 y11 : Option V) (w12 : V) (y13 y14 y15 y16 : Option V), σ = [some (.ref a), some (.ref t), some (.ref ia), y3, y4, y5, y6, y7, y8, y9, y10, y11, some w12, y13, y14, y15, y16] ∧ Same H7 H8 ∧ UnSt H8 its i w12) ⟨_, _, _, _, _, _, _, _, _, .non, none, none, none, none, rfl, Same.refl _, .inl rfl⟩ ?_ ?_ ?_
        · rintro i σ H8 _ ⟨y3, y4, y5, y6, y7, y8, y9, y10, y11, w12, y13, y14, y15, y16, rfl, S8, _⟩
          exact .inl (.inl (S8 _ _ gi))
        · rintro i x σ H80 H8 hi ⟨y3, y4, y5, y6, y7, y8, y9, y10, y11, w12, y13, y14, y15, y16, rfl, S8, U⟩ ⟨rfl, hx⟩
          obtain ⟨d0, hd0, Dx⟩ := ti2.getX hx
          rw [List.getElem?_map] at hd0
          cases eo : its[i]? with
          | none => rw [eo] at hd0; cases hd0
          | some oy =>
            rw [eo] at hd0
            obtain rfl := Option.some.inj hd0
            obtain ⟨o, y⟩ := oy
            have Dx8 := Dx.same S8
            have hres := top_res G eo
            have hgy := hgx (o, y) (List.mem_of_getElem? eo)
            obtain ⟨b1, b2, b3, b4⟩ := goodY_bd 2 (Nat.le_refl _) (show GoodY 2 y from hgy)
            have eg : its.getD i dfI = (o, y) := by rw [List.getD_eq_getElem?_getD, eo]; rfl
            dsimp only [gName, tAsg, tNext]
            refine seqJ2 (fun σ' H9 => σ' = [some (.ref a), some (.ref t), some (.ref ia), y3, y4, y5, y6, y7, y8, y9, y10, y11, some w12, some x, some (.str y.name), some (.str y.word), y16] ∧ H9 = H8) ?_ (fun rest => ?_)
            rotate_left
            · cases o with
              | true =>
                obtain ⟨xa, x2, rfl, g, D2⟩ := over_at Dx8
                obtain ⟨xb, xs2, rfl, g2⟩ := ly_at D2
                refine ⟨_, rfl, xa, _, 0, _, rfl, rfl, .inl g, rfl, rfl, true, rfl, iteT ?_⟩
                refine ⟨_, rfl, xa, _, 1, _, rfl, rfl, .inl g, rfl, xb, _, 1, _, rfl, rfl, .inl g2, atI_nat (j := 1) rfl, ?_⟩
                refine ⟨_, rfl, xa, _, 0, _, rfl, rfl, .inl g, rfl, rfl, true, rfl, iteT ?_⟩
                refine ⟨_, rfl, xa, _, 1, _, rfl, rfl, .inl g, rfl, xb, _, 0, _, rfl, rfl, .inl g2, atI_nat (j := 0) rfl, ?_⟩
                exact rest _ _ ⟨rfl, rfl⟩
              | false =>
                rw [dvI, if_neg (by decide)] at Dx8
                obtain ⟨xa, xs2, rfl, g⟩ := ly_at Dx8
                refine ⟨_, rfl, xa, _, 0, _, rfl, rfl, .inl g, atI_nat (j := 0) rfl, rfl, false, by rw [word_over], iteF ?_⟩
                refine ⟨_, rfl, xa, _, 1, _, rfl, rfl, .inl g, atI_nat (j := 1) rfl, ?_⟩
                refine ⟨_, rfl, xa, _, 0, _, rfl, rfl, .inl g, atI_nat (j := 0) rfl, rfl, false, by rw [word_over], iteF ?_⟩
                refine ⟨_, rfl, xa, _, 0, _, rfl, rfl, .inl g, atI_nat (j := 0) rfl, ?_⟩
                exact rest _ _ ⟨rfl, rfl⟩
            rintro σ9 H9 ⟨rfl, rfl⟩
            refine where_top (y := y) rfl rfl rfl ((Deep.tup gi ti).same S8) hbd hres fun qh z H10 S10 gh => ?_
            have S810 := S8.trans S10
            have Dx10 := Dx.same S810
            cases o with
            | true =>
              obtain ⟨xa, x2, rfl, g, D2⟩ := over_at Dx10
              refine ⟨_, rfl, xa, _, 0, _, rfl, rfl, .inl g, rfl, rfl, true, rfl, iteT ?_⟩
              obtain ⟨j, qu, rfl, rfl, gu⟩ : ∃ j qu, i = j + 1 ∧ w12 = .ref qu ∧ H9 qu = some (.tup [.int (szL (its.take (under its j)) : Nat), .int ((its.getD (under its j) dfI).2.sz : Nat)]) := by
                rcases U with rfl | U
                · exact absurd (show true = false from hp.first _ eo) (by decide)
                · exact U
              have eu : under its (j + 1) = under its j := by rw [under, eg, if_pos rfl]
              have hov := hp.ov _ _ eo
              rw [eu] at gh hov
              have gu10 := S10 _ _ gu
              refine ⟨_, rfl, qh, _, 0, _, rfl, rfl, .inl gh, rfl, _, rfl, qu, _, 0, _, rfl, rfl, .inl gu10, rfl, rfl, false, by simp, iteF ?_⟩
              refine ⟨_, rfl, xa, _, 1, _, rfl, rfl, .inl g, rfl, x2, (false, y), rfl, by rw [dvI, if_neg (by decide)]; exact D2, by show y.dp < 3; omega, by show y.cn ≤ 10000; omega, b3, fun H11 S11 => ?_⟩
              rw [show szI (false, y) = y.sz by rw [szI, if_neg (by decide)]]
              refine ⟨_, rfl, qu, _, 1, _, rfl, rfl, .inl (S11 _ _ gu10), rfl, _, _, rfl, rfl, false, ?_, iteF ?_⟩
              · exact congrArg V.bl (decide_eq_false (by omega))
              refine ⟨_, _, _, _, _, _, _, _, _, _, _, _, _, _, rfl, S810.trans S11, .inr ⟨j + 1, qu, rfl, rfl, ?_⟩⟩
              rw [eu]
              exact S11 _ _ gu10
            | false =>
              rw [dvI, if_neg (by decide)] at Dx10
              obtain ⟨xa, xs2, rfl, g⟩ := ly_at Dx10
              refine ⟨_, rfl, xa, _, 0, _, rfl, rfl, .inl g, atI_nat (j := 0) rfl, rfl, false, by rw [word_over], iteF ?_⟩
              have eu : under its i = i := by rw [under_step, eg]; rfl
              refine ⟨_, rfl, qh, _, 0, _, rfl, rfl, .inl gh, rfl, _, rfl, .ref xa, (false, y), rfl, by rw [dvI, if_neg (by decide)]; exact Dx10, by show y.dp < 3; omega, by show y.cn ≤ 10000; omega, b3, fun H11 S11 => ⟨by show 2 ≤ sizeLine; omega, fun p12 hp12 => ?_⟩⟩
              rw [show szI (false, y) = y.sz by rw [szI, if_neg (by decide)]]
              refine ⟨_, _, _, _, _, _, _, _, _, _, _, _, _, _, rfl, (S810.trans S11).trans (Same.new hp12), .inr ⟨i, p12, rfl, rfl, ?_⟩⟩
              rw [upd_same, eu, eg]
        · rintro σ H8 ⟨y3, y4, y5, y6, y7, y8, y9, y10, y11, w12, y13, y14, y15, y16, rfl, S8, _⟩
          exact k _
end
end Lw

set_option Elab.async false
set_option linter.all false
set_option maxRecDepth 100000
/-! a loop over a dict's keys: the dict is known to its object while the loop walks it -/
namespace L2
open PySem PySem.Spec PyProof.Rows
section
variable {X : Cx} {pins : List (Addr × Obj)} {σ : List (Option V)} {H : Hp} {s : Shared}
end
section
variable {X : Cx} {tg : Expr}
end
end L2

set_option Elab.async false
set_option linter.all false
set_option maxRecDepth 100000
/-! a law without lambdas -/
namespace L2
open PySem PySem.Spec PyProof.Rows
theorem frz_of {K : PySem.W.Frag} {H : Hp} {a : Addr} {xs : List V} (nL : noLists K = true) (hO : Only H) (h : SqL K H a xs) : ∃ o, H a = some (.frz o (.lst xs)) := by
  rcases h with h | ⟨o, its, n, hk, hc, _⟩
  · rcases h with h | ⟨o, h⟩
    · rcases hO a with z | ⟨o, ys, z⟩
      · rw [z] at h; cases h
      · rw [z] at h; cases h
    · exact ⟨o, h⟩
  · exact absurd hc (noLists_at nL hk)
theorem walk_ofN {l : PySem.W.OpenLaw} {n k : Nat} {q : Program} {loose : List Str} {XP : (Str → Option Value) → Heap → Prop} {YP : World → Heap → Prop} {d : DefRec} {K : Params → PySem.W.Frag} {CX : World → CXT} {sp : World → Sp} {x : Str}
    (hn : l.most = some n) (hn2 : n ≤ sizeLine) (hdf : d.params.defaults = []) (hr : Room k callerA) (hY : ∀ (w : World) (h : Heap), YP w h → (K w.params).In h) (nL : ∀ w : World, noLists (K w.params) = true)
    (F : ∀ (w : World) (mg : Str → Option Value) (fa : Addr) (h : Heap), (K w.params).In h → h.Ns mainGlobals mg → mg d.name = some (.ref fa) →
      ∃ fd : FuncData, (∀ (s : Shared) (u : Value), BindsTo s fd ⟨[u], []⟩ [(x, u)]) ∧ ∀ base : Heap, (K w.params).In base → base.Ns mainGlobals mg → FnOk l.prog w (K w.params) mg base (CX w) k fa fd [x] (sp w))
    (hsp : ∀ (w : World) (H : Hp) (a : Addr) (ns : List Int), ns.length ≤ n → (∃ o, H a = some (.frz o (.lst (ns.map V.int)))) → sp w [.ref a] H (fun v _ => v = .bl true) fun _ _ _ => False)
    (hCX : ∀ (w : World) (H : Hp) (s : Shared) (e : Value) (s' : Shared), CX w [] H s (fun _ _ _ => False) e s' → False) : PySem.W.WalkO q loose XP YP l.row.toRowW d [] (fun f vs => PySem.call f vs) :=
  walk_of hn hn2 hdf hr hY F (fun w H a ns h1 h2 h3 => hsp w H a ns h1 (frz_of (nL w) h2 h3)) hCX
end L2

set_option Elab.async false
set_option linter.all false
namespace L2
open PySem PySem.Spec PyProof.Rows
/-! defs of so many parameters, each given -/
section
variable {P : Program} {w : World} {K : PySem.W.Frag} {mg : Str → Option Value} {base h : Heap} {x : Str} {st : Stmt} {k : Nat} {sp : Sp} {p1 p2 p3 p4 : Str}
theorem DefAt.d0 (D : DefAt K x st) (X : K.In h) (G : h.Ns mainGlobals mg) (hok : ∀ f fd, Fun K x x st f fd → FnOk P w K mg base (CXE P w) k f fd [] sp)
    (hb : ∀ (kV doc pm : Value) (an : Option Addr) (cdv ct : Value) , bindArgs (PySem.W.fnOf x x (defArgs st) (defBody st) (defScope st) .none kV doc pm an cdv ct) ⟨[], []⟩ = pure []) : Def P w K mg base k x [] sp :=
  D.def X G hok fun kV doc pm an cdv ct us hl => match us, hl with | [], _ => hb kV doc pm an cdv ct 
theorem DefAt.d1 (D : DefAt K x st) (X : K.In h) (G : h.Ns mainGlobals mg) (hok : ∀ f fd, Fun K x x st f fd → FnOk P w K mg base (CXE P w) k f fd [p1] sp)
    (hb : ∀ (kV doc pm : Value) (an : Option Addr) (cdv ct : Value) (u1 : Value), bindArgs (PySem.W.fnOf x x (defArgs st) (defBody st) (defScope st) .none kV doc pm an cdv ct) ⟨[u1], []⟩ = pure [(p1, u1)]) : Def P w K mg base k x [p1] sp :=
  D.def X G hok fun kV doc pm an cdv ct us hl => match us, hl with | [u1], _ => hb kV doc pm an cdv ct u1
theorem DefAt.d2 (D : DefAt K x st) (X : K.In h) (G : h.Ns mainGlobals mg) (hok : ∀ f fd, Fun K x x st f fd → FnOk P w K mg base (CXE P w) k f fd [p1, p2] sp)
    (hb : ∀ (kV doc pm : Value) (an : Option Addr) (cdv ct : Value) (u1 u2 : Value), bindArgs (PySem.W.fnOf x x (defArgs st) (defBody st) (defScope st) .none kV doc pm an cdv ct) ⟨[u1, u2], []⟩ = pure [(p1, u1), (p2, u2)]) : Def P w K mg base k x [p1, p2] sp :=
  D.def X G hok fun kV doc pm an cdv ct us hl => match us, hl with | [u1, u2], _ => hb kV doc pm an cdv ct u1 u2
theorem DefAt.d3 (D : DefAt K x st) (X : K.In h) (G : h.Ns mainGlobals mg) (hok : ∀ f fd, Fun K x x st f fd → FnOk P w K mg base (CXE P w) k f fd [p1, p2, p3] sp)
    (hb : ∀ (kV doc pm : Value) (an : Option Addr) (cdv ct : Value) (u1 u2 u3 : Value), bindArgs (PySem.W.fnOf x x (defArgs st) (defBody st) (defScope st) .none kV doc pm an cdv ct) ⟨[u1, u2, u3], []⟩ = pure [(p1, u1), (p2, u2), (p3, u3)]) : Def P w K mg base k x [p1, p2, p3] sp :=
  D.def X G hok fun kV doc pm an cdv ct us hl => match us, hl with | [u1, u2, u3], _ => hb kV doc pm an cdv ct u1 u2 u3
end
end L2

set_option Elab.async false
set_option linter.all false
set_option maxRecDepth 100000
namespace L2
open PySem PySem.Spec PyProof.Rows
theorem sqT_mk {K : PySem.W.Frag} {a : Addr} {xs : List V} {its : Array Value} {n : Nat} {od : Option Addr} {osl : Array (Option Value)} (l : K.lookup a = some ⟨.type "tuple", od, .seq its n, osl⟩) (z : its.size ≤ sizeLine) (v : Vals xs its.toList) (H : Hp) : SqT K H a xs := .inr ⟨_, its, n, l, rfl, rfl, z, v⟩
theorem kdict2_mk {P : Program} {w : World} {K : PySem.W.Frag} {a : Addr} {h1 h2 : Int} {x1 x2 y1 y2 : Str} {t1 t2 u1 u2 : Tok} {n : Nat} (ne : (a == sysModules) = false) (l : K.lookup a = some ⟨.type "dict", none, .dict #[⟨h1, .str x1 t1, .str y1 u1⟩, ⟨h2, .str x2 t2, .str y2 u2⟩] n, #[]⟩)
    (e1 : h1 = keyH w (.inr x1)) (e2 : h2 = keyH w (.inr x2)) (hx : x1 ≠ x2) : KDict P w K a [(Sum.inr x1, .str y1), (Sum.inr x2, .str y2)] := by
  refine ⟨ne, fun h KX => ⟨[(Sum.inr x1, .str y1 u1), (Sum.inr x2, .str y2 u2)], .cons ⟨rfl, _, rfl⟩ (.cons ⟨rfl, _, rfl⟩ .nil), _, _, _, KX a _ l, ⟨rfl, rfl, rfl⟩, rfl, fun e he => ?_, .cons (mixKind_str P w x1 t1) rfl (.cons (mixKind_str P w x2 t2) rfl .nil), ?_⟩⟩
  · have he : e = ⟨h1, .str x1 t1, .str y1 u1⟩ ∨ e = ⟨h2, .str x2 t2, .str y2 u2⟩ := by simpa using he
    rcases he with rfl | rfl
    · exact ⟨_, mixKind_str P w x1 t1, e1⟩
    · exact ⟨_, mixKind_str P w x2 t2, e2⟩
  · have hk : ¬ (Sum.inr x1 : Key) = Sum.inr x2 := fun q => hx (Sum.inr.inj q)
    simp [hk]
end L2
namespace Lw
open PySem PySem.Spec PyProof.Rows L2 K02 K04
set_option maxHeartbeats 8000000 in
theorem all_mk {l : PySem.W.OpenLaw} {w : World} {K : PySem.W.Frag} {h : Heap} {mg : Str → Option Value} {ca : Value} {fa fl R0 R1 R2 C0 C1 C8 : Addr} {t0 t1 t2 t3 t4 t5 t6 t7 : Tok} {oc kV doc pm ct : Value} {od an : Option Addr} {osl : Array (Option Value)} (X : K.In h) (G : h.Ns mainGlobals mg) (hfa : mg "law" = some (.ref fa))
    (d_ten_to : DefAt K "ten_to" s_ten_to)
    (d_is_figures : DefAt K "is_figures" s_is_figures)
    (d_number_of : DefAt K "number_of" s_number_of)
    (d_times_at : DefAt K "times_at" s_times_at)
    (d_rows_of : DefAt K "rows_of" s_rows_of)
    (d_floats_at : DefAt K "floats_at" s_floats_at)
    (d_places_of : DefAt K "places_of" s_places_of)
    (d_whole_part : DefAt K "whole_part" s_whole_part)
    (d_broken_part : DefAt K "broken_part" s_broken_part)
    (d_lead_of : DefAt K "lead_of" s_lead_of)
    (d_tail_of : DefAt K "tail_of" s_tail_of)
    (d_number_facts : DefAt K "number_facts" s_number_facts)
    (d_plain_facts : DefAt K "plain_facts" s_plain_facts)
    (d_body_of : DefAt K "body_of" s_body_of)
    (d_edited_facts : DefAt K "edited_facts" s_edited_facts)
    (d_facts_of : DefAt K "facts_of" s_facts_of)
    (d_understood : DefAt K "understood" s_understood)
    (d_size_of : DefAt K "size_of" s_size_of)
    (d_bare : DefAt K "bare" s_bare)
    (d_signs_in : DefAt K "signs_in" s_signs_in)
    (d_is_whole : DefAt K "is_whole" s_is_whole)
    (d_step_parts : DefAt K "step_parts" s_step_parts)
    (d_last_first : DefAt K "last_first" s_last_first)
    (d_ahead_in_table : DefAt K "ahead_in_table" s_ahead_in_table)
    (d_item_at : DefAt K "item_at" s_item_at)
    (d_found : DefAt K "found" s_found)
    (d_where : DefAt K "where" s_where)
    (d_paths_of_boxes : DefAt K "paths_of_boxes" s_paths_of_boxes)
    (d_boxes : DefAt K "boxes" s_boxes)
    (d__law_draw : DefAt K "_law_draw" s__law_draw)
    (d__law_begun : DefAt K "_law_begun" s__law_begun)
    (d__law_item_size : DefAt K "_law_item_size" s__law_item_size)
    (d__law_a_layout : DefAt K "_law_a_layout" s__law_a_layout)
    (d__law_plain : DefAt K "_law_plain" s__law_plain)
    (k_0 : PySem.W.nsIn K mainGlobals "BoxError" = some (some (.ref C0)))
    (k_1 : PySem.W.nsIn K mainGlobals "NoPicture" = some (some (.ref C1)))
    (k_8 : PySem.W.nsIn K mainGlobals "NoPath" = some (some (.ref C8)))
    (m_FIGURES : PySem.W.nsIn K mainGlobals "FIGURES" = some (some (.str "0123456789" t0)))
    (m_INSERTED : PySem.W.nsIn K mainGlobals "INSERTED" = some (some (.str ",B0/" t2)))
    (m_SIGNS : PySem.W.nsIn K mainGlobals "SIGNS" = some (some (.str "+-" t3)))
    (m_FLOATING : PySem.W.nsIn K mainGlobals "FLOATING" = some (some (.str "+-$" t4)))
    (m_PLACES : PySem.W.nsIn K mainGlobals "PLACES" = some (some (.str "9Z*+-$" t5)))
    (m_PART : PySem.W.nsIn K mainGlobals "PART" = some (some (.int 18 t1)))
    (m_MOST_FIGURES : PySem.W.nsIn K mainGlobals "MOST_FIGURES" = some (some (.int 18 t6)))
    (m_MOST_SIGNS : PySem.W.nsIn K mainGlobals "MOST_SIGNS" = some (some (.int 60 t7)))
    (m_NUMBER_FORMS : PySem.W.nsIn K mainGlobals "NUMBER_FORMS" = some (some (.ref R0)))
    (m_SHOWN : PySem.W.nsIn K mainGlobals "SHOWN" = some (some (.ref R1)))
    (m_PLAIN_KINDS : PySem.W.nsIn K mainGlobals "PLAIN_KINDS" = some (some (.ref R2)))
    (q_NUMBER_FORMS : ∀ H, SqT K H R0 [.str "9", .str "S9", .str "V9", .str "SV9", .str "9V9", .str "S9V9"])
    (q_SHOWN : ∀ H, SqT K H R1 [.str "+", .str "-", .str "CR", .str "DB"])
    (kd : KDict l.prog w K R2 kinds2)
    (z2_tuple : PySem.W.nsIn K mainGlobals "tuple" = some none)
    (z2_enumerate : PySem.W.nsIn K mainGlobals "enumerate" = some none)
    (t_str_tuple : PySem.W.kitOne K (.type "str") (.type "tuple") = some false)
    (t_tuple_tuple : PySem.W.kitOne K (.type "tuple") (.type "tuple") = some true)
    (t_int_int : PySem.W.kitOne K (.type "int") (.type "int") = some true)
    (t_int_bool : PySem.W.kitOne K (.type "int") (.type "bool") = some false)
    (t_str : PySem.W.kitOne K (.type "str") (.type "str") = some true)
    (t_int : PySem.W.kitOne K (.type "int") (.type "str") = some false)
    (t_NoneType : PySem.W.kitOne K (.type "NoneType") (.type "str") = some false)
    (t_tuple : PySem.W.kitOne K (.type "tuple") (.type "str") = some false)
    (z_len : PySem.W.nsIn K mainGlobals "len" = some none)
    (z_range : PySem.W.nsIn K mainGlobals "range" = some none)
    (z_abs : PySem.W.nsIn K mainGlobals "abs" = some none)
    (z_max : PySem.W.nsIn K mainGlobals "max" = some none)
    (z_int : PySem.W.nsIn K mainGlobals "int" = some none)
    (z_isi : PySem.W.nsIn K mainGlobals "isinstance" = some none)
    (z_bool : PySem.W.nsIn K mainGlobals "bool" = some none)
    (z_val : PySem.W.nsIn K mainGlobals "ValueError" = some none)
    (z_reversed : PySem.W.nsIn K mainGlobals "reversed" = some none)
    (z_divmod : PySem.W.nsIn K mainGlobals "divmod" = some none)
    (z_str : PySem.W.nsIn K mainGlobals "str" = some none)
    (z_sum : PySem.W.nsIn K mainGlobals "sum" = some none)
    (x1_ex : PySem.W.excIn K C1 [.type "ValueError", .type "Exception", .type "BaseException", .type "object"] "ValueError.__new__" = true)
    (x8_ex : PySem.W.excIn K C8 [.type "ValueError", .type "Exception", .type "BaseException", .type "object"] "ValueError.__new__" = true)
    (a_law : PySem.W.nsIn K mainGlobals "law" = some (some (.ref fl)))
    (l_law : K.lookup fl = some ⟨oc, od, .func (PySem.W.fnOf "law" "law" (defArgs s_law) (defBody s_law) (defScope s_law) .none kV doc pm an ca ct), osl⟩)
    (c_law : PySem.W.codeIn K ca "law" = true)
    : ∃ fd : FuncData, (∀ (s : Shared) (v : Value), BindsTo s fd ⟨[v], []⟩ [("_law_script", v)]) ∧ ∀ base : Heap, K.In base → base.Ns mainGlobals mg → FnOk l.prog w K mg base (CXE l.prog w) 13 fa fd ["_law_script"] spLaw := by
  have e := hfa.symm.trans (PySem.W.mg_of X G a_law)
  cases e
  have O : Own mg := ⟨PySem.W.mg_none_of X G z_len, PySem.W.mg_none_of X G z_range, PySem.W.mg_none_of X G z_abs, PySem.W.mg_none_of X G z_max, PySem.W.mg_none_of X G z_int, PySem.W.mg_none_of X G z_isi, PySem.W.mg_none_of X G z_bool, PySem.W.mg_none_of X G z_val, PySem.W.mg_none_of X G z_reversed, PySem.W.mg_none_of X G z_divmod, PySem.W.mg_none_of X G z_str, PySem.W.mg_none_of X G z_sum⟩
  have T : Txt K mg (fun i => ([t0, t1, t2, t3, t4, t5, t6, t7] : List Tok).getD i 0) (fun i => ([C0, C1, 0, 0, 0, 0, 0, 0, C8, 0, 0, 0, 0, 0, 0] : List Addr).getD i 0) (fun i => ([R0, R1, R2] : List Addr).getD i 0) := ⟨PySem.W.mg_of X G k_0, PySem.W.mg_of X G k_1, PySem.W.mg_of X G k_8, PySem.W.mg_of X G m_FIGURES, PySem.W.mg_of X G m_PART, PySem.W.mg_of X G m_INSERTED, PySem.W.mg_of X G m_SIGNS, PySem.W.mg_of X G m_FLOATING, PySem.W.mg_of X G m_PLACES, PySem.W.mg_of X G m_MOST_FIGURES, PySem.W.mg_of X G m_MOST_SIGNS, PySem.W.mg_of X G m_NUMBER_FORMS, PySem.W.mg_of X G m_SHOWN, PySem.W.mg_of X G m_PLAIN_KINDS, q_NUMBER_FORMS, q_SHOWN, ⟨x1_ex⟩, ⟨x8_ex⟩, t_str, t_int, t_NoneType, t_tuple⟩
  have KD : KDict l.prog w K ((fun i => ([R0, R1, R2] : List Addr).getD i 0) 2) kinds2 := kd
  have OT : mg "tuple" = none := PySem.W.mg_none_of X G z2_tuple
  have OE : mg "enumerate" = none := PySem.W.mg_none_of X G z2_enumerate
  generalize (fun i => ([C0, C1, 0, 0, 0, 0, 0, 0, C8, 0, 0, 0, 0, 0, 0] : List Addr).getD i 0) = c at  T
  generalize (fun i => ([R0, R1, R2] : List Addr).getD i 0) = kr at T KD 
  generalize (fun i => ([t0, t1, t2, t3, t4, t5, t6, t7] : List Tok).getD i 0) = tk at T
  refine ⟨PySem.W.fnOf "law" "law" (defArgs s_law) (defBody s_law) (defScope s_law) .none kV doc pm an ca ct, fun s v => .of_eq rfl, fun base kb nb => ?_⟩
  have KT : KitL K := ⟨t_str_tuple, t_tuple_tuple, t_int_int, t_int_bool⟩
  have D_ten_to : Def l.prog w K mg base 1 "ten_to" ["many"] (spTen) := d_ten_to.d1 X G (fun f fd F => ok_ten_to F O) fun _ _ _ _ _ _ _ => rfl
  have D_is_figures : Def l.prog w K mg base 1 "is_figures" ["text"] (spIsFig) := d_is_figures.d1 X G (fun f fd F => ok_is_figures F T) fun _ _ _ _ _ _ _ => rfl
  have D_number_of : Def l.prog w K mg base 2 "number_of" ["text"] (spNum) := d_number_of.d1 X G (fun f fd F => ok_number_of F O T D_ten_to) fun _ _ _ _ _ _ _ => rfl
  have D_times_at : Def l.prog w K mg base 3 "times_at" ["text", "at"] (spTimes) := d_times_at.d2 X G (fun f fd F => ok_times_at F O T D_is_figures D_number_of) fun _ _ _ _ _ _ _ _ => rfl
  have D_rows_of : Def l.prog w K mg base 4 "rows_of" ["thing"] (spRows K) := d_rows_of.d1 X G (fun f fd F => ok_rows_of F O T D_times_at) fun _ _ _ _ _ _ _ => rfl
  have D_floats_at : Def l.prog w K mg base 1 "floats_at" ["rows", "at"] (spFloats K) := d_floats_at.d2 X G (fun f fd F => ok_floats_at F O T) fun _ _ _ _ _ _ _ _ => rfl
  have D_places_of : Def l.prog w K mg base 1 "places_of" ["rows", "at", "place"] (spPlaces K) := d_places_of.d3 X G (fun f fd F => ok_places_of F O T) fun _ _ _ _ _ _ _ _ _ => rfl
  have D_whole_part : Def l.prog w K mg base 2 "whole_part" ["rows", "at"] (spWhole K) := d_whole_part.d2 X G (fun f fd F => ok_whole_part F O T D_places_of) fun _ _ _ _ _ _ _ _ => rfl
  have D_broken_part : Def l.prog w K mg base 1 "broken_part" ["rows", "at", "place"] (spBroken K) := d_broken_part.d3 X G (fun f fd F => ok_broken_part F O T) fun _ _ _ _ _ _ _ _ _ => rfl
  have D_lead_of : Def l.prog w K mg base 2 "lead_of" ["rows"] (spLead K) := d_lead_of.d1 X G (fun f fd F => ok_lead_of F O T D_floats_at) fun _ _ _ _ _ _ _ => rfl
  have D_tail_of : Def l.prog w K mg base 1 "tail_of" ["rows", "at"] (spTail K) := d_tail_of.d2 X G (fun f fd F => ok_tail_of F O T) fun _ _ _ _ _ _ _ _ => rfl
  have D_number_facts : Def l.prog w K mg base 1 "number_facts" ["rows"] (spFacts K numberFacts) := d_number_facts.d1 X G (fun f fd F => ok_number_facts F O T) fun _ _ _ _ _ _ _ => rfl
  have D_plain_facts : Def l.prog w K mg base 1 "plain_facts" ["rows"] (spFacts K plainFacts) := d_plain_facts.d1 X G (fun f fd F => ok_plain_facts F O T KD) fun _ _ _ _ _ _ _ => rfl
  have D_body_of : Def l.prog w K mg base 3 "body_of" ["rows", "at"] (spBody K) := d_body_of.d2 X G (fun f fd F => ok_body_of F D_whole_part D_broken_part) fun _ _ _ _ _ _ _ _ => rfl
  have D_edited_facts : Def l.prog w K mg base 4 "edited_facts" ["rows"] (spFacts K editedFacts) := d_edited_facts.d1 X G (fun f fd F => ok_edited_facts F O T D_lead_of D_body_of D_tail_of) fun _ _ _ _ _ _ _ => rfl
  have D_facts_of : Def l.prog w K mg base 5 "facts_of" ["rows"] (spFacts K factsOf) := d_facts_of.d1 X G (fun f fd F => ok_facts_of F D_number_facts D_plain_facts D_edited_facts) fun _ _ _ _ _ _ _ => rfl
  have D_understood : Def l.prog w K mg base 6 "understood" ["picture"] (spUnder K c) := d_understood.d1 X G (fun f fd F => ok_understood F T D_rows_of D_facts_of) fun _ _ _ _ _ _ _ => rfl
  have D_size_of : Def l.prog w K mg base 7 "size_of" ["picture"] (spSize) := d_size_of.d1 X G (fun f fd F => ok_size_of F O D_understood) fun _ _ _ _ _ _ _ => rfl
  have D_bare : Def l.prog w K mg base 1 "bare" ["item"] (spBare) := d_bare.d1 X G (fun f fd F => ok_bare F ) fun _ _ _ _ _ _ _ => rfl
  have D_signs_in : Def l.prog w K mg base 8 "signs_in" ["layout"] (spSigns) := d_signs_in.d1 X G (fun f fd F => ok_signs_in F D_size_of) fun _ _ _ _ _ _ _ => rfl
  have D_is_whole : Def l.prog w K mg base 1 "is_whole" ["thing"] (spWholeI) := d_is_whole.d1 X G (fun f fd F => ok_is_whole F O KT) fun _ _ _ _ _ _ _ => rfl
  have D_step_parts : Def l.prog w K mg base 2 "step_parts" ["step"] (spParts) := d_step_parts.d1 X G (fun f fd F => ok_step_parts F O OT KT D_is_whole) fun _ _ _ _ _ _ _ => rfl
  have D_last_first : Def l.prog w K mg base 2 "last_first" ["path", "items"] (spLast) := d_last_first.d2 X G (fun f fd F => ok_last_first F O D_bare) fun _ _ _ _ _ _ _ _ => rfl
  have D_ahead_in_table : Def l.prog w K mg base 9 "ahead_in_table" ["item", "number"] (spAhead) := d_ahead_in_table.d2 X G (fun f fd F => ok_ahead_in_table F T D_signs_in) fun _ _ _ _ _ _ _ _ => rfl
  have D_item_at : Def l.prog w K mg base 10 "item_at" ["items", "step"] (spItemAt) := d_item_at.d2 X G (fun f fd F => ok_item_at F O OE T D_step_parts D_bare D_signs_in D_ahead_in_table) fun _ _ _ _ _ _ _ _ => rfl
  have D_found : Def l.prog w K mg base 11 "found" ["layout", "path"] (spFound) := d_found.d2 X G (fun f fd F => ok_found F O OT KT T D_item_at) fun _ _ _ _ _ _ _ _ => rfl
  have D_where : Def l.prog w K mg base 12 "where" ["layout", "path"] (spWhere) := d_where.d2 X G (fun f fd F => ok_where F D_found D_size_of D_signs_in) fun _ _ _ _ _ _ _ _ => rfl
  have D_paths_of_boxes : Def l.prog w K mg base 3 "paths_of_boxes" ["items", "with_tables"] (spPaths) := d_paths_of_boxes.d2 X G (fun f fd F => ok_paths_of_boxes F O D_last_first) fun _ _ _ _ _ _ _ _ => rfl
  have D_boxes : Def l.prog w K mg base 4 "boxes" ["layout"] (spBoxes) := d_boxes.d1 X G (fun f fd F => ok_boxes F OT D_paths_of_boxes) fun _ _ _ _ _ _ _ => rfl
  have D__law_draw : Def l.prog w K mg base 1 "_law_draw" ["_law_script", "_law_town", "_law_many"] (spDraw K) := d__law_draw.d3 X G (fun f fd F => ok__law_draw F O) fun _ _ _ _ _ _ _ _ _ => rfl
  have D__law_begun : Def l.prog w K mg base 1 "_law_begun" [] (spBegun) := d__law_begun.d0 X G (fun f fd F => ok__law_begun F ) fun _ _ _ _ _ _ => rfl
  have D__law_item_size_0 : Def l.prog w K mg base 1 "_law_item_size" ["_law_item"] (spISz 0) := d__law_item_size.d1 X G (fun f fd F => ok__law_item_size0 F ) fun _ _ _ _ _ _ _ => rfl
  have D__law_item_size_1 : Def l.prog w K mg base 2 "_law_item_size" ["_law_item"] (spISz 1) := d__law_item_size.d1 X G (fun f fd F => ok__law_item_size 0 F O D__law_item_size_0) fun _ _ _ _ _ _ _ => rfl
  have D__law_item_size_2 : Def l.prog w K mg base 3 "_law_item_size" ["_law_item"] (spISz 2) := d__law_item_size.d1 X G (fun f fd F => ok__law_item_size 1 F O D__law_item_size_1) fun _ _ _ _ _ _ _ => rfl
  have D__law_item_size_3 : Def l.prog w K mg base 4 "_law_item_size" ["_law_item"] (spISz 3) := d__law_item_size.d1 X G (fun f fd F => ok__law_item_size 2 F O D__law_item_size_2) fun _ _ _ _ _ _ _ => rfl
  have D__law_a_layout_0 : Def l.prog w K mg base 4 "_law_a_layout" ["_law_script", "_law_town", "_law_deep"] (spALay K 0) := d__law_a_layout.d3 X G (fun f fd F => ok__law_a_layout0 F ) fun _ _ _ _ _ _ _ _ _ => rfl
  have D__law_a_layout_1 : Def l.prog w K mg base 5 "_law_a_layout" ["_law_script", "_law_town", "_law_deep"] (spALay K 1) := d__law_a_layout.d3 X G (fun f fd F => ok__law_a_layout 0 F O D__law_draw D__law_item_size_3 D__law_a_layout_0) fun _ _ _ _ _ _ _ _ _ => rfl
  have D__law_a_layout_2 : Def l.prog w K mg base 6 "_law_a_layout" ["_law_script", "_law_town", "_law_deep"] (spALay K 2) := d__law_a_layout.d3 X G (fun f fd F => ok__law_a_layout 1 F O D__law_draw D__law_item_size_3 D__law_a_layout_1) fun _ _ _ _ _ _ _ _ _ => rfl
  have D__law_a_layout_3 : Def l.prog w K mg base 7 "_law_a_layout" ["_law_script", "_law_town", "_law_deep"] (spALay K 3) := d__law_a_layout.d3 X G (fun f fd F => ok__law_a_layout 2 F O D__law_draw D__law_item_size_3 D__law_a_layout_2) fun _ _ _ _ _ _ _ _ _ => rfl
  have D__law_plain_0 : Def l.prog w K mg base 1 "_law_plain" ["_law_items"] (spPl 0) := d__law_plain.d1 X G (fun f fd F => ok__law_plain0 F ) fun _ _ _ _ _ _ _ => rfl
  have D__law_plain_1 : Def l.prog w K mg base 2 "_law_plain" ["_law_items"] (spPl 1) := d__law_plain.d1 X G (fun f fd F => ok__law_plain 0 F O D__law_plain_0) fun _ _ _ _ _ _ _ => rfl
  have D__law_plain_2 : Def l.prog w K mg base 3 "_law_plain" ["_law_items"] (spPl 2) := d__law_plain.d1 X G (fun f fd F => ok__law_plain 1 F O D__law_plain_1) fun _ _ _ _ _ _ _ => rfl
  have D__law_plain_3 : Def l.prog w K mg base 4 "_law_plain" ["_law_items"] (spPl 3) := d__law_plain.d1 X G (fun f fd F => ok__law_plain 2 F O D__law_plain_2) fun _ _ _ _ _ _ _ => rfl
  exact ok_law (P := l.prog) (w := w) (base := base) ⟨oc, od, kV, doc, pm, an, ct, osl, rfl, l_law, c_law⟩ O D__law_begun D__law_a_layout_3 D__law_plain_3 D__law_item_size_3 D_where D_boxes D_signs_in D_size_of
theorem cxe_no {P : Program} {w : World} {H : Hp} {s : Shared} {e : Value} {s' : Shared} (z : CXE P w [] H s (fun _ _ _ => False) e s') : False := by
  obtain ⟨_, _, _, _, _, _, _, _, _, _, _, _, _, _, h⟩ := z
  exact h
end Lw
/-! names that keep the head from laying twins of what it need not look into -/
namespace PySem.W.Fast
theorem tw8014858251252992128 : True := trivial
theorem tw17907067595758824736 : True := trivial
theorem tw14882262761319234976 : True := trivial
theorem tw13618658394860040672 : True := trivial
theorem tw11752051461069421024 : True := trivial
theorem tw4765531098863604352 : True := trivial
theorem tw6854971961159105184 : True := trivial
theorem tw9170444697168659104 : True := trivial
theorem tw6296907532237147968 : True := trivial
theorem tw6294324112315631488 : True := trivial
theorem tw4783111862660053249 : True := trivial
theorem tw5603647479441702465 : True := trivial
theorem tw8951902623310121729 : True := trivial
theorem tw7608172805121375137 : True := trivial
theorem tw7338122482524864514 : True := trivial
theorem tw10197256778402385922 : True := trivial
theorem tw12379148215264015458 : True := trivial
theorem tw3568701807472831586 : True := trivial
theorem tw5032745800366054594 : True := trivial
theorem tw13829600771325624834 : True := trivial
theorem tw11385516820715740898 : True := trivial
theorem tw4238227691646548995 : True := trivial
theorem tw11641362071323837475 : True := trivial
theorem tw4991129373716662499 : True := trivial
theorem tw16301289422400573763 : True := trivial
theorem tw17823760664537113059 : True := trivial
theorem tw8944094135892891267 : True := trivial
theorem tw4598742538255668899 : True := trivial
theorem tw10045726554644870180 : True := trivial
theorem tw1633149264455326948 : True := trivial
theorem tw10750218920777605348 : True := trivial
theorem tw3903614658391452932 : True := trivial
theorem tw14200536955831525252 : True := trivial
theorem tw12540995416304360741 : True := trivial
theorem tw13238883933342058821 : True := trivial
theorem tw12227460182713429413 : True := trivial
theorem tw13445212540821427781 : True := trivial
theorem tw12475829426439856869 : True := trivial
theorem tw4026076396589088645 : True := trivial
theorem tw4834917331276417030 : True := trivial
theorem tw14962362945017728006 : True := trivial
theorem tw11056870211614541862 : True := trivial
theorem tw9330456973427929350 : True := trivial
theorem tw2219502995417599398 : True := trivial
theorem tw4622239396348934566 : True := trivial
theorem tw3374406585433774630 : True := trivial
theorem tw7720102145096649574 : True := trivial
theorem tw15257215617613285415 : True := trivial
theorem tw4826785329420594439 : True := trivial
theorem tw17945264911087157607 : True := trivial
theorem tw2184371395732937223 : True := trivial
theorem tw4100723183735859719 : True := trivial
theorem tw15929272935664893575 : True := trivial
theorem tw3775103080741309127 : True := trivial
theorem tw3618861769757170503 : True := trivial
theorem tw7902351158630366728 : True := trivial
theorem tw18007189973507441288 : True := trivial
theorem tw15848408959589936840 : True := trivial
theorem tw12135271983984113673 : True := trivial
theorem tw14848524615856847913 : True := trivial
theorem tw3200567723035706441 : True := trivial
theorem tw11359300062216670409 : True := trivial
theorem tw12580294806220011817 : True := trivial
theorem tw11458871230228023625 : True := trivial
theorem tw14676879789760837993 : True := trivial
theorem tw4790620571269629577 : True := trivial
theorem tw16486042875792691913 : True := trivial
theorem tw15555062441731941193 : True := trivial
theorem tw4202944794637955114 : True := trivial
theorem tw14938075791194360938 : True := trivial
theorem tw12975655435821803626 : True := trivial
theorem tw3689694589331855754 : True := trivial
theorem tw3539399810896048938 : True := trivial
theorem tw15219293606738824267 : True := trivial
theorem tw4224407778413561995 : True := trivial
theorem tw14264668148644236427 : True := trivial
theorem tw7733605778338916523 : True := trivial
theorem tw9880173054578724043 : True := trivial
theorem tw2061055484382332491 : True := trivial
theorem tw2032815989157798475 : True := trivial
theorem tw2739850709296711307 : True := trivial
theorem tw16957089849313121099 : True := trivial
theorem tw4170594983196356459 : True := trivial
theorem tw3943195213747478540 : True := trivial
theorem tw8867829153456751660 : True := trivial
theorem tw5764202400901512300 : True := trivial
theorem tw16413639660595106956 : True := trivial
theorem tw1692085389951090892 : True := trivial
theorem tw2306136066778896972 : True := trivial
theorem tw16590730269371518604 : True := trivial
theorem tw11743034020943020844 : True := trivial
theorem tw9157301752851714028 : True := trivial
theorem tw13698843668425093197 : True := trivial
theorem tw5581247909148076109 : True := trivial
theorem tw8263057403399063661 : True := trivial
theorem tw14567589991200926253 : True := trivial
theorem tw524021121368618541 : True := trivial
theorem tw10202536772061798989 : True := trivial
theorem tw2049238410246069837 : True := trivial
theorem tw6932881339486895821 : True := trivial
theorem tw7811743028409935853 : True := trivial
theorem tw17177194525165649998 : True := trivial
theorem tw13491392266936481934 : True := trivial
theorem tw10040126643339700558 : True := trivial
theorem tw17678740244481942894 : True := trivial
theorem tw6942176876555444686 : True := trivial
theorem tw10205257475063179758 : True := trivial
theorem tw17776575144475548142 : True := trivial
theorem tw5108243373058749102 : True := trivial
theorem tw17781142290068628462 : True := trivial
theorem tw2648002972036703343 : True := trivial
theorem tw11829983464711634063 : True := trivial
theorem tw14392789013223096623 : True := trivial
theorem tw13069936485005660559 : True := trivial
theorem tw12245685510598251983 : True := trivial
theorem tw12698474603335636783 : True := trivial
theorem tw8129501669828556336 : True := trivial
theorem tw7110196568090914352 : True := trivial
theorem tw15961372219423286160 : True := trivial
theorem tw8190748713754062832 : True := trivial
theorem tw13744337405026902129 : True := trivial
theorem tw13287531942146813073 : True := trivial
theorem tw15971201694412837073 : True := trivial
theorem tw10527070671696882001 : True := trivial
theorem tw14913970718965445329 : True := trivial
theorem tw10197909761152733905 : True := trivial
theorem tw9612938511687338801 : True := trivial
theorem tw11743033998960492786 : True := trivial
theorem tw17517986089210698194 : True := trivial
theorem tw17341416520668042834 : True := trivial
theorem tw18347919742543806066 : True := trivial
theorem tw8791507589938225010 : True := trivial
theorem tw462347274594957298 : True := trivial
theorem tw17301467889734762707 : True := trivial
theorem tw7833530495615919411 : True := trivial
theorem tw11169808784103702995 : True := trivial
theorem tw4824888000017410739 : True := trivial
theorem tw5714800846943998899 : True := trivial
theorem tw5411414537616566324 : True := trivial
theorem tw14116577866171395220 : True := trivial
theorem tw579575443857405172 : True := trivial
theorem tw4516098389965420820 : True := trivial
theorem tw9763138599536769364 : True := trivial
theorem tw1526114852480013876 : True := trivial
theorem tw8721749442629491284 : True := trivial
theorem tw10864839956033681172 : True := trivial
theorem tw13401052707434600244 : True := trivial
theorem tw7955346492979274548 : True := trivial
theorem tw16870187117382771540 : True := trivial
theorem tw10024959834234399572 : True := trivial
theorem tw13343216364838403924 : True := trivial
theorem tw2133792296102563732 : True := trivial
theorem tw11592094826872145844 : True := trivial
theorem tw6444169162483407796 : True := trivial
theorem tw14296945420731449300 : True := trivial
theorem tw16271993972403670037 : True := trivial
theorem tw17508578291957698613 : True := trivial
theorem tw7280736380325739605 : True := trivial
theorem tw212006699835197557 : True := trivial
theorem tw1667543868785540373 : True := trivial
theorem tw494674974669615509 : True := trivial
theorem tw6603265037265033749 : True := trivial
theorem tw12679969315661877845 : True := trivial
theorem tw10135725945914574453 : True := trivial
theorem tw9349883921790255765 : True := trivial
theorem tw17481865139570409205 : True := trivial
theorem tw588537782804321302 : True := trivial
theorem tw12010925720400700438 : True := trivial
theorem tw7731869029105510518 : True := trivial
theorem tw13022191752955026582 : True := trivial
theorem tw11641537933831913014 : True := trivial
theorem tw6680437077344565814 : True := trivial
theorem tw3867620194095327862 : True := trivial
theorem tw15513222493907275478 : True := trivial
theorem tw15277940316683805590 : True := trivial
theorem tw3888461761143344535 : True := trivial
theorem tw4103785359321371415 : True := trivial
theorem tw2323654193037982936 : True := trivial
theorem tw2096910785205013720 : True := trivial
theorem tw13540025901632803128 : True := trivial
theorem tw4652275136537405976 : True := trivial
theorem tw15175931344157030232 : True := trivial
theorem tw5318716489219601529 : True := trivial
theorem tw5368136346980021529 : True := trivial
theorem tw3161289121975954841 : True := trivial
theorem tw6437615918109240761 : True := trivial
theorem tw5017151285515052473 : True := trivial
theorem tw4358131324028678649 : True := trivial
theorem tw2422197431172104857 : True := trivial
theorem tw8135206920603957049 : True := trivial
theorem tw18279824737653231609 : True := trivial
theorem tw12376186282206543865 : True := trivial
theorem tw14163452990711917561 : True := trivial
theorem tw10956808202501015578 : True := trivial
theorem tw3429658890947526746 : True := trivial
theorem tw705746649283370106 : True := trivial
theorem tw15000107619531582842 : True := trivial
theorem tw1486741989938446746 : True := trivial
theorem tw11827517439193519578 : True := trivial
theorem tw16031313334659739354 : True := trivial
theorem tw14788009688430435066 : True := trivial
theorem tw16237479429442121690 : True := trivial
theorem tw18081728516625366010 : True := trivial
theorem tw3990313748893011003 : True := trivial
theorem tw14632544756308586587 : True := trivial
theorem tw11718892852563792315 : True := trivial
theorem tw6201454177479776955 : True := trivial
theorem tw15015855045133802171 : True := trivial
theorem tw14208056655601471516 : True := trivial
theorem tw10576735974605453724 : True := trivial
theorem tw9404807115849538396 : True := trivial
theorem tw14231615039619280732 : True := trivial
theorem tw18017170197269811100 : True := trivial
theorem tw16268633471120801917 : True := trivial
theorem tw4905842577809043613 : True := trivial
theorem tw4478218339406032221 : True := trivial
theorem tw10788118988868627037 : True := trivial
theorem tw10306868188785150653 : True := trivial
theorem tw14035394206520111901 : True := trivial
theorem tw10865145831925844925 : True := trivial
theorem tw17139455177499445245 : True := trivial
theorem tw6715116114524595294 : True := trivial
theorem tw10891099078520429022 : True := trivial
theorem tw199427889888870495 : True := trivial
theorem tw16945635605957289151 : True := trivial
theorem tw15610515764551019743 : True := trivial
theorem tw12075763977952910623 : True := trivial
theorem tw9763266502846847327 : True := trivial
theorem tw4845140696879830399 : True := trivial
theorem tw14202975238017539583 : True := trivial
theorem tw12152237919399816799 : True := trivial
theorem tw18347365022403068543 : True := trivial
theorem tw12225093383979528895 : True := trivial
theorem tw9928086655801552607 : True := trivial
theorem tw1702995101011048159 : True := trivial
theorem tw16116023718879580991 : True := trivial
theorem tw150993504091646879 : True := trivial
theorem tw8378074394628865032 : True := trivial
end PySem.W.Fast
open PySem PySem.W PyProof.Rows
set_option maxRecDepth 100000 in
set_option maxHeartbeats 0 in
theorem PySem.Challenge.cw_boxmoves_k24_whole_boxes_apart_holds : PySem.Challenge.rw_boxmoves_k24_whole_boxes_apart.Holds := by
  w_on; o_law; k_head; (case hw => w_witness2)
  k_fill
  refine L2.walk_ofN (l := PySem.Challenge.rw_boxmoves_k24_whole_boxes_apart) (n := 63) (k := 13) (x := "_law_script") (CX := fun w => L2.CXE PySem.Challenge.rw_boxmoves_k24_whole_boxes_apart.prog w) (sp := fun _ => Lw.spLaw) rfl (by decide) rfl ⟨rfl, by decide, by decide⟩ (fun w h Y => PySem.W.kIn_of Y) ?nL ?F (fun w H a ns hl hS => ⟨a, ns, rfl, hl, hS, fun _ => rfl⟩) (fun w H s e s' z => Lw.cxe_no z)
  case nL => intro w; kernel_rfl
  case F =>
    intro w mg fa h KX G hmg
    refine' Lw.all_mk KX G hmg ?d_ten_to ?d_is_figures ?d_number_of ?d_times_at ?d_rows_of ?d_floats_at ?d_places_of ?d_whole_part ?d_broken_part ?d_lead_of ?d_tail_of ?d_number_facts ?d_plain_facts ?d_body_of ?d_edited_facts ?d_facts_of ?d_understood ?d_size_of ?d_bare ?d_signs_in ?d_is_whole ?d_step_parts ?d_last_first ?d_ahead_in_table ?d_item_at ?d_found ?d_where ?d_paths_of_boxes ?d_boxes ?d__law_draw ?d__law_begun ?d__law_item_size ?d__law_a_layout ?d__law_plain ?k_0 ?k_1 ?k_8 ?m_FIGURES ?m_INSERTED ?m_SIGNS ?m_FLOATING ?m_PLACES ?m_PART ?m_MOST_FIGURES ?m_MOST_SIGNS ?m_NUMBER_FORMS ?m_SHOWN ?m_PLAIN_KINDS ?q_NUMBER_FORMS ?q_SHOWN ?kd ?z2_tuple ?z2_enumerate ?t_str_tuple ?t_tuple_tuple ?t_int_int ?t_int_bool ?t_str ?t_int ?t_NoneType ?t_tuple ?z_len ?z_range ?z_abs ?z_max ?z_int ?z_isi ?z_bool ?z_val ?z_reversed ?z_divmod ?z_str ?z_sum ?x1_ex ?x8_ex ?a_law ?l_law ?c_law
    (case d_ten_to => (refine' L2.defAt_mk ?a ?l ?c ?k; (case a => k_is); (case l => k_is); (case c => k_is); (case k => k_is)))
    (case d_is_figures => (refine' L2.defAt_mk ?a ?l ?c ?k; (case a => k_is); (case l => k_is); (case c => k_is); (case k => k_is)))
    (case d_number_of => (refine' L2.defAt_mk ?a ?l ?c ?k; (case a => k_is); (case l => k_is); (case c => k_is); (case k => k_is)))
    (case d_times_at => (refine' L2.defAt_mk ?a ?l ?c ?k; (case a => k_is); (case l => k_is); (case c => k_is); (case k => k_is)))
    (case d_rows_of => (refine' L2.defAt_mk ?a ?l ?c ?k; (case a => k_is); (case l => k_is); (case c => k_is); (case k => k_is)))
    (case d_floats_at => (refine' L2.defAt_mk ?a ?l ?c ?k; (case a => k_is); (case l => k_is); (case c => k_is); (case k => k_is)))
    (case d_places_of => (refine' L2.defAt_mk ?a ?l ?c ?k; (case a => k_is); (case l => k_is); (case c => k_is); (case k => k_is)))
    (case d_whole_part => (refine' L2.defAt_mk ?a ?l ?c ?k; (case a => k_is); (case l => k_is); (case c => k_is); (case k => k_is)))
    (case d_broken_part => (refine' L2.defAt_mk ?a ?l ?c ?k; (case a => k_is); (case l => k_is); (case c => k_is); (case k => k_is)))
    (case d_lead_of => (refine' L2.defAt_mk ?a ?l ?c ?k; (case a => k_is); (case l => k_is); (case c => k_is); (case k => k_is)))
    (case d_tail_of => (refine' L2.defAt_mk ?a ?l ?c ?k; (case a => k_is); (case l => k_is); (case c => k_is); (case k => k_is)))
    (case d_number_facts => (refine' L2.defAt_mk ?a ?l ?c ?k; (case a => k_is); (case l => k_is); (case c => k_is); (case k => k_is)))
    (case d_plain_facts => (refine' L2.defAt_mk ?a ?l ?c ?k; (case a => k_is); (case l => k_is); (case c => k_is); (case k => k_is)))
    (case d_body_of => (refine' L2.defAt_mk ?a ?l ?c ?k; (case a => k_is); (case l => k_is); (case c => k_is); (case k => k_is)))
    (case d_edited_facts => (refine' L2.defAt_mk ?a ?l ?c ?k; (case a => k_is); (case l => k_is); (case c => k_is); (case k => k_is)))
    (case d_facts_of => (refine' L2.defAt_mk ?a ?l ?c ?k; (case a => k_is); (case l => k_is); (case c => k_is); (case k => k_is)))
    (case d_understood => (refine' L2.defAt_mk ?a ?l ?c ?k; (case a => k_is); (case l => k_is); (case c => k_is); (case k => k_is)))
    (case d_size_of => (refine' L2.defAt_mk ?a ?l ?c ?k; (case a => k_is); (case l => k_is); (case c => k_is); (case k => k_is)))
    (case d_bare => (refine' L2.defAt_mk ?a ?l ?c ?k; (case a => k_is); (case l => k_is); (case c => k_is); (case k => k_is)))
    (case d_signs_in => (refine' L2.defAt_mk ?a ?l ?c ?k; (case a => k_is); (case l => k_is); (case c => k_is); (case k => k_is)))
    (case d_is_whole => (refine' L2.defAt_mk ?a ?l ?c ?k; (case a => k_is); (case l => k_is); (case c => k_is); (case k => k_is)))
    (case d_step_parts => (refine' L2.defAt_mk ?a ?l ?c ?k; (case a => k_is); (case l => k_is); (case c => k_is); (case k => k_is)))
    (case d_last_first => (refine' L2.defAt_mk ?a ?l ?c ?k; (case a => k_is); (case l => k_is); (case c => k_is); (case k => k_is)))
    (case d_ahead_in_table => (refine' L2.defAt_mk ?a ?l ?c ?k; (case a => k_is); (case l => k_is); (case c => k_is); (case k => k_is)))
    (case d_item_at => (refine' L2.defAt_mk ?a ?l ?c ?k; (case a => k_is); (case l => k_is); (case c => k_is); (case k => k_is)))
    (case d_found => (refine' L2.defAt_mk ?a ?l ?c ?k; (case a => k_is); (case l => k_is); (case c => k_is); (case k => k_is)))
    (case d_where => (refine' L2.defAt_mk ?a ?l ?c ?k; (case a => k_is); (case l => k_is); (case c => k_is); (case k => k_is)))
    (case d_paths_of_boxes => (refine' L2.defAt_mk ?a ?l ?c ?k; (case a => k_is); (case l => k_is); (case c => k_is); (case k => k_is)))
    (case d_boxes => (refine' L2.defAt_mk ?a ?l ?c ?k; (case a => k_is); (case l => k_is); (case c => k_is); (case k => k_is)))
    (case d__law_draw => (refine' L2.defAt_mk ?a ?l ?c ?k; (case a => k_is); (case l => k_is); (case c => k_is); (case k => k_is)))
    (case d__law_begun => (refine' L2.defAt_mk ?a ?l ?c ?k; (case a => k_is); (case l => k_is); (case c => k_is); (case k => k_is)))
    (case d__law_item_size => (refine' L2.defAt_mk ?a ?l ?c ?k; (case a => k_is); (case l => k_is); (case c => k_is); (case k => k_is)))
    (case d__law_a_layout => (refine' L2.defAt_mk ?a ?l ?c ?k; (case a => k_is); (case l => k_is); (case c => k_is); (case k => k_is)))
    (case d__law_plain => (refine' L2.defAt_mk ?a ?l ?c ?k; (case a => k_is); (case l => k_is); (case c => k_is); (case k => k_is)))
    (case k_0 => k_is)
    (case k_1 => k_is)
    (case k_8 => k_is)
    (case m_FIGURES => k_is)
    (case m_INSERTED => k_is)
    (case m_SIGNS => k_is)
    (case m_FLOATING => k_is)
    (case m_PLACES => k_is)
    (case m_PART => k_is)
    (case m_MOST_FIGURES => k_is)
    (case m_MOST_SIGNS => k_is)
    (case m_NUMBER_FORMS => k_is)
    (case m_SHOWN => k_is)
    (case m_PLAIN_KINDS => k_is)
    (case q_NUMBER_FORMS => (refine' L2.sqT_mk ?l ?z ?v; (case l => k_is); (case z => show 6 ≤ sizeLine; decide); (case v => exact (.cons ⟨_, rfl⟩ (.cons ⟨_, rfl⟩ (.cons ⟨_, rfl⟩ (.cons ⟨_, rfl⟩ (.cons ⟨_, rfl⟩ (.cons ⟨_, rfl⟩ .nil)))))))))
    (case q_SHOWN => (refine' L2.sqT_mk ?l ?z ?v; (case l => k_is); (case z => show 4 ≤ sizeLine; decide); (case v => exact (.cons ⟨_, rfl⟩ (.cons ⟨_, rfl⟩ (.cons ⟨_, rfl⟩ (.cons ⟨_, rfl⟩ .nil)))))))
    (case kd => (refine' L2.kdict2_mk ?ne ?l ?e1 ?e2 ?hx; (case l => k_is); (case ne => exact rfl); (case e1 => exact rfl); (case e2 => exact rfl); (case hx => decide +kernel)))
    (case z2_tuple => k_is)
    (case z2_enumerate => k_is)
    (case t_str_tuple => kit_is)
    (case t_tuple_tuple => kit_is)
    (case t_int_int => kit_is)
    (case t_int_bool => kit_is)
    (case t_str => kit_is)
    (case t_int => kit_is)
    (case t_NoneType => kit_is)
    (case t_tuple => kit_is)
    (case z_len => k_is)
    (case z_range => k_is)
    (case z_abs => k_is)
    (case z_max => k_is)
    (case z_int => k_is)
    (case z_isi => k_is)
    (case z_bool => k_is)
    (case z_val => k_is)
    (case z_reversed => k_is)
    (case z_divmod => k_is)
    (case z_str => k_is)
    (case z_sum => k_is)
    (case x1_ex => k_exc)
    (case x8_ex => k_exc)
    (case a_law => k_is)
    (case l_law => k_is)
    (case c_law => k_is)

