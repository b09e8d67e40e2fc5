import PyProof.Rows.All
import Wide.All
import OpenK.AllK
import Wide.FinOn
import Lean
import PyProof.EqAt
import PyProof.EqKinds
import PyProof.TupleCall
import PySem.Challenge.RW_boxmoves_k06_rooms
set_option Elab.async false
set_option linter.all false
set_option maxRecDepth 100000
/-! THE HAND LAYER, for ints, bools, texts, own classes, LISTS and tuples (index, slices, in, append, pop ..), calls, loops. Paste it whole ahead of your own text; what your proof does not reach may be deleted. -/
namespace L2
open PySem PySem.Spec PyProof.Rows

/-- a key: an int or a str -/
abbrev Key := Sum Int Str
def keyIs : Key → Value → Bool
  | .inl k, v => Value.isInt k v
  | .inr x, v => Value.isStrOf x v
def keyH (w : World) : Key → Int
  | .inl k => hashInt k
  | .inr x => hashStr w x
theorem keyIs_shape : ∀ {k : Key} {v : Value}, keyIs k v = true → (∃ i t, k = Sum.inl i ∧ v = Value.int i t) ∨ (∃ x t, k = Sum.inr x ∧ v = Value.str x t)
  | .inl i, v, h => by
    obtain ⟨t, e⟩ := Value.isInt_shape (k := i) (v := v) h
    exact .inl ⟨i, t, rfl, e⟩
  | .inr x, v, h => by
    obtain ⟨t, e⟩ := Value.isStrOf_shape (x := x) (v := v) h
    exact .inr ⟨x, t, rfl, e⟩
theorem keyIs_int (i : Int) (t : Tok) : keyIs (.inl i) (.int i t) = true := by simp [keyIs, Value.isInt]
theorem keyIs_str (x : Str) (t : Tok) : keyIs (.inr x) (.str x t) = true := by simp [keyIs, Value.isStrOf]
theorem key_ll (a b : Int) : decide ((Sum.inl a : Key) = Sum.inl b) = (a == b) := by
  by_cases e : a = b
  · subst e; simp
  · have h : ¬ (Sum.inl a : Key) = Sum.inl b := fun q => e (Sum.inl.inj q)
    rw [decide_eq_false h]
    exact (beq_eq_false_iff_ne.mpr e).symm
theorem key_rr (a b : Str) : decide ((Sum.inr a : Key) = Sum.inr b) = decide (a = b) := by
  by_cases e : a = b
  · subst e; simp
  · have h : ¬ (Sum.inr a : Key) = Sum.inr b := fun q => e (Sum.inr.inj q)
    rw [decide_eq_false h, decide_eq_false e]
theorem key_lr (a : Int) (b : Str) : decide ((Sum.inl a : Key) = Sum.inr b) = false := decide_eq_false (fun q => nomatch q)
theorem key_rl (a : Str) (b : Int) : decide ((Sum.inr a : Key) = Sum.inl b) = false := decide_eq_false (fun q => nomatch q)

def mixKind (prog : Program) (w : World) : PySem.KeyKind prog w Key where
  is := keyIs
  hash := keyH w
  inj := fun v a b ha hb => by
    rcases keyIs_shape ha with ⟨i, t, rfl, rfl⟩ | ⟨x, t, rfl, rfl⟩
    · rcases keyIs_shape hb with ⟨j, u, rfl, e⟩ | ⟨y, u, rfl, e⟩
      · injection e with e1 _; rw [e1]
      · exact nomatch e
    · rcases keyIs_shape hb with ⟨j, u, rfl, e⟩ | ⟨y, u, rfl, e⟩
      · exact nomatch e
      · injection e with e1 _; rw [e1]
  byValue := fun k v h => by
    rcases keyIs_shape h with ⟨i, t, rfl, rfl⟩ | ⟨x, t, rfl, rfl⟩ <;> rfl
  pyHash := fun hv h => by
    rcases keyIs_shape hv with ⟨i, t, rfl, rfl⟩ | ⟨x, t, rfl, rfl⟩
    · exact wpAny_pyHash_int h
    · exact wpAny_pyHash_str h
  eqBool := fun hu hv h => by
    rcases keyIs_shape hu with ⟨i, t, rfl, rfl⟩ | ⟨x, t, rfl, rfl⟩
    · rcases keyIs_shape hv with ⟨j, u, rfl, rfl⟩ | ⟨y, u, rfl, rfl⟩
      · rw [key_ll] at h; exact wpAny_eqBool_int h
      · rw [key_lr] at h; exact SeqAt.EqAt.int_str i t y u _ _ _ _ h
    · rcases keyIs_shape hv with ⟨j, u, rfl, rfl⟩ | ⟨y, u, rfl, rfl⟩
      · rw [key_rl] at h; exact SeqAt.EqAt.str_int x t j u _ _ _ _ h
      · rw [key_rr] at h; exact wpAny_eqBool_str h
  «strs» := fun k x t v h => by
    rcases keyIs_shape h with ⟨i, u, rfl, e⟩ | ⟨y, u, rfl, e⟩
    · exact nomatch e
    · injection e with e1 _
      subst e1
      cases v <;> rfl

theorem mixKind_int (prog : Program) (w : World) (i : Int) (t : Tok) : (mixKind prog w).is (.inl i) (.int i t) = true := keyIs_int i t
theorem mixKind_str (prog : Program) (w : World) (x : Str) (t : Tok) : (mixKind prog w).is (.inr x) (.str x t) = true := keyIs_str x t
end L2

namespace L2
open PySem PySem.Spec PyProof.Rows

/-- a value, without the heap -/
inductive V where
  | non | bl (b : Bool) | int (i : Int) | str (x : Str) | byt (b : Array UInt8) | flt (b : UInt64) | ref (a : Addr) | ty (n : String)
  deriving DecidableEq

def RelV : V → Value → Prop
  | .non, u => u = Value.none
  | .bl b, u => u = Value.bool b
  | .int i, u => ∃ t, u = Value.int i t
  | .str x, u => ∃ t, u = Value.str x t
  | .byt b, u => ∃ t, u = Value.bytes b t
  | .flt b, u => ∃ t, u = Value.float b t
  | .ref a, u => u = Value.ref a
  | .ty n, u => u = Value.type n

abbrev Vals : List V → List Value → Prop := Paired RelV
theorem Vals.length {xs : List V} {us : List Value} (r : Vals xs us) : xs.length = us.length := Paired.length r
theorem Vals.get : ∀ {xs : List V} {us : List Value} {i : Nat} {x : V}, Vals xs us → xs[i]? = some x → ∃ u, us[i]? = some u ∧ RelV x u
  | _, _, _, _, .nil, e => by simp at e
  | _, _, 0, _, .cons r _, e => by simp at e; subst e; exact ⟨_, rfl, r⟩
  | _, _, i + 1, x, .cons _ t, e => by
    obtain ⟨u, h1, h2⟩ := Vals.get (i := i) (x := x) t (by simpa using e)
    exact ⟨u, by simpa using h1, h2⟩
theorem Vals.set {x : V} {u : Value} (r : RelV x u) : ∀ {xs : List V} {us : List Value} (i : Nat), Vals xs us → Vals (xs.set i x) (us.set i u)
  | _, _, _, .nil => .nil
  | _, _, 0, .cons _ t => .cons r t
  | _, _, i + 1, .cons q t => .cons q (Vals.set r i t)
theorem Vals.append : ∀ {xs ys : List V} {us ws : List Value}, Vals xs us → Vals ys ws → Vals (xs ++ ys) (us ++ ws)
  | _, _, _, _, .nil, s => s
  | _, _, _, _, .cons r t, s => .cons r (Vals.append t s)
theorem Vals.take : ∀ {xs : List V} {us : List Value} (n : Nat), Vals xs us → Vals (xs.take n) (us.take n)
  | _, _, 0, _ => .nil
  | _, _, _ + 1, .nil => .nil
  | _, _, n + 1, .cons r t => .cons r (Vals.take n t)
theorem Vals.drop : ∀ {xs : List V} {us : List Value} (n : Nat), Vals xs us → Vals (xs.drop n) (us.drop n)
  | _, _, 0, r => r
  | _, _, _ + 1, .nil => .nil
  | _, _, n + 1, .cons _ t => Vals.drop n t
def RelO : Option V → Option Value → Prop
  | some v, some u => RelV v u
  | none, none => True
  | _, _ => False
def KV {κ : Type} : List (κ × V) → List (κ × Value) → Prop := Paired fun (p : κ × V) (q : κ × Value) => p.1 = q.1 ∧ RelV p.2 q.2

/-- a key of a dict (00_mix): an int or a text -/
def kV : Key → V
  | .inl i => .int i
  | .inr x => .str x

/-- what stands at a tracked address -/
inductive HO where
  /-- a list -/
  | lst (xs : List V)
  /-- a tuple (never changes) -/
  | tup (xs : List V)
  /-- a dict whose keys are ints and texts; one whose keys are tuples of ints and texts (the empty one is both) -/
  | dK (kvs : List (Key × V)) | dT (kvs : List (List Key × V))
  /-- a set of ints: its members, its size -/
  | set (S : Int → Bool) (n : Nat)
  /-- an instance of the class at C, its dict at dx, its attributes -/
  | ins (C dx : Addr) (fs : List (Str × V))
  /-- the dict of the instance at x -/
  | own (x : Addr)
  /-- the dict of an exception -/
  | xd (fs : List (Str × V))
  /-- a bound method, f of x -/
  | met (f x : Addr)
  /-- a range object lo, lo + 1, .. below hi -/
  | rng (lo hi : Int)
  /-- a thing that is known to the object (the script; a dict while a loop walks it): read, never written while it is so -/
  | frz (o : Obj) (u : HO)
  /-- a code object's table -/
  | tbl (ps : Array Value)
  /-- any other thing, by what is true of its one object (a def of one's own: SetO a S n := HO.ext fun h => ..) -/
  | ext (φ : Heap → Prop)

abbrev Hp := Addr → Option HO
def upd (H : Hp) (a : Addr) (o : HO) : Hp := fun b => if b = a then some o else H b
theorem upd_same {H : Hp} {a : Addr} {o : HO} : upd H a o a = some o := by unfold upd; rw [if_pos rfl]
theorem upd_ne {H : Hp} {a b : Addr} {o : HO} (h : b ≠ a) : upd H a o b = H b := by unfold upd; rw [if_neg h]
/-- two objects of different content stand apart -/
theorem ne_of {H : Hp} {a b : Addr} {o u : HO} (h : H a = some o) (h' : H b = some u) (d : o ≠ u) : a ≠ b := by
  intro e; subst e; rw [h] at h'; exact d (Option.some.inj h')
theorem ne_of_none {H : Hp} {a b : Addr} {o : HO} (h : H a = some o) (h' : H b = none) : a ≠ b := by
  intro e; subst e; rw [h] at h'; cases h'

section
variable (P : Program) (w : World)
def ObjOk (H : Hp) (h : Heap) (a : Addr) : HO → Prop
  | .lst xs => xs.length ≤ sizeLine ∧ ∃ (its : List Value) (n : Nat), Vals xs its ∧ h.get? a = some { cls := .type "list", data := .seq its.toArray n }
  | .tup xs => xs.length ≤ sizeLine ∧ ∃ its : List Value, Vals xs its ∧ IsTup h a its.toArray
  | .dK kvs => kvs.length ≤ sizeLine ∧ (a == sysModules) = false ∧ ∃ vs, KV kvs vs ∧ h.DictOf (mixKind P w) a vs
  | .dT kvs => kvs.length ≤ sizeLine ∧ (a == sysModules) = false ∧ ∃ xs : List (List Key × Addr × Value),
      Paired (fun (p : List Key × V) (q : List Key × Addr × Value) => p.1 = q.1 ∧ H q.2.1 = some (.tup (p.1.map kV)) ∧ RelV p.2 q.2.2) kvs xs ∧
      ∃ o es ep, h.get? a = some o ∧ o.ExactDict ∧ o.data = .dict es ep ∧ es.toList = xs.map (entryOfKey (tupleKind (mixKind P w))) ∧ (xs.map (·.1)).Nodup
  | .set S n => h.SetOf (intKind P w) a S n
  | .ins C dx fs => H dx = some (.own a) ∧ fs.length ≤ 1000 ∧ dx ≠ a ∧ h.get? a = some (PySem.W.instObj C dx) ∧
      ∃ mA, h.Ns1 dx mA ∧ (∀ f, RelO (fs.lookup f) (mA f)) ∧ PySem.Within mA (fs.map (·.1))
  | .own _ => ∃ o, h.get? a = some o
  | .xd fs => ∃ mA, h.Ns1 a mA ∧ ∀ f, RelO (fs.lookup f) (mA f)
  | .rng lo hi => ∃ t u v, h.get? a = some { cls := .type "range", data := .fields #[.int lo t, .int hi u, .int 1 v] }
  | .frz o u => h.get? a = some o ∧ ObjOk H h a u
  | .tbl ps => h.get? a = some { cls := .none, data := .fields ps }
  | .met f x => h.get? a = some (PySem.W.methodObj (.ref f) (.ref x))
  | .ext φ => φ h ∧ (∃ o, h.get? a = some o) ∧ ∀ h1 h2 : Heap, φ h1 → (∀ o, h1.get? a = some o → h2.get? a = some o) → φ h2
/-- the abstract heap is held -/
def HOk (H : Hp) (h : Heap) : Prop := ∀ a o, H a = some o → ObjOk P w H h a o
end

section
variable {P : Program} {w : World} {H H' : Hp} {h h' : Heap} {a : Addr} {o : HO}
theorem ObjOk.lt (x : ObjOk P w H h a o) : a < h.objs.size := by
  cases o with
  | lst xs => obtain ⟨_, _, _, _, e⟩ := x; exact Heap.lt_size e
  | tup xs => obtain ⟨_, _, _, p⟩ := x; exact p.lt
  | dK kvs => obtain ⟨_, _, _, _, o, _, _, e, _⟩ := x; exact Heap.lt_size e
  | dT kvs => obtain ⟨_, _, _, _, o, _, _, e, _⟩ := x; exact Heap.lt_size e
  | set S n => obtain ⟨o, _, _, _, e, _⟩ := x; exact Heap.lt_size e
  | ins C dx fs => obtain ⟨_, _, _, e, _⟩ := x; exact Heap.lt_size e
  | own y => obtain ⟨_, e⟩ := x; exact Heap.lt_size e
  | xd fs => obtain ⟨_, ⟨_, _, _, e, _⟩, _⟩ := x; exact Heap.lt_size e
  | rng lo hi => obtain ⟨_, _, _, e⟩ := x; exact Heap.lt_size e
  | frz ob u => obtain ⟨e, _⟩ := x; exact Heap.lt_size e
  | tbl ps => exact Heap.lt_size (show h.get? a = some _ from x)
  | met f y => exact Heap.lt_size (show h.get? a = some _ from x)
  | ext φ => obtain ⟨_, ⟨_, e⟩, _⟩ := x; exact Heap.lt_size e
theorem Paired.mapP {α β : Type} {F G : α → β → Prop} : ∀ {l₁ : List α} {l₂ : List β}, Paired F l₁ l₂ → (∀ a b, F a b → G a b) → Paired G l₁ l₂
  | _, _, .nil, _ => .nil
  | _, _, .cons r t, f => .cons (f _ _ r) (Paired.mapP t f)
/-- what an object's description leans on: its own object, its own dict, the tuples -/
theorem ObjOk.stay (x : ObjOk P w H h a o) (k : ∀ b u, (b = a ∨ H b = some (.own a)) → h.get? b = some u → h'.get? b = some u)
    (ho : ∀ b, H b = some (.own a) → H' b = some (.own a)) (ht : ∀ b xs, H b = some (.tup xs) → H' b = some (.tup xs)) : ObjOk P w H' h' a o := by
  induction o with
  | lst xs => obtain ⟨z, its, n, r, e⟩ := x; exact ⟨z, its, n, r, k _ _ (.inl rfl) e⟩
  | tup xs => obtain ⟨z, its, r, ob, e, c⟩ := x; exact ⟨z, its, r, ob, k _ _ (.inl rfl) e, c⟩
  | dK kvs => obtain ⟨z, y, vs, r, ob, es, ep, e, c⟩ := x; exact ⟨z, y, vs, r, ob, es, ep, k _ _ (.inl rfl) e, c⟩
  | dT kvs =>
    obtain ⟨z, y, xs, r, ob, es, ep, e, c⟩ := x
    exact ⟨z, y, xs, Paired.mapP r fun p q z => ⟨z.1, ht _ _ z.2.1, z.2.2⟩, ob, es, ep, k _ _ (.inl rfl) e, c⟩
  | set S n => obtain ⟨ob, es, ep, t, e, c⟩ := x; exact ⟨ob, es, ep, t, k _ _ (.inl rfl) e, c⟩
  | ins C dx fs =>
    obtain ⟨d, z, ne, e, mA, ⟨od, es, ep, e2, c⟩, r⟩ := x
    exact ⟨ho _ d, z, ne, k _ _ (.inl rfl) e, mA, ⟨od, es, ep, k _ _ (.inr d) e2, c⟩, r⟩
  | own y => obtain ⟨ob, e⟩ := x; exact ⟨ob, k _ _ (.inl rfl) e⟩
  | xd fs => obtain ⟨mA, ⟨od, es, ep, e, c⟩, r⟩ := x; exact ⟨mA, ⟨od, es, ep, k _ _ (.inl rfl) e, c⟩, r⟩
  | rng lo hi => obtain ⟨t, u, v, e⟩ := x; exact ⟨t, u, v, k _ _ (.inl rfl) e⟩
  | frz ob u ih => obtain ⟨e, q⟩ := x; exact ⟨k _ _ (.inl rfl) e, ih q⟩
  | tbl ps =>
    have e : h.get? a = some { cls := .none, data := .fields ps } := x
    show h'.get? a = some { cls := .none, data := .fields ps }
    exact k a _ (.inl rfl) e
  | met f y =>
    have e : h.get? a = some (PySem.W.methodObj (.ref f) (.ref y)) := x
    show h'.get? a = some (PySem.W.methodObj (.ref f) (.ref y))
    exact k a _ (.inl rfl) e
  | ext φ => obtain ⟨p, ⟨o, e⟩, st⟩ := x; exact ⟨st _ _ p fun o q => k _ _ (.inl rfl) q, ⟨o, k _ _ (.inl rfl) e⟩, st⟩
theorem HOk.lt (x : HOk P w H h) (e : H a = some o) : a < h.objs.size := (x a o e).lt
theorem HOk.fresh (x : HOk P w H h) (e : h.objs.size ≤ a) : H a = none := by
  cases q : H a with
  | none => rfl
  | some u => exact absurd (Nat.lt_of_lt_of_le (x.lt q) e) (Nat.lt_irrefl _)
/-- every object of the heap is kept -/
theorem HOk.kept (x : HOk P w H h) (k : ∀ b u, h.get? b = some u → h'.get? b = some u) : HOk P w H h' := fun a o e =>
  (x a o e).stay (fun b u _ q => k b u q) (fun _ q => q) fun _ _ q => q
/-- a new object is laid and tracked -/
theorem HOk.laid (x : HOk P w H h) (k : ∀ b u, h.get? b = some u → h'.get? b = some u) (hp : h.objs.size ≤ a) (new : ObjOk P w (upd H a o) h' a o) : HOk P w (upd H a o) h' := fun b u e => by
  have hn := x.fresh hp
  by_cases hb : b = a
  · subst hb; rw [upd_same] at e; cases e; exact new
  · rw [upd_ne hb] at e
    exact (x b u e).stay (fun c v _ q => k c v q) (fun c q => by rw [upd_ne (ne_of_none q hn)]; exact q) fun c xs q => by rw [upd_ne (ne_of_none q hn)]; exact q
end

/-- what may be read as u: it is u, or a known u -/
def Rd (H : Hp) (a : Addr) (u : HO) : Prop := H a = some u ∨ ∃ o, H a = some (.frz o u)
theorem Rd.ok {P : Program} {w : World} {H : Hp} {h : Heap} {a : Addr} {u : HO} (r : Rd H a u) (x : HOk P w H h) : ObjOk P w H h a u := by
  rcases r with r | ⟨o, r⟩
  · exact x a u r
  · obtain ⟨_, q⟩ := x a _ r
    exact q
/-- what may be written -/
def Mut : Option HO → Prop
  | some (.lst _) => True
  | some (.dK _) => True
  | some (.dT _) => True
  | some (.set _ _) => True
  | some (.ins _ _ _) => True
  | some (.ext _) => True
  | _ => False
section
variable {P : Program} {w : World} {H : Hp} {h h' : Heap} {x e : Addr} {o' : HO}
/-- the object at e is changed: x itself, or the dict of the instance x -/
theorem HOk.write (ok : HOk P w H h) (mu : Mut (H x)) (he : e = x ∨ H e = some (.own x)) (k : ∀ b u, b ≠ e → h.get? b = some u → h'.get? b = some u) (heo : ∃ u, h'.get? e = some u)
    (new : ObjOk P w (upd H x o') h' x o') : HOk P w (upd H x o') h' := fun b u q => by
  have nown : ∀ c y, H c = some (.own y) → c ≠ x := fun c y r z => by subst z; rw [r] at mu; exact mu
  have ntup : ∀ c xs, H c = some (.tup xs) → c ≠ x := fun c xs r z => by subst z; rw [r] at mu; exact mu
  by_cases hb : b = x
  · subst hb; rw [upd_same] at q; cases q; exact new
  · rw [upd_ne hb] at q
    by_cases hbe : b = e
    · have q' : H b = some (.own x) := by
        rcases he with z | z
        · exact absurd (hbe.trans z) hb
        · rw [hbe]; exact z
      rw [q] at q'; cases q'
      obtain ⟨v, hv⟩ := heo
      exact ⟨v, by rw [hbe]; exact hv⟩
    · refine (ok b u q).stay (fun c v hc r => k c v ?_ r) (fun c r => by rw [upd_ne (nown c b r)]; exact r) fun c xs r => by rw [upd_ne (ntup c xs r)]; exact r
      rcases hc with rfl | hc
      · exact hbe
      · rintro rfl
        rcases he with z | z
        · exact nown c b hc z
        · rw [hc] at z; cases z; exact hb rfl
end

/-! ### kept unless tracked; of the frames at fs (the callers') the slots may change (an exception that passes writes there); of the records at ex (iterators) nothing is said -/
structure Un (fs ex : List Addr) (H H' : Hp) (h h' : Heap) : Prop where
  keep : ∀ b o, h.get? b = some o → H b = none → b ∉ fs → b ∉ ex → h'.get? b = some o
  slot : ∀ b o, h.get? b = some o → H b = none → b ∈ fs → b ∉ ex → ∃ sl, h'.get? b = some { o with slots := sl }
  free : ∀ b o, h.get? b = some o → H b = none → b ∉ ex → H' b = none
  there : ∀ b o, h.get? b = some o → b ∉ ex → ∃ o', h'.get? b = some o'
  tups : ∀ b xs, H b = some (.tup xs) → H' b = some (.tup xs)
  frzs : ∀ b o u, H b = some (.frz o u) → H' b = some (.frz o u)
  tbls : ∀ b ps, H b = some (.tbl ps) → ∃ more, H' b = some (.tbl (ps ++ more))
section
variable {fs fs' ex ex' : List Addr} {H H1 H2 : Hp} {h h1 h2 h' : Heap} {a x e : Addr} {o : HO}
theorem Un.any (u : Un fs ex H H1 h h1) {b : Addr} {ob : Obj} (q : h.get? b = some ob) (n : H b = none) (hx : b ∉ ex) : ∃ sl, h1.get? b = some { ob with slots := sl } := by
  by_cases hb : b ∈ fs
  · exact u.slot b ob q n hb hx
  · exact ⟨ob.slots, u.keep b ob q n hb hx⟩
theorem Un.kept (k : ∀ b u, h.get? b = some u → h'.get? b = some u) : Un fs ex H H h h' :=
  ⟨fun b ob q _ _ _ => k b ob q, fun b ob q _ _ _ => ⟨ob.slots, k b ob q⟩, fun _ _ _ n _ => n, fun b ob q _ => ⟨ob, k b ob q⟩, fun _ _ q => q, fun _ _ _ q => q, fun _ ps q => ⟨#[], by rw [q]; simp⟩⟩
theorem Un.refl : Un fs ex H H h h := Un.kept fun _ _ q => q
theorem Un.laid (k : ∀ b u, h.get? b = some u → h'.get? b = some u) (hp : h.objs.size ≤ a) (hn : H a = none) : Un fs ex H (upd H a o) h h' where
  keep := fun b u q _ _ _ => k b u q
  slot := fun b u q _ _ _ => ⟨u.slots, k b u q⟩
  free := fun b u q n _ => by rw [upd_ne (Nat.ne_of_lt (Nat.lt_of_lt_of_le (Heap.lt_size q) hp))]; exact n
  there := fun b u q _ => ⟨u, k b u q⟩
  tups := fun b xs q => by rw [upd_ne (ne_of_none q hn)]; exact q
  frzs := fun b u xs q => by rw [upd_ne (ne_of_none q hn)]; exact q
  tbls := fun b ps q => ⟨#[], by rw [upd_ne (ne_of_none q hn), q]; simp⟩
theorem Un.write (mu : Mut (H x)) (he : e = x ∨ H e = some (.own x)) (k : ∀ b u, b ≠ e → h.get? b = some u → h'.get? b = some u) (heo : ∃ u, h'.get? e = some u) : Un fs ex H (upd H x o) h h' := by
  have hx : ∀ b, H b = none → b ≠ x := fun b n z => by subst z; rw [n] at mu; exact mu
  have hb : ∀ b, H b = none → b ≠ e := fun b n z => by
    subst z
    rcases he with r | r
    · exact hx b n r
    · rw [n] at r; cases r
  have hm : ∀ b u, H b = some u → ¬ Mut (some u) → b ≠ x := fun b u q nm z => by subst z; rw [q] at mu; exact nm mu
  refine ⟨fun b u q n _ _ => k b u (hb b n) q, fun b u q n _ _ => ⟨u.slots, k b u (hb b n) q⟩, fun b u q n _ => by rw [upd_ne (hx b n)]; exact n, fun b u q _ => ?_,
    fun b xs q => by rw [upd_ne (hm b _ q fun z => z)]; exact q, fun b u xs q => by rw [upd_ne (hm b _ q fun z => z)]; exact q, fun b ps q => ⟨#[], by rw [upd_ne (hm b _ q fun z => z), q]; simp⟩⟩
  by_cases hbe : b = e
  · subst hbe; exact heo
  · exact ⟨u, k b u hbe q⟩
end

/-! ### the heap without what is tracked -/
def trk (h : Heap) (H : Hp) : List Addr := (List.range h.objs.size).filter fun a => (H a).isSome
def hidT (h : Heap) (H : Hp) : Heap := PySem.W.hideAll h (trk h H)
theorem hidT_size (h : Heap) (H : Hp) : (hidT h H).objs.size = h.objs.size := PySem.W.hideAll_size _ _
theorem hidT_get {h : Heap} {H : Hp} {b : Addr} {o : Obj} (e : h.get? b = some o) (n : H b = none) : (hidT h H).get? b = some o :=
  PySem.W.hideAll_get _ e fun hm => by
    have q : (H b).isSome = true := (List.mem_filter.mp hm).2
    rw [n] at q; simp at q
theorem of_hidT {h : Heap} {H : Hp} {b : Addr} {o : Obj} (e : (hidT h H).get? b = some o) : h.get? b = some o ∧ H b = none := by
  have e' : h.get? b = some o := PySem.W.of_hideAll (trk h H) e
  refine ⟨e', ?_⟩
  cases q : H b with
  | none => rfl
  | some x =>
    have hm : b ∈ trk h H := List.mem_filter.mpr ⟨List.mem_range.mpr (Heap.lt_size e'), by simp [q]⟩
    have z : (hidT h H).get? b = none := PySem.W.hideAll_none (trk h H) hm
    rw [z] at e; cases e

/-! ### OpenK's ledger, filled with every new object but one -/
end L2

namespace L2
open PySem PySem.Spec PyProof.Rows

/-- the module's facts, over the base: the heap at the law's entry without what is tracked there -/
structure Mod (K : PySem.W.Frag) (mg : Str → Option Value) (base : Heap) : Prop where
  kin : K.In base
  glob : base.Ns mainGlobals mg
  blt : ∃ mb, base.Ns builtinsNs mb ∧ ∀ x : Str, x ≠ "__name__" → mb x = bootBuiltins x
  nolimit : base.NoLimit

/-- the context: a def's body (or a comprehension's block) running. base: fixed through the whole law; s₀, H₀: the entry; outer: the frames whose slots others may change (a def's callers); stack: all frames that run;
   ex: iterators that were made ahead of the entry and are walked here (a comprehension's); fn: the names whose cells were made at the entry (a def: all; a comprehension's block: its own); calm: not within an except suite; pn: pins that every state bears; xe: what is wanted of an exception that leaves the code -/
structure Cx where
  prog : Program
  w : World
  K : PySem.W.Frag
  mg : Str → Option Value
  base : Heap
  A : Around
  N : List Str
  s₀ : Shared
  H₀ : Hp
  env : Env
  outer : List Env
  stack : List Env
  ex : List Addr
  fn : Str → Bool
  calm : Bool
  pn : List (Addr × Obj)
  xe : Value → Shared → Prop
/-- the callers' frames -/
def frs (l : List Env) : List Addr := l.filterMap (·.frame)
abbrev Cx.fs (X : Cx) : List Addr := frs X.outer

def Vis (sc : Scope) (x : Str) : Prop := sc.names.lookup x = some .local ∨ sc.names.lookup x = some .cell ∨ sc.names.lookup x = some .free
def Loc (sc : Scope) (x : Str) : Prop := sc.names.lookup x = some .local ∨ sc.names.lookup x = some .cell
def Look (env : Env) (h : Heap) (m : Str → Option Value) (x : Str) (u : Value) : Prop :=
  (env.kindOf x = some .local ∧ m x = some u) ∨ ((env.kindOf x = some .cell ∨ env.kindOf x = some .free) ∧ ∃ c, env.cells.lookup x = some c ∧ h.IsCell c (some u))

structure Cx.Ok (X : Cx) : Prop where
  mod : Mod X.K X.mg X.base
  kind : X.env.scope.kind = .function
  glob : X.env.globals = mainGlobals
  blt : X.env.builtins = builtinsNs
  above : X.s₀.heap.objs.size ≤ X.env.locals
  inj : ∀ x y c, X.env.cells.lookup x = some c → X.env.cells.lookup y = some c → x = y
  has : ∀ x, (X.env.kindOf x = some .cell ∨ X.env.kindOf x = some .free) → ∃ c, X.env.cells.lookup x = some c
  cab : ∀ x c, X.fn x = true → X.env.cells.lookup x = some c → X.s₀.heap.objs.size ≤ c
  hd : X.calm = true → X.A.handled = none
  frames : X.A.frames = some X.stack
  stk : X.stack = X.outer ∨ (X.stack = X.env :: X.outer ∧ X.env.frame = some X.env.locals)
  exf : ∀ b ∈ X.ex, b ≠ X.env.locals ∧ ∀ x c, X.env.cells.lookup x = some c → c ≠ b
  bs : ∀ b o, X.base.get? b = some o → X.s₀.heap.get? b = some o ∧ X.H₀ b = none
  bsz : X.base.objs.size ≤ X.s₀.heap.objs.size
  noex : ∀ b o, X.base.get? b = some o → b ∉ X.ex
  exfs : ∀ b ∈ X.ex, b ∉ X.fs
  funs : X.s₀.heap.FunFrames X.base X.outer
  frf : ∀ b ∈ X.fs, X.H₀ b = none

structure Inv (X : Cx) (pins : List (Addr × Obj)) (σ : List (Option V)) (H : Hp) (s : Shared) : Prop where
  ok : X.Ok
  os : s.os = X.s₀.os
  bare : AllBare s.gens
  base : Un X.fs X.ex X.H₀ H X.s₀.heap s.heap
  loc : ∃ m, s.heap.Ns X.env.locals m ∧ ∀ (i : Nat) (x : Str) (v : V), X.N[i]? = some x → σ[i]? = some (some v) → Vis X.env.scope x → ∃ u, RelV v u ∧ Look X.env s.heap m x u
  cell : ∀ x c, X.env.cells.lookup x = some c → ∃ v, s.heap.IsCell c v
  free : H X.env.locals = none
  freeC : ∀ x c, X.env.cells.lookup x = some c → H c = none
  pin : ∀ p ∈ X.pn ++ pins, s.heap.get? p.1 = some p.2 ∧ H p.1 = none ∧ p.1 ≠ X.env.locals ∧ p.1 ∉ X.fs ∧ ∀ v, p.2.data ≠ .cell v
  hok : HOk X.prog X.w H s.heap
  len : σ.length = X.N.length

section
variable {X : Cx} {pins : List (Addr × Obj)} {σ : List (Option V)} {H H' : Hp} {s : Shared} {h' : Heap}

theorem Cx.Ok.nofr (ok : X.Ok) {b : Addr} {o : Obj} (e : X.base.get? b = some o) : b ∉ X.fs := fun hb => by
  have := (ok.funs.mem hb).1
  rw [e] at this; cases this
theorem Inv.bs (I : Inv X pins σ H s) : ∀ b o, X.base.get? b = some o → s.heap.get? b = some o ∧ H b = none := fun b o e =>
  ⟨I.base.keep b o (I.ok.bs b o e).1 (I.ok.bs b o e).2 (I.ok.nofr e) (I.ok.noex b o e), I.base.free b o (I.ok.bs b o e).1 (I.ok.bs b o e).2 (I.ok.noex b o e)⟩
theorem Inv.bk (I : Inv X pins σ H s) : ∀ b o, X.base.get? b = some o → s.heap.get? b = some o := fun b o e => (I.bs b o e).1
theorem Inv.mod (I : Inv X pins σ H s) : Mod X.K X.mg X.base := I.ok.mod
theorem Inv.kIn (I : Inv X pins σ H s) : X.K.In s.heap := I.ok.mod.kin.keeps I.bk
theorem Inv.nolimit (I : Inv X pins σ H s) : s.heap.NoLimit := I.ok.mod.nolimit.keeps I.bk
theorem Inv.lt (I : Inv X pins σ H s) : X.env.locals < s.heap.objs.size := let ⟨_, hn, _⟩ := I.loc; hn.lt
theorem Inv.sz (I : Inv X pins σ H s) : X.s₀.heap.objs.size ≤ s.heap.objs.size := Nat.le_trans I.ok.above (Nat.le_of_lt I.lt)
theorem Inv.nofs (I : Inv X pins σ H s) {a : Addr} (h : s.heap.objs.size ≤ a) : a ∉ X.fs := fun hb => by
  obtain ⟨_, o, ho, _⟩ := I.ok.funs.mem hb
  exact absurd (Nat.lt_of_lt_of_le (Heap.lt_size ho) (Nat.le_trans I.sz h)) (Nat.lt_irrefl _)
theorem Inv.cne (I : Inv X pins σ H s) : ∀ x c, X.env.cells.lookup x = some c → c ≠ X.env.locals := fun x c e z => by
  obtain ⟨v, o, ho, hd⟩ := I.cell x c e
  obtain ⟨m, ⟨o', es, ep, ho', hd', _⟩, _⟩ := I.loc
  rw [z, ho'] at ho; cases ho; rw [hd'] at hd; cases hd
theorem Inv.funs (I : Inv X pins σ H s) : s.heap.FunFrames X.base X.outer := by
  have all : ∀ (l : List Env), (∀ b ∈ frs l, b ∈ X.fs) → X.s₀.heap.FunFrames X.base l → s.heap.FunFrames X.base l := by
    intro l
    induction l with
    | nil => intro _ _; trivial
    | cons env r ih =>
      intro hs hl
      obtain ⟨hk, ⟨L, o, hf, hn, ho, hd⟩, hr⟩ := hl
      have hL : L ∈ X.fs := hs L (by unfold frs; rw [List.filterMap_cons, hf]; exact List.mem_cons_self)
      obtain ⟨sl, e⟩ := I.base.slot L o ho (I.ok.frf L hL) hL fun z => I.ok.exfs L z hL
      exact ⟨hk, ⟨L, _, hf, hn, e, hd⟩, ih (fun b hb => hs b (by unfold frs; rw [List.filterMap_cons, hf]; exact List.mem_cons_of_mem _ hb)) hr⟩
  exact all X.outer (fun _ hb => hb) I.ok.funs

/-- the frames that run, for a call -/
theorem Inv.stack (I : Inv X pins σ H s) : s.heap.FunFrames X.base X.stack := by
  rcases I.ok.stk with e | ⟨e, hf⟩
  · rw [e]; exact I.funs
  · rw [e]
    obtain ⟨m, hn, _⟩ := I.loc
    refine .cons (by rw [I.ok.kind]; decide) hf hn ?_ I.funs
    exact Heap.get?_none_of_le (Nat.le_trans I.ok.bsz I.ok.above)
theorem Inv.stkSub (I : Inv X pins σ H s) : ∀ b ∈ frs X.stack, b ∈ X.env.locals :: X.fs := fun b hb => by
  rcases I.ok.stk with e | ⟨e, hf⟩
  · rw [e] at hb; exact List.mem_cons_of_mem _ hb
  · rw [e] at hb
    unfold frs at hb
    rw [List.filterMap_cons, hf] at hb
    exact hb
theorem Inv.stkFree (I : Inv X pins σ H s) : ∀ b ∈ frs X.stack, H b = none := fun b hb => by
  rcases List.mem_cons.mp (I.stkSub b hb) with e | hb
  · rw [e]; exact I.free
  · obtain ⟨_, o, ho, _⟩ := I.ok.funs.mem hb
    exact I.base.free b o ho (I.ok.frf b hb) fun z => I.ok.exfs b z hb

/-- THE STEP: the untracked objects but the frame and the records at ch are kept (the callers' frames up to slots), the frame's map is kept, the new abstract heap is held -/
theorem Inv.step {g' : Array GenState} {t' : Nat} {d' : Drawn} {ch : List Addr} (I : Inv X pins σ H s)
    (hch : ∀ b ∈ ch, (b ∈ X.ex ∨ X.s₀.heap.objs.size ≤ b) ∧ b ≠ X.env.locals ∧ (∀ x c, X.env.cells.lookup x = some c → c ≠ b) ∧ ∀ p ∈ X.pn ++ pins, p.1 ≠ b)
    (keep : ∀ b o, b ≠ X.env.locals → b ∉ X.fs → b ∉ ch → s.heap.get? b = some o → H b = none → h'.get? b = some o)
    (slot : ∀ b o, b ≠ X.env.locals → b ∈ X.fs → b ∉ ch → s.heap.get? b = some o → H b = none → ∃ sl, h'.get? b = some { o with slots := sl }) (free : ∀ b o, b ∉ ch → s.heap.get? b = some o → H b = none → H' b = none)
    (there : ∀ b o, b ∉ ch → s.heap.get? b = some o → ∃ o', h'.get? b = some o')
    (tups : ∀ b xs, H b = some (.tup xs) → H' b = some (.tup xs)) (frzs : ∀ b o u, H b = some (.frz o u) → H' b = some (.frz o u)) (tbls : ∀ b ps, H b = some (.tbl ps) → ∃ more, H' b = some (.tbl (ps ++ more)))
    (ns : ∀ m, s.heap.Ns X.env.locals m → h'.Ns X.env.locals m) (hok : HOk X.prog X.w H' h') (hg : AllBare g') :
    Inv X pins σ H' { s with heap := h', gens := g', drawn := d', toks := t' } := by
  have neL : ∀ b o, X.s₀.heap.get? b = some o → b ≠ X.env.locals := fun b o e => Nat.ne_of_lt (Nat.lt_of_lt_of_le (Heap.lt_size e) I.ok.above)
  have neC : ∀ b o, X.s₀.heap.get? b = some o → b ∉ X.ex → b ∉ ch := fun b o e hx hb => by
    rcases (hch b hb).1 with z | z
    · exact hx z
    · exact absurd (Nat.lt_of_lt_of_le (Heap.lt_size e) z) (Nat.lt_irrefl _)
  have cellK : ∀ x c, X.env.cells.lookup x = some c → ∀ v, s.heap.IsCell c v → h'.IsCell c v := fun x c e v ⟨o, ho, hd⟩ => by
    have nch : c ∉ ch := fun z => (hch c z).2.2.1 x c e rfl
    by_cases hc : c ∈ X.fs
    · obtain ⟨sl, q⟩ := slot c o (I.cne x c e) hc nch ho (I.freeC x c e)
      exact ⟨_, q, hd⟩
    · exact ⟨o, keep c o (I.cne x c e) hc nch ho (I.freeC x c e), hd⟩
  refine ⟨I.ok, I.os, hg, ⟨fun b o e n hb hx => ?_, fun b o e n hb hx => ?_, fun b o e n hx => ?_, fun b o e hx => ?_, fun b xs e => tups b xs (I.base.tups b xs e), fun b o xs e => frzs b o xs (I.base.frzs b o xs e), fun b ps e => ?_⟩, ?_, fun x c e => ?_, ?_, fun x c e => ?_, fun p hp => ?_, hok, I.len⟩
  · exact keep b o (neL b o e) hb (neC b o e hx) (I.base.keep b o e n hb hx) (I.base.free b o e n hx)
  · obtain ⟨sl, e1⟩ := I.base.slot b o e n hb hx
    obtain ⟨sl', e2⟩ := slot b _ (neL b o e) hb (neC b o e hx) e1 (I.base.free b o e n hx)
    exact ⟨sl', e2⟩
  · obtain ⟨o', e1⟩ := I.base.there b o e hx
    exact free b o' (neC b o e hx) e1 (I.base.free b o e n hx)
  · obtain ⟨o', e1⟩ := I.base.there b o e hx
    exact there b o' (neC b o e hx) e1
  · obtain ⟨m1, e1⟩ := I.base.tbls b ps e
    obtain ⟨m2, e2⟩ := tbls b _ e1
    exact ⟨m1 ++ m2, by rw [e2, Array.append_assoc]⟩
  · obtain ⟨m, hn, hl⟩ := I.loc
    refine ⟨m, ns m hn, fun i x v e1 e2 e3 => ?_⟩
    obtain ⟨u, r, l⟩ := hl i x v e1 e2 e3
    refine ⟨u, r, ?_⟩
    rcases l with l | ⟨k, c, e, z⟩
    · exact .inl l
    · exact .inr ⟨k, c, e, cellK x c e _ z⟩
  · obtain ⟨v, z⟩ := I.cell x c e
    exact ⟨v, cellK x c e v z⟩
  · obtain ⟨m, ⟨o, _, _, ho, _⟩, _⟩ := I.loc
    exact free _ o (fun z => (hch _ z).2.1 rfl) ho I.free
  · obtain ⟨v, o, ho, hd⟩ := I.cell x c e
    exact free c o (fun z => (hch c z).2.2.1 x c e rfl) ho (I.freeC x c e)
  · obtain ⟨e, n, ne, nf, d⟩ := I.pin p hp
    have nch : p.1 ∉ ch := fun z => (hch p.1 z).2.2.2 p hp rfl
    exact ⟨keep p.1 p.2 ne nf nch e n, free p.1 p.2 nch e n, ne, nf, d⟩
/-- .. where the frame's own object is kept too -/
theorem Inv.un {t' : Nat} (I : Inv X pins σ H s) (u : Un X.fs [] H H' s.heap h') (hok : HOk X.prog X.w H' h') : Inv X pins σ H' { s with heap := h', toks := t' } := by
  obtain ⟨m, ⟨o, es, ep, ho, r⟩, _⟩ := id I.loc
  obtain ⟨sl, hL⟩ := u.any ho I.free (by simp)
  exact I.step (g' := s.gens) (d' := s.drawn) (ch := []) (fun _ z => nomatch z) (fun b o _ hb _ e n => u.keep b o e n hb (by simp)) (fun b o _ hb _ e n => u.slot b o e n hb (by simp)) (fun b o _ e n => u.free b o e n (by simp)) (fun b o _ e => u.there b o e (by simp)) u.tups u.frzs u.tbls (fun m' hm => by
    obtain ⟨o', es', ep', ho', r'⟩ := hm
    rw [ho] at ho'; cases ho'
    exact ⟨_, es', ep', hL, r'⟩) hok I.bare
/-- behind a call (or a comprehension's block): the slots of this frame may have changed too, the records at ch may have turned -/
theorem Inv.call {g' : Array GenState} {t' : Nat} {d' : Drawn} {ch : List Addr} (I : Inv X pins σ H s) (u : Un (frs X.stack) ch H H' s.heap h') (hok : HOk X.prog X.w H' h') (hg : AllBare g')
    (hch : ∀ b ∈ ch, (b ∈ X.ex ∨ X.s₀.heap.objs.size ≤ b) ∧ b ≠ X.env.locals ∧ (∀ x c, X.env.cells.lookup x = some c → c ≠ b) ∧ ∀ p ∈ X.pn ++ pins, p.1 ≠ b) :
    Inv X pins σ H' { s with heap := h', gens := g', drawn := d', toks := t' } := by
  obtain ⟨m, ⟨o, es, ep, ho, r⟩, _⟩ := id I.loc
  obtain ⟨sl, hL⟩ := u.any ho I.free fun z => (hch _ z).2.1 rfl
  exact I.step (ch := ch) hch (fun b o hL hb hc e n => u.keep b o e n (fun z => (List.mem_cons.mp (I.stkSub b z)).elim hL hb) hc) (fun b o _ _ hc e n => u.any e n hc) (fun b o hc e n => u.free b o e n hc) (fun b o hc e => u.there b o e hc) u.tups u.frzs u.tbls (fun m' hm => by
    obtain ⟨o', es', ep', ho', r'⟩ := hm
    rw [ho] at ho'; cases ho'
    exact ⟨_, es', ep', hL, r'⟩) hok hg
/-- an untracked record of ours (an iterator) has turned -/
theorem Inv.turned {t' : Nat} {it : Addr} (I : Inv X pins σ H s) (k : ∀ b o, b ≠ it → s.heap.get? b = some o → h'.get? b = some o) (hn : H it = none) (hL : it ≠ X.env.locals)
    (h1 : it ∈ X.ex ∨ X.s₀.heap.objs.size ≤ it) (h2 : ∀ x c, X.env.cells.lookup x = some c → c ≠ it) (h3 : ∀ p ∈ X.pn ++ pins, p.1 ≠ it) : Inv X pins σ H { s with heap := h', toks := t' } := by
  have nit : ∀ b u, H b = some u → b ≠ it := fun b u e z => by rw [z, hn] at e; cases e
  refine I.step (g' := s.gens) (d' := s.drawn) (ch := [it]) (fun b hb => ?_) (fun b o _ _ hc e _ => k b o (fun z => hc (by simp [z])) e) (fun b o _ _ hc e _ => ⟨o.slots, k b o (fun z => hc (by simp [z])) e⟩) (fun _ _ _ _ n => n)
    (fun b o hc e => ⟨o, k b o (fun z => hc (by simp [z])) e⟩) (fun _ _ e => e) (fun _ _ _ e => e) (fun b ps e => ⟨#[], by rw [e]; simp⟩) (fun m hm => ?_) (fun b u e => ?_) I.bare
  · have e : b = it := by simpa using hb
    subst e
    exact ⟨h1, hL, h2, h3⟩
  · obtain ⟨o, es, ep, ho, r⟩ := hm
    exact ⟨o, es, ep, k _ o (Ne.symm hL) ho, r⟩
  · refine (I.hok b u e).stay (fun c v hc q => k c v ?_ q) (fun _ q => q) fun _ _ q => q
    rcases hc with z | z
    · rw [z]; exact nit b u e
    · exact nit c _ z
theorem Inv.tok (I : Inv X pins σ H s) (t : Nat) : Inv X pins σ H { s with toks := t } := I.un (h' := s.heap) (t' := t) Un.refl I.hok
/-- all objects kept -/
theorem Inv.kept {t' : Nat} (I : Inv X pins σ H s) (k : ∀ b u, s.heap.get? b = some u → h'.get? b = some u) : Inv X pins σ H { s with heap := h', toks := t' } := I.un (Un.kept k) (I.hok.kept k)
/-- a new object laid and tracked -/
theorem Inv.laid {a : Addr} {o : HO} {t' : Nat} (I : Inv X pins σ H s) (k : ∀ b u, s.heap.get? b = some u → h'.get? b = some u) (hp : s.heap.objs.size ≤ a) (new : ObjOk X.prog X.w (upd H a o) h' a o) :
    Inv X pins σ (upd H a o) { s with heap := h', toks := t' } := I.un (Un.laid k hp (I.hok.fresh hp)) (I.hok.laid k hp new)
/-- an object written -/
theorem Inv.write {x e : Addr} {o : HO} {t' : Nat} (I : Inv X pins σ H s) (mu : Mut (H x)) (he : e = x ∨ H e = some (.own x)) (k : ∀ b u, b ≠ e → s.heap.get? b = some u → h'.get? b = some u) (heo : ∃ u, h'.get? e = some u)
    (new : ObjOk X.prog X.w (upd H x o) h' x o) : Inv X pins σ (upd H x o) { s with heap := h', toks := t' } := I.un (Un.write mu he k heo) (I.hok.write mu he k heo new)
/-- forgetting slots, pins -/
theorem Inv.weak {σ' : List (Option V)} (I : Inv X pins σ H s) (hl : σ'.length = σ.length) (w : ∀ (i : Nat) v, σ'[i]? = some (some v) → σ[i]? = some (some v)) : Inv X pins σ' H s :=
  ⟨I.ok, I.os, I.bare, I.base, let ⟨m, hn, hl'⟩ := I.loc; ⟨m, hn, fun i x v e1 e2 e3 => hl' i x v e1 (w i v e2) e3⟩, I.cell, I.free, I.freeC, I.pin, I.hok, hl.trans I.len⟩
theorem Inv.pins_of {pins' : List (Addr × Obj)} (I : Inv X pins σ H s) (h : ∀ p ∈ pins', s.heap.get? p.1 = some p.2 ∧ H p.1 = none ∧ p.1 ≠ X.env.locals ∧ p.1 ∉ X.fs ∧ ∀ v, p.2.data ≠ .cell v) : Inv X pins' σ H s :=
  ⟨I.ok, I.os, I.bare, I.base, I.loc, I.cell, I.free, I.freeC, fun p hp => (List.mem_append.mp hp).elim (fun z => I.pin p (List.mem_append_left _ z)) (h p), I.hok, I.len⟩

theorem nodup_ix {N : List Str} (hN : N.Nodup) {i j : Nat} {x : Str} (a : N[i]? = some x) (b : N[j]? = some x) : i = j := by
  obtain ⟨h1, e1⟩ := List.getElem?_eq_some_iff.mp a
  obtain ⟨h2, e2⟩ := List.getElem?_eq_some_iff.mp b
  exact (List.getElem_inj hN).mp (e1.trans e2.symm)

/-- a name is stored; what changed -/
theorem store_ok2 {M : Model} {A : Around} {E : Value → Shared → Prop} {i : Nat} {x : Str} {v : V} {u : Value} {Q : Unit → Shared → Prop} (I : Inv X pins σ H s) (hN : X.N.Nodup) (hi : X.N[i]? = some x) (hx : Loc X.env.scope x) (r : RelV v u)
    (h : ∀ s', Inv X pins (σ.set i (some v)) H s' → (∃ a, Heap.SameBut a s.heap s'.heap ∧ (a = X.env.locals ∨ X.env.cells.lookup x = some a)) → Q () s') (hf : X.fn x = true ∨ X.env.scope.names.lookup x = some .local := by first | exact .inl rfl | exact .inr rfl | assumption) : wpAny M A (storeName X.env x u) Q E s := by
  obtain ⟨m, hn, hl⟩ := id I.loc
  have hcls : (X.env.scope.kind == .class || (X.env.scope.kind == .module && X.env.locals != X.env.globals)) = false := by rw [I.ok.kind]; rfl
  have hiσ : i < σ.length := by rw [I.len]; exact (List.getElem?_eq_some_iff.mp hi).1
  have cne := I.cne
  have tracked : ∀ {a : Addr} {h' : Heap}, (∃ o, s.heap.get? a = some o ∧ H a = none) → Heap.SameBut a s.heap h' → HOk X.prog X.w H h' := fun {a h'} ha hs b ob e => by
    obtain ⟨_, _, hfree⟩ := ha
    refine (I.hok b ob e).stay (fun c w' hc q => (hs.2 c ?_).trans q) (fun _ q => q) fun _ _ q => q
    rintro rfl
    rcases hc with rfl | hc
    · rw [hfree] at e; cases e
    · rw [hfree] at hc; cases hc
  rcases hx with hk | hk
  · refine wpAny_storeName_local hk hn (fun h' hn' hs => ?_) hcls
    obtain ⟨oL, _, _, hoL, _⟩ := id hn
    refine h _ ⟨I.ok, I.os, I.bare, ⟨fun b o e n hb hx => ?_, fun b o e n hb hx => ?_, I.base.free, fun b o e hx => ?_, I.base.tups, I.base.frzs, I.base.tbls⟩, ⟨_, hn', fun j y v' e1 e2 e3 => ?_⟩, fun y c e => ?_, I.free, I.freeC, fun p hp => ?_, tracked ⟨oL, hoL, I.free⟩ hs, by simpa using I.len⟩ ⟨_, hs, .inl rfl⟩
    · exact (hs.2 b (Nat.ne_of_lt (Nat.lt_of_lt_of_le (Heap.lt_size e) I.ok.above))).trans (I.base.keep b o e n hb hx)
    · obtain ⟨sl, e1⟩ := I.base.slot b o e n hb hx
      exact ⟨sl, (hs.2 b (Nat.ne_of_lt (Nat.lt_of_lt_of_le (Heap.lt_size e) I.ok.above))).trans e1⟩
    · obtain ⟨o', e1⟩ := I.base.there b o e hx
      exact ⟨o', (hs.2 b (Nat.ne_of_lt (Nat.lt_of_lt_of_le (Heap.lt_size e) I.ok.above))).trans e1⟩
    · by_cases hj : j = i
      · subst hj
        rw [hi] at e1; cases e1
        rw [List.getElem?_set_self hiσ] at e2
        cases e2
        exact ⟨u, r, .inl ⟨hk, by simp⟩⟩
      · rw [List.getElem?_set_ne (Ne.symm hj)] at e2
        obtain ⟨u', r', q⟩ := hl j y v' e1 e2 e3
        refine ⟨u', r', ?_⟩
        rcases q with ⟨k, e⟩ | ⟨k, c, e, z⟩
        · refine .inl ⟨k, ?_⟩
          have : y ≠ x := fun e => hj (nodup_ix hN e1 (e ▸ hi))
          simp [this, e]
        · exact .inr ⟨k, c, e, z.sameBut hs (cne y c e)⟩
    · obtain ⟨w', z⟩ := I.cell y c e
      exact ⟨w', z.sameBut hs (cne y c e)⟩
    · obtain ⟨e, n, ne, nf, d⟩ := I.pin p hp
      exact ⟨(hs.2 p.1 ne).trans e, n, ne, nf, d⟩
  · have hfn : X.fn x = true := by
      rcases hf with z | z
      · exact z
      · rw [z] at hk; cases hk
    obtain ⟨c, hc⟩ := I.ok.has x (.inl hk)
    obtain ⟨w', z⟩ := I.cell x c hc
    refine wpAny_storeName_cell I.ok.kind hk hc z (fun h' hc' hs => ?_)
    obtain ⟨oc, hoc, hocd⟩ := id z
    refine h { s with heap := h' } ⟨I.ok, I.os, I.bare, ⟨fun b o e n hb hx => ?_, fun b o e n hb hx => ?_, I.base.free, fun b o e hx => ?_, I.base.tups, I.base.frzs, I.base.tbls⟩, ⟨m, hn.sameBut hs (Ne.symm (cne x c hc)), fun j y v' e1 e2 e3 => ?_⟩, fun y c' e => ?_, I.free, I.freeC, fun p hp => ?_, tracked ⟨oc, hoc, I.freeC x c hc⟩ hs, by simpa using I.len⟩ ⟨c, hs, .inr hc⟩
    · exact (hs.2 b (Nat.ne_of_lt (Nat.lt_of_lt_of_le (Heap.lt_size e) (I.ok.cab x c hfn hc)))).trans (I.base.keep b o e n hb hx)
    · obtain ⟨sl, e1⟩ := I.base.slot b o e n hb hx
      exact ⟨sl, (hs.2 b (Nat.ne_of_lt (Nat.lt_of_lt_of_le (Heap.lt_size e) (I.ok.cab x c hfn hc)))).trans e1⟩
    · obtain ⟨o', e1⟩ := I.base.there b o e hx
      exact ⟨o', (hs.2 b (Nat.ne_of_lt (Nat.lt_of_lt_of_le (Heap.lt_size e) (I.ok.cab x c hfn hc)))).trans e1⟩
    · by_cases hj : j = i
      · subst hj
        rw [hi] at e1; cases e1
        rw [List.getElem?_set_self hiσ] at e2
        cases e2
        exact ⟨u, r, .inr ⟨.inl hk, c, hc, hc'⟩⟩
      · rw [List.getElem?_set_ne (Ne.symm hj)] at e2
        obtain ⟨u', r', q⟩ := hl j y v' e1 e2 e3
        refine ⟨u', r', ?_⟩
        rcases q with q | ⟨k, c', e, z'⟩
        · exact .inl q
        · refine .inr ⟨k, c', e, z'.sameBut hs ?_⟩
          rintro rfl
          exact hj (nodup_ix hN e1 (I.ok.inj _ _ _ e hc ▸ hi))
    · by_cases hcc : c' = c
      · subst hcc; exact ⟨_, hc'⟩
      · obtain ⟨w2, z2⟩ := I.cell y c' e
        exact ⟨w2, z2.sameBut hs hcc⟩
    · obtain ⟨e, n, ne, nf, d⟩ := I.pin p hp
      refine ⟨(hs.2 p.1 ?_).trans e, n, ne, nf, d⟩
      intro q
      rw [q, hoc] at e
      have q' : oc = p.2 := Option.some.inj e
      exact d w' (by rw [← q']; exact hocd)
theorem store_ok {M : Model} {A : Around} {E : Value → Shared → Prop} {i : Nat} {x : Str} {v : V} {u : Value} {Q : Unit → Shared → Prop} (I : Inv X pins σ H s) (hN : X.N.Nodup) (hi : X.N[i]? = some x) (hx : Loc X.env.scope x) (r : RelV v u)
    (h : ∀ s', Inv X pins (σ.set i (some v)) H s' → Q () s') (hf : X.fn x = true ∨ X.env.scope.names.lookup x = some .local := by first | exact .inl rfl | exact .inr rfl | assumption) : wpAny M A (storeName X.env x u) Q E s :=
  store_ok2 I hN hi hx r (fun s' I' _ => h s' I') hf
/-- behind a call or a block, the state as it is -/
theorem Inv.call' {s' : Shared} {ch : List Addr} (I : Inv X pins σ H s) (ho : s'.os = s.os) (u : Un (frs X.stack) ch H H' s.heap s'.heap) (hok : HOk X.prog X.w H' s'.heap) (hg : AllBare s'.gens)
    (hch : ∀ b ∈ ch, (b ∈ X.ex ∨ X.s₀.heap.objs.size ≤ b) ∧ b ≠ X.env.locals ∧ (∀ x c, X.env.cells.lookup x = some c → c ≠ b) ∧ ∀ p ∈ X.pn ++ pins, p.1 ≠ b) : Inv X pins σ H' s' := by
  obtain ⟨h', g', d', t', o'⟩ := s'
  have e : o' = s.os := ho
  subst e
  exact I.call (g' := g') (t' := t') (d' := d') u hok hg hch
end

/-! ### the judgements -/
/-- an exception: its class, its own dict's address (where it has one), the abstract heap behind it -/
abbrev XK := Value → Option Addr → Hp → Prop
abbrev St := List (Option V)
abbrev VK := V → Hp → Prop
/-- an expression's reading; a test's; an argument list's -/
abbrev TE := St → Hp → VK → Prop
abbrev TT := St → Hp → (Bool → Hp → Prop) → Prop
abbrev TA := St → Hp → (List V → Hp → Prop) → Prop
/-- what is wanted behind a statement -/
structure Ends where
  nx : St → Hp → Prop
  rt : VK
  bk : St → Hp → Prop := fun _ _ => False
  ct : St → Hp → Prop := fun _ _ => False
abbrev TS := Ends → St → Hp → Prop

def EP (X : Cx) (pins : List (Addr × Obj)) (σ : St) (Q : VK) (u : Value) (s' : Shared) : Prop := ∃ v H', Inv X pins σ H' s' ∧ RelV v u ∧ Q v H'
def TP (X : Cx) (pins : List (Addr × Obj)) (σ : St) (Q : Bool → Hp → Prop) (b : Bool) (s' : Shared) : Prop := ∃ H', Inv X pins σ H' s' ∧ Q b H'
def AP (X : Cx) (pins : List (Addr × Obj)) (σ : St) (Q : List V → Hp → Prop) (us : List Value) (s' : Shared) : Prop := ∃ vs H', Inv X pins σ H' s' ∧ Vals vs us ∧ Q vs H'
def SP (X : Cx) (pins : List (Addr × Obj)) (D : Ends) (f : Flow) (s' : Shared) : Prop :=
  match f with
  | .next => ∃ σ' H', Inv X pins σ' H' s' ∧ D.nx σ' H'
  | .brk => ∃ σ' H', Inv X pins σ' H' s' ∧ D.bk σ' H'
  | .cont => ∃ σ' H', Inv X pins σ' H' s' ∧ D.ct σ' H'
  | .ret u => ∃ v σ' H', Inv X pins σ' H' s' ∧ RelV v u ∧ D.rt v H'

def PE (X : Cx) (e : Expr) (t : TE) : Prop :=
  ∀ (pins : List (Addr × Obj)) (s : Shared) (σ : St) (H : Hp) (Q : VK), Inv X pins σ H s → t σ H Q → wpAny (model X.prog X.w) X.A (eval e X.env) (EP X pins σ Q) X.xe s
def PT (X : Cx) (e : Expr) (t : TT) : Prop :=
  ∀ (pins : List (Addr × Obj)) (s : Shared) (σ : St) (H : Hp) (Q : Bool → Hp → Prop), Inv X pins σ H s → t σ H Q → wpAny (model X.prog X.w) X.A (isTrue e X.env (eval e X.env)) (TP X pins σ Q) X.xe s
/-- a test whatever its 'whole' is (and, or) -/
def PW (X : Cx) (e : Expr) (t : TT) : Prop :=
  ∀ (whole : Sem Value) (pins : List (Addr × Obj)) (s : Shared) (σ : St) (H : Hp) (Q : Bool → Hp → Prop), Inv X pins σ H s → t σ H Q → wpAny (model X.prog X.w) X.A (isTrue e X.env whole) (TP X pins σ Q) X.xe s
theorem PW.pt {X : Cx} {e : Expr} {t : TT} (h : PW X e t) : PT X e t := h _
/-- an argument list (no star), from the left -/
def PA (X : Cx) (es : List Expr) (t : TA) : Prop :=
  ∀ (pos : Pos) (pins : List (Addr × Obj)) (s : Shared) (σ : St) (H : Hp) (Q : List V → Hp → Prop), Inv X pins σ H s → t σ H Q → wpAny (model X.prog X.w) X.A (spliced (backTo pos (starEach es X.env))) (AP X pins σ Q) X.xe s
def PS (X : Cx) (st : Stmt) (t : TS) : Prop :=
  ∀ (pins : List (Addr × Obj)) (s : Shared) (σ : St) (H : Hp) (D : Ends), Inv X pins σ H s → t D σ H → wpAny (model X.prog X.w) X.A (exec st X.env) (SP X pins D) X.xe s
def PSs (X : Cx) (st : List Stmt) (t : TS) : Prop :=
  ∀ (pins : List (Addr × Obj)) (s : Shared) (σ : St) (H : Hp) (D : Ends), Inv X pins σ H s → t D σ H → wpAny (model X.prog X.w) X.A (execs st X.env) (SP X pins D) X.xe s
/-- weaken the end -/
theorem thn {α : Type} {t : Sem α} {Q Q' : α → Shared → Prop} {M : Model} {A : Around} {E : Value → Shared → Prop} {s : Shared} (h : wpAny M A t Q E s) (hQ : ∀ a s, Q a s → Q' a s) : wpAny M A t Q' E s := wpAny_mono h hQ fun _ _ x => x
end L2

namespace L2
open PySem PySem.Spec PyProof.Rows
section
variable {X : Cx}

/-! ### names and constants -/
def tVar (i : Nat) : TE := fun σ H Q => ∃ v, σ[i]? = some (some v) ∧ Q v H
def tC (v : V) : TE := fun _ H Q => Q v H
theorem pe_var {i : Nat} {x : Str} {pos : Pos} (hN : X.N[i]? = some x) (hv : Vis X.env.scope x) (hd : (x == ("__debug__" : Str)) = false := by decide) (hcd : (x == ("__classdict__" : Str)) = false := by decide) : PE X (.Name x pos) (tVar i) := by
  intro pins s σ H Q I h
  obtain ⟨v, e, h⟩ := h
  obtain ⟨m, hn, hl⟩ := I.loc
  obtain ⟨u, r, l⟩ := hl i x v hN e hv
  have fin : EP X pins σ Q u s := ⟨v, H, I, r, h⟩
  rcases l with ⟨hk, hm⟩ | ⟨hk, c, hc, hcell⟩
  · exact wpAny_Name (wpAny_loadName_local I.ok.kind hk hn hm fin) hd
  · rcases hk with hk | hk
    · exact wpAny_Name (wpAny_loadName_cell I.ok.kind hk hc hcell fin) hd
    · exact wpAny_Name (wpAny_loadName_free I.ok.kind hk hc hcell fin hcd) hd
theorem pe_int {i j pos} : PE X (.Constant (.int i) j pos) (tC (.int i)) := fun _ _ _ H _ I h => wpAny_Constant_int ⟨.int i, H, I.tok _, ⟨_, rfl⟩, h⟩
theorem pe_bl {b j pos} : PE X (.Constant (.bool b) j pos) (tC (.bl b)) := fun _ _ _ H _ I h => Constant_bool ⟨.bl b, H, I, rfl, h⟩
theorem pe_non {j pos} : PE X (.Constant .none j pos) (tC .non) := fun _ _ _ H _ I h => Constant_none ⟨.non, H, I, rfl, h⟩
theorem pe_str {x j pos} : PE X (.Constant (.str x) j pos) (tC (.str x)) := fun _ _ _ H _ I h => Calls.Constant_str ⟨.str x, H, I.tok _, ⟨_, rfl⟩, h⟩

/-- a global name of the def -/
def Gl (X : Cx) (x : Str) : Prop := X.env.kindOf x = some .globalImplicit
theorem ld_glob {E : Value → Shared → Prop} {pins : List (Addr × Obj)} {s : Shared} {σ : St} {H : Hp} {x : Str} {u : Value} {pos : Pos} {Q : Value → Shared → Prop} (I : Inv X pins σ H s) (hg : Gl X x) (hm : X.mg x = some u) (h : Q u s)
    (hd : (x == ("__debug__" : Str)) = false := by decide) : wpAny (model X.prog X.w) X.A (eval (.Name x pos) X.env) Q E s :=
  Calls.Name_function_global I.ok.kind hg (Calls.loadGlobal_global (by rw [I.ok.glob]; exact I.mod.glob.keeps I.bk) hm h) hd
theorem ld_blt {E : Value → Shared → Prop} {pins : List (Addr × Obj)} {s : Shared} {σ : St} {H : Hp} {x : Str} {u : Value} {pos : Pos} {Q : Value → Shared → Prop} (I : Inv X pins σ H s) (hg : Gl X x) (hm : X.mg x = none) (hv : bootBuiltins x = some u) (h : Q u s)
    (hn : x ≠ "__name__" := by decide) (hd : (x == ("__debug__" : Str)) = false := by decide) : wpAny (model X.prog X.w) X.A (eval (.Name x pos) X.env) Q E s := by
  obtain ⟨mb, h1, h2⟩ := I.mod.blt
  exact Calls.Name_function_global I.ok.kind hg (Calls.loadGlobal_builtin (by rw [I.ok.glob]; exact I.mod.glob.keeps I.bk) hm (by rw [I.ok.blt]; exact h1.keeps I.bk) ((h2 x hn).trans hv) h) hd
/-- a module's constant, a class, a function, as a value -/
theorem pe_glob {x : Str} {v : V} {u : Value} {pos : Pos} (hg : Gl X x) (hm : X.mg x = some u) (r : RelV v u) (hd : (x == ("__debug__" : Str)) = false := by decide) : PE X (.Name x pos) (tC v) :=
  fun _ _ _ H _ I h => ld_glob I hg hm ⟨v, H, I, r, h⟩ hd
theorem pe_bltn {x : Str} {v : V} {u : Value} {pos : Pos} (hg : Gl X x) (hm : X.mg x = none) (hv : bootBuiltins x = some u) (r : RelV v u) (hn : x ≠ "__name__" := by decide) (hd : (x == ("__debug__" : Str)) = false := by decide) : PE X (.Name x pos) (tC v) :=
  fun _ _ _ H _ I h => ld_blt I hg hm hv ⟨v, H, I, r, h⟩ hn hd

/-! ### arithmetic -/
variable {a b : Expr} {ta tb : TE} {pos : Pos}
/-! ### comparisons -/
def PC (X : Cx) (op : CmpOp) (a b : Expr) (t : TE) : Prop :=
  ∀ (pins : List (Addr × Obj)) (s : Shared) (σ : St) (H : Hp) (Q : VK), Inv X pins σ H s → t σ H Q →
    wpAny (model X.prog X.w) X.A (eval a X.env) (fun v s₁ => wpAny (model X.prog X.w) X.A (eval b X.env) (fun u s₂ => wpAny (model X.prog X.w) X.A (compareOp op v u) (EP X pins σ Q) X.xe s₂) X.xe s₁) X.xe s
theorem nobehind (b : Expr) {op : CmpOp} (h : op ≠ .In) (h2 : op ≠ .NotIn) : behindInMarks op b = false := by
  have e1 : (op == CmpOp.In) = false := by cases op <;> first | rfl | exact absurd rfl h
  have e2 : (op == CmpOp.NotIn) = false := by cases op <;> first | rfl | exact absurd rfl h2
  cases b <;> simp [behindInMarks, e1, e2]
/-- is None -/
def tIsN (ta : TE) : TE := fun σ H Q => ta σ H fun x H1 => Q (.bl (decide (x = .non))) H1
def tNotN (ta : TE) : TE := fun σ H Q => ta σ H fun x H1 => Q (.bl (!decide (x = .non))) H1
theorem RelV.none_iff {x : V} {v : Value} (r : RelV x v) : (v == Value.none) = decide (x = .non) := by
  cases x with
  | non => cases r; rfl
  | bl _ => cases r; rfl
  | int _ => obtain ⟨t, rfl⟩ := r; rfl
  | str _ => obtain ⟨t, rfl⟩ := r; rfl
  | byt _ => obtain ⟨t, rfl⟩ := r; rfl
  | flt _ => obtain ⟨t, rfl⟩ := r; rfl
  | ref _ => cases r; rfl
  | ty _ => cases r; rfl
theorem pc_isN {j pos'} (ha : PE X a ta) : PC X .Is a (.Constant .none j pos') (tIsN ta) := by
  intro pins s σ H Q I h
  refine thn (ha pins s σ H _ I h) fun v s1 ⟨x, H1, I1, r1, q1⟩ => ?_
  exact Constant_none (is_none_gen ⟨.bl _, H1, I1, by rw [r1.none_iff]; rfl, q1⟩)
theorem pc_notN {j pos'} (ha : PE X a ta) : PC X .IsNot a (.Constant .none j pos') (tNotN ta) := by
  intro pins s σ H Q I h
  refine thn (ha pins s σ H _ I h) fun v s1 ⟨x, H1, I1, r1, q1⟩ => ?_
  exact Constant_none (isnot_none_gen ⟨.bl _, H1, I1, by rw [r1.none_iff]; rfl, q1⟩)
/-- a comparison as a value, as a test -/
def tB (t : TE) : TT := fun σ H Q => t σ H fun x H1 => ∃ c, x = .bl c ∧ Q c H1
theorem pe_cmp {op : CmpOp} {t : TE} (h : PC X op a b t) (h1 : behindInMarks op b = false := by first | exact nobehind _ (by decide) (by decide) | rfl) : PE X (.Compare a [op] [b] pos) t := fun pins s σ H Q I hw => wpAny_Compare1 (h pins s σ H Q I hw) h1
theorem pt_cmp {op : CmpOp} {t : TE} (h : PC X op a b t) (h1 : behindInMarks op b = false := by first | exact nobehind _ (by decide) (by decide) | rfl) : PT X (.Compare a [op] [b] pos) (tB t) := by
  intro pins s σ H Q I hw
  refine wpAny_isTrue_Compare1 (thn (h pins s σ H _ I hw) fun v s1 h1 => thn h1 fun u s2 h2 => thn h2 fun c s3 ⟨x, H1, I1, r1, q1⟩ => ?_) h1
  obtain ⟨d, rfl, q⟩ := q1
  cases r1
  exact wpAny_truthy_bool ⟨H1, I1, q⟩
/-- an expression whose value is a bool, as a test -/
theorem pt_val {e : Expr} {t : TE} (h : PE X e t) (he : ∀ whole, isTrue e X.env whole = (do let v ← whole; standAt e.pos; holding [v] (truthy v)) := by intro _; rfl) : PT X e (tB t) := by
  intro pins s σ H Q I hw
  refine isTrue_plain (thn (h pins s σ H _ I hw) fun v s1 ⟨x, H1, I1, r1, q1⟩ => ?_) (he _)
  obtain ⟨d, rfl, q⟩ := q1
  cases r1
  exact wpAny_truthy_bool ⟨H1, I1, q⟩

/-! ### and, or, not -/
variable {tA tB' : TT} {rest : List Expr}
def tAnd (t u : TT) : TT := fun σ H Q => t σ H fun c H1 => if c = true then u σ H1 Q else Q false H1
def tOr (t u : TT) : TT := fun σ H Q => t σ H fun c H1 => if c = true then Q true H1 else u σ H1 Q
def tNot (t : TT) : TT := fun σ H Q => t σ H fun c H1 => Q (!c) H1
theorem pw_and1 (ha : PT X a tA) : PW X (.BoolOp .And [a] pos) tA := by
  intro wh pins s σ H Q I h
  refine isTrue_and (thn (ha pins s σ H Q I h) fun c s1 e => ?_)
  cases c with
  | true => exact isTrue_and_nil e
  | false => exact e
theorem pw_or1 (ha : PT X a tA) : PW X (.BoolOp .Or [a] pos) tA := by
  intro wh pins s σ H Q I h
  refine isTrue_or (thn (ha pins s σ H Q I h) fun c s1 e => ?_)
  cases c with
  | false => exact isTrue_or_nil e
  | true => exact e
theorem pw_and (ha : PT X a tA) (hb : PW X (.BoolOp .And (b :: rest) pos) tB') : PW X (.BoolOp .And (a :: b :: rest) pos) (tAnd tA tB') := by
  intro wh pins s σ H Q I h
  refine isTrue_and (thn (ha pins s σ H _ I h) fun c s1 ⟨H1, I1, q1⟩ => ?_)
  cases c with
  | true => exact hb wh pins s1 σ H1 Q I1 q1
  | false => exact ⟨H1, I1, q1⟩
theorem pw_or (ha : PT X a tA) (hb : PW X (.BoolOp .Or (b :: rest) pos) tB') : PW X (.BoolOp .Or (a :: b :: rest) pos) (tOr tA tB') := by
  intro wh pins s σ H Q I h
  refine isTrue_or (thn (ha pins s σ H _ I h) fun c s1 ⟨H1, I1, q1⟩ => ?_)
  cases c with
  | true => exact ⟨H1, I1, q1⟩
  | false => exact hb wh pins s1 σ H1 Q I1 q1
theorem pt_not (ha : PT X a tA) : PT X (.UnaryOp .Not a pos) (tNot tA) := by
  intro pins s σ H Q I h
  exact isTrue_not (ha pins s σ H (fun c H1 => Q (!c) H1) I h)
/-- .. as values (bools) -/
def tAndV (ta tb : TE) : TE := fun σ H Q => ta σ H fun x H1 => ∃ c, x = .bl c ∧ if c = true then tb σ H1 Q else Q (.bl false) H1
def tOrV (ta tb : TE) : TE := fun σ H Q => ta σ H fun x H1 => ∃ c, x = .bl c ∧ if c = true then Q (.bl true) H1 else tb σ H1 Q
theorem pe_one {op} {t : TE} (h : PE X a t) : PE X (.BoolOp op [a] pos) t := fun pins s σ H Q I hw => BoolOp_one (h pins s σ H Q I hw)
theorem pe_and (ha : PE X a ta) (hb : PE X (.BoolOp .And (b :: rest) pos) tb) : PE X (.BoolOp .And (a :: b :: rest) pos) (tAndV ta tb) := by
  intro pins s σ H Q I h
  refine BoolOp_and (thn (ha pins s σ H _ I h) fun v s1 ⟨x, H1, I1, r1, q1⟩ => ?_)
  obtain ⟨c, rfl, q1⟩ := q1
  cases r1
  refine wpAny_truthy_bool ?_
  cases c with
  | true => exact hb pins s1 σ H1 Q I1 q1
  | false => exact ⟨.bl false, H1, I1, rfl, q1⟩
theorem pe_or (ha : PE X a ta) (hb : PE X (.BoolOp .Or (b :: rest) pos) tb) : PE X (.BoolOp .Or (a :: b :: rest) pos) (tOrV ta tb) := by
  intro pins s σ H Q I h
  refine BoolOp_or (thn (ha pins s σ H _ I h) fun v s1 ⟨x, H1, I1, r1, q1⟩ => ?_)
  obtain ⟨c, rfl, q1⟩ := q1
  cases r1
  refine wpAny_truthy_bool ?_
  cases c with
  | false => exact hb pins s1 σ H1 Q I1 q1
  | true => exact ⟨.bl true, H1, I1, rfl, q1⟩
/-- a if t else b -/
def tIf (t : TT) (ta tb : TE) : TE := fun σ H Q => t σ H fun c H1 => if c = true then ta σ H1 Q else tb σ H1 Q
theorem pe_ifExp {c : Expr} (hc : PT X c tA) (ha : PE X a ta) (hb : PE X b tb) : PE X (.IfExp c a b pos) (tIf tA ta tb) := by
  intro pins s σ H Q I h
  refine wpAny_IfExp (thn (hc pins s σ H _ I h) fun d s1 ⟨H1, I1, q1⟩ => ?_)
  cases d with
  | true => exact ha pins s1 σ H1 Q I1 q1
  | false => exact hb pins s1 σ H1 Q I1 q1
end
end L2

namespace L2
open PySem PySem.Spec PyProof.Rows

/-! ### a list, a tuple that is read: tracked, frozen, or an object of the module -/
def SqL (K : PySem.W.Frag) (H : Hp) (a : Addr) (xs : List V) : Prop :=
  Rd H a (.lst xs) ∨
    ∃ (o : Obj) (its : Array Value) (n : Nat), K.lookup a = some o ∧ o.cls = .type "list" ∧ o.dict = none ∧ o.data = .seq its n ∧ its.size ≤ sizeLine ∧ Vals xs its.toList
def SqT (K : PySem.W.Frag) (H : Hp) (a : Addr) (xs : List V) : Prop :=
  Rd H a (.tup xs) ∨
    ∃ (o : Obj) (its : Array Value) (n : Nat), K.lookup a = some o ∧ o.cls = .type "tuple" ∧ o.data = .seq its n ∧ its.size ≤ sizeLine ∧ Vals xs its.toList
def absV : Value → Option V
  | .none => some .non
  | .bool b => some (.bl b)
  | .int i _ => some (.int i)
  | .str x _ => some (.str x)
  | .bytes b _ => some (.byt b)
  | .float b _ => some (.flt b)
  | .ref a => some (.ref a)
  | .type n => some (.ty n)
  | _ => none
theorem RelV.abs {x : V} {u : Value} (r : RelV x u) : absV u = some x := by
  cases x with
  | non => cases r; rfl
  | bl _ => cases r; rfl
  | int _ => obtain ⟨t, rfl⟩ := r; rfl
  | str _ => obtain ⟨t, rfl⟩ := r; rfl
  | byt _ => obtain ⟨t, rfl⟩ := r; rfl
  | flt _ => obtain ⟨t, rfl⟩ := r; rfl
  | ref _ => cases r; rfl
  | ty _ => cases r; rfl
theorem RelV.inj {x y : V} {u : Value} (r : RelV x u) (q : RelV y u) : x = y := Option.some.inj (r.abs.symm.trans q.abs)
theorem Vals.inj : ∀ {xs ys : List V} {us : List Value}, Vals xs us → Vals ys us → xs = ys
  | _, _, _, .nil, .nil => rfl
  | _, _, _, .cons r t, .cons r' t' => by rw [r.inj r', Vals.inj t t']
section
variable {X : Cx} {pins : List (Addr × Obj)} {σ : St} {H : Hp} {s : Shared} {a : Addr} {xs ys : List V}
theorem SqL.of {K : PySem.W.Frag} (h : H a = some (.lst xs)) : SqL K H a xs := .inl (.inl h)
theorem SqT.of {K : PySem.W.Frag} (h : H a = some (.tup xs)) : SqT K H a xs := .inl (.inl h)
theorem Inv.list (I : Inv X pins σ H s) (h : SqL X.K H a xs) : ∃ its : List Value, Vals xs its ∧ PlainL s.heap a its.toArray ∧ xs.length ≤ sizeLine := by
  rcases h with h | ⟨o, its, n, hk, hc, hd, hs, hz, r⟩
  · obtain ⟨z, its, n, r, e⟩ := h.ok I.hok
    exact ⟨its, r, ⟨_, n, e, rfl, rfl, rfl⟩, z⟩
  · refine ⟨its.toList, r, ⟨o, n, I.kIn a o hk, hc, hd, by simpa using hs⟩, ?_⟩
    have e := r.length
    simp only [Array.length_toList] at e
    omega
theorem Inv.tuple (I : Inv X pins σ H s) (h : SqT X.K H a xs) : ∃ its : List Value, Vals xs its ∧ IsTup s.heap a its.toArray ∧ xs.length ≤ sizeLine := by
  rcases h with h | ⟨o, its, n, hk, hc, hs, hz, r⟩
  · obtain ⟨z, its, r, p⟩ := h.ok I.hok
    exact ⟨its, r, p, z⟩
  · refine ⟨its.toList, r, ⟨o, I.kIn a o hk, hc, n, by simpa using hs⟩, ?_⟩
    have e := r.length
    simp only [Array.length_toList] at e
    omega
theorem Inv.list_inj (I : Inv X pins σ H s) (h : SqL X.K H a xs) (h' : SqL X.K H a ys) : xs = ys := by
  obtain ⟨its, r, ⟨o, n, e, _, _, d⟩, _⟩ := I.list h
  obtain ⟨its', r', ⟨o', n', e', _, _, d'⟩, _⟩ := I.list h'
  rw [e] at e'; cases e'
  rw [d] at d'
  injection d' with d1 _
  have : its = its' := by simpa using congrArg Array.toList d1
  subst this
  exact r.inj r'
theorem Inv.tuple_inj (I : Inv X pins σ H s) (h : SqT X.K H a xs) (h' : SqT X.K H a ys) : xs = ys := by
  obtain ⟨its, r, ⟨o, e, _, n, d⟩, _⟩ := I.tuple h
  obtain ⟨its', r', ⟨o', e', _, n', d'⟩, _⟩ := I.tuple h'
  rw [e] at e'; cases e'
  rw [d] at d'
  injection d' with d1 _
  have : its = its' := by simpa using congrArg Array.toList d1
  subst this
  exact r.inj r'
end

/-! ### another wish about exceptions -/
abbrev Cx.wish (X : Cx) (E : Value → Shared → Prop) : Cx := { X with xe := E }
/-- no exception leaves -/
abbrev Cx.nox (X : Cx) : Cx := X.wish fun _ _ => False
theorem Cx.Ok.wish {X : Cx} (ok : X.Ok) (E : Value → Shared → Prop) : (X.wish E).Ok :=
  ⟨ok.mod, ok.kind, ok.glob, ok.blt, ok.above, ok.inj, ok.has, ok.cab, ok.hd, ok.frames, ok.stk, ok.exf, ok.bs, ok.bsz, ok.noex, ok.exfs, ok.funs, ok.frf⟩
theorem Cx.Ok.unwish {X : Cx} {E : Value → Shared → Prop} (ok : (X.wish E).Ok) : X.Ok :=
  ⟨ok.mod, ok.kind, ok.glob, ok.blt, ok.above, ok.inj, ok.has, ok.cab, ok.hd, ok.frames, ok.stk, ok.exf, ok.bs, ok.bsz, ok.noex, ok.exfs, ok.funs, ok.frf⟩
section
variable {X : Cx} {pins : List (Addr × Obj)} {σ : St} {H : Hp} {s : Shared} {E : Value → Shared → Prop}
theorem Inv.wish (I : Inv X pins σ H s) (E : Value → Shared → Prop) : Inv (X.wish E) pins σ H s := ⟨I.ok.wish E, I.os, I.bare, I.base, I.loc, I.cell, I.free, I.freeC, I.pin, I.hok, I.len⟩
theorem Inv.unwish (I : Inv (X.wish E) pins σ H s) : Inv X pins σ H s := ⟨I.ok.unwish, I.os, I.bare, I.base, I.loc, I.cell, I.free, I.freeC, I.pin, I.hok, I.len⟩
theorem SP.unwish {D : Ends} {f : Flow} {s' : Shared} (h : SP (X.wish E) pins D f s') : SP X pins D f s' := by
  cases f with
  | next => obtain ⟨σ', H', I, q⟩ := h; exact ⟨σ', H', I.unwish, q⟩
  | brk => obtain ⟨σ', H', I, q⟩ := h; exact ⟨σ', H', I.unwish, q⟩
  | cont => obtain ⟨σ', H', I, q⟩ := h; exact ⟨σ', H', I.unwish, q⟩
  | ret u => obtain ⟨v, σ', H', I, r, q⟩ := h; exact ⟨v, σ', H', I.unwish, r, q⟩
theorem PSs.nox {st : List Stmt} {t : TS} (h : PSs X.nox st t) : PSs X st t := fun pins s σ H D I hw =>
  wpAny_mono (h pins s σ H D (I.wish _) hw) (fun _ _ q => q.unwish) fun _ _ z => False.elim z
end

/-! ### blocks and small statements -/
section
variable {X : Cx} {st : Stmt} {rest : List Stmt} {t u : TS} {e : Expr} {te : TE} {pos : Pos}
def tNext : TS := fun D σ H => D.nx σ H
def tSeq (t u : TS) : TS := fun D σ H => t { D with nx := u D } σ H
theorem pss_nil : PSs X [] tNext := fun _ _ σ H _ I h => wpAny_execs_nil ⟨σ, H, I, h⟩
theorem pss_cons (h1 : PS X st t) (h2 : PSs X rest u) : PSs X (st :: rest) (tSeq t u) := by
  intro pins s σ H D I h
  refine wpAny_execs_cons (thn (h1 pins s σ H { D with nx := u D } I h) fun f s1 q => ?_)
  cases f with
  | next =>
    obtain ⟨σ', H', I', q⟩ := q
    exact h2 pins s1 σ' H' D I' q
  | ret v => exact q
  | brk => exact q
  | cont => exact q
theorem pss_one (h1 : PS X st t) : PSs X [st] t := by
  intro pins s σ H D I h
  refine wpAny_execs_cons (thn (h1 pins s σ H D I h) fun f s1 q => ?_)
  cases f with
  | next => exact wpAny_execs_nil q
  | ret v => exact q
  | brk => exact q
  | cont => exact q
/-- in a def's body nothing is shown -/
theorem Inv.quiet {pins : List (Addr × Obj)} {σ : St} {H : Hp} {s : Shared} (I : Inv X pins σ H s) : interactive X.env = false := by simp [interactive, I.ok.kind]
/-- an expression whose value is dropped -/
def tDrop (te : TE) : TS := fun D σ H => te σ H fun _ H1 => D.nx σ H1
theorem ps_expr (he : PE X e te) (hs : swapsWith e none pos.line X.env = pure false := by rfl) : PS X (.Expr e pos) (tDrop te) := by
  intro pins s σ H D I h
  exact wpAny_Expr_any (thn (he pins s σ H _ I h) fun v s1 ⟨x, H1, I1, r1, q1⟩ => ⟨σ, H1, I1, q1⟩) I.quiet hs
def tRet (te : TE) : TS := fun D σ H => te σ H D.rt
theorem ps_ret (he : PE X e te) : PS X (.Return (some e) pos) (tRet te) := by
  intro pins s σ H D I h
  exact wpAny_Return_some (thn (he pins s σ H _ I h) fun v s1 ⟨x, H1, I1, r1, q1⟩ => ⟨x, σ, H1, I1, r1, q1⟩)
def tIfS (c : TT) (t u : TS) : TS := fun D σ H => c σ H fun b H1 => if b = true then t D σ H1 else u D σ H1
theorem ps_if {c : Expr} {a b : List Stmt} {tc : TT} (hc : PT X c tc) (ha : PSs X a t) (hb : PSs X b u) : PS X (.If c a b pos) (tIfS tc t u) := by
  intro pins s σ H D I h
  refine wpAny_If (thn (hc pins s σ H _ I h) fun d s1 ⟨H1, I1, q1⟩ => ?_)
  cases d with
  | true => exact ha pins s1 σ H1 D I1 q1
  | false => exact hb pins s1 σ H1 D I1 q1
end

/-! ### targets -/
abbrev TG := V → St → Hp → (St → Hp → Prop) → Prop
abbrev TGs := List V → St → Hp → (St → Hp → Prop) → Prop
def PG (X : Cx) (target : Expr) (t : TG) : Prop :=
  ∀ (pins : List (Addr × Obj)) (s : Shared) (σ : St) (H : Hp) (v : V) (u : Value) (Q : St → Hp → Prop), Inv X pins σ H s → RelV v u → t v σ H Q →
    wpAny (model X.prog X.w) X.A (assign target X.env u) (fun _ s' => ∃ σ' H', Inv X pins σ' H' s' ∧ Q σ' H') X.xe s
/-- several targets, one after another -/
def PGs (X : Cx) (ts : List Expr) (t : TGs) : Prop :=
  ∀ (pins : List (Addr × Obj)) (s : Shared) (σ : St) (H : Hp) (vs : List V) (us : List Value) (Q : St → Hp → Prop), Inv X pins σ H s → Vals vs us → t vs σ H Q →
    wpAny (model X.prog X.w) X.A (assignInOrder ((assignEach ts X.env).map (·.2)) us) (fun _ s' => ∃ σ' H', Inv X pins σ' H' s' ∧ Q σ' H') X.xe s
/-- o[i] = v, by values -/
abbrev TSet := V → V → V → Hp → (Hp → Prop) → Prop
def PSet (X : Cx) (t : TSet) : Prop :=
  ∀ (pins : List (Addr × Obj)) (s : Shared) (σ : St) (H : Hp) (o i v : V) (ov iv u : Value) (Q : Hp → Prop), Inv X pins σ H s → RelV o ov → RelV i iv → RelV v u → t o i v H Q →
    wpAny (model X.prog X.w) X.A (setItem ov iv u) (fun _ s' => ∃ H', Inv X pins σ H' s' ∧ Q H') X.xe s
/-- a op= b, by values -/
abbrev TIp := V → V → Hp → VK → Prop
def PIp (X : Cx) (op : Operator) (t : TIp) : Prop :=
  ∀ (pins : List (Addr × Obj)) (s : Shared) (σ : St) (H : Hp) (x y : V) (v u : Value) (Q : VK), Inv X pins σ H s → RelV x v → RelV y u → t x y H Q →
    wpAny (model X.prog X.w) X.A (inplaceOp op v u) (EP X pins σ Q) X.xe s
section
variable {X : Cx} {pos : Pos}
def gName (i : Nat) : TG := fun v σ H Q => Q (σ.set i (some v)) H
theorem pg_name {i : Nat} {x : Str} (hN : X.N.Nodup) (hi : X.N[i]? = some x) (hx : Loc X.env.scope x) (hf : X.fn x = true ∨ X.env.scope.names.lookup x = some .local := by first | exact .inl rfl | exact .inr rfl | assumption) : PG X (.Name x pos) (gName i) := by
  intro pins s σ H v u Q I r h
  exact wpAny_assign_Name (store_ok I hN hi hx r (fun s' I' => ⟨_, H, I', h⟩) hf)
def gNil : TGs := fun vs σ H Q => vs = [] ∧ Q σ H
def gCons (t : TG) (u : TGs) : TGs := fun vs σ H Q => ∃ v r, vs = v :: r ∧ t v σ H fun σ' H' => u r σ' H' Q
theorem pgs_nil : PGs X [] gNil := by
  intro pins s σ H vs us Q I r h
  obtain ⟨e, h⟩ := h
  subst e
  cases r
  exact assignInOrder_nil ⟨σ, H, I, h⟩
theorem pgs_cons {e : Expr} {es : List Expr} {t : TG} {u : TGs} (h1 : PG X e t) (h2 : PGs X es u)
    (hs : (assignEach (e :: es) X.env).map (·.2) = assign e X.env :: (assignEach es X.env).map (·.2) := by rfl) : PGs X (e :: es) (gCons t u) := by
  intro pins s σ H vs us Q I r h
  obtain ⟨v, vr, e1, h⟩ := h
  subst e1
  cases r with
  | cons r rr =>
    rw [hs]
    refine assignInOrder_cons (thn (h1 pins s σ H _ _ _ I r h) fun _ s1 ⟨σ1, H1, I1, q1⟩ => ?_)
    exact h2 pins s1 σ1 H1 _ _ Q I1 rr q1
/-- (a, b, ..) = a tuple of that length -/
def gTup (K : PySem.W.Frag) (n : Nat) (t : TGs) : TG := fun v σ H Q => ∃ a xs, v = .ref a ∧ SqT K H a xs ∧ xs.length = n ∧ t xs σ H Q
theorem pg_tup {es : List Expr} {k : Nat} {t : TGs} {n : Nat} (hc : X.calm = true) (h : PGs X es t)
    (hn : (assignEach es X.env).length = n := by rfl) (hst : (assignEach es X.env).findIdx? (·.1) = none := by rfl) : PG X (.Tuple es k pos) (gTup X.K n t) := by
  intro pins s σ H v u Q I r hw
  obtain ⟨a, xs, e1, hq, hl, hw⟩ := hw
  subst e1
  cases r
  obtain ⟨its, rv, ht, hz⟩ := I.tuple hq
  refine assign_Tuple_tuple (I.ok.hd hc) ht (by simp [hn, ← hl, rv.length]) hst fun h' hx => ?_
  have I1 : Inv X pins σ H { s with heap := h' } := I.kept (t' := s.toks) fun b o e => hx b o (Nat.ne_of_lt (Heap.lt_size e)) e
  exact h pins _ σ H xs _ Q I1 (by simpa using rv) hw
/-- o[i] = .. -/
def gSub (to ti : TE) (t : TSet) : TG := fun v σ H Q => to σ H fun o H1 => ti σ H1 fun i H2 => t o i v H2 fun H3 => Q σ H3
theorem pg_sub {o i : Expr} {to ti : TE} {t : TSet} (ho : PE X o to) (hi : PE X i ti) (hs : PSet X t)
    (ha : ∀ v, assign (.Subscript o i pos) X.env v = (do
      let ov ← holding [v] (eval o X.env)
      let iv ← holding [v, ov] (eval i X.env)
      standAt pos
      holding [v, ov, iv] (setItem ov iv v)
      release [v, ov, iv] []) := by intro _; rfl) : PG X (.Subscript o i pos) (gSub to ti t) := by
  intro pins s σ H v u Q I r h
  rw [ha]
  refine wpAny_bind (wpAny_holding (thn (ho pins s σ H _ I h) fun ov s1 ⟨x, H1, I1, r1, q1⟩ => ?_))
  refine wpAny_bind (wpAny_holding (thn (hi pins s1 σ H1 _ I1 q1) fun iv s2 ⟨y, H2, I2, r2, q2⟩ => ?_))
  refine wpAny_bind (wpAny_standAt (wpAny_bind (wpAny_holding (thn (hs pins s2 σ H2 x y v ov iv u _ I2 r1 r2 r q2) fun _ s3 ⟨H3, I3, q3⟩ => ?_))))
  exact wpAny_release ⟨σ, H3, I3, q3⟩
/-- target = value -/
def tAsg (te : TE) (g : TG) : TS := fun D σ H => te σ H fun x H1 => g x σ H1 D.nx
theorem ps_asg {tg e : Expr} {te : TE} {g : TG} (he : PE X e te) (hg : PG X tg g) (hs : swapsWithSole [tg] e pos.line X.env = pure false := by rfl) (hw : swappedStores [tg] e X.env = pure none := by rfl)
    (h1 : (assignEach [tg] X.env).map (·.2) = [assign tg X.env] := by rfl) : PS X (.Assign [tg] e pos) (tAsg te g) := by
  intro pins s σ H D I h
  refine wpAny_Assign_stores (thn (he pins s σ H _ I h) fun v s1 ⟨x, H1, I1, r1, q1⟩ => ?_) hs hw
  rw [h1]
  exact thn (hg pins s1 σ H1 x v _ I1 r1 q1) fun _ s2 q => q
/-- name = value -/
theorem ps_set {i : Nat} {x : Str} {e : Expr} {te : TE} {pos' : Pos} (hN : X.N.Nodup) (hi : X.N[i]? = some x) (hx : Loc X.env.scope x) (he : PE X e te) (hs : swapsWith e (some (.Name x pos')) pos.line X.env = pure false := by rfl) (hf : X.fn x = true ∨ X.env.scope.names.lookup x = some .local := by first | exact .inl rfl | exact .inr rfl | assumption) :
    PS X (.Assign [.Name x pos'] e pos) (tAsg te (gName i)) := by
  intro pins s σ H D I h
  refine wpAny_Assign_Name (thn (he pins s σ H _ I h) fun v s1 ⟨y, H1, I1, r1, q1⟩ => ?_) hs
  exact store_ok I1 hN hi hx r1 (fun s2 I2 => ⟨_, H1, I2, q1⟩) hf
/-- a, b = x, y with plain local names: stored from the right; the pair itself is not tracked (the opening rows as in PyProof/Rows/TupAssign.lean:23) -/
def tPar (i j : Nat) (ta : TA) : TS := fun D σ H => ta σ H fun vs H1 => ∃ v w, vs = [v, w] ∧ D.nx ((σ.set i (some v)).set j (some w)) H1
theorem ps_par {i j : Nat} {x y : Str} {a b : Expr} {ta : TA} {px py pt : Pos} {kt k2 pt2} (hc : X.calm = true) (hN : X.N.Nodup) (hi : X.N[i]? = some x) (hj : X.N[j]? = some y) (hij : i ≠ j)
    (hx : X.env.scope.names.lookup x = some .local) (hy : X.env.scope.names.lookup y = some .local) (ha : PA X [a, b] ta)
    (hw : swappedStores [.Tuple [.Name x px, .Name y py] kt pt] (.Tuple [a, b] k2 pt2) X.env = pure (some [x, y]))
    (hs : swapsWithSole [.Tuple [.Name x px, .Name y py] kt pt] (.Tuple [a, b] k2 pt2) pos.line X.env = pure false := by rfl) :
    PS X (.Assign [.Tuple [.Name x px, .Name y py] kt pt] (.Tuple [a, b] k2 pt2) pos) (tPar i j ta) := by
  intro pins s σ H D I h
  rw [exec_Assign_arm]
  refine wpAny_bind (wpAny_standAt ?_)
  rw [hs]
  refine wpAny_bind (wpAny_pure ?_)
  rw [if_neg (by decide)]
  refine wpAny_bind (Tuple_ (thn (ha _ pins s σ H _ I h) fun us s1 ⟨vs, H1, I1, r1, q1⟩ => ?_))
  obtain ⟨v, w, e1, q1⟩ := q1
  subst e1
  obtain ⟨u1, u2, rfl, rv, rw'⟩ : ∃ u1 u2, us = [u1, u2] ∧ RelV v u1 ∧ RelV w u2 := by
    cases r1 with
    | cons p q =>
      cases q with
      | cons p' q' =>
        cases q'
        exact ⟨_, _, rfl, p, p'⟩
  refine wpAny_newObj_type ?_ (by show 2 ≤ sizeLine; decide)
  have I2 : Inv X pins σ H1 { s1 with heap := s1.heap.push { cls := .type "tuple", data := .seq [u1, u2].toArray } } := I1.kept (t' := s1.toks) fun b o e => Heap.get?_push_of_some _ e
  rw [hw]
  refine wpAny_bind (wpAny_pure ?_)
  show wpAny (model X.prog X.w) X.A (do rule "assign.swapped-stores"; let items ← unpackItems (.ref s1.heap.objs.size) 2 none; assignInOrder [fun v => bindName X.env y v, fun v => bindName X.env x v] items.reverse; pure Flow.next) _ _ _
  refine wpAny_bind (wpAny_rule (wpAny_bind (unpackItems_tuple (items := #[u1, u2]) (I.ok.hd hc) (IsTup.new s1.heap _) fun h' hx' => ?_)))
  have I3 := I2.kept (h' := h') (t' := s1.toks) fun b o e => hx' b o (Nat.ne_of_lt (Heap.lt_size e)) e
  show wpAny _ _ (assignInOrder [fun v => bindName X.env y v, fun v => bindName X.env x v] [u2, u1] >>= fun _ => pure Flow.next) _ _ _
  refine wpAny_bind (assignInOrder_cons (wpAny_bindName (store_ok I3 hN hj (.inl hy) rw' (fun s2 I4 => ?_) (.inr hy))))
  refine assignInOrder_cons (wpAny_bindName (store_ok I4 hN hi (.inl hx) rv (fun s3 I5 => assignInOrder_nil (wpAny_pure ?_)) (.inr hx)))
  rw [List.set_comm _ _ (Ne.symm hij)] at I5
  exact ⟨_, H1, I5, q1⟩
/-- name op= e -/
def tAug (i : Nat) (te : TE) (ti : TIp) : TS := fun D σ H => ∃ x, σ[i]? = some (some x) ∧ te σ H fun y H1 => ti x y H1 fun z H2 => D.nx (σ.set i (some z)) H2
theorem ps_aug {i : Nat} {x : Str} {e : Expr} {te : TE} {op : Operator} {ti : TIp} {pos' : Pos} (hN : X.N.Nodup) (hi : X.N[i]? = some x) (hx : Loc X.env.scope x) (he : PE X e te) (ho : PIp X op ti) (hf : X.fn x = true ∨ X.env.scope.names.lookup x = some .local := by first | exact .inl rfl | exact .inr rfl | assumption) :
    PS X (.AugAssign (.Name x pos') op e pos) (tAug i te ti) := by
  intro pins s σ H D I h
  obtain ⟨v, e1, h⟩ := h
  obtain ⟨m, hn, hl⟩ := I.loc
  have vis : Vis X.env.scope x := by rcases hx with k | k; exact .inl k; exact .inr (.inl k)
  obtain ⟨u, r, l⟩ := hl i x v hi e1 vis
  refine wpAny_AugAssign_Name ?_
  have go : wpAny (model X.prog X.w) X.A (eval e X.env) (fun w s₂ => wpAny (model X.prog X.w) X.A (inplaceOp op u w) (fun r s₃ => wpAny (model X.prog X.w) X.A (storeName X.env x r) (fun _ => SP X pins D .next) X.xe s₃) X.xe s₂) X.xe s := by
    refine thn (he pins s σ H _ I h) fun w s1 ⟨y, H1, I1, r1, q1⟩ => ?_
    refine thn (ho pins s1 σ H1 v y u w _ I1 r r1 q1) fun z s2 ⟨zv, H2, I2, r2, q2⟩ => ?_
    exact store_ok I2 hN hi hx r2 (fun s3 I3 => ⟨_, H2, I3, q2⟩) hf
  rcases l with ⟨hk, hm⟩ | ⟨hk, c, hc, hcell⟩
  · exact wpAny_loadName_local I.ok.kind hk hn hm go
  · rcases hk with hk | hk
    · exact wpAny_loadName_cell I.ok.kind hk hc hcell go
    · rcases hx with k | k
      · have : X.env.scope.names.lookup x = some .free := hk
        rw [k] at this; cases this
      · have : X.env.scope.names.lookup x = some .free := hk
        rw [k] at this; cases this
/-- ints -/
def ipI (f : Int → Int → Int) : TIp := fun x y H Q => ∃ i j, x = .int i ∧ y = .int j ∧ Q (.int (f i j)) H
theorem ip_add : PIp X .Add (ipI fun i j => i + j) := by
  intro pins s σ H x y v u Q I r1 r2 h
  obtain ⟨i, j, e1, e2, q⟩ := h
  subst e1; subst e2
  obtain ⟨t, rfl⟩ := r1
  obtain ⟨t', rfl⟩ := r2
  exact iadd_int ⟨.int _, H, I.tok _, ⟨_, rfl⟩, q⟩
end

/-! ### while -/
section
variable {X : Cx} {pos : Pos}
/-- the invariant W with its measure -/
def tWhile (c : TT) (tb : TS) : TS := fun D σ H => ∃ W : Nat → St → Hp → Prop, (∃ m, W m σ H) ∧ ∀ m σ H, W m σ H →
  c σ H fun b H1 => if b = true then ∃ N : St → Hp → Prop, (∀ σ' H', N σ' H' → ∃ m', m' < m ∧ W m' σ' H') ∧ tb { D with nx := N, ct := N, bk := D.nx } σ H1 else D.nx σ H1
theorem ps_while {c : Expr} {body : List Stmt} {tc : TT} {tb : TS} (hp : PassesOwn (model X.prog X.w) X.A X.env X.xe) (hc : PT X c tc) (hb : PSs X body tb) : PS X (.While c body [] pos) (tWhile tc tb) := by
  intro pins s σ H D I h
  obtain ⟨W, ⟨m0, w0⟩, turn⟩ := h
  refine wpAny_While (codeAny_whileLoop (fun n s' => ∃ σ' H', Inv X pins σ' H' s' ∧ W n σ' H') ?_ m0 ⟨σ, H, I, w0⟩)
  rintro n s1 ⟨σ1, H1, I1, w1⟩
  refine wpAny_passesOwn hp (thn (hc pins s1 σ1 H1 _ I1 (turn n σ1 H1 w1)) fun b s2 ⟨H2, I2, q2⟩ => ?_)
  cases b with
  | true =>
    obtain ⟨N, hN, q2⟩ := q2
    rw [if_pos rfl]
    refine wpAny_passesOwn hp (thn (hb pins s2 σ1 H2 _ I2 q2) fun f s3 q3 => ?_)
    cases f with
    | next =>
      obtain ⟨σ3, H3, I3, n3⟩ := q3
      obtain ⟨m', hm, w3⟩ := hN σ3 H3 n3
      exact ⟨m', hm, σ3, H3, I3, w3⟩
    | cont =>
      obtain ⟨σ3, H3, I3, n3⟩ := q3
      obtain ⟨m', hm, w3⟩ := hN σ3 H3 n3
      exact ⟨m', hm, σ3, H3, I3, w3⟩
    | brk => exact q3
    | ret v => exact q3
  | false =>
    rw [if_neg Bool.false_ne_true]
    exact wpAny_execs_nil ⟨σ1, H2, I2, q2⟩
end

/-! ### what a loop or a comprehension walks -/
/-- at turn i: it yields x (the heap may grow), or it stops -/
structure It where
  go : Nat → Hp → Prop
  yld : Nat → Hp → V → Hp → Prop
  stop : Nat → Hp → Prop
/-- the iterator's own objects may turn: they are not the frame's, not pinned, younger than the entry (or a comprehension's own) -/
def FpOk (X : Cx) (pins : List (Addr × Obj)) (H : Hp) (b : Addr) : Prop :=
  H b = none ∧ b ≠ X.env.locals ∧ b ∉ X.fs ∧ (b ∈ X.ex ∨ X.s₀.heap.objs.size ≤ b) ∧ (∀ x c, X.env.cells.lookup x = some c → c ≠ b) ∧ ∀ p ∈ X.pn ++ pins, p.1 ≠ b
theorem Inv.fpOk {X : Cx} {pins : List (Addr × Obj)} {σ : St} {H H' : Hp} {s : Shared} {b : Addr} (I : Inv X pins σ H s) (hb : s.heap.objs.size ≤ b) (hn : H' b = none) : FpOk X pins H' b := by
  refine ⟨hn, Nat.ne_of_gt (Nat.lt_of_lt_of_le I.lt hb), I.nofs hb, .inr (Nat.le_trans I.sz hb), fun x c e z => ?_, fun p hp z => ?_⟩
  · obtain ⟨v, q⟩ := I.cell x c e
    exact absurd (Nat.lt_of_lt_of_le q.lt (by rw [z]; exact hb)) (Nat.lt_irrefl _)
  · exact absurd (Nat.lt_of_lt_of_le (Heap.lt_size (I.pin p hp).1) (by rw [z]; exact hb)) (Nat.lt_irrefl _)
structure Turn (P : Program) (w : World) (K : PySem.W.Frag) (tg : Expr) (J : It) (fp : List Addr) (it : Addr) (tn : Nat → Heap → Prop) : Prop where
  mem : it ∈ fp
  obj : ∀ i h, tn i h → ∀ b ∈ fp, ∃ o, h.get? b = some o ∧ ∀ v, o.data ≠ .cell v
  keep : ∀ i h h', tn i h → (∀ b ∈ fp, ∀ o, h.get? b = some o → h'.get? b = some o) → tn i h'
  item : ∀ (X : Cx), X.prog = P → X.w = w → X.K = K → X.calm = true → ∀ (i : Nat) (pins : List (Addr × Obj)) (s : Shared) (σ : St) (H : Hp) (E : Value → Shared → Prop), Inv X pins σ H s → (∀ b ∈ fp, FpOk X pins H b) → tn i s.heap → J.go i H →
    wpAny (model P w) X.A (pyNext (.ref it)) (fun r s1 => ∃ u, r = some u ∧
      wpAny (model P w) X.A (letOwnedTupleGo tg (.ref it) u) (fun _ s2 => ∃ x H', Inv X pins σ H' s2 ∧ RelV x u ∧ J.yld i H x H' ∧ tn (i + 1) s2.heap ∧ ∀ b ∈ fp, H' b = none) E s1) E s
  done : ∀ (X : Cx), X.prog = P → X.w = w → X.K = K → X.calm = true → ∀ (i : Nat) (pins : List (Addr × Obj)) (s : Shared) (σ : St) (H : Hp) (E : Value → Shared → Prop), Inv X pins σ H s → (∀ b ∈ fp, FpOk X pins H b) → tn i s.heap → J.stop i H →
    wpAny (model P w) X.A (pyNext (.ref it)) (fun r s1 => r = none ∧ Inv X pins σ H s1) E s
  self : ∀ (A : Around) (i : Nat) (s : Shared) (Q : Value → Shared → Prop) (E : Value → Shared → Prop), tn i s.heap → Q (.ref it) s → wpAny (model P w) A (pyIter (.ref it)) Q E s
abbrev TI := St → Hp → (It → Hp → Prop) → Prop
/-- an iterator has come -/
def PIE (X : Cx) (pins : List (Addr × Obj)) (σ : St) (tg : Expr) (R : It → Hp → Prop) (itv : Value) (s2 : Shared) : Prop :=
  ∃ (it : Addr) (fp : List Addr) (tn : Nat → Heap → Prop) (J : It) (H' : Hp), itv = .ref it ∧ Inv X pins σ H' s2 ∧ Turn X.prog X.w X.K tg J fp it tn ∧ tn 0 s2.heap ∧ (∀ b ∈ fp, FpOk X pins H' b) ∧ R J H'
def PI (X : Cx) (tg iter : Expr) (wi : TI) : Prop :=
  ∀ (pins : List (Addr × Obj)) (s : Shared) (σ : St) (H : Hp) (R : It → Hp → Prop), Inv X pins σ H s → wi σ H R →
    wpAny (model X.prog X.w) X.A (eval iter X.env) (fun v s1 => wpAny (model X.prog X.w) X.A (pyIter v) (PIE X pins σ tg R) X.xe s1) X.xe s

/-- the step ahead of the store is nothing for an iterator that keeps no tuple -/
theorem go_of {M : Model} {A : Around} {E : Value → Shared → Prop} {s : Shared} {tg : Expr} {it : Addr} {u : Value} {o : Obj} {n : String} {vs : Array Value} {Q : Unit → Shared → Prop} (ho : s.heap.get? it = some o) (hc : o.cls = .type n) (hd : o.data = .fields vs)
    (hn : ["enumerate", "zip", "dict_itemiterator", "dict_reverseitemiterator", "odict_iterator", "itertools.zip_longest", "itertools.pairwise"].contains n = false) (hQ : Q () s) : wpAny M A (letOwnedTupleGo tg (.ref it) u) Q E s := by
  unfold letOwnedTupleGo
  cases tg <;> first
    | exact wpAny_pure hQ
    | (cases u <;> first
        | exact wpAny_pure hQ
        | (refine wpAny_bind (wpAny_load ho ?_)
           rw [hc, hd]
           show wpAny M A (if (["enumerate", "zip", "dict_itemiterator", "dict_reverseitemiterator", "odict_iterator", "itertools.zip_longest", "itertools.pairwise"].contains n && vs[0]? == some (rawInt _)) = true then _ else _) Q E s
           rw [if_neg (by intro h; rw [hn, Bool.false_and] at h; cases h)]
           exact wpAny_pure hQ))

/-- the list at a, as it stands at each turn (a loop may append to it) -/
def Itl (K : PySem.W.Frag) (a : Addr) : It :=
  ⟨fun i H => ∃ xs x, SqL K H a xs ∧ xs[i]? = some x, fun i H x H' => H' = H ∧ ∀ xs, SqL K H a xs → xs[i]? = some x, fun i H => ∃ xs, SqL K H a xs ∧ xs.length ≤ i⟩
def Itt (K : PySem.W.Frag) (a : Addr) : It :=
  ⟨fun i H => ∃ xs x, SqT K H a xs ∧ xs[i]? = some x, fun i H x H' => H' = H ∧ ∀ xs, SqT K H a xs → xs[i]? = some x, fun i H => ∃ xs, SqT K H a xs ∧ xs.length ≤ i⟩
/-- lo, lo + 1, .. (n of them) -/
def Itr (lo : Int) (n : Nat) : It := ⟨fun i _ => i < n, fun i H x H' => H' = H ∧ x = .int (lo + i), fun i _ => n ≤ i⟩
theorem turn_list {P : Program} {w : World} {K : PySem.W.Frag} {tg : Expr} (a it : Addr) : Turn P w K tg (Itl K a) [it] it (fun i h => h.IsListIter it a i) where
  mem := by simp
  obj := fun i h st b hb => by
    have e : b = it := by simpa using hb
    subst e
    obtain ⟨o, e, c, d⟩ := st
    exact ⟨o, e, fun v z => by rw [d] at z; cases z⟩
  keep := fun i h h' st k => st.at fun o e => k it (by simp) o e
  item := by
    intro X hP hw hK hc i pins s σ H E I hf st hg
    subst hP hw hK
    obtain ⟨xs, x, hq, hx⟩ := hg
    obtain ⟨its, rv, p, hz⟩ := I.list hq
    obtain ⟨u, hu, ru⟩ := rv.get hx
    obtain ⟨f0, f1, f2, f3, f4, f5⟩ := hf it (by simp)
    refine wpAny_pyNext_list_item st p.isList (x := u) (by simpa using hu) fun h' st' sb => ?_
    have I1 : Inv X pins σ H { s with heap := h' } := I.turned (t' := s.toks) (fun b o hb e => (sb.2 b hb).trans e) f0 f1 f3 f4 f5
    obtain ⟨o, e, c, d⟩ := id st'
    exact ⟨u, rfl, go_of (s := { s with heap := h' }) e c d (by decide) ⟨x, H, I1, ru, ⟨rfl, fun ys hy => by rw [I.list_inj hy hq]; exact hx⟩, st', fun b hb => (hf b hb).1⟩⟩
  done := by
    intro X hP hw hK hc i pins s σ H E I hf st hg
    subst hP hw hK
    obtain ⟨xs, hq, hx⟩ := hg
    obtain ⟨its, rv, p, hz⟩ := I.list hq
    obtain ⟨f0, f1, f2, f3, f4, f5⟩ := hf it (by simp)
    have hl := rv.length
    exact wpAny_pyNext_list_end (I.ok.hd hc) st p.isList (by simp; omega) fun h' eb => ⟨rfl, I.turned (t' := s.toks) (fun b o hb e => eb b o hb e) f0 f1 f3 f4 f5⟩
  self := fun _ _ _ _ _ st h => wpAny_pyIter_listiter st h
theorem turn_tuple {P : Program} {w : World} {K : PySem.W.Frag} {tg : Expr} (a it : Addr) : Turn P w K tg (Itt K a) [it] it (fun i h => h.IsTupleIter it a i) where
  mem := by simp
  obj := fun i h st b hb => by
    have e : b = it := by simpa using hb
    subst e
    obtain ⟨o, e, c, d⟩ := st
    exact ⟨o, e, fun v z => by rw [d] at z; cases z⟩
  keep := fun i h h' st k => st.at fun o e => k it (by simp) o e
  item := by
    intro X hP hw hK hc i pins s σ H E I hf st hg
    subst hP hw hK
    obtain ⟨xs, x, hq, hx⟩ := hg
    obtain ⟨its, rv, p, hz⟩ := I.tuple hq
    obtain ⟨u, hu, ru⟩ := rv.get hx
    obtain ⟨f0, f1, f2, f3, f4, f5⟩ := hf it (by simp)
    refine wpAny_pyNext_tuple_item st (show s.heap.IsTuple a its.toArray from p) (x := u) (by simpa using hu) fun h' st' sb => ?_
    have I1 : Inv X pins σ H { s with heap := h' } := I.turned (t' := s.toks) (fun b o hb e => (sb.2 b hb).trans e) f0 f1 f3 f4 f5
    obtain ⟨o, e, c, d⟩ := id st'
    exact ⟨u, rfl, go_of (s := { s with heap := h' }) e c d (by decide) ⟨x, H, I1, ru, ⟨rfl, fun ys hy => by rw [I.tuple_inj hy hq]; exact hx⟩, st', fun b hb => (hf b hb).1⟩⟩
  done := by
    intro X hP hw hK hc i pins s σ H E I hf st hg
    subst hP hw hK
    obtain ⟨xs, hq, hx⟩ := hg
    obtain ⟨its, rv, p, hz⟩ := I.tuple hq
    obtain ⟨f0, f1, f2, f3, f4, f5⟩ := hf it (by simp)
    have hl := rv.length
    exact wpAny_pyNext_tuple_end (I.ok.hd hc) st (show s.heap.IsTuple a its.toArray from p) (by simp; omega) fun h' eb => ⟨rfl, I.turned (t' := s.toks) (fun b o hb e => eb b o hb e) f0 f1 f3 f4 f5⟩
  self := fun _ _ _ _ _ st h => wpAny_pyIter_tupleiter st h
theorem turn_range {P : Program} {w : World} {K : PySem.W.Frag} {tg : Expr} (it : Addr) (lo : Int) (n : Nat) : Turn P w K tg (Itr lo n) [it] it (fun i h => IsRangeIter h it (lo + (i : Nat) * 1) ((n : Int) - (i : Nat)) 1) where
  mem := by simp
  obj := fun i h st b hb => by
    have e : b = it := by simpa using hb
    subst e
    exact ⟨_, st, fun v z => by
      have z' : Data.fields _ = Data.cell v := z
      cases z'⟩
  keep := fun i h h' st k => k it (by simp) _ st
  item := by
    intro X hP hw hK hc i pins s σ H E I hf st hg
    subst hP hw hK
    obtain ⟨f0, f1, f2, f3, f4, f5⟩ := hf it (by simp)
    have W := Walks.range (prog := X.prog) (w := X.w) (I.ok.hd hc) it lo 1 n
    refine W.item i s _ _ hg st fun v h' tk hv st' kk => ?_
    obtain ⟨t, rfl⟩ := hv
    have I1 : Inv X pins σ H { s with heap := h', toks := tk } := I.turned (fun b o hb e => kk b o (by simpa using hb) e) f0 f1 f3 f4 f5
    refine ⟨_, rfl, go_of (s := { s with heap := h', toks := tk }) (n := "range_iterator") st' rfl rfl (by decide) ⟨.int (lo + i), H, I1, ⟨t, ?_⟩, ⟨rfl, rfl⟩, st', fun b hb => (hf b hb).1⟩⟩
    rw [Int.mul_one]
  done := by
    intro X hP hw hK hc i pins s σ H E I hf st hg
    subst hP hw hK
    obtain ⟨f0, f1, f2, f3, f4, f5⟩ := hf it (by simp)
    exact wpAny_pyNext_range_end (I.ok.hd hc) st (by have : n ≤ i := hg; omega) fun h' eb => ⟨rfl, I.turned (t' := s.toks) (fun b o hb e => eb b o hb e) f0 f1 f3 f4 f5⟩
  self := fun _ _ _ _ _ st h => wpAny_pyIter_rangeiter st h
end L2

namespace L2
open PySem PySem.Spec PyProof.Rows
section
variable {X : Cx} {tg : Expr}
def iList (K : PySem.W.Frag) (tl : TE) : TI := fun σ H R => tl σ H fun x H1 => ∃ a, x = .ref a ∧ (∃ xs, SqL K H1 a xs) ∧ R (Itl K a) H1
def iTup (K : PySem.W.Frag) (tl : TE) : TI := fun σ H R => tl σ H fun x H1 => ∃ a, x = .ref a ∧ (∃ xs, SqT K H1 a xs) ∧ R (Itt K a) H1
theorem pi_list {l : Expr} {tl : TE} (hl : PE X l tl) : PI X tg l (iList X.K tl) := by
  intro pins s σ H R I h
  refine thn (hl pins s σ H _ I h) fun v s1 ⟨x, H1, I1, r1, q1⟩ => ?_
  obtain ⟨a, e, ⟨xs, hq⟩, q⟩ := q1
  subst e
  cases r1
  obtain ⟨its, rv, p, hz⟩ := I1.list hq
  refine wpAny_pyIter_list p.isList ?_
  refine ⟨s1.heap.objs.size, [s1.heap.objs.size], _, _, H1, rfl, I1.kept (t' := s1.toks) fun b o e => Heap.get?_push_of_some _ e, turn_list a _, ⟨_, Heap.get?_push_size _ rfl, rfl, rfl⟩, fun b hb => ?_, q⟩
  have e : b = s1.heap.objs.size := by simpa using hb
  subst e
  exact I1.fpOk (Nat.le_refl _) (I1.hok.fresh (Nat.le_refl _))
theorem pi_tup {l : Expr} {tl : TE} (hl : PE X l tl) : PI X tg l (iTup X.K tl) := by
  intro pins s σ H R I h
  refine thn (hl pins s σ H _ I h) fun v s1 ⟨x, H1, I1, r1, q1⟩ => ?_
  obtain ⟨a, e, ⟨xs, hq⟩, q⟩ := q1
  subst e
  cases r1
  obtain ⟨its, rv, p, hz⟩ := I1.tuple hq
  refine wpAny_pyIter_tuple (show s1.heap.IsTuple a its.toArray from p) ?_
  refine ⟨s1.heap.objs.size, [s1.heap.objs.size], _, _, H1, rfl, I1.kept (t' := s1.toks) fun b o e => Heap.get?_push_of_some _ e, turn_tuple a _, ⟨_, Heap.get?_push_size _ rfl, rfl, rfl⟩, fun b hb => ?_, q⟩
  have e : b = s1.heap.objs.size := by simpa using hb
  subst e
  exact I1.fpOk (Nat.le_refl _) (I1.hok.fresh (Nat.le_refl _))
/-- a range object just made, walked -/
theorem range_it {pins : List (Addr × Obj)} {σ : St} {H : Hp} {s : Shared} {R : It → Hp → Prop} {E : Value → Shared → Prop} {lo hi : Int} {t u v : Tok} {tk : Nat} (I : Inv X pins σ H s) (h1 : -(2 ^ 62) ≤ lo) (h2 : lo < 2 ^ 62) (h3 : -(2 ^ 62) ≤ hi) (h4 : hi < 2 ^ 62)
    (q : R (Itr lo (hi - lo).toNat) H) : wpAny (model X.prog X.w) X.A (pyIter (.ref s.heap.objs.size)) (PIE X pins σ tg R) E { s with heap := s.heap.push { cls := .type "range", data := .fields #[.int lo t, .int hi u, .int 1 v] }, toks := tk } := by
  refine wpAny_pyIter_range (IsRange.new ..) (small_one h1 h2 h3 h4) ?_
  have I1 : Inv X pins σ H { s with heap := s.heap.push { cls := .type "range", data := .fields #[.int lo t, .int hi u, .int 1 v] }, toks := tk } := I.kept fun b o e => Heap.get?_push_of_some _ e
  refine ⟨(s.heap.push { cls := .type "range", data := .fields #[.int lo t, .int hi u, .int 1 v] }).objs.size, [(s.heap.push { cls := .type "range", data := .fields #[.int lo t, .int hi u, .int 1 v] }).objs.size], _, _, H, rfl,
    I1.kept (t' := tk) fun b o e => Heap.get?_push_of_some _ e, turn_range _ lo (hi - lo).toNat, ?_, fun b hb => ?_, q⟩
  · have e1 : lo + ((0 : Nat) : Int) * 1 = lo := by simp
    have e2 : (((hi - lo).toNat : Nat) : Int) - ((0 : Nat) : Int) = Builtin.Range.rangeSize lo hi 1 := by rw [rangeSize_one]; split <;> omega
    show IsRangeIter _ _ (lo + ((0 : Nat) : Int) * 1) ((((hi - lo).toNat : Nat) : Int) - ((0 : Nat) : Int)) 1
    rw [e1, e2]
    exact Heap.get?_push_size _ rfl
  · have e : b = (s.heap.push { cls := .type "range", data := .fields #[.int lo t, .int hi u, .int 1 v] }).objs.size := by simpa using hb
    subst e
    exact I1.fpOk (Nat.le_refl _) (I1.hok.fresh (Nat.le_refl _))
def iRng1 (ta : TA) : TI := fun σ H R => ta σ H fun vs H1 => ∃ j : Int, vs = [.int j] ∧ -(2 ^ 62) ≤ j ∧ j < 2 ^ 62 ∧ R (Itr 0 j.toNat) H1
theorem pi_range1 {a : Expr} {ta : TA} {p pos : Pos} (hg : Gl X "range") (hm : X.mg "range" = none) (ha : PA X [a] ta) (hs : starEach [a] X.env = [(false, eval a X.env)] := by rfl) : PI X tg (.Call (.Name "range" p) [a] [] pos) (iRng1 ta) := by
  intro pins s σ H R I h
  refine Call_ (ld_blt I hg hm boot_range (PyProof.Rows.callWith_type1 (thn (ha pos pins s σ H _ I h) fun us s1 ⟨vs, H1, I1, r1, q1⟩ => ?_) hs rfl))
  obtain ⟨j, e, q1, q2, q⟩ := q1
  subst e
  cases r1 with
  | cons r rr =>
    cases rr
    obtain ⟨t, rfl⟩ := r
    exact call_range_1 (range_it I1 (by omega) (by omega) q1 q2 (by simpa using q))
/-! ### for -/
/-- W: the invariant by the turn and a measure; N: what the body is to reach -/
def tFor (wi : TI) (g : TG) (tb : TS) : TS := fun D σ H => wi σ H fun J H1 => ∃ W : Nat → Nat → St → Hp → Prop, (∃ m, W 0 m σ H1) ∧ ∀ i m σ H, W i m σ H →
  (J.stop i H ∧ D.nx σ H) ∨ (J.go i H ∧ ∃ N : St → Hp → Prop, (∀ σ' H', N σ' H' → ∃ m', m' < m ∧ W (i + 1) m' σ' H') ∧ ∀ x H', J.yld i H x H' → g x σ H' fun σ2 H2 => tb { D with nx := N, ct := N, bk := D.nx } σ2 H2)
/-- the records at fp as they stand -/
def pinsAt (fp : List Addr) (h : Heap) : List (Addr × Obj) := fp.filterMap fun b => (h.get? b).map fun o => (b, o)
theorem mem_pinsAt {fp : List Addr} {h : Heap} {b : Addr} {o : Obj} (hb : b ∈ fp) (e : h.get? b = some o) : (b, o) ∈ pinsAt fp h := List.mem_filterMap.mpr ⟨b, hb, by rw [e]; rfl⟩
theorem of_pinsAt {fp : List Addr} {h : Heap} {p : Addr × Obj} (hp : p ∈ pinsAt fp h) : p.1 ∈ fp ∧ h.get? p.1 = some p.2 := by
  obtain ⟨b, hb, e⟩ := List.mem_filterMap.mp hp
  cases q : h.get? b with
  | none => rw [q] at e; cases e
  | some o =>
    rw [q] at e
    have e' : (b, o) = p := Option.some.inj e
    subst e'
    exact ⟨hb, q⟩
theorem Inv.pinned {pins : List (Addr × Obj)} {σ : St} {H : Hp} {s : Shared} {fp : List Addr} (I : Inv X pins σ H s) (hf : ∀ b ∈ fp, FpOk X pins H b) (ho : ∀ b ∈ fp, ∃ o, s.heap.get? b = some o ∧ ∀ v, o.data ≠ .cell v) : Inv X (pins ++ pinsAt fp s.heap) σ H s :=
  I.pins_of fun p hp => (List.mem_append.mp hp).elim (fun z => I.pin p (List.mem_append_right _ z)) fun z => by
    obtain ⟨hb, e⟩ := of_pinsAt z
    obtain ⟨f0, f1, f2, _⟩ := hf p.1 hb
    obtain ⟨o, e', d⟩ := ho p.1 hb
    rw [e] at e'; cases e'
    exact ⟨e, f0, f1, f2, d⟩
theorem Inv.unpinned {pins pl : List (Addr × Obj)} {σ : St} {H : Hp} {s : Shared} (I : Inv X (pins ++ pl) σ H s) : Inv X pins σ H s := I.pins_of fun p hp => I.pin p (List.mem_append_right _ (List.mem_append_left _ hp))
theorem ps_for {iter : Expr} {body : List Stmt} {wi : TI} {g : TG} {tb : TS} {pos : Pos} (hp : PassesOwn (model X.prog X.w) X.A X.env X.xe) (hc : X.calm = true) (hi : PI X tg iter wi) (hg : PG X tg g) (hb : PSs X body tb)
    (hs : ∀ x, foldedSetIterable iter X.env x = pure x := by intro _; rfl) : PS X (.For tg iter body [] pos) (tFor wi g tb) := by
  intro pins s σ H D I h
  refine wpAny_For (thn (hi pins s σ H _ I h) fun v s1 h1 => thn h1 fun itv s2 h2 => ?_) hs
  obtain ⟨it, fp, tn, J, H2, e, I2, T, st2, f2, W, ⟨m0, w0⟩, turn⟩ := h2
  subst e
  -- what stays true of the iterator's objects through the loop
  have stat : ∀ {H' : Hp}, (∀ b ∈ fp, H' b = none) → ∀ b ∈ fp, FpOk X pins H' b := fun hn b hb => ⟨hn b hb, (f2 b hb).2⟩
  refine codeAny_forLoop_any (fun n s' => ∃ i σ' H', Inv X pins σ' H' s' ∧ tn i s'.heap ∧ (∀ b ∈ fp, H' b = none) ∧ W i n σ' H') ?_ m0 ⟨0, σ, H2, I2, st2, fun b hb => (f2 b hb).1, w0⟩
  rintro n s3 ⟨i, σ3, H3, I3, st3, fr3, w3⟩
  rcases turn i n σ3 H3 w3 with ⟨stop, qn⟩ | ⟨go, N, hN, step⟩
  · refine wpAny_passesOwn hp (thn (T.done X rfl rfl rfl hc i pins s3 σ3 H3 X.xe I3 (stat fr3) st3 stop) fun r s4 ⟨hr, I4⟩ => ?_)
    subst hr
    exact wpAny_execs_nil ⟨σ3, H3, I4, qn⟩
  · refine wpAny_passesOwn hp (thn (T.item X rfl rfl rfl hc i pins s3 σ3 H3 X.xe I3 (stat fr3) st3 go) fun r s4 ⟨u, hr, h4⟩ => ?_)
    subst hr
    refine wpAny_passesOwn hp (thn h4 fun _ s5 ⟨x, H5, I5, r5, y5, st5, fr5⟩ => ?_)
    have I5' := I5.pinned (stat fr5) (T.obj _ _ st5)
    refine wpAny_passesOwn hp (thn (hg _ s5 σ3 H5 x u _ I5' r5 (step x H5 y5)) fun _ s6 ⟨σ6, H6, I6, q6⟩ => ?_)
    refine wpAny_passesOwn hp (thn (hb _ s6 σ6 H6 _ I6 q6) fun f s7 q7 => ?_)
    have again : ∀ {σ7 : St} {H7 : Hp}, Inv X (pins ++ pinsAt fp s5.heap) σ7 H7 s7 → N σ7 H7 → ∃ m, m < n ∧ ∃ i σ' H', Inv X pins σ' H' s7 ∧ tn i s7.heap ∧ (∀ b ∈ fp, H' b = none) ∧ W i m σ' H' := fun {σ7 H7} I7 n7 => by
      obtain ⟨m', hm, w7⟩ := hN σ7 H7 n7
      refine ⟨m', hm, i + 1, σ7, H7, I7.unpinned, T.keep _ _ _ st5 fun b hb o e => (I7.pin (b, o) (List.mem_append_right _ (List.mem_append_right _ (mem_pinsAt hb e)))).1, fun b hb => ?_, w7⟩
      obtain ⟨o, e, d⟩ := T.obj _ _ st5 b hb
      exact (I7.pin (b, o) (List.mem_append_right _ (List.mem_append_right _ (mem_pinsAt hb e)))).2.1
    cases f with
    | next => obtain ⟨σ7, H7, I7, n7⟩ := q7; exact again I7 n7
    | cont => obtain ⟨σ7, H7, I7, n7⟩ := q7; exact again I7 n7
    | brk => obtain ⟨σ7, H7, I7, q7⟩ := q7; exact ⟨σ7, H7, I7.unpinned, q7⟩
    | ret v => obtain ⟨x7, σ7, H7, I7, r7, q7⟩ := q7; exact ⟨x7, σ7, H7, I7.unpinned, r7, q7⟩
end

/-! ### the forms one uses -/
/-- over a list that the body leaves as it is -/
theorem for_list {K : PySem.W.Frag} {a : Addr} {xs : List V} {g : TG} {tb : TS} {D : Ends} {σ : St} {H : Hp} (Pv : Nat → St → Hp → Prop) (h0 : Pv 0 σ H) (hl : ∀ i σ H, i ≤ xs.length → Pv i σ H → SqL K H a xs)
    (hs : ∀ i x σ H, xs[i]? = some x → Pv i σ H → g x σ H fun σ2 H2 => tb { D with nx := Pv (i + 1), ct := Pv (i + 1), bk := D.nx } σ2 H2) (hd : ∀ σ H, Pv xs.length σ H → D.nx σ H) :
    ∃ W : Nat → Nat → St → Hp → Prop, (∃ m, W 0 m σ H) ∧ ∀ i m σ H, W i m σ H →
      ((Itl K a).stop i H ∧ D.nx σ H) ∨ ((Itl K a).go i H ∧ ∃ N : St → Hp → Prop, (∀ σ' H', N σ' H' → ∃ m', m' < m ∧ W (i + 1) m' σ' H') ∧ ∀ x H', (Itl K a).yld i H x H' → g x σ H' fun σ2 H2 => tb { D with nx := N, ct := N, bk := D.nx } σ2 H2) := by
  refine ⟨fun i m σ H => m = xs.length - i ∧ i ≤ xs.length ∧ Pv i σ H, ⟨xs.length, by simp, Nat.zero_le _, h0⟩, ?_⟩
  rintro i m σ H ⟨rfl, hi, p⟩
  have q := hl i σ H hi p
  by_cases hlt : i < xs.length
  · refine .inr ⟨⟨xs, xs[i], q, by simp [hlt]⟩, Pv (i + 1), fun σ' H' p' => ⟨xs.length - (i + 1), by omega, rfl, hlt, p'⟩, fun x H' y => ?_⟩
    obtain ⟨e, y⟩ := y
    subst e
    exact hs i x σ _ (y xs q) p
  · have e : i = xs.length := by omega
    subst e
    exact .inl ⟨⟨xs, q, Nat.le_refl _⟩, hd σ H p⟩
theorem for_tup {K : PySem.W.Frag} {a : Addr} {xs : List V} {g : TG} {tb : TS} {D : Ends} {σ : St} {H : Hp} (Pv : Nat → St → Hp → Prop) (h0 : Pv 0 σ H) (hl : ∀ i σ H, i ≤ xs.length → Pv i σ H → SqT K H a xs)
    (hs : ∀ i x σ H, xs[i]? = some x → Pv i σ H → g x σ H fun σ2 H2 => tb { D with nx := Pv (i + 1), ct := Pv (i + 1), bk := D.nx } σ2 H2) (hd : ∀ σ H, Pv xs.length σ H → D.nx σ H) :
    ∃ W : Nat → Nat → St → Hp → Prop, (∃ m, W 0 m σ H) ∧ ∀ i m σ H, W i m σ H →
      ((Itt K a).stop i H ∧ D.nx σ H) ∨ ((Itt K a).go i H ∧ ∃ N : St → Hp → Prop, (∀ σ' H', N σ' H' → ∃ m', m' < m ∧ W (i + 1) m' σ' H') ∧ ∀ x H', (Itt K a).yld i H x H' → g x σ H' fun σ2 H2 => tb { D with nx := N, ct := N, bk := D.nx } σ2 H2) := by
  refine ⟨fun i m σ H => m = xs.length - i ∧ i ≤ xs.length ∧ Pv i σ H, ⟨xs.length, by simp, Nat.zero_le _, h0⟩, ?_⟩
  rintro i m σ H ⟨rfl, hi, p⟩
  have q := hl i σ H hi p
  by_cases hlt : i < xs.length
  · refine .inr ⟨⟨xs, xs[i], q, by simp [hlt]⟩, Pv (i + 1), fun σ' H' p' => ⟨xs.length - (i + 1), by omega, rfl, hlt, p'⟩, fun x H' y => ?_⟩
    obtain ⟨e, y⟩ := y
    subst e
    exact hs i x σ _ (y xs q) p
  · have e : i = xs.length := by omega
    subst e
    exact .inl ⟨⟨xs, q, Nat.le_refl _⟩, hd σ H p⟩
theorem for_range {lo : Int} {n : Nat} {g : TG} {tb : TS} {D : Ends} {σ : St} {H : Hp} (Pv : Nat → St → Hp → Prop) (h0 : Pv 0 σ H)
    (hs : ∀ i σ H, i < n → Pv i σ H → g (.int (lo + i)) σ H fun σ2 H2 => tb { D with nx := Pv (i + 1), ct := Pv (i + 1), bk := D.nx } σ2 H2) (hd : ∀ σ H, Pv n σ H → D.nx σ H) :
    ∃ W : Nat → Nat → St → Hp → Prop, (∃ m, W 0 m σ H) ∧ ∀ i m σ H, W i m σ H →
      ((Itr lo n).stop i H ∧ D.nx σ H) ∨ ((Itr lo n).go i H ∧ ∃ N : St → Hp → Prop, (∀ σ' H', N σ' H' → ∃ m', m' < m ∧ W (i + 1) m' σ' H') ∧ ∀ x H', (Itr lo n).yld i H x H' → g x σ H' fun σ2 H2 => tb { D with nx := N, ct := N, bk := D.nx } σ2 H2) := by
  refine ⟨fun i m σ H => m = n - i ∧ i ≤ n ∧ Pv i σ H, ⟨n, by simp, Nat.zero_le _, h0⟩, ?_⟩
  rintro i m σ H ⟨rfl, hi, p⟩
  by_cases hlt : i < n
  · refine .inr ⟨hlt, Pv (i + 1), fun σ' H' p' => ⟨n - (i + 1), by omega, rfl, hlt, p'⟩, fun x H' y => ?_⟩
    obtain ⟨e, y⟩ := y
    subst e y
    exact hs i σ _ hlt p
  · have e : i = n := by omega
    subst e
    exact .inl ⟨Nat.le_refl _, hd σ H p⟩
end L2

namespace L2
open PySem PySem.Spec PyProof.Rows

abbrev R2 := V → V → Hp → VK → Prop
/-- a two-place operation on values: f is binaryOp op, inplaceOp op or compareOp op -/
def OpR (X : Cx) (f : Value → Value → Sem Value) (r : R2) : Prop :=
  ∀ (pins : List (Addr × Obj)) (s : Shared) (σ : St) (H : Hp) (x y : V) (v u : Value) (Q : VK), Inv X pins σ H s → RelV x v → RelV y u → r x y H Q →
    wpAny (model X.prog X.w) X.A (f v u) (EP X pins σ Q) X.xe s
/-- a one-place operation -/
def UnR (X : Cx) (f : Value → Sem Value) (r : V → Hp → VK → Prop) : Prop :=
  ∀ (pins : List (Addr × Obj)) (s : Shared) (σ : St) (H : Hp) (x : V) (v : Value) (Q : VK), Inv X pins σ H s → RelV x v → r x H Q →
    wpAny (model X.prog X.w) X.A (f v) (EP X pins σ Q) X.xe s
/-- a call of a value that is known (a builtin, a type) with values -/
def CallR (X : Cx) (f : Value) (r : List V → Hp → VK → Prop) : Prop :=
  ∀ (pins : List (Addr × Obj)) (s : Shared) (σ : St) (H : Hp) (xs : List V) (us : List Value) (Q : VK), Inv X pins σ H s → Vals xs us → r xs H Q →
    wpAny (model X.prog X.w) X.A (call f us) (EP X pins σ Q) X.xe s
/-- a value's truth -/
def TruR (X : Cx) (r : V → Hp → (Bool → Hp → Prop) → Prop) : Prop :=
  ∀ (pins : List (Addr × Obj)) (s : Shared) (σ : St) (H : Hp) (x : V) (v : Value) (Q : Bool → Hp → Prop), Inv X pins σ H s → RelV x v → r x H Q →
    wpAny (model X.prog X.w) X.A (truthy v) (TP X pins σ Q) X.xe s

def tOp (r : R2) (ta tb : TE) : TE := fun σ H Q => ta σ H fun x H1 => tb σ H1 fun y H2 => r x y H2 Q
def tUn (r : V → Hp → VK → Prop) (ta : TE) : TE := fun σ H Q => ta σ H fun x H1 => r x H1 Q
/-- ints in, under C, and a value out -/
def rI (C : Int → Int → Prop) (g : Int → Int → V) : R2 := fun x y H Q => ∃ i j, x = .int i ∧ y = .int j ∧ C i j ∧ Q (g i j) H
def rI0 (g : Int → Int → V) : R2 := fun x y H Q => ∃ i j, x = .int i ∧ y = .int j ∧ Q (g i j) H
def rU (g : Int → V) : V → Hp → VK → Prop := fun x H Q => ∃ i, x = .int i ∧ Q (g i) H

section
variable {X : Cx} {a b c : Expr} {ta tb tc : TE} {pos : Pos}

theorem binT (ha : PE X a ta) (hb : PE X b tb) {pins : List (Addr × Obj)} {s : Shared} {σ : St} {H : Hp} {R : V → V → Hp → Prop} (I : Inv X pins σ H s)
    (h : ta σ H fun x H1 => tb σ H1 fun y H2 => R x y H2) {Q : Value → Shared → Prop} {f : Value → Value → Sem Value}
    (hf : ∀ v u s2 x y H2, Inv X pins σ H2 s2 → RelV x v → RelV y u → R x y H2 → wpAny (model X.prog X.w) X.A (f v u) Q X.xe s2) :
    wpAny (model X.prog X.w) X.A (eval a X.env) (fun v s₁ => wpAny (model X.prog X.w) X.A (eval b X.env) (fun u s₂ => wpAny (model X.prog X.w) X.A (f v u) Q X.xe s₂) X.xe s₁) X.xe s := by
  refine thn (ha pins s σ H _ I h) fun v s1 ⟨x, H1, I1, r1, q1⟩ => ?_
  refine thn (hb pins s1 σ H1 _ I1 q1) fun u s2 ⟨y, H2, I2, r2, q2⟩ => ?_
  exact hf v u s2 x y H2 I2 r1 r2 q2

theorem pe_op {op : Operator} {r : R2} (ho : OpR X (binaryOp op) r) (ha : PE X a ta) (hb : PE X b tb) : PE X (.BinOp a op b pos) (tOp r ta tb) := by
  intro pins s σ H Q I h
  exact wpAny_BinOp (binT ha hb I h fun v u s2 x y H2 I2 rx ry q => ho pins s2 σ H2 x y v u Q I2 rx ry q)
theorem pe_un {op : UnaryOp} {r : V → Hp → VK → Prop} (ho : UnR X (unaryOp op) r) (ha : PE X a ta) : PE X (.UnaryOp op a pos) (tUn r ta) := by
  intro pins s σ H Q I h
  exact UnaryOp_ (thn (ha pins s σ H _ I h) fun v s1 ⟨x, H1, I1, r1, q1⟩ => ho pins s1 σ H1 x v Q I1 r1 q1)
/-! ### ints -/
theorem opI {f : Value → Value → Sem Value} {C : Int → Int → Prop} {g : Int → Int → Int}
    (rule : ∀ (i j : Int) (t u : Tok) (s : Shared) (Q : Value → Shared → Prop) (E : Value → Shared → Prop), C i j → Q (.int (g i j) s.toks) { s with toks := s.toks + 1 } → wpAny (model X.prog X.w) X.A (f (.int i t) (.int j u)) Q E s) :
    OpR X f (rI C fun i j => .int (g i j)) := by
  intro pins s σ H x y v u Q I rx ry h
  obtain ⟨i, j, rfl, rfl, hc, q⟩ := h
  obtain ⟨t, rfl⟩ := rx
  obtain ⟨t', rfl⟩ := ry
  exact rule i j t t' s _ _ hc ⟨.int (g i j), H, I.tok _, ⟨_, rfl⟩, q⟩
theorem opI0 {f : Value → Value → Sem Value} {g : Int → Int → Int}
    (rule : ∀ (i j : Int) (t u : Tok) (s : Shared) (Q : Value → Shared → Prop) (E : Value → Shared → Prop), Q (.int (g i j) s.toks) { s with toks := s.toks + 1 } → wpAny (model X.prog X.w) X.A (f (.int i t) (.int j u)) Q E s) :
    OpR X f (rI0 fun i j => .int (g i j)) := by
  intro pins s σ H x y v u Q I rx ry h
  obtain ⟨i, j, rfl, rfl, q⟩ := h
  obtain ⟨t, rfl⟩ := rx
  obtain ⟨t', rfl⟩ := ry
  exact rule i j t t' s _ _ ⟨.int (g i j), H, I.tok _, ⟨_, rfl⟩, q⟩
theorem opB0 {f : Value → Value → Sem Value} {g : Int → Int → Bool}
    (rule : ∀ (i j : Int) (t u : Tok) (s : Shared) (Q : Value → Shared → Prop) (E : Value → Shared → Prop), Q (.bool (g i j)) s → wpAny (model X.prog X.w) X.A (f (.int i t) (.int j u)) Q E s) :
    OpR X f (rI0 fun i j => .bl (g i j)) := by
  intro pins s σ H x y v u Q I rx ry h
  obtain ⟨i, j, rfl, rfl, q⟩ := h
  obtain ⟨t, rfl⟩ := rx
  obtain ⟨t', rfl⟩ := ry
  exact rule i j t t' s _ _ ⟨.bl (g i j), H, I, rfl, q⟩

def CDiv (i j : Int) : Prop := 0 < j ∧ j < 1073741824
def CPow (i j : Int) : Prop := 0 ≤ j ∧ j ≤ 1000000 ∧ i.natAbs < 2 ^ 64
def CMul (i j : Int) : Prop := (-(2 ^ 64) < i ∧ i < 2 ^ 64) ∨ (-(2 ^ 64) < j ∧ j < 2 ^ 64)
theorem CMul.ok {i j : Int} (h : CMul i j) : IntMulOk i j := by
  rcases h with ⟨h1, h2⟩ | ⟨h1, h2⟩
  · exact .of_left (intBits_le_64 h1 h2)
  · exact .of_right (intBits_le_64 h1 h2)
theorem op_add : OpR X (binaryOp .Add) (rI0 fun i j => .int (i + j)) := opI0 fun _ _ _ _ _ _ _ q => add_int q
theorem op_sub : OpR X (binaryOp .Sub) (rI0 fun i j => .int (i - j)) := opI0 fun _ _ _ _ _ _ _ q => sub_int q
theorem op_mul : OpR X (binaryOp .Mult) (rI CMul fun i j => .int (i * j)) := opI fun _ _ _ _ _ _ _ hc q => mul_int q hc.ok
/-- // by a positive divisor -/
theorem op_fdiv : OpR X (binaryOp .FloorDiv) (rI CDiv fun i j => .int (i / j)) := opI fun i j _ _ _ _ _ hc q => by
  have h1 : (0 : Int) < j := hc.1
  have h2 : j < 1073741824 := hc.2
  exact floordiv_int (by omega) (by rw [Int.fdiv_eq_ediv_of_nonneg i (by omega)]; exact q) (.inl (PyProof.noPylong_small (by omega)))
/-- % by a positive divisor of any size -/
theorem op_mod : OpR X (binaryOp .Mod) (rI (fun _ j => 0 < j) fun i j => .int (i % j)) := opI fun i j _ _ _ _ _ hc q => by
  have h1 : (0 : Int) < j := hc
  exact mod_int' (by omega) (by rw [Int.fmod_eq_emod_of_nonneg i (by omega)]; exact q)
theorem op_pow : OpR X (binaryOp .Pow) (rI CPow fun i j => .int (i ^ j.toNat)) := opI fun _ _ _ _ _ _ _ hc q => pow_int_small hc.1 hc.2.1 hc.2.2 q
theorem unI {f : Value → Sem Value} {g : Int → Int}
    (rule : ∀ (i : Int) (t : Tok) (s : Shared) (Q : Value → Shared → Prop) (E : Value → Shared → Prop), Q (.int (g i) s.toks) { s with toks := s.toks + 1 } → wpAny (model X.prog X.w) X.A (f (.int i t)) Q E s) :
    UnR X f (rU fun i => .int (g i)) := by
  intro pins s σ H x v Q I rx h
  obtain ⟨i, rfl, q⟩ := h
  obtain ⟨t, rfl⟩ := rx
  exact rule i t s _ _ ⟨.int (g i), H, I.tok _, ⟨_, rfl⟩, q⟩
theorem un_neg : UnR X (unaryOp .USub) (rU fun i => .int (-i)) := unI fun _ _ _ _ _ q => neg_int q
/-! ### bools among ints: n += (a < b) -/
end

/-! ### comparisons -/
/-- the scalars that == tells apart as data does -/
def scal : V → V → Bool
  | .non, .non => true | .non, .int _ => true | .int _, .non => true | .non, .bl _ => true | .bl _, .non => true | .non, .str _ => true | .str _, .non => true
  | .int _, .int _ => true | .bl _, .bl _ => true | .str _, .str _ => true | .byt _, .byt _ => true
  | .int _, .str _ => true | .str _, .int _ => true | .bl _, .str _ => true | .str _, .bl _ => true
  | _, _ => false
def rEq : R2 := fun x y H Q => scal x y = true ∧ Q (.bl (decide (x = y))) H
def rNe : R2 := fun x y H Q => scal x y = true ∧ Q (.bl (!decide (x = y))) H

theorem dec_int {i j : Int} : decide (V.int i = V.int j) = (i == j) := by
  rw [Bool.eq_iff_iff]
  simp
theorem dec_bl {i j : Bool} : decide (V.bl i = V.bl j) = (i == j) := by
  rw [Bool.eq_iff_iff]
  simp
theorem dec_str {i j : Str} : decide (V.str i = V.str j) = (i == j) := by
  rw [Bool.eq_iff_iff]
  simp
theorem dec_byt {i j : Array UInt8} : decide (V.byt i = V.byt j) = (i.toList == j.toList) := by
  rw [Bool.eq_iff_iff]
  cases i
  cases j
  simp

section
variable {X : Cx} {a b c : Expr} {ta tb tc : TE} {pos : Pos}
theorem fin_bl {pins : List (Addr × Obj)} {σ : St} {H : Hp} {s : Shared} {Q : VK} {k k' : Bool} (I : Inv X pins σ H s) (q : Q (.bl k) H) (e : k = k') : EP X pins σ Q (.bool k') s := by
  subst e
  exact ⟨.bl k, H, I, rfl, q⟩
theorem op_eq : OpR X (compareOp .Eq) rEq := by
  intro pins s σ H x y v u Q I rx ry h
  obtain ⟨hs, q⟩ := h
  cases x with
  | non =>
    cases rx
    cases y with
    | non => cases ry; exact PySem.EqNone.eq_none_none (fin_bl I q (by simp))
    | bl j => cases ry; exact PySem.EqNone.eq_none_bool (fin_bl I q (by simp))
    | int j => obtain ⟨t', rfl⟩ := ry; exact PySem.EqNone.eq_none_int (fin_bl I q (by simp))
    | str j => obtain ⟨t', rfl⟩ := ry; exact PySem.EqNone.eq_none_str (fin_bl I q (by simp))
    | _ => exact absurd (show false = true from hs) Bool.false_ne_true
  | bl i =>
    cases rx
    cases y with
    | non => cases ry; exact PySem.EqNone.eq_bool_none (fin_bl I q (by simp))
    | bl j => cases ry; exact eq_bool (fin_bl I q dec_bl)
    | str j => obtain ⟨t', rfl⟩ := ry; exact PySem.EqMixed.eq_bool_str (fin_bl I q (by simp))
    | _ => exact absurd (show false = true from hs) Bool.false_ne_true
  | int i =>
    obtain ⟨t, rfl⟩ := rx
    cases y with
    | non => cases ry; exact PySem.EqNone.eq_int_none (fin_bl I q (by simp))
    | int j => obtain ⟨t', rfl⟩ := ry; exact eq_int (fin_bl I q dec_int)
    | str j => obtain ⟨t', rfl⟩ := ry; exact PySem.EqMixed.eq_int_str (fin_bl I q (by simp))
    | _ => exact absurd (show false = true from hs) Bool.false_ne_true
  | str i =>
    obtain ⟨t, rfl⟩ := rx
    cases y with
    | non => cases ry; exact PySem.EqNone.eq_str_none (fin_bl I q (by simp))
    | bl j => cases ry; exact PySem.EqMixed.eq_str_bool (fin_bl I q (by simp))
    | int j => obtain ⟨t', rfl⟩ := ry; exact PySem.EqMixed.eq_str_int (fin_bl I q (by simp))
    | str j => obtain ⟨t', rfl⟩ := ry; exact eq_str (fin_bl I q dec_str)
    | _ => exact absurd (show false = true from hs) Bool.false_ne_true
  | byt i =>
    obtain ⟨t, rfl⟩ := rx
    cases y with
    | byt j => obtain ⟨t', rfl⟩ := ry; exact PySem.W.eq_bytes (fin_bl I q dec_byt)
    | _ => exact absurd (show false = true from hs) Bool.false_ne_true
  | _ => cases y <;> exact absurd (show false = true from hs) Bool.false_ne_true
theorem op_ne : OpR X (compareOp .NotEq) rNe := by
  intro pins s σ H x y v u Q I rx ry h
  obtain ⟨hs, q⟩ := h
  cases x with
  | non =>
    cases rx
    cases y with
    | non => cases ry; exact PySem.EqNone.ne_none_none (fin_bl I q (by simp))
    | bl j => cases ry; exact PySem.EqNone.ne_none_bool (fin_bl I q (by simp))
    | int j => obtain ⟨t', rfl⟩ := ry; exact PySem.EqNone.ne_none_int (fin_bl I q (by simp))
    | str j => obtain ⟨t', rfl⟩ := ry; exact PySem.EqNone.ne_none_str (fin_bl I q (by simp))
    | _ => exact absurd (show false = true from hs) Bool.false_ne_true
  | bl i =>
    cases rx
    cases y with
    | non => cases ry; exact PySem.EqNone.ne_bool_none (fin_bl I q (by simp))
    | bl j => cases ry; exact ne_bool (fin_bl I q (congrArg not dec_bl))
    | str j => obtain ⟨t', rfl⟩ := ry; exact PySem.EqMixed.ne_bool_str (fin_bl I q (by simp))
    | _ => exact absurd (show false = true from hs) Bool.false_ne_true
  | int i =>
    obtain ⟨t, rfl⟩ := rx
    cases y with
    | non => cases ry; exact PySem.EqNone.ne_int_none (fin_bl I q (by simp))
    | int j => obtain ⟨t', rfl⟩ := ry; exact ne_int (fin_bl I q (congrArg not dec_int))
    | str j => obtain ⟨t', rfl⟩ := ry; exact PySem.EqMixed.ne_int_str (fin_bl I q (by simp))
    | _ => exact absurd (show false = true from hs) Bool.false_ne_true
  | str i =>
    obtain ⟨t, rfl⟩ := rx
    cases y with
    | non => cases ry; exact PySem.EqNone.ne_str_none (fin_bl I q (by simp))
    | bl j => cases ry; exact PySem.EqMixed.ne_str_bool (fin_bl I q (by simp))
    | int j => obtain ⟨t', rfl⟩ := ry; exact PySem.EqMixed.ne_str_int (fin_bl I q (by simp))
    | str j => obtain ⟨t', rfl⟩ := ry; exact ne_str (fin_bl I q (congrArg not dec_str))
    | _ => exact absurd (show false = true from hs) Bool.false_ne_true
  | byt i =>
    obtain ⟨t, rfl⟩ := rx
    cases y with
    | byt j => obtain ⟨t', rfl⟩ := ry; exact PySem.W.ne_bytes (fin_bl I q (congrArg not dec_byt))
    | _ => exact absurd (show false = true from hs) Bool.false_ne_true
  | _ => cases y <;> exact absurd (show false = true from hs) Bool.false_ne_true

theorem op_lt : OpR X (compareOp .Lt) (rI0 fun i j => .bl (decide (i < j))) := opB0 fun _ _ _ _ _ _ _ q => lt_int q
theorem op_gt : OpR X (compareOp .Gt) (rI0 fun i j => .bl (decide (j < i))) := opB0 fun _ _ _ _ _ _ _ q => gt_int q
theorem op_ge : OpR X (compareOp .GtE) (rI0 fun i j => .bl (decide (j ≤ i))) := opB0 fun _ _ _ _ _ _ _ q => ge_int q
/-- the one string within the other -/
theorem op_in_str : OpR X (compareOp .In) (fun x y H Q => ∃ i j, x = .str i ∧ y = .str j ∧ Q (.bl (!(Builtin.Str.occurrences j i 0 j.length 1).isEmpty)) H) := by
  intro pins s σ H x y v u Q I rx ry h
  obtain ⟨i, j, rfl, rfl, q⟩ := h
  obtain ⟨t, rfl⟩ := rx
  obtain ⟨t', rfl⟩ := ry
  exact in_str (fin_bl I q rfl)

theorem op_notin_str : OpR X (compareOp .NotIn) (fun x y H Q => ∃ i j, x = .str i ∧ y = .str j ∧ Q (.bl (!(!(Builtin.Str.occurrences j i 0 j.length 1).isEmpty))) H) := by
  intro pins s σ H x y v u Q I rx ry h
  obtain ⟨i, j, rfl, rfl, q⟩ := h
  obtain ⟨t, rfl⟩ := rx
  obtain ⟨t', rfl⟩ := ry
  exact notIn_str (fin_bl I q rfl)
theorem nomark (b : Expr) {op : CmpOp} (h : op ≠ .In := by decide) (h2 : op ≠ .NotIn := by decide) : behindInMarks op b = false := by
  have e1 : (op == CmpOp.In) = false := by cases op <;> first | rfl | exact absurd rfl h
  have e2 : (op == CmpOp.NotIn) = false := by cases op <;> first | rfl | exact absurd rfl h2
  cases b <;> simp [behindInMarks, e1, e2]
/-- a comparison as a value; hm: nomark b, or (for in, not in) by with_unfolding_all rfl -/
theorem pe_cmpR {op : CmpOp} {r : R2} (ho : OpR X (compareOp op) r) (ha : PE X a ta) (hb : PE X b tb) (hm : behindInMarks op b = false) : PE X (.Compare a [op] [b] pos) (tOp r ta tb) := by
  intro pins s σ H Q I h
  exact wpAny_Compare1 (binT ha hb I h fun v u s2 x y H2 I2 rx ry q => ho pins s2 σ H2 x y v u Q I2 rx ry q) hm
/-- a reading of a value as a test -/
def tTest (t : TE) : TT := fun σ H Q => t σ H fun x H' => ∃ k, x = .bl k ∧ Q k H'
theorem pt_cmpR {op : CmpOp} {r : R2} (ho : OpR X (compareOp op) r) (ha : PE X a ta) (hb : PE X b tb) (hm : behindInMarks op b = false) : PT X (.Compare a [op] [b] pos) (tTest (tOp r ta tb)) := by
  intro pins s σ H Q I h
  refine wpAny_isTrue_Compare1 (thn (ha pins s σ H _ I h) fun v s1 ⟨x, H1, I1, r1, q1⟩ => thn (hb pins s1 σ H1 _ I1 q1) fun u s2 ⟨y, H2, I2, r2, q2⟩ =>
    thn (ho pins s2 σ H2 x y v u _ I2 r1 r2 q2) fun c s3 ⟨z, H3, I3, r3, k, e, q3⟩ => ?_) hm
  subst e
  cases r3
  exact wpAny_truthy_bool ⟨H3, I3, q3⟩
/-! ### truth -/
/-- a value's truth by the abstract heap -/
def TruV (K : PySem.W.Frag) (x : V) (H : Hp) (k : Bool) : Prop :=
  match x with
  | .non => k = false
  | .bl b => k = b
  | .int i => k = (i != 0)
  | .str y => y.length ≤ sizeLine ∧ k = ((y.length : Int) != 0)
  | .byt y => y.size ≤ sizeLine ∧ k = ((y.size : Int) != 0)
  | .ref p => (∃ xs, SqL K H p xs ∧ k = !xs.isEmpty) ∨ (∃ xs, SqT K H p xs ∧ k = !xs.isEmpty) ∨ ∃ kvs, H p = some (.dK kvs) ∧ k = !kvs.isEmpty
  | _ => False
theorem isEmpty_kv {κ : Type} {kvs : List (κ × V)} {vs : List (κ × Value)} (r : KV kvs vs) : (!vs.isEmpty) = !kvs.isEmpty := by
  cases r <;> rfl
theorem isEmpty_of {xs : List V} {its : List Value} (r : Vals xs its) : (!its.toArray.isEmpty) = !xs.isEmpty := by
  cases r <;> simp
theorem line63 : (sizeLine : Nat) < 2 ^ 63 := by rw [sizeLine_eq]; decide
theorem tru_ok : TruR X (fun x H Q => ∃ k, TruV X.K x H k ∧ Q k H) := by
  intro pins s σ H x v Q I rx h
  obtain ⟨k, e, q⟩ := h
  have hl := line63
  have hs : sizeLine = 16777216 := sizeLine_eq
  cases x with
  | non =>
    cases rx
    have e' : k = false := e
    subst e'
    exact truthy_none ⟨H, I, q⟩
  | bl b =>
    cases rx
    have e' : k = b := e
    subst e'
    exact wpAny_truthy_bool ⟨H, I, q⟩
  | int i =>
    obtain ⟨t, rfl⟩ := rx
    have e' : k = (i != 0) := e
    subst e'
    exact PySem.P.truthy_int ⟨H, I, q⟩
  | str y =>
    obtain ⟨t, rfl⟩ := rx
    obtain ⟨hy, e'⟩ : y.length ≤ sizeLine ∧ k = ((y.length : Int) != 0) := e
    subst e'
    exact PySem.P.truthy_str (by omega) ⟨H, I.tok _, q⟩
  | byt y =>
    obtain ⟨t, rfl⟩ := rx
    obtain ⟨hy, e'⟩ : y.size ≤ sizeLine ∧ k = ((y.size : Int) != 0) := e
    subst e'
    exact PySem.W.truthy_bytes (by omega) ⟨H, I.tok _, q⟩
  | ref p =>
    cases rx
    have e' : (∃ xs, SqL X.K H p xs ∧ k = !xs.isEmpty) ∨ (∃ xs, SqT X.K H p xs ∧ k = !xs.isEmpty) ∨ ∃ kvs, H p = some (.dK kvs) ∧ k = !kvs.isEmpty := e
    rcases e' with ⟨xs, hx, e'⟩ | ⟨xs, hx, e'⟩ | ⟨kvs, hx, e'⟩
    · subst e'
      obtain ⟨its, r, pl, hz⟩ := I.list hx
      have hlen := r.length
      exact wpAny_truthy_list pl.isList (by simp only [List.size_toArray]; omega) ⟨H, I.tok _, by rw [isEmpty_of r]; exact q⟩
    · subst e'
      obtain ⟨its, r, pl, hz⟩ := I.tuple hx
      have hlen := r.length
      exact truthy_tuple pl (by simp only [List.size_toArray]; omega) ⟨H, I.tok _, by rw [isEmpty_of r]; exact q⟩
    · subst e'
      obtain ⟨hz, hS, vs, r, m⟩ : kvs.length ≤ sizeLine ∧ (p == sysModules) = false ∧ ∃ vs, KV kvs vs ∧ s.heap.DictOf (mixKind X.prog X.w) p vs := I.hok p _ hx
      have hlen : kvs.length = vs.length := Paired.length r
      exact wpAny_truthy_dict hS m (by omega) ⟨H, I.tok _, by rw [isEmpty_kv r]; exact q⟩
  | _ => exact (show False from e).elim
/-- any expression whose test is its value's truth (a name, a call, a subscript, a field ..: he by fun _ => rfl) -/
theorem pt_truth (ha : PE X a ta) (he : ∀ whole, isTrue a X.env whole = (do let v ← whole; standAt a.pos; holding [v] (truthy v))) :
    PT X a (fun σ H Q => ta σ H fun x H' => ∃ k, TruV X.K x H' k ∧ Q k H') := by
  intro pins s σ H Q I h
  exact isTrue_plain (thn (ha pins s σ H _ I h) fun v s1 ⟨x, H1, I1, r1, q1⟩ => tru_ok pins s1 σ H1 x v Q I1 r1 q1) (he _)

/-! ### strs and bytes -/
theorem op_add_str : OpR X (binaryOp .Add) (fun x y H Q => ∃ i j, x = .str i ∧ y = .str j ∧ i.length + j.length ≤ sizeLine ∧ Q (.str (i ++ j)) H) := by
  intro pins s σ H x y v u Q I rx ry h
  obtain ⟨i, j, rfl, rfl, hz, q⟩ := h
  obtain ⟨t, rfl⟩ := rx
  obtain ⟨t', rfl⟩ := ry
  exact add_str (fun t' tk => ⟨.str (i ++ j), H, I.tok _, ⟨_, rfl⟩, q⟩) hz
/-! ### scalar builtins, by CallR -/
theorem vals1 {x : V} {us : List Value} (r : Vals [x] us) : ∃ u, us = [u] ∧ RelV x u := by
  cases r with
  | cons r1 r2 => cases r2; exact ⟨_, rfl, r1⟩
theorem vals2 {x y : V} {us : List Value} (r : Vals [x, y] us) : ∃ u w', us = [u, w'] ∧ RelV x u ∧ RelV y w' := by
  cases r with
  | cons r1 r2 =>
    cases r2 with
    | cons r3 r4 => cases r4; exact ⟨_, _, rfl, r1, r3⟩
theorem call_max2 (hc : X.calm = true) : CallR X (.builtin "max") (fun xs H Q => ∃ i j, xs = [.int i, .int j] ∧ Q (.int (if j > i then j else i)) H) := by
  intro pins s σ H xs us Q I r h
  obtain ⟨i, j, rfl, q⟩ := h
  obtain ⟨u, w', rfl, ⟨t, rfl⟩, ⟨t', rfl⟩⟩ := vals2 r
  refine max_two_ints (I.ok.hd hc) fun h' tk k => ⟨_, H, I.kept k, ?_, q⟩
  by_cases hj : j > i
  · rw [if_pos hj, if_pos hj]; exact ⟨_, rfl⟩
  · rw [if_neg hj, if_neg hj]; exact ⟨_, rfl⟩
theorem call_str_int : CallR X (.type "str") (fun xs H Q => ∃ i, xs = [.int i] ∧ i.natAbs.log2 < 1920 ∧ Q (.str (toString i)) H) := by
  intro pins s σ H xs us Q I r h
  obtain ⟨i, rfl, hz, q⟩ := h
  obtain ⟨u, rfl, t, rfl⟩ := vals1 r
  exact PySem.P.str_of_int hz ⟨.str _, H, I.tok _, ⟨_, rfl⟩, q⟩
/-- divmod: a new tuple -/
theorem call_divmod : CallR X (.builtin "divmod") (fun xs H Q => ∃ i j, xs = [.int i, .int j] ∧ CDiv i j ∧ ∀ p, H p = none → Q (.ref p) (upd H p (.tup [.int (i / j), .int (i % j)]))) := by
  intro pins s σ H xs us Q I r h
  obtain ⟨i, j, rfl, ⟨h1, h2⟩, q⟩ := h
  obtain ⟨u, w', rfl, ⟨t, rfl⟩, ⟨t', rfl⟩⟩ := vals2 r
  refine divmod_int (by omega) ?_ (.inl (PyProof.noPylong_small (by omega)))
  rw [Int.fdiv_eq_ediv_of_nonneg i (by omega), Int.fmod_eq_emod_of_nonneg i (by omega)]
  have hn : H s.heap.objs.size = none := I.hok.fresh (Nat.le_refl _)
  refine ⟨.ref s.heap.objs.size, _, ?_, rfl, q _ hn⟩
  refine I.laid (fun b o e => Heap.get?_push_of_some _ e) (Nat.le_refl _) ⟨by simp only [List.length_cons, List.length_nil]; rw [sizeLine_eq]; decide, [.int (i / j) s.toks, .int (i % j) (s.toks + 1)], .cons ⟨_, rfl⟩ (.cons ⟨_, rfl⟩ .nil), ?_⟩
  exact ⟨_, Heap.get?_push_size s.heap rfl, rfl, 0, rfl⟩
end
end L2

namespace L2
open PySem PySem.Spec PyProof.Rows

/-! ### an instance, its attributes a map -/
structure ObjM (h : Heap) (x dx C : Addr) (mA : Str → Option Value) : Prop where
  obj : h.get? x = some (PySem.W.instObj C dx)
  ns : h.Ns1 dx mA
  ne : dx ≠ x

theorem lookIn_ns {h : Heap} {dx : Addr} {mA : Str → Option Value} (n : h.Ns1 dx mA) : ∃ od, h.get? dx = some od ∧ ∀ name, PySem.W.lookIn name od = some (mA name) := by
  obtain ⟨o, es, ep, ho, hd, hk, _, hm⟩ := n
  refine ⟨o, ho, fun name => ?_⟩
  have e := hm name
  unfold nsFind findBy at e
  rw [← Array.find?_toList] at e
  unfold PySem.W.lookIn
  rw [hd]
  dsimp only
  split
  · rename_i y q
    rw [q] at e
    exact congrArg some e
  · rename_i q
    rw [q] at e
    have a : es.toList.any (·.refKey) = false := by
      rw [List.any_eq_false]
      intro y hy
      obtain ⟨z, t, hkey⟩ := hk y (Array.mem_toList_iff.mp hy)
      simp [DictEntry.refKey, hkey]
    have a' : ¬ es.toList.any (·.refKey) = true := by rw [a]; exact Bool.false_ne_true
    rw [if_neg a']
    exact congrArg some e

theorem ObjM.look {h : Heap} {x dx C : Addr} {mA : Str → Option Value} (I : ObjM h x dx C mA) : ∃ od, PySem.W.InstAt h x (PySem.W.instObj C dx) C (some od) ∧ ∀ name, PySem.W.lookIn name od = some (mA name) :=
  let ⟨od, ho, hl⟩ := lookIn_ns I.ns
  ⟨od, ⟨I.obj, rfl, rfl, ho⟩, hl⟩

section
variable {prog : Program} {w : World} {A : Around} {E : Value → Shared → Prop} {s : Shared} {K : PySem.W.Frag} {x dx C f : Addr} {mA : Str → Option Value} {name : Str} {v : Value}

end

/-! ### the attributes as a list of pairs -/
theorem RelO.some_of {v : V} {o : Option Value} (r : RelO (some v) o) : ∃ u, o = some u ∧ RelV v u := by
  cases o with
  | none => exact (show False from r).elim
  | some u => exact ⟨u, rfl, r⟩
section
variable {P : Program} {w : World} {H H' : Hp} {h h' : Heap} {a C dx : Addr} {fs fs' : List (Str × V)}
theorem ins_get (hok : HOk P w H h) (e : H a = some (.ins C dx fs)) : ∃ mA, ObjM h a dx C mA ∧ (∀ f, RelO (fs.lookup f) (mA f)) ∧ PySem.Within mA (fs.map (·.1)) ∧ fs.length ≤ 1000 ∧ H dx = some (.own a) := by
  obtain ⟨d, z, ne, ob, mA, n, r, q⟩ := (show ObjOk P w H h a (.ins C dx fs) from hok a _ e)
  exact ⟨mA, ⟨ob, n, ne⟩, r, q, z, d⟩
end

/-! ### what of the text a class must have -/
structure Cls (K : PySem.W.Frag) (C : Addr) : Prop where
  pg : PySem.W.plainGet K C Str.empty = true
  hd : PySem.W.hasDictIn K C = true
  po : PySem.W.plainOver K C = true
  sa : PySem.W.findIn K (.ref C) "__setattr__" = some (some (.builtin "object.__setattr__"))
theorem Cls.get {K : PySem.W.Frag} {C : Addr} (c : Cls K C) (f : Str) : PySem.W.plainGet K C f = true := c.pg
section
variable {X : Cx} {pins : List (Addr × Obj)} {σ : St} {H : Hp} {s : Shared} {a C dx : Addr} {fs : List (Str × V)} {f : Str} {v : V} {A : Around} {E : Value → Shared → Prop}

end

/-! ### readings and rules -/
section
variable {X : Cx} {o e value : Expr} {f : Str} {pos pos' tpos : Pos} {ta tv : TE}
end

/-! ### isinstance -/
section
variable {X : Cx} {pins : List (Addr × Obj)} {σ : St} {H : Hp} {s : Shared} {A : Around} {E : Value → Shared → Prop} {Q : Value → Shared → Prop} {c : Value} {b : Bool}
/-- the type of a value, as the fragment's deciders take it; for an instance its class -/
inductive TyOf (K : PySem.W.Frag) (H : Hp) : V → Value → Prop where
  | non : TyOf K H .non (.type "NoneType")
  | bl (x : Bool) : TyOf K H (.bl x) (.type "bool")
  | int (i : Int) : TyOf K H (.int i) (.type "int")
  | str (x : Str) : TyOf K H (.str x) (.type "str")
  | flt (x : UInt64) : TyOf K H (.flt x) (.type "float")
  | lst {a : Addr} {xs : List V} (e : H a = some (.lst xs)) : TyOf K H (.ref a) (.type "list")
  | frz {a : Addr} {o : Obj} {xs : List V} (e : H a = some (.frz o (.lst xs))) : TyOf K H (.ref a) (.type "list")
  | tup {a : Addr} {xs : List V} (e : H a = some (.tup xs)) : TyOf K H (.ref a) (.type "tuple")
  | dK {a : Addr} {kvs : List (Key × V)} (e : H a = some (.dK kvs)) : TyOf K H (.ref a) (.type "dict")
  | dT {a : Addr} {kvs : List (List Key × V)} (e : H a = some (.dT kvs)) : TyOf K H (.ref a) (.type "dict")
  | ins {a C dx : Addr} {fs : List (Str × V)} (e : H a = some (.ins C dx fs)) (cl : Cls K C) (ha : PySem.W.findIn K (.ref C) "__class__" = some (some (.builtin "object.__class__")))
      (hn : PySem.W.specialIn K (.builtin "object.__class__") "__get__" = some (some (.builtin "getset_descriptor.__get__"))) (htk : PySem.W.takesIn K (.builtin "object.__class__") = some true)
      (hm : PySem.W.mroIn K C (.type "object") = some true) : TyOf K H (.ref a) (.ref C)
/-- isinstance(x, c) for one class c, a built-in or an own one: kitOne's answer -/
theorem isinst_ok {x : V} {u t : Value} (I : Inv X pins σ H s) (rx : RelV x u) (ty : TyOf X.K H x t) (e : PySem.W.kitOne X.K t c = some b) (h : ∀ tk, Q (.bool b) { s with toks := tk }) :
    wpAny (model X.prog X.w) A (call (.builtin "isinstance") [u, c]) Q E s := by
  cases ty with
  | non => cases (show u = Value.none from rx); exact PySem.W.kia_one PySem.W.kitx_none I.kIn True.intro e (fun z => nomatch z) h
  | bl y => cases (show u = Value.bool y from rx); exact PySem.W.kia_one PySem.W.kitx_bool I.kIn True.intro e (fun z => nomatch z) h
  | int i => obtain ⟨t, q⟩ := (show ∃ t, u = Value.int i t from rx); cases q; exact PySem.W.kia_one PySem.W.kitx_int I.kIn True.intro e (fun z => nomatch z) h
  | str y => obtain ⟨t, q⟩ := (show ∃ t, u = Value.str y t from rx); cases q; exact PySem.W.kia_one PySem.W.kitx_str I.kIn True.intro e (fun z => nomatch z) h
  | flt y => obtain ⟨t, q⟩ := (show ∃ t, u = Value.float y t from rx); cases q; exact PySem.W.kia_one PySem.W.kitx_float I.kIn True.intro e (fun z => nomatch z) h
  | @lst a xs ea =>
    cases (show u = Value.ref a from rx)
    obtain ⟨_, _, n, _, h1⟩ := (show ObjOk X.prog X.w H s.heap a (.lst xs) from I.hok a _ ea)
    exact PySem.W.kia_one PySem.W.kitx_list I.kIn ⟨_, h1, rfl⟩ e (fun z => nomatch z) h
  | @frz a ob xs ea =>
    cases (show u = Value.ref a from rx)
    obtain ⟨_, _, _, n, _, h1⟩ := (show ObjOk X.prog X.w H s.heap a (.frz ob (.lst xs)) from I.hok a _ ea)
    exact PySem.W.kia_one PySem.W.kitx_list I.kIn ⟨_, h1, rfl⟩ e (fun z => nomatch z) h
  | @tup a xs ea =>
    cases (show u = Value.ref a from rx)
    obtain ⟨_, _, _, p⟩ := (show ObjOk X.prog X.w H s.heap a (.tup xs) from I.hok a _ ea)
    obtain ⟨o, h1, h2, _⟩ := p
    exact PySem.W.kia_one PySem.W.kitx_tuple I.kIn ⟨o, h1, h2⟩ e (fun z => nomatch z) h
  | @dK a kvs ea =>
    cases (show u = Value.ref a from rx)
    obtain ⟨_, _, vs, _, p⟩ := (show ObjOk X.prog X.w H s.heap a (.dK kvs) from I.hok a _ ea)
    obtain ⟨o, es, ep, h1, h2, _⟩ := p
    exact PySem.W.kia_one PySem.W.kitx_dict I.kIn ⟨o, h1, h2.1⟩ e (fun z => nomatch z) h
  | @dT a kvs ea =>
    cases (show u = Value.ref a from rx)
    obtain ⟨_, _, xs, _, o, es, ep, h1, h2, _⟩ := (show ObjOk X.prog X.w H s.heap a (.dT kvs) from I.hok a _ ea)
    exact PySem.W.kia_one PySem.W.kitx_dict I.kIn ⟨o, h1, h2.1⟩ e (fun z => nomatch z) h
  | @ins a C dx fs ea cl ha hn htk hm =>
    cases (show u = Value.ref a from rx)
    obtain ⟨mA, O, _⟩ := ins_get I.hok ea
    obtain ⟨od, J, _⟩ := O.look
    exact PySem.W.kia_one (PySem.W.kitx_own (cl.get _) cl.hd ha hn htk hm) I.kIn J e (fun z => nomatch z) h
end
end L2

namespace L2
open PySem PySem.Spec PyProof.Rows

/-! ### room -/
structure Room (k : Nat) (A : Around) : Prop where
  hd : A.handled = none
  dp : A.depth + 3 * k + 5 < recursionLimit
  un : A.units + 16 * k + 200 < cLine
theorem Room.mono {j k : Nat} {A : Around} (r : Room k A) (h : j ≤ k) : Room j A := ⟨r.hd, by have := r.dp; omega, by have := r.un; omega⟩
theorem Room.deeper {k : Nat} {A : Around} (r : Room (k + 1) A) (env : Env) : Room k (A.deeper env) :=
  ⟨r.hd, by have := r.dp; show A.depth + 1 + 3 * k + 5 < _; omega, by have := r.un; show A.units + 3 + 16 * k + 200 < _; omega⟩
theorem Room.depth {k : Nat} {A : Around} (r : Room k A) : A.depth < recursionLimit := by have := r.dp; omega
theorem Room.units {k : Nat} {A : Around} (r : Room k A) : A.units + 64 < cLine := by have := r.un; omega
/-! ### argument lists and displays -/
def tNil : TA := fun _ H Q => Q [] H
def tCons (ta : TE) (tr : TA) : TA := fun σ H Q => ta σ H fun x H1 => tr σ H1 fun xs H2 => Q (x :: xs) H2
section
variable {X : Cx} {e : Expr} {es : List Expr} {te : TE} {t : TA} {pos : Pos}
theorem pa_nil : PA X [] tNil := fun _ _ _ _ H Q I h => Calls.spliced_nil ⟨[], H, I, .nil, h⟩
theorem pa_cons (ha : PE X e te) (hr : PA X es t) (hs : starEach (e :: es) X.env = (false, eval e X.env) :: starEach es X.env := by rfl) : PA X (e :: es) (tCons te t) := by
  intro pos pins s σ H Q I h
  rw [hs]
  show wpAny _ _ (spliced ((false, eval e X.env) :: backTo pos (starEach es X.env))) _ _ s
  refine Calls.spliced_cons (thn (ha pins s σ H _ I h) fun u s1 ⟨x, H1, I1, r1, q1⟩ => ?_)
  exact thn (hr pos pins s1 σ H1 _ I1 q1) fun us s2 ⟨xs, H2, I2, r2, q2⟩ => ⟨x :: xs, H2, I2, .cons r1 r2, q2⟩

/-- a tuple, a list of written items -/
def tTup (t : TA) : TE := fun σ H Q => t σ H fun xs H1 => xs.length ≤ sizeLine ∧ ∀ p, H1 p = none → Q (.ref p) (upd H1 p (.tup xs))
def tLst (t : TA) : TE := fun σ H Q => t σ H fun xs H1 => xs.length ≤ sizeLine ∧ ∀ p, H1 p = none → Q (.ref p) (upd H1 p (.lst xs))
theorem pe_tup {x1} (h : PA X es t) : PE X (.Tuple es x1 pos) (tTup t) := by
  intro pins s σ H Q I hq
  refine wpAny_Tuple_spliced (thn (h pos pins s σ H _ I hq) fun us s1 ⟨xs, H1, I1, r, z, q⟩ => ⟨by rw [← r.length]; exact z, ?_⟩)
  have hf : H1 s1.heap.objs.size = none := I1.hok.fresh (Nat.le_refl _)
  refine ⟨.ref s1.heap.objs.size, upd H1 s1.heap.objs.size (.tup xs), I1.laid (t' := s1.toks) (fun b u e => Heap.get?_push_of_some _ e) (Nat.le_refl _) ?_, rfl, q _ hf⟩
  exact ⟨z, us, r, ⟨_, Heap.get?_push_size _ rfl, rfl, _, rfl⟩⟩
theorem pe_lst (h : PA X es t) : PE X (.List es pos) (tLst t) := by
  intro pins s σ H Q I hq
  refine wpAny_List_spliced (thn (h pos pins s σ H _ I hq) fun us s1 ⟨xs, H1, I1, r, z, q⟩ => ⟨by rw [← r.length]; exact z, ?_⟩)
  have hf : H1 s1.heap.objs.size = none := I1.hok.fresh (Nat.le_refl _)
  refine ⟨.ref s1.heap.objs.size, upd H1 s1.heap.objs.size (.lst xs), I1.laid (t' := s1.toks) (fun b u e => Heap.get?_push_of_some _ e) (Nat.le_refl _) ?_, rfl, q _ hf⟩
  exact ⟨z, us, 0, r, Heap.get?_push_size _ rfl⟩
end

/-! ### what a def promises -/
/-- a def's promise: the bound arguments in the parameters' order, the heap, the wanted end, the wanted exception -/
abbrev Sp := List V → Hp → VK → XK → Prop
/-- how an exception lies behind a call (file 08 gives it): the callers' frames, abstract heap and state ahead of the call, the wish, the exception, the state -/
abbrev CXT := List Env → Hp → Shared → XK → Value → Shared → Prop

/-- the state at a call -/
structure Env0 (P : Program) (w : World) (K : PySem.W.Frag) (mg : Str → Option Value) (base : Heap) (A : Around) (outer : List Env) (s : Shared) (H : Hp) : Prop where
  frames : A.frames = some outer
  mod : Mod K mg base
  bs : ∀ b o, base.get? b = some o → s.heap.get? b = some o ∧ H b = none
  bsz : base.objs.size ≤ s.heap.objs.size
  funs : s.heap.FunFrames base outer
  frf : ∀ b ∈ frs outer, H b = none
  hok : HOk P w H s.heap
  bare : AllBare s.gens
/-- a call's end -/
def CE (outer : List Env) (P : Program) (w : World) (H : Hp) (s : Shared) (Q : VK) (u : Value) (s' : Shared) : Prop :=
  ∃ v H', s'.os = s.os ∧ AllBare s'.gens ∧ Un (frs outer) [] H H' s.heap s'.heap ∧ HOk P w H' s'.heap ∧ RelV v u ∧ Q v H'
def CR (CX : CXT) (outer : List Env) (P : Program) (w : World) (H : Hp) (s : Shared) (Q : VK) (E : XK) (r : Result) (s' : Shared) : Prop :=
  match r with
  | .ok (.ret u) => CE outer P w H s Q u s'
  | .ok _ => False
  | .error e => CX outer H s E e s'
structure FnOk (P : Program) (w : World) (K : PySem.W.Frag) (mg : Str → Option Value) (base : Heap) (CX : CXT) (k : Nat) (f : Addr) (fd : FuncData) (ps : List Str) (sp : Sp) : Prop where
  len : ∀ vs H Q E, sp vs H Q E → vs.length = ps.length
  run : ∀ (A : Around) (outer : List Env) (s : Shared) (H : Hp) (args : Args) (us : List Value) (vs : List V) (Q : VK) (E : XK), Room k A → Env0 P w K mg base A outer s H → BindsTo s fd args (ps.zip us) → Vals vs us → sp vs H Q E →
    codeAny (model P w) A (.call (.ref f) args) (CR CX outer P w H s Q E) s
section
variable {X : Cx} {pins : List (Addr × Obj)} {σ : St} {H : Hp} {s s' : Shared}
/-- from a body: what a callee wants -/
theorem Inv.env0 (I : Inv X pins σ H s) : Env0 X.prog X.w X.K X.mg X.base X.A X.stack s H :=
  ⟨I.ok.frames, I.ok.mod, I.bs, Nat.le_trans I.ok.bsz I.sz, I.stack, I.stkFree, I.hok, I.bare⟩
/-- behind a call -/
theorem Inv.after {Q : VK} {u : Value} (I : Inv X pins σ H s) (h : CE X.stack X.prog X.w H s Q u s') : EP X pins σ Q u s' := by
  obtain ⟨v, H', os, bare, un, hok, r, q⟩ := h
  obtain ⟨hh, g, d, t, os'⟩ := s'
  obtain rfl : os' = s.os := os
  exact ⟨v, H', I.call (h' := hh) (g' := g) (d' := d) (t' := t) (ch := []) un hok bare (fun b z => absurd z (by simp)), r, q⟩
end

/-! ### calls -/
/-- f(..): the written arguments, then the defaults dvs; E: what is wanted of an exception -/
def tCall (sp : Sp) (dvs : List V) (E : XK) (t : TA) : TE := fun σ H Q => t σ H fun vs H1 => sp (vs ++ dvs) H1 Q E
/-- how the parameters are bound: us the positional arguments, kw the keywords' values by name, ds the defaults that fill up -/
def Binds (K : PySem.W.Frag) (fd : FuncData) (ps : List Str) (ds : List Value) : Prop :=
  ∀ (s : Shared) (us : List Value), K.In s.heap → (us ++ ds).length = ps.length → BindsTo s fd ⟨us, []⟩ (ps.zip (us ++ ds))
/-- every parameter is given -/
theorem Binds.all {K : PySem.W.Frag} {fd : FuncData} {ps : List Str} (h : ∀ us : List Value, us.length = ps.length → bindArgs fd ⟨us, []⟩ = pure (ps.zip us)) : Binds K fd ps [] := fun s us _ hl => by
  rw [List.append_nil] at hl ⊢
  exact .of_eq (h us hl)

/-- an exception of a callee reaches what this body wants of exceptions -/
def Passes (CX : CXT) (X : Cx) (E : XK) : Prop := ∀ (pins : List (Addr × Obj)) (σ : St) (H : Hp) (s : Shared) (e : Value) (s' : Shared), Inv X pins σ H s → CX X.stack H s E e s' → X.xe e s'

section
variable {X : Cx} {CX : CXT} {k : Nat} {f C : Addr} {fd : FuncData} {ps : List Str} {sp : Sp} {dvs : List V} {ds : List Value} {E : XK} {x m : Str} {p pos apos : Pos} {e o : Expr} {es : List Expr} {ta : TE} {t : TA}

/-- the callee runs -/
theorem run_fn {pins : List (Addr × Obj)} {σ : St} {H : Hp} {s : Shared} {Q : VK} {us : List Value} {vs : List V} (F : FnOk X.prog X.w X.K X.mg X.base CX k f fd ps sp) (hr : Room k X.A) (hb : Binds X.K fd ps ds) (hd : Vals dvs ds) (hx : Passes CX X E)
    (I : Inv X pins σ H s) (r : Vals vs us) (h : sp (vs ++ dvs) H Q E) : wpAny (model X.prog X.w) X.A (call (.ref f) us) (EP X pins σ Q) X.xe s := by
  have r2 : Vals (vs ++ dvs) (us ++ ds) := r.append hd
  have hl : (us ++ ds).length = ps.length := by rw [← r2.length]; exact F.len _ _ _ _ h
  refine wpAny_call (codeAny_mono (F.run X.A X.stack s H ⟨us, []⟩ (us ++ ds) (vs ++ dvs) Q E hr I.env0 (hb s us I.kIn hl) r2 h) fun r s' hq => ?_)
  cases r with
  | error e => exact hx pins σ H s e s' I hq
  | ok fl =>
    cases fl with
    | ret u => exact I.after hq
    | next => exact False.elim hq
    | brk => exact False.elim hq
    | cont => exact False.elim hq

theorem pe_call (F : FnOk X.prog X.w X.K X.mg X.base CX k f fd ps sp) (hr : Room k X.A) (hg : Gl X x) (hm : X.mg x = some (.ref f)) (hk : PySem.W.keepIn X.K (.ref f) = true) (hb : Binds X.K fd ps ds) (hd : Vals dvs ds) (hx : Passes CX X E)
    (ha : PA X (e :: es) t) (hdb : (x == ("__debug__" : Str)) = false := by decide) (he : starEach (e :: es) X.env = (false, eval e X.env) :: starEach es X.env := by rfl) (hpl : (backTo pos (starEach es X.env)).any (·.1) = false := by rfl) :
    PE X (.Call (.Name x p) (e :: es) [] pos) (tCall sp dvs E t) := by
  intro pins s σ H Q I h
  refine wpAny_Call_Name_kw (ld_glob I hg hm ?_ hdb)
  refine PySem.W.callWith_K (h₀ := X.base) I.ok.mod.kin hk (thn (ha pos pins s σ H _ I h) fun us s1 ⟨vs, H1, I1, r, q⟩ => ⟨I1.kIn, ?_⟩) he hpl
  exact run_fn F hr hb hd hx I1 r q
theorem pe_call0 (F : FnOk X.prog X.w X.K X.mg X.base CX k f fd ps sp) (hr : Room k X.A) (hg : Gl X x) (hm : X.mg x = some (.ref f)) (hk : PySem.W.keepIn X.K (.ref f) = true) (hb : Binds X.K fd ps ds) (hd : Vals dvs ds) (hx : Passes CX X E)
    (hdb : (x == ("__debug__" : Str)) = false := by decide) : PE X (.Call (.Name x p) [] [] pos) (tCall sp dvs E tNil) := by
  intro pins s σ H Q I h
  refine wpAny_Call_Name_kw (ld_glob I hg hm ?_ hdb)
  exact PySem.W.callWith_K0 I.kIn hk (run_fn (us := []) F hr hb hd hx I .nil h)

end

/-! ### keywords -/
/-- the values of the keywords, from the left -/
def PK (X : Cx) (kws : List Keyword) (t : TA) : Prop :=
  ∀ (pos : Pos) (pins : List (Addr × Obj)) (s : Shared) (σ : St) (H : Hp) (Q : List V → Hp → Prop), Inv X pins σ H s → t σ H Q → wpAny (model X.prog X.w) X.A (evalAll ((backToKw pos (keywordEach kws X.env)).map (·.2))) (AP X pins σ Q) X.xe s
section
variable {X : Cx} {CX : CXT} {k : Nat} {f C : Addr} {fd : FuncData} {ps ks : List Str} {sp : Sp} {E : XK} {x m : Str} {p pos apos kpos : Pos} {e o : Expr} {es : List Expr} {kws : List Keyword} {te ta : TE} {t tk : TA} {nm : Option Str}
theorem pk_nil : PK X [] tNil := fun _ _ _ _ H Q I h => wpAny_evalAll_nil ⟨[], H, I, .nil, h⟩
theorem pk_cons (ha : PE X e te) (hr : PK X kws t) : PK X (⟨nm, e, kpos⟩ :: kws) (tCons te t) := by
  intro pos pins s σ H Q I h
  show wpAny _ _ (evalAll ((do let v ← eval e X.env; standAt pos; pure v) :: (backToKw pos (keywordEach kws X.env)).map (·.2))) _ _ s
  refine wpAny_evalAll_cons (wpAny_bind (thn (ha pins s σ H _ I h) fun u s1 ⟨x, H1, I1, r1, q1⟩ => wpAny_bind (wpAny_standAt (wpAny_pure ?_))))
  exact thn (hr pos pins s1 σ H1 _ I1 q1) fun us s2 ⟨xs, H2, I2, r2, q2⟩ => ⟨x :: xs, H2, I2, .cons r1 r2, q2⟩

variable {g : List Value → List Value → List Value} {gV : List V → List V → List V}
end

/-! ### a def's body keeps its promise -/
/-- names: the parameters first -/
structure FnScope (N P : List Str) (sc : Scope) : Prop where
  kind : sc.kind = .function
  co : sc.isCoroutine = false
  gen : sc.isGenerator = false
  nd : N.Nodup
  pre : N.take P.length = P
  par : ∀ x ∈ P, sc.names.lookup x = some .local ∨ sc.names.lookup x = some .cell
  nofree : ∀ y ∈ sc.names, y.2 ≠ .free

theorem bindL_out {kindOf : Str → Option NameKind} {x : Str} : ∀ {binds : List (Str × Value)} {m : Str → Option Value}, (∀ v, (x, v) ∉ binds) → bindL kindOf binds m x = m x
  | [], _, _ => rfl
  | (n, v) :: r, m, h => by
    unfold bindL
    rw [bindL_out fun w hw => h w (List.mem_cons_of_mem _ hw)]
    split
    · have : x ≠ n := by rintro rfl; exact h v List.mem_cons_self
      simp [this]
    · rfl
theorem bindC_out {kindOf : Str → Option NameKind} {x : Str} : ∀ {binds : List (Str × Value)} {m : Str → Option Value}, (∀ v, (x, v) ∉ binds) → bindC kindOf binds m x = m x
  | [], _, _ => rfl
  | (n, v) :: r, m, h => by
    unfold bindC
    rw [bindC_out fun w hw => h w (List.mem_cons_of_mem _ hw)]
    split
    · rfl
    · have : x ≠ n := by rintro rfl; exact h v List.mem_cons_self
      simp [this]
theorem bindL_get {kindOf : Str → Option NameKind} {x : Str} {v : Value} : ∀ {P : List Str} {vs : List Value} {i : Nat} {m : Str → Option Value}, P.Nodup → P[i]? = some x → vs[i]? = some v → kindOf x = some .local →
    bindL kindOf (P.zip vs) m x = some v
  | [], _, _, _, _, h, _, _ => by simp at h
  | _ :: _, [], _, _, _, _, h, _ => by simp at h
  | p :: P, w :: vs, 0, m, nd, h1, h2, hk => by
    simp at h1 h2; subst h1; subst h2
    show bindL kindOf ((p, w) :: P.zip vs) m p = _
    unfold bindL
    rw [bindL_out fun v hv => (List.nodup_cons.mp nd).1 (List.of_mem_zip hv).1, if_pos hk]
    simp
  | p :: P, w :: vs, i + 1, m, nd, h1, h2, hk => by
    show bindL kindOf ((p, w) :: P.zip vs) m x = _
    unfold bindL
    exact bindL_get (i := i) (List.nodup_cons.mp nd).2 (by simpa using h1) (by simpa using h2) hk
theorem bindC_get {kindOf : Str → Option NameKind} {x : Str} {v : Value} : ∀ {P : List Str} {vs : List Value} {i : Nat} {m : Str → Option Value}, P.Nodup → P[i]? = some x → vs[i]? = some v → kindOf x ≠ some .local →
    bindC kindOf (P.zip vs) m x = some v
  | [], _, _, _, _, h, _, _ => by simp at h
  | _ :: _, [], _, _, _, _, h, _ => by simp at h
  | p :: P, w :: vs, 0, m, nd, h1, h2, hk => by
    simp at h1 h2; subst h1; subst h2
    show bindC kindOf ((p, w) :: P.zip vs) m p = _
    unfold bindC
    rw [bindC_out fun v hv => (List.nodup_cons.mp nd).1 (List.of_mem_zip hv).1, if_neg hk]
    simp
  | p :: P, w :: vs, i + 1, m, nd, h1, h2, hk => by
    show bindC kindOf ((p, w) :: P.zip vs) m x = _
    unfold bindC
    exact bindC_get (i := i) (List.nodup_cons.mp nd).2 (by simpa using h1) (by simpa using h2) hk

/-- the names' values at the entry -/
def start (N : List Str) (vs : List V) : St := vs.map some ++ List.replicate (N.length - vs.length) none

/-- the context of a def's body, at its entry; an exception leaves the frame, then lies as CX says -/
def cxOf (CX : CXT) (P : Program) (w : World) (K : PySem.W.Frag) (mg : Str → Option Value) (base : Heap) (N : List Str) (qual : Str) (scope : Scope) (f : Addr) (cd : Value) (A : Around) (outer : List Env) (s : Shared) (H : Hp) (E : XK) : Cx where
  prog := P
  w := w
  K := K
  mg := mg
  base := base
  A := A.deeper (envOfC qual scope s.heap.objs.size f cd)
  N := N
  s₀ := s
  H₀ := H
  env := envOfC qual scope s.heap.objs.size f cd
  outer := outer
  stack := envOfC qual scope s.heap.objs.size f cd :: outer
  ex := []
  calm := true
  fn := fun _ => true
  pn := []
  xe := fun e s' => wpAny (model P w) (A.deeper (envOfC qual scope s.heap.objs.size f cd)) (leaving (envOfC qual scope s.heap.objs.size f cd) e) (fun _ s'' => CX outer H s E e s'') (fun e' s'' => CX outer H s E e' s'') s'

theorem cell_has {sc : Scope} {n : Nat} {x : Str} (h : sc.names.lookup x = some .cell) : ∃ c, (cellsFrom n sc.names []).lookup x = some c := by
  have q := PySem.W.cellsFrom_some sc.names n [] (.inl h)
  exact Option.isSome_iff_exists.mp q

theorem inv_start {CX : CXT} {P : Program} {w : World} {K : PySem.W.Frag} {mg : Str → Option Value} {base : Heap} {N ps : List Str} {qual : Str} {scope : Scope} {f : Addr} {cd : Value} {A : Around} {outer : List Env} {s s1 : Shared} {H : Hp} {E : XK} {us : List Value} {vs : List V}
    (S : FnScope N ps scope) (hd : A.handled = none) (e0 : Env0 P w K mg base A outer s H) (hl : vs.length = ps.length) (r : Vals vs us)
    (x : InCallC s s.heap.objs.size (bindL (envOfC qual scope s.heap.objs.size f cd).kindOf (ps.zip us) fun _ => none) (cellsFrom (s.heap.objs.size + 1) scope.names []) (bindC (envOfC qual scope s.heap.objs.size f cd).kindOf (ps.zip us) fun _ => none) s1) :
    Inv (cxOf CX P w K mg base N qual scope f cd A outer s H E) [] (start N vs) H s1 := by
  have hpl : ps.length ≤ N.length := by have := congrArg List.length S.pre; rw [List.length_take] at this; omega
  obtain ⟨h1, tk, rfl, hk⟩ := x.done
  have noA : ∀ b : Addr, b ∉ (cxOf CX P w K mg base N qual scope f cd A outer s H E).ex := fun b z => absurd (show b ∈ ([] : List Addr) from z) (by simp)
  refine ⟨⟨e0.mod, S.kind, rfl, rfl, Nat.le_refl _, fun y z c h1 h2 => ?_, fun y hy => ?_, fun y c _ h => ?_, fun _ => hd, Around.frames_deeper e0.frames, .inr ⟨rfl, rfl⟩, fun b z => absurd z (noA b), e0.bs, e0.bsz, fun b _ _ => noA b, fun b z => absurd z (noA b), e0.funs, e0.frf⟩,
    rfl, e0.bare, Un.kept hk, ⟨_, x.toInCall.ns, fun i y v h1 h2 h3 => ?_⟩, fun y c h => ⟨_, x.cell y c h⟩, e0.hok.fresh (Nat.le_refl _), fun y c h => ?_, fun p hp => absurd (show p ∈ ([] : List (Addr × Obj)) from hp) (by simp), e0.hok.kept hk, ?_⟩
  · exact name_of_addr x.apart (PySem.mem_of_lookup h1) (PySem.mem_of_lookup h2)
  · have hy : scope.names.lookup y = some .cell ∨ scope.names.lookup y = some .free := hy
    rcases hy with hy | hy
    · exact cell_has hy
    · exact absurd rfl (S.nofree _ (PySem.mem_of_lookup hy))
  · exact Nat.le_of_lt (x.above y c (PySem.mem_of_lookup h))
  · have hi : i < vs.length := by
      unfold start at h2
      by_cases hi : i < vs.length
      · exact hi
      · rw [List.getElem?_append_right (by simpa using hi)] at h2
        rw [List.getElem?_replicate] at h2
        split at h2 <;> cases h2
    have ha : vs[i]? = some v := by
      unfold start at h2
      rw [List.getElem?_append_left (by simpa using hi), List.getElem?_map] at h2
      cases e : vs[i]? with
      | none => rw [e] at h2; cases h2
      | some a => rw [e] at h2; cases h2; rfl
    obtain ⟨u, hu, rv⟩ := r.get ha
    have hp : ps[i]? = some y := by
      rw [← S.pre, List.getElem?_take_of_lt (by omega)]; exact h1
    have ndP : ps.Nodup := by rw [← S.pre]; exact S.nd.sublist (List.take_sublist _ _)
    refine ⟨u, rv, ?_⟩
    rcases S.par y (List.mem_of_getElem? hp) with k | k
    · exact .inl ⟨k, bindL_get ndP hp hu k⟩
    · obtain ⟨c, e⟩ := cell_has (n := s.heap.objs.size + 1) k
      refine .inr ⟨.inl k, c, e, ?_⟩
      have q := x.cell y c e
      rw [bindC_get ndP hp hu (by show scope.names.lookup y ≠ _; rw [k]; decide)] at q
      exact q
  · exact e0.hok.fresh (Nat.le_of_lt (x.above y c (PySem.mem_of_lookup h)))
  · unfold start
    show _ = N.length
    rw [List.length_append, List.length_map, List.length_replicate]
    omega

/-- THE RULE: a def (or a method) of the text, by its body. The body's reading t is chosen for each entry; it is run at the parameters' values -/
theorem fn_of {CX : CXT} {P : Program} {w : World} {K : PySem.W.Frag} {mg : Str → Option Value} {base : Heap} {k : Nat} {f : Addr} {name qual : Str} {params : Arguments} {body : List Stmt} {scope : Scope} {dV kV doc pm cdv ct oc : Value} {an od : Option Addr}
    {osl : Array (Option Value)} {N ps : List Str} {sp : Sp} (lk : K.lookup f = some ⟨oc, od, .func (PySem.W.fnOf name qual params body scope dV kV doc pm an cdv ct), osl⟩) (hcd : PySem.W.codeIn K cdv qual = true) (S : FnScope N ps scope)
    (len : ∀ vs H Q E, sp vs H Q E → vs.length = ps.length)
    (hbody : ∀ (A : Around) (outer : List Env) (s : Shared) (H : Hp) (vs : List V) (Q : VK) (E : XK), Room k (A.deeper (envOfC qual scope s.heap.objs.size f cdv)) → sp vs H Q E →
      ∃ t, PSs (cxOf CX P w K mg base N qual scope f cdv A outer s H E) body t ∧ t { nx := fun _ H' => Q .non H', rt := Q } (start N vs) H) :
    FnOk P w K mg base CX (k + 1) f (PySem.W.fnOf name qual params body scope dV kV doc pm an cdv ct) ps sp := by
  refine ⟨len, fun A outer s H args us vs Q E hr e0 hb r hsp => ?_⟩
  have hl := len _ _ _ _ hsp
  have KX : K.In s.heap := e0.mod.kin.keeps fun b o e => (e0.bs b o e).1
  have lim : s.heap.NoLimit := e0.mod.nolimit.keeps fun b o e => (e0.bs b o e).1
  have hkind : ∀ y ∈ ps.zip us, scope.names.lookup y.1 = some .local ∨ (scope.names.lookup y.1 = some .cell ∧ ((cellsFrom (s.heap.objs.size + 1) scope.names []).lookup y.1).isSome = true) := fun ⟨n, v⟩ hy => by
    rcases S.par n (List.of_mem_zip hy).1 with q | q
    · exact .inl q
    · exact .inr ⟨q, PySem.W.cellsFrom_some _ _ _ (.inl q)⟩
  refine codeAny_call_function hr.depth (KX _ _ lk) rfl S.co S.gen rfl (PySem.W.codeRec_of KX hcd) (hb _ _ _ _ ?_)
  refine wpAny_newFunctionEnv_cells S.kind hkind fun env he s1 x => ?_
  subst he
  refine ⟨lim.keeps x.toInCall.keep, codeAny_func ?_⟩
  obtain ⟨t, ht, hq⟩ := hbody A outer s H vs Q E (hr.deeper _) hsp
  have I : Inv (cxOf CX P w K mg base N qual scope f cdv A outer s H E) [] (start N vs) H s1 := inv_start S hr.hd e0 hl r x
  refine wpAny_mono (ht [] s1 (start N vs) H _ I hq) (fun fl s' hs => ?_) fun e s' hs => hs
  have fin : ∀ {σ' : St} {H' : Hp} {v : V} {u : Value}, Inv (cxOf CX P w K mg base N qual scope f cdv A outer s H E) [] σ' H' s' → RelV v u → Q v H' → CE outer P w H s Q u s' :=
    fun {σ' H' v u} J rv q => ⟨v, H', J.os, J.bare, J.base, J.hok, rv, q⟩
  cases fl with
  | ret u =>
    obtain ⟨v, σ', H', J, rv, q⟩ := hs
    exact fin J rv q
  | next =>
    obtain ⟨σ', H', J, q⟩ := hs
    exact fin (v := V.non) (u := Value.none) J rfl q
  | brk =>
    obtain ⟨_, _, _, q⟩ := hs
    exact False.elim q
  | cont =>
    obtain ⟨_, _, _, q⟩ := hs
    exact False.elim q
end L2

namespace L2
open PySem PySem.Spec PyProof.Rows
section
variable {X : Cx} {x : Str} {p pos : Pos} {e : Expr} {es : List Expr} {t : TA} {id T : String} {r : List V → Hp → VK → Prop}

def tCB (r : List V → Hp → VK → Prop) (t : TA) : TE := fun σ H Q => t σ H fun vs H1 => r vs H1 Q
/-- f(e, ..), f a built-in function -/
theorem pe_callB (hc : CallR X (.builtin id) r) (hg : Gl X x) (hm : X.mg x = none) (hv : bootBuiltins x = some (.builtin id)) (ha : PA X (e :: es) t) (hn : x ≠ "__name__" := by decide) (hdb : (x == ("__debug__" : Str)) = false := by decide)
    (he : starEach (e :: es) X.env = (false, eval e X.env) :: starEach es X.env := by rfl) (hpl : (backTo pos (starEach es X.env)).any (·.1) = false := by rfl) : PE X (.Call (.Name x p) (e :: es) [] pos) (tCB r t) := by
  intro pins s σ H Q I h
  refine wpAny_Call_Name_kw (ld_blt I hg hm hv ?_ hn hdb)
  exact PyProof.Rows.callWith_builtin1 (thn (ha pos pins s σ H _ I h) fun us s1 ⟨vs, H1, I1, r1, q1⟩ => hc pins s1 σ H1 vs us Q I1 r1 q1) he hpl
/-- T(e, ..), T a built-in type -/
theorem pe_callTy (hc : CallR X (.type T) r) (hg : Gl X x) (hm : X.mg x = none) (hv : bootBuiltins x = some (.type T)) (ha : PA X (e :: es) t) (hn : x ≠ "__name__" := by decide) (hdb : (x == ("__debug__" : Str)) = false := by decide)
    (he : starEach (e :: es) X.env = (false, eval e X.env) :: starEach es X.env := by rfl) (hpl : (backTo pos (starEach es X.env)).any (·.1) = false := by rfl) : PE X (.Call (.Name x p) (e :: es) [] pos) (tCB r t) := by
  intro pins s σ H Q I h
  refine wpAny_Call_Name_kw (ld_blt I hg hm hv ?_ hn hdb)
  exact PyProof.Rows.callWith_type1 (thn (ha pos pins s σ H _ I h) fun us s1 ⟨vs, H1, I1, r1, q1⟩ => hc pins s1 σ H1 vs us Q I1 r1 q1) he hpl
end
end L2

namespace HT
open PySem PyProof.Rows

section
open PySem.SeqAt
open PySem.AutoSeq1 (wpAny_loadPart')
open PySem.MeetsSeq PySem.MeetsSeq2 PySem.MeetsSeq3

end

section
variable {prog : Program} {w : World} {A : Around} {E : Value → Shared → Prop} {s : Shared}

/-! ### t[a:b], not the whole -/
/-- a slice's bound as a place among n (d where it is left out) -/
def sIx (n d : Nat) : Option Int → Nat
  | none => d
  | some v => if v < 0 then (v + (n : Int)).toNat else min v.toNat n
theorem sIx_none (n d : Nat) : sIx n d none = d := rfl
theorem sIx_nat (n d k : Nat) : sIx n d (some (k : Int)) = min k n := by
  show (if (k : Int) < 0 then ((k : Int) + (n : Int)).toNat else min (k : Int).toNat n) = min k n
  rw [if_neg (by omega), Int.toNat_natCast]
end
end HT

namespace L2
open PySem PySem.Spec PyProof.Rows

/-! ### the parts of a slice -/
abbrev TO := St → Hp → (Option Int → Hp → Prop) → Prop
/-- a slice's part (left out, or an int) -/
def PO (X : Cx) (e : Option Expr) (t : TO) : Prop :=
  ∀ (pins : List (Addr × Obj)) (s : Shared) (σ : St) (H : Hp) (Q : Option Int → Hp → Prop), Inv X pins σ H s → t σ H Q →
    wpAny (model X.prog X.w) X.A (evalPart e X.env) (fun u s' => ∃ o H', Inv X pins σ H' s' ∧ IsPart u o ∧ Q o H') X.xe s
def tNoPart : TO := fun _ H Q => Q none H
def tPart (t : TE) : TO := fun σ H Q => t σ H fun x H1 => ∃ i, x = .int i ∧ Q (some i) H1

section
variable {X : Cx} {e : Expr} {te : TE} {lo hi : Option Expr} {tl th : TO} {pos p2 : Pos}

theorem po_none : PO X none tNoPart := by
  intro pins s σ H Q I h
  rw [evalPart_none]
  exact wpAny_pure ⟨none, H, I, .none, h⟩
theorem po_some (h : PE X e te) : PO X (some e) (tPart te) := by
  intro pins s σ H Q I hw
  rw [evalPart_some]
  refine thn (h pins s σ H _ I hw) fun u s1 ⟨x, H1, I1, r1, q1⟩ => ?_
  obtain ⟨i, rfl, q⟩ := q1
  obtain ⟨t, rfl⟩ := r1
  exact ⟨some i, H1, I1, .int i t, q⟩

/-- what a slice of a value is, by values: the slice object stands at sl -/
def SlR (X : Cx) (r : V → Option Int → Option Int → Hp → VK → Prop) : Prop :=
  ∀ (pins : List (Addr × Obj)) (s : Shared) (σ : St) (H : Hp) (x : V) (v vl vu : Value) (lo hi : Option Int) (sl : Addr) (Q : VK), Inv X pins σ H s → RelV x v → s.heap.IsSliceOf sl vl vu .none → IsPart vl lo → IsPart vu hi → r x lo hi H Q →
    ∃ T id, typeLookup (.type T) "__getitem__" = pure (some (.builtin id)) ∧ s.TypeIs v T ∧ wpAny (model X.prog X.w) X.A (getItem v (.ref sl)) (EP X pins σ Q) X.xe s
def tSl (r : V → Option Int → Option Int → Hp → VK → Prop) (te : TE) (tl th : TO) : TE := fun σ H Q => te σ H fun x H1 => tl σ H1 fun l H2 => th σ H2 fun u H3 => r x l u H3 Q
/-- a[lo:hi], any a -/
theorem pe_slice {r : V → Option Int → Option Int → Hp → VK → Prop} (hr : SlR X r) (he : PE X e te) (hl : PO X lo tl) (hu : PO X hi th) : PE X (.Subscript e (.Slice lo hi none p2) pos) (tSl r te tl th) := by
  intro pins s σ H Q I h
  refine Subscript_ (thn (he pins s σ H _ I h) fun v s1 ⟨x, H1, I1, r1, q1⟩ => ?_)
  refine wpAny_Slice (thn (hl pins s1 σ H1 _ I1 q1) fun vl s2 ⟨l, H2, I2, pl, q2⟩ => thn (hu pins s2 σ H2 _ I2 q2) fun vu s3 ⟨u, H3, I3, pu, q3⟩ => ?_)
  rw [evalPart_none]
  refine wpAny_pure ?_
  have I4 : Inv X pins σ H3 { s3 with heap := s3.heap.push { cls := .type "slice", data := .fields #[vl, vu, .none] } } := I3.kept (t' := s3.toks) fun b ob q => Heap.get?_push_of_some _ q
  obtain ⟨T, id, hT, ht, hg⟩ := hr pins { s3 with heap := s3.heap.push { cls := .type "slice", data := .fields #[vl, vu, .none] } } σ H3 x v vl vu l u s3.heap.objs.size Q I4 r1 (Heap.IsSliceOf.new ..) pl pu q3
  show wpAny (model X.prog X.w) X.A (subscriptTail e (.Slice lo hi none p2) v (.ref s3.heap.objs.size)) (EP X pins σ Q) X.xe { s3 with heap := s3.heap.push { cls := .type "slice", data := .fields #[vl, vu, .none] } }
  exact tail_any (ops := [.ref s3.heap.objs.size, v]) ht hT hg (by with_unfolding_all rfl)

/-- the items of xs[lo:hi] -/
def cutV (xs : List V) (lo hi : Option Int) : List V := (xs.drop (HT.sIx xs.length 0 lo)).take (HT.sIx xs.length xs.length hi - HT.sIx xs.length 0 lo)
theorem cutV_length (xs : List V) (lo hi : Option Int) : (cutV xs lo hi).length ≤ xs.length := by
  unfold cutV
  rw [List.length_take, List.length_drop]
  omega
/-! ### t < u, t + u -/
end
end L2

namespace L2
open PySem PySem.Spec PyProof.Rows

/-! ### places -/
/-- the place that an index of any sign means -/
def ixN (n : Nat) (i : Int) : Option Nat := if 0 ≤ i then (if i < n then some i.toNat else none) else if -(n : Int) ≤ i then some (i + n).toNat else none
def atI {α : Type} (xs : List α) (i : Int) : Option α := (ixN xs.length i).bind fun j => xs[j]?
theorem ixN_seq {n : Nat} {i : Int} {j : Nat} (h : ixN n i = some j) : seqIndex? i n = some j ∧ j < n ∧ -(n : Int) ≤ i ∧ i < n := by
  unfold ixN at h
  by_cases h0 : 0 ≤ i
  · rw [if_pos h0] at h
    by_cases h1 : i < n
    · rw [if_pos h1] at h
      have e : i.toNat = j := Option.some.inj h
      exact ⟨by rw [seqIndex_of h0 h1, e], by omega, by omega, h1⟩
    · rw [if_neg h1] at h; cases h
  · rw [if_neg h0] at h
    by_cases h1 : -(n : Int) ≤ i
    · rw [if_pos h1] at h
      have e : (i + n).toNat = j := Option.some.inj h
      exact ⟨by rw [seqIndex_neg (by omega) h1, e], by omega, h1, by omega⟩
    · rw [if_neg h1] at h; cases h
theorem atI_get {α : Type} {xs : List α} {i : Int} {v : α} (h : atI xs i = some v) : ∃ j, seqIndex? i xs.length = some j ∧ xs[j]? = some v ∧ j < xs.length ∧ -(xs.length : Int) ≤ i ∧ i < xs.length := by
  unfold atI at h
  cases e : ixN xs.length i with
  | none => rw [e] at h; cases h
  | some j =>
    rw [e] at h
    obtain ⟨h1, h2, h3, h4⟩ := ixN_seq e
    exact ⟨j, h1, h, h2, h3, h4⟩
theorem atI_nat {α : Type} {xs : List α} {j : Nat} {v : α} (h : xs[j]? = some v) : atI xs (j : Int) = some v := by
  have hj : j < xs.length := (List.getElem?_eq_some_iff.mp h).1
  have e : ixN xs.length (j : Int) = some j := by
    unfold ixN
    rw [if_pos (by omega), if_pos (by omega)]; simp
  unfold atI; rw [e]; exact h
theorem atI_last {α : Type} (xs : List α) (v : α) : atI (xs ++ [v]) (-1) = some v := by
  have hl : (xs ++ [v]).length = xs.length + 1 := by simp
  have e : ixN (xs ++ [v]).length (-1) = some xs.length := by
    unfold ixN
    rw [hl, if_neg (by decide), if_pos (by omega)]
    congr 1
    omega
  unfold atI
  rw [e]
  show (xs ++ [v])[xs.length]? = some v
  simp

/-! ### what may be subscripted -/
/-- what stands as an index of a plain subscript -/
def PlainIx (b : Expr) : Prop := ∀ o i, subscripted b false o i = operate [o, i] (getItem o i)
/-- a subscript by values -/
def IxR (X : Cx) (r : R2) : Prop :=
  ∀ (value slice : Expr) (pins : List (Addr × Obj)) (s : Shared) (σ : St) (H : Hp) (x y : V) (v u : Value) (Q : VK), Inv X pins σ H s → RelV x v → RelV y u → r x y H Q →
    subscripted slice false v u = operate [v, u] (getItem v u) → wpAny (model X.prog X.w) X.A (subscriptTail value slice v u) (EP X pins σ Q) X.xe s
/-- a call of a builtin's method by values: the receiver, the arguments -/
def MtR (X : Cx) (id : String) (r : V → List V → Hp → VK → Prop) : Prop :=
  ∀ (pins : List (Addr × Obj)) (s : Shared) (σ : St) (H : Hp) (x : V) (xs : List V) (v : Value) (us : List Value) (Q : VK), Inv X pins σ H s → RelV x v → Vals xs us → r x xs H Q →
    wpAny (model X.prog X.w) X.A (call (.builtin id) (v :: us)) (EP X pins σ Q) X.xe s
section
variable {X : Cx} {a b : Expr} {ta tb : TE} {pos : Pos}
/-- a[b] -/
theorem pe_ix {r : R2} (hr : IxR X r) (ha : PE X a ta) (hb : PE X b tb) (hs : PlainIx b) : PE X (.Subscript a b pos) (tOp r ta tb) := by
  intro pins s σ H Q I h
  exact Subscript_ (binT ha hb I h fun v u s2 x y H2 I2 rx ry q => hr a b pins s2 σ H2 x y v u Q I2 rx ry q (hs _ _))

def rIxL (K : PySem.W.Frag) : R2 := fun x y H Q => ∃ p xs i v, x = .ref p ∧ y = .int i ∧ SqL K H p xs ∧ atI xs i = some v ∧ Q v H
def rIxT (K : PySem.W.Frag) : R2 := fun x y H Q => ∃ p xs i v, x = .ref p ∧ y = .int i ∧ SqT K H p xs ∧ atI xs i = some v ∧ Q v H
def rIxS : R2 := fun x y H Q => ∃ z i c, x = .str z ∧ y = .int i ∧ z.length ≤ sizeLine ∧ atI z.cps.toList i = some c ∧ Q (.str ⟨#[c]⟩) H
theorem ix_list : IxR X (rIxL X.K) := by
  intro value slice pins s σ H x y v u Q I rx ry h hs
  obtain ⟨p, xs, i, z, rfl, rfl, hq, he, q⟩ := h
  cases rx
  obtain ⟨t, rfl⟩ := ry
  obtain ⟨its, r, pl, hz⟩ := I.list hq
  obtain ⟨j, h1, h2, h3, h4, h5⟩ := atI_get he
  obtain ⟨w, ew, rw'⟩ := r.get h2
  have hl := r.length
  have hn := line63
  have fin : EP X pins σ Q w s := ⟨z, H, I, rw', q⟩
  by_cases h0 : 0 ≤ i
  · have hj : i.toNat = j := by
      rw [seqIndex_of h0 h5] at h1
      exact Option.some.inj h1
    exact item_listR pl.isList h0 (by omega) (by rw [hj]; simpa using ew) fin hs
  · have hj : (i + (its.toArray.size : Int)).toNat = j := by
      rw [seqIndex_neg (by omega) h4] at h1
      rw [List.size_toArray, ← hl]
      exact Option.some.inj h1
    exact subscriptTail_builtinR (x := w) pl.isList.typeIs slot_list_getitem.lookup
      (wpAny_getItem_list_neg (Q := fun r s' => r = w ∧ EP X pins σ Q r s') pl.isList (by omega) (by rw [List.size_toArray] <;> omega) (by omega) (by rw [hj]; simpa using ew) ⟨rfl, fin⟩) hs
theorem ix_tup : IxR X (rIxT X.K) := by
  intro value slice pins s σ H x y v u Q I rx ry h hs
  obtain ⟨p, xs, i, z, rfl, rfl, hq, he, q⟩ := h
  cases rx
  obtain ⟨t, rfl⟩ := ry
  obtain ⟨its, r, pl, hz⟩ := I.tuple hq
  obtain ⟨j, h1, h2, h3, h4, h5⟩ := atI_get he
  obtain ⟨w, ew, rw'⟩ := r.get h2
  have hl := r.length
  have hn := line63
  have fin : EP X pins σ Q w s := ⟨z, H, I, rw', q⟩
  exact subscriptTail_builtinR (x := w) pl.typeIs slot_tuple_getitem.lookup
    (getItem_tuple (j := j) (Q := fun r s' => r = w ∧ EP X pins σ Q r s') pl (by omega) (by omega) (by rw [List.size_toArray, ← hl]; exact h1) (by simpa using ew) ⟨rfl, fin⟩) hs
theorem ix_str : IxR X rIxS := by
  intro value slice pins s σ H x y v u Q I rx ry h hs
  obtain ⟨z, i, c, rfl, rfl, hz, he, q⟩ := h
  obtain ⟨t, rfl⟩ := rx
  obtain ⟨t', rfl⟩ := ry
  obtain ⟨j, h1, h2, h3, h4, h5⟩ := atI_get he
  have hl : z.cps.toList.length = z.length := by simp [Str.length]
  rw [hl] at h1 h4 h5
  have hn := line63
  exact tail_any (typeIs_str s z t) slot_str_getitem.lookup (getItem_str (c := c) (by
    have e1 : decide (i < -(2 ^ 63 : Int)) = false := decide_eq_false (by omega)
    have e2 : decide (i ≥ 2 ^ 63) = false := decide_eq_false (by omega)
    rw [e1, e2, Bool.or_false]) (by rw [h1]; simpa using h2) ⟨.str ⟨#[c]⟩, H, I.tok _, ⟨_, rfl⟩, q⟩) hs
/-! ### xs[i] = v, any sign -/
/-- the list's object behind a store -/
theorem mapSeq_set (its : List Value) (n j : Nat) (u : Value) : Obj.mapSeq (·.setIfInBounds j u) { cls := .type "list", data := .seq its.toArray n } = { cls := .type "list", data := .seq (its.set j u).toArray n } := by
  simp [Obj.mapSeq]
theorem Inv.lst {pins : List (Addr × Obj)} {σ : St} {H : Hp} {s : Shared} {p : Addr} {xs : List V} (I : Inv X pins σ H s) (h : H p = some (.lst xs)) :
    ∃ (its : List Value) (n : Nat), Vals xs its ∧ s.heap.get? p = some { cls := .type "list", data := .seq its.toArray n } ∧ xs.length ≤ sizeLine := by
  obtain ⟨z, its, n, r, e⟩ := I.hok p _ h
  exact ⟨its, n, r, e, z⟩
/-- the list at p is written by an update of its object -/
theorem Inv.lstUpd {pins : List (Addr × Obj)} {σ : St} {H : Hp} {s : Shared} {p : Addr} {xs ys : List V} {its its' : List Value} {n n' : Nat} {f : Obj → Obj} (I : Inv X pins σ H s) (h : H p = some (.lst xs))
    (ho : s.heap.get? p = some { cls := .type "list", data := .seq its.toArray n }) (hf : f { cls := .type "list", data := .seq its.toArray n } = { cls := .type "list", data := .seq its'.toArray n' }) (r : Vals ys its') (hz : ys.length ≤ sizeLine) (t : Nat) :
    Inv X pins σ (upd H p (.lst ys)) { s with heap := s.heap.update p f, toks := t } := by
  have e : (s.heap.update p f).get? p = some { cls := .type "list", data := .seq its'.toArray n' } := by
    rw [Heap.get?_update_self f ho (by rw [hf] <;> rfl), hf]
  refine I.write (x := p) (e := p) (by rw [h]; trivial) (.inl rfl) (fun b u hb q => (Heap.get?_update_other _ _ (Ne.symm hb)).trans q) ⟨_, e⟩ ?_
  exact ⟨hz, its', n', r, e⟩
def rSetL : V → V → V → Hp → (Hp → Prop) → Prop := fun o i v H Q => ∃ p xs k j, o = .ref p ∧ i = .int k ∧ H p = some (.lst xs) ∧ ixN xs.length k = some j ∧ Q (upd H p (.lst (xs.set j v)))
theorem set_list : PSet X rSetL := by
  intro pins s σ H o i v ov iv u Q I ro ri rv h
  obtain ⟨p, xs, k, j, rfl, rfl, hp, hj, q⟩ := h
  cases ro
  obtain ⟨t, rfl⟩ := ri
  obtain ⟨its, n, r, ho, hz⟩ := I.lst hp
  obtain ⟨h1, h2, h3, h4⟩ := ixN_seq hj
  have hl := r.length
  have hn := line63
  have I' : Inv X pins σ (upd H p (.lst (xs.set j v))) { s with heap := s.heap.update p (Obj.mapSeq (·.setIfInBounds j u)) } :=
    I.lstUpd hp ho (mapSeq_set its n j u) (r.set rv j) (by rw [List.length_set]; exact hz) s.toks
  by_cases h0 : 0 ≤ k
  · have hk : k.toNat = j := by
      rw [seqIndex_of h0 h4] at h1
      exact Option.some.inj h1
    exact PySem.W.ki_setAt ho h0 (by omega) (by rw [List.size_toArray, ← hl]; exact h4) (by rw [hk]; exact ⟨_, I', q⟩)
  · have hk : (k + (its.toArray.size : Int)).toNat = j := by
      rw [seqIndex_neg (by omega) h3] at h1
      rw [List.size_toArray, ← hl]
      exact Option.some.inj h1
    exact PySem.W.ki_setBack ho (by omega) (by rw [List.size_toArray, ← hl]; exact h3) (by omega) (by rw [hk]; exact ⟨_, I', q⟩)

/-! ### slices -/
theorem slice_bounds (lo hi : Option Int) (n : Nat) : (sliceBounds lo hi none n).1 = ((HT.sIx n 0 lo : Nat) : Int) ∧ (sliceBounds lo hi none n).2.1 = ((HT.sIx n n hi : Nat) : Int) ∧ (sliceBounds lo hi none n).2.2 = 1 := by
  refine ⟨?_, ?_, rfl⟩
  · cases lo with
    | none => simp [sliceBounds, HT.sIx]
    | some i =>
      simp only [sliceBounds, HT.sIx, Option.getD_none, show (1 : Int) > 0 by decide, if_true]
      by_cases h : i < 0
      · simp only [h, if_true] <;> omega
      · simp only [h, if_false] <;> omega
  · cases hi with
    | none => simp [sliceBounds, HT.sIx]
    | some i =>
      simp only [sliceBounds, HT.sIx, Option.getD_none, show (1 : Int) > 0 by decide, if_true]
      by_cases h : i < 0
      · simp only [h, if_true] <;> omega
      · simp only [h, if_false] <;> omega
theorem slicePick_cut (its : List Value) (lo hi : Option Int) : slicePick its.toArray lo hi none = ((its.drop (HT.sIx its.length 0 lo)).take (HT.sIx its.length its.length hi - HT.sIx its.length 0 lo)).toArray := by
  obtain ⟨h1, h2, h3⟩ := slice_bounds lo hi its.toArray.size
  unfold slicePick
  rw [h1, h2, h3]
  simp only [sliceRange_one, pick_run, List.size_toArray] <;> rfl
/-- xs[lo:hi] of a list: a new list -/
def rSlL (K : PySem.W.Frag) : V → Option Int → Option Int → Hp → VK → Prop := fun x lo hi H Q => ∃ a xs, x = .ref a ∧ SqL K H a xs ∧ ∀ p, H p = none → Q (.ref p) (upd H p (.lst (cutV xs lo hi)))
theorem sl_list : SlR X (rSlL X.K) := by
  intro pins s σ H x v vl vu lo hi sl Q I rx hs pl pu h
  obtain ⟨a, xs, rfl, hx, q⟩ := h
  cases rx
  obtain ⟨its, r, ht, hz⟩ := I.list hx
  have hlen := r.length
  refine ⟨"list", _, slot_list_getitem.lookup, ht.isList.typeIs, ?_⟩
  refine wpAny_getItem_list_slice ht.isList hs pl pu .none (by simp) ?_ (by rw [List.size_toArray] <;> omega)
  rw [slicePick_cut, ← hlen]
  refine ⟨.ref s.heap.objs.size, _, I.laid (t' := s.toks) (o := .lst (cutV xs lo hi)) (fun b ob q => Heap.get?_push_of_some _ q) (Nat.le_refl _) ?_, rfl, q _ (I.hok.fresh (Nat.le_refl _))⟩
  exact ⟨Nat.le_trans (cutV_length xs lo hi) hz, _, 0, (r.drop (HT.sIx xs.length 0 lo)).take (HT.sIx xs.length xs.length hi - HT.sIx xs.length 0 lo), Heap.get?_push_size _ rfl⟩

/-! ### in, not in: flat items -/
def flatV : V → Bool
  | .non => true
  | .bl _ => true
  | .int _ => true
  | .str _ => true
  | _ => false
/-- == of flat values -/
def eqV : V → V → Bool
  | .non, .non => true
  | .bl a, .bl b => a == b
  | .bl a, .int b => (if a then 1 else 0) == b
  | .int a, .bl b => a == (if b then 1 else 0)
  | .int a, .int b => a == b
  | .str a, .str b => a == b
  | _, _ => false
theorem eqAt_V {A : Around} {s : Shared} {y x : V} {u v : Value} (ry : RelV y u) (rx : RelV x v) (fy : flatV y = true) (fx : flatV x = true) : SeqAt.EqAt A s u v (eqV y x) := by
  cases y with
  | non =>
    cases ry
    cases x with
    | non => cases rx; exact SeqAt.EqAt.same _
    | bl b => cases rx; exact SeqAt.EqAt.none_bool b
    | int b => obtain ⟨t, rfl⟩ := rx; exact SeqAt.EqAt.none_int b t
    | str b => obtain ⟨t, rfl⟩ := rx; exact SeqAt.EqAt.none_str b t
    | _ => exact absurd (show false = true from fx) Bool.false_ne_true
  | bl a =>
    cases ry
    cases x with
    | non => cases rx; exact SeqAt.EqAt.bool_none a
    | bl b => cases rx; exact SeqAt.EqAt.bool_bool a b
    | int b => obtain ⟨t, rfl⟩ := rx; exact SeqAt.EqAt.bool_int a b t
    | str b => obtain ⟨t, rfl⟩ := rx; exact SeqAt.EqAt.bool_str a b t
    | _ => exact absurd (show false = true from fx) Bool.false_ne_true
  | int a =>
    obtain ⟨t', rfl⟩ := ry
    cases x with
    | non => cases rx; exact SeqAt.EqAt.int_none a t'
    | bl b => cases rx; exact SeqAt.EqAt.int_bool a t' b
    | int b => obtain ⟨t, rfl⟩ := rx; exact SeqAt.EqAt.int_int a t' b t
    | str b => obtain ⟨t, rfl⟩ := rx; exact SeqAt.EqAt.int_str a t' b t
    | _ => exact absurd (show false = true from fx) Bool.false_ne_true
  | str a =>
    obtain ⟨t', rfl⟩ := ry
    cases x with
    | non => cases rx; exact SeqAt.EqAt.str_none a t'
    | bl b => cases rx; exact SeqAt.EqAt.str_bool a t' b
    | int b => obtain ⟨t, rfl⟩ := rx; exact SeqAt.EqAt.str_int a t' b t
    | str b => obtain ⟨t, rfl⟩ := rx; exact SeqAt.EqAt.str_str a t' b t
    | _ => exact absurd (show false = true from fx) Bool.false_ne_true
  | _ => exact absurd (show false = true from fy) Bool.false_ne_true
/-- the items' answers, read off the values (a value's own answer does not lean on its token) -/
def eqU (x : V) (u : Value) : Bool := match u with
  | .none => eqV .non x
  | .bool b => eqV (.bl b) x
  | .int i _ => eqV (.int i) x
  | .str z _ => eqV (.str z) x
  | _ => false
theorem eqU_of {x y : V} {u : Value} (r : RelV y u) (f : flatV y = true) : eqU x u = eqV y x := by
  cases y with
  | non => cases r; rfl
  | bl b => cases r; rfl
  | int i => obtain ⟨t, rfl⟩ := r; rfl
  | str z => obtain ⟨t, rfl⟩ := r; rfl
  | _ => exact absurd (show false = true from f) Bool.false_ne_true
theorem any_eqU {x : V} : ∀ {xs : List V} {us : List Value}, Vals xs us → xs.all flatV = true → us.any (eqU x) = xs.any fun y => eqV y x
  | _, _, .nil, _ => rfl
  | y :: xs, u :: us, .cons r t, f => by
    rw [List.all_cons, Bool.and_eq_true] at f
    rw [List.any_cons, List.any_cons, eqU_of r f.1, any_eqU t f.2]
theorem mem_eqAt {A : Around} {s : Shared} {x : V} {v : Value} (rx : RelV x v) (fx : flatV x = true) : ∀ {xs : List V} {us : List Value}, Vals xs us → xs.all flatV = true → ∀ u ∈ us, SeqAt.EqAt A s u v (eqU x u)
  | _, _, .nil, _ => fun u hu => by cases hu
  | y :: xs, u :: us, .cons r t, f => fun u' hu => by
    rw [List.all_cons, Bool.and_eq_true] at f
    rcases List.mem_cons.mp hu with rfl | hu
    · rw [eqU_of r f.1]; exact eqAt_V r rx f.1 fx
    · exact mem_eqAt rx fx t f.2 u' hu
def inV (x : V) (xs : List V) : Bool := xs.any fun y => eqV y x
/-- x in a list or tuple of flat items -/
def rIn (K : PySem.W.Frag) (neg : Bool) : R2 := fun x y H Q => ∃ p xs, y = .ref p ∧ (SqL K H p xs ∨ SqT K H p xs) ∧ flatV x = true ∧ xs.all flatV = true ∧ Q (.bl (if neg then !inV x xs else inV x xs)) H
theorem op_in_seq : OpR X (compareOp .In) (rIn X.K false) := by
  intro pins s σ H x y v u Q I rx ry h
  obtain ⟨p, xs, rfl, hq, fx, fs, q⟩ := h
  cases ry
  rcases hq with hq | hq
  · obtain ⟨its, r, pl, hz⟩ := I.list hq
    refine SeqAt.in_listAt (eqU x) pl.isList (fun w hw => mem_eqAt rx fx r fs w (by simpa using hw)) ⟨.bl _, H, I, rfl, ?_⟩
    rw [show its.toArray.any (eqU x) = its.any (eqU x) by simp, any_eqU r fs]
    exact q
  · obtain ⟨its, r, pl, hz⟩ := I.tuple hq
    refine SeqAt.in_tupleAt (eqU x) pl (fun w hw => mem_eqAt rx fx r fs w (by simpa using hw)) ⟨.bl _, H, I, rfl, ?_⟩
    rw [show its.toArray.any (eqU x) = its.any (eqU x) by simp, any_eqU r fs]
    exact q
theorem op_notIn_seq : OpR X (compareOp .NotIn) (rIn X.K true) := by
  intro pins s σ H x y v u Q I rx ry h
  obtain ⟨p, xs, rfl, hq, fx, fs, q⟩ := h
  cases ry
  rcases hq with hq | hq
  · obtain ⟨its, r, pl, hz⟩ := I.list hq
    refine SeqAt.notIn_listAt (eqU x) pl.isList (fun w hw => mem_eqAt rx fx r fs w (by simpa using hw)) ⟨.bl _, H, I, rfl, ?_⟩
    rw [show its.toArray.any (eqU x) = its.any (eqU x) by simp, any_eqU r fs]
    exact q
  · obtain ⟨its, r, pl, hz⟩ := I.tuple hq
    refine SeqAt.notIn_tupleAt (eqU x) pl (fun w hw => mem_eqAt rx fx r fs w (by simpa using hw)) ⟨.bl _, H, I, rfl, ?_⟩
    rw [show its.toArray.any (eqU x) = its.any (eqU x) by simp, any_eqU r fs]
    exact q
/-! ### len, list(x), tuple(x) of any list or tuple that is read -/
theorem call_len_seq : CallR X (.builtin "len") (fun xs H Q => ∃ p ys, xs = [.ref p] ∧ (SqL X.K H p ys ∨ SqT X.K H p ys) ∧ Q (.int ys.length) H) := by
  intro pins s σ H xs us Q I r h
  obtain ⟨p, ys, rfl, hq, q⟩ := h
  obtain ⟨u, rfl, rx⟩ := vals1 r
  cases rx
  have hn := line63
  rcases hq with hq | hq
  · obtain ⟨its, r', pl, hz⟩ := I.list hq
    have hlen := r'.length
    exact Calls.call_len_list pl.isList (by simp only [List.size_toArray] <;> omega) ⟨.int ys.length, H, I.tok _, ⟨s.toks + 1, by rw [List.size_toArray, hlen]⟩, q⟩
  · obtain ⟨its, r', pl, hz⟩ := I.tuple hq
    have hlen := r'.length
    exact len_tuple pl (by simp only [List.size_toArray] <;> omega) ⟨.int ys.length, H, I.tok _, ⟨s.toks + 1, by rw [List.size_toArray, hlen]⟩, q⟩
theorem call_len_str : CallR X (.builtin "len") (fun xs H Q => ∃ z, xs = [.str z] ∧ z.length ≤ sizeLine ∧ Q (.int z.length) H) := by
  intro pins s σ H xs us Q I r h
  obtain ⟨z, rfl, hz, q⟩ := h
  obtain ⟨u, rfl, t, rfl⟩ := vals1 r
  have hn := line63
  exact len_str (by omega) ⟨.int z.length, H, I.tok _, ⟨_, rfl⟩, q⟩
/-! ### the call of a builtin's method: o.m(..) -/
/-- the value is of that builtin type -/
def tyV (K : PySem.W.Frag) (T : String) (x : V) (H : Hp) : Prop := match x with
  | .str _ => T = "str"
  | .int _ => T = "int"
  | .ref p => (T = "list" ∧ ∃ xs, SqL K H p xs) ∨ (T = "tuple" ∧ ∃ o, K.lookup p = some o ∧ o.cls = .type "tuple" ∧ o.dict = none) ∨
      (T = "dict" ∧ ((∃ kvs, H p = some (.dK kvs)) ∨ ∃ kvs, H p = some (.dT kvs))) ∨ (T = "set" ∧ ∃ S n, H p = some (.set S n))
  | _ => False
theorem tyV_is {pins : List (Addr × Obj)} {σ : St} {H : Hp} {s : Shared} {T : String} {x : V} {v : Value} (I : Inv X pins σ H s) (r : RelV x v) (ty : tyV X.K T x H) :
    s.TypeIs v T ∧ ∀ a, v = .ref a → ∃ ob, s.heap.get? a = some ob ∧ ob.dict = none := by
  cases x with
  | str z =>
    obtain ⟨t, rfl⟩ := r
    cases (show T = "str" from ty)
    exact ⟨typeIs_str s z t, fun _ e => nomatch e⟩
  | int i =>
    obtain ⟨t, rfl⟩ := r
    cases (show T = "int" from ty)
    exact ⟨typeIs_int s i t, fun _ e => nomatch e⟩
  | ref p =>
    cases r
    rcases ty with ⟨rfl, xs, hq⟩ | ⟨rfl, o, hk, hc, hd⟩ | ⟨rfl, hk⟩ | ⟨rfl, S, n, hk⟩
    · obtain ⟨its, _, pl, _⟩ := I.list hq
      refine ⟨pl.isList.typeIs, fun a e => ?_⟩
      cases e
      obtain ⟨o, n, e, c, hd, _⟩ := pl
      exact ⟨o, e, hd⟩
    · refine ⟨⟨o, I.kIn p o hk, hc⟩, fun a e => ?_⟩
      cases e
      exact ⟨o, I.kIn _ o hk, hd⟩
    · have z : ∃ o, s.heap.get? p = some o ∧ o.ExactDict := by
        rcases hk with ⟨kvs, hk⟩ | ⟨kvs, hk⟩
        · obtain ⟨_, _, _, _, o, _, _, e, ex, _⟩ := I.hok p _ hk
          exact ⟨o, e, ex⟩
        · obtain ⟨_, _, _, _, o, _, _, e, ex, _⟩ := I.hok p _ hk
          exact ⟨o, e, ex⟩
      obtain ⟨o, e, ex⟩ := z
      refine ⟨⟨o, e, ex.1⟩, fun a e2 => ?_⟩
      cases e2
      exact ⟨o, e, ex.2.1⟩
    · obtain ⟨o, _, _, _, e, ex, _⟩ := I.hok p _ hk
      refine ⟨⟨o, e, ex.1⟩, fun a e2 => ?_⟩
      cases e2
      exact ⟨o, e, ex.2.1⟩
  | _ => exact False.elim ty
def tBM0 (K : PySem.W.Frag) (T : String) (r : V → List V → Hp → VK → Prop) (to : TE) : TE := fun σ H Q => to σ H fun x H1 => tyV K T x H1 ∧ r x [] H1 Q
def tBM (K : PySem.W.Frag) (T : String) (r : V → List V → Hp → VK → Prop) (to : TE) (t : TA) : TE := fun σ H Q => to σ H fun x H1 => tyV K T x H1 ∧ t σ H1 fun xs H2 => r x xs H2 Q
variable {o e : Expr} {es : List Expr} {to : TE} {t : TA} {name : Str} {apos cpos : Pos} {T id : String} {r : V → List V → Hp → VK → Prop}
theorem pe_bm0 (pa : PlainAttrs T) (slot : Slot T name id) (hty : typeOf (.builtin id) = pure (.type "method_descriptor")) (hm : MtR X id r) (ho : PE X o to)
    (hbase : attributeBase o name X.env (eval o X.env) = eval o X.env := by rfl) (hline : (apos.endLine == cpos.line) = true := by rfl) : PE X (.Call (.Attribute o name apos) [] [] cpos) (tBM0 X.K T r to) := by
  intro pins s σ H Q I h
  refine wpAny_Call_method0_late hbase hline (thn (ho pins s σ H _ I h) fun v s1 ⟨x, H1, I1, r1, ty, q1⟩ => ?_)
  obtain ⟨h1, h2⟩ := tyV_is I1 r1 ty
  exact ⟨T, id, pa, slot, hty, h1, h2, Calls.callWith_builtin rfl (PySem.evalArgs_none (hm pins s1 σ H1 x [] v [] Q I1 r1 .nil q1))⟩
theorem pe_bm (pa : PlainAttrs T) (slot : Slot T name id) (hty : typeOf (.builtin id) = pure (.type "method_descriptor")) (hm : MtR X id r) (ho : PE X o to) (ha : PA X (e :: es) t)
    (hbase : attributeBase o name X.env (eval o X.env) = eval o X.env := by rfl)
    (hfew : ((backTo cpos (starEach (e :: es) X.env)).all (fun x => !x.1) && (backToKw cpos (keywordEach [] X.env)).all (fun x => x.1.isSome)
      && decide ((e :: es).length + ([] : List Keyword).length + (if ([] : List Keyword).isEmpty then 0 else 1) < 30)) = true := by rfl)
    (hline : (apos.endLine == cpos.line) = true := by rfl) (hs : starEach (e :: es) X.env = (false, eval e X.env) :: starEach es X.env := by rfl) (hplain : (backTo cpos (starEach es X.env)).any (·.1) = false := by rfl) :
    PE X (.Call (.Attribute o name apos) (e :: es) [] cpos) (tBM X.K T r to t) := by
  intro pins s σ H Q I h
  refine wpAny_Call_method_late hbase hfew hline rfl (thn (ho pins s σ H _ I h) fun v s1 ⟨x, H1, I1, r1, ty, q1⟩ => ?_)
  obtain ⟨h1, h2⟩ := tyV_is I1 r1 ty
  refine ⟨T, id, pa, slot, hty, h1, h2, ?_⟩
  have hA := ha cpos pins s1 σ H1 _ I1 q1
  rw [hs] at hA ⊢
  refine Calls.callWith_builtin (by show (false || (backTo cpos (starEach es X.env)).any (·.1)) = false; rw [hplain] <;> rfl) (Calls.evalArgs_plain ?_)
  exact thn hA fun us s2 ⟨vs, H2, I2, r2, q2⟩ => hm pins s2 σ H2 x vs v us Q I2 r1 r2 q2
/- xs.append(e), list.index on a module's tuple .. are MtR facts of 06m -/
end
end L2

namespace L2
open PySem PySem.Spec PyProof.Rows

def MtM (X : Cx) (id : String) (r : V → List V → Hp → VK → Prop) : Prop :=
  ∀ (pins : List (Addr × Obj)) (s : Shared) (σ : St) (H : Hp) (x : V) (xs : List V) (v : Value) (us : List Value) (Q : VK), Inv X pins σ H s → RelV x v → Vals xs us → r x xs H Q →
    wpAny (model X.prog X.w) X.A (call (.builtin id) (v :: us)) (EP X pins σ Q) X.xe s

/-! ### lists of values -/
theorem Vals.one : ∀ {x : V} {us : List Value}, Vals [x] us → ∃ u, us = [u] ∧ RelV x u
  | _, _, .cons r .nil => ⟨_, rfl, r⟩
theorem Vals.zero : ∀ {us : List Value}, Vals [] us → us = []
  | _, .nil => rfl
theorem Vals.dropLast {xs : List V} {us : List Value} (h : Vals xs us) : Vals xs.dropLast us.dropLast := by
  induction h with
  | nil => exact .nil
  | cons r t ih =>
    cases t with
    | nil => exact .nil
    | cons q t' => exact .cons r ih
theorem erase_last {α : Type} (l : List α) : l.eraseIdx (l.length - 1) = l.dropLast := by
  induction l with
  | nil => rfl
  | cons a r ih =>
    cases r with
    | nil => rfl
    | cons b r =>
      have e : (a :: b :: r).length - 1 = ((b :: r).length - 1) + 1 := by
        have h1 : (a :: b :: r).length = r.length + 2 := rfl
        have h2 : (b :: r).length = r.length + 1 := rfl
        omega
      rw [e, List.eraseIdx_cons_succ, ih]
      all_goals rfl
section
variable {X : Cx} {pins : List (Addr × Obj)} {σ : St} {H : Hp} {s : Shared} {l b : Addr} {xs ys zs : List V}

/-! ### the two steps: a tracked list is rewritten, a new list is laid -/
theorem Inv.lset {its its' : List Value} {n : Nat} {f : Array Value → Array Value} {t' : Nat} (I : Inv X pins σ H s) (hH : H l = some (.lst xs))
    (e : s.heap.get? l = some { cls := .type "list", data := .seq its.toArray n }) (hf : f its.toArray = its'.toArray) (hv : Vals ys its') (hz : ys.length ≤ sizeLine) :
    Inv X pins σ (upd H l (.lst ys)) { s with heap := s.heap.update l (Obj.mapSeq f), toks := t' } := by
  have q := PySem.IsL.update e f
  rw [hf] at q
  refine I.write (x := l) (e := l) (by rw [hH]; exact trivial) (.inl rfl) (fun b' u hb hu => (Heap.get?_update_other s.heap (Obj.mapSeq f) (Ne.symm hb)).trans hu) ⟨_, q⟩ ?_
  exact ⟨hz, its', _, hv, q⟩
theorem Inv.lnew {its : List Value} {t' : Nat} (I : Inv X pins σ H s) (hv : Vals ys its) (hz : ys.length ≤ sizeLine) :
    Inv X pins σ (upd H s.heap.objs.size (.lst ys)) { s with heap := s.heap.push { cls := .type "list", data := .seq its.toArray }, toks := t' } :=
  I.laid (fun _ _ q => Heap.get?_push_of_some _ q) (Nat.le_refl _) ⟨hz, its, 0, hv, Heap.get?_push_size _ rfl⟩
theorem Inv.fresh (I : Inv X pins σ H s) : H s.heap.objs.size = none := I.hok.fresh (Nat.le_refl _)
theorem Inv.lstM (I : Inv X pins σ H s) (hH : H l = some (.lst xs)) : xs.length ≤ sizeLine ∧ ∃ (its : List Value) (n : Nat), Vals xs its ∧ xs.length = its.length ∧ s.heap.get? l = some { cls := .type "list", data := .seq its.toArray n } := by
  obtain ⟨z, its, n, r, e⟩ := I.hok l _ hH
  exact ⟨z, its, n, r, r.length, e⟩

end

section
variable {X : Cx}

/-! ### methods -/
def rAppend : V → List V → Hp → VK → Prop := fun x vs H Q => ∃ l xs y, x = .ref l ∧ vs = [y] ∧ H l = some (.lst xs) ∧ xs.length < sizeLine ∧ Q .non (upd H l (.lst (xs ++ [y])))
theorem mt_append : MtM X "list.append" rAppend := by
  intro pins s σ H x vs v us Q I rx rv h
  obtain ⟨l, xs, y, rfl, rfl, hH, hz, q⟩ := h
  cases rx
  obtain ⟨u, rfl, ru⟩ := rv.one
  obtain ⟨z, its, n, r, hl, e⟩ := I.lstM hH
  refine call_meets F.slot_list_append ⟨_, e, rfl⟩ F.entry_list_append (F.args_list_append_2 _ _) (PySem.list_append l its.toArray n u (by rw [List.size_toArray]; omega)) ⟨e, ?_⟩
  refine ⟨.non, _, I.lset (its' := its ++ [u]) hH e (by simp) (r.append (.cons ru .nil)) ?_, rfl, q⟩
  rw [List.length_append, List.length_singleton]
  omega

def rPop : V → List V → Hp → VK → Prop := fun x vs H Q => ∃ l xs y, x = .ref l ∧ vs = [] ∧ H l = some (.lst xs) ∧ xs[xs.length - 1]? = some y ∧ Q y (upd H l (.lst xs.dropLast))
theorem mt_pop : MtM X "list.pop" rPop := by
  intro pins s σ H x vs v us Q I rx rv h
  obtain ⟨l, xs, y, rfl, rfl, hH, hy, q⟩ := h
  cases rx
  have hus := rv.zero
  subst hus
  obtain ⟨z, its, n, r, hl, e⟩ := I.lstM hH
  obtain ⟨u, hu, ru⟩ := r.get hy
  have hy' : its.toArray[its.toArray.size - 1]? = some u := by
    show its.toArray[its.length - 1]? = some u
    rw [← Array.getElem?_toList, ← hl]
    exact hu
  refine call_meets F.slot_list_pop ⟨_, e, rfl⟩ F.entry_list_pop (F.args_list_pop_1 _) (MeetsSeq.list_pop_last l its.toArray n u hy' (by rw [List.size_toArray]; omega)) ⟨e, ?_⟩
  refine ⟨y, _, I.lset (its' := its.dropLast) hH e ?_ r.dropLast ?_, ru, q⟩
  · show its.toArray.eraseIdxIfInBounds (its.toArray.size - 1) = its.dropLast.toArray
    rw [List.size_toArray, List.eraseIdxIfInBounds_toArray, erase_last]
  · rw [List.length_dropLast]
    omega

/-! ### list + list, list += list, list * int -/
def rCat : R2 := fun x y H Q => ∃ l b xs zs, x = .ref l ∧ y = .ref b ∧ H l = some (.lst xs) ∧ H b = some (.lst zs) ∧ xs.length + zs.length ≤ sizeLine ∧ ∀ p, H p = none → Q (.ref p) (upd H p (.lst (xs ++ zs)))
theorem op_cat : OpR X (binaryOp .Add) rCat := by
  intro pins s σ H x y v u Q I rx ry h
  obtain ⟨l, b, xs, zs, rfl, rfl, hH, hB, hz, q⟩ := h
  cases rx
  cases ry
  obtain ⟨z, its, n, r, hl, e⟩ := I.lstM hH
  obtain ⟨z2, its2, n2, r2, hl2, e2⟩ := I.lstM hB
  refine PySem.P.add_list e e2 ?_ (by rw [List.size_toArray, List.size_toArray]; omega)
  have ea : its.toArray ++ its2.toArray = (its ++ its2).toArray := by simp
  rw [ea]
  exact ⟨.ref _, _, I.lnew (t' := s.toks) (r.append r2) (by rw [List.length_append]; omega), rfl, q _ I.fresh⟩
/-! ### del xs[i] -/
end

/-! ### xs[a:b] = ys -/
section
variable {prog : Program} {w : World} {A : Around} {E : Value → Shared → Prop} {s : Shared}
end

section
variable {X : Cx}
end
end L2

namespace L2
open PySem PySem.Spec PyProof.Rows

/-! ### lists of pairs as tables -/
section
variable {κ : Type} [DecidableEq κ]
def valV (kvs : List (κ × V)) (k : κ) : Option V := (kvs.find? fun kv => decide (kv.1 = k)).map (·.2)
/-- in its place, or at the end -/
def putK (kvs : List (κ × V)) (k : κ) (v : V) : List (κ × V) :=
  if (kvs.any fun kv => decide (kv.1 = k)) = true then kvs.map (fun kv => if kv.1 = k then (kv.1, v) else kv) else kvs ++ [(k, v)]
theorem valV_pos {p : κ × V} {r : List (κ × V)} {k : κ} (e : p.1 = k) : valV (p :: r) k = some p.2 := by simp [valV, List.find?_cons, e]
theorem valV_neg {p : κ × V} {r : List (κ × V)} {k : κ} (e : ¬ p.1 = k) : valV (p :: r) k = valV r k := by simp [valV, List.find?_cons, e]
theorem valV_any (k : κ) : ∀ kvs : List (κ × V), (kvs.any fun kv => decide (kv.1 = k)) = (valV kvs k).isSome
  | [] => rfl
  | p :: r => by
    rw [List.any_cons]
    by_cases e : p.1 = k
    · simp only [valV_pos e, decide_eq_true e, Bool.true_or, Option.isSome_some]
    · rw [valV_neg e, decide_eq_false e, Bool.false_or]; exact valV_any k r
theorem length_putK (kvs : List (κ × V)) (k : κ) (v : V) : (putK kvs k v).length ≤ kvs.length + 1 := by
  unfold putK
  split
  · rw [List.length_map]; omega
  · rw [List.length_append, List.length_cons, List.length_nil]; omega
theorem RelO.isSome_eq {o : Option V} {u : Option Value} (r : RelO o u) : o.isSome = u.isSome := by
  cases o with
  | none => cases u with
    | none => rfl
    | some _ => exact (show False from r).elim
  | some _ => cases u with
    | none => exact (show False from r).elim
    | some _ => rfl
theorem RelO.getD {o : Option V} {u : Option Value} {d : V} {d' : Value} (r : RelO o u) (rd : RelV d d') : RelV (o.getD d) (u.getD d') := by
  cases o with
  | none => cases u with
    | none => exact rd
    | some _ => exact (show False from r).elim
  | some _ => cases u with
    | none => exact (show False from r).elim
    | some _ => exact r

/-- raw tables of the same keys -/
theorem KV.val {kvs : List (κ × V)} {vs : List (κ × Value)} (r : KV kvs vs) (k : κ) : RelO (valV kvs k) (valueAt vs k) := by
  unfold KV at r
  induction r with
  | nil => exact True.intro
  | @cons p q ps qs h t ih =>
    obtain ⟨h1, h2⟩ := h
    by_cases e : p.1 = k
    · have e' : q.1 = k := h1.symm.trans e
      have b : valueAt (q :: qs) k = some q.2 := by simp [valueAt, List.find?_cons, e']
      rw [valV_pos e, b]; exact h2
    · have e' : ¬ q.1 = k := fun z => e (h1.trans z)
      have b : valueAt (q :: qs) k = valueAt qs k := by simp [valueAt, List.find?_cons, e']
      rw [valV_neg e, b]; exact ih
theorem KV.any {kvs : List (κ × V)} {vs : List (κ × Value)} (r : KV kvs vs) (k : κ) : (kvs.any fun kv => decide (kv.1 = k)) = vs.any fun kv => decide (kv.1 = k) := by
  unfold KV at r
  induction r with
  | nil => rfl
  | cons h t ih => rw [List.any_cons, List.any_cons, ih, h.1]
theorem KV.repl {kvs : List (κ × V)} {vs : List (κ × Value)} (r : KV kvs vs) (k : κ) {y : V} {u : Value} (ry : RelV y u) :
    KV (kvs.map fun kv => if kv.1 = k then (kv.1, y) else kv) (vs.map fun kv => if kv.1 = k then (kv.1, u) else kv) := by
  unfold KV at r ⊢
  induction r with
  | nil => exact .nil
  | @cons p q ps qs h t ih =>
    rw [List.map_cons, List.map_cons]
    refine .cons ?_ ih
    obtain ⟨h1, h2⟩ := h
    by_cases e : p.1 = k
    · rw [if_pos e, if_pos (h1.symm.trans e)]; exact ⟨h1, ry⟩
    · rw [if_neg e, if_neg (fun z => e (h1.trans z))]; exact ⟨h1, h2⟩
theorem KV.put {kvs : List (κ × V)} {vs : List (κ × Value)} (r : KV kvs vs) (k : κ) {y : V} {u : Value} (ry : RelV y u) : KV (putK kvs k y) (stored vs k u) := by
  unfold putK stored
  rw [r.any k]
  by_cases e : (vs.any fun kv => decide (kv.1 = k)) = true
  · rw [if_pos e, if_pos e]; exact r.repl k ry
  · rw [if_neg e, if_neg e]; exact Paired.snoc r ⟨rfl, ry⟩
theorem KV.length {kvs : List (κ × V)} {vs : List (κ × Value)} (r : KV kvs vs) : kvs.length = vs.length := Paired.length r
end


/-! ### a tracked dict, its keys ints and texts or tuples of these -/
theorem kV_is {P : Program} {w : World} {k : Key} {u : Value} (r : RelV (kV k) u) : (mixKind P w).is k u = true := by
  cases k with
  | inl i => obtain ⟨t, e⟩ := (show ∃ t, u = Value.int i t from r); subst e; exact mixKind_int P w i t
  | inr x => obtain ⟨t, e⟩ := (show ∃ t, u = Value.str x t from r); subst e; exact mixKind_str P w x t
theorem items_are {P : Program} {w : World} : ∀ {ks : List Key} {us : List Value}, Vals (ks.map kV) us → ItemsAre (mixKind P w) ks us
  | [], _, r => by rw [List.map_nil] at r; cases r; exact .nil
  | k :: ks, _, r => by
    rw [List.map_cons] at r
    cases r with
    | cons h t => exact .cons (kV_is h) (items_are t)

/-- raw entries of a dict with tuple keys -/
abbrev KT (H : Hp) : List (List Key × V) → List (List Key × Addr × Value) → Prop := Paired fun p q => p.1 = q.1 ∧ H q.2.1 = some (.tup (p.1.map kV)) ∧ RelV p.2 q.2.2
theorem KT.val {H : Hp} {kvs : List (List Key × V)} {xs : List (List Key × Addr × Value)} (r : KT H kvs xs) (k : List Key) : RelO (valV kvs k) ((atKey xs k).map (·.2)) := by
  induction r with
  | nil => exact True.intro
  | @cons p q ps qs h t ih =>
    obtain ⟨h1, _, h2⟩ := h
    by_cases e : p.1 = k
    · have e' : q.1 = k := h1.symm.trans e
      have b : atKey (q :: qs) k = some q.2 := by simp [atKey, List.find?_cons, e']
      rw [valV_pos e, b]; exact h2
    · have e' : ¬ q.1 = k := fun z => e (h1.trans z)
      have b : atKey (q :: qs) k = atKey qs k := by simp [atKey, List.find?_cons, e']
      rw [valV_neg e, b]; exact ih
theorem KT.repl {H : Hp} {kvs : List (List Key × V)} {xs : List (List Key × Addr × Value)} (r : KT H kvs xs) (k : List Key) {y : V} {u : Value} (ry : RelV y u) :
    KT H (kvs.map fun kv => if kv.1 = k then (kv.1, y) else kv) (xs.map (putAt k u)) := by
  induction r with
  | nil => exact .nil
  | @cons p q ps qs h t ih =>
    rw [List.map_cons, List.map_cons]
    refine .cons ?_ ih
    obtain ⟨h1, h2, h3⟩ := h
    unfold putAt
    by_cases e : p.1 = k
    · rw [if_pos e, if_pos (h1.symm.trans e)]; exact ⟨h1, h2, ry⟩
    · rw [if_neg e, if_neg (fun z => e (h1.trans z))]; exact ⟨h1, h2, h3⟩
theorem KT.put {H : Hp} {kvs : List (List Key × V)} {xs : List (List Key × Addr × Value)} (r : KT H kvs xs) (k : List Key) {b : Addr} {y : V} {u : Value} (hb : H b = some (.tup (k.map kV))) (ry : RelV y u) :
    KT H (putK kvs k y) (storedH xs k b u) := by
  have e : (kvs.any fun kv => decide (kv.1 = k)) = (atKey xs k).isSome := by
    rw [valV_any, (r.val k).isSome_eq, Option.isSome_map]
  unfold putK storedH
  rw [e]
  by_cases q : (atKey xs k).isSome = true
  · rw [if_pos q, if_pos q]; exact r.repl k ry
  · rw [if_neg q, if_neg q]; exact Paired.snoc r ⟨rfl, hb, ry⟩
theorem KT.keeps {H H' : Hp} {kvs : List (List Key × V)} {xs : List (List Key × Addr × Value)} (r : KT H kvs xs) (ht : ∀ b ys, H b = some (.tup ys) → H' b = some (.tup ys)) : KT H' kvs xs :=
  Paired.mapP r fun _ _ z => ⟨z.1, ht _ _ z.2.1, z.2.2⟩

section
variable {P : Program} {w : World} {H : Hp} {h : Heap} {a : Addr}
theorem rd_of {u : HO} (ok : HOk P w H h) (e : Rd H a u) : ObjOk P w H h a u := e.ok ok
theorem dk_rd {kvs : List (Key × V)} (ok : HOk P w H h) (e : Rd H a (.dK kvs)) : kvs.length ≤ sizeLine ∧ (a == sysModules) = false ∧ ∃ vs, KV kvs vs ∧ h.DictOf (mixKind P w) a vs :=
  show ObjOk P w H h a (.dK kvs) from rd_of ok e
theorem dk_of {kvs : List (Key × V)} (ok : HOk P w H h) (e : H a = some (.dK kvs)) : kvs.length ≤ sizeLine ∧ (a == sysModules) = false ∧ ∃ vs, KV kvs vs ∧ h.DictOf (mixKind P w) a vs := dk_rd ok (.inl e)
/-- a tracked tuple of ints and texts is a key -/
theorem key_of {ks : List Key} (ok : HOk P w H h) (e : H a = some (.tup (ks.map kV))) : (tupleKind (mixKind P w)).is h ks a := by
  obtain ⟨_, its, r, o, h1, h2, n, h3⟩ := (show ObjOk P w H h a (.tup (ks.map kV)) from ok a _ e)
  exact ⟨o, its.toArray, n, h1, h2, h3, by simpa using items_are r⟩
theorem dt_rd {kvs : List (List Key × V)} (ok : HOk P w H h) (e : Rd H a (.dT kvs)) : kvs.length ≤ sizeLine ∧ (a == sysModules) = false ∧
    ∃ xs, KT H kvs xs ∧ h.DictOfH (tupleKind (mixKind P w)) a xs := by
  obtain ⟨z, y, xs, r, o, es, ep, h1, h2, h3, h4, h5⟩ := (show ObjOk P w H h a (.dT kvs) from rd_of ok e)
  refine ⟨z, y, xs, r, o, es, ep, h1, h2, h3, h4, fun x hx => ?_, h5⟩
  have all : ∀ {l : List (List Key × V)} {m : List (List Key × Addr × Value)}, KT H l m → ∀ x ∈ m, (tupleKind (mixKind P w)).is h x.1 x.2.1 := by
    intro l m q
    induction q with
    | nil => intro x hx; exact nomatch hx
    | @cons p q ps qs hq t ih =>
      intro x hx
      rcases List.mem_cons.mp hx with e | hx
      · subst e
        exact key_of ok (by rw [← hq.1]; exact hq.2.1)
      · exact ih x hx
  exact all r x hx
theorem dt_of {kvs : List (List Key × V)} (ok : HOk P w H h) (e : H a = some (.dT kvs)) : kvs.length ≤ sizeLine ∧ (a == sysModules) = false ∧
    ∃ xs, KT H kvs xs ∧ h.DictOfH (tupleKind (mixKind P w)) a xs := dt_rd ok (.inl e)
end

/-- what the dict at a holds at the key y -/
def DGet (H : Hp) (a : Addr) (y : V) (r : Option V) : Prop :=
  (∃ kvs k, Rd H a (.dK kvs) ∧ y = kV k ∧ r = valV kvs k) ∨ ∃ kvs k b, Rd H a (.dT kvs) ∧ y = .ref b ∧ H b = some (.tup (k.map kV)) ∧ r = valV kvs k
/-- the heap behind a[y] = v -/
def DPut (H : Hp) (a : Addr) (y v : V) (H' : Hp) : Prop :=
  (∃ kvs k, H a = some (.dK kvs) ∧ y = kV k ∧ kvs.length < sizeLine ∧ H' = upd H a (.dK (putK kvs k v))) ∨
  ∃ kvs k b, H a = some (.dT kvs) ∧ y = .ref b ∧ H b = some (.tup (k.map kV)) ∧ kvs.length < sizeLine ∧ H' = upd H a (.dT (putK kvs k v))
theorem DGet.k {H : Hp} {a : Addr} {kvs : List (Key × V)} {k : Key} (e : H a = some (.dK kvs)) : DGet H a (kV k) (valV kvs k) := .inl ⟨kvs, k, .inl e, rfl, rfl⟩
theorem DPut.k {H : Hp} {a : Addr} {kvs : List (Key × V)} {k : Key} {v : V} (e : H a = some (.dK kvs)) (hl : kvs.length < sizeLine) : DPut H a (kV k) v (upd H a (.dK (putK kvs k v))) := .inl ⟨kvs, k, e, rfl, hl, rfl⟩
section
variable {X : Cx} {pins : List (Addr × Obj)} {σ : St} {H : Hp} {s : Shared} {a : Addr} {y v : V} {u r : Value} {o : Option V} {A : Around} {E : Value → Shared → Prop}

theorem Inv.big (I : Inv X pins σ H s) : sysModules < s.heap.objs.size := by
  have h : mainGlobals < s.heap.objs.size := (I.mod.glob.keeps I.bk).lt
  exact Nat.lt_trans (by decide) h

/-- d[y], there -/
theorem d_getItem {Q : Value → Shared → Prop} (hu : A.units + 1 < cLine) (I : Inv X pins σ H s) (g : DGet H a y (some v)) (ry : RelV y u) (h : ∀ w' s', Inv X pins σ H s' → RelV v w' → Q w' s') :
    wpAny (model X.prog X.w) A (getItem (.ref a) u) Q E s := by
  rcases g with ⟨kvs, k, e, ey, l⟩ | ⟨kvs, k, b, e, ey, eb, l⟩
  · subst ey
    obtain ⟨z, hd, vs, rel, dd⟩ := dk_rd I.hok e
    obtain ⟨w', hw, rw'⟩ := RelO.some_of (v := v) (o := valueAt vs k) (by rw [l]; exact rel.val k)
    exact wpAny_getItem_of (kV_is ry) dd.mapOf hw (h w' _ (I.tok _) rw')
  · subst ey
    cases (show u = Value.ref b from ry)
    obtain ⟨z, hd, xs, rel, dd⟩ := dt_rd I.hok e
    obtain ⟨w', hw, rw'⟩ := RelO.some_of (v := v) (o := (atKey xs k).map (·.2)) (by rw [l]; exact rel.val k)
    obtain ⟨p, hp, hp2⟩ := Option.map_eq_some_iff.mp hw
    refine wpAny_getItem_heap (tupleKind_room_in1 hu) (key_of I.hok eb) dd hp ?_
    rw [hp2]
    exact h w' _ (I.tok _) rw'
/-- a dict's object is replaced -/
theorem d_write {h' : Heap} {t' : Nat} {ob : HO} (I : Inv X pins σ H s) (mu : Mut (H a)) (hs : Heap.SameBut a s.heap h') (he : ∃ q, h'.get? a = some q) (new : ObjOk X.prog X.w (upd H a ob) h' a ob) :
    Inv X pins σ (upd H a ob) { s with heap := h', toks := t' } :=
  I.write (x := a) (e := a) mu (.inl rfl) (fun b q hb z => (hs.2 b hb).trans z) he new
theorem dk_new {P : Program} {w : World} {H' : Hp} {h' : Heap} {kvs : List (Key × V)} {vs : List (Key × Value)} (z : kvs.length ≤ sizeLine) (hd : (a == sysModules) = false) (rel : KV kvs vs) (dd : h'.DictOf (mixKind P w) a vs) :
    ObjOk P w H' h' a (.dK kvs) := ⟨z, hd, vs, rel, dd⟩
/-- d[y] = v -/
theorem d_setItem {H' : Hp} {Q : Unit → Shared → Prop} (hu : A.units + 1 < cLine) (I : Inv X pins σ H s) (g : DPut H a y v H') (ry : RelV y u) (rv : RelV v r) (h : ∀ s', Inv X pins σ H' s' → Q () s') :
    wpAny (model X.prog X.w) A (setItem (.ref a) u r) Q E s := by
  rcases g with ⟨kvs, k, e, ey, l, eH⟩ | ⟨kvs, k, b, e, ey, eb, l, eH⟩
  · subst ey eH
    obtain ⟨z, hd, vs, rel, dd⟩ := dk_of I.hok e
    have hz : vs.length ≤ sizeLine := by rw [← rel.length]; exact z
    have hl : (putK kvs k v).length ≤ sizeLine := by have := length_putK kvs k v; omega
    refine wpAny_setItem_pairs (hsz := hz) (kV_is ry) dd fun h' dd' hs => h _ ?_
    have he : ∃ q, h'.get? a = some q := let ⟨q, _, _, hq, _⟩ := dd'; ⟨q, hq⟩
    exact d_write I (by rw [e]; exact True.intro) hs he (dk_new hl hd (rel.put k rv) dd')
  · subst ey eH
    cases (show u = Value.ref b from ry)
    obtain ⟨z, hd, xs, rel, dd⟩ := dt_of I.hok e
    have hz : xs.length ≤ sizeLine := by rw [← Paired.length rel]; exact z
    have hl : (putK kvs k v).length ≤ sizeLine := by have := length_putK kvs k v; omega
    refine wpAny_setItem_heap (hsz := hz) (tupleKind_room_in1 hu) (key_of I.hok eb) dd fun h' dd' hs => h _ ?_
    obtain ⟨q, es, ep, hq, h2, h3, h4, _, h5⟩ := dd'
    refine d_write I (by rw [e]; exact True.intro) hs ⟨q, hq⟩ ⟨hl, hd, _, (rel.put k eb rv).keeps fun c ys ec => ?_, q, es, ep, hq, h2, h3, h4, h5⟩
    rw [upd_ne (ne_of ec e (fun z => nomatch z))]
    exact ec
end

section
variable {X : Cx} {pins : List (Addr × Obj)} {σ : St} {H : Hp} {s : Shared} {a : Addr} {kvs : List (Key × V)} {k : Key} {u : Value} {A : Around} {E : Value → Shared → Prop}
end


/-! ### readings and rules -/
/-- the element of a subscription, not a slice -/
def NoSl (i : Expr) : Prop := ∀ ov iv, subscripted i false ov iv = operate [ov, iv] (getItem ov iv)
theorem subD_of {prog : Program} {w : World} {A : Around} {E : Value → Shared → Prop} {s : Shared} {env : Env} {value slice : Expr} {pos : Pos} {T id : String} {Q : Value → Shared → Prop}
    (hl : typeLookup (.type T) "__getitem__" = pure (some (.builtin id))) (hs : NoSl slice)
    (h : wpAny (model prog w) A (eval value env) (fun o s₁ => wpAny (model prog w) A (eval slice env) (fun i s₂ => s₂.TypeIs o T ∧ wpAny (model prog w) A (getItem o i) Q E s₂) E s₁) E s) :
    wpAny (model prog w) A (eval (.Subscript value slice pos) env) Q E s := by
  refine Subscript_ (wpAny_mono h (fun o s₁ h₁ => wpAny_mono h₁ (fun i s₂ h₂ => ?_) fun _ _ x => x) fun _ _ x => x)
  obtain ⟨hT, h₂⟩ := h₂
  unfold subscriptTail
  refine wpAny_bind ?_
  rw [getitemInPython_of_ne hT.not_modules]
  refine wpAny_bind (wpAny_specialOf hT hl ?_)
  have fin : wpAny (model prog w) A (subscripted slice false o i) (fun r s₃ => wpAny (model prog w) A (letTemporaryGo value o r >>= fun _ => pure r) Q E s₃) E s₂ := by
    rw [hs o i]
    exact wpAny_operating (wpAny_mono h₂ (fun r s₃ h₃ => wpAny_bind (wpAny_letTemporaryGo (wpAny_pure h₃))) fun _ _ x => x)
  first
    | exact wpAny_pure (wpAny_bind fin)
    | exact wpAny_bind (wpAny_pure (wpAny_bind fin))
    | exact wpAny_bind fin

theorem dict_typeIs {X : Cx} {pins : List (Addr × Obj)} {σ : St} {H : Hp} {s : Shared} {a : Addr} {y : V} {o : Option V} (I : Inv X pins σ H s) (g : DGet H a y o) : s.TypeIs (.ref a) "dict" := by
  rcases g with ⟨kvs, k, e, _, _⟩ | ⟨kvs, k, b, e, _, _, _⟩
  · obtain ⟨_, _, vs, _, dd⟩ := dk_rd I.hok e
    exact dd.typeIs
  · obtain ⟨_, _, xs, _, dd⟩ := dt_rd I.hok e
    exact dd.typeIs
/-- d[y] -/
def tDGet (td ty : TE) : TE := fun σ H Q => td σ H fun x H1 => ty σ H1 fun y H2 => ∃ a v, x = .ref a ∧ DGet H2 a y (some v) ∧ Q v H2
/-- d[y] = v -/
def sDPut (td ty tv : TE) : TS := fun D σ H => tv σ H fun v H1 => td σ H1 fun x H2 => ty σ H2 fun y H3 => ∃ a H4, x = .ref a ∧ DPut H3 a y v H4 ∧ D.nx σ H4
section
variable {X : Cx} {o i e value : Expr} {pos pos' tpos : Pos} {td ty tv : TE}
theorem pe_dget (hu : X.A.units + 1 < cLine) (ho : PE X o td) (hi : PE X i ty) (hs : NoSl i) : PE X (.Subscript o i pos) (tDGet td ty) := by
  intro pins s σ H Q I h
  refine subD_of PySem.F.slot_dict_getitem.lookup hs (thn (ho pins s σ H _ I h) fun u s1 ⟨x, H1, I1, rx, q1⟩ => thn (hi pins s1 σ H1 _ I1 q1) fun iv s2 ⟨y, H2, I2, ry, a, v, ex, g, q2⟩ => ?_)
  subst ex
  obtain rfl : u = Value.ref a := rx
  exact ⟨dict_typeIs I2 g, d_getItem hu I2 g ry fun w' s3 I3 rw' => ⟨v, H2, I3, rw', q2⟩⟩
theorem ps_dput (hu : X.A.units + 1 < cLine) (ho : PE X o td) (hi : PE X i ty) (hv : PE X value tv) (hs : swapsWith value (some (.Subscript o i pos')) pos.line X.env = pure false) :
    PS X (.Assign [.Subscript o i pos'] value pos) (sDPut td ty tv) := by
  intro pins s σ H D I h
  refine wpAny_Assign_Subscript (thn (hv pins s σ H _ I h) fun r s1 ⟨v, H1, I1, rv, q1⟩ => thn (ho pins s1 σ H1 _ I1 q1) fun u s2 ⟨x, H2, I2, rx, q2⟩ => thn (hi pins s2 σ H2 _ I2 q2) fun iv s3 ⟨y, H3, I3, ry, a, H4, ex, g, q3⟩ => ?_) hs
  subst ex
  obtain rfl : u = Value.ref a := rx
  exact d_setItem hu I3 g ry rv fun s4 I4 => ⟨σ, H4, I4, q3⟩
end


/-! ### displays -/
theorem dk_empty {P : Program} {w : World} {H : Hp} (h : Heap) (hb : sysModules < h.objs.size) : ObjOk P w H (h.push { cls := .type "dict", data := .dict #[] }) h.objs.size (.dK []) :=
  ⟨Nat.zero_le _, beq_eq_false_iff_ne.mpr (Ne.symm (Nat.ne_of_lt hb)), [], .nil, Heap.DictOf.new h⟩
/-- {}, to be a dict of the kind that is wanted -/
def tDNewK : TE := fun _ H Q => ∀ p, H p = none → Q (.ref p) (upd H p (.dK []))
section
variable {X : Cx} {pos : Pos}
theorem pe_dnewK : PE X (.Dict [] [] pos) tDNewK := fun pins s σ H Q I h =>
  wpAny_Dict_empty ⟨.ref s.heap.objs.size, _, I.laid (a := s.heap.objs.size) (o := .dK []) (t' := s.toks) (fun _ _ q => Heap.get?_push_of_some _ q) (Nat.le_refl _) (dk_empty s.heap I.big), rfl, h _ (I.hok.fresh (Nat.le_refl _))⟩
end

/-- the pairs of a display, from the left -/
def tPairs : List (TE × TE) → St → Hp → (List (V × V) → Hp → Prop) → Prop
  | [], _, H, Q => Q [] H
  | (tk, tv) :: r, σ, H, Q => tk σ H fun x H1 => tv σ H1 fun y H2 => tPairs r σ H2 fun ps H3 => Q ((x, y) :: ps) H3
abbrev VV : List (V × V) → List (Value × Value) → Prop := Paired fun p q => RelV p.1 q.1 ∧ RelV p.2 q.2
def PPs (X : Cx) (pos : Pos) (keys : List (Option Expr)) (values : List Expr) (trs : List (TE × TE)) : Prop :=
  ∀ (pins : List (Addr × Obj)) (s : Shared) (σ : St) (H : Hp) (Q : List (V × V) → Hp → Prop), Inv X pins σ H s → tPairs trs σ H Q →
    wpAny (model X.prog X.w) X.A (evalPairs (pairTrees keys values X.env pos)) (fun vs s' => ∃ ps H', Inv X pins σ H' s' ∧ VV ps vs ∧ Q ps H') X.xe s
theorem pps_nil {X : Cx} {pos : Pos} : PPs X pos [] [] [] := fun pins s σ H Q I h => pairTrees_nil_walk ⟨[], H, I, .nil, h⟩
theorem pps_cons {X : Cx} {pos : Pos} {k v : Expr} {ks : List (Option Expr)} {vs : List Expr} {tk tv : TE} {trs : List (TE × TE)} (hk : PE X k tk) (hv : PE X v tv) (hr : PPs X pos ks vs trs) :
    PPs X pos (some k :: ks) (v :: vs) ((tk, tv) :: trs) := fun pins s σ H Q I h =>
  pairTrees_cons_walk (thn (hk pins s σ H _ I h) fun u s1 ⟨x, H1, I1, rx, q1⟩ => thn (hv pins s1 σ H1 _ I1 q1) fun w2 s2 ⟨y, H2, I2, ry, q2⟩ =>
    thn (hr pins s2 σ H2 _ I2 q2) fun ws s3 ⟨ps, H3, I3, rel, q3⟩ => ⟨(x, y) :: ps, H3, I3, .cons ⟨rx, ry⟩ rel, q3⟩)

def mergeK (kvs more : List (Key × V)) : List (Key × V) := more.foldl (fun acc kv => putK acc kv.1 kv.2) kvs
theorem KV.merge : ∀ {more : List (Key × V)} {rs : List (Key × Value)} {kvs : List (Key × V)} {vs : List (Key × Value)}, KV more rs → KV kvs vs → KV (mergeK kvs more) (merged vs rs) := by
  intro more rs kvs vs r
  unfold KV at r
  induction r generalizing kvs vs with
  | nil => intro q; exact q
  | @cons p q ps qs h t ih =>
    intro r0
    have e : KV (putK kvs p.1 p.2) (stored vs q.1 q.2) := by
      have := r0.put p.1 h.2
      rw [← h.1]; exact this
    exact ih e
theorem length_mergeK : ∀ (more kvs : List (Key × V)), (mergeK kvs more).length ≤ kvs.length + more.length
  | [], kvs => by show kvs.length ≤ kvs.length + 0; omega
  | p :: r, kvs => by
    have h1 := length_mergeK r (putK kvs p.1 p.2)
    have h2 := length_putK kvs p.1 p.2
    show (mergeK (putK kvs p.1 p.2) r).length ≤ _
    rw [List.length_cons]; omega
theorem carries_of {P : Program} {w : World} : ∀ {kvs : List (Key × V)} {ws : List (Value × Value)}, VV (kvs.map fun kv => (kV kv.1, kv.2)) ws → ∃ rs, Carries (mixKind P w) ws rs ∧ KV kvs rs
  | [], _, r => by rw [List.map_nil] at r; cases r; exact ⟨[], True.intro, .nil⟩
  | p :: kvs, _, r => by
    rw [List.map_cons] at r
    cases r with
    | @cons a b as bs h t =>
      obtain ⟨rs, c, q⟩ := carries_of (P := P) (w := w) t
      obtain ⟨b1, b2⟩ := b
      exact ⟨(p.1, b2) :: rs, ⟨kV_is h.1, rfl, c⟩, .cons ⟨rfl, h.2⟩ q⟩
/-- {k: v, ..} with keys ints and texts; the new dict stands empty while the pairs are made -/
def tDisp (trs : List (TE × TE)) : TE := fun σ H Q => ∀ p, H p = none → tPairs trs σ (upd H p (.dK [])) fun ps H2 => H2 p = some (.dK []) ∧ ∃ kvs : List (Key × V), ps = kvs.map (fun kv => (kV kv.1, kv.2)) ∧ kvs.length ≤ 15 ∧ Q (.ref p) (upd H2 p (.dK (mergeK [] kvs)))
theorem pe_disp {X : Cx} {pos : Pos} {keys : List (Option Expr)} {values : List Expr} {trs : List (TE × TE)} (h : PPs X pos keys values trs) (hall : keys.all (·.isSome) = true) (hl : keys.length = values.length) (h0 : keys ≠ [])
    (h15 : keys.length ≤ 15) : PE X (.Dict keys values pos) (tDisp trs) := by
  intro pins s σ H Q I q
  have hn := I.hok.fresh (Nat.le_refl s.heap.objs.size)
  have I1 := I.laid (a := s.heap.objs.size) (o := .dK []) (h' := s.heap.push { cls := .type "dict", data := .dict #[] }) (t' := s.toks) (fun _ _ q => Heap.get?_push_of_some _ q) (Nat.le_refl _) (dk_empty s.heap I.big)
  refine wpAny_Dict_walk (knd := mixKind X.prog X.w) hall hl h0 h15 (thn (h pins _ σ _ _ I1 (q _ hn)) fun ws s2 ⟨ps, H2, I2, rel, e, kvs, ep, lk, q2⟩ => ?_)
  subst ep
  obtain ⟨rs, c, rk⟩ := carries_of (P := X.prog) (w := X.w) rel
  obtain ⟨z, hd, vs0, r0, dd⟩ := dk_of I2.hok e
  cases r0
  refine ⟨rs, c, dd, fun h' dd' hs => ⟨.ref s.heap.objs.size, _, ?_, rfl, q2⟩⟩
  have hz : (mergeK [] kvs).length ≤ sizeLine := by
    have h1 := length_mergeK kvs []
    rw [List.length_nil] at h1
    rw [sizeLine_eq]; omega
  have he : ∃ q, h'.get? s.heap.objs.size = some q := let ⟨q, _, _, hq, _⟩ := dd'; ⟨q, hq⟩
  exact d_write I2 (by rw [e]; exact True.intro) hs he (dk_new hz hd (rk.merge .nil) dd')


/-! ### methods -/
structure M2 (X : Cx) (o : Expr) (m : Str) (apos : Pos) (e f : Expr) (cpos : Pos) : Prop where
  base : attributeBase o m X.env (eval o X.env) = eval o X.env
  few : ((backTo cpos (starEach [e, f] X.env)).all (fun x => !x.1) && (backToKw cpos (keywordEach [] X.env)).all (fun x => x.1.isSome)
    && decide (([e, f] : List Expr).length + ([] : List Keyword).length + (if ([] : List Keyword).isEmpty then 0 else 1) < 30)) = true
  line : (apos.endLine == cpos.line) = true
  trees : backTo cpos (starEach [e, f] X.env) = [(false, eval e X.env), (false, eval f X.env)]

/-- a is a dict, whatever its keys -/
def IsD (H : Hp) (a : Addr) : Prop := (∃ kvs, Rd H a (.dK kvs)) ∨ ∃ kvs, Rd H a (.dT kvs)
theorem isD_at {X : Cx} {pins : List (Addr × Obj)} {σ : St} {H : Hp} {s : Shared} {a : Addr} (I : Inv X pins σ H s) (d : IsD H a) :
    s.TypeIs (.ref a) "dict" ∧ (∀ b, Value.ref a = .ref b → ∃ ob, s.heap.get? b = some ob ∧ ob.dict = none) ∧ (a == sysModules) = false := by
  rcases d with ⟨kvs, e⟩ | ⟨kvs, e⟩
  · obtain ⟨_, hd, vs, _, dd⟩ := dk_rd I.hok e
    refine ⟨dd.typeIs, fun b q => ?_, hd⟩
    cases q
    obtain ⟨ob, _, _, h1, h2, _⟩ := dd
    exact ⟨ob, h1, h2.2.1⟩
  · obtain ⟨_, hd, xs, _, dd⟩ := dt_rd I.hok e
    refine ⟨dd.typeIs, fun b q => ?_, hd⟩
    cases q
    obtain ⟨ob, _, _, h1, h2, _⟩ := dd
    exact ⟨ob, h1, h2.2.1⟩

section
variable {X : Cx} {pins : List (Addr × Obj)} {σ : St} {H : Hp} {s : Shared} {a : Addr} {y d : V} {u r : Value} {o : Option V} {A : Around} {E : Value → Shared → Prop}
/-- d.get(y, x) -/
theorem d_get2 {Q : Value → Shared → Prop} (hu : A.units + 1 < cLine) (I : Inv X pins σ H s) (g : DGet H a y o) (ry : RelV y u) (rd : RelV d r) (h : ∀ w' s', Inv X pins σ H s' → RelV (o.getD d) w' → Q w' s') :
    wpAny (model X.prog X.w) A (call (.builtin "dict.get") [.ref a, u, r]) Q E s := by
  rcases g with ⟨kvs, k, e, ey, l⟩ | ⟨kvs, k, b, e, ey, eb, l⟩
  · subst ey
    obtain ⟨z, hd, vs, rel, dd⟩ := dk_rd I.hok e
    refine call_meetsIn PySem.F.slot_dict_get dd.typeIs PySem.F.entry_dict_get (PySem.F.args_dict_get_3 _ _ _) (meets_dict_get_default (mixKind X.prog X.w) a (kV_is ry) hd r) ⟨_, dd.mapOf, h _ _ (I.tok _) ?_⟩
    rw [l]
    exact (rel.val k).getD rd
  · subst ey
    cases (show u = Value.ref b from ry)
    obtain ⟨z, hd, xs, rel, dd⟩ := dt_rd I.hok e
    refine call_meetsIn PySem.F.slot_dict_get dd.typeIs PySem.F.entry_dict_get (PySem.F.args_dict_get_3 _ _ _) (meetsH_dict_get_default (tupleKind (mixKind X.prog X.w)) a b hd r) ⟨tupleKind_room_in1 hu, k, xs, key_of I.hok eb, dd, h _ _ (I.tok _) ?_⟩
    rw [l]
    exact (rel.val k).getD rd
end

def tDGet2 (td ty tx : TE) : TE := fun σ H Q => td σ H fun x H1 => ∃ a, x = .ref a ∧ IsD H1 a ∧ ty σ H1 fun y H2 => tx σ H2 fun z H3 => ∃ o, DGet H3 a y o ∧ Q (o.getD z) H3
section
variable {X : Cx} {o e f : Expr} {apos cpos : Pos} {td ty tx : TE}
theorem pe_dget2 (hu : X.A.units + 1 < cLine) (ho : PE X o td) (he : PE X e ty) (hf : PE X f tx) (m : M2 X o "get" apos e f cpos) : PE X (.Call (.Attribute o "get" apos) [e, f] [] cpos) (tDGet2 td ty tx) := by
  intro pins s σ H Q I h
  refine wpAny_Call_method m.base m.few m.line PySem.F.plainAttrs_dict PySem.F.slot_dict_get PySem.F.type_dict_get (thn (ho pins s σ H _ I h) fun u s1 ⟨x, H1, I1, rx, a, ex, d, q1⟩ => ?_)
  subst ex
  obtain rfl : u = Value.ref a := rx
  obtain ⟨t1, t2, _⟩ := isD_at I1 d
  refine ⟨t1, t2, ?_⟩
  rw [m.trees]
  refine Calls.callWith_builtin rfl (Calls.evalArgs_plain (Calls.spliced_cons (thn (he pins s1 σ H1 _ I1 q1) fun iv s2 ⟨y, H2, I2, ry, q2⟩ =>
    Calls.spliced_cons (thn (hf pins s2 σ H2 _ I2 q2) fun fv s3 ⟨z, H3, I3, rz, ov, g, q3⟩ => Calls.spliced_nil ?_))))
  exact d_get2 hu I3 g ry rz fun w' s4 I4 rw' => ⟨_, H3, I4, rw', q3⟩
end

/-! ### dict(d): a copy -/
section
variable {X : Cx} {pins : List (Addr × Obj)} {σ : St} {H : Hp} {s : Shared} {a : Addr} {kvs : List (Key × V)} {A : Around} {E : Value → Shared → Prop}
end


section
variable {X : Cx} {pins : List (Addr × Obj)} {σ : St} {H : Hp} {s : Shared} {a : Addr} {y : V} {u : Value} {A : Around} {E : Value → Shared → Prop}
end
end L2

namespace Att
open PySem PySem.W PySem.Calls PyProof.Rows

/-! ### the script -/
theorem ints_of_wellAll {P : Params} {h : Heap} : ∀ (ns : List Int) (vs : List Value), WellAll P h vs (ns.map WData.int) → IntsAre vs ns := by
  intro ns
  induction ns with
  | nil =>
    intro vs w
    rw [List.map_nil] at w
    cases w
    exact .nil
  | cons n ns ih =>
    intro vs w
    rw [List.map_cons] at w
    cases w with
    | cons a b =>
      cases a
      exact .cons _ _ (ih _ b)

theorem script_of {l : OpenLaw} {n : Nat} (hn : l.most = some n) {P : Params} {h : Heap} {args : List WData} {vals : List Value}
    (hpre : l.row.toRowW.claim.pre args = true) (hwl : WellAll P h vals args) :
    ∃ a vs ns, vals = [Value.ref a] ∧ args = [WData.list (ns.map WData.int)] ∧ h.get? a = some { cls := .type "list", data := .seq vs.toArray } ∧ IntsAre vs ns ∧ ns.length ≤ n := by
  have hsh : WShape.hasAll [] args [.list .int] = true := (pre_splitW hpre).1
  have hc : l.pre.holds [] { args := args } = true := (pre_splitW hpre).2
  obtain ⟨d, r, rfl, h1, h2⟩ := hasAllW_cons hsh
  obtain rfl := hasAllW_nil h2
  obtain ⟨xs, rfl, h3⟩ := hasW_list h1
  obtain ⟨ns, rfl⟩ := items_int h3
  have hlen : ns.length ≤ n := by
    unfold OpenLaw.pre at hc
    have h4 : (WTm.not (.lt (.lit (.int (n : Int))) (.len (.arg 0)))).holds [] { args := [.list (ns.map .int)] } = true := by
      have h4 := (holds_andW hc).1
      rw [hn] at h4
      exact h4
    have h5 := condW_of h4 (w_not (w_lt w_lit (w_len_list (w_arg rfl))))
    rw [List.length_map] at h5
    refine Nat.le_of_not_lt fun q => ?_
    have q' : (n : Int) < ((ns.length : Nat) : Int) := by omega
    first
      | (rw [decide_eq_true q'] at h5; exact absurd h5 (by decide))
      | (simp at h5; omega)
  cases hwl with
  | cons w1 w2 =>
    cases w2
    cases w1 with
    | list ho hall => exact ⟨_, _, ns, rfl, rfl, ho, ints_of_wellAll ns _ hall, hlen⟩

theorem post_true (l : OpenLaw) (args : List WData) : l.row.toRowW.claim.post args (.bool true) args = true :=
  postW_of (r := l.row.toRowW) (X := (true == true))
    (show WShape.has [] (.bool true) .bool = true by first | rfl | decide | simp [WShape.has, WShape.arms, WShape.armsAll])
    (show (WTm.eq .res (.lit (.bool true))).value [] { args := args, res := some (.bool true), after := args } = some (.bool (true == true)) from w_eq_bool (w_res rfl) w_lit) rfl

/-! ### the attachment: holds_open's last premise (the goal 'hc' behind k_head) from a wpAny of the law's body -/
/-- the same from a codeAny of the CALL (for a layer whose function contracts speak of calls) -/
theorem attach_call {l : OpenLaw} {n : Nat} {q : Program} {loose : List Str} {XP : (Str → Option Value) → Heap → Prop} {YP : World → Heap → Prop} {d : DefRec}
    (hn : l.most = some n) (hdf : d.params.defaults = [])
    (call : ∀ (w : World) (s₀ s₁ : Shared) (mg mb : Str → Option Value) (fa : Addr) (o : Obj) (pm cd doc : Value) (a : Addr) (vs : List Value) (ns : List Int),
      Ground q loose [] XP w s₀ mg mb s₁.heap → YP w s₁.heap →
      s₁.heap.get? fa = some o → o.data = .func (docDef d.name d.params d.body d.scope pm cd doc) → s₁.heap.CodeRec cd d.name → mg d.name = some (.ref fa) →
      s₁.heap.get? a = some { cls := .type "list", data := .seq vs.toArray } → IntsAre vs ns → ns.length ≤ n → s₁.gens = #[] →
      codeAny (model l.prog w) callerA (.call (.ref fa) ⟨[.ref a], []⟩) (fun r s' => r = .ok (.ret (.bool true)) ∧ OldK s₁.heap s'.heap ∧ s'.os = s₁.os ∧ AllBare s'.gens) s₁) :
    WalkO q loose XP YP l.row.toRowW d [] (fun f vs => PySem.call f vs) := by
  intro w s₀ s₁ mg mb G Y fa o pm cd doc dV kV ho hd hcd hD hmg hg args vals as hpre hlay hrd hwl hlo
  obtain rfl : dV = .none := Dflts.none hD hdf
  obtain rfl : kV = .none := Dflts.noKw hD
  obtain ⟨a, vs, ns, rfl, rfl, hobj, hints, hlen⟩ := script_of hn hpre hwl
  refine enter_call (codeAny_mono (call w s₀ s₁ mg mb fa o pm cd doc a vs ns G Y ho (fd_plain hd) hcd hmg hobj hints hlen hg) fun r s' hq => ?_)
  obtain ⟨rfl, h2, h3, h4⟩ := hq
  exact ⟨.inl ⟨.bool true, .bool true, [], rfl, fun _ => rfl, .bool true, post_true l _, fun _ => ⟨List.Pairwise.nil, fun _ hm => (nomatch hm)⟩⟩, h2, h3, h4⟩

/-! ### rules over ANY heap (no ledger) from facts about the written part K: the library's own take a ledger (News) for what they write -/
section
variable {prog : Program} {w : World} {A : Around} {E : Value → Shared → Prop} {s : Shared} {K : Frag}

/-! the whole heap as the ledger: makes every rule that writes through a ledger a rule over any heap -/
end
end Att

namespace L2
open PySem PySem.Spec PyProof.Rows

theorem vals_ints : ∀ {vs : List Value} {ns : List Int}, IntsAre vs ns → Vals (ns.map V.int) vs
  | _, _, .nil => .nil
  | _, _, .cons n t h => .cons ⟨t, rfl⟩ (vals_ints h)

end L2

namespace L2
open PySem PySem.Spec PyProof.Rows

end L2

/- THE LAST THEOREM (shape; LID, My.* are yours):
   My.Adr: a structure of the addresses that your layer names (classes, functions); My.Txt K t: a structure (Prop) of the equations over K;
   My.txt_mk : {K} {implicit addresses ..} (e1 : nsIn K mainGlobals "law" = some (some (.ref f))) (e2 : K.lookup f = some ⟨oc, od, .func (fnOf "law" "law" params body scope dV kV doc pm an cdv ct), sl⟩) (e3 : codeIn K cdv "law" = true) .. : ∃ t, My.Txt K t

set_option maxRecDepth 100000 in
set_option maxHeartbeats 0 in
theorem PySem.Challenge.cw_LID_holds : PySem.Challenge.rw_LID.Holds := by
  w_on; o_law; k_head; (case hw => w_witness2)
  k_fill
  refine L2.walk_of (l := PySem.Challenge.rw_LID) (n := 63) (k := 40) (x := "script") (CX := fun w => ..) (sp := fun _ => My.sp_law) rfl (by decide) rfl ⟨rfl, by decide, by decide⟩ (fun w h Y => PySem.W.kIn_of Y) ?F ?S ?C
  case F =>
    intro w mg fa h KX G hmg
    have T : ∃ t, My.Txt (L2.KOf KX) t := by
      dsimp only [L2.KOf]                          -- K must stand as «<heap const> w.params» for k_is
      refine' My.txt_mk ?e1 ?e2 ?e3 ..
      (case e1 => PySem.W.k_is)                    -- in the order: a name -> its address -> its object -> its parts
      (case e2 => PySem.W.k_is)
      ..
    obtain ⟨t, T⟩ := T
    have e0 := hmg.symm.trans (PySem.W.mg_of KX G T.law)
    cases e0                                       -- fa is the law's own address
    exact ⟨_, fun s u => .of_eq rfl, fun base kb nb => My.law_fn T kb nb⟩     -- if «.of_eq rfl» comes too early: refine' ⟨_, ?b, fun base kb nb => My.law_fn T kb nb⟩; exact fun s u => .of_eq rfl
  case S => exact fun w H a ns hl hO hS => ..
  case C => exact ..
(the tactic k_is has no namespace: write k_is) -/

/-! SHORT WORDS over the layer: a def of the text, its body, what a loop and a test want. -/
namespace L2
open PySem PySem.Spec PyProof.Rows

/-! ### the text by places -/
def defArgs (s : Stmt) : Arguments := match s with
  | .FunctionDef _ a _ _ _ _ _ _ _ _ => a
  | _ => { posonlyargs := [], args := [], vararg := none, kwonlyargs := [], kw_defaults := [], kwarg := none, defaults := [] }
def defBody (s : Stmt) : List Stmt := match s with
  | .FunctionDef _ _ b _ _ _ _ _ _ _ => b
  | _ => []
def defScope (s : Stmt) : Scope := match s with
  | .FunctionDef _ _ _ _ _ _ sc _ _ _ => sc
  | _ => { kind := .function, names := [], isGenerator := false, isCoroutine := false }

/-! ### no exception leaves a def -/
abbrev E0 : XK := fun _ _ _ => False
/-! ### a def (or method) of the text as it stands behind the top -/
structure Fun (K : PySem.W.Frag) (x qual : Str) (st : Stmt) (f : Addr) (fd : FuncData) : Prop where
  ex : ∃ (oc : Value) (od : Option Addr) (kV doc pm : Value) (an : Option Addr) (cdv ct : Value) (osl : Array (Option Value)),
    fd = PySem.W.fnOf x qual (defArgs st) (defBody st) (defScope st) .none kV doc pm an cdv ct ∧ K.lookup f = some ⟨oc, od, .func fd, osl⟩ ∧ PySem.W.codeIn K cdv qual = true
  kp : PySem.W.keepIn K (.ref f) = true
section
variable {P : Program} {w : World} {K : PySem.W.Frag} {mg : Str → Option Value} {base : Heap}
/-- how its arguments bind (no defaults): h is «fun _ _ _ _ _ _ us hl => match us, hl with | [_, _], _ => rfl», one _ a parameter -/
theorem Fun.binds {x qual : Str} {st : Stmt} {f : Addr} {fd : FuncData} {ps : List Str} (F : Fun K x qual st f fd)
    (h : ∀ (kV doc pm : Value) (an : Option Addr) (cdv ct : Value) (us : List Value), us.length = ps.length → bindArgs (PySem.W.fnOf x qual (defArgs st) (defBody st) (defScope st) .none kV doc pm an cdv ct) ⟨us, []⟩ = pure (ps.zip us)) : Binds K fd ps [] := by
  obtain ⟨oc, od, kV, doc, pm, an, cdv, ct, osl, rfl, lk, hcd⟩ := F.ex
  exact .all (h kV doc pm an cdv ct)
end
theorem hu_of {A : Around} {k : Nat} (hr : Room k A) : A.units + 1 < cLine := Nat.lt_of_le_of_lt (Nat.add_le_add_left (by decide : 1 ≤ 64) _) hr.units
/-! ### expressions in short: the name that stands in the i-th slot -/
section
variable {X : Cx}
theorem pv (i : Nat) {x : Str} {pos : Pos} (hN : X.N[i]? = some x := by rfl) (hv : Vis X.env.scope x := by first | exact Or.inl rfl | exact Or.inr (Or.inl rfl) | exact Or.inr (Or.inr rfl)) (hd : (x == ("__debug__" : Str)) = false := by decide)
    (hcd : (x == ("__classdict__" : Str)) = false := by decide) : PE X (.Name x pos) (tVar i) := pe_var hN hv hd hcd
end

/-! ### tests -/
theorem iteF {A B : Prop} (h : B) : if false = true then A else B := by
  rw [if_neg Bool.false_ne_true]
  exact h
theorem iteT {A B : Prop} (h : A) : if true = true then A else B := by
  rw [if_pos rfl]
  exact h
/-! ### heaps -/
/-- all that was tracked is as it was -/
def Same (H H' : Hp) : Prop := ∀ b o, H b = some o → H' b = some o
theorem Same.refl (H : Hp) : Same H H := fun _ _ h => h
theorem Same.trans {H H1 H2 : Hp} (a : Same H H1) (b : Same H1 H2) : Same H H2 := fun c o h => b c o (a c o h)
end L2
namespace L2
open PySem PySem.Spec PyProof.Rows
section
variable {X : Cx}
end
/-! ### a dict's pairs: keys that differ -/
section
variable {κ : Type} [DecidableEq κ]
end
end L2

set_option Elab.async false
set_option linter.all false
set_option maxRecDepth 100000
/-! own errors: raised, passed on, caught -/
namespace L2
open PySem PySem.Spec PyProof.Rows

theorem ObjOk.ex {P : Program} {w : World} {H : Hp} {h : Heap} {a : Addr} {o : HO} (x : ObjOk P w H h a o) : ∃ ob, h.get? a = some ob := by
  cases o with
  | lst xs => obtain ⟨_, _, _, _, e⟩ := x; exact ⟨_, e⟩
  | tup xs => obtain ⟨_, _, _, ob, e, _⟩ := x; exact ⟨_, e⟩
  | dK kvs => obtain ⟨_, _, _, _, o, _, _, e, _⟩ := x; exact ⟨_, e⟩
  | dT kvs => obtain ⟨_, _, _, _, o, _, _, e, _⟩ := x; exact ⟨_, e⟩
  | set S n => obtain ⟨o, _, _, _, e, _⟩ := x; exact ⟨_, e⟩
  | ins C dx fs => obtain ⟨_, _, _, e, _⟩ := x; exact ⟨_, e⟩
  | own y => exact x
  | xd fs => obtain ⟨_, ⟨_, _, _, e, _⟩, _⟩ := x; exact ⟨_, e⟩
  | rng lo hi => obtain ⟨_, _, _, e⟩ := x; exact ⟨_, e⟩
  | frz ob u => obtain ⟨e, _⟩ := x; exact ⟨_, e⟩
  | tbl ps => exact ⟨_, (show h.get? a = some _ from x)⟩
  | met f y => exact ⟨_, (show h.get? a = some _ from x)⟩
  | ext φ => obtain ⟨_, e, _⟩ := x; exact e

/-- an error of the class cls flies at e, its trace at T -/
def FlyAt (h : Heap) (e T : Addr) (cls : Value) : Prop :=
  ∃ oe vs oT ts a0, h.get? e = some oe ∧ oe.cls = cls ∧ oe.data = .fields vs ∧ vs[0]? = some a0 ∧ vs[1]? = some (.ref T) ∧ T ≠ e ∧ h.get? T = some oT ∧ oT.data = .fields ts ∧ ts[3]? = some .none

/-- what lies behind a call that raises -/
def CXE (P : Program) (w : World) : CXT := fun outer H s E e s' =>
  ∃ a T cls H', e = .ref a ∧ FlyAt s'.heap a T cls ∧ s.heap.get? a = none ∧ s.heap.get? T = none ∧ H' a = none ∧ H' T = none ∧ s'.os = s.os ∧ AllBare s'.gens ∧
    Un (frs outer) [] H H' s.heap s'.heap ∧ HOk P w H' s'.heap ∧ E cls none H'

theorem passE0 {P : Program} {w : World} {X : Cx} : Passes (CXE P w) X E0 := fun _ _ _ _ _ _ _ ⟨_, _, _, _, _, _, _, _, _, _, _, _, _, _, h⟩ => h.elim

section
variable {X : Cx} {pins : List (Addr × Obj)} {σ : St} {H : Hp} {s : Shared}

/-- the frame's own step: everything but the frames and ys is as it was, the frames up to slots -/
theorem left_core {E : XK} {a : Addr} {cls a0 : Value} {ys : List Addr} {h'' : Heap} (I : Inv X pins σ H s) (hex : X.ex = []) (hstk : X.stack = X.env :: X.outer)
    (hys : ∀ y ∈ ys, H y = none ∧ X.s₀.heap.get? y = none) (ha : H a = none) (ha0 : X.s₀.heap.get? a = none)
    (fl : Heap.FlyingW (PySem.W.hideAll s.heap (frs X.stack ++ ys)) X.outer a cls a0 h'') (up : ∀ b ∈ frs X.stack, ∀ o, s.heap.get? b = some o → (∀ vs, o.data ≠ .fields vs) → ∃ sl, h''.get? b = some { o with slots := sl }) (hE : E cls none H) :
    CXE X.prog X.w X.outer X.H₀ X.s₀ E (.ref a) { s with heap := h'' } := by
  obtain ⟨f1, f2, f3, oe, vs, T, oT, ts, t1, ⟨t2, t3⟩, t4, t5, t6, t7, t8, t9, t10⟩ := fl
  have nex : ∀ b : Addr, b ∉ X.ex := fun b hb => by rw [hex] at hb; cases hb
  have inB : ∀ b o, s.heap.get? b = some o → b ∉ frs X.stack → b ∉ ys → h''.get? b = some o := fun b o e n1 n2 =>
    f1 b o (PySem.W.hideAll_get _ e fun hm => (List.mem_append.mp hm).elim n1 n2)
  have fr : ∀ b ∈ frs X.stack, ∃ o, s.heap.get? b = some o ∧ ∀ vs, o.data ≠ .fields vs := fun b hb => (I.stack.mem hb).2
  have old : ∀ b o, X.s₀.heap.get? b = some o → b ∉ ys := fun b o e hb => by rw [(hys b hb).2] at e; cases e
  have notF : ∀ b, b ∈ frs X.stack → b ∈ X.env.locals :: X.fs := I.stkSub
  have neL : ∀ b o, X.s₀.heap.get? b = some o → b ≠ X.env.locals := fun b o e => Nat.ne_of_lt (Nat.lt_of_lt_of_le (Heap.lt_size e) I.ok.above)
  have noT : ∀ o, s.heap.get? T = some o → T ∉ ys → False := fun o e n2 => by
    by_cases hf : T ∈ frs X.stack
    · obtain ⟨o2, e2, d2⟩ := fr T hf
      obtain ⟨sl, e3⟩ := up T hf o2 e2 d2
      rw [t8] at e3
      cases e3
      exact d2 _ t9
    · have := PySem.W.hideAll_get (frs X.stack ++ ys) e fun hm => (List.mem_append.mp hm).elim hf n2
      rw [t6] at this
      cases this
  refine ⟨a, T, cls, H, rfl, ⟨oe, vs, oT, ts, a0, t1, t2, t4, t3, t5, t7, t8, t9, t10⟩, ha0, ?_, ha, ?_, I.os, I.bare, ⟨fun b o e n hb hx => ?_, fun b o e n hb hx => ?_, fun b o e n hx => I.base.free b o e n (nex b), fun b o e hx => ?_, I.base.tups, I.base.frzs, I.base.tbls⟩, fun b o e => ?_, hE⟩
  · cases q : X.s₀.heap.get? T with
    | none => rfl
    | some o =>
      obtain ⟨o', e'⟩ := I.base.there T o q (nex T)
      exact (noT o' e' (old T o q)).elim
  · cases q : H T with
    | none => rfl
    | some u =>
      obtain ⟨ob, e⟩ := (I.hok T u q).ex
      exact (noT ob e fun hm => by rw [(hys T hm).1] at q; cases q).elim
  · refine inB b o (I.base.keep b o e n hb (nex b)) (fun hm => ?_) (old b o e)
    rcases List.mem_cons.mp (notF b hm) with z | z
    · exact neL b o e z
    · exact hb z
  · obtain ⟨sl, e1⟩ := I.base.slot b o e n hb (nex b)
    have hm : b ∈ frs X.stack := by rw [hstk]; unfold frs; rw [List.filterMap_cons]; split <;> first | exact hb | exact List.mem_cons_of_mem _ hb
    obtain ⟨o2, e2, d2⟩ := fr b hm
    rw [e1] at e2
    cases e2
    obtain ⟨sl', e3⟩ := up b hm _ e1 d2
    exact ⟨sl', e3⟩
  · obtain ⟨o', e1⟩ := I.base.there b o e (nex b)
    by_cases hm : b ∈ frs X.stack
    · obtain ⟨o2, e2, d2⟩ := fr b hm
      obtain ⟨sl', e3⟩ := up b hm _ e2 d2
      exact ⟨_, e3⟩
    · exact ⟨o', inB b o' e1 hm (old b o e)⟩
  · refine (I.hok b o e).stay (fun c u hc q => inB c u q (fun hm => ?_) fun hm => ?_) (fun _ q => q) fun _ _ q => q
    · have z := I.stkFree c hm
      rcases hc with rfl | hc
      · rw [e] at z; cases z
      · rw [hc] at z; cases z
    · have z := (hys c hm).1
      rcases hc with rfl | hc
      · rw [e] at z; cases z
      · rw [hc] at z; cases z

theorem hide_frames (I : Inv X pins σ H s) (ys : List Addr) : s.heap.FunFrames (PySem.W.hideAll s.heap (frs X.stack ++ ys)) X.stack :=
  PySem.W.funFrames_hide I.stack fun env he a hf => List.mem_append_left _ (List.mem_filterMap.mpr ⟨env, he, hf⟩)
end

/-- an error that is made right here -/
def Takes (X : Cx) (E : XK) : Prop := ∀ (pins : List (Addr × Obj)) (σ : St) (H : Hp) (s : Shared) (h' : Heap) (a : Addr) (cls : Value) (args : List Value),
  Inv X pins σ H s → Heap.MadeExcOf s.heap h' a cls args → E cls none H → X.xe (.ref a) { s with heap := h' }

/-- a body of a frame of its own: an error leaves it -/
structure Fram (X : Cx) (E : XK) : Prop where
  ex : X.ex = []
  stk : X.stack = X.env :: X.outer
  fr : X.env.frame = some X.env.locals
  xe : ∀ e s', wpAny (model X.prog X.w) X.A (leaving X.env e) (fun _ s'' => CXE X.prog X.w X.outer X.H₀ X.s₀ E e s'') (fun e' s'' => CXE X.prog X.w X.outer X.H₀ X.s₀ E e' s'') s' → X.xe e s'
theorem fram_of {P : Program} {w : World} {K : PySem.W.Frag} {mg : Str → Option Value} {base : Heap} {N : List Str} {qual : Str} {scope : Scope} {f : Addr} {cd : Value} {A : Around} {outer : List Env} {s : Shared} {H : Hp} {E : XK} :
    Fram (cxOf (CXE P w) P w K mg base N qual scope f cd A outer s H E) E := ⟨rfl, rfl, rfl, fun _ _ h => h⟩

section
variable {X : Cx} {E : XK}
theorem takes_gen (F : Fram X E) : Takes X E := by
  intro pins σ H1 s1 h' a cls args I hx hE
  have nex : ∀ b : Addr, b ∉ X.ex := fun b hb => by rw [F.ex] at hb; cases hb
  refine F.xe _ _ ?_
  have ff : s1.heap.FunFrames (PySem.W.hideAll s1.heap (frs X.stack ++ [])) (X.env :: X.outer) := by
    have z := hide_frames I []
    rw [F.stk] at z ⊢
    exact z
  refine wpAny_leaves_madeW (s := { s1 with heap := h' }) (h := s1.heap) (base := PySem.W.hideAll s1.heap (frs X.stack ++ [])) (by rw [← F.stk]; exact I.ok.frames) F.fr
    (fun b o q => PySem.W.of_hideAll _ q) ff hx fun h'' t fl _ _ up => ?_
  refine left_core (s := s1) (ys := []) I F.ex F.stk (fun y hy => nomatch hy) ?_ ?_ fl (fun b _ o e d => ?_) hE
  · cases q : H1 a with
    | none => rfl
    | some u =>
      obtain ⟨ob, e⟩ := (I.hok a u q).ex
      have := hx.new
      rw [e] at this
      cases this
  · cases q : X.s₀.heap.get? a with
    | none => rfl
    | some o =>
      obtain ⟨o', e'⟩ := I.base.there a o q (nex a)
      have := hx.new
      rw [e'] at this
      cases this
  · exact up b o (hx.keeps b o e) d

theorem passes_gen (F : Fram X E) : Passes (CXE X.prog X.w) X E := by
  intro pins σ H1 s1 e s' I h
  obtain ⟨a, T, cls, H', rfl, ⟨oe, vs, oT, ts, a0, t1, t2, t3, t4, t5, t6, t7, t8, t9⟩, n1, n2, ha, hT, os, bare, un, hok, hE⟩ := h
  have nex : ∀ b : Addr, b ∉ X.ex := fun b hb => by rw [F.ex] at hb; cases hb
  have I' : Inv X pins σ H' s' := I.call' os un hok bare fun b hb => nomatch hb
  have old : ∀ b, s1.heap.get? b = none → X.s₀.heap.get? b = none := fun b hb => by
    cases q : X.s₀.heap.get? b with
    | none => rfl
    | some o =>
      obtain ⟨o', e'⟩ := I.base.there b o q (nex b)
      rw [hb] at e'
      cases e'
  refine F.xe _ _ ?_
  have ff : s'.heap.FunFrames (PySem.W.hideAll s'.heap (frs X.stack ++ [a, T])) (X.env :: X.outer) := by
    have z := hide_frames I' [a, T]
    rw [F.stk] at z ⊢
    exact z
  refine wpAny_leaves_onW (base := PySem.W.hideAll s'.heap (frs X.stack ++ [a, T])) (cls := cls) (a0 := a0) (by rw [← F.stk]; exact I.ok.frames) F.fr
    ⟨fun b o q => PySem.W.of_hideAll _ q, PySem.W.hideAll_none _ (List.mem_append_right _ (by simp)), ff, oe, vs, T, oT, ts, t1, ⟨t2, t4⟩, t3, t5, PySem.W.hideAll_none _ (List.mem_append_right _ (by simp)), t6, t7, t8, t9⟩
    fun h'' fl up => ?_
  refine left_core I' F.ex F.stk (fun y hy => ?_) ha (old a n1) fl (fun b _ o e d => up b o e d) hE
  rcases List.mem_cons.mp hy with rfl | hy
  · exact ⟨ha, old _ n1⟩
  · obtain rfl := List.mem_singleton.mp hy
    exact ⟨hT, old _ n2⟩
end

section
variable {X : Cx}
/-- the error class at C, right below others of the program's own and ValueError -/
structure Err (K : PySem.W.Frag) (C : Addr) : Prop where
  ex : PySem.W.excIn K C [.type "ValueError", .type "Exception", .type "BaseException", .type "object"] "ValueError.__new__" = true

def tRaise (C : Addr) (E : XK) (t : TA) : TS := fun _ σ H => t σ H fun vs H1 => vs.length ≤ sizeLine ∧ E (.ref C) none H1
/-- raise C(e, ..) -/
theorem ps_raise {C : Addr} {x : Str} {np cpos pos : Pos} {e₀ : Expr} {rest : List Expr} {t : TA} {E : XK} (T : Takes X E) (hc : X.calm = true) (hg : Gl X x) (hm : X.mg x = some (.ref C)) (hC : Err X.K C) (ha : PA X (e₀ :: rest) t)
    (he : starEach (e₀ :: rest) X.env = (false, eval e₀ X.env) :: starEach rest X.env := by rfl) (hpl : (backTo cpos (starEach rest X.env)).any (·.1) = false := by rfl) (hdb : (x == ("__debug__" : Str)) = false := by decide) :
    PS X (.Raise (some (.Call (.Name x np) (e₀ :: rest) [] cpos)) none pos) (tRaise C E t) := by
  intro pins s σ H D I h
  have q := hC.ex
  have O : ∃ bm N nm q bs hdct sn sub ab col dd k0 k1 k2 k3 k5 mN, X.base.get? C = some (excClassObj nm q C N bs bm hdct sn sub ab col dd k0 k1 k2 k3 k5 "ValueError.__new__") ∧ X.base.Ns N mN ∧ mN "__init__" = none ∧
      OwnTail X.base [.type "ValueError", .type "Exception", .type "BaseException", .type "object"] bm := by
    have KX := I.mod.kin
    unfold PySem.W.excIn at q
    split at q
    · rename_i dd cd sl ho
      split at q
      · rename_i C' bm k0 k1 k2 k3 n k5 hm hs
        simp only [Bool.and_eq_true, beq_iff_eq, Bool.not_eq_true'] at q
        obtain ⟨⟨⟨⟨⟨rfl, rfl⟩, hdel⟩, ht⟩, hok⟩, hni⟩ := q
        obtain ⟨nm, bs, mro, ns, qn, hd, sn, sub, ab, col, del⟩ := cd
        dsimp only at hm hdel hok hni
        subst hm hdel
        have hsl : sl = #[k0, k1, k2, k3, some (.builtin "ValueError.__new__"), k5] := by
          obtain ⟨l⟩ := sl
          simp only at hs
          rw [hs]
        subst hsl
        exact ⟨bm, ns, nm, qn, bs, hd, sn, sub, ab, col, dd, k0, k1, k2, k3, k5, _, KX _ _ ho, .of_isNs (PySem.W.isNs_of_in KX hok), PySem.W.nsMap_none_of_in KX hok hni, PySem.W.tail_of_in KX ht⟩
      · cases q
    · cases q
  obtain ⟨tl, Nn, nm, qq, bs, hdct, sn, sub, ab, col, dd, k0, k1, k2, k3, k5, mN, h1, h2, h3, h4⟩ := O
  refine wpAny_Raise_call_subT (C := C) (nm := nm) (q := qq) (N := Nn) (bs := bs) (bm := tl) (hdct := hdct) (sn := sn) (sub := sub) (ab := ab) (col := col) (dd := dd) (k0 := k0) (k1 := k1) (k2 := k2) (k3 := k3) (k5 := k5)
    PySem.F.excBase_ValueError (mN := mN) (h4.hasType PySem.F.excBase_ValueError.hasBase) (I.ok.hd hc) (by rw [he]; show (false || (backTo cpos (starEach rest X.env)).any (·.1)) = false; rw [hpl]; rfl) h3 ?_
  refine ld_glob I hg hm ⟨rfl, ?_⟩ (hd := hdb)
  have w1 := ha cpos pins s σ H _ I h
  rw [he] at w1 ⊢
  refine Calls.evalArgs_plain (wpAny_mono w1 (fun us s2 q2 => ?_) fun _ _ y => y)
  obtain ⟨vs, H', I2, rv, hl, hE⟩ := q2
  refine ⟨rfl, ?_, I2.bk _ _ h1, h2.keeps I2.bk, h4.keeps I2.bk, fun h' e hm => T pins σ H' s2 h' e (.ref C) _ I2 hm hE⟩
  show us.length ≤ sizeLine
  rw [← rv.length]
  exact hl
end
end L2

set_option Elab.async false
set_option linter.all false
set_option maxRecDepth 100000
/-! try .. except C as n -/
namespace L2
open PySem PySem.Spec PyProof.Rows
section
variable {X : Cx} {pins : List (Addr × Obj)} {σ : St} {H H' : Hp} {s : Shared} {h' : Heap}

/-- as Inv.step, where the records at ch were not there at the entry -/
theorem Inv.stepN {t' : Nat} {ch : List Addr} (I : Inv X pins σ H s)
    (hch : ∀ b ∈ ch, X.s₀.heap.get? b = none ∧ b ≠ X.env.locals ∧ (∀ x c, X.env.cells.lookup x = some c → c ≠ b) ∧ ∀ p ∈ X.pn ++ pins, p.1 ≠ b)
    (keep : ∀ b o, b ≠ X.env.locals → b ∉ X.fs → b ∉ ch → s.heap.get? b = some o → H b = none → h'.get? b = some o)
    (slot : ∀ b o, b ≠ X.env.locals → b ∈ X.fs → b ∉ ch → s.heap.get? b = some o → H b = none → ∃ sl, h'.get? b = some { o with slots := sl })
    (there : ∀ b o, b ∉ ch → s.heap.get? b = some o → ∃ o', h'.get? b = some o')
    (ns : ∀ m, s.heap.Ns X.env.locals m → h'.Ns X.env.locals m) (hok : HOk X.prog X.w H h') :
    Inv X pins σ H { s with heap := h', toks := t' } := by
  have neL : ∀ b o, X.s₀.heap.get? b = some o → b ≠ X.env.locals := fun b o e => Nat.ne_of_lt (Nat.lt_of_lt_of_le (Heap.lt_size e) I.ok.above)
  have neC : ∀ b o, X.s₀.heap.get? b = some o → b ∉ ch := fun b o e hb => by
    have z := (hch b hb).1
    rw [e] at z
    cases z
  have cellK : ∀ x c, X.env.cells.lookup x = some c → ∀ v, s.heap.IsCell c v → h'.IsCell c v := fun x c e v ⟨o, ho, hd⟩ => by
    have nch : c ∉ ch := fun z => (hch c z).2.2.1 x c e rfl
    by_cases hc : c ∈ X.fs
    · obtain ⟨sl, q⟩ := slot c o (I.cne x c e) hc nch ho (I.freeC x c e)
      exact ⟨_, q, hd⟩
    · exact ⟨o, keep c o (I.cne x c e) hc nch ho (I.freeC x c e), hd⟩
  refine ⟨I.ok, I.os, I.bare, ⟨fun b o e n hb hx => ?_, fun b o e n hb hx => ?_, I.base.free, fun b o e hx => ?_, I.base.tups, I.base.frzs, I.base.tbls⟩, ?_, fun x c e => ?_, I.free, I.freeC, fun p hp => ?_, hok, I.len⟩
  · exact keep b o (neL b o e) hb (neC b o e) (I.base.keep b o e n hb hx) (I.base.free b o e n hx)
  · obtain ⟨sl, e1⟩ := I.base.slot b o e n hb hx
    obtain ⟨sl', e2⟩ := slot b _ (neL b o e) hb (neC b o e) e1 (I.base.free b o e n hx)
    exact ⟨sl', e2⟩
  · obtain ⟨o', e1⟩ := I.base.there b o e hx
    exact there b o' (neC b o e) e1
  · obtain ⟨m, hn, hl⟩ := I.loc
    refine ⟨m, ns m hn, fun i x v e1 e2 e3 => ?_⟩
    obtain ⟨u, r, l⟩ := hl i x v e1 e2 e3
    refine ⟨u, r, ?_⟩
    rcases l with l | ⟨k, c, e, z⟩
    · exact .inl l
    · exact .inr ⟨k, c, e, cellK x c e _ z⟩
  · obtain ⟨v, z⟩ := I.cell x c e
    exact ⟨v, cellK x c e v z⟩
  · obtain ⟨e, n, ne, nf, d⟩ := I.pin p hp
    have nch : p.1 ∉ ch := fun z => (hch p.1 z).2.2.2 p hp rfl
    exact ⟨keep p.1 p.2 ne nf nch e n, n, ne, nf, d⟩

/-- an error as an object of the abstract heap: its class -/
def excO (a : Addr) (cls : Value) : HO := .ext fun h => ∃ o vs, h.get? a = some o ∧ o.cls = cls ∧ o.data = .fields vs
theorem excO_ok {P : Program} {w : World} {H : Hp} {h : Heap} {a : Addr} {cls : Value} {o : Obj} {vs : Array Value} (e : h.get? a = some o) (hc : o.cls = cls) (hd : o.data = .fields vs) : ObjOk P w H h a (excO a cls) :=
  ⟨⟨o, vs, e, hc, hd⟩, ⟨o, e⟩, fun _ _ ⟨o, vs, e, r⟩ k => ⟨o, vs, k o e, r⟩⟩

/-- an untracked record of ours becomes tracked -/
theorem Inv.track {a : Addr} {o : HO} (I : Inv X pins σ H s) (hn : H a = none) (h0 : X.s₀.heap.get? a = none) (hL : a ≠ X.env.locals) (hc : ∀ x c, X.env.cells.lookup x = some c → c ≠ a) (hp : ∀ p ∈ X.pn ++ pins, p.1 ≠ a)
    (new : ObjOk X.prog X.w (upd H a o) s.heap a o) : Inv X pins σ (upd H a o) s := by
  refine ⟨I.ok, I.os, I.bare, ⟨I.base.keep, I.base.slot, fun b u e n hx => ?_, I.base.there, fun b xs e => ?_, fun b u xs e => ?_, fun b ps e => ?_⟩, I.loc, I.cell, ?_, fun x c e => ?_, fun p q => ?_, fun b u e => ?_, I.len⟩
  · rw [upd_ne fun z => by rw [z, h0] at e; cases e]
    exact I.base.free b u e n hx
  · have q := I.base.tups b xs e
    rw [upd_ne (ne_of_none q hn)]
    exact q
  · have q := I.base.frzs b u xs e
    rw [upd_ne (ne_of_none q hn)]
    exact q
  · obtain ⟨m, q⟩ := I.base.tbls b ps e
    exact ⟨m, by rw [upd_ne (ne_of_none q hn)]; exact q⟩
  · rw [upd_ne hL.symm]
    exact I.free
  · rw [upd_ne (hc x c e)]
    exact I.freeC x c e
  · obtain ⟨e, n, r⟩ := I.pin p q
    exact ⟨e, by rw [upd_ne (hp p q)]; exact n, r⟩
  · by_cases hb : b = a
    · subst hb
      rw [upd_same] at e
      cases e
      exact new
    · rw [upd_ne hb] at e
      exact (I.hok b u e).stay (fun c v _ q => q) (fun c q => by rw [upd_ne (ne_of_none q hn)]; exact q) fun c xs q => by rw [upd_ne (ne_of_none q hn)]; exact q
end

/-- other pins that every state bears, another wish about errors -/
abbrev Cx.alt (X : Cx) (pn : List (Addr × Obj)) (xe : Value → Shared → Prop) : Cx := { X with pn := pn, xe := xe }
abbrev Cx.marked (X : Cx) (v : Value) (xe : Value → Shared → Prop) : Cx := { X with A := X.A.mark (some v), calm := false, xe := xe }
section
variable {X : Cx} {pins : List (Addr × Obj)} {σ : St} {H H' : Hp} {s : Shared}
theorem Inv.toAlt (I : Inv X pins σ H s) (xe : Value → Shared → Prop) : Inv (X.alt (X.pn ++ pins) xe) [] σ H s :=
  ⟨⟨I.ok.mod, I.ok.kind, I.ok.glob, I.ok.blt, I.ok.above, I.ok.inj, I.ok.has, I.ok.cab, I.ok.hd, I.ok.frames, I.ok.stk, I.ok.exf, I.ok.bs, I.ok.bsz, I.ok.noex, I.ok.exfs, I.ok.funs, I.ok.frf⟩, I.os, I.bare, I.base, I.loc, I.cell, I.free, I.freeC,
    fun p hp => I.pin p (by simpa using hp), I.hok, I.len⟩
theorem Inv.ofAlt {xe : Value → Shared → Prop} {pins2 : List (Addr × Obj)} (I : Inv (X.alt (X.pn ++ pins) xe) pins2 σ H s) : Inv X pins σ H s :=
  ⟨⟨I.ok.mod, I.ok.kind, I.ok.glob, I.ok.blt, I.ok.above, I.ok.inj, I.ok.has, I.ok.cab, I.ok.hd, I.ok.frames, I.ok.stk, I.ok.exf, I.ok.bs, I.ok.bsz, I.ok.noex, I.ok.exfs, I.ok.funs, I.ok.frf⟩, I.os, I.bare, I.base, I.loc, I.cell, I.free, I.freeC,
    fun p hp => I.pin p (List.mem_append_left _ hp), I.hok, I.len⟩
theorem Inv.toMarked (I : Inv X pins σ H s) (v : Value) (xe : Value → Shared → Prop) : Inv (X.marked v xe) pins σ H s :=
  ⟨⟨I.ok.mod, I.ok.kind, I.ok.glob, I.ok.blt, I.ok.above, I.ok.inj, I.ok.has, I.ok.cab, (fun z => nomatch z), I.ok.frames, I.ok.stk, I.ok.exf, I.ok.bs, I.ok.bsz, I.ok.noex, I.ok.exfs, I.ok.funs, I.ok.frf⟩, I.os, I.bare, I.base, I.loc, I.cell, I.free, I.freeC,
    I.pin, I.hok, I.len⟩
theorem Inv.ofMarked {v : Value} {xe : Value → Shared → Prop} (I : Inv (X.marked v xe) pins σ H s) (hh : X.A.handled = none) : Inv X pins σ H s :=
  ⟨⟨I.ok.mod, I.ok.kind, I.ok.glob, I.ok.blt, I.ok.above, I.ok.inj, I.ok.has, I.ok.cab, fun _ => hh, I.ok.frames, I.ok.stk, I.ok.exf, I.ok.bs, I.ok.bsz, I.ok.noex, I.ok.exfs, I.ok.funs, I.ok.frf⟩, I.os, I.bare, I.base, I.loc, I.cell, I.free, I.freeC,
    I.pin, I.hok, I.len⟩

/-- a name goes -/
theorem name_goes {n : Str} {i : Nat} {pos : Pos} {E : Value → Shared → Prop} {M : Model} {A : Around} {Q : Unit → Shared → Prop} (I : Inv X pins σ H s) (hN : X.N.Nodup) (hi : X.N[i]? = some n) (hl : X.env.scope.names.lookup n = some .local)
    (h : ∀ s', Inv X pins (σ.set i none) H s' → Q () s') : wpAny M A (do bindName X.env n .none; unbindBehindTheSuite X.env n pos) Q E s := by
  have hp : (X.env.scope.kind == .class || (X.env.scope.kind == .module && X.env.locals != X.env.globals)) = false := by rw [I.ok.kind]; rfl
  have hk : X.env.kindOf n = some .local := hl
  refine wpAny_bind (wpAny_bindName (store_ok (v := V.non) I hN hi (.inl hl) rfl (fun s1 I1 => ?_) (.inr hl)))
  unfold unbindBehindTheSuite
  refine wpAny_onRaise ?_
  unfold unbindName
  refine wpAny_bind (wpAny_point (wpAny_bind ?_))
  unfold deleteName
  simp only [hk, hp]
  rw [if_neg (by decide)]
  obtain ⟨m, hn, hloc⟩ := id I1.loc
  obtain ⟨u, ru, lk⟩ := hloc i n V.non hi (by rw [List.getElem?_set_self (by rw [I.len]; exact (List.getElem?_eq_some_iff.mp hi).1)]) (.inl hl)
  have hmn : (m n).isSome = true := by
    rcases lk with ⟨_, e⟩ | ⟨z, _⟩
    · rw [e]; rfl
    · have z' : X.env.scope.names.lookup n = some .cell ∨ X.env.scope.names.lookup n = some .free := z
      rcases z' with z' | z' <;> (rw [hl] at z'; cases z')
  refine wpAny_bind (wpAny_nsDel_keeps hn fun h' v hn' hs => ?_)
  rw [hmn]
  simp only [Bool.not_true, Bool.false_eq_true, if_false]
  refine wpAny_pure (wpAny_point (h _ ?_))
  obtain ⟨oL, _, _, hoL, _⟩ := id hn
  have kp : ∀ b o, b ≠ X.env.locals → s1.heap.get? b = some o → h'.get? b = some o := fun b o hb e => (hs.2 b hb).trans e
  refine ⟨I1.ok, I1.os, I1.bare, ⟨fun b o e n hb hx => ?_, fun b o e n hb hx => ?_, I1.base.free, fun b o e hx => ?_, I1.base.tups, I1.base.frzs, I1.base.tbls⟩, ⟨_, hn', fun j y w e1 e2 e3 => ?_⟩, fun y c e => ?_, I1.free, I1.freeC, fun p hp => ?_, fun b ob e => ?_, ?_⟩
  · exact kp b o (Nat.ne_of_lt (Nat.lt_of_lt_of_le (Heap.lt_size e) I1.ok.above)) (I1.base.keep b o e n hb hx)
  · obtain ⟨sl, e1⟩ := I1.base.slot b o e n hb hx
    exact ⟨sl, kp b _ (Nat.ne_of_lt (Nat.lt_of_lt_of_le (Heap.lt_size e) I1.ok.above)) e1⟩
  · obtain ⟨o', e1⟩ := I1.base.there b o e hx
    exact ⟨o', kp b _ (Nat.ne_of_lt (Nat.lt_of_lt_of_le (Heap.lt_size e) I1.ok.above)) e1⟩
  · by_cases hj : j = i
    · subst hj
      rw [List.getElem?_set] at e2
      simp only [if_true] at e2
      split at e2 <;> cases e2
    · rw [List.getElem?_set_ne (Ne.symm hj)] at e2
      obtain ⟨u', r', q⟩ := hloc j y w e1 (by rw [List.getElem?_set_ne (Ne.symm hj)]; exact e2) e3
      refine ⟨u', r', ?_⟩
      rcases q with ⟨k, e⟩ | ⟨k, c, e, z⟩
      · refine .inl ⟨k, ?_⟩
        have : y ≠ n := fun e => hj (nodup_ix hN e1 (e ▸ hi))
        simp only [this, if_false]
        exact e
      · exact .inr ⟨k, c, e, z.sameBut hs (I1.cne y c e)⟩
  · obtain ⟨w', z⟩ := I1.cell y c e
    exact ⟨w', z.sameBut hs (I1.cne y c e)⟩
  · obtain ⟨e, n, ne, nf, d⟩ := I1.pin p hp
    exact ⟨kp p.1 p.2 ne e, n, ne, nf, d⟩
  · refine (I1.hok b ob e).stay (fun c w' hc q => kp c w' ?_ q) (fun _ q => q) fun _ _ q => q
    rintro rfl
    have z := I1.free
    rcases hc with rfl | hc
    · rw [e] at z; cases z
    · rw [hc] at z; cases z
  · rw [List.length_set]
    exact I.len

/-- the frames were looked at and the record of the error at a, T was written: all else is as it was -/
theorem Inv.looked {a T : Addr} {cls : Value} {h5 : Heap} {t' : Nat} (I : Inv X pins σ H s) (hstk : X.stack = X.env :: X.outer) (F : FlyAt s.heap a T cls) (ha : H a = none) (hT : H T = none) (f1 : X.s₀.heap.get? a = none) (f2 : X.s₀.heap.get? T = none)
    (hpn : ∀ p ∈ X.pn ++ pins, p.1 ≠ a ∧ p.1 ≠ T) (st : (PySem.W.hideAll s.heap (frs X.stack ++ [a, T])).StaysIn h5) (up : s.heap.UpToSlots h5) :
    Inv X pins σ H { s with heap := h5, toks := t' } := by
  obtain ⟨oe, vs, oT, ts, a0, t1, t2, t3, t4, t5, t6, t7, t8, t9⟩ := F
  have two : ∀ b, b ∈ [a, T] → b = a ∨ b = T := fun b hb => by simpa using hb
  have recd : ∀ b, b ∈ [a, T] → ∃ o vs, s.heap.get? b = some o ∧ o.data = .fields vs := fun b hb => by
    rcases two b hb with rfl | rfl
    · exact ⟨_, _, t1, t3⟩
    · exact ⟨_, _, t7, t8⟩
  have inB : ∀ b o, s.heap.get? b = some o → b ∉ frs X.stack → b ∉ [a, T] → h5.get? b = some o := fun b o e n1 n2 =>
    st b o (PySem.W.hideAll_get _ e fun hm => (List.mem_append.mp hm).elim n1 n2)
  have fr : ∀ b ∈ frs X.stack, ∃ o, s.heap.get? b = some o ∧ ∀ vs, o.data ≠ .fields vs := fun b hb => (I.stack.mem hb).2
  have inS : ∀ b ∈ X.fs, b ∈ frs X.stack := fun b hb => by rw [hstk]; unfold frs; rw [List.filterMap_cons]; split <;> first | exact hb | exact List.mem_cons_of_mem _ hb
  refine I.stepN (ch := [a, T]) (fun b hb => ⟨?_, ?_, fun x c e z => ?_, fun p hp => ?_⟩) (fun b o hL hb hc e n => ?_) (fun b o hL hb hc e n => ?_) (fun b o hc e => ?_) (fun m hm => up.ns hm) fun b u e => ?_
  · rcases two b hb with rfl | rfl
    · exact f1
    · exact f2
  · obtain ⟨o, ws, e, d⟩ := recd b hb
    rintro rfl
    obtain ⟨m, ⟨o', es, ep, e', d', _⟩, _⟩ := I.loc
    rw [e] at e'
    cases e'
    rw [d] at d'
    cases d'
  · obtain ⟨o, ws, e1, d⟩ := recd b hb
    obtain ⟨v, o', e', d'⟩ := I.cell x c e
    rw [z, e1] at e'
    cases e'
    rw [d] at d'
    cases d'
  · rcases two b hb with rfl | rfl
    · exact (hpn p hp).1
    · exact (hpn p hp).2
  · exact inB b o e (fun hm => (List.mem_cons.mp (I.stkSub b hm)).elim hL hb) hc
  · obtain ⟨o2, e2, d2⟩ := fr b (inS b hb)
    rw [e] at e2
    cases e2
    exact up b o e d2
  · by_cases hm : b ∈ frs X.stack
    · obtain ⟨o2, e2, d2⟩ := fr b hm
      obtain ⟨sl, q⟩ := up b o2 e2 d2
      exact ⟨_, q⟩
    · exact ⟨o, inB b o e hm hc⟩
  · refine (I.hok b u e).stay (fun c v hc q => inB c v q (fun hm => ?_) fun hm => ?_) (fun _ q => q) fun _ _ q => q
    · have z := I.stkFree c hm
      rcases hc with rfl | hc
      · rw [e] at z; cases z
      · rw [hc] at z; cases z
    · have z : H c = none := by
        rcases two c hm with rfl | rfl
        · exact ha
        · exact hT
      rcases hc with rfl | hc
      · rw [e] at z; cases z
      · rw [hc] at z; cases z

/-- the wish of a try's body, and its handler's reading -/
def tTry (K : PySem.W.Frag) (C : Addr) (i n : Nat) (tb : XK → TS) (th : TS) : TS := fun D σ H =>
  tb (fun cls _ H' => PySem.W.exmOne K cls (.ref C) = some true ∧ ∀ a, H' a = none →
    th { nx := fun σ2 H2 => D.nx (σ2.set i none) H2, rt := D.rt, bk := fun σ2 H2 => D.bk (σ2.set i none) H2, ct := fun σ2 H2 => D.ct (σ2.set i none) H2 } ((List.replicate n none).set i (some (.ref a))) (upd H' a (excO a cls))) D σ H
theorem ps_try {body suite : List Stmt} {b₀ : Stmt} {x nm : Str} {np hpos pos : Pos} {C : Addr} {i : Nat} {tb : XK → TS} {th : TS} (hc : X.calm = true) (hex : X.ex = []) (hstk : X.stack = X.env :: X.outer) (hfr : X.env.frame = some X.env.locals)
    (hg : Gl X x) (hm : X.mg x = some (.ref C)) (hN : X.N.Nodup) (hi : X.N[i]? = some nm) (hl : X.env.scope.names.lookup nm = some .local)
    (hb : ∀ (E : XK) (pn : List (Addr × Obj)) (xe : Value → Shared → Prop), Passes (CXE X.prog X.w) (X.alt pn xe) E → PSs (X.alt pn xe) body (tb E))
    (hs : ∀ v : Value, PSs (X.marked v fun _ _ => False) (b₀ :: suite) th) (hdb : (x == ("__debug__" : Str)) = false := by decide) :
    PS X (.Try body [.ExceptHandler (some (.Name x np)) (some nm) (b₀ :: suite) hpos] [] [] pos) (tTry X.K C i X.N.length tb th) := by
  intro pins s σ H D I h
  refine wpAny_Try_except ?_
  have hpass : Passes (CXE X.prog X.w) (X.alt (X.pn ++ pins) fun e s' => ∃ a T cls σ' H', e = .ref a ∧ Inv X pins σ' H' s' ∧ FlyAt s'.heap a T cls ∧ H' a = none ∧ H' T = none ∧ X.s₀.heap.get? a = none ∧ X.s₀.heap.get? T = none ∧
      (∀ p ∈ X.pn ++ pins, p.1 ≠ a ∧ p.1 ≠ T) ∧ PySem.W.exmOne X.K cls (.ref C) = some true ∧ ∀ a, H' a = none →
    th { nx := fun σ2 H2 => D.nx (σ2.set i none) H2, rt := D.rt, bk := fun σ2 H2 => D.bk (σ2.set i none) H2, ct := fun σ2 H2 => D.ct (σ2.set i none) H2 } ((List.replicate X.N.length none).set i (some (.ref a))) (upd H' a (excO a cls)))
      (fun cls _ H' => PySem.W.exmOne X.K cls (.ref C) = some true ∧ ∀ a, H' a = none →
    th { nx := fun σ2 H2 => D.nx (σ2.set i none) H2, rt := D.rt, bk := fun σ2 H2 => D.bk (σ2.set i none) H2, ct := fun σ2 H2 => D.ct (σ2.set i none) H2 } ((List.replicate X.N.length none).set i (some (.ref a))) (upd H' a (excO a cls))) := by
    intro pins2 σ2 H2 s2 e s' I2 q
    obtain ⟨a, T, cls, H', rfl, fl, n1, n2, ha, hT, os, bare, un, hok, hE⟩ := q
    have I3 := I2.call' os un hok bare fun b hb => nomatch hb
    have frs0 : ∀ b, s2.heap.get? b = none → X.s₀.heap.get? b = none := fun b hb => by
      cases q : X.s₀.heap.get? b with
      | none => rfl
      | some o =>
        obtain ⟨o', e'⟩ := I2.base.there b o q (by show b ∉ X.ex; rw [hex]; simp)
        rw [hb] at e'
        cases e'
    have pn : ∀ b, s2.heap.get? b = none → ∀ p ∈ X.pn ++ pins, p.1 ≠ b := fun b hb p hp z => by
      have := (I2.pin p (List.mem_append_left _ hp)).1
      rw [z, hb] at this
      cases this
    exact ⟨a, T, cls, σ2, H', rfl, I3.ofAlt, fl, ha, hT, frs0 a n1, frs0 T n2, fun p hp => ⟨pn a n1 p hp, pn T n2 p hp⟩, hE⟩
  refine wpAny_mono (hb _ (X.pn ++ pins) _ hpass [] s σ H D (I.toAlt _) h) (fun f s1 q => ?_) (fun e s1 q => ?_)
  · cases f with
    | next => obtain ⟨σ', H', I', q⟩ := q; exact wpAny_execs_nil ⟨σ', H', I'.ofAlt, q⟩
    | brk => obtain ⟨σ', H', I', q⟩ := q; exact ⟨σ', H', I'.ofAlt, q⟩
    | cont => obtain ⟨σ', H', I', q⟩ := q; exact ⟨σ', H', I'.ofAlt, q⟩
    | ret u => obtain ⟨v, σ', H', I', q⟩ := q; exact ⟨v, σ', H', I'.ofAlt, q⟩
  · obtain ⟨a, T, cls, σ', H', rfl, I1, F1, ha, hT, f1, f2, hpn, hx, hh⟩ := q
    obtain ⟨oe, vs, oT, ts, a0, t1, t2, t3, t4, t5, t6, t7, t8, t9⟩ := id F1
    have hfrm : X.A.frames = some (X.env :: X.outer) := by rw [← hstk]; exact I1.ok.frames
    have ff : s1.heap.FunFrames (PySem.W.hideAll s1.heap (frs X.stack ++ [a, T])) (X.env :: X.outer) := by
      have z := hide_frames I1 [a, T]
      rw [hstk] at z ⊢
      exact z
    have fl0 : Heap.FlyingW (PySem.W.hideAll s1.heap (frs X.stack ++ [a, T])) (X.env :: X.outer) a cls a0 s1.heap :=
      ⟨fun b o q => PySem.W.of_hideAll _ q, PySem.W.hideAll_none _ (List.mem_append_right _ (by simp)), ff, oe, vs, T, oT, ts, t1, ⟨t2, t4⟩, t3, t5, PySem.W.hideAll_none _ (List.mem_append_right _ (by simp)), t6, t7, t8, t9⟩
    refine wpAny_looks_onW hfrm hfr fl0 fun h4 held up4 => ?_
    refine wpAny_landsW held fun h5 fl5 up5 => ?_
    have up15 : s1.heap.UpToSlots h5 := up4.trans up5
    have I5 : Inv X pins σ' H' { s1 with heap := h5 } := I1.looked (t' := s1.toks) hstk F1 ha hT f1 f2 hpn fl5.1 up15
    obtain ⟨oe5, vs5, e5, c5, d5, _⟩ := fl5.first
    refine wpAny_handleBy_cons (codeAny_handlers_test ?_) (by intro q; cases q)
    refine ld_glob (X := X.marked (.ref a) fun _ _ => False) (I5.toMarked (.ref a) _) hg hm ?_ (hd := hdb)
    have LT : PySem.W.Looks (model X.prog X.w) h5 (typeOf (.ref a)) cls := by
      subst c5
      exact (PySem.W.Looks.ld e5).andThen .now
    refine (PySem.W.exm_one (M := model X.prog X.w) I5.kIn LT hx).here ?_
    show codeAny _ _ (.handlers (.ref a) [.ExceptHandler none (some nm) (b₀ :: suite) hpos] X.env) _ _
    refine codeAny_handlers_suite_as ?_
    refine lands_againW fl5 fun h6 fl6 up6 => ?_
    have up16 : s1.heap.UpToSlots h6 := up15.trans up6
    have I6 : Inv X pins σ' H' { s1 with heap := h6 } := I1.looked (t' := s1.toks) hstk F1 ha hT f1 f2 hpn fl6.1 up16
    obtain ⟨oe6, vs6, e6, c6, d6, _⟩ := fl6.first
    have aL : a ≠ X.env.locals := by
      rintro rfl
      obtain ⟨m, ⟨o', es, ep, e', d', _⟩, _⟩ := I1.loc
      rw [t1] at e'
      cases e'
      rw [t3] at d'
      cases d'
    have aC : ∀ x c, X.env.cells.lookup x = some c → c ≠ a := fun x c e z => by
      obtain ⟨v, o', e', d'⟩ := I1.cell x c e
      rw [z, t1] at e'
      cases e'
      rw [t3] at d'
      cases d'
    refine store_ok2 (X := X.marked (.ref a) fun _ _ => False) (v := V.ref a) (I6.toMarked (.ref a) fun _ _ => False) hN hi (.inl hl) rfl (fun s7 I7 sb => ?_) (.inr hl)
    have e7 : s7.heap.get? a = some oe6 := by
      obtain ⟨b, hs, hb⟩ := sb
      rw [hs.2 a ?_]
      · exact e6
      · rcases hb with rfl | hb
        · exact aL
        · exact (aC _ _ hb).symm
    have I8 : Inv (X.marked (.ref a) fun _ _ => False) pins ((List.replicate X.N.length none).set i (some (.ref a))) H' s7 := I7.weak (by rw [List.length_set, List.length_set, List.length_replicate]; exact I1.len.symm) fun j v e => by
      by_cases hj : j = i
      · subst hj
        rw [List.getElem?_set] at e ⊢
        simp only [if_true, List.length_replicate] at e ⊢
        split at e
        · rename_i hlt
          rw [if_pos (by rw [I1.len]; exact hlt)]
          exact e
        · cases e
      · rw [List.getElem?_set_ne (Ne.symm hj), List.getElem?_replicate] at e
        split at e <;> cases e
    have I9 := I8.track (o := excO a cls) ha f1 aL aC (fun p hp => (hpn p hp).1) (excO_ok e7 c6 d6)
    refine wpAny_mono (hs (.ref a) pins s7 _ _ _ I9 (hh a ha)) (fun f s8 q8 => ?_) (fun _ _ z => z.elim)
    have hnd := I.ok.hd hc
    cases f with
    | next => obtain ⟨σ8, H8, J, q⟩ := q8; exact name_goes (J.ofMarked hnd) hN hi hl fun s9 J9 => ⟨_, _, J9, q⟩
    | brk => obtain ⟨σ8, H8, J, q⟩ := q8; exact name_goes (J.ofMarked hnd) hN hi hl fun s9 J9 => ⟨_, _, J9, q⟩
    | cont => obtain ⟨σ8, H8, J, q⟩ := q8; exact name_goes (J.ofMarked hnd) hN hi hl fun s9 J9 => ⟨_, _, J9, q⟩
    | ret u => obtain ⟨v, σ8, H8, J, q⟩ := q8; exact name_goes (J.ofMarked hnd) hN hi hl fun s9 J9 => ⟨v, _, _, J9, q⟩
end
end L2

set_option Elab.async false
set_option linter.all false
set_option maxRecDepth 100000
/-! lambdas without parameters, that read names of the frame around them -/
namespace L2
open PySem PySem.Spec PyProof.Rows

/-- a code object in the abstract heap: its name -/
def codeO (a : Addr) (q : Str) : HO := .ext fun h => ∃ o vs t, h.get? a = some o ∧ o.data = .fields vs ∧ vs[1]? = some (.str q t)
theorem codeO_ok {P : Program} {w : World} {H : Hp} {h : Heap} {a : Addr} {q : Str} (e : h.CodeRec (.ref a) q) : ObjOk P w H h a (codeO a q) := by
  obtain ⟨c, o, vs, t, e1, e2, e3, e4⟩ := e
  cases e1
  exact ⟨⟨o, vs, t, e2, e3, e4⟩, ⟨o, e2⟩, fun _ _ ⟨o, vs, t, e, r⟩ k => ⟨o, vs, t, k o e, r⟩⟩
theorem codeO_rec {P : Program} {w : World} {H : Hp} {h : Heap} {a : Addr} {q : Str} (e : ObjOk P w H h a (codeO a q)) : h.CodeRec (.ref a) q := by
  obtain ⟨⟨o, vs, t, e2, e3, e4⟩, _⟩ := e
  exact ⟨a, o, vs, t, rfl, e2, e3, e4⟩

/-- the table of a def's code: each lambda of it that was met has its code there -/
def TabOk (H : Hp) (P : Addr) (q : Str) : Prop :=
  ∃ ps : Array Value, H P = some (.tbl ps) ∧ TriplesOk ps.toList ∧ ∀ pos cv, codeAmong pos ps.toList = some cv → ∃ a, cv = .ref a ∧ H a = some (codeO a q)

structure Lamb (mg : Str → Option Value) (base : Heap) (c P : Addr) : Prop where
  hd : PySem.W.CodeHd base c P
  bm : ∃ bm ob, mg "__builtins__" = some (.ref bm) ∧ bm ≠ builtinsNs ∧ base.get? bm = some ob ∧ ob.cls = .type "module" ∧ ob.dict = some builtinsNs ∧ ob.data = .plain

theorem triples_snoc {a b : Int} {ta tb : Tok} {c : Value} (l : List Value) (h : TriplesOk l) : TriplesOk (l ++ [.int a ta, .int b tb, c]) := by
  fun_induction TriplesOk l with
  | case1 => simp [TriplesOk]
  | case2 a' t b' u x rest ih => exact ih h
  | case3 => exact h.elim
theorem among_snoc {p : Pos} {a b : Int} {ta tb : Tok} {c cv : Value} (l : List Value) (h : TriplesOk l) (e : codeAmong p (l ++ [.int a ta, .int b tb, c]) = some cv) : codeAmong p l = some cv ∨ cv = c := by
  fun_induction TriplesOk l with
  | case1 =>
    simp only [List.nil_append, codeAmong] at e
    split at e
    · cases e; exact .inr rfl
    · cases e
  | case2 a' t b' u x rest ih =>
    simp only [List.cons_append, codeAmong] at e ⊢
    split at e
    · rename_i q; rw [if_pos q]; exact .inl e
    · rename_i q; rw [if_neg q]; exact ih h e
  | case3 => exact h.elim

section
variable {X : Cx} {pins : List (Addr × Obj)} {σ : St} {H : Hp} {s : Shared}
theorem lam_made {c P : Addr} {q : Str} {params : Arguments} {body : Expr} {scope : Scope} {pos : Pos} {cl : List (Str × Addr)} {Q : Value → Shared → Prop} (I : Inv X pins σ H s) (L : Lamb X.mg X.base c P) (hcode : X.env.code = .ref c) (hq : q = X.env.qual ++ "<lambda>")
    (hdef : defaultsOf params X.env = ([], [])) (hcl : closureFor scope X.env = pure cl) (T : TabOk H P q)
    (h : ∀ f c' pm ctv H' s', Inv X pins σ H' s' → s'.heap.get? f = some (PySem.W.kla_obj "<lambda>" q params body scope cl pm c' ctv) → H' f = none → s.heap.objs.size ≤ f → H' c' = some (codeO c' q) → TabOk H' P q →
      (∀ b o, H b = some o → b ≠ P → H' b = some o) → (∀ b o, s.heap.get? b = some o → b ≠ P → s'.heap.get? b = some o) → Q (.ref f) s') :
    wpAny (model X.prog X.w) X.A (eval (.Lambda params body scope pos) X.env) Q X.xe s := by
  subst hq
  obtain ⟨ps, hP, ht, hc⟩ := T
  obtain ⟨bm, ob, b1, b2, b3, b4, b5, b6⟩ := L.bm
  have hPo : s.heap.get? P = some (PySem.W.tabObj ps) := I.hok P _ hP
  have hg : s.heap.Ns mainGlobals X.mg := I.mod.glob.keeps I.bk
  have hgP : mainGlobals ≠ P := fun z => by
    obtain ⟨o, es, ep, e, hd, _⟩ := hg
    rw [z, hPo] at e
    cases e
    cases hd
  have b3' := I.bk _ _ b3
  have hbG : bm ≠ mainGlobals := fun z => by
    obtain ⟨o, es, ep, e, hd, _⟩ := hg
    rw [z, e] at b3'
    cases b3'
    rw [hd] at b6
    cases b6
  have hbP : bm ≠ P := fun z => by
    rw [z, hPo] at b3'
    cases b3'
    cases b4
  have hB : s.heap.BuiltinsAt X.mg P := ⟨bm, ob, b1, b2, hbG, hbP, b3', b4, b5, b6⟩
  refine PySem.W.kla_eval hdef ?_
  cases ha : codeAmong pos ps.toList with
  | some cv =>
    obtain ⟨c', rfl, hc'⟩ := hc pos cv ha
    refine PySem.W.kla_makeFunctionHit hcl I.ok.glob hg hcode (L.hd.keeps I.bk) hPo ht ha hB fun ctv h' tk k hsz => ?_
    have kp : ∀ b o, s.heap.get? b = some o → (h'.push (PySem.W.kla_obj "<lambda>" (X.env.qual ++ "<lambda>") params body scope cl ((X.mg "__name__").getD .none) c' ctv)).get? b = some o := fun b o e => Heap.get?_push_of_some _ (k b o e)
    exact h h'.objs.size c' _ ctv H _ (I.kept kp) (Heap.get?_push_size _ rfl) (I.hok.fresh hsz) hsz hc' ⟨ps, hP, ht, hc⟩ (fun _ _ e _ => e) fun b o e _ => kp b o e
  | none =>
    refine PySem.W.kla_makeFunction hcl I.ok.glob hg hcode (L.hd.keeps I.bk) hPo ht ha hgP hB fun c' ctv h' tk ext hge hlt hrec htb => ?_
    have kp : ∀ b o, s.heap.get? b = some o → b ≠ P → (h'.push (PySem.W.kla_obj "<lambda>" (X.env.qual ++ "<lambda>") params body scope cl ((X.mg "__name__").getD .none) c' ctv)).get? b = some o := fun b o e n => Heap.get?_push_of_some _ (ext b o n e)
    have hc0 : H c' = none := I.hok.fresh hge
    have ncP : c' ≠ P := fun z => by rw [z, hP] at hc0; cases hc0
    have Hk : ∀ b o, H b = some o → b ≠ P → upd (upd H P (.tbl (ps ++ #[rawInt pos.line, rawInt pos.col, .ref c']))) c' (codeO c' (X.env.qual ++ "<lambda>")) b = some o := fun b o e n => by
      rw [upd_ne (ne_of_none e hc0), upd_ne n]
      exact e
    have HP : upd (upd H P (.tbl (ps ++ #[rawInt pos.line, rawInt pos.col, .ref c']))) c' (codeO c' (X.env.qual ++ "<lambda>")) P = some (.tbl (ps ++ #[rawInt pos.line, rawInt pos.col, .ref c'])) := by
      rw [upd_ne ncP.symm, upd_same]
    have hsz : s.heap.objs.size ≤ h'.objs.size := Nat.le_of_lt (Nat.lt_of_le_of_lt hge hlt)
    refine h h'.objs.size c' _ ctv (upd (upd H P (.tbl (ps ++ #[rawInt pos.line, rawInt pos.col, .ref c']))) c' (codeO c' (X.env.qual ++ "<lambda>"))) _ (I.un (t' := tk) ⟨fun b o e n hb hx => ?_, fun b o e n hb hx => ?_, fun b o e n hx => ?_, fun b o e hx => ?_, fun b xs e => ?_, fun b o u e => ?_, fun b qs e => ?_⟩ fun b u e => ?_) (Heap.get?_push_size _ rfl) ?_ hsz (upd_same) ⟨_, HP, ?_, fun p cv e => ?_⟩ Hk fun b o e n => kp b o e n
    · exact kp b o e fun z => by rw [z, hP] at n; cases n
    · exact ⟨o.slots, kp b o e fun z => by rw [z, hP] at n; cases n⟩
    · have n1 : b ≠ P := fun z => by rw [z, hP] at n; cases n
      have n2 : b ≠ c' := Nat.ne_of_lt (Nat.lt_of_lt_of_le (Heap.lt_size e) hge)
      rw [upd_ne n2, upd_ne n1]
      exact n
    · by_cases z : b = P
      · exact ⟨_, by rw [z]; exact Heap.get?_push_of_some _ htb⟩
      · exact ⟨o, kp b o e z⟩
    · exact Hk b _ e fun z => by rw [z, hP] at e; cases e
    · exact Hk b _ e fun z => by rw [z, hP] at e; cases e
    · by_cases z : b = P
      · subst z
        rw [hP] at e
        cases e
        exact ⟨_, HP⟩
      · exact ⟨#[], by rw [Hk b _ e z]; simp⟩
    · by_cases z1 : b = c'
      · subst z1
        rw [upd_same] at e
        cases e
        exact codeO_ok (hrec.keeps fun b o e => Heap.get?_push_of_some _ e)
      · by_cases z2 : b = P
        · subst z2
          rw [HP] at e
          cases e
          exact (Heap.get?_push_of_some _ htb : _)
        · rw [upd_ne z1, upd_ne z2] at e
          refine (I.hok b u e).stay (fun d v hd q' => kp d v q' fun z => ?_) (fun d q' => Hk d _ q' fun z => by rw [z, hP] at q'; cases q') fun d xs q' => Hk d _ q' fun z => by rw [z, hP] at q'; cases q'
          rcases hd with rfl | hd
          · exact z2 z
          · rw [z, hP] at hd
            cases hd
    · have n2 : h'.objs.size ≠ c' := Nat.ne_of_gt hlt
      have n0 : H h'.objs.size = none := I.hok.fresh hsz
      have n1 : h'.objs.size ≠ P := fun z => by rw [z, hP] at n0; cases n0
      show upd _ _ _ _ = none
      rw [upd_ne n2, upd_ne n1]
      exact n0
    · rw [Array.toList_append]
      exact triples_snoc _ ht
    · rw [Array.toList_append] at e
      rcases among_snoc _ ht e with e | rfl
      · obtain ⟨a, rfl, ha'⟩ := hc p cv e
        exact ⟨a, rfl, Hk a _ ha' fun z => by rw [z, hP] at ha'; cases ha'⟩
      · exact ⟨c', rfl, upd_same⟩
end

/-- the context of a lambda's body -/
def cxLam (P : Program) (w : World) (K : PySem.W.Frag) (mg : Str → Option Value) (base : Heap) (N : List Str) (q : Str) (scope : Scope) (f c' : Addr) (cl : List (Str × Addr)) (A : Around) (outer : List Env) (s : Shared) (H : Hp) (E : XK) : Cx where
  prog := P
  w := w
  K := K
  mg := mg
  base := base
  A := A.deeper (PySem.W.envX q scope s.heap.objs.size f (.ref c') cl)
  N := N
  s₀ := s
  H₀ := H
  env := PySem.W.envX q scope s.heap.objs.size f (.ref c') cl
  outer := outer
  stack := PySem.W.envX q scope s.heap.objs.size f (.ref c') cl :: outer
  ex := []
  calm := true
  fn := fun _ => false
  pn := []
  xe := fun e s' => wpAny (model P w) (A.deeper (PySem.W.envX q scope s.heap.objs.size f (.ref c') cl)) (leaving (PySem.W.envX q scope s.heap.objs.size f (.ref c') cl) e) (fun _ s'' => CXE P w outer H s E e s'') (fun e' s'' => CXE P w outer H s E e' s'') s'
theorem fram_lam {P : Program} {w : World} {K : PySem.W.Frag} {mg : Str → Option Value} {base : Heap} {N : List Str} {q : Str} {scope : Scope} {f c' : Addr} {cl : List (Str × Addr)} {A : Around} {outer : List Env} {s : Shared} {H : Hp} {E : XK} :
    Fram (cxLam P w K mg base N q scope f c' cl A outer s H E) E := ⟨rfl, rfl, rfl, fun _ _ h => h⟩

/-- the lambda's cells as the heap h has them -/
structure CellsOk (N : List Str) (σ : St) (scope : Scope) (cl : List (Str × Addr)) (H : Hp) (fs : List Addr) (h : Heap) : Prop where
  inj : ∀ x y c, cl.lookup x = some c → cl.lookup y = some c → x = y
  has : ∀ x, scope.names.lookup x = some .free → ∃ c, cl.lookup x = some c
  none_ : ∀ y ∈ scope.names, y.2 ≠ .local ∧ y.2 ≠ .cell
  cell : ∀ x c, cl.lookup x = some c → H c = none ∧ c ∉ fs ∧ ∃ v, h.IsCell c v
  val : ∀ (i : Nat) (x : Str) (v : V), N[i]? = some x → σ[i]? = some (some v) → scope.names.lookup x = some .free → ∃ u c, RelV v u ∧ cl.lookup x = some c ∧ h.IsCell c (some u)

section
variable {X : Cx} {pins : List (Addr × Obj)} {σ1 : St} {H : Hp} {s : Shared}
theorem lam_call {k : Nat} {N : List Str} {σ : St} {q : Str} {params : Arguments} {body : Expr} {scope : Scope} {f c' : Addr} {cl : List (Str × Addr)} {pm ctv : Value} {te : TE} {Q : VK} {E : XK} (I : Inv X pins σ1 H s) (hh : X.A.handled = none) (hr : Room (k + 1) X.A)
    (ho : s.heap.get? f = some (PySem.W.kla_obj "<lambda>" q params body scope cl pm c' ctv)) (hc' : H c' = some (codeO c' q)) (hk : scope.kind = .function) (hco : scope.isCoroutine = false) (hgen : scope.isGenerator = false)
    (hbind : bindArgs (PySem.W.kla_fn "<lambda>" q params body scope cl pm (.ref c') ctv) ⟨[], []⟩ = pure []) (hlen : σ.length = N.length)
    (C : CellsOk N σ scope cl H (frs X.stack) s.heap) (hx : Passes (CXE X.prog X.w) X E)
    (hb : Room k (X.A.deeper (PySem.W.envX q scope s.heap.objs.size f (.ref c') cl)) → PE (cxLam X.prog X.w X.K X.mg X.base N q scope f c' cl X.A X.stack s H E) body te) (h : te σ H Q) :
    wpAny (model X.prog X.w) X.A (call (.ref f) []) (EP X pins σ1 Q) X.xe s := by
  have hcell : ∀ x ∈ scope.names, x.2 ≠ .cell := fun x hx => (C.none_ x hx).2
  refine wpAny_call (codeAny_mono (R := CR (CXE X.prog X.w) X.stack X.prog X.w H s Q E) ?_ fun r s' hq => ?_)
  · refine PySem.W.kla_callFunE hr.depth ho rfl hco hgen rfl (codeO_rec (I.hok c' _ hc')) ?_
    rw [hbind]
    refine wpAny_pure (wpAny_newFunctionEnv hcell (fun y hy => nomatch hy) (fun h₁ hns hsb => ⟨I.nolimit.fresh _ hsb, ?_⟩) hk)
    show codeAny _ _ (.expr body (PySem.W.envX q scope s.heap.objs.size f (.ref c') cl)) _ _
    have hk₁ : ∀ b o, s.heap.get? b = some o → h₁.get? b = some o := fun b o e => hsb.extBut b o (Nat.ne_of_lt (Heap.lt_size e)) (Heap.get?_push_of_some _ e)
    have vis : ∀ x, Vis scope x → scope.names.lookup x = some .free := fun x hv => by
      rcases hv with z | z | z
      · exact absurd rfl (C.none_ _ (PySem.mem_of_lookup z)).1
      · exact absurd rfl (C.none_ _ (PySem.mem_of_lookup z)).2
      · exact z
    have J : Inv (cxLam X.prog X.w X.K X.mg X.base N q scope f c' cl X.A X.stack s H E) [] σ H { s with heap := h₁, toks := s.toks + ([] : List (Str × Value)).length } := by
      refine ⟨⟨I.ok.mod, hk, rfl, rfl, Nat.le_refl _, C.inj, fun x hx' => ?_, (fun x c z _ => nomatch z), fun _ => hh, Around.frames_deeper I.ok.frames, .inr ⟨rfl, rfl⟩, fun b z => absurd (show b ∈ ([] : List Addr) from z) (by simp), I.bs, Nat.le_trans I.ok.bsz I.sz, fun b _ _ z => absurd (show b ∈ ([] : List Addr) from z) (by simp), fun b z => absurd (show b ∈ ([] : List Addr) from z) (by simp), I.stack, I.stkFree⟩,
        rfl, I.bare, Un.kept hk₁, ⟨_, hns, fun i x v h1 h2 h3 => ?_⟩, fun x c e => ?_, I.hok.fresh (Nat.le_refl _), fun x c e => (C.cell x c e).1, fun p hp => absurd (show p ∈ ([] : List (Addr × Obj)) from hp) (by simp), I.hok.kept hk₁, hlen⟩
      · have hx'' : scope.names.lookup x = some .cell ∨ scope.names.lookup x = some .free := hx'
        rcases hx'' with z | z
        · exact absurd rfl (C.none_ _ (PySem.mem_of_lookup z)).2
        · exact C.has x z
      · obtain ⟨u, c, r, e, ⟨o, e1, e2⟩⟩ := C.val i x v h1 h2 (vis x h3)
        exact ⟨u, r, .inr ⟨.inr (vis x h3), c, e, ⟨o, hk₁ _ _ e1, e2⟩⟩⟩
      · obtain ⟨_, _, v, o, e1, e2⟩ := C.cell x c e
        exact ⟨v, o, hk₁ _ _ e1, e2⟩
    refine PySem.W.kla_codeExpr (wpAny_mono (hb (hr.deeper _) [] _ σ H Q J h) (fun v s' hq => ?_) fun e s' hq => hq)
    obtain ⟨y, H', J', r, q'⟩ := hq
    exact ⟨y, H', J'.os, J'.bare, J'.base, J'.hok, r, q'⟩
  · cases r with
    | error e => exact hx pins σ1 H s e s' I hq
    | ok fl =>
      cases fl with
      | ret u => exact I.after hq
      | next => exact False.elim hq
      | brk => exact False.elim hq
      | cont => exact False.elim hq
end
end L2

set_option Elab.async false
set_option linter.all false
set_option maxRecDepth 100000
/-! the law's own hearing of a deed: heard(lambda: ..) -/
namespace L2
open PySem PySem.Spec PyProof.Rows

/-- a def's call from one state -/
theorem fn_at {CX : CXT} {P : Program} {w : World} {K : PySem.W.Frag} {mg : Str → Option Value} {base : Heap} {k : Nat} {f : Addr} {name qual : Str} {params : Arguments} {body : List Stmt} {scope : Scope} {dV kV doc pm cdv ct oc : Value} {an od : Option Addr}
    {osl : Array (Option Value)} {N ps : List Str} {A : Around} {outer : List Env} {s : Shared} {H : Hp} {args : Args} {us : List Value} {vs : List V} {Q : VK} {E : XK}
    (lk : K.lookup f = some ⟨oc, od, .func (PySem.W.fnOf name qual params body scope dV kV doc pm an cdv ct), osl⟩) (hcd : PySem.W.codeIn K cdv qual = true) (S : FnScope N ps scope)
    (hr : Room (k + 1) A) (e0 : Env0 P w K mg base A outer s H) (hb : BindsTo s (PySem.W.fnOf name qual params body scope dV kV doc pm an cdv ct) args (ps.zip us)) (r : Vals vs us) (hl : vs.length = ps.length)
    (hbody : Room k (A.deeper (envOfC qual scope s.heap.objs.size f cdv)) →
      ∃ t, PSs (cxOf CX P w K mg base N qual scope f cdv A outer s H E) body t ∧ t { nx := fun _ H' => Q .non H', rt := Q } (start N vs) H) :
    codeAny (model P w) A (.call (.ref f) args) (CR CX outer P w H s Q E) s := by
  have KX : K.In s.heap := e0.mod.kin.keeps fun b o e => (e0.bs b o e).1
  have lim : s.heap.NoLimit := e0.mod.nolimit.keeps fun b o e => (e0.bs b o e).1
  have hkind : ∀ y ∈ ps.zip us, scope.names.lookup y.1 = some .local ∨ (scope.names.lookup y.1 = some .cell ∧ ((cellsFrom (s.heap.objs.size + 1) scope.names []).lookup y.1).isSome = true) := fun ⟨n, v⟩ hy => by
    rcases S.par n (List.of_mem_zip hy).1 with q | q
    · exact .inl q
    · exact .inr ⟨q, PySem.W.cellsFrom_some _ _ _ (.inl q)⟩
  refine codeAny_call_function hr.depth (KX _ _ lk) rfl S.co S.gen rfl (PySem.W.codeRec_of KX hcd) (hb _ _ _ _ ?_)
  refine wpAny_newFunctionEnv_cells S.kind hkind fun env he s1 x => ?_
  subst he
  refine ⟨lim.keeps x.toInCall.keep, codeAny_func ?_⟩
  obtain ⟨t, ht, hq⟩ := hbody (hr.deeper _)
  have I : Inv (cxOf CX P w K mg base N qual scope f cdv A outer s H E) [] (start N vs) H s1 := inv_start S hr.hd e0 hl r x
  refine wpAny_mono (ht [] s1 (start N vs) H _ I hq) (fun fl s' hs => ?_) fun e s' hs => hs
  have fin : ∀ {σ' : St} {H' : Hp} {v : V} {u : Value}, Inv (cxOf CX P w K mg base N qual scope f cdv A outer s H E) [] σ' H' s' → RelV v u → Q v H' → CE outer P w H s Q u s' :=
    fun {σ' H' v u} J rv q => ⟨v, H', J.os, J.bare, J.base, J.hok, rv, q⟩
  cases fl with
  | ret u =>
    obtain ⟨v, σ', H', J, rv, q⟩ := hs
    exact fin J rv q
  | next =>
    obtain ⟨σ', H', J, q⟩ := hs
    exact fin (v := V.non) (u := Value.none) J rfl q
  | brk =>
    obtain ⟨_, _, _, q⟩ := hs
    exact False.elim q
  | cont =>
    obtain ⟨_, _, _, q⟩ := hs
    exact False.elim q

/-- the lambda as it stood at the entry of the frame X -/
structure LamAt (X : Cx) (N : List Str) (σ : St) (q : Str) (params : Arguments) (body : Expr) (scope : Scope) (f c' : Addr) (cl : List (Str × Addr)) (pm ctv : Value) : Prop where
  ob : X.s₀.heap.get? f = some (PySem.W.kla_obj "<lambda>" q params body scope cl pm c' ctv)
  un : X.H₀ f = none
  fr : f ∉ X.fs
  code : X.H₀ c' = some (codeO c' q)
  kind : scope.kind = .function
  co : scope.isCoroutine = false
  gen : scope.isGenerator = false
  bind : bindArgs (PySem.W.kla_fn "<lambda>" q params body scope cl pm (.ref c') ctv) ⟨[], []⟩ = pure []
  len : σ.length = N.length
  cells : CellsOk N σ scope cl X.H₀ X.fs X.s₀.heap

def tDeed (i : Nat) (f c' : Addr) (q : Str) (σ : St) (te : TE) : TE := fun σ1 H Q => σ1[i]? = some (some (.ref f)) ∧ H c' = some (codeO c' q) ∧ te σ H Q
section
variable {X : Cx}
/-- deed(): a local name that holds the lambda -/
theorem pe_deed {k i : Nat} {x : Str} {p pos : Pos} {N : List Str} {σ : St} {q : Str} {params : Arguments} {body : Expr} {scope : Scope} {f c' : Addr} {cl : List (Str × Addr)} {pm ctv : Value} {te : TE} {E : XK}
    (L : LamAt X N σ q params body scope f c' cl pm ctv) (hex : X.ex = []) (hcalm : X.calm = true) (hN : X.N[i]? = some x) (hv : Vis X.env.scope x) (hr : Room (k + 1) X.A) (hx : Passes (CXE X.prog X.w) X E)
    (hloc : ∀ x c, cl.lookup x = some c → c < X.s₀.heap.objs.size)
    (hb : ∀ s H, Room k (X.A.deeper (PySem.W.envX q scope s.heap.objs.size f (.ref c') cl)) → PE (cxLam X.prog X.w X.K X.mg X.base N q scope f c' cl X.A X.stack s H E) body te)
    (hd : (x == ("__debug__" : Str)) = false := by decide) (hcd : (x == ("__classdict__" : Str)) = false := by decide) : PE X (.Call (.Name x p) [] [] pos) (tDeed i f c' q σ te) := by
  intro pins s σ1 H Q I h
  obtain ⟨h1, h2, h3⟩ := h
  have nex : ∀ b : Addr, b ∉ X.ex := fun b z => by rw [hex] at z; cases z
  have ho := I.base.keep f _ L.ob L.un L.fr (nex f)
  refine wpAny_Call_Name_kw (thn (pe_var (X := X) hN hv hd hcd pins s σ1 H (fun v H' => v = .ref f ∧ H' = H) I ⟨_, h1, rfl, rfl⟩) fun u s1 ⟨v, H', I1, rv, e, e2⟩ => ?_)
  subst e e2
  obtain rfl : u = Value.ref f := rv
  have ho1 := I1.base.keep f _ L.ob L.un L.fr (nex f)
  have neL : ∀ b, b < X.s₀.heap.objs.size → b ≠ X.env.locals := fun b hb => Nat.ne_of_lt (Nat.lt_of_lt_of_le hb I1.ok.above)
  refine PySem.W.callWith_of (P := fun h => h = s1.heap) rfl (fun h e => ⟨.frame, .inl rfl, by subst e; exact (PySem.W.Looks.ld (part := none) ho1).andThen .now⟩) (PyProof.Rows.evalArgs_nil3 ⟨rfl, ?_⟩)
  refine lam_call I1 (I1.ok.hd hcalm) hr ho1 h2 L.kind L.co L.gen L.bind L.len ?_ hx (hb s1 H') h3
  refine ⟨L.cells.inj, L.cells.has, L.cells.none_, fun x c e => ?_, fun j y v e1 e2 e3 => ?_⟩
  · obtain ⟨a1, a2, v, o, a3, a4⟩ := L.cells.cell x c e
    refine ⟨I1.base.free c o a3 a1 (nex c), fun z => ?_, v, o, I1.base.keep c o a3 a1 a2 (nex c), a4⟩
    rcases List.mem_cons.mp (I1.stkSub c z) with z | z
    · exact neL c (hloc x c e) z
    · exact a2 z
  · obtain ⟨u, c, r, e, o, a3, a4⟩ := L.cells.val j y v e1 e2 e3
    obtain ⟨a1, a2, _⟩ := L.cells.cell y c e
    exact ⟨u, c, r, e, o, I1.base.keep c o a3 a1 a2 (nex c), a4⟩
end
end L2

set_option Elab.async false
set_option linter.all false
set_option maxRecDepth 100000
/-! more rules: numbers of many bits, texts, tuples compared, isinstance, count, index -/
namespace L2
open PySem PySem.Spec PyProof.Rows
section
variable {X : Cx}
theorem big_bits {i : Int} (h : i.natAbs < 2 ^ 2000) : Builtin.Int.intBits i ≤ 2 ^ 20 := Nat.le_trans (intBits_le h) (by decide)
def CBig (i j : Int) : Prop := i.natAbs < 2 ^ 2000 ∧ j.natAbs < 2 ^ 2000
theorem op_mulB : OpR X (binaryOp .Mult) (rI CBig fun i j => .int (i * j)) := opI fun _ _ _ _ _ _ _ hc q => mul_int q (IntMulOk.of_bits (big_bits hc.1) (big_bits hc.2))
/-- a text so many times -/
def repS (x : Str) (n : Nat) : Str := ⟨(List.replicate n x.cps).foldl (· ++ ·) #[]⟩
theorem op_mul_str : OpR X (binaryOp .Mult) (fun x y H Q => ∃ z n, x = .str z ∧ y = .int n ∧ 0 ≤ n ∧ z.length * n.toNat ≤ sizeLine ∧ n < 2 ^ 40 ∧ Q (.str (repS z n.toNat)) H) := by
  intro pins s σ H x y v u Q I rx ry h
  obtain ⟨z, n, rfl, rfl, h0, hl, hn, q⟩ := h
  obtain ⟨t, rfl⟩ := rx
  obtain ⟨t', rfl⟩ := ry
  have hlen : ∀ k : Nat, (repS z k).cps.toList = (List.replicate k z.cps.toList).flatten := fun k => by
    unfold repS
    have : ∀ (l : List (Array Nat)) (acc : Array Nat), (l.foldl (· ++ ·) acc).toList = acc.toList ++ (l.map (·.toList)).flatten := by
      intro l
      induction l with
      | nil => intro acc; simp
      | cons a r ih => intro acc; rw [List.foldl_cons, ih]; simp
    rw [this]
    simp
  refine PySem.P.mul_str ?_ ?_ ?_ ?_
  · rw [decide_eq_false (by omega), decide_eq_false (by omega)]; rfl
  · intro h1 h2 h3
    have : (z.length : Int) * n ≤ 2 ^ 63 - 1 := by
      have e : ((z.length * n.toNat : Nat) : Int) = (z.length : Int) * n := by push_cast; rw [Int.toNat_of_nonneg h0]
      have := line63
      omega
    have := (Int.le_ediv_iff_mul_le (by omega : 0 < n)).mpr this
    omega
  · intro h1 h2
    have := hl
    exact decide_eq_false (Nat.not_lt.mpr hl)
  · by_cases h1 : n < 1
    · rw [if_pos h1]
      have e : repS z n.toNat = Str.empty := by rw [show n = 0 by omega]; rfl
      exact ⟨by decide, .str (repS z n.toNat), H, I.tok _, ⟨_, by rw [e]⟩, q⟩
    · rw [if_neg h1]
      by_cases h2 : (n == 1 || z.length == 0) = true
      · rw [if_pos h2]
        have e : repS z n.toNat = z := by
          have : (repS z n.toNat).cps.toList = z.cps.toList := by
            rw [hlen]
            simp only [Bool.or_eq_true, beq_iff_eq] at h2
            rcases h2 with h2 | h2
            · rw [h2]; simp
            · have : z.cps.toList = [] := by
                have h3 : z.cps.size = 0 := h2
                rw [Array.eq_empty_of_size_eq_zero h3]
              rw [this]; simp
          have : (repS z n.toNat).cps = z.cps := by rw [← Array.toList_inj]; exact this
          cases z
          cases hh : repS _ n.toNat
          rw [hh] at this
          simp only at this
          rw [this]
        exact ⟨.str (repS z n.toNat), H, I, ⟨t, by rw [e]⟩, q⟩
      · rw [if_neg h2]
        refine ⟨?_, .str (repS z n.toNat), H, I.tok _, ⟨_, rfl⟩, q⟩
        show (repS z n.toNat).cps.size ≤ sizeLine
        rw [← Array.length_toList, hlen, List.length_flatten, List.map_replicate, List.sum_replicate_nat]
        have e : z.cps.toList.length = z.length := by rw [Array.length_toList]; rfl
        rw [e, Nat.mul_comm]
        exact hl
theorem call_int_text : CallR X (.type "int") (fun xs H Q => ∃ x n, xs = [.str x] ∧ PySem.intText? x = some n ∧ x.length ≤ 640 ∧ Q (.int n) H) := by
  intro pins s σ H xs us Q I r h
  obtain ⟨x, n, rfl, hn, hl, q⟩ := h
  obtain ⟨u, rfl, t, rfl⟩ := vals1 r
  exact PySem.W.KIN.call_text hn hl ⟨.int n, H, I.tok _, ⟨_, rfl⟩, q⟩

/-! ### tuples compared -/
inductive EqD (K : PySem.W.Frag) (H : Hp) : Nat → V → V → Bool → Prop where
  | flat {n : Nat} {x y : V} (fx : flatV x = true) (fy : flatV y = true) : EqD K H n x y (eqV x y)
  | tup {n : Nat} {a b : Addr} {xs ys : List V} {e : Nat → Bool} (ne : a ≠ b) (ha : SqT K H a xs) (hb : SqT K H b ys) (he : ∀ j x y, xs[j]? = some x → ys[j]? = some y → EqD K H n x y (e j)) :
      EqD K H (n + 1) (.ref a) (.ref b) ((List.range (min xs.length ys.length)).all e && xs.length == ys.length)
theorem tup_items {pins : List (Addr × Obj)} {σ : St} {H : Hp} {s : Shared} {A : Around} {xs ys : List V} {its its2 : List Value} {e : Nat → Bool} {n : Nat} (r1 : Vals xs its) (r2 : Vals ys its2)
    (he : ∀ j x y u v, xs[j]? = some x → ys[j]? = some y → RelV x u → RelV y v → SeqAt.EqAt A s u v (e j)) : ∀ j (h1 : j < its.toArray.size) (h2 : j < its2.toArray.size), SeqAt.EqAt A s its.toArray[j] its2.toArray[j] (e j) := by
  intro j h1 h2
  have l1 := r1.length
  have l2 := r2.length
  rw [List.size_toArray] at h1 h2
  have k1 : xs[j]? = some xs[j] := List.getElem?_eq_getElem (by omega)
  have k2 : ys[j]? = some ys[j] := List.getElem?_eq_getElem (by omega)
  obtain ⟨u, e1, q1⟩ := r1.get k1
  obtain ⟨v, e2, q2⟩ := r2.get k2
  have z1 : its.toArray[j] = u := by
    rw [List.getElem?_eq_getElem h1] at e1
    simpa using Option.some.inj e1
  have z2 : its2.toArray[j] = v := by
    rw [List.getElem?_eq_getElem h2] at e2
    simpa using Option.some.inj e2
  rw [z1, z2]
  exact he j _ _ u v k1 k2 q1 q2
theorem EqD.at {pins : List (Addr × Obj)} {σ : St} {H : Hp} {s : Shared} (I : Inv X pins σ H s) {n : Nat} {x y : V} {k : Bool} (d : EqD X.K H n x y k) : ∀ {A : Around} {u v : Value}, A.units + n < cLine → RelV x u → RelV y v → SeqAt.EqAt A s u v k := by
  induction d with
  | flat fx fy => intro A u v _ rx ry; exact eqAt_V rx ry fx fy
  | @tup n a b xs ys e ne ha hb he ih =>
    intro A u v hu rx ry
    obtain rfl : u = Value.ref a := rx
    obtain rfl : v = Value.ref b := ry
    obtain ⟨its, r1, p1, _⟩ := I.tuple ha
    obtain ⟨its2, r2, p2, _⟩ := I.tuple hb
    have l1 := r1.length
    have l2 := r2.length
    have z := SeqAt.RcAt.tuples (A := A) (s := s) (e := e) p1 p2 (by omega) (tup_items (pins := pins) (σ := σ) (H := H) (n := n) r1 r2 fun j x y u v h1 h2 q1 q2 => ih j x y h1 h2 (A := A.in1) (by show A.units + 1 + n < cLine; omega) q1 q2)
    rw [List.size_toArray, List.size_toArray, ← l1, ← l2] at z
    exact .of_refs ne z
def rEqT (K : PySem.W.Frag) (n : Nat) (neg : Bool) : R2 := fun x y H Q => ∃ a b xs ys e k, x = .ref a ∧ y = .ref b ∧ SqT K H a xs ∧ SqT K H b ys ∧ (∀ j x y, xs[j]? = some x → ys[j]? = some y → EqD K H n x y (e j)) ∧
  ((List.range (min xs.length ys.length)).all e && xs.length == ys.length) = k ∧ Q (.bl (if neg then !k else k)) H
theorem op_eqT {n : Nat} (hu : X.A.units + 1 + n < cLine) : OpR X (compareOp .Eq) (rEqT X.K n false) := by
  intro pins s σ H x y v u Q I rx ry h
  obtain ⟨a, b, xs, ys, e, k, rfl, rfl, ha, hb, he, hk, q⟩ := h
  obtain rfl : v = Value.ref a := rx
  obtain rfl : u = Value.ref b := ry
  obtain ⟨its, r1, p1, _⟩ := I.tuple ha
  obtain ⟨its2, r2, p2, _⟩ := I.tuple hb
  have l1 := r1.length
  have l2 := r2.length
  refine SeqAt.RcAt.tuples (e := e) p1 p2 (by omega) (tup_items (pins := pins) (σ := σ) (H := H) (n := n) r1 r2 fun j x y u v h1 h2 q1 q2 => (he j x y h1 h2).at I (A := X.A.in1) (by show X.A.units + 1 + n < cLine; omega) q1 q2) X.prog X.w X.xe _ ?_
  rw [List.size_toArray, List.size_toArray, ← l1, ← l2, hk]
  exact ⟨.bl k, H, I, rfl, q⟩
theorem op_neT {n : Nat} (hu : X.A.units + 1 + n < cLine) : OpR X (compareOp .NotEq) (rEqT X.K n true) := by
  intro pins s σ H x y v u Q I rx ry h
  obtain ⟨a, b, xs, ys, e, k, rfl, rfl, ha, hb, he, hk, q⟩ := h
  obtain rfl : v = Value.ref a := rx
  obtain rfl : u = Value.ref b := ry
  obtain ⟨its, r1, p1, _⟩ := I.tuple ha
  obtain ⟨its2, r2, p2, _⟩ := I.tuple hb
  have l1 := r1.length
  have l2 := r2.length
  refine SeqAt.RcNeAt.tuples (e := e) p1 p2 (by omega) (tup_items (pins := pins) (σ := σ) (H := H) (n := n) r1 r2 fun j x y u v h1 h2 q1 q2 => (he j x y h1 h2).at I (A := X.A.in1) (by show X.A.units + 1 + n < cLine; omega) q1 q2) X.prog X.w X.xe _ ?_
  rw [List.size_toArray, List.size_toArray, ← l1, ← l2, hk]
  exact ⟨.bl (!k), H, I, rfl, q⟩

/-! ### list.count, list.index over flat items -/
def rCount : V → List V → Hp → VK → Prop := fun x vs H Q => ∃ l xs y, x = .ref l ∧ vs = [y] ∧ H l = some (.lst xs) ∧ flatV y = true ∧ xs.all flatV = true ∧ Q (.int (xs.countP fun z => eqV z y)) H
theorem countP_eqU {y : V} : ∀ {xs : List V} {us : List Value}, Vals xs us → xs.all flatV = true → us.countP (eqU y) = xs.countP fun z => eqV z y
  | _, _, .nil, _ => rfl
  | x :: xs, u :: us, .cons r t, h => by
    rw [List.all_cons, Bool.and_eq_true] at h
    rw [List.countP_cons, List.countP_cons, countP_eqU t h.2, eqU_of r h.1]
theorem mt_count : MtR X "list.count" rCount := by
  intro pins s σ H x vs v us Q I rx rv h
  obtain ⟨l, xs, y, rfl, rfl, hH, fy, fs, q⟩ := h
  obtain rfl : v = Value.ref l := rx
  obtain ⟨u, rfl, ru⟩ := vals1 rv
  obtain ⟨z, its, n, r, hl, e⟩ := I.lstM hH
  refine call_meets PySem.F.slot_list_count ⟨_, e, rfl⟩ PySem.F.entry_list_count (PySem.F.args_list_count_2 _ _) (SeqAt.list_countAt l its.toArray n none #[] u (eqU y)) ⟨e, fun w hw => mem_eqAt ru fy r fs w (by simpa using hw), ?_⟩
  rw [show its.toArray.toList = its from rfl, countP_eqU r fs]
  exact ⟨.int _, H, I.tok _, ⟨_, rfl⟩, q⟩
def rIndex : V → List V → Hp → VK → Prop := fun x vs H Q => ∃ l xs y j, x = .ref l ∧ vs = [y] ∧ H l = some (.lst xs) ∧ flatV y = true ∧ xs.all flatV = true ∧ (∃ z, xs[j]? = some z ∧ eqV z y = true) ∧ (∀ i z, i < j → xs[i]? = some z → eqV z y = false) ∧ Q (.int (j : Nat)) H
theorem mt_index : MtR X "list.index" rIndex := by
  intro pins s σ H x vs v us Q I rx rv h
  obtain ⟨l, xs, y, j, rfl, rfl, hH, fy, fs, ⟨zj, hz, hit⟩, hno, q⟩ := h
  obtain rfl : v = Value.ref l := rx
  obtain ⟨u, rfl, ru⟩ := vals1 rv
  obtain ⟨z, its, n, r, hl, e⟩ := I.lstM hH
  have hj : j < xs.length := (List.getElem?_eq_some_iff.mp hz).1
  have at_ : ∀ (i : Nat) (hi : i < its.toArray.size) (w : V), xs[i]? = some w → eqU y its.toArray[i] = eqV w y := fun i hi w hw => by
    obtain ⟨w', e1, q1⟩ := r.get hw
    have hi' : i < its.length := by simpa using hi
    rw [List.getElem?_eq_getElem hi'] at e1
    have z1 : its.toArray[i] = w' := by simpa using Option.some.inj e1
    rw [z1]
    refine eqU_of q1 ?_
    exact List.all_eq_true.mp fs w (List.mem_of_getElem? hw)
  have hsz : its.toArray.size = xs.length := by rw [List.size_toArray]; exact hl.symm
  refine call_meets PySem.F.slot_list_index ⟨_, e, rfl⟩ PySem.F.entry_list_index (PySem.F.args_list_index_2 _ _)
    (SeqAt.list_indexAt l its.toArray n none #[] u (eqU y) j (by omega) (by have := line63; omega) ?_ ?_) ⟨e, fun w hw => mem_eqAt ru fy r fs w (by simpa using hw), ⟨.int _, H, I.tok _, ⟨_, rfl⟩, q⟩⟩
  · rw [at_ j (by omega) zj hz]; exact hit
  · intro m hm hlt
    have : xs[m]? = some xs[m] := List.getElem?_eq_getElem (by omega)
    rw [at_ m hm _ this]
    exact hno m _ hlt this
end
end L2

set_option Elab.async false
set_option linter.all false
set_option maxRecDepth 100000
/-! isinstance of an own error -/
namespace L2
open PySem PySem.Spec PyProof.Rows

/-- what the written part says of an error class -/
structure ErrK (K : PySem.W.Frag) (C : Addr) : Prop where
  ex : PySem.W.excIn K C [.type "ValueError", .type "Exception", .type "BaseException", .type "object"] "ValueError.__new__" = true
  ga : PySem.W.findIn K (.ref C) "__getattribute__" = some (some (.builtin "BaseException.__getattribute__"))
  gn : PySem.W.findIn K (.ref C) "__getattr__" = some none
  cl : PySem.W.findIn K (.ref C) "__class__" = some (some (.builtin "object.__class__"))
theorem ErrK.err {K : PySem.W.Frag} {C : Addr} (e : ErrK K C) : Err K C := ⟨e.ex⟩
theorem err_obj {K : PySem.W.Frag} {C : Addr} {h : Heap} (KX : K.In h) (e : Err K C) : ∃ bm N nm q bs hdct sn sub ab col dd k0 k1 k2 k3 k5, h.get? C = some (excClassObj nm q C N bs bm hdct sn sub ab col dd k0 k1 k2 k3 k5 "ValueError.__new__") ∧
    OwnTail h [.type "ValueError", .type "Exception", .type "BaseException", .type "object"] bm := by
  have q := e.ex
  unfold PySem.W.excIn at q
  split at q
  · rename_i dd cd sl ho
    split at q
    · rename_i C' bm k0 k1 k2 k3 n k5 hm hs
      simp only [Bool.and_eq_true, beq_iff_eq, Bool.not_eq_true'] at q
      obtain ⟨⟨⟨⟨⟨rfl, rfl⟩, hdel⟩, ht⟩, hok⟩, hni⟩ := q
      obtain ⟨nm, bs, mro, ns, qn, hd, sn, sub, ab, col, del⟩ := cd
      dsimp only at hm hdel hok hni
      subst hm hdel
      have hsl : sl = #[k0, k1, k2, k3, some (.builtin "ValueError.__new__"), k5] := by
        obtain ⟨l⟩ := sl
        simp only at hs
        rw [hs]
      subst hsl
      exact ⟨bm, ns, nm, qn, bs, hd, sn, sub, ab, col, dd, k0, k1, k2, k3, k5, KX _ _ ho, PySem.W.tail_of_in KX ht⟩
    · cases q
  · cases q
section
variable {prog : Program} {w : World} {A : Around} {E : Value → Shared → Prop} {h : Heap} {g : Array GenState} {d : Drawn} {t : Nat} {os : OsState} {K : PySem.W.Frag} {a C : Addr} {o : Obj}
theorem exc_class_get {R : Result → Shared → Prop} (KX : K.In h) (e : ErrK K C) (hx : h.get? a = some o) (hc : o.cls = .ref C) (hq : R (.ok (.ret (.ref C))) ⟨h, g, d, t, os⟩) :
    codeAny (model prog w) A (.call (.builtin "getset_descriptor.__get__") ⟨[.builtin "object.__class__", .ref a, .ref C], []⟩) R ⟨h, g, d, t, os⟩ := by
  obtain ⟨bm, N, nm, q, bs, hdct, sn, sub, ab, col, dd, k0, k1, k2, k3, k5, hC, T⟩ := err_obj KX e.err
  have hT5 : (⟨h, g, d, t, os⟩ : Shared).TypeIs (.builtin "object.__class__") "getset_descriptor" := F.typeOf_object_class
  have hcB : (Value.ref C :: bm).contains (.type (".".intercalate ("object.__class__".cutAt '.').dropLast)) = true := by
    rw [F.owner_object_class, List.contains_cons, T.hasType (X := "object") (b := true) (by decide)]; rfl
  refine codeAny_call_builtin F.slot_gs_get.plain F.entry_gs_get (F.slot_gs_get.check _ _ _ _ _ _ _ _ hT5 (F.args_gs_get _ _ _) ?_)
  repeat (any_goals (first | assumption | (with_reducible refine wpAny_loadPart_at hx ?_; rw [hc]) | (with_reducible refine wpAny_isSubtype_exc hC ?_; rw [hcB]) | wp_step))
  refine ⟨Code.quiet_builtin _ (by decide +kernel), codeAny_builtin F.entry_object_class ?_⟩
  repeat (any_goals (first | assumption | (with_reducible refine wpAny_loadPart_at hx ?_; rw [hc]) | wp_step))
theorem exc_class_entry {tk : Tok} {Q : Fin → Shared → Prop} (KX : K.In h) (e : ErrK K C) (hx : h.get? a = some o) (hc : o.cls = .ref C) (hq : Q (.done (.ret (.ref C))) ⟨h, g, d, t, os⟩) :
    wpAny (model prog w) A (Builtin.«object.__getattribute__» ⟨[.ref a, .str "__class__" tk], []⟩) Q E ⟨h, g, d, t, os⟩ := by
  have L := PySem.W.looks_findIn (M := model prog w) KX e.cl
  have hT5 : (⟨h, g, d, t, os⟩ : Shared).TypeIs (.builtin "object.__class__") "getset_descriptor" := F.typeOf_object_class
  have f5 := F.typeOf_object_class
  have f6 := F.slot_gs_get.lookup
  have f7 := F.slot_gs_set.lookup
  repeat (any_goals (first | assumption | (with_reducible refine wpAny_loadPart_at hx ?_; rw [hc]) | with_reducible refine PySem.W.Looks.at L ?_ | wp_step))
  refine exc_class_get KX e hx hc ?_
  repeat (any_goals (first | assumption | wp_step))
theorem exc_class_check {M : Model} {nameV : Value} {Q : Unit → Shared → Prop} (KX : K.In h) (e : ErrK K C) (hx : h.get? a = some o) (hc : o.cls = .ref C) (hq : Q () ⟨h, g, d, t, os⟩) :
    wpAny M A (checkBuiltinCall "BaseException.__getattribute__" ⟨[.ref a, nameV], []⟩) Q E ⟨h, g, d, t, os⟩ := by
  obtain ⟨bm, N, nm, q, bs, hdct, sn, sub, ab, col, dd, k0, k1, k2, k3, k5, hC, T⟩ := err_obj KX e.err
  have hk : builtinKind "BaseException.__getattribute__" = some .slot := by decide +kernel
  have hsplit : splitId "BaseException.__getattribute__" = some ("BaseException", "__getattribute__") := by decide +kernel
  have hcB : (Value.ref C :: bm).contains (.type "BaseException") = true := by rw [List.contains_cons, T.hasType (X := "BaseException") (b := true) (by decide)]; rfl
  have ha := F.args_bexc_ga (.ref a) nameV
  simp only [checkBuiltinCall, hk, hsplit]
  refine wpAny_bind ?_
  · unfold isInstance
    repeat (first | (with_reducible refine wpAny_loadPart_at hx ?_; rw [hc]) | (with_reducible refine wpAny_isSubtype_exc hC ?_; rw [hcB]) | wp_step)
    exact hq
theorem exc_class_call {tk : Tok} {R : Result → Shared → Prop} (KX : K.In h) (e : ErrK K C) (hx : h.get? a = some o) (hc : o.cls = .ref C) (hq : R (.ok (.ret (.ref C))) ⟨h, g, d, t, os⟩) :
    codeAny (model prog w) A (.call (.builtin "BaseException.__getattribute__") ⟨[.ref a, .str "__class__" tk], []⟩) R ⟨h, g, d, t, os⟩ :=
  codeAny_call_builtin F.excAttr_ValueError.ga.plain F.entry_bexc_ga (exc_class_check KX e hx hc (exc_class_entry KX e hx hc hq))
theorem exc_class_by {tk : Tok} {Q : Value → Shared → Prop} (KX : K.In h) (e : ErrK K C) (hx : h.get? a = some o) (hc : o.cls = .ref C) (hq : Q (.ref C) ⟨h, g, d, t, os⟩) :
    wpAny (model prog w) A (getAttrBy (.ref a) (.str "__class__" tk) false) Q E ⟨h, g, d, t, os⟩ := by
  have L1 := PySem.W.looks_findIn (M := model prog w) KX e.ga
  have L2 := PySem.W.looks_findIn (M := model prog w) KX e.gn
  have f3 := F.excAttr_ValueError.ga.bind (.ref a)
  have hx2 : (Value.builtin "BaseException.__getattribute__" == Value.builtin "object.__getattribute__") = false := by decide +kernel
  have hx1 : (onTheHeap (Value.ref C) && Value.builtin "BaseException.__getattribute__" == Value.builtin "object.__getattribute__") = false := by rw [hx2]; rfl
  repeat (any_goals (first | assumption | (with_reducible refine wpAny_loadPart_at hx ?_; rw [hc]) | with_reducible refine PySem.W.Looks.at L1 ?_ | with_reducible refine PySem.W.Looks.at L2 ?_ | wp_step))
  refine exc_class_call KX e hx hc ?_
  repeat (any_goals (first | assumption | wp_step))
theorem exc_class_attr {Q : Option Value → Shared → Prop} (KX : K.In h) (e : ErrK K C) (hx : h.get? a = some o) (hc : o.cls = .ref C) (hq : Q (some (.ref C)) ⟨h, g, d, t + 1, os⟩) :
    wpAny (model prog w) A (getAttr? (.ref a) "__class__") Q E ⟨h, g, d, t, os⟩ := by
  unfold getAttr? getAttrBy?
  repeat (any_goals (first | assumption | with_reducible apply exc_class_by KX e hx hc | wp_step))
end
theorem kitx_exc {K : PySem.W.Frag} {a C : Addr} (e : ErrK K C) : PySem.W.KitX K (.ref a) (.ref C) (fun h => ∃ o, h.get? a = some o ∧ o.cls = .ref C) where
  ty := fun M h X ⟨o, e1, e2⟩ => by
    rw [← e2]
    exact (PySem.W.Looks.ld e1).andThen .now
  it := fun M h X _ => by
    obtain ⟨bm, N, nm, q, bs, hdct, sn, sub, ab, col, dd, k0, k1, k2, k3, k5, hC, T⟩ := err_obj X e.err
    intro A' Q' E' s' k q
    unfold isType loadHead
    exact wpAny_bind (wpAny_loadPart (k _ _ hC) (wpAny_pure q))
  ne := fun h tp dd its n sl X htp => by
    obtain ⟨bm, N, nm, q, bs, hdct, sn, sub, ab, col, dd, k0, k1, k2, k3, k5, hC, T⟩ := err_obj X e.err
    refine Bool.eq_false_iff.mpr fun q => ?_
    have e : C = tp := Value.ref.inj (beq_iff_eq.mp q)
    subst e
    rw [hC] at htp
    exact absurd (Value.type.inj (congrArg Obj.cls (Option.some.inj htp))) (by decide)
  ca := fun {prog w A E Q s} X ⟨o, e1, e2⟩ k => by
    obtain ⟨h, g, d, t, os⟩ := s
    exact exc_class_attr X e e1 e2 k

section
variable {X : Cx}
/-- a class as a value -/
def isCls : V → Bool
  | .ref _ => true
  | .ty _ => true
  | _ => false
def clsV : V → Value
  | .ref C => .ref C
  | .ty n => .type n
  | _ => .none
theorem clsV_of {c : V} {u : Value} (h : isCls c = true) (r : RelV c u) : u = clsV c := by
  cases c <;> first | exact r | cases h
/-- isinstance(x, c): c a class as a value -/
def rIsi (K : PySem.W.Frag) : List V → Hp → VK → Prop := fun xs H Q => ∃ x c b, xs = [x, c] ∧ isCls c = true ∧ ((∃ t, TyOf K H x t ∧ PySem.W.kitOne K t (clsV c) = some b) ∨ ∃ a C, x = .ref a ∧ H a = some (excO a (.ref C)) ∧ ErrK K C ∧ PySem.W.kitOne K (.ref C) (clsV c) = some b) ∧ Q (.bl b) H
theorem call_isi : CallR X (.builtin "isinstance") (rIsi X.K) := by
  intro pins s σ H xs us Q I r h
  obtain ⟨x, c, b, rfl, hc, hx, q⟩ := h
  obtain ⟨u, u2, rfl, ru, ru2⟩ := vals2 r
  obtain rfl := clsV_of hc ru2
  rcases hx with ⟨t, ty, k⟩ | ⟨a, C, rfl, hH, e, k⟩
  · exact isinst_ok I ru ty k fun tk => ⟨.bl b, H, I.tok tk, rfl, q⟩
  · obtain rfl : u = Value.ref a := ru
    obtain ⟨⟨o, vs, e1, e2, _⟩, _⟩ := (show ObjOk X.prog X.w H s.heap a (excO a (.ref C)) from I.hok a _ hH)
    exact PySem.W.kia_one (kitx_exc e) I.kIn ⟨o, e1, e2⟩ k (fun z => nomatch z) fun tk => ⟨.bl b, H, I.tok tk, rfl, q⟩
end
end L2

set_option Elab.async false
set_option linter.all false
set_option maxRecDepth 100000
/-! the head, where the law's own code has lambdas: the table of its code is tracked -/
namespace L2
open PySem PySem.Spec PyProof.Rows

/-- what is tracked at the law's entry -/
def Only1 (P : Addr) (H : Hp) : Prop := H P = some (.tbl #[]) ∧ ∀ b, b ≠ P → H b = none ∨ ∃ o xs, H b = some (.frz o (.lst xs))

/-- no list of the written part -/
def noLists (K : PySem.W.Frag) : Bool := K.all fun p => match p.2.cls with
  | .type n => !(n == "list")
  | _ => true
theorem noLists_at {K : PySem.W.Frag} {a : Addr} {o : Obj} (h : noLists K = true) (e : K.lookup a = some o) : o.cls ≠ .type "list" := fun z => by
  have q := List.all_eq_true.mp h (a, o) (PySem.W.mem_of_lookupK e)
  dsimp only at q
  rw [z] at q
  exact absurd q (by decide)
theorem law_callT {Pr : Program} {w : World} {K : PySem.W.Frag} {mg mb : Str → Option Value} {CX : CXT} {k : Nat} {fa a c P : Addr} {fd : FuncData} {x : Str} {sp : Sp} {s₁ : Shared} {vs : List Value} {ns : List Int}
    (KX : K.In s₁.heap) (nL : noLists K = true) (nT : PySem.W.noTabs K = true) (hns : s₁.heap.Ns mainGlobals mg) (hb : s₁.heap.Ns builtinsNs mb) (hbb : ∀ x : Str, x ≠ "__name__" → mb x = bootBuiltins x) (hlim : s₁.heap.NoLimit) (hg : s₁.gens = #[])
    (hC : PySem.W.CodeHd s₁.heap c P) (hP : s₁.heap.get? P = some (PySem.W.tabObj #[])) (hbm : ∃ bm ob, mg "__builtins__" = some (.ref bm) ∧ bm ≠ builtinsNs ∧ s₁.heap.get? bm = some ob ∧ ob.cls = .type "module" ∧ ob.dict = some builtinsNs ∧ ob.data = .plain)
    (ha : s₁.heap.get? a = some { cls := .type "list", data := .seq vs.toArray }) (hi : IntsAre vs ns) (hl : ns.length ≤ sizeLine) (hr : Room k callerA)
    (F : ∀ base : Heap, K.In base → base.Ns mainGlobals mg → Lamb mg base c P → FnOk Pr w K mg base CX k fa fd [x] sp) (hbind : ∀ (s : Shared) (u : Value), BindsTo s fd ⟨[u], []⟩ [(x, u)])
    (hsp : ∀ H : Hp, Only1 P H → (∃ o, H a = some (.frz o (.lst (ns.map V.int)))) → sp [.ref a] H (fun v _ => v = .bl true) fun _ _ _ => False)
    (hCX : ∀ H e s', CX [] H s₁ (fun _ _ _ => False) e s' → False) :
    codeAny (model Pr w) callerA (.call (.ref fa) ⟨[.ref a], []⟩) (fun r s' => r = .ok (.ret (.bool true)) ∧ OldK s₁.heap s'.heap ∧ s'.os = s₁.os ∧ AllBare s'.gens) s₁ := by
  have rv := vals_ints hi
  have lenV := hi.length
  have hPa : P ≠ a := fun z => by rw [z, ha] at hP; cases hP
  have hKP : K.lookup P = none := by
    cases q : K.lookup P with
    | none => rfl
    | some o =>
      have e := KX P o q
      rw [hP] at e
      cases e
      have z := List.all_eq_true.mp nT (P, _) (PySem.W.mem_of_lookupK q)
      exact absurd (show false = true from z) Bool.false_ne_true
  have core : ∀ H : Hp, Only1 P H → (∃ o, H a = some (.frz o (.lst (ns.map V.int)))) → HOk Pr w H s₁.heap → (∀ b, H b ≠ none → b = a ∨ b = P) → (H a ≠ none → K.lookup a = none) →
      codeAny (model Pr w) callerA (.call (.ref fa) ⟨[.ref a], []⟩) (fun r s' => r = .ok (.ret (.bool true)) ∧ OldK s₁.heap s'.heap ∧ s'.os = s₁.os ∧ AllBare s'.gens) s₁ := by
    intro H hO hS hok hA hK
    have base_of : ∀ {b : Addr} {o : Obj}, s₁.heap.get? b = some o → H b = none → (hidT s₁.heap H).get? b = some o := fun e n => hidT_get e n
    have noO : ∀ {b : Addr} {o : Obj}, s₁.heap.get? b = some o → (∀ vs n, o.data ≠ .seq vs n) → (o.cls ≠ .none) → H b = none := fun {b o} e d1 d2 => by
      cases q : H b with
      | none => rfl
      | some u =>
        rcases hA b (by rw [q]; simp) with z | z
        · subst z
          rw [ha] at e
          cases e
          exact absurd rfl (d1 _ _)
        · subst z
          rw [hP] at e
          cases e
          exact absurd rfl d2
    have noA : ∀ {b : Addr} {o : Obj} {es : Array DictEntry} {ep : Nat}, s₁.heap.get? b = some o → o.data = .dict es ep → H b = none := fun {b o es ep} e d => by
      cases q : H b with
      | none => rfl
      | some u =>
        rcases hA b (by rw [q]; simp) with z | z
        · subst z
          rw [ha] at e
          cases e
          cases d
        · subst z
          rw [hP] at e
          cases e
          cases d
    have nsK : ∀ {b : Addr} {m : Str → Option Value}, s₁.heap.Ns b m → (hidT s₁.heap H).Ns b m := fun {b m} ⟨o, es, ep, e, d, r⟩ => ⟨o, es, ep, base_of e (noA e d), d, r⟩
    have hKb : K.In (hidT s₁.heap H) := fun b o e => base_of (KX b o e) (by
      cases q : H b with
      | none => rfl
      | some u =>
        rcases hA b (by rw [q]; simp) with z | z
        · subst z
          rw [hK (by rw [q]; simp)] at e
          cases e
        · subst z
          rw [hKP] at e
          cases e)
    have hM : Mod K mg (hidT s₁.heap H) := ⟨hKb, nsK hns, ⟨mb, nsK hb, hbb⟩, let ⟨mc, h1, h2⟩ := hlim; ⟨mc, nsK h1, h2⟩⟩
    have e0 : Env0 Pr w K mg (hidT s₁.heap H) callerA [] s₁ H := ⟨rfl, hM, fun b o e => of_hidT e, Nat.le_of_eq (hidT_size _ _), trivial, fun b hb => absurd (show b ∈ ([] : List Addr) from hb) (by simp), hok, .of_eq hg⟩
    have L : Lamb mg (hidT s₁.heap H) c P := by
      obtain ⟨o, vs', file, tf, flags, tg, inF, text, tt, e1, r1, r2, r⟩ := hC
      obtain ⟨bm, ob, b1, b2, b3, b4, b5, b6⟩ := hbm
      exact ⟨⟨o, vs', file, tf, flags, tg, inF, text, tt, base_of e1 (noO e1 (fun vs n z => by rw [r2] at z; cases z) fun z => by rw [r1] at z; cases z), r1, r2, r⟩,
        ⟨bm, ob, b1, b2, base_of b3 (noO b3 (fun vs n z => by rw [b6] at z; cases z) fun z => by rw [b4] at z; cases z), b4, b5, b6⟩⟩
    refine codeAny_mono ((F _ hKb (nsK hns) L).run callerA [] s₁ H ⟨[.ref a], []⟩ [.ref a] [.ref a] _ _ hr e0 (hbind s₁ (.ref a)) (.cons rfl .nil) (hsp H hO hS)) fun r s' h => ?_
    cases r with
    | error e => exact (hCX H e s' h).elim
    | ok fl =>
      cases fl with
      | next => exact False.elim h
      | brk => exact False.elim h
      | cont => exact False.elim h
      | ret u =>
        obtain ⟨v, H', os, bare, un, hok', r', q⟩ := h
        have q' : v = .bl true := q
        subst q'
        obtain rfl : u = Value.bool true := r'
        have tabK : ∃ ps, s'.heap.get? P = some (PySem.W.tabObj ps) := by
          obtain ⟨more, e⟩ := un.tbls P #[] hO.1
          exact ⟨_, hok' P _ e⟩
        have keep : ∀ b o, b ≠ P → s₁.heap.get? b = some o → s'.heap.get? b = some o := fun b o hbP e => by
          cases q : H b with
          | none => exact un.keep b o e q (by intro z; exact absurd (show b ∈ ([] : List Addr) from z) (by simp)) (by simp)
          | some u =>
            rcases hO.2 b hbP with z | ⟨ob, xs, z⟩
            · rw [q] at z; cases z
            · have z2 := un.frzs b ob _ z
              obtain ⟨e1, _⟩ := hok b _ z
              obtain ⟨e2, _⟩ := hok' b _ z2
              rw [e] at e1; cases e1
              exact e2
        refine ⟨rfl, ⟨fun b o e => ?_, fun b o e => ?_⟩, os, bare⟩
        · by_cases hbP : b = P
          · subst hbP
            rw [hP] at e
            cases e
            obtain ⟨ps, e2⟩ := tabK
            exact .inr (.inl ⟨(hC.tab hP).isCodeTable, rfl, #[], ps, rfl, by rw [Array.empty_append]; exact e2⟩)
          · exact .inl (keep b o hbP e)
        · by_cases hbP : b = P
          · subst hbP
            obtain ⟨ps, e2⟩ := tabK
            exact ⟨_, e2⟩
          · exact ⟨o, keep b o hbP e⟩
  cases hk : K.lookup a with
  | some o =>
    have e := KX a o hk
    rw [ha] at e
    cases e
    exact absurd rfl (noLists_at nL hk)
  | none =>
    refine core (fun b => if b = a then some (.frz { cls := .type "list", data := .seq vs.toArray } (.lst (ns.map V.int))) else if b = P then some (.tbl #[]) else none) ⟨?_, fun b hb => ?_⟩ ⟨{ cls := .type "list", data := .seq vs.toArray }, if_pos rfl⟩ (fun b u z => ?_) (fun b z => ?_) fun _ => hk
    · show (if P = a then _ else if P = P then _ else _) = _
      rw [if_neg hPa, if_pos rfl]
    · by_cases h1 : b = a
      · exact .inr ⟨_, _, if_pos h1⟩
      · exact .inl (by show (if b = a then _ else if b = P then _ else _) = _; rw [if_neg h1, if_neg hb])
    · by_cases h1 : b = a
      · have z' := (if_pos h1).symm.trans z
        cases z'
        subst h1
        exact ⟨ha, by rw [List.length_map]; exact hl, vs, _, rv, ha⟩
      · have z1 := (if_neg h1).symm.trans z
        by_cases hb : b = P
        · subst hb
          have z' := (if_pos rfl).symm.trans z1
          cases z'
          exact hP
        · have z' := (if_neg hb).symm.trans z1
          cases z'
    · by_cases h1 : b = a
      · exact .inl h1
      · by_cases hb : b = P
        · exact .inr hb
        · exact absurd ((if_neg h1).trans (if_neg hb)) z

theorem walk_ofT {l : PySem.W.OpenLaw} {n k : Nat} {q : Program} {loose : List Str} {XP : (Str → Option Value) → Heap → Prop} {YP : World → Heap → Prop} {d d' : DefRec} {K : Params → PySem.W.Frag} {CX : World → CXT} {sp : World → Addr → Sp} {x : Str}
    (hn : l.most = some n) (hn2 : n ≤ sizeLine) (hdf : d.params.defaults = []) (hr : Room k callerA)
    (hY : ∀ (w : World) (h : Heap), YP w h → (K w.params).In h) (nL : ∀ w : World, noLists (K w.params) = true) (nT : ∀ w : World, PySem.W.noTabs (K w.params) = true) (hrec : (recsOf q).find? (fun e => e.name == d.name) = some d')
    (hT : ∀ w : World, ∃ c P, PySem.W.tabIn (K w.params) d.name = some (c, P))
    (F : ∀ (w : World) (mg : Str → Option Value) (fa : Addr) (h : Heap), (K w.params).In h → h.Ns mainGlobals mg → mg d.name = some (.ref fa) →
      ∃ fd : FuncData, (∀ (s : Shared) (u : Value), BindsTo s fd ⟨[u], []⟩ [(x, u)]) ∧
        ∀ (base : Heap) (c P : Addr), PySem.W.tabIn (K w.params) d.name = some (c, P) → (K w.params).In base → base.Ns mainGlobals mg → Lamb mg base c P → FnOk l.prog w (K w.params) mg base (CX w) k fa fd [x] (sp w P))
    (hsp : ∀ (w : World) (H : Hp) (a P : Addr) (ns : List Int), ns.length ≤ n → Only1 P H → (∃ o, H a = some (.frz o (.lst (ns.map V.int)))) → sp w P [.ref a] H (fun v _ => v = .bl true) fun _ _ _ => False)
    (hCX : ∀ (w : World) (H : Hp) (s : Shared) (e : Value) (s' : Shared), CX w [] H s (fun _ _ _ => False) e s' → False) :
    PySem.W.WalkO q loose XP YP l.row.toRowW d [] (fun f vs => PySem.call f vs) := by
  refine Att.attach_call hn hdf fun w s₀ s₁ mg mb fa o pm cd doc a vs ns G Y ho hd hcd hmg hobj hints hlen hg => ?_
  have KX := hY w _ Y
  obtain ⟨fd, hb, hF⟩ := F w mg fa _ KX G.T.g hmg
  obtain ⟨c, P, ht⟩ := hT w
  obtain ⟨hC, hP⟩ := PySem.W.tab_of G.T KX hrec ht
  exact law_callT (c := c) (P := P) (sp := sp w P) KX (nL w) (nT w) G.T.g G.T.b G.T.builtins G.T.nolimit hg hC hP G.T.bmain hobj hints (Nat.le_trans hlen hn2) hr (fun base kb nb L => hF base c P ht kb nb L) hb (fun H hO hS => hsp w H a P ns hlen hO hS) fun H e s' => hCX w H s₁ e s'
end L2

set_option Elab.async false
set_option linter.all false
set_option maxRecDepth 100000
namespace L2
open PySem PySem.Spec PyProof.Rows
section
variable {X : Cx}
end

/-- the cells that a lambda takes along -/
def closOf (cells : List (Str × Addr)) : List (Str × NameKind) → List (Str × Addr) → List (Str × Addr)
  | [], acc => acc
  | (n, k) :: r, acc => closOf cells r (if k == .free then (n, (cells.lookup n).getD 0) :: acc else acc)
theorem clos_go {env : Env} : ∀ (names : List (Str × NameKind)) (acc : List (Str × Addr)), (∀ y ∈ names, y.2 = .free → ∃ c, env.cells.lookup y.1 = some c) →
    (forIn names acc fun x (cs : List (Str × Addr)) => (do
      let (name, kind) := x
      if kind == .free then
        let c ← cellOf env name
        pure (ForInStep.yield ((name, c) :: cs))
      else pure (ForInStep.yield cs) : Sem (ForInStep (List (Str × Addr))))) = pure (closOf env.cells names acc)
  | [], acc, _ => rfl
  | (n, k) :: r, acc, h => by
    rw [List.forIn_cons]
    have ih := fun acc' => clos_go (env := env) r acc' fun y hy => h y (List.mem_cons_of_mem _ hy)
    by_cases hk : k = .free
    · subst hk
      obtain ⟨c, hc⟩ := h (n, .free) List.mem_cons_self rfl
      have hc' : env.cells.lookup n = some c := hc
      show _ = pure (closOf env.cells r (if NameKind.free == NameKind.free then _ else _))
      have e : cellOf env n = pure c := by unfold cellOf; rw [hc']
      simp only [beq_self_eq_true, if_true, e, pure_bind, hc', Option.getD_some]
      exact ih _
    · have hb : (k == NameKind.free) = false := beq_eq_false_iff_ne.mpr hk
      show _ = pure (closOf env.cells r (if k == NameKind.free then _ else _))
      simp only [hb, Bool.false_eq_true, if_false, pure_bind]
      exact ih _
theorem closureFor_eq {scope : Scope} {env : Env} (h : ∀ y ∈ scope.names, y.2 = .free → ∃ c, env.cells.lookup y.1 = some c) : closureFor scope env = pure (closOf env.cells scope.names []) := by
  unfold closureFor
  have := clos_go (env := env) scope.names [] h
  simp only [bind_pure] at this ⊢
  exact this
theorem clos_look {cells : List (Str × Addr)} {x : Str} {c : Addr} : ∀ (names : List (Str × NameKind)) (acc : List (Str × Addr)), (∀ y ∈ names, y.2 = .free → ∃ c, cells.lookup y.1 = some c) → (acc.lookup x = some c → cells.lookup x = some c) →
    (closOf cells names acc).lookup x = some c → cells.lookup x = some c
  | [], _, _, h, e => h e
  | (n, k) :: r, acc, h0, h, e => by
    unfold closOf at e
    refine clos_look r _ (fun y hy => h0 y (List.mem_cons_of_mem _ hy)) (fun e' => ?_) e
    split at e'
    · rename_i hk
      rw [List.lookup_cons] at e'
      split at e'
      · rename_i hx
        have hx' : x = n := eq_of_beq hx
        subst hx'
        obtain ⟨d, hd⟩ := h0 (x, k) List.mem_cons_self (eq_of_beq hk)
        have hd' : cells.lookup x = some d := hd
        rw [hd'] at e' ⊢
        exact e'
      · exact h e'
    · exact h e'
theorem clos_has {cells : List (Str × Addr)} {x : Str} : ∀ (names : List (Str × NameKind)) (acc : List (Str × Addr)), ((∃ c, acc.lookup x = some c) ∨ (x, NameKind.free) ∈ names) → ∃ c, (closOf cells names acc).lookup x = some c
  | [], acc, h => by
    rcases h with h | h
    · exact h
    · cases h
  | (n, k) :: r, acc, h => by
    unfold closOf
    refine clos_has r _ ?_
    rcases h with ⟨c, h⟩ | h
    · refine .inl ?_
      split
      · rw [List.lookup_cons]
        split
        · exact ⟨_, rfl⟩
        · exact ⟨c, h⟩
      · exact ⟨c, h⟩
    · rcases List.mem_cons.mp h with e | h
      · cases e
        refine .inl ?_
        rw [if_pos (by rfl), List.lookup_cons, beq_self_eq_true]
        exact ⟨_, rfl⟩
      · exact .inr h
end L2

set_option Elab.async false
set_option linter.all false
set_option maxRecDepth 100000
namespace L2
open PySem PySem.Spec PyProof.Rows
section
variable {P : Program} {w : World} {K : PySem.W.Frag} {mg : Str → Option Value} {base : Heap}
/-- a def whose errors are told -/
theorem okE {x qual : Str} {st : Stmt} {f : Addr} {fd : FuncData} {N ps : List Str} {k : Nat} {sp : Sp} (F : Fun K x qual st f fd) (S : FnScope N ps (defScope st)) (len : ∀ vs H Q E, sp vs H Q E → vs.length = ps.length)
    (hbody : ∀ (cdv : Value) (A : Around) (outer : List Env) (s : Shared) (H : Hp) (vs : List V) (Q : VK) (E : XK), Room k (A.deeper (envOfC qual (defScope st) s.heap.objs.size f cdv)) → sp vs H Q E →
      ∃ t, PSs (cxOf (CXE P w) P w K mg base N qual (defScope st) f cdv A outer s H E) (defBody st) t ∧ t { nx := fun _ H' => Q .non H', rt := Q } (start N vs) H) : FnOk P w K mg base (CXE P w) (k + 1) f fd ps sp := by
  obtain ⟨oc, od, kV, doc, pm, an, cdv, ct, osl, rfl, lk, hcd⟩ := F.ex
  exact fn_of lk hcd S len fun A outer s H vs Q E hr hsp => hbody cdv A outer s H vs Q E hr hsp
/-- a def that raises nothing -/
theorem okN {x qual : Str} {st : Stmt} {f : Addr} {fd : FuncData} {N ps : List Str} {k : Nat} {sp : Sp} (F : Fun K x qual st f fd) (S : FnScope N ps (defScope st)) (len : ∀ vs H Q E, sp vs H Q E → vs.length = ps.length)
    (hbody : ∀ (cdv : Value) (A : Around) (outer : List Env) (s : Shared) (H : Hp) (vs : List V) (Q : VK) (E : XK), Room k (A.deeper (envOfC qual (defScope st) s.heap.objs.size f cdv)) → sp vs H Q E →
      ∃ t, PSs (cxOf (CXE P w) P w K mg base N qual (defScope st) f cdv A outer s H E).nox (defBody st) t ∧ t { nx := fun _ H' => Q .non H', rt := Q } (start N vs) H) : FnOk P w K mg base (CXE P w) (k + 1) f fd ps sp :=
  okE F S len fun cdv A outer s H vs Q E hr hsp => by
    obtain ⟨t, h, q⟩ := hbody cdv A outer s H vs Q E hr hsp
    exact ⟨t, h.nox, q⟩
end
/-! a display of pairs: behind a veil, else the reading itself is reckoned out -/
structure PEx (X : Cx) (e : Expr) (t : TE) : Prop where
  pe : PE X e t
structure PSx (X : Cx) (e : List Stmt) (t : TS) : Prop where
  ps : PSs X e t
theorem disp2 {X : Cx} {k1 k2 v1 v2 : Expr} {pos pos' : Pos} {t1 t2 u1 u2 : TE} (h1 : PEx X k1 t1) (h2 : PEx X v1 u1) (h3 : PEx X k2 t2) (h4 : PEx X v2 u2) : PSx X [.Return (some (.Dict [some k1, some k2] [v1, v2] pos)) pos'] (tRet (tDisp [(t1, u1), (t2, u2)])) :=
  ⟨pss_one (ps_ret (pe_disp (pps_cons h1.pe h2.pe (pps_cons h3.pe h4.pe pps_nil)) rfl rfl (List.cons_ne_nil _ _) (Nat.le_of_ble_eq_true rfl)))⟩
theorem begun_body {X : Cx} {x y : Str} {i : Int} {p1 p2 p3 p4 p5 p6 : Pos} {j1 j2 j3 : Nat} : PSx X [.Return (some (.Dict [some (.Constant (.str x) j1 p1), some (.Constant (.str y) j2 p2)] [.Constant (.int i) j3 p3, .Dict [] [] p4] p5)) p6] (tRet (tDisp [(tC (.str x), tC (.int i)), (tC (.str y), tDNewK)])) :=
  disp2 ⟨pe_str⟩ ⟨pe_int⟩ ⟨pe_str⟩ ⟨pe_dnewK⟩
theorem okNx {P : Program} {w : World} {K : PySem.W.Frag} {mg : Str → Option Value} {base : Heap} {x qual : Str} {st : Stmt} {f : Addr} {fd : FuncData} {N ps : List Str} {k : Nat} {sp : Sp} (F : Fun K x qual st f fd) (S : FnScope N ps (defScope st)) (len : ∀ vs H Q E, sp vs H Q E → vs.length = ps.length)
    (hbody : ∀ (cdv : Value) (A : Around) (outer : List Env) (s : Shared) (H : Hp) (vs : List V) (Q : VK) (E : XK), Room k (A.deeper (envOfC qual (defScope st) s.heap.objs.size f cdv)) → sp vs H Q E →
      ∃ t, PSx (cxOf (CXE P w) P w K mg base N qual (defScope st) f cdv A outer s H E).nox (defBody st) t ∧ t { nx := fun _ H' => Q .non H', rt := Q } (start N vs) H) : FnOk P w K mg base (CXE P w) (k + 1) f fd ps sp :=
  okN F S len fun cdv A outer s H vs Q E hr hsp => by
    obtain ⟨t, h, q⟩ := hbody cdv A outer s H vs Q E hr hsp
    exact ⟨t, h.ps, q⟩
/-- a def of the text, with its promise -/
structure Def (P : Program) (w : World) (K : PySem.W.Frag) (mg : Str → Option Value) (base : Heap) (k : Nat) (x : Str) (ps : List Str) (sp : Sp) : Prop where
  ex : ∃ f fd, mg x = some (.ref f) ∧ PySem.W.keepIn K (.ref f) = true ∧ Binds K fd ps [] ∧ FnOk P w K mg base (CXE P w) k f fd ps sp
section
variable {X : Cx} {k k' : Nat} {x : Str} {ps : List Str} {sp : Sp} {E : XK} {p pos : Pos} {e : Expr} {es : List Expr} {t : TA}
theorem Def.pe (D : Def X.prog X.w X.K X.mg X.base k x ps sp) (hr : Room k' X.A) (hk : k ≤ k') (hg : Gl X x) (hx : Passes (CXE X.prog X.w) X E) (ha : PA X (e :: es) t) (hdb : (x == ("__debug__" : Str)) = false := by decide)
    (he : starEach (e :: es) X.env = (false, eval e X.env) :: starEach es X.env := by rfl) (hpl : (backTo pos (starEach es X.env)).any (·.1) = false := by rfl) : PE X (.Call (.Name x p) (e :: es) [] pos) (tCall sp [] E t) := by
  obtain ⟨f, fd, h1, h2, h3, h4⟩ := D.ex
  exact pe_call h4 (hr.mono hk) hg h1 h2 h3 .nil hx ha hdb he hpl
theorem Def.pe0 (D : Def X.prog X.w X.K X.mg X.base k x ps sp) (hr : Room k' X.A) (hk : k ≤ k') (hg : Gl X x) (hx : Passes (CXE X.prog X.w) X E) (hdb : (x == ("__debug__" : Str)) = false := by decide) :
    PE X (.Call (.Name x p) [] [] pos) (tCall sp [] E tNil) := by
  obtain ⟨f, fd, h1, h2, h3, h4⟩ := D.ex
  exact pe_call0 h4 (hr.mono hk) hg h1 h2 h3 .nil hx hdb
end
section
variable {X : Cx} {k k' : Nat} {x : Str} {ps ks : List Str} {sp : Sp} {E : XK} {p pos : Pos} {e : Expr} {es : List Expr} {t tk : TA} {kws : List Keyword}
end
theorem ifB {c : Bool} {A B : Prop} (hT : c = true → A) (hF : c = false → B) : if c = true then A else B := by
  cases c with
  | true => rw [if_pos rfl]; exact hT rfl
  | false => rw [if_neg (by decide)]; exact hF rfl
theorem ne_int' (x y : Int) : (!decide (V.int x = V.int y)) = decide (x ≠ y) := by
  by_cases h : x = y
  · subst h; simp
  · rw [decide_eq_false (fun e => h (V.int.inj e)), decide_eq_true h]; rfl
theorem eq_int' (x y : Int) : decide (V.int x = V.int y) = decide (x = y) := by
  by_cases h : x = y
  · subst h; simp
  · rw [decide_eq_false (fun e => h (V.int.inj e)), decide_eq_false h]
theorem hn_of {A : Around} {k : Nat} (hr : Room k A) : A.units + 1 + 1 < cLine := Nat.lt_of_le_of_lt (by omega : A.units + 1 + 1 ≤ A.units + 64) hr.units
theorem SqL.upd {K : PySem.W.Frag} {H : Hp} {a b : Addr} {o : HO} {xs : List V} (h : SqL K H a xs) (n : a ≠ b) : SqL K (upd H b o) a xs := by
  rcases h with (h | ⟨o', h⟩) | h
  · exact .inl (.inl (by rw [upd_ne n]; exact h))
  · exact .inl (.inr ⟨o', by rw [upd_ne n]; exact h⟩)
  · exact .inr h
theorem Same.new {H : Hp} {p : Addr} {o : HO} (h : H p = none) : Same H (upd H p o) := fun b u e => by rw [upd_ne (ne_of_none e h)]; exact e

/-! ### the draws -/
structure TownAt (H : Hp) (t r : Addr) (c : Int) (rs : List (Key × V)) : Prop where
  tw : H t = some (.dK [(Sum.inr "count", .int c), (Sum.inr "rests", .ref r)])
  rt : H r = some (.dK rs)
  vs : ∀ kv ∈ rs, ∃ k z, kv = (Sum.inl k, V.int z)
  c0 : 0 ≤ c
  ln : (rs.length : Int) ≤ c
  ne : t ≠ r
theorem TownAt.same {H H' : Hp} {t r : Addr} {c : Int} {rs : List (Key × V)} (T : TownAt H t r c rs) (e : Same H H') : TownAt H' t r c rs := ⟨e _ _ T.tw, e _ _ T.rt, T.vs, T.c0, T.ln, T.ne⟩
def Apart (t r : Addr) (H H' : Hp) : Prop := ∀ b o, H b = some o → b ≠ t → b ≠ r → H' b = some o
theorem Apart.trans {t r : Addr} {H H1 H2 : Hp} (a : Apart t r H H1) (b : Apart t r H1 H2) : Apart t r H H2 := fun c o e n1 n2 => b c o (a c o e n1 n2) n1 n2
theorem Apart.of {t r : Addr} {H H1 : Hp} (a : Same H H1) : Apart t r H H1 := fun c o e _ _ => a c o e
theorem Apart.seq {K : PySem.W.Frag} {t r a : Addr} {H H' : Hp} {xs : List V} (e : Apart t r H H') (h : SqL K H a xs) (n1 : a ≠ t) (n2 : a ≠ r) : SqL K H' a xs := by
  rcases h with (h | ⟨o, h⟩) | h
  · exact .inl (.inl (e _ _ h n1 n2))
  · exact .inl (.inr ⟨o, e _ _ h n1 n2⟩)
  · exact .inr h
theorem rests_val {rs : List (Key × V)} (h : ∀ kv ∈ rs, ∃ k z, kv = (Sum.inl k, V.int z)) (k : Int) (d : Int) : ∃ z, (valV rs (Sum.inl k : Key)).getD (.int d) = .int z := by
  cases e : rs.find? fun kv => decide (kv.1 = (Sum.inl k : Key)) with
  | none => exact ⟨d, by unfold valV; rw [e]; rfl⟩
  | some p =>
    obtain ⟨k', z, rfl⟩ := h p (List.mem_of_find?_eq_some e)
    exact ⟨z, by unfold valV; rw [e]; rfl⟩
theorem rests_put {rs : List (Key × V)} (h : ∀ kv ∈ rs, ∃ k z, kv = (Sum.inl k, V.int z)) (k z : Int) : (∀ kv ∈ putK rs (Sum.inl k : Key) (.int z), ∃ k z, kv = (Sum.inl k, V.int z)) ∧ (putK rs (Sum.inl k : Key) (.int z)).length ≤ rs.length + 1 := by
  unfold putK
  split
  · refine ⟨fun kv hm => ?_, by rw [List.length_map]; omega⟩
    obtain ⟨p, hp, rfl⟩ := List.mem_map.mp hm
    obtain ⟨k', z', rfl⟩ := h p hp
    split
    · exact ⟨k', z, rfl⟩
    · exact ⟨k', z', rfl⟩
  · refine ⟨fun kv hm => ?_, by rw [List.length_append]; exact Nat.le_refl _⟩
    rcases List.mem_append.mp hm with hm | hm
    · exact h kv hm
    · exact ⟨k, z, List.mem_singleton.mp hm⟩
theorem cnt_ne : ¬ ((Sum.inr "count" : Key) = (Sum.inr "rests" : Key)) := by
  have h : ¬ ("count" : Str) = "rests" := by decide +kernel
  exact fun e => h (Sum.inr.inj e)
theorem town_put (c d : Int) (r : Addr) : putK [((Sum.inr "count" : Key), V.int c), (Sum.inr "rests", V.ref r)] (Sum.inr "count") (.int d) = [((Sum.inr "count" : Key), V.int d), ((Sum.inr "rests" : Key), V.ref r)] := by
  have h : ¬ ((Sum.inr "rests" : Key) = (Sum.inr "count" : Key)) := fun e => cnt_ne e.symm
  unfold putK
  rw [if_pos (by simp)]
  simp only [List.map_cons, List.map_nil, if_true, if_neg h]
theorem dget_count {H : Hp} {t r : Addr} {c : Int} (h : H t = some (.dK [(Sum.inr "count", .int c), (Sum.inr "rests", .ref r)])) : DGet H t (.str "count") (some (.int c)) := by
  have e := DGet.k (k := (Sum.inr "count" : Key)) h
  rw [valV_pos rfl] at e
  exact e
theorem dget_rests {H : Hp} {t r : Addr} {c : Int} (h : H t = some (.dK [(Sum.inr "count", .int c), (Sum.inr "rests", .ref r)])) : DGet H t (.str "rests") (some (.ref r)) := by
  have e := DGet.k (k := (Sum.inr "rests" : Key)) h
  rw [valV_neg cnt_ne, valV_pos rfl] at e
  exact e
theorem dput_count {H : Hp} {t r : Addr} {c : Int} (d : Int) (h : H t = some (.dK [(Sum.inr "count", .int c), (Sum.inr "rests", .ref r)])) : DPut H t (.str "count") (.int d) (upd H t (.dK [(Sum.inr "count", .int d), (Sum.inr "rests", .ref r)])) := by
  have e := DPut.k (k := (Sum.inr "count" : Key)) (v := .int d) h (by show 2 < sizeLine; decide)
  rw [town_put] at e
  exact e
/-- a draw: some number below many, and the town has counted it -/
def spDraw (K : PySem.W.Frag) : Sp := fun vs H Q _ => ∃ (a t r : Addr) (ns : List Int) (c many : Int) (rs : List (Key × V)), vs = [.ref a, .ref t, .int many] ∧ SqL K H a (ns.map V.int) ∧ TownAt H t r c rs ∧ a ≠ t ∧ a ≠ r ∧ ns.length ≤ 63 ∧ c < 100000 ∧ 0 < many ∧ many < 1000000 ∧
  ∀ (v : Int) (rs' : List (Key × V)) (H' : Hp), 0 ≤ v → v < many → TownAt H' t r (c + 1) rs' → Apart t r H H' → Q (.int v) H'
/-- a new town -/
def spBegun : Sp := fun vs H Q _ => vs = [] ∧ ∀ (t r : Addr) (H' : Hp), H t = none → H r = none → TownAt H' t r 0 [] → Same H H' → Q (.ref t) H'
/-- Python's own names that the text leaves -/
structure Own (mg : Str → Option Value) : Prop where
  len : mg "len" = none
  range : mg "range" = none
  abs : mg "abs" = none
  max : mg "max" = none
  int : mg "int" = none
  isi : mg "isinstance" = none
  bool : mg "bool" = none
  val : mg "ValueError" = none
  reversed : mg "reversed" = none
  divmod : mg "divmod" = none
  str : mg "str" = none
  sum : mg "sum" = none
end L2

set_option Elab.async false
set_option linter.all false
set_option maxRecDepth 100000
namespace L2
open PySem PySem.Spec PyProof.Rows
/-- no error leaves -/
def E00 : XK := fun _ _ _ => False
theorem LamAt.alt {X : Cx} {N : List Str} {σ : St} {q : Str} {params : Arguments} {body : Expr} {scope : Scope} {f c' : Addr} {cl : List (Str × Addr)} {pm ctv : Value} {pn : List (Addr × Obj)} {xe : Value → Shared → Prop}
    (L : LamAt X N σ q params body scope f c' cl pm ctv) : LamAt (X.alt pn xe) N σ q params body scope f c' cl pm ctv :=
  ⟨L.ob, L.un, L.fr, L.code, L.kind, L.co, L.gen, L.bind, L.len, L.cells⟩
/-- what the call of a def with a lambda reads -/
def tLam (P : Addr) (q : Str) (th : St → Addr → Addr → Hp → VK → Prop) : TE := fun σ H Q => TabOk H P q ∧ ∀ (f c' : Addr) (H1 : Hp), H1 f = none → H1 c' = some (codeO c' q) → TabOk H1 P q → (∀ b o, H b = some o → b ≠ P → H1 b = some o) → th σ f c' H1 Q
section
variable {X : Cx} {k : Nat} {x qual : Str} {st : Stmt} {fa : Addr} {fd : FuncData} {N : List Str} {p1 : Str} {E : XK} {c P : Addr} {q : Str} {params : Arguments} {body : Expr} {scope : Scope} {p lpos cpos : Pos} {th : St → Addr → Addr → Hp → VK → Prop}
/-- g(lambda: body) -/
theorem pe_lamcall (F : Fun X.K x qual st fa fd) (S : FnScope N [p1] (defScope st)) (hm : X.mg x = some (.ref fa)) (hg : Gl X x) (hb : Binds X.K fd [p1] []) (hr : Room (k + 1) X.A) (hx : Passes (CXE X.prog X.w) X E)
    (L : Lamb X.mg X.base c P) (hcode : X.env.code = .ref c) (hq : q = X.env.qual ++ "<lambda>") (hdef : defaultsOf params X.env = ([], [])) (hfn : ∀ y, X.fn y = true)
    (sk : scope.kind = .function) (sco : scope.isCoroutine = false) (sgen : scope.isGenerator = false) (snone : ∀ y ∈ scope.names, y.2 ≠ .local ∧ y.2 ≠ .cell) (sfree : ∀ y ∈ scope.names, y.2 = .free → X.env.scope.names.lookup y.1 = some .cell)
    (hbind : ∀ cl pm c' ctv, bindArgs (PySem.W.kla_fn "<lambda>" q params body scope cl pm (.ref c') ctv) ⟨[], []⟩ = pure [])
    (hbody : ∀ (cdv : Value) (σ : St) (f c' : Addr) (cl : List (Str × Addr)) (pm ctv : Value) (s1 : Shared) (H1 : Hp) (Q : VK),
      LamAt (cxOf (CXE X.prog X.w) X.prog X.w X.K X.mg X.base N qual (defScope st) fa cdv X.A X.stack s1 H1 E) X.N σ q params body scope f c' cl pm ctv →
      (∀ x c, cl.lookup x = some c → c < s1.heap.objs.size) → Room k (X.A.deeper (envOfC qual (defScope st) s1.heap.objs.size fa cdv)) → th σ f c' H1 Q →
      ∃ t, PSs (cxOf (CXE X.prog X.w) X.prog X.w X.K X.mg X.base N qual (defScope st) fa cdv X.A X.stack s1 H1 E) (defBody st) t ∧ t { nx := fun _ H' => Q .non H', rt := Q } (start N [.ref f]) H1)
    (hdb : (x == ("__debug__" : Str)) = false := by decide) : PE X (.Call (.Name x p) [.Lambda params body scope lpos] [] cpos) (tLam P q th) := by
  intro pins s σ H Q I h
  obtain ⟨hT, h⟩ := h
  obtain ⟨oc, od, kV, doc, pm', an, cdv, ct, osl, rfl, lk, hcd⟩ := F.ex
  have has : ∀ y ∈ scope.names, y.2 = .free → ∃ c, X.env.cells.lookup y.1 = some c := fun y hy e => I.ok.has y.1 (.inl (sfree y hy e))
  refine wpAny_Call_Name_kw (ld_glob I hg hm ?_ hdb)
  refine PySem.W.callWith_K (h₀ := X.base) I.ok.mod.kin F.kp ?_ rfl rfl
  show wpAny _ _ (spliced ((false, eval (.Lambda params body scope lpos) X.env) :: [])) _ _ s
  refine Calls.spliced_cons (lam_made I L hcode hq hdef (closureFor_eq has) hT fun f c' pm ctv H1 s1 I1 ob un fr code T1 keep kp => Calls.spliced_nil ⟨I1.kIn, ?_⟩)
  have fs0 : ∀ b ∈ frs X.stack, ∃ o, s.heap.get? b = some o := fun b hb => let ⟨o, e, _⟩ := (I.stack.mem hb).2; ⟨o, e⟩
  have cs : ∀ y d, (closOf X.env.cells scope.names []).lookup y = some d → X.env.cells.lookup y = some d := fun y d e => clos_look scope.names [] has (fun z => nomatch z) e
  have frS : ∀ b ∈ frs X.stack, b = X.env.locals ∨ b ∈ X.fs := fun b hb => List.mem_cons.mp (I.stkSub b hb)
  have LA : LamAt (cxOf (CXE X.prog X.w) X.prog X.w X.K X.mg X.base N qual (defScope st) fa cdv X.A X.stack s1 H1 E) X.N σ q params body scope f c' (closOf X.env.cells scope.names []) pm ctv := by
    refine ⟨ob, un, fun hf => ?_, code, sk, sco, sgen, hbind _ _ _ _, I.len, ⟨fun y z d e1 e2 => I.ok.inj y z d (cs y d e1) (cs z d e2), fun y hy => clos_has scope.names [] (.inr (PySem.mem_of_lookup hy)), snone, fun y d e => ?_, fun j y v e1 e2 e3 => ?_⟩⟩
    · obtain ⟨o, e⟩ := fs0 f hf
      exact absurd (Heap.lt_size e) (Nat.not_lt.mpr fr)
    · refine ⟨I1.freeC y d (cs y d e), fun hf => ?_, I1.cell y d (cs y d e)⟩
      rcases frS d hf with z | z
      · exact I.cne y d (cs y d e) z
      · obtain ⟨o, eo⟩ : ∃ o, X.s₀.heap.get? d = some o := let ⟨o, e, _⟩ := (I.ok.funs.mem z).2; ⟨o, e⟩
        exact absurd (Heap.lt_size eo) (Nat.not_lt.mpr (I.ok.cab y d (hfn y) (cs y d e)))
    · have hy : X.env.scope.names.lookup y = some .cell := sfree _ (PySem.mem_of_lookup e3) rfl
      obtain ⟨m, _, hl⟩ := I1.loc
      obtain ⟨u, r, lk'⟩ := hl j y v e1 e2 (.inr (.inl hy))
      obtain ⟨d, hd⟩ := I.ok.has y (.inl hy)
      rcases lk' with ⟨kk, _⟩ | ⟨_, d', hd', hc⟩
      · have z : X.env.scope.names.lookup y = some .local := kk
        rw [hy] at z
        cases z
      · obtain ⟨d2, hd2⟩ := clos_has (cells := X.env.cells) scope.names [] (.inr (PySem.mem_of_lookup e3))
        have := cs y d2 hd2
        rw [hd'] at this
        cases this
        exact ⟨u, d', r, hd2, hc⟩
  have hlo : ∀ y d, (closOf X.env.cells scope.names []).lookup y = some d → d < s1.heap.objs.size := fun y d e => by
    obtain ⟨v, o, e1, _⟩ := I1.cell y d (cs y d e)
    exact Heap.lt_size e1
  have hB := hb s1 [.ref f] I1.kIn rfl
  refine wpAny_call (codeAny_mono (fn_at (N := N) (ps := [p1]) (Q := Q) (E := E) lk hcd S hr I1.env0 hB (vs := [.ref f]) (.cons rfl .nil) rfl fun hr' => hbody cdv σ f c' _ pm ctv s1 H1 Q LA hlo hr' (h f c' H1 un code T1 keep)) fun r s' hq => ?_)
  cases r with
  | error e => exact hx pins σ H1 s1 e s' I1 hq
  | ok fl =>
    cases fl with
    | ret u => exact I1.after hq
    | next => exact False.elim hq
    | brk => exact False.elim hq
    | cont => exact False.elim hq
end

/-- the free names of a lambda are cells around it -/
def freeIn (sc outer : Scope) : Bool := sc.names.all fun y => !(y.2 == .free) || outer.names.lookup y.1 == some .cell
theorem freeIn_at {sc outer : Scope} (h : freeIn sc outer = true) : ∀ y ∈ sc.names, y.2 = .free → outer.names.lookup y.1 = some .cell := fun y hy e => by
  have q := List.all_eq_true.mp h y hy
  rw [e] at q
  simpa using q
/-- a def and its code -/
structure FunC (K : PySem.W.Frag) (x qual : Str) (st : Stmt) (f : Addr) (fd : FuncData) (cdv : Value) : Prop where
  ex : ∃ (oc : Value) (od : Option Addr) (kV doc pm : Value) (an : Option Addr) (ct : Value) (osl : Array (Option Value)),
    fd = PySem.W.fnOf x qual (defArgs st) (defBody st) (defScope st) .none kV doc pm an cdv ct ∧ K.lookup f = some ⟨oc, od, .func fd, osl⟩ ∧ PySem.W.codeIn K cdv qual = true
theorem okNC {P : Program} {w : World} {K : PySem.W.Frag} {mg : Str → Option Value} {base : Heap} {x qual : Str} {st : Stmt} {f : Addr} {fd : FuncData} {cdv : Value} {N ps : List Str} {k : Nat} {sp : Sp} (F : FunC K x qual st f fd cdv) (S : FnScope N ps (defScope st)) (len : ∀ vs H Q E, sp vs H Q E → vs.length = ps.length)
    (hbody : ∀ (A : Around) (outer : List Env) (s : Shared) (H : Hp) (vs : List V) (Q : VK) (E : XK), Room k (A.deeper (envOfC qual (defScope st) s.heap.objs.size f cdv)) → sp vs H Q E →
      ∃ t, PSs (cxOf (CXE P w) P w K mg base N qual (defScope st) f cdv A outer s H E).nox (defBody st) t ∧ t { nx := fun _ H' => Q .non H', rt := Q } (start N vs) H) : FnOk P w K mg base (CXE P w) (k + 1) f fd ps sp := by
  obtain ⟨oc, od, kV, doc, pm, an, ct, osl, rfl, lk, hcd⟩ := F.ex
  exact fn_of lk hcd S len fun A outer s H vs Q E hr hsp => by
    obtain ⟨t, h, q⟩ := hbody A outer s H vs Q E hr hsp
    exact ⟨t, h.nox, q⟩
/-- a def at the top: its name, its object -/
structure DefAt (K : PySem.W.Frag) (x : Str) (st : Stmt) : Prop where
  ex : ∃ f fd, PySem.W.nsIn K mainGlobals x = some (some (.ref f)) ∧ Fun K x x st f fd
theorem defAt_mk {K : PySem.W.Frag} {x : Str} {st : Stmt} {f : Addr} {oc : Value} {od an : Option Addr} {osl : Array (Option Value)} {kV doc pm cdv ct : Value} (a : PySem.W.nsIn K mainGlobals x = some (some (.ref f)))
    (l : K.lookup f = some ⟨oc, od, .func (PySem.W.fnOf x x (defArgs st) (defBody st) (defScope st) .none kV doc pm an cdv ct), osl⟩) (c : PySem.W.codeIn K cdv x = true) (k : PySem.W.keepIn K (.ref f) = true) : DefAt K x st :=
  ⟨f, _, a, ⟨⟨oc, od, kV, doc, pm, an, cdv, ct, osl, rfl, l, c⟩, k⟩⟩
section
variable {P : Program} {w : World} {K : PySem.W.Frag} {mg : Str → Option Value} {base h : Heap} {x : Str} {st : Stmt} {k : Nat} {ps : List Str} {sp : Sp}
theorem DefAt.def (D : DefAt K x st) (X : K.In h) (G : h.Ns mainGlobals mg) (hok : ∀ f fd, Fun K x x st f fd → FnOk P w K mg base (CXE P w) k f fd ps sp)
    (hb : ∀ (kV doc pm : Value) (an : Option Addr) (cdv ct : Value) (us : List Value), us.length = ps.length → bindArgs (PySem.W.fnOf x x (defArgs st) (defBody st) (defScope st) .none kV doc pm an cdv ct) ⟨us, []⟩ = pure (ps.zip us)) : Def P w K mg base k x ps sp := by
  obtain ⟨f, fd, a, F⟩ := D.ex
  exact ⟨f, fd, PySem.W.mg_of X G a, F.kp, F.binds hb, hok f fd F⟩
end
/-- the law's code and its table -/
theorem tab_mk {K : PySem.W.Frag} {x : Str} {f c P : Addr} {oc oc2 : Value} {od od2 : Option Addr} {osl osl2 : Array (Option Value)} {fd : FuncData} {vs : Array Value} (a : PySem.W.nsIn K mainGlobals x = some (some (.ref f))) (l : K.lookup f = some ⟨oc, od, .func fd, osl⟩) (hc : fd.code = .ref c)
    (lc : K.lookup c = some ⟨oc2, od2, .fields vs, osl2⟩) (hv : (vs[11]? : Option Value) = some (.ref P)) : PySem.W.tabIn K x = some (c, P) := by
  unfold PySem.W.tabIn
  simp only [a, l, hc, lc, hv]
/-! two ways that meet again -/
theorem ifJoinE {k : Bool} {ta tb : TE} {σ : St} {H : Hp} {Q : VK} (Good : V → Hp → Prop) (hT : k = true → (∀ v H', Good v H' → Q v H') → ta σ H Q) (hF : k = false → (∀ v H', Good v H' → Q v H') → tb σ H Q) (rest : ∀ v H', Good v H' → Q v H') : if k = true then ta σ H Q else tb σ H Q := by
  cases k with
  | true => rw [if_pos rfl]; exact hT rfl rest
  | false => rw [if_neg (by decide)]; exact hF rfl rest
/-! like tuples -/
theorem eqV_int (a : Int) : eqV (.int a) (.int a) = true := by simp [eqV]
theorem eqV_str (a : Str) : eqV (.str a) (.str a) = true := by simp [eqV]
theorem EqD.int {K : PySem.W.Frag} {H : Hp} {n : Nat} {a b : Int} (e : a = b) : EqD K H n (.int a) (.int b) true := by
  subst e
  have := EqD.flat (K := K) (H := H) (n := n) (x := .int a) (y := .int a) rfl rfl
  rw [eqV_int] at this
  exact this
theorem EqD.str {K : PySem.W.Frag} {H : Hp} {n : Nat} {a : Str} : EqD K H n (.str a) (.str a) true := by
  have := EqD.flat (K := K) (H := H) (n := n) (x := .str a) (y := .str a) rfl rfl
  rw [eqV_str] at this
  exact this
theorem all_true (n : Nat) : (List.range n).all (fun _ => true) = true := List.all_eq_true.mpr fun _ _ => rfl
/-- item by item alike -/
inductive Like (K : PySem.W.Frag) (H : Hp) (n : Nat) : List V → List V → Prop where
  | nil : Like K H n [] []
  | cons {x y : V} {xs ys : List V} (h : EqD K H n x y true) (t : Like K H n xs ys) : Like K H n (x :: xs) (y :: ys)
theorem Like.len {K : PySem.W.Frag} {H : Hp} {n : Nat} {xs ys : List V} (l : Like K H n xs ys) : xs.length = ys.length := by
  induction l with
  | nil => rfl
  | cons h t ih => rw [List.length_cons, List.length_cons, ih]
theorem Like.at {K : PySem.W.Frag} {H : Hp} {n : Nat} {xs ys : List V} (l : Like K H n xs ys) : ∀ (j : Nat) (x y : V), xs[j]? = some x → ys[j]? = some y → EqD K H n x y true := by
  induction l with
  | nil => intro j x y h; cases h
  | cons h t ih =>
    intro j x y h1 h2
    cases j with
    | zero => cases h1; cases h2; exact h
    | succ j => exact ih j x y h1 h2
theorem eqT_like {K : PySem.W.Frag} {H : Hp} {n : Nat} {neg : Bool} {a b : Addr} {xs ys : List V} {Q : VK} (ha : SqT K H a xs) (hb : SqT K H b ys) (l : Like K H n xs ys) (k : Q (.bl (!neg)) H) : rEqT K n neg (.ref a) (.ref b) H Q := by
  refine ⟨a, b, xs, ys, fun _ => true, true, rfl, rfl, ha, hb, l.at, by rw [all_true, l.len]; simp, ?_⟩
  cases neg <;> exact k
/-- the state of a law's own frame: the script, the town, the table of its code -/
structure LawSt (H : Hp) (a t r Pa : Addr) (q : Str) (ns : List Int) (c : Int) : Prop where
  sc : ∃ o, H a = some (.frz o (.lst (ns.map V.int)))
  tw : ∃ rs, TownAt H t r c rs
  tab : TabOk H Pa q
  ln : ns.length ≤ 63
theorem TabOk.same {H H' : Hp} {P : Addr} {q : Str} (T : TabOk H P q) (e : Same H H') : TabOk H' P q := by
  obtain ⟨ps, h1, h2, h3⟩ := T
  exact ⟨ps, e _ _ h1, h2, fun p cv z => let ⟨a, z1, z2⟩ := h3 p cv z; ⟨a, z1, e _ _ z2⟩⟩
section
variable {H H' : Hp} {a t r Pa : Addr} {q : Str} {ns : List Int} {c c' : Int} {K : PySem.W.Frag}
theorem LawSt.same (S : LawSt H a t r Pa q ns c) (e : Same H H') : LawSt H' a t r Pa q ns c :=
  ⟨let ⟨o, h⟩ := S.sc; ⟨o, e _ _ h⟩, let ⟨rs, h⟩ := S.tw; ⟨rs, h.same e⟩, S.tab.same e, S.ln⟩
theorem LawSt.nat (S : LawSt H a t r Pa q ns c) : a ≠ t := fun z => by
  obtain ⟨o, h⟩ := S.sc
  obtain ⟨rs, h2⟩ := S.tw
  rw [z, h2.tw] at h
  cases h
theorem LawSt.nar (S : LawSt H a t r Pa q ns c) : a ≠ r := fun z => by
  obtain ⟨o, h⟩ := S.sc
  obtain ⟨rs, h2⟩ := S.tw
  rw [z, h2.rt] at h
  cases h
theorem LawSt.sq (S : LawSt H a t r Pa q ns c) : SqL K H a (ns.map V.int) := let ⟨o, h⟩ := S.sc; .inl (.inr ⟨o, h⟩)
/-- what is no town's is kept by a draw -/
theorem LawSt.keep (S : LawSt H a t r Pa q ns c) (A : Apart t r H H') {b : Addr} {o : HO} (e : H b = some o) (n : ∀ kvs, o ≠ .dK kvs) : H' b = some o := by
  obtain ⟨rs, h2⟩ := S.tw
  refine A b o e (fun z => ?_) fun z => ?_
  · rw [z, h2.tw] at e; cases e; exact n _ rfl
  · rw [z, h2.rt] at e; cases e; exact n _ rfl
theorem LawSt.drawn (S : LawSt H a t r Pa q ns c) (A : Apart t r H H') {rs : List (Key × V)} (T : TownAt H' t r c' rs) : LawSt H' a t r Pa q ns c' := by
  obtain ⟨o, h⟩ := S.sc
  obtain ⟨ps, h1, h2, h3⟩ := S.tab
  exact ⟨⟨o, S.keep A h fun _ z => nomatch z⟩, ⟨rs, T⟩, ⟨ps, S.keep A h1 (fun _ z => nomatch z), h2, fun p cv z => let ⟨b, z1, z2⟩ := h3 p cv z; ⟨b, z1, S.keep A z2 fun _ z => nomatch z⟩⟩, S.ln⟩
/-- a lambda was made -/
theorem LawSt.keepL (S : LawSt H a t r Pa q ns c) (k : ∀ b o, H b = some o → b ≠ Pa → H' b = some o) {b : Addr} {o : HO} (e : H b = some o) (n : ∀ ps, o ≠ .tbl ps) : H' b = some o := by
  obtain ⟨ps, h1, _⟩ := S.tab
  refine k b o e fun z => ?_
  rw [z, h1] at e
  cases e
  exact n _ rfl
theorem LawSt.lam (S : LawSt H a t r Pa q ns c) (k : ∀ b o, H b = some o → b ≠ Pa → H' b = some o) (T : TabOk H' Pa q) : LawSt H' a t r Pa q ns c := by
  obtain ⟨o, h⟩ := S.sc
  obtain ⟨rs, h2⟩ := S.tw
  exact ⟨⟨o, S.keepL k h fun _ z => nomatch z⟩, ⟨rs, S.keepL k h2.tw (fun _ z => nomatch z), S.keepL k h2.rt (fun _ z => nomatch z), h2.vs, h2.c0, h2.ln, h2.ne⟩, T, S.ln⟩
end
end L2

set_option Elab.async false
set_option linter.all false
set_option maxRecDepth 100000
/-! comprehensions: one clause, over what a loop can walk; the block's own names only -/
namespace L2
open PySem PySem.Spec PyProof.Rows
def blkEnv (scope : Scope) (env : Env) (C : Addr) : Env :=
  { scope := scope, locals := C, globals := env.globals, cells := cellsFrom (C + 1) scope.names [], qual := env.qual, func := none, code := env.code, frame := env.frame, builtins := env.builtins }
/-- the context of a comprehension's block -/
abbrev cxBlk (X : Cx) (NB : List Str) (scope : Scope) (s : Shared) (H : Hp) (ex : List Addr) : Cx :=
  { X with N := NB, s₀ := s, H₀ := H, env := blkEnv scope X.env s.heap.objs.size, outer := X.stack, ex := ex, fn := fun _ => true, pn := [], xe := fun _ _ => False }
structure BlkScope (NB : List Str) (scope : Scope) : Prop where
  kind : scope.kind = .function
  nd : NB.Nodup
  nofree : ∀ y ∈ scope.names, y.2 ≠ .free
  loc : ∀ y ∈ scope.names, y.2 = .local → scope.names.lookup y.1 = some .local
theorem relabel_same {scope : Scope} {env : Env} (h : ∀ y ∈ scope.names, y.2 ≠ .free) : relabel scope env = scope := by
  obtain ⟨k, names, g, c, m⟩ := scope
  have e : ∀ l : List (Str × NameKind), (∀ y ∈ l, y.2 ≠ .free) → (l.map fun (n, k) => if (k == NameKind.free && env.scope.kind == .function && env.kindOf n == some .cell) then (n, NameKind.cell) else (n, k)) = l := by
    intro l
    induction l with
    | nil => intro _; rfl
    | cons y r ih =>
      intro hl
      obtain ⟨n, k⟩ := y
      have hk : (k == NameKind.free) = false := beq_eq_false_iff_ne.mpr (hl (n, k) List.mem_cons_self)
      rw [List.map_cons, ih fun y hy => hl y (List.mem_cons_of_mem _ hy)]
      simp only [hk, Bool.false_and, Bool.false_eq_true, if_false]
  unfold relabel
  simp only [e names h]
theorem clos_none {scope : Scope} {env : Env} (h : ∀ y ∈ scope.names, y.2 ≠ .free) : closureFor scope env = pure [] := by
  rw [closureFor_eq fun y hy e => absurd e (h y hy)]
  have e : ∀ (l : List (Str × NameKind)) (acc : List (Str × Addr)), (∀ y ∈ l, y.2 ≠ .free) → closOf env.cells l acc = acc := by
    intro l
    induction l with
    | nil => intro acc _; rfl
    | cons y r ih =>
      intro acc hl
      obtain ⟨n, k⟩ := y
      have hk : (k == NameKind.free) = false := beq_eq_false_iff_ne.mpr (hl (n, k) List.mem_cons_self)
      unfold closOf
      rw [hk]
      exact ih acc fun y hy => hl y (List.mem_cons_of_mem _ hy)
  rw [e _ _ h]
theorem wpAny_newBlock {M : Model} {A : Around} {E : Value → Shared → Prop} {s : Shared} {scope : Scope} {globals : Addr} {qual : Str} {env : Env} {Q : Env → Shared → Prop} (hk : scope.kind = .function)
    (hQ : ∀ cenv s', cenv = { scope := scope, locals := s.heap.objs.size, globals := globals, cells := cellsFrom (s.heap.objs.size + 1) scope.names [], qual := qual, func := none, code := env.code, frame := env.frame, builtins := env.builtins } →
      InCallC s s.heap.objs.size (fun _ => none) (cellsFrom (s.heap.objs.size + 1) scope.names []) (fun _ => none) s' → Q cenv s') :
    wpAny M A (newFunctionEnv scope globals [] [] qual none .none (some env)) Q E s := by
  simp only [newFunctionEnv, Option.isSome_some, if_true]
  refine wpAny_bind (wpAny_alloc ?_)
  refine wpAny_bind (wpAny_layCells _ (fun name kind cells => by cases hkc : kind == NameKind.cell <;> simp [hkc]) _ _ _ _ ?_)
  have ok := cellsFrom_ok scope.names (s.heap.push { cls := .type "dict", data := .dict #[] }) (s.heap.objs.size + 1) [] ⟨fun _ _ hm => (nomatch hm), List.Pairwise.nil⟩ (by rw [Heap.size_push]; exact Nat.le_refl _)
  rw [Heap.size_push] at ok
  rw [show ({ s with heap := s.heap.push { cls := .type "dict", data := .dict #[] } } : Shared).heap.objs.size = s.heap.objs.size + 1 from Heap.size_push ..]
  refine wpAny_bind (wpAny_pure (wpAny_pure (hQ _ _ rfl ?_)))
  exact ⟨⟨⟨_, _, rfl⟩, (Heap.Ns.new s.heap (.type "dict")).keeps (pushCells_keeps _ _), fun b o e => pushCells_keeps _ _ b o (Heap.get?_push_of_some _ e), Nat.le_refl _⟩,
      fun n c hc => (ok.empty n c (mem_of_lookup hc)).1, ok.apart, fun n c hm => (ok.empty n c hm).2⟩
section
variable {prog : Program} {w : World} {A : Around} {E : Value → Shared → Prop} {R : Result → Shared → Prop} {s : Shared}
theorem comp_loop {elt target iter : Expr} {ifs : List Expr} {scope : Scope} {pos : Pos} {it acc : Value} {env : Env} (I : Nat → Shared → Prop)
    (turn : ∀ n s, I n s → wpAny (model prog w) A (pyNext it) (fun r s₁ => match r with
      | none => R (.ok .next) s₁
      | some v => wpAny (model prog w) A (letOwnedTupleGo target it v) (fun _ s₁' => wpAny (model prog w) A (assign target env v) (fun _ s₂ =>
          wpAny (model prog w) A (forIn ifs true fun c r => if r = true then do let ok ← isTrue c env (eval c env); pure (ForInStep.yield ok) else pure (ForInStep.yield r)) (fun ok s₃ =>
            if ok = true then wpAny (model prog w) A (eval elt env) (fun x s₄ =>
              wpAny (model prog w) A (call (.builtin "list.append") [acc, x]) (fun _ s₅ => ∃ m, m < n ∧ I m s₅) (notedBy (model prog w) A env fun e s' => R (.error e) s') s₄) (notedBy (model prog w) A env fun e s' => R (.error e) s') s₃
            else ∃ m, m < n ∧ I m s₃) (notedBy (model prog w) A env fun e s' => R (.error e) s') s₂) (notedBy (model prog w) A env fun e s' => R (.error e) s') s₁') (notedBy (model prog w) A env fun e s' => R (.error e) s') s₁) (notedBy (model prog w) A env fun e s' => R (.error e) s') s)
    (n : Nat) (h : I n s) :
    codeAny (model prog w) A (.compLoop (.ListComp elt [⟨target, iter, ifs, 0⟩] scope pos) 0 it acc env) R s := by
  refine codeAny_loop rfl I (fun n s hI => ?_) n h
  show wpAny _ A ((compTurn (.ListComp elt [⟨target, iter, ifs, 0⟩] scope pos) 0 it acc env).onRaise (fun x => do noteFrame x env; theTreesLotGoes x)) _ _ s
  refine wpAny_noted ?_
  rw [compTurn_list]
  refine wpAny_bind (wpAny_standAt (wpAny_bind (wpAny_mono (turn n s hI) (fun r s₁ h₁ => ?_) fun _ _ h' => h')))
  cases r with
  | none => exact wpAny_pure h₁
  | some v =>
    refine wpAny_bind (wpAny_mono h₁ (fun _ s₁' h₁' => ?_) fun _ _ h' => h')
    refine wpAny_bind (wpAny_mono h₁' (fun _ s₂ h₂ => wpAny_bind (wpAny_mono h₂ (fun ok s₃ h₃ => ?_) fun _ _ h' => h')) fun _ _ h' => h')
    cases ok with
    | false => exact wpAny_pure ⟨rfl, h₃⟩
    | true =>
      exact wpAny_bind (wpAny_bind (wpAny_mono h₃ (fun x s₄ h₄ => wpAny_bind (wpAny_mono h₄ (fun _ s₅ h₅ => wpAny_pure (wpAny_pure ⟨rfl, h₅⟩)) fun _ _ h' => h')) fun _ _ h' => h'))
end
/-- the tests of a clause -/
def PTs (X : Cx) (ifs : List Expr) (t : TT) : Prop :=
  ∀ (pins : List (Addr × Obj)) (s : Shared) (σ : St) (H : Hp) (Q : Bool → Hp → Prop), Inv X pins σ H s → t σ H Q →
    wpAny (model X.prog X.w) X.A (forIn ifs true fun c r => if r = true then do let ok ← isTrue c X.env (eval c X.env); pure (ForInStep.yield ok) else pure (ForInStep.yield r)) (TP X pins σ Q) X.xe s
def tAll : TT := fun _ H Q => Q true H
theorem pts_nil {X : Cx} : PTs X [] tAll := fun pins s σ H Q I h => wpAny_tests_nil ⟨H, I, h⟩
theorem pts_one {X : Cx} {c : Expr} {t : TT} (h : PT X c t) : PTs X [c] t := fun pins s σ H Q I q => wpAny_tests_one (h pins s σ H Q I q)
/-- [elt for tg in iter if ..] -/
def tComp (NB : List Str) (wi : TI) (g : TG) (tt : TT) (te : TE) : TE := fun σ H Q => wi σ H fun J H1 => ∃ W : Nat → Nat → List V → Hp → Prop, (∃ m, W 0 m [] H1) ∧ ∀ i m vs H, W i m vs H →
  (J.stop i H ∧ ∀ p, H p = none → Q (.ref p) (upd H p (.lst vs))) ∨ (J.go i H ∧ vs.length < sizeLine ∧ ∃ N : List V → Hp → Prop, (∀ vs' H', N vs' H' → ∃ m', m' < m ∧ W (i + 1) m' vs' H') ∧
    ∀ x H', J.yld i H x H' → g x (List.replicate NB.length none) H' fun σ2 H2 => tt σ2 H2 fun b H3 => if b = true then te σ2 H3 fun v H4 => N (vs ++ [v]) H4 else N vs H3)
abbrev lstO (ys : List Value) : Obj := { cls := .type "list", data := .seq ys.toArray ys.length }
section
variable {X : Cx}
theorem pe_lcomp {elt tg iter : Expr} {ifs : List Expr} {scope : Scope} {pos : Pos} {NB : List Str} {wi : TI} {g : TG} {tt : TT} {te : TE} (hc : X.calm = true) (S : BlkScope NB scope) (hi : PI X tg iter wi)
    (hg : ∀ s H ex, PG (cxBlk X NB scope s H ex) tg g) (ht : ∀ s H ex, PTs (cxBlk X NB scope s H ex) ifs tt) (he : ∀ s H ex, PE (cxBlk X NB scope s H ex) elt te)
    (hs : ∀ x, foldedSetIterable iter X.env x = pure x := by intro _; rfl) : PE X (.ListComp elt [⟨tg, iter, ifs, 0⟩] scope pos) (tComp NB wi g tt te) := by
  intro pins s σ H Q I h
  rw [eval_ListComp]
  refine wpAny_comprehension_free (use := none) (cl := []) rfl hs (clos_none S.nofree) S.kind S.loc (thn (hi pins s σ H _ I h) fun v s1 h1 => thn h1 fun itv s2 h2 => ?_)
  obtain ⟨it, fp, tn, J, H2, e, I2, T, st2, f2, W, ⟨m0, w0⟩, turn⟩ := h2
  subst e
  refine wpAny_newObj_type ?_
  have up2 : ∀ b o, s2.heap.get? b = some o → (s2.heap.push { cls := .type "list", data := .seq ([] : List Value).toArray }).get? b = some o := fun b o e => Heap.get?_push_of_some _ e
  have I3 : Inv X pins σ H2 { s2 with heap := s2.heap.push { cls := .type "list", data := .seq ([] : List Value).toArray } } := I2.kept (t' := s2.toks) up2
  have st3 : tn 0 (s2.heap.push { cls := .type "list", data := .seq ([] : List Value).toArray }) := T.keep _ _ _ st2 fun b _ o e => up2 b o e
  have hD3 : (s2.heap.push { cls := .type "list", data := .seq ([] : List Value).toArray }).get? s2.heap.objs.size = some (lstO []) := Heap.get?_push_size _ rfl
  have hD2 : H2 s2.heap.objs.size = none := I2.hok.fresh (Nat.le_refl _)
  have lt2 : ∀ b o, s2.heap.get? b = some o → b ≠ s2.heap.objs.size := fun b o e => Nat.ne_of_lt (Heap.lt_size e)
  have fpO : ∀ b ∈ fp, ∃ o, s2.heap.get? b = some o := fun b hb => let ⟨o, e, _⟩ := T.obj _ _ st2 b hb; ⟨o, e⟩
  have hDs0 : X.s₀.heap.objs.size ≤ s2.heap.objs.size := I2.sz
  have hDL : s2.heap.objs.size ≠ X.env.locals := Nat.ne_of_gt I2.lt
  have hDC : ∀ x c, X.env.cells.lookup x = some c → c ≠ s2.heap.objs.size := fun x c e => let ⟨v, o, e1, _⟩ := I2.cell x c e; lt2 c o e1
  have hDp : ∀ p ∈ X.pn ++ pins, p.1 ≠ s2.heap.objs.size := fun p hp => lt2 p.1 _ (I2.pin p hp).1
  have hDf : s2.heap.objs.size ∉ frs X.stack := fun z => let ⟨o, e, _⟩ := (I2.stack.mem z).2; lt2 _ o e rfl
  generalize hS3 : ({ s2 with heap := s2.heap.push { cls := .type "list", data := .seq ([] : List Value).toArray } } : Shared) = s3 at I3 ⊢
  have hh3 : s3.heap = s2.heap.push { cls := .type "list", data := .seq ([] : List Value).toArray } := by rw [← hS3]
  rw [← hh3] at st3 hD3 up2
  generalize s2.heap.objs.size = D at hD3 hD2 lt2 hDs0 hDL hDC hDp hDf ⊢
  refine wpAny_newBlock S.kind fun cenv s4 hce x4 => ?_
  subst hce
  rw [relabel_same S.nofree]
  have lt3 : ∀ b o, s3.heap.get? b = some o → b < s3.heap.objs.size := fun b o e => Heap.lt_size e
  have fp3 : ∀ b ∈ fp, b < s3.heap.objs.size := fun b hb => let ⟨o, e⟩ := fpO b hb; lt3 b o (up2 b o e)
  have dl3 : D < s3.heap.objs.size := lt3 D _ hD3
  have DfpN : ∀ b ∈ fp, b ≠ D := fun b hb => let ⟨o, e⟩ := fpO b hb; lt2 b o e
  obtain ⟨h4, tk4, rfl, hk4⟩ := x4.done
  have bsN : ∀ b o, X.base.get? b = some o → b ∉ D :: fp := fun b o e hb => by
    rcases List.mem_cons.mp hb with rfl | hb
    · exact absurd (Nat.lt_of_lt_of_le (Heap.lt_size (I2.ok.bs b o e).1) hDs0) (Nat.lt_irrefl _)
    · obtain ⟨_, _, _, f3, _⟩ := f2 b hb
      rcases f3 with z | z
      · exact I2.ok.noex b o e z
      · exact absurd (Nat.lt_of_lt_of_le (Heap.lt_size (I2.ok.bs b o e).1) z) (Nat.lt_irrefl _)
  have exF : ∀ b ∈ D :: fp, b ∉ frs X.stack := fun b hb hf => by
    rcases List.mem_cons.mp hb with rfl | hb
    · exact hDf hf
    · obtain ⟨_, f1, f2', _⟩ := f2 b hb
      rcases List.mem_cons.mp (I2.stkSub b hf) with z | z
      · exact f1 z
      · exact f2' z
  have cge : ∀ y c, (cellsFrom (s3.heap.objs.size + 1) scope.names []).lookup y = some c → s3.heap.objs.size < c := fun y c e => x4.above y c (PySem.mem_of_lookup e)
  have exLt : ∀ b ∈ D :: fp, b < s3.heap.objs.size := fun b hb => by
    rcases List.mem_cons.mp hb with rfl | hb
    · exact dl3
    · exact fp3 b hb
  have okB : (cxBlk X NB scope s3 H2 (D :: fp)).Ok := by
    refine ⟨I3.ok.mod, S.kind, I3.ok.glob, I3.ok.blt, Nat.le_refl _, fun y z c h1 h2 => ?_, fun y hy => ?_, fun y c _ h => Nat.le_of_lt (cge y c h), I3.ok.hd, I3.ok.frames, .inl rfl, fun b hb => ⟨Nat.ne_of_lt (exLt b hb), fun y c e z => ?_⟩, I3.bs, Nat.le_trans I3.ok.bsz I3.sz, bsN, exF, I3.stack, I3.stkFree⟩
    · exact name_of_addr x4.apart (PySem.mem_of_lookup h1) (PySem.mem_of_lookup h2)
    · have hy : scope.names.lookup y = some .cell ∨ scope.names.lookup y = some .free := hy
      rcases hy with hy | hy
      · exact cell_has hy
      · exact absurd rfl (S.nofree _ (PySem.mem_of_lookup hy))
    · have := cge y c e
      rw [z] at this
      exact absurd (Nat.lt_trans this (exLt b hb)) (Nat.lt_irrefl _)
  have rep : ∀ (j : Nat) (v : V), (List.replicate NB.length (none : Option V))[j]? ≠ some (some v) := fun j v z => by
    rw [List.getElem?_replicate] at z
    split at z <;> cases z
  have IB : Inv (cxBlk X NB scope s3 H2 (D :: fp)) [(D, lstO [])] (List.replicate NB.length none) H2 { s3 with heap := h4, toks := tk4 } := by
    refine ⟨okB, rfl, I3.bare, Un.kept hk4, ⟨_, x4.toInCall.ns, fun i y v h1 h2 h3 => absurd h2 (rep i v)⟩, fun y c h => ⟨_, x4.cell y c h⟩, I3.hok.fresh (Nat.le_refl _), fun y c h => I3.hok.fresh (Nat.le_of_lt (cge y c h)), fun p hp => ?_, I3.hok.kept hk4, by rw [List.length_replicate]⟩
    obtain rfl : p = (D, lstO []) := by simpa using hp
    exact ⟨hk4 _ _ hD3, hD2, Nat.ne_of_lt dl3, hDf, fun v z => nomatch z⟩
  -- what stays true of the iterator's objects
  have stat : ∀ {H' : Hp} {ys : List Value}, (∀ b ∈ fp, H' b = none) → ∀ b ∈ fp, FpOk (cxBlk X NB scope s3 H2 (D :: fp)) [(D, lstO ys)] H' b := fun hn b hb =>
    ⟨hn b hb, Nat.ne_of_lt (fp3 b hb), exF b (List.mem_cons_of_mem _ hb), .inl (List.mem_cons_of_mem _ hb), fun y c e z => by
      have := cge y c e
      rw [z] at this
      exact absurd (Nat.lt_trans this (fp3 b hb)) (Nat.lt_irrefl _), fun p hp => by
        obtain rfl : p = (D, _) := by simpa using hp
        exact (DfpN b hb).symm⟩
  have st4 : tn 0 h4 := T.keep _ _ _ st3 fun b _ o e => hk4 b o e
  have fr4 : ∀ b ∈ fp, H2 b = none := fun b hb => (f2 b hb).1
  have hcB : (cxBlk X NB scope s3 H2 (D :: fp)).calm = true := hc
  have loop : codeAny (model X.prog X.w) X.A (.compLoop (.ListComp elt [⟨tg, iter, ifs, 0⟩] scope pos) 0 (.ref it) (.ref D) (blkEnv scope X.env s3.heap.objs.size))
      (compPost (model X.prog X.w) X.A X.xe none (EP X pins σ Q) (.ref D) s3.heap.objs.size) { s3 with heap := h4, toks := tk4 } := by
    refine comp_loop (fun n s' => ∃ i vs ys H', Inv (cxBlk X NB scope s3 H2 (D :: fp)) [(D, lstO ys)] (List.replicate NB.length none) H' s' ∧ Vals vs ys ∧ vs.length ≤ sizeLine ∧ tn i s'.heap ∧ (∀ b ∈ fp, H' b = none) ∧ W i n vs H') ?_ m0 ⟨0, [], [], H2, IB, .nil, Nat.zero_le _, st4, fr4, w0⟩
    rintro n s5 ⟨i, vs, ys, H5, I5, rv, hvl, st5, fr5, w5⟩
    rcases turn i n vs H5 w5 with ⟨stop, qn⟩ | ⟨go, hlt, N, hN, step⟩
    · refine wpAny_mono (T.done (cxBlk X NB scope s3 H2 (D :: fp)) rfl rfl rfl hcB i _ s5 _ H5 (fun _ _ => False) I5 (stat fr5) st5 stop) (fun r s6 ⟨hr, I6⟩ => ?_) (fun _ _ z => z.elim)
      subst hr
      obtain ⟨m6, hn6, _⟩ := id I6.loc
      refine ⟨m6, hn6, fun h7 sb7 => ?_⟩
      have kp7 : ∀ b o, b ≠ s3.heap.objs.size → s6.heap.get? b = some o → h7.get? b = some o := fun b o hb e => (sb7.2 b hb).trans e
      have hC6 : H5 s3.heap.objs.size = none := I6.free
      have un7 : Un (frs X.stack) (D :: fp) H2 H5 s3.heap h7 := by
        have u := I6.base
        refine ⟨fun b o e n hb hx => kp7 b o (Nat.ne_of_lt (Heap.lt_size e)) (u.keep b o e n hb hx), fun b o e n hb hx => ?_, u.free, fun b o e hx => ?_, u.tups, u.frzs, u.tbls⟩
        · obtain ⟨sl, q⟩ := u.slot b o e n hb hx
          exact ⟨sl, kp7 b _ (Nat.ne_of_lt (Heap.lt_size e)) q⟩
        · obtain ⟨o', q⟩ := u.there b o e hx
          exact ⟨o', kp7 b _ (Nat.ne_of_lt (Heap.lt_size e)) q⟩
      have hok7 : HOk X.prog X.w H5 h7 := fun b u e => (I6.hok b u e).stay (fun c w' hcc q => kp7 c w' (by
        rintro rfl
        rcases hcc with rfl | hcc
        · rw [hC6] at e; cases e
        · rw [hC6] at hcc; cases hcc) q) (fun _ q => q) fun _ _ q => q
      have I7 : Inv X pins σ H5 { s6 with heap := h7 } := I3.call' (s' := { s6 with heap := h7 }) I6.os un7 hok7 I6.bare fun b hb => by
        rcases List.mem_cons.mp hb with rfl | hb
        · exact ⟨.inr hDs0, hDL, hDC, hDp⟩
        · obtain ⟨_, f1, _, f3, f4, f5⟩ := f2 b hb
          exact ⟨f3, f1, f4, f5⟩
      obtain ⟨eD, nD, _⟩ := I6.pin (D, lstO ys) (by simp)
      have nD' : H5 D = none := nD
      have eD' : h7.get? D = some (lstO ys) := kp7 D _ (Nat.ne_of_lt dl3) eD
      have hD0 : X.s₀.heap.get? D = none := by
        cases q : X.s₀.heap.get? D with
        | none => rfl
        | some o => exact absurd (Nat.lt_of_lt_of_le (Heap.lt_size q) hDs0) (Nat.lt_irrefl _)
      exact ⟨.ref D, upd H5 D (.lst vs), I7.track nD' hD0 hDL hDC hDp ⟨hvl, ys, ys.length, rv, eD'⟩, rfl, qn D nD'⟩
    · refine wpAny_mono (T.item (cxBlk X NB scope s3 H2 (D :: fp)) rfl rfl rfl hcB i _ s5 _ H5 (fun _ _ => False) I5 (stat fr5) st5 go) (fun r s6 ⟨u, hr, h6⟩ => ?_) (fun _ _ z => z.elim)
      subst hr
      refine wpAny_mono h6 (fun _ s7 ⟨x, H7, I7, r7, y7, st7, fr7⟩ => ?_) (fun _ _ z => z.elim)
      have I7' := I7.pinned (stat fr7) (T.obj _ _ st7)
      refine wpAny_mono (hg s3 H2 (D :: fp) _ s7 _ H7 x u _ I7' r7 (step x H7 y7)) (fun _ s8 ⟨σ8, H8, I8, q8⟩ => ?_) (fun _ _ z => z.elim)
      refine wpAny_mono (ht s3 H2 (D :: fp) _ s8 σ8 H8 _ I8 q8) (fun ok s9 ⟨H9, I9, q9⟩ => ?_) (fun _ _ z => z.elim)
      have fpK : ∀ {σ' : St} {H' : Hp} {s' : Shared}, Inv (cxBlk X NB scope s3 H2 (D :: fp)) ([(D, lstO ys)] ++ pinsAt fp s7.heap) σ' H' s' → tn (i + 1) s'.heap ∧ ∀ b ∈ fp, H' b = none := fun J =>
        ⟨T.keep _ _ _ st7 fun b hb o e => (J.pin (b, o) (List.mem_append_right _ (List.mem_append_right _ (mem_pinsAt hb e)))).1, fun b hb => by
          obtain ⟨o, e, d⟩ := T.obj _ _ st7 b hb
          exact (J.pin (b, o) (List.mem_append_right _ (List.mem_append_right _ (mem_pinsAt hb e)))).2.1⟩
      have wk : ∀ {σ' : St} {H' : Hp} {s' : Shared} {pl : List (Addr × Obj)}, Inv (cxBlk X NB scope s3 H2 (D :: fp)) pl σ' H' s' → Inv (cxBlk X NB scope s3 H2 (D :: fp)) pl (List.replicate NB.length none) H' s' := fun J =>
        J.weak (by rw [List.length_replicate]; exact J.len.symm) fun j v z => absurd z (rep j v)
      cases ok with
      | false =>
        rw [if_neg (by decide)] at q9
        rw [if_neg (by decide)]
        obtain ⟨m', hm, w9⟩ := hN vs H9 q9
        obtain ⟨t9, f9⟩ := fpK I9
        exact ⟨m', hm, i + 1, vs, ys, H9, wk I9.unpinned, rv, hvl, t9, f9, w9⟩
      | true =>
        rw [if_pos rfl] at q9
        rw [if_pos rfl]
        refine wpAny_mono (he s3 H2 (D :: fp) _ s9 σ8 H9 _ I9 q9) (fun y s10 ⟨v, H10, I10, rv10, q10⟩ => ?_) (fun _ _ z => z.elim)
        obtain ⟨eD, nD, _, nf, _⟩ := I10.pin (D, lstO ys) (by simp)
        have hyl := rv.length
        refine append_at (hsz := by show ys.toArray.size ≤ sizeLine; rw [List.size_toArray, ← hyl]; exact hvl) eD fun h11 sb11 hD11 => ?_
        obtain ⟨m', hm, w11⟩ := hN (vs ++ [v]) H10 q10
        obtain ⟨t10, f10⟩ := fpK I10
        have I10u := I10.unpinned
        have k11 : ∀ b o, b ≠ D → s10.heap.get? b = some o → h11.get? b = some o := fun b o hb e => (sb11.2 b hb).trans e
        have IE : Inv (cxBlk X NB scope s3 H2 (D :: fp)) [] σ8 H10 s10 := I10u.pins_of fun p hp => nomatch hp
        have I11 : Inv (cxBlk X NB scope s3 H2 (D :: fp)) [] σ8 H10 { s10 with heap := h11 } := IE.turned (t' := s10.toks) k11 nD (Nat.ne_of_lt dl3) (.inl List.mem_cons_self) (fun y' c e z => by
          have := cge y' c e
          rw [z] at this
          exact absurd (Nat.lt_trans this dl3) (Nat.lt_irrefl _)) (fun p hp => absurd (show p ∈ ([] : List (Addr × Obj)) from hp) (by simp))
        have eL : ({ cls := .type "list", data := .seq (ys.toArray.push y) (ys.length + 1) } : Obj) = lstO (ys ++ [y]) := by
          show ({ cls := .type "list", data := .seq (ys.toArray.push y) (ys.length + 1) } : Obj) = { cls := .type "list", data := .seq (ys ++ [y]).toArray (ys ++ [y]).length }
          rw [List.length_append, List.length_singleton, List.push_toArray]
        refine ⟨m', hm, i + 1, vs ++ [v], ys ++ [y], H10, wk (I11.pins_of fun p hp => ?_), rv.append (.cons rv10 .nil), by rw [List.length_append, List.length_singleton]; exact hlt, T.keep _ _ _ t10 fun b hb o e => k11 b o (DfpN b hb) e, f10, w11⟩
        obtain rfl : p = (D, lstO (ys ++ [y])) := by simpa using hp
        exact ⟨by rw [← eL]; exact hD11, nD, Nat.ne_of_lt dl3, nf, fun v z => nomatch z⟩
  exact codeAny_compStart_list loop (T.self _ 0 _ _ _ st4 loop)
end
end L2

set_option Elab.async false
set_option linter.all false
set_option maxRecDepth 100000
/-! texts: methods, slices, join of a list turned round -/
namespace L2
open PySem PySem.Spec PyProof.Rows
open Builtin Builtin.Str
section
variable {prog : Program} {w : World} {A : Around} {E : Value → Shared → Prop} {s : Shared}
theorem call_gives {name : Str} {id : String} {B : Builtin} {x : Str} {t : Tok} {rest : List Value} {m : Made} {Q : Value → Shared → Prop} (slot : Slot "str" name id) (entry : entryFor table id = some B) (args : argsOk id ⟨.str x t :: rest, []⟩)
    (g : Gives (B ⟨.str x t :: rest, []⟩) m) (h : m.post Q s) : wpAny (model prog w) A (call (.builtin id) (.str x t :: rest)) Q E s :=
  wpAny_call (codeAny_call_builtin slot.plain entry (slot.check _ _ _ _ _ _ _ _ (typeIs_str _ _ _) args (g prog w A (wants Q E) s h)))
end
section
variable {X : Cx}
def rTxt (C : Str → Str → Prop) (f : Str → Str → V) : V → List V → Hp → VK → Prop := fun x vs H Q => ∃ z y, x = .str z ∧ vs = [.str y] ∧ C z y ∧ Q (f z y) H
def CLen (z _ : Str) : Prop := z.length ≤ sizeLine
theorem mt_strip : MtR X "str.strip" (rTxt CLen fun z y => .str (Txt.stripChars z y)) := by
  intro pins s σ H x vs v us Q I rx rv h
  obtain ⟨z, y, rfl, rfl, hl, q⟩ := h
  obtain ⟨t, rfl⟩ := rx
  obtain ⟨u, rfl, t', rfl⟩ := vals1 rv
  exact call_gives F.slot_str_strip F.entry_str_strip (F.args_str_strip_2 _ _) (gives_str_strip_chars z y t t') (post_val_or_made (fun _ => fits_stripped _ _ _ hl) fun t2 k => ⟨.str _, H, I.tok k, ⟨t2, rfl⟩, q⟩)
theorem mt_startswith : MtR X "str.startswith" (rTxt (fun _ _ => True) fun z y => .bl (Txt.startswith z y)) := by
  intro pins s σ H x vs v us Q I rx rv h
  obtain ⟨z, y, rfl, rfl, _, q⟩ := h
  obtain ⟨t, rfl⟩ := rx
  obtain ⟨u, rfl, t', rfl⟩ := vals1 rv
  exact call_gives F.slot_str_startswith F.entry_str_startswith (F.args_str_startswith_2 _ _) (gives_str_startswith z y t t') ⟨.bl _, H, I, rfl, q⟩
theorem mt_zfill : MtR X "str.zfill" (fun x vs H Q => ∃ z i, x = .str z ∧ vs = [.int i] ∧ PadOk i = true ∧ Q (.str (Txt.zfill z i)) H) := by
  intro pins s σ H x vs v us Q I rx rv h
  obtain ⟨z, i, rfl, rfl, hp, q⟩ := h
  obtain ⟨t, rfl⟩ := rx
  obtain ⟨u, rfl, t', rfl⟩ := vals1 rv
  exact call_gives F.slot_str_zfill F.entry_str_zfill (F.args_str_zfill_2 _ _) (gives_str_zfill z i t t' (PadOk.parts hp).1 (PadOk.parts hp).2) (post_val_or_made (fits_zfilled (PadOk.parts hp).2) fun t2 k => ⟨.str _, H, I.tok k, ⟨t2, rfl⟩, q⟩)
/-- the three parts of a text -/
def parts3 (z y : Str) : List V := match occurrences z y 0 z.length 1 with
  | i :: _ => [.str (strSub z 0 i), .str y, .str (strSub z (i + y.length) z.length)]
  | [] => [.str z, .str Str.empty, .str Str.empty]
theorem mt_partition : MtR X "str.partition" (fun x vs H Q => ∃ z y, x = .str z ∧ vs = [.str y] ∧ (y.length == 0) = false ∧ z.length ≤ sizeLine ∧ ∀ p, H p = none → Q (.ref p) (upd H p (.tup (parts3 z y)))) := by
  intro pins s σ H x vs v us Q I rx rv h
  obtain ⟨z, y, rfl, rfl, hy, hl, q⟩ := h
  obtain ⟨t, rfl⟩ := rx
  obtain ⟨u, rfl, t', rfl⟩ := vals1 rv
  have hf : H s.heap.objs.size = none := I.hok.fresh (Nat.le_refl _)
  refine call_meets F.slot_str_partition (typeIs_str _ _ _) F.entry_str_partition (F.args_str_partition_2 _ _) (meets_str_partition z y t t' hy hl) ?_
  unfold parts3 at q
  cases e : occurrences z y 0 z.length 1 with
  | nil =>
    rw [e] at q
    refine ⟨.ref s.heap.objs.size, upd H s.heap.objs.size (.tup [.str z, .str Str.empty, .str Str.empty]), I.laid (t' := s.toks + 1) (fun b ob q => Heap.get?_push_of_some _ q) (Nat.le_refl _) ?_, rfl, q _ hf⟩
    exact ⟨by show 3 ≤ sizeLine; decide, [.str z t, .str Str.empty s.toks, .str Str.empty s.toks], .cons ⟨_, rfl⟩ (.cons ⟨_, rfl⟩ (.cons ⟨_, rfl⟩ .nil)), IsTup.new s.heap _⟩
  | cons i r =>
    rw [e] at q
    refine ⟨.ref s.heap.objs.size, upd H s.heap.objs.size (.tup [.str (strSub z 0 i), .str y, .str (strSub z (i + y.length) z.length)]), I.laid (t' := s.toks + 1 + 1) (fun b ob q => Heap.get?_push_of_some _ q) (Nat.le_refl _) ?_, rfl, q _ hf⟩
    exact ⟨by show 3 ≤ sizeLine; decide, [.str (strSub z 0 i) s.toks, .str y t', .str (strSub z (i + y.length) z.length) (s.toks + 1)], .cons ⟨_, rfl⟩ (.cons ⟨_, rfl⟩ (.cons ⟨_, rfl⟩ .nil)), IsTup.new s.heap _⟩
theorem sl_str : SlR X (fun x lo hi H Q => ∃ z, x = .str z ∧ z.length ≤ sizeLine ∧ Q (.str (StrLaws.sliceText z lo hi)) H) := by
  intro pins s σ H x v vl vu lo hi sl Q I rx hs pl pu h
  obtain ⟨z, rfl, hl, q⟩ := h
  obtain ⟨t, rfl⟩ := rx
  have part : ∀ {v : Value} {o : Option Int}, IsPart v o → ∃ p : Option (Int × Tok), v = partValue p ∧ p.map (·.1) = o := fun p => by
    cases p with
    | none => exact ⟨none, rfl, rfl⟩
    | int i t => exact ⟨some (i, t), rfl, rfl⟩
  obtain ⟨p, rfl, rfl⟩ := part pl
  obtain ⟨p2, rfl, rfl⟩ := part pu
  refine ⟨"str", _, F.slot_str_getitem.lookup, typeIs_str _ _ _, ?_⟩
  refine wpAny_getItem_str_slice (l := p) (u := p2) (st := none) hs rfl ?_
  unfold sliceMade slicePicked
  refine post_val_or_made (fun _ => ?_) fun t2 k => ⟨.str (StrLaws.sliceText z (p.map (·.1)) (p2.map (·.1))), H, I.tok k, ⟨t2, rfl⟩, q⟩
  show (List.filterMap _ _).toArray.size ≤ sizeLine
  rw [List.size_toArray]
  exact Nat.le_trans (List.length_filterMap_le _ _) (Nat.le_trans (sliceIndices_le _ _ _) hl)
end
end L2

set_option Elab.async false
set_option linter.all false
set_option maxRecDepth 100000
/-! join of a list turned round; lists compared; more of texts and calls -/
namespace L2
open PySem PySem.Spec PyProof.Rows
open Builtin Builtin.Str
theorem nolen_lri : typeLookup (.type "list_reverseiterator") "__len__" = pure none := by rw [typeLookup_type, builtinLookup_eq_fast]; kernel_rfl
theorem hint_lri : typeLookup (.type "list_reverseiterator") "__length_hint__" = pure (some (.builtin "list_reverseiterator.__length_hint__")) := by rw [typeLookup_type, builtinLookup_eq_fast]; kernel_rfl
section
variable {prog : Program} {w : World} {A : Around} {E : Value → Shared → Prop} {s : Shared}
theorem walks_rev (hh : A.handled = none) (I l : Addr) (hne : l ≠ I) (items : Array Value) :
    WalksS prog w A I [I, l] [I] (fun a b => a = b) items.size (fun i v => items[items.size - 1 - i]? = some v) (fun i s => i ≤ items.size ∧ s.heap.IsRevIter I l ((items.size : Int) - 1 - (i : Int)) ∧ s.heap.IsList l items) where
  sub := fun b hb => by simp at hb; simp [hb]
  grefl := fun _ => rfl
  gtrans := fun _ _ _ a b => a.trans b
  frame := fun i s h' tk x _ hk => ⟨x.1, x.2.1.at fun o e => hk I (by simp) o e, x.2.2.at fun o e => hk l (by simp) o e⟩
  item := fun i s Q E hi x hQ => by
    have e : (items.size : Int) - 1 - (i : Int) = ((items.size - 1 - i : Nat) : Int) := by omega
    have hit := x.2.1
    rw [e] at hit
    have hx : items[items.size - 1 - i]? = some (items[items.size - 1 - i]'(by omega)) := Array.getElem?_eq_getElem (by omega)
    refine wpAny_pyNext_rev_item hit x.2.2 hx fun h' hit' hs' => ?_
    have e2 : ((items.size - 1 - i : Nat) : Int) - 1 = (items.size : Int) - 1 - ((i + 1 : Nat) : Int) := by omega
    rw [e2] at hit'
    exact hQ _ _ hx ⟨hi, hit', x.2.2.at fun o eo => (hs'.2 l hne).trans eo⟩ ⟨fun b o hb eo => hs'.extBut b o (fun h => hb (by simp [h])) eo, rfl, rfl, rfl, Nat.le_refl _⟩
  done := fun s Q E x hQ => by
    have e : (items.size : Int) - 1 - (items.size : Int) = -1 := by omega
    have hit := x.2.1
    rw [e] at hit
    exact wpAny_pyNext_rev_end hh hit fun h' he' => hQ _ ⟨fun b o hb eo => he' b o (fun h => hb (by simp [h])) eo, rfl, rfl, rfl, Nat.le_refl _⟩
  self := fun _ _ _ _ x hQ => wpAny_pyIter_revIter x.2.1 hQ
variable {I : Addr} {fp wr : List Addr} {G : Array GenState → Array GenState → Prop} {n : Nat} {P : Nat → Value → Prop} {St : Nat → Shared → Prop}
theorem collect_lri {Q : List Value → Shared → Prop} (W : WalksS prog w A.in1 I fp wr G n P St) (hT : ∀ i s, St i s → s.TypeIs (.ref I) "list_reverseiterator") (hst : St 0 s) (hfp : ∀ b ∈ fp, b < s.heap.objs.size) (hI : I ∈ fp)
    (hQ : ∀ s' acc, Moved wr G s s' → ItemsOf P acc n → Q acc.toList s') (hn : n ≤ sizeLine) : wpAny (model prog w) A (collect (.ref I)) Q E s := by
  have hSf : s.heap.objs.size ∉ fp := fun hm => Nat.lt_irrefl _ (hfp _ hm)
  have hSI : s.heap.objs.size ≠ I := fun e => hSf (e ▸ hI)
  unfold collect
  refine wpAny_bind (wpAny_runValue (codeAny_builtin F.entry_proto_collect ?_))
  rw [Around.under_plainId F.plain_proto_collect _]
  show wpAny _ A.in1 (newList [] >>= fun l => again (.builtin "list.__iadd__" ⟨[l, .ref I], []⟩)) _ _ s
  refine wpAny_bind (wpAny_newObj_type ?_)
  refine wpAny_pure ⟨plainId_quiet F.plain_list_iadd _, codeAny_builtin F.entry_list_iadd ?_⟩
  rw [Around.under_plainId F.plain_list_iadd _]
  have hst₁ := W.frame 0 s (s.heap.push { cls := .type "list", data := .seq ([] : List Value).toArray }) s.toks hst (Nat.le_refl _) fun b _ o e => Heap.get?_push_of_some _ e
  have hS₁ : (s.heap.push { cls := .type "list", data := .seq ([] : List Value).toArray }).get? s.heap.objs.size = some { cls := .type "list", data := .seq ([] : List Value).toArray } := Heap.get?_push_size _ rfl
  have h1 : Builtin.List.listSameRef (.ref s.heap.objs.size) (.ref I) = false := by simp [Builtin.List.listSameRef, hSI]
  show wpAny _ A.in1 (Builtin.List.listExtendWith (.ref s.heap.objs.size) (.ref I) (.ref s.heap.objs.size)) _ _ _
  unfold Builtin.List.listExtendWith
  refine wpAny_bind (wpAny_typeOf (hT 0 _ hst₁) ?_)
  rw [if_neg (by rw [h1]; decide)]
  refine wpAny_bind (W.self 0 _ _ _ hst₁ ?_)
  refine wpAny_bind (wpAny_holding ?_)
  unfold Builtin.List.listLengthHint
  refine wpAny_bind (wpAny_specialOf (hT 0 _ hst₁) nolen_lri ?_)
  show wpAny _ A.in1 (specialOf (Value.ref I) (Str.ofString "__length_hint__") >>= _) _ _ _
  refine wpAny_bind (wpAny_specialOf (hT 0 _ hst₁) hint_lri ?_)
  generalize hid : ("list_reverseiterator.__length_hint__" : String) = id0
  (fail_if_success (clear hid id0))
  wp_delta
  rw [show splitId id0 = some ("list_reverseiterator", "__length_hint__") from by subst hid; decide +kernel]
  subst hid
  refine wpAny_bind (wpAny_isInstance (b := true) (hT 0 _ hst₁) (by rw [isSubtype_type]; kernel_rfl) ?_)
  refine wpAny_pure ?_
  rw [if_neg (by decide)]
  refine wpAny_pure ⟨plainId_quiet F.plain_extend_loop _, codeAny_extend_loopS W hn _ hSf _ n 0 _ _ _ rfl (Nat.zero_le _) hst₁ hS₁ (ItemsOf.nil P) fun s' acc' c' hm hS' hacc => ?_⟩
  show wpAny _ A (load s.heap.objs.size >>= _) _ _ s'
  refine wpAny_bind (wpAny_load hS' ?_)
  exact wpAny_pure (hQ s' acc' (Moved.drop_new (o := { cls := .type "list", data := .seq ([] : List Value).toArray }) (tk := s.toks) hm (Nat.le_refl _)) hacc)
theorem join_rev {x : Str} {t : Tok} {Q : Value → Shared → Prop} (W : WalksS prog w A.in1.in1 I fp wr G n P St) (hT : ∀ i s, St i s → s.TypeIs (.ref I) "list_reverseiterator") (hst : St 0 s) (hfp : ∀ b ∈ fp, b < s.heap.objs.size) (hI : I ∈ fp)
    (hstr : ∀ i v, P i v → ∃ y u, v = Value.str y u)
    (hq : ∀ s' (l : List (Str × Tok)), Moved wr G s s' → ItemsOf P (strValues l).toArray n → JoinOk x (l.map (·.1)) = true ∧ ∀ t' k, Q (.str (Txt.join x (l.map (·.1))) t') { s' with toks := k }) (hsz : n ≤ sizeLine) :
    wpAny (model prog w) A (call (.builtin "str.join") [.str x t, .ref I]) Q E s := by
  refine wpAny_call (codeAny_call_builtin F.slot_str_join.plain F.entry_str_join (F.slot_str_join.check _ _ _ _ _ _ _ _ (typeIs_str _ _ _) (F.args_str_join_2 _ _) ?_))
  rw [join_tree_other]
  refine wpAny_bind (wpAny_typeOf (hT 0 s hst) ?_)
  show wpAny _ A.in1 ((pyIter (.ref I)).tryCatch _ >>= fun it => collect it >>= fun items => joinTail x items) _ _ s
  refine wpAny_bind (wpAny_tryCatch (W.of_in1.self 0 s _ _ hst ?_))
  refine wpAny_bind (collect_lri W hT hst hfp hI (fun s' acc hm hacc => ?_) hsz)
  obtain ⟨l, hl⟩ := exists_strValues acc.toList fun v hv => by
    obtain ⟨j, hj, rfl⟩ := Array.mem_iff_getElem.mp (Array.mem_toList_iff.mp hv)
    exact hstr j _ (hacc.2 j _ (Array.getElem?_eq_getElem hj))
  rw [← hl]
  have hacc' : ItemsOf P (strValues l).toArray n := by rw [hl]; simpa using hacc
  obtain ⟨hok, hpost⟩ := hq s' l hm hacc'
  unfold JoinOk at hok
  rw [Bool.not_eq_true'] at hok
  have g : Gives (joinTail x (strValues l)) (joinMade x l) := by
    have g0 := gives_joinTail x l hok
    cases l with
    | nil => exact g0
    | cons p r => cases r with
      | nil => exact g0
      | cons q r' => exact g0
  exact g prog w A (wants Q E) s' (post_join l ⟨joinFit_length hok, hpost⟩)
end
end L2

set_option Elab.async false
set_option linter.all false
set_option maxRecDepth 100000
namespace L2
open PySem PySem.Spec PyProof.Rows
open Builtin Builtin.Str
theorem boot_reversed : bootBuiltins "reversed" = some (.type "reversed") := by boot_by_name
section
variable {X : Cx}
def tJR (to te : TE) : TE := fun σ H Q => to σ H fun x H1 => ∃ z, x = .str z ∧ te σ H1 fun y H2 => ∃ (l : Addr) (ys : List Str), y = .ref l ∧ H2 l = some (.lst (ys.map V.str)) ∧ JoinOk z ys.reverse = true ∧ Q (.str (Txt.join z ys.reverse)) H2
theorem pe_joinrev {o e : Expr} {to te : TE} {apos rpos cpos p : Pos} (hc : X.calm = true) (hg : Gl X "reversed") (hm : X.mg "reversed" = none) (ho : PE X o to) (he : PE X e te)
    (hbase : attributeBase o "join" X.env (eval o X.env) = eval o X.env := by rfl) (hline : (apos.endLine == cpos.line) = true := by rfl) (hs : starEach [e] X.env = [(false, eval e X.env)] := by rfl) :
    PE X (.Call (.Attribute o "join" apos) [.Call (.Name "reversed" p) [e] [] rpos] [] cpos) (tJR to te) := by
  intro pins s σ H Q I h
  refine wpAny_Call_method_late hbase rfl hline rfl (thn (ho pins s σ H _ I h) fun v s1 ⟨x, H1, I1, r1, q1⟩ => ?_)
  obtain ⟨z, rfl, q1⟩ := q1
  obtain ⟨t, rfl⟩ := r1
  refine ⟨"str", "str.join", PySem.F.plainAttrs_str, PySem.F.slot_str_join, PySem.F.type_str_join, typeIs_str _ _ _, (fun _ e => nomatch e), ?_⟩
  refine Calls.callWith_builtin rfl (Calls.evalArgs_plain ?_)
  show wpAny _ _ (spliced ((false, eval (.Call (.Name "reversed" p) [e] [] rpos) X.env) :: [])) _ _ s1
  refine Calls.spliced_cons ?_
  refine wpAny_Call_Name_kw (ld_blt I1 hg hm boot_reversed ?_ (by decide) (by decide))
  refine PyProof.Rows.callWith_type1 ?_ hs rfl
  rw [hs]
  show wpAny _ _ (spliced ((false, eval e X.env) :: [])) _ _ s1
  refine Calls.spliced_cons (thn (he pins s1 σ H1 _ I1 q1) fun y s2 ⟨yv, H2, I2, r2, l, ys, e2, hl, hj, q2⟩ => Calls.spliced_nil ?_)
  subst e2
  obtain rfl : y = Value.ref l := r2
  obtain ⟨zz, its, n, rv, hlen, eo⟩ := I2.lstM hl
  have hil : s2.heap.IsList l its.toArray := ⟨_, eo, rfl, n, rfl⟩
  have lenI : its.length = ys.length := by rw [← rv.length, List.length_map]
  refine call_reversed_list hil ?_
  refine Calls.spliced_nil ?_
  have up : ∀ b o, s2.heap.get? b = some o → (s2.heap.push (revObj l ((its.toArray.size : Int) - 1))).get? b = some o := fun b o e => Heap.get?_push_of_some _ e
  have I3 : Inv X pins σ H2 { s2 with heap := s2.heap.push (revObj l ((its.toArray.size : Int) - 1)) } := I2.kept (t' := s2.toks) up
  have hne : l ≠ s2.heap.objs.size := Nat.ne_of_lt (Heap.lt_size eo)
  have hh : X.A.in1.in1.handled = none := I2.ok.hd hc
  have hstr0 : ∀ (i : Nat) (u : Value), its.toArray[its.toArray.size - 1 - i]? = some u → ∃ y t, u = Value.str y t := fun i u hu => by
    have h1 : its[its.toArray.size - 1 - i]? = some u := by simpa using hu
    have hlt := (List.getElem?_eq_some_iff.mp h1).1
    have h2 : (ys.map V.str)[its.toArray.size - 1 - i]? = some ((ys.map V.str)[its.toArray.size - 1 - i]'(by rw [List.length_map]; omega)) := List.getElem?_eq_getElem _
    obtain ⟨u', e', r'⟩ := rv.get h2
    rw [h1] at e'
    cases e'
    rw [List.getElem_map] at r'
    obtain ⟨t', rfl⟩ := r'
    exact ⟨_, _, rfl⟩
  show wpAny _ _ (call (.builtin "str.join") [.str z t, .ref s2.heap.objs.size]) _ _ _
  refine join_rev (walks_rev hh s2.heap.objs.size l hne its.toArray) (fun i s x => x.2.1.typeIs) ⟨Nat.zero_le _, ⟨_, Heap.get?_push_size _ rfl, rfl, by simp [revObj]⟩, hil.push _⟩ (fun b hb => ?_) (by simp) hstr0 (fun s' ls hm hi => ?_) ?_
  · show b < (s2.heap.push _).objs.size
    rw [Heap.size_push]
    rcases List.mem_cons.mp hb with rfl | hb
    · exact Nat.lt_succ_self _
    · rw [List.mem_singleton.mp hb]; exact Nat.lt_succ_of_lt (Heap.lt_size eo)
  · have els : ls.map (·.1) = ys.reverse := by
      have hsz : ls.length = its.length := by
        have := hi.1
        unfold strValues at this
        simpa using this
      refine List.ext_getElem? fun j => ?_
      by_cases hj : j < ls.length
      · have e1 : (strValues ls).toArray[j]? = some (Value.str ls[j].1 ls[j].2) := by
          unfold strValues
          simp [hj]
        have e2 := hi.2 j _ e1
        have e3 : its[its.toArray.size - 1 - j]? = some (Value.str ls[j].1 ls[j].2) := by simpa using e2
        have h2 : (ys.map V.str)[its.toArray.size - 1 - j]? = some ((ys.map V.str)[its.toArray.size - 1 - j]'(by rw [List.length_map, List.size_toArray]; omega)) := List.getElem?_eq_getElem _
        obtain ⟨u', e', r'⟩ := rv.get h2
        rw [e3] at e'
        cases e'
        rw [List.getElem_map] at r'
        obtain ⟨t', r'⟩ := r'
        have hq := (Value.str.inj r').1
        rw [List.getElem?_map, List.getElem?_eq_getElem hj, List.getElem?_reverse (by omega)]
        simp only [Option.map_some]
        have hix : its.toArray.size - 1 - j = ys.length - 1 - j := by rw [List.size_toArray, lenI]
        simp only [hix] at hq
        rw [List.getElem?_eq_getElem (by omega), hq]
      · rw [List.getElem?_eq_none (by rw [List.length_map]; omega), List.getElem?_eq_none (by rw [List.length_reverse]; omega)]
    rw [els]
    refine ⟨hj, fun t' k => ?_⟩
    obtain ⟨h', g', d', tk', os'⟩ := s'
    obtain rfl : g' = s2.gens := hm.gens.symm
    obtain rfl : d' = s2.drawn := hm.drawn
    obtain rfl : os' = s2.os := hm.os
    have fr : H2 s2.heap.objs.size = none := I2.hok.fresh (Nat.le_refl _)
    have F3 := I2.fpOk (Nat.le_refl _) fr
    obtain ⟨f0, f1, f2, f3, f4, f5⟩ := F3
    refine ⟨.str _, H2, ?_, ⟨t', rfl⟩, q2⟩
    exact (I3.turned (h' := h') (t' := k) (it := s2.heap.objs.size) (fun b o hb e => hm.heap b o (by simpa using hb) e) f0 f1 f3 f4 f5 :)
  · rw [List.size_toArray, lenI, ← List.length_map (f := V.str)]
    exact zz
end
end L2

set_option Elab.async false
set_option linter.all false
set_option maxRecDepth 100000
namespace L2
open PySem PySem.Spec PyProof.Rows
open Builtin Builtin.Str
section
variable {X : Cx}
/-- a text so many times, none below 1 -/
theorem op_mul_strN : OpR X (binaryOp .Mult) (fun x y H Q => ∃ z n, x = .str z ∧ y = .int n ∧ -(2 ^ 40) < n ∧ z.length * n.toNat ≤ sizeLine ∧ n < 2 ^ 40 ∧ Q (.str (repS z n.toNat)) H) := by
  intro pins s σ H x y v u Q I rx ry h
  obtain ⟨z, n, ex, ey, h0, hl, hn, q⟩ := h
  by_cases hz : 0 ≤ n
  · exact op_mul_str pins s σ H x y v u Q I rx ry ⟨z, n, ex, ey, hz, hl, hn, q⟩
  · subst ex ey
    obtain ⟨t, rfl⟩ := rx
    obtain ⟨t', rfl⟩ := ry
    refine PySem.P.mul_str ?_ ?_ ?_ ?_
    · rw [decide_eq_false (by omega), decide_eq_false (by omega)]; rfl
    · intro h1 h2 h3
      omega
    · intro h1 h2
      omega
    · rw [if_pos (by omega)]
      have e : repS z n.toNat = Str.empty := by rw [show n.toNat = 0 by omega]; rfl
      exact ⟨by decide, .str (repS z n.toNat), H, I.tok _, ⟨_, by rw [e]⟩, q⟩
end
/-- a def called with one keyword alone -/
structure DefK0 (P : Program) (w : World) (K : PySem.W.Frag) (mg : Str → Option Value) (base : Heap) (k : Nat) (x p1 : Str) (sp : Sp) : Prop where
  ex : ∃ f fd, mg x = some (.ref f) ∧ PySem.W.keepIn K (.ref f) = true ∧ (∀ (s : Shared) (v : Value), K.In s.heap → BindsTo s fd ⟨[], [(p1, v)]⟩ [(p1, v)]) ∧ FnOk P w K mg base (CXE P w) k f fd [p1] sp
section
variable {X : Cx} {k k' : Nat} {x p1 : Str} {sp : Sp} {E : XK} {p pos kpos : Pos} {e : Expr} {te : TE}
def tCallK0 (sp : Sp) (E : XK) (te : TE) : TE := fun σ H Q => te σ H fun v H1 => sp [v] H1 Q E
theorem DefK0.pe (D : DefK0 X.prog X.w X.K X.mg X.base k x p1 sp) (hr : Room k' X.A) (hk : k ≤ k') (hg : Gl X x) (hx : Passes (CXE X.prog X.w) X E) (he : PE X e te)
    (hdb : (x == ("__debug__" : Str)) = false := by decide) : PE X (.Call (.Name x p) [] [⟨some p1, e, kpos⟩] pos) (tCallK0 sp E te) := by
  obtain ⟨f, fd, h1, h2, h3, h4⟩ := D.ex
  intro pins s σ H Q I h
  refine wpAny_Call_Name_kw (ld_glob I hg h1 ?_ hdb)
  refine PySem.W.callWith_KW0 (h₀ := X.base) I.ok.mod.kin h2 rfl ?_ rfl
  have hK : PK X [⟨some p1, e, kpos⟩] (tCons te tNil) := pk_cons he pk_nil
  refine thn (hK pos pins s σ H (fun zs H2 => sp zs H2 Q E) I h) fun ws s2 ⟨zs, H2, I2, rz, q2⟩ => ⟨I2.kIn, ?_⟩
  have hlz := h4.len _ _ _ _ q2
  obtain ⟨v, rfl⟩ : ∃ v, zs = [v] := match zs, hlz with | [v], _ => ⟨v, rfl⟩
  obtain ⟨u, rfl, ru⟩ := vals1 rz
  refine wpAny_call (codeAny_mono (h4.run X.A X.stack s2 H2 ⟨[], [(p1, u)]⟩ [u] [v] Q E (hr.mono hk) I2.env0 (h3 s2 u I2.kIn) (.cons ru .nil) q2) fun r s' hq => ?_)
  cases r with
  | error e => exact hx pins σ H2 s2 e s' I2 hq
  | ok fl =>
    cases fl with
    | ret u => exact I2.after hq
    | next => exact False.elim hq
    | brk => exact False.elim hq
    | cont => exact False.elim hq
end
end L2

set_option Elab.async false
set_option linter.all false
set_option maxRecDepth 100000
namespace L2
open PySem PySem.Spec PyProof.Rows
/-- lo, lo + c, .. (n of them) -/
def Itr3 (lo c : Int) (n : Nat) : It := ⟨fun i _ => i < n, fun i H x H' => H' = H ∧ x = .int (lo + i * c), fun i _ => n ≤ i⟩
theorem turn_range3 {P : Program} {w : World} {K : PySem.W.Frag} {tg : Expr} (it : Addr) (lo c : Int) (n : Nat) : Turn P w K tg (Itr3 lo c n) [it] it (fun i h => IsRangeIter h it (lo + (i : Nat) * c) ((n : Int) - (i : Nat)) c) where
  mem := by simp
  obj := fun i h st b hb => by
    have e : b = it := by simpa using hb
    subst e
    exact ⟨_, st, fun v z => by
      have z' : Data.fields _ = Data.cell v := z
      cases z'⟩
  keep := fun i h h' st k => k it (by simp) _ st
  item := by
    intro X hP hw hK hc i pins s σ H E I hf st hg
    subst hP hw hK
    obtain ⟨f0, f1, f2, f3, f4, f5⟩ := hf it (by simp)
    have W := Walks.range (prog := X.prog) (w := X.w) (I.ok.hd hc) it lo c n
    refine W.item i s _ _ hg st fun v h' tk hv st' kk => ?_
    obtain ⟨t, rfl⟩ := hv
    have I1 : Inv X pins σ H { s with heap := h', toks := tk } := I.turned (fun b o hb e => kk b o (by simpa using hb) e) f0 f1 f3 f4 f5
    exact ⟨_, rfl, go_of (s := { s with heap := h', toks := tk }) (n := "range_iterator") st' rfl rfl (by decide) ⟨.int (lo + i * c), H, I1, ⟨t, rfl⟩, ⟨rfl, rfl⟩, st', fun b hb => (hf b hb).1⟩⟩
  done := by
    intro X hP hw hK hc i pins s σ H E I hf st hg
    subst hP hw hK
    obtain ⟨f0, f1, f2, f3, f4, f5⟩ := hf it (by simp)
    exact wpAny_pyNext_range_end (I.ok.hd hc) st (by have : n ≤ i := hg; omega) fun h' eb => ⟨rfl, I.turned (t' := s.toks) (fun b o hb e => eb b o hb e) f0 f1 f3 f4 f5⟩
  self := fun _ _ _ _ _ st h => wpAny_pyIter_rangeiter st h
section
variable {X : Cx} {tg : Expr}
def iRng3 (ta : TA) : TI := fun σ H R => ta σ H fun vs H1 => ∃ (i j c : Int) (n : Nat), vs = [.int i, .int j, .int c] ∧ (-(2 ^ 40) ≤ i ∧ i < 2 ^ 40 ∧ -(2 ^ 40) ≤ j ∧ j < 2 ^ 40 ∧ 0 < c ∧ c < 2 ^ 20) ∧ Builtin.Range.rangeSize i j c = (n : Int) ∧ R (Itr3 i c n) H1
theorem pi_range3 {a b d : Expr} {ta : TA} {p pos : Pos} (hg : Gl X "range") (hm : X.mg "range" = none) (ha : PA X [a, b, d] ta) (hs : starEach [a, b, d] X.env = (false, eval a X.env) :: starEach [b, d] X.env := by rfl) (hp : (backTo pos (starEach [b, d] X.env)).any (·.1) = false := by rfl) :
    PI X tg (.Call (.Name "range" p) [a, b, d] [] pos) (iRng3 ta) := by
  intro pins s σ H R I h
  refine Call_ (ld_blt I hg hm boot_range (PyProof.Rows.callWith_type1 (thn (ha pos pins s σ H _ I h) fun us s1 ⟨vs, H1, I1, r1, q1⟩ => ?_) hs hp))
  obtain ⟨i, j, c, n, e, ⟨b1, b2, b3, b4, b5, b6⟩, hn, q⟩ := q1
  subst e
  obtain ⟨u1, u2, u3, rfl, ⟨t1, rfl⟩, ⟨t2, rfl⟩, ⟨t3, rfl⟩⟩ : ∃ u1 u2 u3, us = [u1, u2, u3] ∧ RelV (.int i) u1 ∧ RelV (.int j) u2 ∧ RelV (.int c) u3 := by
    cases r1 with
    | cons p q =>
      cases q with
      | cons p' q' =>
        cases q' with
        | cons p'' q'' =>
          cases q''
          exact ⟨_, _, _, rfl, p, p', p''⟩
  refine call_range_3 (by omega) ?_ (.inl (PyProof.noPylong_small (by omega)))
  refine wpAny_pyIter_range (IsRange.new ..) ?_ ?_
  · have hq1 : 0 ≤ (n : Int) := Int.natCast_nonneg n
    have hq2 : (n : Int) ≤ 2 ^ 41 := by
      rw [← hn]
      unfold Builtin.Range.rangeSize
      rw [if_pos b5]
      split
      · have : (j - i - 1) / c ≤ (j - i - 1) / 1 := by
          rw [Int.ediv_one]
          exact Int.ediv_le_self _ (by omega)
        rw [Int.ediv_one] at this
        omega
      · omega
    unfold Builtin.Range.small
    simp only [hn]
    unfold Builtin.Range.rangeFitsLong
    rw [if_pos b5]
    rw [decide_eq_true (show -(2 ^ 63) ≤ i by omega), decide_eq_true (show i < 2 ^ 63 by omega), decide_eq_true (show -(2 ^ 63) ≤ j by omega), decide_eq_true (show j < 2 ^ 63 by omega), decide_eq_true (show -(2 ^ 63) ≤ c by omega), decide_eq_true (show c < 2 ^ 63 by omega), decide_eq_true (show -(2 ^ 63) ≤ (n : Int) by omega), decide_eq_true (show (n : Int) < 2 ^ 63 by omega),
      decide_eq_true (show -(2 ^ 63) ≤ j + (c - 1) by omega), decide_eq_true (show j + (c - 1) < 2 ^ 63 by omega)]
    simp
  have I2 : Inv X pins σ H1 { s1 with heap := s1.heap.push { cls := .type "range", data := .fields #[.int i t1, .int j t2, .int c t3] }, toks := s1.toks } := I1.kept fun b o e => Heap.get?_push_of_some _ e
  refine ⟨(s1.heap.push { cls := .type "range", data := .fields #[.int i t1, .int j t2, .int c t3] }).objs.size, [(s1.heap.push { cls := .type "range", data := .fields #[.int i t1, .int j t2, .int c t3] }).objs.size], _, _, H1, rfl,
    I2.kept (t' := s1.toks) fun b o e => Heap.get?_push_of_some _ e, turn_range3 _ i c n, ?_, fun b hb => ?_, q⟩
  · have e1 : i + ((0 : Nat) : Int) * c = i := by simp
    have e2 : ((n : Nat) : Int) - ((0 : Nat) : Int) = Builtin.Range.rangeSize i j c := by rw [hn]; simp
    show IsRangeIter _ _ (i + ((0 : Nat) : Int) * c) (((n : Nat) : Int) - ((0 : Nat) : Int)) c
    rw [e1, e2]
    exact Heap.get?_push_size _ rfl
  · have e : b = (s1.heap.push { cls := .type "range", data := .fields #[.int i t1, .int j t2, .int c t3] }).objs.size := by simpa using hb
    subst e
    exact I2.fpOk (Nat.le_refl _) (I2.hok.fresh (Nat.le_refl _))
theorem for_range3 {lo c : Int} {n : Nat} {g : TG} {tb : TS} {D : Ends} {σ : St} {H : Hp} (Pv : Nat → St → Hp → Prop) (h0 : Pv 0 σ H)
    (hs : ∀ i σ H, i < n → Pv i σ H → g (.int (lo + i * c)) σ H fun σ2 H2 => tb { D with nx := Pv (i + 1), ct := Pv (i + 1), bk := D.nx } σ2 H2) (hd : ∀ σ H, Pv n σ H → D.nx σ H) :
    ∃ W : Nat → Nat → St → Hp → Prop, (∃ m, W 0 m σ H) ∧ ∀ i m σ H, W i m σ H →
      ((Itr3 lo c n).stop i H ∧ D.nx σ H) ∨ ((Itr3 lo c n).go i H ∧ ∃ N : St → Hp → Prop, (∀ σ' H', N σ' H' → ∃ m', m' < m ∧ W (i + 1) m' σ' H') ∧ ∀ x H', (Itr3 lo c n).yld i H x H' → g x σ H' fun σ2 H2 => tb { D with nx := N, ct := N, bk := D.nx } σ2 H2) := by
  refine ⟨fun i m σ H => m = n - i ∧ i ≤ n ∧ Pv i σ H, ⟨n, by simp, Nat.zero_le _, h0⟩, ?_⟩
  rintro i m σ H ⟨rfl, hi, p⟩
  by_cases hlt : i < n
  · refine .inr ⟨hlt, Pv (i + 1), fun σ' H' p' => ⟨n - (i + 1), by omega, rfl, hlt, p'⟩, fun x H' y => ?_⟩
    obtain ⟨e, y⟩ := y
    subst e y
    exact hs i σ _ hlt p
  · have e : i = n := by omega
    subst e
    exact .inl ⟨Nat.le_refl _, hd σ H p⟩
end
end L2
namespace L2
open PySem PySem.Spec PyProof.Rows
/-! long displays of texts, and the statements around them: behind a veil -/
structure PSy (X : Cx) (st : Stmt) (t : TS) : Prop where
  ps : PS X st t
section
variable {X : Cx}
theorem psx_cons {st : Stmt} {rest : List Stmt} {t1 t2 : TS} (h : PSy X st t1) (hr : PSx X rest t2) : PSx X (st :: rest) (tSeq t1 t2) := ⟨pss_cons h.ps hr.ps⟩
theorem psx_one {st : Stmt} {t : TS} (h : PSy X st t) : PSx X [st] t := ⟨pss_one h.ps⟩
end
theorem okNCx {P : Program} {w : World} {K : PySem.W.Frag} {mg : Str → Option Value} {base : Heap} {x qual : Str} {st : Stmt} {f : Addr} {fd : FuncData} {cdv : Value} {N ps : List Str} {k : Nat} {sp : Sp} (F : FunC K x qual st f fd cdv) (S : FnScope N ps (defScope st)) (len : ∀ vs H Q E, sp vs H Q E → vs.length = ps.length)
    (hbody : ∀ (A : Around) (outer : List Env) (s : Shared) (H : Hp) (vs : List V) (Q : VK) (E : XK), Room k (A.deeper (envOfC qual (defScope st) s.heap.objs.size f cdv)) → sp vs H Q E →
      ∃ t, PSx (cxOf (CXE P w) P w K mg base N qual (defScope st) f cdv A outer s H E).nox (defBody st) t ∧ t { nx := fun _ H' => Q .non H', rt := Q } (start N vs) H) : FnOk P w K mg base (CXE P w) (k + 1) f fd ps sp :=
  okNC F S len fun A outer s H vs Q E hr hsp => by
    obtain ⟨t, h, q⟩ := hbody A outer s H vs Q E hr hsp
    exact ⟨t, h.ps, q⟩
end L2

set_option linter.all false
namespace K01
/-- ten to the power, 1 below 0 -/
def ten (m : Int) : Int := 10 ^ m.toNat
theorem ten_pos (m : Int) : 0 < ten m := Int.pow_pos (by decide)
theorem ten_neg {m : Int} (h : m ≤ 0) : ten m = 1 := by
  unfold ten
  rw [Int.toNat_of_nonpos h]
  rfl
theorem ten_add {a b : Int} (ha : 0 ≤ a) (hb : 0 ≤ b) : ten (a + b) = ten a * ten b := by
  unfold ten
  rw [Int.toNat_add ha hb, Int.pow_add]
theorem ten_le {a b : Int} (h : a ≤ b) (hb : 0 ≤ b) : ten a ≤ ten b := by
  by_cases ha : 0 ≤ a
  · rw [show b = a + (b - a) by omega, ten_add ha (by omega)]
    have := ten_pos (b - a)
    have h2 := ten_pos a
    calc ten a = ten a * 1 := (Int.mul_one _).symm
      _ ≤ ten a * ten (b - a) := Int.mul_le_mul_of_nonneg_left (by omega) (Int.le_of_lt h2)
  · rw [ten_neg (by omega)]
    have := ten_pos b
    omega
end K01

set_option Elab.async false
set_option linter.all false
set_option maxRecDepth 100000
namespace K02
open PySem PySem.NumText Builtin Builtin.Str StrLaws
/-- a text by its signs -/
abbrev tx (l : List Nat) : Str := ⟨l.toArray⟩
theorem tx_list (l : List Nat) : (tx l).cps.toList = l := rfl
theorem tx_len (l : List Nat) : (tx l).length = l.length := by show l.toArray.size = _; rw [List.size_toArray]
theorem of_tx (z : Str) : z = tx z.cps.toList := by cases z; rfl
theorem len_list (z : Str) : z.length = z.cps.toList.length := by show z.cps.size = _; rw [Array.length_toList]
theorem tx_inj {a b : List Nat} (h : tx a = tx b) : a = b := by
  have := congrArg (fun z : Str => z.cps.toList) h
  exact this
theorem tx_app (a b : List Nat) : tx a ++ tx b = tx (a ++ b) := by
  show (⟨a.toArray ++ b.toArray⟩ : Str) = _
  rw [List.append_toArray]
/-- a number's figures -/
def dec (n : Nat) : List Nat := (Nat.toDigits 10 n).map Char.toNat
theorem dec_str (n : Nat) : PySem.Str.ofString (toString ((n : Nat) : Int)) = tx (dec n) := by
  rw [of_tx (PySem.Str.ofString _), PySem.W.KIN.signs_num n]
  rfl
theorem dec_val (n : Nat) : digitsVal (dec n) = n := PySem.W.KIN.val_back n
theorem dec_dig (n : Nat) : AllDigits (dec n) := by
  intro c hc
  obtain ⟨ch, h1, rfl⟩ := List.mem_map.mp hc
  have h := Nat.isDigit_of_mem_toDigits (b := 10) (by decide) (by decide) h1
  unfold Char.isDigit at h
  simp only [Bool.and_eq_true, decide_eq_true_eq] at h
  exact ⟨UInt32.le_iff_toNat_le.mp h.1, UInt32.le_iff_toNat_le.mp h.2⟩
theorem dec_ne (n : Nat) : 1 ≤ (dec n).length := by
  unfold dec
  rw [List.length_map]
  exact toDigits_len_ge 10 n
theorem dec_len {n : Nat} (h : n < 2 ^ 100) : (dec n).length ≤ 100 := by
  have := nat_repr_length_le (n := n) (k := 100) (by decide) h
  unfold dec
  rw [List.length_map]
  have e : (Nat.repr n).length = (Nat.toDigits 10 n).length := by rw [← String.length_toList, Nat.toList_repr]
  omega
theorem val_go (b : List Nat) : ∀ acc : Nat, b.foldl (fun acc c => acc * 10 + (c - 48)) acc = acc * 10 ^ b.length + b.foldl (fun acc c => acc * 10 + (c - 48)) 0 := by
  induction b with
  | nil => intro acc; simp
  | cons c r ih =>
    intro acc
    rw [List.foldl_cons, List.foldl_cons, ih (acc * 10 + (c - 48)), ih (0 * 10 + (c - 48)), List.length_cons, Nat.pow_succ]
    rw [Nat.add_mul, Nat.zero_mul, Nat.zero_add, Nat.mul_assoc, Nat.mul_comm 10, Nat.add_assoc]
theorem val_app (a b : List Nat) : digitsVal (a ++ b) = digitsVal a * 10 ^ b.length + digitsVal b := by
  unfold digitsVal
  rw [List.foldl_append, val_go]
theorem val_lt {l : List Nat} (h : AllDigits l) : digitsVal l < 10 ^ l.length := by
  induction l with
  | nil => decide
  | cons c r ih =>
    have h1 := ih h.tail
    have h2 := h.head
    rw [show c :: r = [c] ++ r from rfl, val_app, List.length_append, List.length_singleton]
    have e : digitsVal [c] = c - 48 := by simp [digitsVal]
    rw [e, Nat.pow_add]
    have h3 : (c - 48) * 10 ^ r.length ≤ 9 * 10 ^ r.length := Nat.mul_le_mul_right _ (by omega)
    omega
/-! slices -/
theorem slice_take (l : List Nat) {k : Nat} (h : k ≤ l.length) : sliceText (tx l) none (some (k : Int)) = tx (l.take k) := by
  have e := sliceText_nat (tx l) (a := 0) (b := k) (Nat.zero_le _) (by rw [tx_len]; exact h)
  have e2 : sliceText (tx l) none (some (k : Int)) = sliceText (tx l) (some ((0 : Nat) : Int)) (some (k : Int)) := by
    unfold sliceText
    rw [sliceIdx_none_lo]
    rfl
  rw [e2, e]
  simp
theorem slice_mid (l : List Nat) {a b : Nat} (h : a ≤ l.length) (hab : a ≤ b) : sliceText (tx l) (some (a : Int)) (some (b : Int)) = tx ((l.drop a).take (b - a)) := by
  by_cases hb : b ≤ l.length
  · exact sliceText_nat (tx l) hab (by rw [tx_len]; exact hb)
  · have e2 : sliceText (tx l) (some (a : Int)) (some (b : Int)) = sliceText (tx l) (some (a : Int)) (some ((l.length : Nat) : Int)) := by
      have e3 : strSliceIndices (some (a : Int)) (some (b : Int)) 1 (tx l).length = strSliceIndices (some (a : Int)) (some ((l.length : Nat) : Int)) 1 (tx l).length := by
        rw [tx_len]
        unfold strSliceIndices
        have h1 : ¬ ((b : Int) < 0) := by omega
        have h2 : ¬ (((l.length : Nat) : Int) < 0) := by omega
        have h3 : min (b : Int) (l.length : Int) = l.length := by omega
        have h4 : min ((l.length : Nat) : Int) (l.length : Int) = l.length := by omega
        simp only [h1, h2, if_false, h3, h4, show ((1 : Int) > 0) = True from by simp, if_true]
      unfold sliceText
      rw [e3]
    rw [e2, sliceText_nat (tx l) h (by rw [tx_len]; exact Nat.le_refl _)]
    have e4 : (l.drop a).take (l.length - a) = (l.drop a).take (b - a) := by
      rw [List.take_of_length_le (by rw [List.length_drop]; omega), List.take_of_length_le (by rw [List.length_drop]; omega)]
    show tx ((l.drop a).take (l.length - a)) = _
    rw [e4]
/-! the parts of a text -/
theorem sub_one (l : List Nat) (c : Nat) : subAt (tx l) ⟨#[c]⟩ 0 = (l.head? == some c) := by
  rw [subAt_eq]
  show ((l.drop 0).take 1 == [c]) = _
  cases l with
  | nil => rfl
  | cons a r =>
    simp only [List.drop_zero, List.take_succ_cons, List.take_zero, List.head?_cons]
    by_cases h : a = c
    · subst h; simp
    · rw [beq_eq_false_iff_ne.mpr (by simpa using h), beq_eq_false_iff_ne.mpr (by simpa using h)]
/-! figures alone -/
theorem goes_fig (c : Nat) : ("0123456789" : Str).cps.contains c = decide (48 ≤ c ∧ c ≤ 57) := by
  have e : ("0123456789" : Str).cps = #[48, 49, 50, 51, 52, 53, 54, 55, 56, 57] := by decide +kernel
  rw [e]
  by_cases h : 48 ≤ c ∧ c ≤ 57
  · rw [decide_eq_true h]
    have : c = 48 ∨ c = 49 ∨ c = 50 ∨ c = 51 ∨ c = 52 ∨ c = 53 ∨ c = 54 ∨ c = 55 ∨ c = 56 ∨ c = 57 := by omega
    rcases this with rfl | rfl | rfl | rfl | rfl | rfl | rfl | rfl | rfl | rfl <;> decide +kernel
  · rw [decide_eq_false h]
    simp
    omega
instance (l : List Nat) : Decidable (AllDigits l) := inferInstanceAs (Decidable (∀ c ∈ l, 48 ≤ c ∧ c ≤ 57))
theorem mem_tw {p : Nat → Bool} {l : List Nat} {c : Nat} (h : c ∈ l.takeWhile p) : p c = true := by
  induction l with
  | nil => cases h
  | cons a r ih =>
    rw [List.takeWhile_cons] at h
    cases hp : p a with
    | false => rw [hp] at h; cases h
    | true =>
      rw [hp, if_pos rfl] at h
      rcases List.mem_cons.mp h with rfl | h
      · exact hp
      · exact ih h
theorem strip_fig (l : List Nat) : decide (Txt.stripChars (tx l) "0123456789" = (Str.empty : Str)) = decide (AllDigits l) := by
  have g : ∀ c, ("0123456789" : Str).cps.contains c = true ↔ (48 ≤ c ∧ c ≤ 57) := fun c => by rw [goes_fig]; simp
  unfold Txt.stripChars Txt.stripBy stripSame stripped stripLo stripHi
  simp only [if_true, tx_len]
  generalize hp : (("0123456789" : Str).cps.contains : Nat → Bool) = p
  have g' : ∀ c, p c = true ↔ (48 ≤ c ∧ c ≤ 57) := fun c => by rw [← hp]; exact g c
  by_cases h : AllDigits l
  · rw [decide_eq_true h, decide_eq_true]
    have e1 : (tx l).cps.toList.takeWhile p = l := takeWhile_all fun c hc => (g' c).mpr (h c hc)
    rw [e1]
    have e2 : (tx l).cps.toList.drop l.length = [] := List.drop_eq_nil_of_le (Nat.le_refl _)
    rw [e2]
    show (if (l.length == 0 && l.length == l.length) = true then tx l else strSub (tx l) l.length l.length) = Str.empty
    by_cases hz : (l.length == 0 && l.length == l.length) = true
    · rw [if_pos hz]
      have : l.length = 0 := by
        simp only [Bool.and_eq_true, beq_iff_eq] at hz
        exact hz.1
      rw [List.length_eq_zero_iff.mp this]
      rfl
    · rw [if_neg hz, of_tx (strSub _ _ _), strSub_toList, Nat.sub_self, List.take_zero]
      rfl
  · rw [decide_eq_false h, decide_eq_false]
    have hlt : ((tx l).cps.toList.takeWhile p).length < l.length := by
      have hle : ((tx l).cps.toList.takeWhile p).length ≤ l.length := List.IsPrefix.length_le (List.takeWhile_prefix p)
      rcases Nat.lt_or_ge ((tx l).cps.toList.takeWhile p).length l.length with z | z
      · exact z
      · refine absurd (fun c hc => ?_) h
        have e : (tx l).cps.toList.takeWhile p = l := List.IsPrefix.eq_of_length_le (List.takeWhile_prefix p) z
        rw [← e] at hc
        exact (g' c).mp (mem_tw hc)
    generalize hlo : ((tx l).cps.toList.takeWhile p).length = lo at hlt
    have hdrop : ∃ a r, l.drop lo = a :: r ∧ p a = false := by
      have hd : l.dropWhile p = l.drop lo := by
        have := List.takeWhile_append_dropWhile (p := p) (l := l)
        have e3 : l.drop lo = ((l.takeWhile p) ++ l.dropWhile p).drop lo := by rw [this]
        rw [e3, List.drop_append_of_le_length (by rw [← hlo]; exact Nat.le_refl _), List.drop_eq_nil_of_le (by rw [← hlo]; exact Nat.le_refl _), List.nil_append]
      cases hx : l.drop lo with
      | nil =>
        have := congrArg List.length hx
        rw [List.length_drop, List.length_nil] at this
        omega
      | cons a r =>
        refine ⟨a, r, rfl, ?_⟩
        rw [hx] at hd
        have := List.head?_dropWhile_not (p := p) (l := l)
        rw [hd] at this
        simpa using this
    obtain ⟨a, r, hx, hpa⟩ := hdrop
    have hx' : (tx l).cps.toList.drop lo = a :: r := hx
    rw [hx']
    have hrl : r.length + 1 = l.length - lo := by
      have := congrArg List.length hx
      rw [List.length_drop, List.length_cons] at this
      omega
    have hk : ((a :: r).reverse.takeWhile p).length ≤ r.length := by
      rw [List.reverse_cons]
      have hle : ((r.reverse ++ [a]).takeWhile p).length ≤ r.length := by
        by_cases hall : ∀ c ∈ r.reverse, p c = true
        · rw [List.takeWhile_append_of_pos hall, List.takeWhile_cons, hpa]
          simp
        · have : ((r.reverse ++ [a]).takeWhile p).length < (r.reverse ++ [a]).length := by
            have hle : ((r.reverse ++ [a]).takeWhile p).length ≤ (r.reverse ++ [a]).length := List.IsPrefix.length_le (List.takeWhile_prefix p)
            rcases Nat.lt_or_ge ((r.reverse ++ [a]).takeWhile p).length (r.reverse ++ [a]).length with z | z
            · exact z
            · have e : (r.reverse ++ [a]).takeWhile p = r.reverse ++ [a] := List.IsPrefix.eq_of_length_le (List.takeWhile_prefix p) z
              have : p a = true := mem_tw (l := r.reverse ++ [a]) (by rw [e]; simp)
              rw [hpa] at this
              cases this
          rw [List.length_append, List.length_reverse, List.length_singleton] at this
          omega
      exact hle
    split
    · intro z
      have := congrArg (fun z : Str => z.cps.toList.length) z
      have e0 : l.length = 0 := this
      omega
    · intro z
      have := congrArg (fun z : Str => z.cps.toList.length) z
      have e0 : (strSub (tx l) lo (l.length - ((a :: r).reverse.takeWhile p).length)).cps.toList.length = 0 := this
      rw [strSub_toList, List.length_take, tx_list, hx, List.length_cons] at e0
      omega
/-! what is written is read back -/
end K02

set_option Elab.async false
set_option linter.all false
set_option maxRecDepth 100000
/-! more of lists and texts: join, sum, the largest, find from a place -/
namespace L2
open PySem PySem.Spec PyProof.Rows
open Builtin Builtin.Str
def find2 (z y : Str) (i : Int) : Int := match occurrences z y (fromIndex z.length i) z.length 1 with | k :: _ => (k : Int) | [] => -1
theorem vals_strs : ∀ {ys : List Str} {us : List Value}, Vals (ys.map V.str) us → ∃ l : List (Str × Tok), us = strValues l ∧ l.map (·.1) = ys
  | [], _, .nil => ⟨[], rfl, rfl⟩
  | y :: ys, _, .cons r t => by
    obtain ⟨l, e1, e2⟩ := vals_strs t
    obtain ⟨tk, rfl⟩ := r
    exact ⟨(y, tk) :: l, by rw [e1]; rfl, by rw [List.map_cons, e2]⟩
section
variable {X : Cx}
theorem mt_join : MtR X "str.join" (fun x vs H Q => ∃ (z : Str) (p : Addr) (ys : List Str), x = .str z ∧ vs = [.ref p] ∧ SqL X.K H p (ys.map V.str) ∧ JoinOk z ys = true ∧ Q (.str (Txt.join z ys)) H) := by
  intro pins s σ H x vs v us Q I rx rv h
  obtain ⟨z, p, ys, rfl, rfl, hq, hj, q⟩ := h
  obtain ⟨t, rfl⟩ := rx
  obtain ⟨u, rfl, ru⟩ := vals1 rv
  obtain rfl : u = Value.ref p := ru
  obtain ⟨its, rv, pl, hl⟩ := I.list hq
  obtain ⟨l, e1, e2⟩ := vals_strs rv
  subst e1
  have hok := hj
  unfold JoinOk at hok
  rw [Bool.not_eq_true', ← e2] at hok
  refine call_meets F.slot_str_join (typeIs_str _ _ _) F.entry_str_join (F.args_str_join_2 _ _) (meets_str_join_list z t p l hok) ⟨pl.isList, ?_⟩
  refine post_join l ⟨joinFit_length hok, fun t' k => ⟨.str (Txt.join z (l.map (·.1))), H, I.tok k, ⟨t', rfl⟩, ?_⟩⟩
  rw [e2]
  exact q
theorem mt_find2 : MtR X "str.find" (fun x vs H Q => ∃ (z y : Str) (i : Int), x = .str z ∧ vs = [.str y, .int i] ∧ Q (.int (find2 z y i)) H) := by
  intro pins s σ H x vs v us Q I rx rv h
  obtain ⟨z, y, i, rfl, rfl, q⟩ := h
  obtain ⟨t, rfl⟩ := rx
  obtain ⟨u1, u2, rfl, ⟨t1, rfl⟩, ⟨t2, rfl⟩⟩ := vals2 rv
  exact call_gives F.slot_str_find F.entry_str_find (F.args_str_find_3 _ _ _) (gives_str_find_from z y i t t1 t2) ⟨.int _, H, I.tok _, ⟨_, rfl⟩, q⟩
end
theorem walks_list {prog : Program} {w : World} {A : Around} (hh : A.handled = none) (I l : Addr) (hne : l ≠ I) (items : Array Value) :
    WalksS prog w A I [I, l] [I] (fun a b => a = b) items.size (fun i v => items[i]? = some v) (fun i s => s.heap.IsListIter I l i ∧ s.heap.IsList l items) where
  sub := fun b hb => by simp at hb; simp [hb]
  grefl := fun _ => rfl
  gtrans := fun _ _ _ a b => a.trans b
  frame := fun i s h' tk x _ hk => ⟨x.1.at fun o e => hk I (by simp) o e, x.2.at fun o e => hk l (by simp) o e⟩
  item := fun i s Q E hi x hQ => by
    have hx : items[i]? = some (items[i]'hi) := Array.getElem?_eq_getElem hi
    refine wpAny_pyNext_list_item x.1 x.2 hx fun h' st' sb => ?_
    exact hQ _ _ hx ⟨st', x.2.at fun o eo => (sb.2 l hne).trans eo⟩ ⟨fun b o hb eo => (sb.2 b (fun h => hb (by simp [h]))).trans eo, rfl, rfl, rfl, Nat.le_refl _⟩
  done := fun s Q E x hQ => wpAny_pyNext_list_end hh x.1 x.2 (Array.getElem?_eq_none (Nat.le_refl _)) fun h' eb => hQ _ ⟨fun b o hb eo => eb b o (fun h => hb (by simp [h])) eo, rfl, rfl, rfl, Nat.le_refl _⟩
  self := fun _ _ _ _ x hQ => wpAny_pyIter_listiter x.1 hQ
theorem ints_at {ns : List Int} {us : List Value} (r : Vals (ns.map V.int) us) : ∀ i v, us.toArray[i]? = some v → ∃ t, v = Value.int (ns.getD i 0) t := fun i v hv => by
  have h1 : us[i]? = some v := by simpa using hv
  have hlt := (List.getElem?_eq_some_iff.mp h1).1
  have hl := r.length
  rw [List.length_map] at hl
  have h2 : (ns.map V.int)[i]? = some (V.int (ns.getD i 0)) := by
    rw [List.getElem?_map, List.getElem?_eq_getElem (by omega)]
    simp [List.getD, List.getElem?_eq_getElem (show i < ns.length by omega)]
  obtain ⟨u, e, q⟩ := r.get h2
  rw [h1] at e
  cases e
  exact q
theorem preSum_list (ns : List Int) : ∀ k, k ≤ ns.length → preSum (fun i => ns.getD i 0) k = (ns.take k).sum := by
  intro k
  induction k with
  | zero => intro _; rfl
  | succ k ih =>
    intro hk
    have e : ns.take (k + 1) = ns.take k ++ [ns.getD k 0] := by
      rw [List.take_add_one, List.getElem?_eq_getElem (by omega)]
      simp [List.getD, List.getElem?_eq_getElem (show k < ns.length by omega)]
    show preSum _ k + ns.getD k 0 = _
    rw [ih (by omega), e, List.sum_append]
    simp
theorem best_is (val : Nat → Int) : ∀ k, argBest (fun i j => decide (val i > val j)) k ≤ k ∧ ∀ i, i ≤ k → val i ≤ val (argBest (fun i j => decide (val i > val j)) k) := by
  intro k
  induction k with
  | zero => exact ⟨Nat.le_refl _, fun i hi => by rw [Nat.le_zero.mp hi]; exact Int.le_refl _⟩
  | succ k ih =>
    unfold argBest
    by_cases h : val (k + 1) > val (argBest (fun i j => decide (val i > val j)) k)
    · rw [if_pos (decide_eq_true h)]
      refine ⟨Nat.le_refl _, fun i hi => ?_⟩
      rcases Nat.lt_or_ge i (k + 1) with h1 | h1
      · have := ih.2 i (by omega)
        omega
      · rw [show i = k + 1 by omega]; exact Int.le_refl _
    · rw [if_neg (by rw [decide_eq_true_eq]; exact h)]
      refine ⟨by omega, fun i hi => ?_⟩
      rcases Nat.lt_or_ge i (k + 1) with h1 | h1
      · exact ih.2 i (by omega)
      · rw [show i = k + 1 by omega]; omega
section
variable {X : Cx}
theorem call_sum (hc : X.calm = true) : CallR X (.builtin "sum") (fun xs H Q => ∃ (p : Addr) (ns : List Int), xs = [.ref p] ∧ SqL X.K H p (ns.map V.int) ∧ Q (.int ns.sum) H) := by
  intro pins s σ H xs us Q I r h
  obtain ⟨p, ns, rfl, hq, q⟩ := h
  obtain ⟨u, rfl, ru⟩ := vals1 r
  obtain rfl : u = Value.ref p := ru
  obtain ⟨its, rv, pl, hl⟩ := I.list hq
  have hil := pl.isList
  have hlt : p < s.heap.objs.size := by obtain ⟨o, e, _⟩ := hil; exact Heap.lt_size e
  have hlen := rv.length
  rw [List.length_map] at hlen
  refine call_sum_walkAnyS (wpAny_pyIter_list hil ?_)
  have I2 : Inv X pins σ H { s with heap := s.heap.push { cls := .type "list_iterator", data := .fields #[.ref p, .int 0 0] } } := I.kept (t' := s.toks) fun b o e => Heap.get?_push_of_some _ e
  refine ⟨s.heap.objs.size, _, _, _, _, _, _, fun i => ns.getD i 0, rfl, walks_list (A := X.A.in1) (I.ok.hd hc) _ p (Nat.ne_of_lt hlt) its.toArray, ⟨⟨_, Heap.get?_push_size _ rfl, rfl, rfl⟩, hil.push _⟩, fun b hb => ?_, ints_at rv, fun s' t' hm => ?_⟩
  · show b < (s.heap.push _).objs.size
    rw [Heap.size_push]
    rcases List.mem_cons.mp hb with rfl | hb
    · exact Nat.lt_succ_self _
    · rw [List.mem_singleton.mp hb]; exact Nat.lt_succ_of_lt hlt
  · obtain ⟨f0, f1, f2, f3, f4, f5⟩ := I.fpOk (Nat.le_refl _) (I.hok.fresh (Nat.le_refl _))
    obtain ⟨h', g', d', tk', os'⟩ := s'
    obtain rfl : g' = s.gens := hm.gens.symm
    obtain rfl : d' = s.drawn := hm.drawn
    obtain rfl : os' = s.os := hm.os
    have e : preSum (fun i => ns.getD i 0) its.toArray.size = ns.sum := by
      rw [List.size_toArray, ← hlen, preSum_list ns _ (Nat.le_refl _), List.take_length]
    rw [e]
    refine ⟨.int ns.sum, H, ?_, ⟨t', rfl⟩, q⟩
    exact (I2.turned (h' := h') (t' := tk') (it := s.heap.objs.size) (fun b o hb eo => hm.heap b o (by simpa using hb) eo) f0 f1 f3 f4 f5 :)
theorem call_maxL (hc : X.calm = true) : CallR X (.builtin "max") (fun xs H Q => ∃ (p : Addr) (ns : List Int), xs = [.ref p] ∧ SqL X.K H p (ns.map V.int) ∧ ns ≠ [] ∧ ∀ m, m ∈ ns → (∀ n ∈ ns, n ≤ m) → Q (.int m) H) := by
  intro pins s σ H xs us Q I r h
  obtain ⟨p, ns, rfl, hq, hne, q⟩ := h
  obtain ⟨u, rfl, ru⟩ := vals1 r
  obtain rfl : u = Value.ref p := ru
  obtain ⟨its, rv, pl, hl⟩ := I.list hq
  have hil := pl.isList
  have hlt : p < s.heap.objs.size := by obtain ⟨o, e, _⟩ := hil; exact Heap.lt_size e
  have hlen := rv.length
  rw [List.length_map] at hlen
  have hpos : 0 < ns.length := by cases ns with | nil => exact absurd rfl hne | cons a r => exact Nat.succ_pos _
  refine call_max_walkS (wpAny_pyIter_list hil ?_)
  have I2 : Inv X pins σ H { s with heap := s.heap.push { cls := .type "list_iterator", data := .fields #[.ref p, .int 0 0] } } := I.kept (t' := s.toks) fun b o e => Heap.get?_push_of_some _ e
  refine ⟨s.heap.objs.size, _, _, _, _, _, _, _, rfl, walks_list (A := X.A.in1) (I.ok.hd hc) _ p (Nat.ne_of_lt hlt) its.toArray, ⟨⟨_, Heap.get?_push_size _ rfl, rfl, rfl⟩, hil.push _⟩, fun b hb => ?_, by rw [List.size_toArray]; omega, CmpOf.ints_gt (fun i => ns.getD i 0) (ints_at rv), fun v s' hv hm => ?_⟩
  · show b < (s.heap.push _).objs.size
    rw [Heap.size_push]
    rcases List.mem_cons.mp hb with rfl | hb
    · exact Nat.lt_succ_self _
    · rw [List.mem_singleton.mp hb]; exact Nat.lt_succ_of_lt hlt
  · obtain ⟨f0, f1, f2, f3, f4, f5⟩ := I.fpOk (Nat.le_refl _) (I.hok.fresh (Nat.le_refl _))
    obtain ⟨h', g', d', tk', os'⟩ := s'
    obtain rfl : g' = s.gens := hm.gens.symm
    obtain rfl : d' = s.drawn := hm.drawn
    obtain rfl : os' = s.os := hm.os
    obtain ⟨t, rfl⟩ := ints_at rv _ _ hv
    obtain ⟨b1, b2⟩ := best_is (fun i => ns.getD i 0) (its.toArray.size - 1)
    generalize argBest (fun i j => decide (ns.getD i 0 > ns.getD j 0)) (its.toArray.size - 1) = j at b1 b2
    rw [List.size_toArray] at b1 b2
    have getD_eq : ∀ i, i < ns.length → ns.getD i 0 = ns[i]! := fun i hi => by simp [List.getD, List.getElem?_eq_getElem hi]
    have hj : j < ns.length := by omega
    refine ⟨.int (ns.getD j 0), H, ?_, ⟨t, rfl⟩, q _ ?_ fun n hn => ?_⟩
    · exact (I2.turned (h' := h') (t' := tk') (it := s.heap.objs.size) (fun b o hb eo => hm.heap b o (by simpa using hb) eo) f0 f1 f3 f4 f5 :)
    · have : ns.getD j 0 = ns[j] := by simp [List.getD, List.getElem?_eq_getElem hj]
      rw [this]
      exact List.getElem_mem hj
    · obtain ⟨i, hi, rfl⟩ := List.mem_iff_getElem.mp hn
      have e : ns.getD i 0 = ns[i] := by simp [List.getD, List.getElem?_eq_getElem hi]
      rw [← e]
      exact b2 i (by omega)
end
end L2

set_option Elab.async false
set_option linter.all false
set_option maxRecDepth 100000
/-! a dict of the written part: read alone -/
namespace L2
open PySem PySem.Spec PyProof.Rows
structure KDict (P : Program) (w : World) (K : PySem.W.Frag) (a : Addr) (kvs : List (Key × V)) : Prop where
  ne : (a == sysModules) = false
  ok : ∀ h : Heap, K.In h → ∃ vs, KV kvs vs ∧ h.DictOf (mixKind P w) a vs
section
variable {X : Cx} {o i : Expr} {td ty : TE} {pos : Pos} {a : Addr} {kvs : List (Key × V)}
def tKGet (a : Addr) (kvs : List (Key × V)) (td ty : TE) : TE := fun σ H Q => td σ H fun x H1 => ty σ H1 fun y H2 => ∃ k v, x = .ref a ∧ y = kV k ∧ valV kvs k = some v ∧ Q v H2
theorem pe_kdget (D : KDict X.prog X.w X.K a kvs) (ho : PE X o td) (hi : PE X i ty) (hs : NoSl i) : PE X (.Subscript o i pos) (tKGet a kvs td ty) := by
  intro pins s σ H Q I h
  refine subD_of PySem.F.slot_dict_getitem.lookup hs (thn (ho pins s σ H _ I h) fun u s1 ⟨x, H1, I1, rx, q1⟩ => thn (hi pins s1 σ H1 _ I1 q1) fun iv s2 ⟨y, H2, I2, ry, k, v, ex, ey, l, q2⟩ => ?_)
  subst ex ey
  obtain rfl : u = Value.ref a := rx
  obtain ⟨vs, rel, dd⟩ := D.ok s2.heap I2.kIn
  obtain ⟨w', hw, rw'⟩ := RelO.some_of (v := v) (o := valueAt vs k) (by rw [← l]; exact rel.val k)
  exact ⟨dd.typeIs, wpAny_getItem_of (kV_is ry) dd.mapOf hw ⟨v, H2, I2.tok _, rw', q2⟩⟩
def tKNotIn (a : Addr) (kvs : List (Key × V)) (ty td : TE) : TE := fun σ H Q => ty σ H fun y H1 => td σ H1 fun x H2 => ∃ k, x = .ref a ∧ y = kV k ∧ Q (.bl (!(valV kvs k).isSome)) H2
theorem pc_kdnotin (D : KDict X.prog X.w X.K a kvs) (hi : PE X i ty) (ho : PE X o td) : PC X .NotIn i o (tKNotIn a kvs ty td) := by
  intro pins s σ H Q I h
  refine thn (hi pins s σ H _ I h) fun iv s1 ⟨y, H1, I1, ry, q1⟩ => thn (ho pins s1 σ H1 _ I1 q1) fun u s2 ⟨x, H2, I2, rx, k, ex, ey, q2⟩ => ?_
  subst ex ey
  obtain rfl : u = Value.ref a := rx
  obtain ⟨vs, rel, dd⟩ := D.ok s2.heap I2.kIn
  refine wpAny_notIn_of (kV_is ry) D.ne dd.mapOf ?_
  rw [← (rel.val k).isSome_eq]
  exact ⟨.bl _, H2, I2.tok _, rfl, q2⟩
end
theorem boot_sum : bootBuiltins "sum" = some (.builtin "sum") := by boot_by_name
section
variable {X : Cx}
theorem ip_addS : PIp X .Add (fun x y H Q => ∃ i j, x = .str i ∧ y = .str j ∧ i.length + j.length ≤ sizeLine ∧ Q (.str (i ++ j)) H) := by
  intro pins s σ H x y v u Q I r1 r2 h
  obtain ⟨i, j, e1, e2, hl, q⟩ := h
  subst e1; subst e2
  obtain ⟨t, rfl⟩ := r1
  obtain ⟨t', rfl⟩ := r2
  exact SB.iadd (fun t2 k => ⟨.str _, H, I.tok k, ⟨t2, rfl⟩, q⟩) hl
end
end L2

set_option Elab.async false
set_option linter.all false
set_option maxRecDepth 100000
/-! a name set to a comprehension itself: stored ahead of the block's end -/
namespace L2
open PySem PySem.Spec PyProof.Rows
section
variable {X : Cx}
theorem ps_lcomp {elt tg iter : Expr} {ifs : List Expr} {scope : Scope} {pos spos py : Pos} {NB : List Str} {wi : TI} {g : TG} {tt : TT} {te : TE} {iy : Nat} {y : Str} (hc : X.calm = true) (S : BlkScope NB scope) (hi : PI X tg iter wi)
    (hg : ∀ s H ex, PG (cxBlk X NB scope s H ex) tg g) (ht : ∀ s H ex, PTs (cxBlk X NB scope s H ex) ifs tt) (he : ∀ s H ex, PE (cxBlk X NB scope s H ex) elt te)
    (hN : X.N.Nodup) (hiy : X.N[iy]? = some y) (hy : Loc X.env.scope y) (hsw : swapsWith (.ListComp elt [⟨tg, iter, ifs, 0⟩] scope pos) (some (.Name y py)) spos.line X.env = pure true)
    (hs : ∀ x, foldedSetIterable iter X.env x = pure x := by intro _; rfl) (hf : X.fn y = true ∨ X.env.scope.names.lookup y = some .local := by first | exact .inl rfl | exact .inr rfl | assumption) :
    PS X (.Assign [.Name y py] (.ListComp elt [⟨tg, iter, ifs, 0⟩] scope pos) spos) (tAsg (tComp NB wi g tt te) (gName iy)) := by
  intro pins s σ H Dn I h
  rw [exec_Assign_Name_used _ _ _ _ hsw]
  refine wpAny_bind (wpAny_standAt (wpAny_bind ?_))
  show wpAny _ X.A (do let _ ← comprehension (.ListComp elt [⟨tg, iter, ifs, 0⟩] scope pos) scope X.env _ (newList []) false (eval iter X.env) (some (assign (.Name y py) X.env))) _ _ s
  refine wpAny_bind (wpAny_mono (wpAny_comprehension_free (use := some (assign (.Name y py) X.env)) (Q := fun _ s' => SP X pins Dn .next s') (cl := []) rfl hs (clos_none S.nofree) S.kind S.loc (thn (hi pins s σ H _ I h) fun v s1 h1 => thn h1 fun itv s2 h2 => ?_)) (fun _ s' hq => wpAny_pure (wpAny_pure hq)) fun _ _ e => e)
  obtain ⟨it, fp, tn, J, H2, e, I2, T, st2, f2, W, ⟨m0, w0⟩, turn⟩ := h2
  subst e
  refine wpAny_newObj_type ?_
  have up2 : ∀ b o, s2.heap.get? b = some o → (s2.heap.push { cls := .type "list", data := .seq ([] : List Value).toArray }).get? b = some o := fun b o e => Heap.get?_push_of_some _ e
  have I3 : Inv X pins σ H2 { s2 with heap := s2.heap.push { cls := .type "list", data := .seq ([] : List Value).toArray } } := I2.kept (t' := s2.toks) up2
  have st3 : tn 0 (s2.heap.push { cls := .type "list", data := .seq ([] : List Value).toArray }) := T.keep _ _ _ st2 fun b _ o e => up2 b o e
  have hD3 : (s2.heap.push { cls := .type "list", data := .seq ([] : List Value).toArray }).get? s2.heap.objs.size = some (lstO []) := Heap.get?_push_size _ rfl
  have hD2 : H2 s2.heap.objs.size = none := I2.hok.fresh (Nat.le_refl _)
  have lt2 : ∀ b o, s2.heap.get? b = some o → b ≠ s2.heap.objs.size := fun b o e => Nat.ne_of_lt (Heap.lt_size e)
  have fpO : ∀ b ∈ fp, ∃ o, s2.heap.get? b = some o := fun b hb => let ⟨o, e, _⟩ := T.obj _ _ st2 b hb; ⟨o, e⟩
  have hDs0 : X.s₀.heap.objs.size ≤ s2.heap.objs.size := I2.sz
  have hDL : s2.heap.objs.size ≠ X.env.locals := Nat.ne_of_gt I2.lt
  have hDC : ∀ x c, X.env.cells.lookup x = some c → c ≠ s2.heap.objs.size := fun x c e => let ⟨v, o, e1, _⟩ := I2.cell x c e; lt2 c o e1
  have hDp : ∀ p ∈ X.pn ++ pins, p.1 ≠ s2.heap.objs.size := fun p hp => lt2 p.1 _ (I2.pin p hp).1
  have hDf : s2.heap.objs.size ∉ frs X.stack := fun z => let ⟨o, e, _⟩ := (I2.stack.mem z).2; lt2 _ o e rfl
  generalize hS3 : ({ s2 with heap := s2.heap.push { cls := .type "list", data := .seq ([] : List Value).toArray } } : Shared) = s3 at I3 ⊢
  have hh3 : s3.heap = s2.heap.push { cls := .type "list", data := .seq ([] : List Value).toArray } := by rw [← hS3]
  rw [← hh3] at st3 hD3 up2
  generalize s2.heap.objs.size = D at hD3 hD2 lt2 hDs0 hDL hDC hDp hDf ⊢
  refine wpAny_newBlock S.kind fun cenv s4 hce x4 => ?_
  subst hce
  rw [relabel_same S.nofree]
  have lt3 : ∀ b o, s3.heap.get? b = some o → b < s3.heap.objs.size := fun b o e => Heap.lt_size e
  have fp3 : ∀ b ∈ fp, b < s3.heap.objs.size := fun b hb => let ⟨o, e⟩ := fpO b hb; lt3 b o (up2 b o e)
  have dl3 : D < s3.heap.objs.size := lt3 D _ hD3
  have DfpN : ∀ b ∈ fp, b ≠ D := fun b hb => let ⟨o, e⟩ := fpO b hb; lt2 b o e
  obtain ⟨h4, tk4, rfl, hk4⟩ := x4.done
  have bsN : ∀ b o, X.base.get? b = some o → b ∉ D :: fp := fun b o e hb => by
    rcases List.mem_cons.mp hb with rfl | hb
    · exact absurd (Nat.lt_of_lt_of_le (Heap.lt_size (I2.ok.bs b o e).1) hDs0) (Nat.lt_irrefl _)
    · obtain ⟨_, _, _, f3, _⟩ := f2 b hb
      rcases f3 with z | z
      · exact I2.ok.noex b o e z
      · exact absurd (Nat.lt_of_lt_of_le (Heap.lt_size (I2.ok.bs b o e).1) z) (Nat.lt_irrefl _)
  have exF : ∀ b ∈ D :: fp, b ∉ frs X.stack := fun b hb hf => by
    rcases List.mem_cons.mp hb with rfl | hb
    · exact hDf hf
    · obtain ⟨_, f1, f2', _⟩ := f2 b hb
      rcases List.mem_cons.mp (I2.stkSub b hf) with z | z
      · exact f1 z
      · exact f2' z
  have cge : ∀ y c, (cellsFrom (s3.heap.objs.size + 1) scope.names []).lookup y = some c → s3.heap.objs.size < c := fun y c e => x4.above y c (PySem.mem_of_lookup e)
  have exLt : ∀ b ∈ D :: fp, b < s3.heap.objs.size := fun b hb => by
    rcases List.mem_cons.mp hb with rfl | hb
    · exact dl3
    · exact fp3 b hb
  have okB : (cxBlk X NB scope s3 H2 (D :: fp)).Ok := by
    refine ⟨I3.ok.mod, S.kind, I3.ok.glob, I3.ok.blt, Nat.le_refl _, fun y z c h1 h2 => ?_, fun y hy => ?_, fun y c _ h => Nat.le_of_lt (cge y c h), I3.ok.hd, I3.ok.frames, .inl rfl, fun b hb => ⟨Nat.ne_of_lt (exLt b hb), fun y c e z => ?_⟩, I3.bs, Nat.le_trans I3.ok.bsz I3.sz, bsN, exF, I3.stack, I3.stkFree⟩
    · exact name_of_addr x4.apart (PySem.mem_of_lookup h1) (PySem.mem_of_lookup h2)
    · have hy : scope.names.lookup y = some .cell ∨ scope.names.lookup y = some .free := hy
      rcases hy with hy | hy
      · exact cell_has hy
      · exact absurd rfl (S.nofree _ (PySem.mem_of_lookup hy))
    · have := cge y c e
      rw [z] at this
      exact absurd (Nat.lt_trans this (exLt b hb)) (Nat.lt_irrefl _)
  have rep : ∀ (j : Nat) (v : V), (List.replicate NB.length (none : Option V))[j]? ≠ some (some v) := fun j v z => by
    rw [List.getElem?_replicate] at z
    split at z <;> cases z
  have IB : Inv (cxBlk X NB scope s3 H2 (D :: fp)) [(D, lstO [])] (List.replicate NB.length none) H2 { s3 with heap := h4, toks := tk4 } := by
    refine ⟨okB, rfl, I3.bare, Un.kept hk4, ⟨_, x4.toInCall.ns, fun i y v h1 h2 h3 => absurd h2 (rep i v)⟩, fun y c h => ⟨_, x4.cell y c h⟩, I3.hok.fresh (Nat.le_refl _), fun y c h => I3.hok.fresh (Nat.le_of_lt (cge y c h)), fun p hp => ?_, I3.hok.kept hk4, by rw [List.length_replicate]⟩
    obtain rfl : p = (D, lstO []) := by simpa using hp
    exact ⟨hk4 _ _ hD3, hD2, Nat.ne_of_lt dl3, hDf, fun v z => nomatch z⟩
  -- what stays true of the iterator's objects
  have stat : ∀ {H' : Hp} {ys : List Value}, (∀ b ∈ fp, H' b = none) → ∀ b ∈ fp, FpOk (cxBlk X NB scope s3 H2 (D :: fp)) [(D, lstO ys)] H' b := fun hn b hb =>
    ⟨hn b hb, Nat.ne_of_lt (fp3 b hb), exF b (List.mem_cons_of_mem _ hb), .inl (List.mem_cons_of_mem _ hb), fun y c e z => by
      have := cge y c e
      rw [z] at this
      exact absurd (Nat.lt_trans this (fp3 b hb)) (Nat.lt_irrefl _), fun p hp => by
        obtain rfl : p = (D, _) := by simpa using hp
        exact (DfpN b hb).symm⟩
  have st4 : tn 0 h4 := T.keep _ _ _ st3 fun b _ o e => hk4 b o e
  have fr4 : ∀ b ∈ fp, H2 b = none := fun b hb => (f2 b hb).1
  have hcB : (cxBlk X NB scope s3 H2 (D :: fp)).calm = true := hc
  have loop : codeAny (model X.prog X.w) X.A (.compLoop (.ListComp elt [⟨tg, iter, ifs, 0⟩] scope pos) 0 (.ref it) (.ref D) (blkEnv scope X.env s3.heap.objs.size))
      (compPost (model X.prog X.w) X.A X.xe (some (assign (.Name y py) X.env)) (fun _ s' => SP X pins Dn .next s') (.ref D) s3.heap.objs.size) { s3 with heap := h4, toks := tk4 } := by
    refine comp_loop (fun n s' => ∃ i vs ys H', Inv (cxBlk X NB scope s3 H2 (D :: fp)) [(D, lstO ys)] (List.replicate NB.length none) H' s' ∧ Vals vs ys ∧ vs.length ≤ sizeLine ∧ tn i s'.heap ∧ (∀ b ∈ fp, H' b = none) ∧ W i n vs H') ?_ m0 ⟨0, [], [], H2, IB, .nil, Nat.zero_le _, st4, fr4, w0⟩
    rintro n s5 ⟨i, vs, ys, H5, I5, rv, hvl, st5, fr5, w5⟩
    rcases turn i n vs H5 w5 with ⟨stop, qn⟩ | ⟨go, hlt, N, hN, step⟩
    · refine wpAny_mono (T.done (cxBlk X NB scope s3 H2 (D :: fp)) rfl rfl rfl hcB i _ s5 _ H5 (fun _ _ => False) I5 (stat fr5) st5 stop) (fun r s6 ⟨hr, I6⟩ => ?_) (fun _ _ z => z.elim)
      subst hr
      obtain ⟨m6, hn6, _⟩ := id I6.loc
      have hC6 : H5 s3.heap.objs.size = none := I6.free
      have un7 : Un (frs X.stack) (D :: fp) H2 H5 s3.heap s6.heap := I6.base
      have I7 : Inv X pins σ H5 s6 := I3.call' (s' := s6) I6.os un7 I6.hok I6.bare fun b hb => by
        rcases List.mem_cons.mp hb with rfl | hb
        · exact ⟨.inr hDs0, hDL, hDC, hDp⟩
        · obtain ⟨_, f1, _, f3, f4, f5⟩ := f2 b hb
          exact ⟨f3, f1, f4, f5⟩
      obtain ⟨eD, nD, _⟩ := I6.pin (D, lstO ys) (by simp)
      have nD' : H5 D = none := nD
      have eD' : s6.heap.get? D = some (lstO ys) := eD
      have hD0 : X.s₀.heap.get? D = none := by
        cases q : X.s₀.heap.get? D with
        | none => rfl
        | some o => exact absurd (Nat.lt_of_lt_of_le (Heap.lt_size q) hDs0) (Nat.lt_irrefl _)
      have I8 : Inv X pins σ (upd H5 D (.lst vs)) s6 := I7.track nD' hD0 hDL hDC hDp ⟨hvl, ys, ys.length, rv, eD'⟩
      have hq := qn D nD'
      have s03 : X.s₀.heap.objs.size ≤ s3.heap.objs.size := I3.sz
      have cL : s3.heap.objs.size ≠ X.env.locals := Nat.ne_of_gt I3.lt
      have cC : ∀ x c, X.env.cells.lookup x = some c → c ≠ s3.heap.objs.size := fun x c e => let ⟨v, o, e1, _⟩ := I3.cell x c e; Nat.ne_of_lt (lt3 c o e1)
      have cP : ∀ p ∈ X.pn ++ pins, p.1 ≠ s3.heap.objs.size := fun p hp => Nat.ne_of_lt (lt3 p.1 _ (I3.pin p hp).1)
      show wpAny (model X.prog X.w) X.A (assign (.Name y py) X.env (.ref D)) _ X.xe s6
      refine wpAny_assign_Name (store_ok2 (v := .ref D) I8 hN hiy hy rfl (fun s9 I9 ⟨a9, sb9, ha9⟩ => ?_) hf)
      have na : s3.heap.objs.size ≠ a9 := by
        rcases ha9 with rfl | z
        · exact cL
        · exact (cC y a9 z).symm
      refine ⟨m6, hn6.sameBut sb9 na, fun h10 sb10 => ⟨_, _, ?_, hq⟩⟩
      have hD3' : upd H5 D (.lst vs) s3.heap.objs.size = none := by rw [upd_ne (Nat.ne_of_gt dl3)]; exact hC6
      exact (I9.turned (h' := h10) (t' := s9.toks) (it := s3.heap.objs.size) (fun b o hb e => (sb10.2 b hb).trans e) hD3' cL (.inr s03) cC cP :)
    · refine wpAny_mono (T.item (cxBlk X NB scope s3 H2 (D :: fp)) rfl rfl rfl hcB i _ s5 _ H5 (fun _ _ => False) I5 (stat fr5) st5 go) (fun r s6 ⟨u, hr, h6⟩ => ?_) (fun _ _ z => z.elim)
      subst hr
      refine wpAny_mono h6 (fun _ s7 ⟨x, H7, I7, r7, y7, st7, fr7⟩ => ?_) (fun _ _ z => z.elim)
      have I7' := I7.pinned (stat fr7) (T.obj _ _ st7)
      refine wpAny_mono (hg s3 H2 (D :: fp) _ s7 _ H7 x u _ I7' r7 (step x H7 y7)) (fun _ s8 ⟨σ8, H8, I8, q8⟩ => ?_) (fun _ _ z => z.elim)
      refine wpAny_mono (ht s3 H2 (D :: fp) _ s8 σ8 H8 _ I8 q8) (fun ok s9 ⟨H9, I9, q9⟩ => ?_) (fun _ _ z => z.elim)
      have fpK : ∀ {σ' : St} {H' : Hp} {s' : Shared}, Inv (cxBlk X NB scope s3 H2 (D :: fp)) ([(D, lstO ys)] ++ pinsAt fp s7.heap) σ' H' s' → tn (i + 1) s'.heap ∧ ∀ b ∈ fp, H' b = none := fun J =>
        ⟨T.keep _ _ _ st7 fun b hb o e => (J.pin (b, o) (List.mem_append_right _ (List.mem_append_right _ (mem_pinsAt hb e)))).1, fun b hb => by
          obtain ⟨o, e, d⟩ := T.obj _ _ st7 b hb
          exact (J.pin (b, o) (List.mem_append_right _ (List.mem_append_right _ (mem_pinsAt hb e)))).2.1⟩
      have wk : ∀ {σ' : St} {H' : Hp} {s' : Shared} {pl : List (Addr × Obj)}, Inv (cxBlk X NB scope s3 H2 (D :: fp)) pl σ' H' s' → Inv (cxBlk X NB scope s3 H2 (D :: fp)) pl (List.replicate NB.length none) H' s' := fun J =>
        J.weak (by rw [List.length_replicate]; exact J.len.symm) fun j v z => absurd z (rep j v)
      cases ok with
      | false =>
        rw [if_neg (by decide)] at q9
        rw [if_neg (by decide)]
        obtain ⟨m', hm, w9⟩ := hN vs H9 q9
        obtain ⟨t9, f9⟩ := fpK I9
        exact ⟨m', hm, i + 1, vs, ys, H9, wk I9.unpinned, rv, hvl, t9, f9, w9⟩
      | true =>
        rw [if_pos rfl] at q9
        rw [if_pos rfl]
        refine wpAny_mono (he s3 H2 (D :: fp) _ s9 σ8 H9 _ I9 q9) (fun y s10 ⟨v, H10, I10, rv10, q10⟩ => ?_) (fun _ _ z => z.elim)
        obtain ⟨eD, nD, _, nf, _⟩ := I10.pin (D, lstO ys) (by simp)
        have hyl := rv.length
        refine append_at (hsz := by show ys.toArray.size ≤ sizeLine; rw [List.size_toArray, ← hyl]; exact hvl) eD fun h11 sb11 hD11 => ?_
        obtain ⟨m', hm, w11⟩ := hN (vs ++ [v]) H10 q10
        obtain ⟨t10, f10⟩ := fpK I10
        have I10u := I10.unpinned
        have k11 : ∀ b o, b ≠ D → s10.heap.get? b = some o → h11.get? b = some o := fun b o hb e => (sb11.2 b hb).trans e
        have IE : Inv (cxBlk X NB scope s3 H2 (D :: fp)) [] σ8 H10 s10 := I10u.pins_of fun p hp => nomatch hp
        have I11 : Inv (cxBlk X NB scope s3 H2 (D :: fp)) [] σ8 H10 { s10 with heap := h11 } := IE.turned (t' := s10.toks) k11 nD (Nat.ne_of_lt dl3) (.inl List.mem_cons_self) (fun y' c e z => by
          have := cge y' c e
          rw [z] at this
          exact absurd (Nat.lt_trans this dl3) (Nat.lt_irrefl _)) (fun p hp => absurd (show p ∈ ([] : List (Addr × Obj)) from hp) (by simp))
        have eL : ({ cls := .type "list", data := .seq (ys.toArray.push y) (ys.length + 1) } : Obj) = lstO (ys ++ [y]) := by
          show ({ cls := .type "list", data := .seq (ys.toArray.push y) (ys.length + 1) } : Obj) = { cls := .type "list", data := .seq (ys ++ [y]).toArray (ys ++ [y]).length }
          rw [List.length_append, List.length_singleton, List.push_toArray]
        refine ⟨m', hm, i + 1, vs ++ [v], ys ++ [y], H10, wk (I11.pins_of fun p hp => ?_), rv.append (.cons rv10 .nil), by rw [List.length_append, List.length_singleton]; exact hlt, T.keep _ _ _ t10 fun b hb o e => k11 b o (DfpN b hb) e, f10, w11⟩
        obtain rfl : p = (D, lstO (ys ++ [y])) := by simpa using hp
        exact ⟨by rw [← eL]; exact hD11, nD, Nat.ne_of_lt dl3, nf, fun v z => nomatch z⟩
  exact codeAny_compStart_list loop (T.self _ 0 _ _ _ st4 loop)

theorem op_in_seqK {K0 : PySem.W.Frag} (hK : X.K = K0) : OpR X (compareOp .In) (rIn K0 false) := by
  subst hK
  exact op_in_seq
end
end L2

set_option Elab.async false
set_option linter.all false
set_option maxRecDepth 100000
/-! text.count; an item of a written list, drawn -/
namespace L2
open PySem PySem.Spec PyProof.Rows
open Builtin Builtin.Str
section
variable {X : Cx}
theorem mt_scount : MtR X "str.count" (rTxt (fun _ _ => True) fun z y => .int (Txt.count z y)) := by
  intro pins s σ H x vs v us Q I rx rv h
  obtain ⟨z, y, rfl, rfl, _, q⟩ := h
  obtain ⟨t, rfl⟩ := rx
  obtain ⟨u, rfl, t', rfl⟩ := vals1 rv
  exact call_gives F.slot_str_count F.entry_str_count (F.args_str_count_2 _ _) (gives_str_count z y t t') ⟨.int _, H, I.tok _, ⟨_, rfl⟩, q⟩
end
/-- the script and the town, as every draw asks for them -/
structure Bag (K : PySem.W.Frag) (H : Hp) (a t r : Addr) (ns : List Int) (c : Int) : Prop where
  sq : SqL K H a (ns.map V.int)
  tw : ∃ rs, TownAt H t r c rs
  nat : a ≠ t
  nar : a ≠ r
  ln : ns.length ≤ 63
section
variable {K : PySem.W.Frag} {H H' : Hp} {a t r : Addr} {ns : List Int} {c c' : Int}
theorem Bag.drawn (B : Bag K H a t r ns c) (A : Apart t r H H') {rs : List (Key × V)} (T : TownAt H' t r c' rs) : Bag K H' a t r ns c' :=
  ⟨A.seq B.sq B.nat B.nar, ⟨rs, T⟩, B.nat, B.nar, B.ln⟩
theorem Bag.same (B : Bag K H a t r ns c) (e : Same H H') : Bag K H' a t r ns c := by
  obtain ⟨rs, T⟩ := B.tw
  exact ⟨(Apart.of e).seq B.sq B.nat B.nar, ⟨rs, T.same e⟩, B.nat, B.nar, B.ln⟩
theorem LawSt.bag {Pa : Addr} {q : Str} (S : LawSt H a t r Pa q ns c) : Bag K H a t r ns c := ⟨S.sq, S.tw, S.nat, S.nar, S.ln⟩
/-- a draw by names -/
theorem Bag.draw {σ : St} {i j : Nat} {n : Int} {tn : TE} {Q : VK} {E : XK} (B : Bag K H a t r ns c) (hi : σ[i]? = some (some (.ref a))) (hj : σ[j]? = some (some (.ref t))) (hn : ∀ R : VK, R (.int n) H → tn σ H R) (h0 : 0 < n) (h1 : n < 1000000) (hc : c < 100000)
    (k : ∀ (d : Nat) (H' : Hp), (d : Int) < n → Bag K H' a t r ns (c + 1) → Apart t r H H' → Q (.int d) H') : tCall (spDraw K) [] E (tCons (tVar i) (tCons (tVar j) (tCons tn tNil))) σ H Q := by
  obtain ⟨rs, T⟩ := B.tw
  refine ⟨_, hi, _, hj, hn _ ⟨a, t, r, ns, c, n, rs, rfl, B.sq, T, B.nat, B.nar, B.ln, hc, h0, h1, fun v rs' H' v0 v1 T' A' => ?_⟩⟩
  obtain ⟨d, rfl⟩ := Int.eq_ofNat_of_zero_le v0
  exact k d H' v1 (B.drawn A' T') A'
/-- what is at hand stays so over a draw -/
theorem Bag.keep (B : Bag K H a t r ns c) (A : Apart t r H H') {b : Addr} {o : HO} (e : H b = some o) (n : ∀ kvs, o ≠ .dK kvs) : H' b = some o := by
  obtain ⟨rs, T⟩ := B.tw
  refine A b o e (fun z => ?_) fun z => ?_
  · rw [z, T.tw] at e; cases e; exact n _ rfl
  · rw [z, T.rt] at e; cases e; exact n _ rfl
theorem Bag.free (B : Bag K H a t r ns c) (B' : Bag K H' a t r ns c') (A : Apart t r H H') {q : Addr} (h : H' q = none) : H q = none := by
  obtain ⟨rs', T'⟩ := B'.tw
  cases e : H q with
  | none => rfl
  | some o =>
    by_cases z1 : q = t
    · rw [z1, T'.tw] at h; cases h
    · by_cases z2 : q = r
      · rw [z2, T'.rt] at h; cases h
      · rw [A q o e z1 z2] at h; cases h
/-- one of a written list, drawn -/
theorem Bag.pick {σ : St} {i j : Nat} {n : Int} {ta : TA} {xs : List V} {Q : VK} {E : XK} (B : Bag K H a t r ns c) (hi : σ[i]? = some (some (.ref a))) (hj : σ[j]? = some (some (.ref t))) (hta : ∀ R : List V → Hp → Prop, R xs H → ta σ H R) (hn : n = (xs.length : Int)) (h0 : 0 < n) (h1 : n < 1000) (hc : c < 100000)
    (k : ∀ (d : Nat) (x : V) (H' : Hp), xs[d]? = some x → Bag K H' a t r ns (c + 1) → Apart t r H H' → Q x H') : tOp (rIxL K) (tLst ta) (tCall (spDraw K) [] E (tCons (tVar i) (tCons (tVar j) (tCons (tC (.int n)) tNil)))) σ H Q := by
  have hz : 1000 ≤ sizeLine := by decide
  refine hta _ ⟨by omega, fun p hp => ?_⟩
  have S := Same.new (o := .lst xs) hp
  refine (B.same S).draw hi hj (fun R h => h) h0 (by omega) hc fun d H' hd B' A' => ?_
  obtain ⟨x, hx⟩ : ∃ x, xs[d]? = some x := ⟨_, List.getElem?_eq_getElem (by omega)⟩
  have hpp : H' p = some (.lst xs) := (B.same S).keep A' upd_same fun _ z => nomatch z
  exact ⟨p, xs, d, x, rfl, rfl, .inl (.inl hpp), atI_nat hx, k d x H' hx B' (fun b o e n1 n2 => A' b o (S _ _ e) n1 n2)⟩
end
end L2

set_option Elab.async false
set_option linter.all false
set_option maxRecDepth 100000
/-! more of long displays: a text so many times in it, a list and a display -/
namespace L2
open PySem PySem.Spec PyProof.Rows
section
variable {X : Cx}
end
end L2

set_option Elab.async false
set_option linter.all false
set_option maxRecDepth 100000
/-! texts walked sign by sign, text.index, lists of other lengths, texts in braces -/
namespace L2
open PySem PySem.Spec PyProof.Rows
open Builtin Builtin.Str
/-- the signs of a text -/
def Its (z : Str) : It := ⟨fun i _ => i < z.cps.size, fun i H x H' => H' = H ∧ ∃ c, z.cps[i]? = some c ∧ x = .str ⟨#[c]⟩, fun i _ => z.cps.size ≤ i⟩
theorem turn_str {P : Program} {w : World} {K : PySem.W.Frag} {tg : Expr} (it : Addr) (z : Str) (t : Tok) : Turn P w K tg (Its z) [it] it (fun i h => h.IsStrIter it "str_ascii_iterator" z t i) where
  mem := by simp
  obj := fun i h st b hb => by
    have e : b = it := by simpa using hb
    subst e
    obtain ⟨o, e, c, d⟩ := st
    exact ⟨o, e, fun v z => by rw [d] at z; cases z⟩
  keep := fun i h h' st k => by
    obtain ⟨o, e, c, d⟩ := st
    exact ⟨o, k it (by simp) o e, c, d⟩
  item := by
    intro X hP hw hK hc i pins s σ H E I hf st hg
    subst hP hw hK
    obtain ⟨f0, f1, f2, f3, f4, f5⟩ := hf it (by simp)
    have hg' : i < z.cps.size := hg
    obtain ⟨c, hcs⟩ : ∃ c, z.cps[i]? = some c := ⟨z.cps[i], by simp [hg']⟩
    refine wpAny_pyNext_ascii_item st hcs fun h' st' sb => ?_
    have I1 : Inv X pins σ H { s with heap := h', toks := s.toks + 1 } := I.turned (fun b o hb e => (sb.2 b hb).trans e) f0 f1 f3 f4 f5
    obtain ⟨o, e, cc, d⟩ := id st'
    exact ⟨_, rfl, go_of (s := { s with heap := h', toks := s.toks + 1 }) e cc d (by decide) ⟨.str ⟨#[c]⟩, H, I1, ⟨_, rfl⟩, ⟨rfl, c, hcs, rfl⟩, st', fun b hb => (hf b hb).1⟩⟩
  done := by
    intro X hP hw hK hc i pins s σ H E I hf st hg
    subst hP hw hK
    obtain ⟨f0, f1, f2, f3, f4, f5⟩ := hf it (by simp)
    have hg' : z.cps.size ≤ i := hg
    exact wpAny_pyNext_ascii_end (I.ok.hd hc) st (by simp [hg']) fun h' eb => ⟨rfl, I.turned (t' := s.toks) (fun b o hb e => eb b o hb e) f0 f1 f3 f4 f5⟩
  self := fun _ _ _ _ _ st h => wpAny_pyIter_striter_ascii st h
section
variable {X : Cx} {tg : Expr}
def iStr (tl : TE) : TI := fun σ H R => tl σ H fun x H1 => ∃ z : Str, x = .str z ∧ z.cps.all (· < 128) = true ∧ R (Its z) H1
theorem pi_str {l : Expr} {tl : TE} (hl : PE X l tl) : PI X tg l (iStr tl) := by
  intro pins s σ H R I h
  refine thn (hl pins s σ H _ I h) fun v s1 ⟨x, H1, I1, r1, q1⟩ => ?_
  obtain ⟨z, e, ha, q⟩ := q1
  subst e
  obtain ⟨t, rfl⟩ := r1
  refine wpAny_pyIter_ascii ha ?_
  refine ⟨s1.heap.objs.size, [s1.heap.objs.size], _, _, H1, rfl, I1.kept (t' := s1.toks) fun b o e => Heap.get?_push_of_some _ e, turn_str _ z t, ⟨_, Heap.get?_push_size _ rfl, rfl, rfl⟩, fun b hb => ?_, q⟩
  have e : b = s1.heap.objs.size := by simpa using hb
  subst e
  exact I1.fpOk (Nat.le_refl _) (I1.hok.fresh (Nat.le_refl _))
end
/-- a comprehension over a text -/
theorem comp_str {z : Str} {NB : List Str} {g : TG} {tt : TT} {te : TE} {tl : TE} {Q : VK} {σ : St} {H : Hp} (Pv : Nat → List V → Hp → Prop) (h : ∀ R : VK, R (.str z) H → tl σ H R) (ha : z.cps.all (· < 128) = true) (h0 : Pv 0 [] H) (hl : ∀ i vs H, i ≤ z.cps.size → Pv i vs H → vs.length ≤ i)
    (hs : ∀ i c vs H, z.cps[i]? = some c → Pv i vs H → g (.str ⟨#[c]⟩) (List.replicate NB.length none) H fun σ2 H2 => tt σ2 H2 fun b H3 => if b = true then te σ2 H3 fun v H4 => Pv (i + 1) (vs ++ [v]) H4 else Pv (i + 1) vs H3)
    (hd : ∀ vs H, Pv z.cps.size vs H → ∀ p, H p = none → Q (.ref p) (upd H p (.lst vs))) (hz : z.cps.size < sizeLine) : tComp NB (iStr tl) g tt te σ H Q := by
  refine h _ ⟨z, rfl, ha, ?_⟩
  refine ⟨fun i m vs H => m = z.cps.size - i ∧ i ≤ z.cps.size ∧ Pv i vs H, ⟨z.cps.size, by simp, Nat.zero_le _, h0⟩, ?_⟩
  rintro i m vs H ⟨rfl, hi, p⟩
  have hv := hl i vs H hi p
  by_cases hlt : i < z.cps.size
  · refine .inr ⟨hlt, by omega, Pv (i + 1), fun vs' H' p' => ⟨z.cps.size - (i + 1), by omega, rfl, hlt, p'⟩, fun x H' y => ?_⟩
    obtain ⟨e, c, hc, e2⟩ := y
    subst e e2
    exact hs i c vs _ hc p
  · have e : i = z.cps.size := by omega
    subst e
    exact .inl ⟨Nat.le_refl _, hd vs H p⟩
section
variable {X : Cx}
/-! texts in braces -/
abbrev TJ := St → Hp → Str → VK → Prop
def PJ (X : Cx) (es : List Expr) (t : TJ) : Prop :=
  ∀ (pins : List (Addr × Obj)) (s : Shared) (σ : St) (H : Hp) (acc : Str) (Q : VK), Inv X pins σ H s → t σ H acc Q → wpAny (model X.prog X.w) X.A (joinParts acc (evalEach es X.env)) (EP X pins σ Q) X.xe s
theorem pj_nil : PJ X [] (fun _ H acc Q => acc.length ≤ sizeLine ∧ Q (.str acc) H) := fun pins s σ H acc Q I h => joinParts_nil ⟨.str acc, H, I.tok _, ⟨_, rfl⟩, h.2⟩ h.1
theorem pj_cons {e : Expr} {es : List Expr} {te : TE} {tj : TJ} (h : PE X e te) (hr : PJ X es tj) : PJ X (e :: es) (fun σ H acc Q => te σ H fun x H1 => ∃ y, x = .str y ∧ (acc ++ y).length ≤ sizeLine ∧ tj σ H1 (acc ++ y) Q) := by
  intro pins s σ H acc Q I q
  refine joinParts_cons (thn (h pins s σ H _ I q) fun v s1 ⟨x, H1, I1, r1, y, e, hl, q1⟩ => ?_)
  subst e
  obtain ⟨t, rfl⟩ := r1
  exact ⟨hl, hr pins s1 σ H1 _ Q I1 q1⟩
theorem pe_fmt {e : Expr} {te : TE} {pos : Pos} (h : PE X e te) : PE X (.FormattedValue e (-1) none pos) (fun σ H Q => te σ H fun x H1 => ∃ z, x = .str z ∧ z.length ≤ sizeLine ∧ Q (.str z) H1) := by
  intro pins s σ H Q I q
  refine FormattedValue_plain (thn (h pins s σ H _ I q) fun v s1 ⟨x, H1, I1, r1, z, e, hl, q1⟩ => ?_)
  subst e
  obtain ⟨t, rfl⟩ := r1
  exact formatField_str (fun t' tk => ⟨.str z, H1, I1.tok _, ⟨_, rfl⟩, q1⟩) hl
theorem pe_joined {v1 v2 : Expr} {rest : List Expr} {pos : Pos} {tj : TJ} (h : PJ X (v1 :: v2 :: rest) tj) : PE X (.JoinedStr (v1 :: v2 :: rest) pos) (fun σ H Q => tj σ H Str.empty Q) := by
  intro pins s σ H Q I q
  exact JoinedStr_many (h pins s σ H Str.empty Q I q)
end
end L2

set_option Elab.async false
set_option linter.all false
set_option maxRecDepth 100000
/-! text.replace(a, b) of written a and b: behind a test that made a written text -/
namespace L2
open PySem PySem.Spec PyProof.Rows
open Builtin Builtin.Str
section
variable {X : Cx}
/-- rules that lean on a token having been drawn -/
def PEk (X : Cx) (e : Expr) (t : TE) : Prop :=
  ∀ (pins : List (Addr × Obj)) (s : Shared) (σ : St) (H : Hp) (Q : VK), Inv X pins σ H s → 0 < s.toks → t σ H Q → wpAny (model X.prog X.w) X.A (eval e X.env) (EP X pins σ Q) X.xe s
def PSk (X : Cx) (st : Stmt) (t : TS) : Prop :=
  ∀ (pins : List (Addr × Obj)) (s : Shared) (σ : St) (H : Hp) (D : Ends), Inv X pins σ H s → 0 < s.toks → t D σ H → wpAny (model X.prog X.w) X.A (exec st X.env) (SP X pins D) X.xe s
def PSsk (X : Cx) (st : List Stmt) (t : TS) : Prop :=
  ∀ (pins : List (Addr × Obj)) (s : Shared) (σ : St) (H : Hp) (D : Ends), Inv X pins σ H s → 0 < s.toks → t D σ H → wpAny (model X.prog X.w) X.A (execs st X.env) (SP X pins D) X.xe s
/-- a name of the def, read with the state as it is -/
theorem ld_var {i : Nat} {x : Str} {pos : Pos} (hN : X.N[i]? = some x) (hv : Vis X.env.scope x) {pins : List (Addr × Obj)} {s : Shared} {σ : St} {H : Hp} {v : V} {Q : Value → Shared → Prop} (I : Inv X pins σ H s) (e : σ[i]? = some (some v)) (h : ∀ u, RelV v u → Q u s)
    (hd : (x == ("__debug__" : Str)) = false := by decide) (hcd : (x == ("__classdict__" : Str)) = false := by decide) : wpAny (model X.prog X.w) X.A (eval (.Name x pos) X.env) Q X.xe s := by
  obtain ⟨m, hn, hl⟩ := I.loc
  obtain ⟨u, r, l⟩ := hl i x v hN e hv
  have fin : Q u s := h u r
  rcases l with ⟨hk, hm⟩ | ⟨hk, c, hc, hcell⟩
  · exact wpAny_Name (wpAny_loadName_local I.ok.kind hk hn hm fin) hd
  · rcases hk with hk | hk
    · exact wpAny_Name (wpAny_loadName_cell I.ok.kind hk hc hcell fin) hd
    · exact wpAny_Name (wpAny_loadName_free I.ok.kind hk hc hcell fin hcd) hd
def tRepl (i : Nat) (a b : Str) : TE := fun σ H Q => ∃ z : Str, σ[i]? = some (some (.str z)) ∧ z.length + (z.length + 1) * b.length ≤ 16777216 ∧ Q (.str (Txt.replace z a b)) H
theorem pe_repl {i : Nat} {x a b : Str} {npos apos cpos p1 p2 : Pos} {j1 j2 : Nat} (hN : X.N[i]? = some x) (hv : Vis X.env.scope x) (hab : (a == b) = false)
    (hd : (x == ("__debug__" : Str)) = false := by decide) (hcd : (x == ("__classdict__" : Str)) = false := by decide)
    (hbase : attributeBase (.Name x npos) "replace" X.env (eval (.Name x npos) X.env) = eval (.Name x npos) X.env := by rfl)
    (hfew : ((backTo cpos (starEach [.Constant (.str a) j1 p1, .Constant (.str b) j2 p2] X.env)).all (fun x => !x.1) && (backToKw cpos (keywordEach [] X.env)).all (fun x => x.1.isSome)
      && decide (([.Constant (.str a) j1 p1, .Constant (.str b) j2 p2] : List Expr).length + ([] : List Keyword).length + (if ([] : List Keyword).isEmpty then 0 else 1) < 30)) = true := by rfl)
    (hline : (apos.endLine == cpos.line) = true := by rfl) (hs : backTo cpos (starEach [.Constant (.str a) j1 p1, .Constant (.str b) j2 p2] X.env) = [(false, eval (.Constant (.str a) j1 p1) X.env), (false, eval (.Constant (.str b) j2 p2) X.env)] := by rfl) :
    PEk X (.Call (.Attribute (.Name x npos) "replace" apos) [.Constant (.str a) j1 p1, .Constant (.str b) j2 p2] [] cpos) (tRepl i a b) := by
  intro pins s σ H Q I ht h
  obtain ⟨z, e, hz, q⟩ := h
  refine wpAny_Call_method_late hbase hfew hline hs (ld_var hN hv I e (fun u r => ?_) hd hcd)
  obtain ⟨t, rfl⟩ := r
  refine ⟨"str", "str.replace", F.plainAttrs_str, F.slot_str_replace, F.type_str_replace, typeIs_str _ _ _, nofun, ?_⟩
  refine Calls.callWith_builtin rfl (Calls.evalArgs_plain (Calls.spliced_cons (Calls.Constant_str (Calls.spliced_cons (Calls.Constant_str (Calls.spliced_nil ?_))))))
  have h0 : s.toks ≠ 0 := Nat.ne_of_gt ht
  exact SC.replace h0 (Nat.succ_ne_zero _) (Nat.ne_of_lt (Nat.lt_succ_self _)) hab hz fun t' k => ⟨.str _, H, I.tok k, ⟨t', rfl⟩, q⟩
variable {o e : Expr} {es : List Expr} {to : TE} {t : TA} {name : Str} {apos cpos : Pos} {T id : String} {r : V → List V → Hp → VK → Prop}
theorem pek_bm (pa : PlainAttrs T) (slot : Slot T name id) (hty : typeOf (.builtin id) = pure (.type "method_descriptor")) (hm : MtR X id r) (ho : PEk X o to) (ha : PA X (e :: es) t)
    (hbase : attributeBase o name X.env (eval o X.env) = eval o X.env := by rfl)
    (hfew : ((backTo cpos (starEach (e :: es) X.env)).all (fun x => !x.1) && (backToKw cpos (keywordEach [] X.env)).all (fun x => x.1.isSome)
      && decide ((e :: es).length + ([] : List Keyword).length + (if ([] : List Keyword).isEmpty then 0 else 1) < 30)) = true := by rfl)
    (hline : (apos.endLine == cpos.line) = true := by rfl) (hs : starEach (e :: es) X.env = (false, eval e X.env) :: starEach es X.env := by rfl) (hplain : (backTo cpos (starEach es X.env)).any (·.1) = false := by rfl) :
    PEk X (.Call (.Attribute o name apos) (e :: es) [] cpos) (tBM X.K T r to t) := by
  intro pins s σ H Q I ht h
  refine wpAny_Call_method_late hbase hfew hline rfl (thn (ho pins s σ H _ I ht h) fun v s1 ⟨x, H1, I1, r1, ty, q1⟩ => ?_)
  obtain ⟨h1, h2⟩ := tyV_is I1 r1 ty
  refine ⟨T, id, pa, slot, hty, h1, h2, ?_⟩
  have hA := ha cpos pins s1 σ H1 _ I1 q1
  rw [hs] at hA ⊢
  refine Calls.callWith_builtin (by show (false || (backTo cpos (starEach es X.env)).any (·.1)) = false; rw [hplain] <;> rfl) (Calls.evalArgs_plain ?_)
  exact thn hA fun us s2 ⟨vs, H2, I2, r2, q2⟩ => hm pins s2 σ H2 x vs v us Q I2 r1 r2 q2
theorem psk_asg {tg e : Expr} {te : TE} {g : TG} {pos : Pos} (he : PEk X e te) (hg : PG X tg g) (hs : swapsWithSole [tg] e pos.line X.env = pure false := by rfl) (hw : swappedStores [tg] e X.env = pure none := by rfl)
    (h1 : (assignEach [tg] X.env).map (·.2) = [assign tg X.env] := by rfl) : PSk X (.Assign [tg] e pos) (tAsg te g) := by
  intro pins s σ H D I ht h
  refine wpAny_Assign_stores (thn (he pins s σ H _ I ht h) fun v s1 ⟨x, H1, I1, r1, q1⟩ => ?_) hs hw
  rw [h1]
  exact thn (hg pins s1 σ H1 x v _ I1 r1 q1) fun _ s2 q => q
theorem pssk_cons {st : Stmt} {rest : List Stmt} {t u : TS} (h1 : PSk X st t) (h2 : PSs X rest u) : PSsk X (st :: rest) (tSeq t u) := by
  intro pins s σ H D I ht h
  refine wpAny_execs_cons (thn (h1 pins s σ H { D with nx := u D } I ht h) fun f s1 q => ?_)
  cases f with
  | next =>
    obtain ⟨σ', H', I', q⟩ := q
    exact h2 pins s1 σ' H' D I' q
  | ret v => exact q
  | brk => exact q
  | cont => exact q
def tIfK (i : Nat) (a : Str) (t u : TS) : TS := fun D σ H => ∃ k : Str, σ[i]? = some (some (.str k)) ∧ if decide (V.str k = V.str a) = true then t D σ H else u D σ H
/-- if NAME == 'text': behind the test a token has been drawn -/
theorem ps_ifk {i : Nat} {x a : Str} {j : Nat} {npos spos cpos pos : Pos} {sa sb : List Stmt} {t u : TS} (hN : X.N[i]? = some x) (hv : Vis X.env.scope x) (ha : PSsk X sa t) (hb : PSs X sb u)
    (hd : (x == ("__debug__" : Str)) = false := by decide) (hcd : (x == ("__classdict__" : Str)) = false := by decide) :
    PS X (.If (.Compare (.Name x npos) [.Eq] [.Constant (.str a) j spos] cpos) sa sb pos) (tIfK i a t u) := by
  intro pins s σ H D I h
  obtain ⟨k, e, h⟩ := h
  refine wpAny_If (wpAny_isTrue_Compare1 (ld_var hN hv I e (fun w r => ?_) hd hcd) (nomark _))
  obtain ⟨tk, rfl⟩ := r
  refine Calls.Constant_str (eq_str (wpAny_truthy_bool ?_))
  have I1 : Inv X pins σ H { s with toks := s.toks + 1 } := I.tok _
  have hk : decide (V.str k = V.str a) = (k == a) := dec_str
  rw [hk] at h
  cases hc : (k == a) with
  | true => rw [hc] at h; exact ha pins _ σ H D I1 (Nat.succ_pos _) (by simpa using h)
  | false => rw [hc] at h; exact hb pins _ σ H D I1 (by simpa using h)
end
theorem DefAt.defK0 {P : Program} {w : World} {K : PySem.W.Frag} {mg : Str → Option Value} {base h : Heap} {x : Str} {st : Stmt} {k : Nat} {sp : Sp} {p1 : Str} (D : DefAt K x st) (X : K.In h) (G : h.Ns mainGlobals mg) (hok : ∀ f fd, Fun K x x st f fd → FnOk P w K mg base (CXE P w) k f fd [p1] sp)
    (hb : ∀ (kV doc pm : Value) (an : Option Addr) (cdv ct : Value) (v : Value), bindArgs (PySem.W.fnOf x x (defArgs st) (defBody st) (defScope st) .none kV doc pm an cdv ct) ⟨[], [(p1, v)]⟩ = pure [(p1, v)]) : DefK0 P w K mg base k x p1 sp := by
  obtain ⟨f, fd, a, F⟩ := D.ex
  refine ⟨f, fd, PySem.W.mg_of X G a, F.kp, fun s v _ => ?_, hok f fd F⟩
  obtain ⟨oc, od, kV, doc, pm, an, cdv, ct, osl, rfl, lk, hcd⟩ := F.ex
  exact .of_eq (hb kV doc pm an cdv ct v)
end L2

set_option Elab.async false
set_option linter.all false
/-! pictures, reckoned as the program does -/
namespace K04
open PySem.NumText
abbrev Rw := Nat × Nat
def timesAt (t : List Nat) : Nat × List Nat := match t with
  | 40 :: r => if 41 ∈ r ∧ r.takeWhile (· != 41) ≠ [] ∧ AllDigits (r.takeWhile (· != 41)) ∧ (r.takeWhile (· != 41)).head? ≠ some 48 then (digitsVal (r.takeWhile (· != 41)), r.drop ((r.takeWhile (· != 41)).length + 1)) else (1, t)
  | _ => (1, t)
/-- a row more, at the end; one with the same symbol grows -/
def addRow (rows : List Rw) (c n : Nat) : List Rw := match rows.getLast? with
  | some (c', m) => if c' = c then rows.dropLast ++ [(c, n + m)] else rows ++ [(c, n)]
  | none => rows ++ [(c, n)]
def rowsGo : Nat → List Nat → List Rw → List Rw
  | 0, _, rows => rows
  | _, [], rows => rows
  | k + 1, c :: t, rows => rowsGo k (timesAt t).2 (addRow rows c (timesAt t).1)
def rowsOf (l : List Nat) : List Rw := rowsGo l.length l []
def ins (c : Nat) : Bool := [44, 66, 48, 47].contains c
def forms : List (List Nat) := [[57], [83, 57], [86, 57], [83, 86, 57], [57, 86, 57], [83, 57, 86, 57]]
structure Facts where
  kind : Nat
  signed : Bool
  before : Nat
  behind : Nat
deriving DecidableEq, Repr
/-- signed, behind the point, figures before and behind -/
def numGo : List Rw → Bool → Bool → Nat → Nat → Option (Bool × Nat × Nat)
  | [], s, _, a, b => some (s, a, b)
  | (c, n) :: r, s, p, a, b => if c = 57 then (if p then numGo r s p a n else numGo r s p n b) else if n > 1 then none else if c = 83 then numGo r true p a b else numGo r s true a b
def numberFacts (rows : List Rw) : Option Facts := if forms.contains (rows.map (·.1)) then (match numGo rows false false 0 0 with
  | some (s, a, b) => if a + b > 18 then none else some ⟨2, s, a, b⟩
  | none => none) else none
def plainFacts (rows : List Rw) : Option Facts := match rows with
  | [(c, n)] => if (c ≠ 88 ∧ c ≠ 65) ∨ n > 60 then none else some ⟨if c = 88 then 0 else 1, false, 0, 0⟩
  | _ => none
def floatsAt (rows : List Rw) : Bool := match rows with
  | (c, n) :: r => decide (n > 1) || (match r.dropWhile (fun x => ins x.1) with | (c', _) :: _ => c' == c | [] => false)
  | [] => false
def leadGo : List (List Nat) → List Rw → List Nat → List Nat × List Rw
  | [], rows, lead => (lead, rows)
  | ch :: more, rows, lead => match rows with
    | (c, n) :: r => if ch.contains c && !floatsAt rows then leadGo more r (lead ++ [c]) else leadGo more rows lead
    | [] => leadGo more rows lead
def leadOf (rows : List Rw) : List Nat × List Rw := leadGo [[43, 45], [36]] rows []
def placesGo (place : Nat) : List Rw → Nat → Nat × List Rw
  | [], many => (many, [])
  | (c, n) :: r, many => if c = place then placesGo place r (many + n) else if ins c then placesGo place r many else (many, (c, n) :: r)
def wholePart (rows : List Rw) : List Nat × Nat × Nat × List Rw := match rows with
  | (c, n) :: r => if [57, 90, 42, 43, 45, 36].contains c then (let x := placesGo c rows 0; let y := placesGo 57 x.2 0; ([c], x.1, y.1, y.2)) else ([], 0, 0, rows)
  | [] => ([], 0, 0, rows)
def brokenPart (rows : List Rw) (place : List Nat) : Option Nat × List Rw := match rows with
  | (46, n) :: r => if n > 1 ∨ r = [] then (none, rows) else (match r with
    | (c, m) :: r' => if c ≠ 57 ∧ ([c] ≠ place ∨ [43, 45, 36].contains c) then (none, rows) else (some m, r')
    | [] => (none, rows))
  | _ => (some 0, rows)
def shownL : List (List Nat) := [[43], [45], [67, 82], [68, 66]]
def tailOf (rows : List Rw) : Option (List Nat) := if rows = [] then some [] else if !shownL.contains (rows.map (·.1)) || rows.any (fun x => decide (x.2 > 1)) then none else some (rows.map (·.1))
def editedFacts (rows : List Rw) : Option Facts :=
  let ld := leadOf rows
  let wp := wholePart ld.2
  let bp := brokenPart wp.2.2.2 (if wp.2.2.1 = 0 then wp.1 else [57])
  let tl := tailOf bp.2
  match wp.1, bp.1, tl with
  | [place], some behind, some tail =>
    let fl : Bool := [43, 45, 36].contains place
    if fl && decide (wp.2.1 < 2) then none
    else
      let shown := [ld.1.take 1, [place], tail].filter (shownL.contains ·)
      if shown.length > 1 then none
      else
        let before := wp.2.1 + wp.2.2.1 - (if fl then 1 else 0)
        if before + behind > 18 then none else some ⟨3, shown.length == 1, before, behind⟩
  | _, _, _ => none
def factsOf (rows : List Rw) : Option Facts := match numberFacts rows with
  | some f => some f
  | none => match plainFacts rows with
    | some f => some f
    | none => editedFacts rows
def picture (l : List Nat) : Option Facts := factsOf (rowsOf l)
end K04

set_option Elab.async false
set_option linter.all false
set_option maxRecDepth 100000
/-! drawn pictures: their rows, written short or out, and their facts -/
namespace K04
open PySem PySem.NumText K02
theorem tm_le (t : List Nat) : (timesAt t).2.length ≤ t.length := by
  unfold timesAt
  split
  · split
    · show (List.drop _ _).length ≤ _
      rw [List.length_drop, List.length_cons]
      omega
    · exact Nat.le_refl _
  · exact Nat.le_refl _
theorem tm_no {t : List Nat} (h : t.head? ≠ some 40) : timesAt t = (1, t) := by
  unfold timesAt
  split
  · exact absurd rfl h
  · rfl
theorem go_fuel : ∀ (k k' : Nat) (l : List Nat) (rows : List Rw), l.length ≤ k → l.length ≤ k' → rowsGo k l rows = rowsGo k' l rows := by
  intro k
  induction k with
  | zero =>
    intro k' l rows h h'
    cases l with
    | nil => cases k' <;> rfl
    | cons a r => simp at h
  | succ k ih =>
    intro k' l rows h h'
    cases l with
    | nil => cases k' <;> rfl
    | cons c t =>
      cases k' with
      | zero => simp at h'
      | succ k' =>
        have := tm_le t
        rw [List.length_cons] at h h'
        exact ih k' _ _ (by omega) (by omega)
def run (l : List Nat) (rows : List Rw) : List Rw := rowsGo l.length l rows
theorem run_nil (rows : List Rw) : run [] rows = rows := rfl
theorem run_cons (c : Nat) (t : List Nat) (rows : List Rw) : run (c :: t) rows = run (timesAt t).2 (addRow rows c (timesAt t).1) := by
  show rowsGo t.length (timesAt t).2 (addRow rows c (timesAt t).1) = _
  exact go_fuel _ _ _ _ (tm_le t) (Nat.le_refl _)
theorem run_plain {c : Nat} {t : List Nat} (rows : List Rw) (h : t.head? ≠ some 40) : run (c :: t) rows = run t (addRow rows c 1) := by
  rw [run_cons, tm_no h]
def rle (rows : List Rw) (l : List Nat) : List Rw := l.foldl (fun r c => addRow r c 1) rows
theorem rle_app (rows : List Rw) (a b : List Nat) : rle rows (a ++ b) = rle (rle rows a) b := List.foldl_append
theorem run_rep {c : Nat} {t : List Nat} (hc : c ≠ 40) (h : t.head? ≠ some 40) : ∀ (m : Nat) (rows : List Rw), run (List.replicate m c ++ t) rows = run t (rle rows (List.replicate m c)) := by
  intro m
  induction m with
  | zero => intro rows; rfl
  | succ m ih =>
    intro rows
    rw [List.replicate_succ, List.cons_append, run_plain, ih]
    · rfl
    · cases m with
      | zero => exact h
      | succ m => rw [List.replicate_succ, List.cons_append, List.head?_cons]; exact fun z => hc (Option.some.inj z)
theorem last_cases (rows : List Rw) : rows = [] ∨ ∃ r c m, rows = r ++ [(c, m)] := by
  rcases List.eq_nil_or_concat rows with h | ⟨r, x, h⟩
  · exact .inl h
  · exact .inr ⟨r, x.1, x.2, by rw [h, List.concat_eq_append]⟩
theorem ad_nil (c n : Nat) : addRow [] c n = [(c, n)] := rfl
theorem ad_same (rows : List Rw) (c n m : Nat) : addRow (rows ++ [(c, m)]) c n = rows ++ [(c, n + m)] := by
  unfold addRow
  rw [List.getLast?_concat]
  simp
theorem ad_other {rows : List Rw} {c c' n m : Nat} (h : c' ≠ c) : addRow (rows ++ [(c', m)]) c n = (rows ++ [(c', m)]) ++ [(c, n)] := by
  unfold addRow
  rw [List.getLast?_concat]
  simp [h]
theorem add_add (rows : List Rw) (c a b : Nat) : addRow (addRow rows c a) c b = addRow rows c (b + a) := by
  rcases last_cases rows with rfl | ⟨r, c', m, rfl⟩
  · rw [ad_nil, ad_nil]
    exact ad_same [] c b a
  · by_cases h : c' = c
    · subst h
      rw [ad_same, ad_same, ad_same, Nat.add_assoc]
    · rw [ad_other h, ad_other h, ad_same]
theorem rle_rep (c : Nat) : ∀ (m : Nat) (rows : List Rw), rle rows (List.replicate (m + 1) c) = addRow rows c (m + 1) := by
  intro m
  induction m with
  | zero => intro rows; rfl
  | succ m ih =>
    intro rows
    rw [List.replicate_succ]
    show rle (addRow rows c 1) (List.replicate (m + 1) c) = _
    rw [ih, add_add]
theorem tw_all {p : Nat → Bool} {a : List Nat} {c : Nat} {t : List Nat} (h : ∀ x ∈ a, p x = true) (hc : p c = false) : (a ++ c :: t).takeWhile p = a := by
  induction a with
  | nil => simp [hc]
  | cons x r ih =>
    rw [List.cons_append, List.takeWhile_cons, h x List.mem_cons_self, if_pos rfl, ih fun y hy => h y (List.mem_cons_of_mem _ hy)]
/-- a text of figures without noughts ahead -/
def Num (d : List Nat) (n : Nat) : Prop := d ≠ [] ∧ AllDigits d ∧ d.head? ≠ some 48 ∧ digitsVal d = n
theorem tm_num {d : List Nat} {n : Nat} (h : Num d n) (t : List Nat) : timesAt (40 :: (d ++ 41 :: t)) = (n, t) := by
  have e : (d ++ 41 :: t).takeWhile (· != 41) = d := tw_all (fun x hx => by have := h.2.1 x hx; simp; omega) (by simp)
  show (if 41 ∈ (d ++ 41 :: t) ∧ _ ∧ _ ∧ _ then _ else _) = _
  rw [e, if_pos ⟨by simp, h.1, h.2.1, h.2.2.1⟩, h.2.2.2]
  congr 1
  rw [← List.drop_drop, List.drop_left]
  rfl
theorem run_num {c n : Nat} {d t : List Nat} (rows : List Rw) (h : Num d n) : run (c :: 40 :: (d ++ 41 :: t)) rows = run t (addRow rows c n) := by
  rw [run_cons, tm_num h]
/-- a text, and it written short here and there -/
inductive Sh : List Nat → List Nat → Prop
  | nil : Sh [] []
  | out {a b : List Nat} {c : Nat} (m : Nat) : Sh a b → c ≠ 40 → Sh (a ++ List.replicate (m + 1) c) (b ++ List.replicate (m + 1) c)
  | brk {a b d : List Nat} {c : Nat} (m : Nat) : Sh a b → c ≠ 40 → Num d (m + 1) → Sh (a ++ List.replicate (m + 1) c) (b ++ (c :: 40 :: (d ++ [41])))
theorem Sh.rows {a b : List Nat} (h : Sh a b) : ∀ (t : List Nat) (rows : List Rw), t.head? ≠ some 40 → run (b ++ t) rows = run t (rle rows a) := by
  induction h with
  | nil => intro t rows _; rfl
  | @out a b c m _ hc ih =>
    intro t rows ht
    rw [List.append_assoc, ih _ _ (by rw [List.replicate_succ, List.cons_append, List.head?_cons]; exact fun z => hc (Option.some.inj z)), run_rep hc ht, rle_app]
  | @brk a b d c m _ hc hd ih =>
    intro t rows ht
    have e : (c :: 40 :: (d ++ [41])) ++ t = c :: 40 :: (d ++ 41 :: t) := by simp
    rw [List.append_assoc, ih _ _ (by rw [List.cons_append, List.head?_cons]; exact fun z => hc (Option.some.inj z)), e, run_num _ hd, rle_app, rle_rep]
theorem rowsOf_sh {a b : List Nat} (h : Sh a b) : rowsOf b = rle [] a := by
  have := h.rows [] [] (by simp)
  rw [List.append_nil, run_nil] at this
  exact this
theorem sh_self : ∀ (a : List Nat), 40 ∉ a → Sh a a := by
  have key : ∀ (l a : List Nat), 40 ∉ l → Sh a a → Sh (a ++ l) (a ++ l) := by
    intro l
    induction l with
    | nil => intro a _ h; rw [List.append_nil]; exact h
    | cons c t ih =>
      intro a hl h
      have e : a ++ c :: t = (a ++ List.replicate (0 + 1) c) ++ t := by simp
      rw [e]
      exact ih _ (fun z => hl (List.mem_cons_of_mem _ z)) (Sh.out 0 h fun z => hl (by rw [z]; exact List.mem_cons_self))
  intro a h
  exact key a [] h .nil
theorem rowsOf_out {a : List Nat} (h : 40 ∉ a) : rowsOf a = rle [] a := rowsOf_sh (sh_self a h)
theorem pic_sh {a b : List Nat} (h : Sh a b) (h2 : 40 ∉ a) : picture b = picture a := by
  unfold picture
  rw [rowsOf_sh h, rowsOf_out h2]
end K04

set_option Elab.async false
set_option linter.all false
set_option maxRecDepth 100000
namespace K04
open PySem PySem.NumText K02
theorem ad_ne (rows : List Rw) (c n : Nat) : ∃ r m, addRow rows c n = r ++ [(c, m)] := by
  rcases last_cases rows with rfl | ⟨r, c', m, rfl⟩
  · exact ⟨[], n, rfl⟩
  · by_cases h : c' = c
    · subst h
      exact ⟨r, _, ad_same r c' n m⟩
    · exact ⟨_, _, ad_other h⟩
theorem ad_base (rows r1 : List Rw) (c n : Nat) (h : r1 ≠ []) : addRow (rows ++ r1) c n = rows ++ addRow r1 c n := by
  rcases last_cases r1 with rfl | ⟨r, c', m, rfl⟩
  · exact absurd rfl h
  · rw [← List.append_assoc]
    by_cases h : c' = c
    · subst h
      rw [ad_same, ad_same, List.append_assoc]
    · rw [ad_other h, ad_other h, List.append_assoc, List.append_assoc, List.append_assoc]
theorem rle_base (l : List Nat) : ∀ (rows r1 : List Rw), r1 ≠ [] → rle (rows ++ r1) l = rows ++ rle r1 l := by
  induction l with
  | nil => intro rows r1 _; rfl
  | cons c t ih =>
    intro rows r1 h
    show rle (addRow (rows ++ r1) c 1) t = rows ++ rle (addRow r1 c 1) t
    rw [ad_base rows r1 c 1 h, ih]
    obtain ⟨r, m, e⟩ := ad_ne r1 c 1
    rw [e]
    simp
/-- nothing grows over the border -/
theorem rle_cat {rows : List Rw} {l : List Nat} (h : ∀ r x n, rows = r ++ [(x, n)] → l.head? ≠ some x) : rle rows l = rows ++ rle [] l := by
  cases l with
  | nil => show rows = rows ++ []; rw [List.append_nil]
  | cons c t =>
    have e : addRow rows c 1 = rows ++ [(c, 1)] := by
      rcases last_cases rows with rfl | ⟨r, c', m, rfl⟩
      · rfl
      · exact ad_other fun z => h r c' m rfl (by rw [z]; rfl)
    show rle (addRow rows c 1) t = rows ++ rle [(c, 1)] t
    rw [e, rle_base t rows [(c, 1)] (by simp)]
theorem rle_last (l : List Nat) : ∀ (rows r : List Rw) (x n : Nat), l ≠ [] → rle rows l = r ++ [(x, n)] → l.getLast? = some x := by
  induction l with
  | nil => intro rows r x n h; exact absurd rfl h
  | cons c t ih =>
    intro rows r x n _ e
    cases t with
    | nil =>
      have e2 : addRow rows c 1 = r ++ [(x, n)] := e
      obtain ⟨r', m, e3⟩ := ad_ne rows c 1
      rw [e2] at e3
      have := (List.append_inj' e3 rfl).2
      cases this
      rfl
    | cons d t => exact ih _ r x n (by simp) e
theorem rle_two {a b : List Nat} (h : ∀ x, a.getLast? = some x → b.head? ≠ some x) : rle [] (a ++ b) = rle [] a ++ rle [] b := by
  rw [rle_app]
  refine rle_cat fun r x n e => ?_
  cases a with
  | nil => cases r <;> cases e
  | cons c t => exact h x (rle_last _ _ r x n (by simp) e)
theorem rle_head (c : Nat) (t : List Nat) : ∃ n r, rle [] (c :: t) = (c, n + 1) :: r := by
  have key : ∀ (t : List Nat) (rows r : List Rw) (n : Nat), rows = (c, n + 1) :: r → ∃ n r, rle rows t = (c, n + 1) :: r := by
    intro t
    induction t with
    | nil => intro rows r n e; exact ⟨n, r, e⟩
    | cons d t ih =>
      intro rows r n e
      rcases last_cases rows with h | ⟨r', c', m, h⟩
      · rw [h] at e; cases e
      · subst h
        cases r' with
        | nil =>
          cases e
          by_cases z : c = d
          · subst z
            exact ih _ [] (1 + n) (ad_same [] c 1 (n + 1))
          · exact ih _ [(d, 1)] n (ad_other (rows := []) z)
        | cons y r' =>
          cases e
          by_cases z : c' = d
          · subst z
            exact ih _ _ n (ad_same ((c, n + 1) :: r') c' 1 m)
          · exact ih _ _ n (ad_other (rows := (c, n + 1) :: r') z)
  exact key t [(c, 1)] [] 0 rfl
def cnt (s : Nat) (rows : List Rw) : Nat := (rows.map fun x => if x.1 = s then x.2 else 0).sum
theorem cnt_app (s : Nat) (a b : List Rw) : cnt s (a ++ b) = cnt s a + cnt s b := by
  unfold cnt
  rw [List.map_append, List.sum_append]
theorem cnt_add (s : Nat) (rows : List Rw) (c n : Nat) : cnt s (addRow rows c n) = cnt s rows + if c = s then n else 0 := by
  rcases last_cases rows with rfl | ⟨r, c', m, rfl⟩
  · simp [ad_nil, cnt]
  · by_cases h : c' = c
    · subst h
      rw [ad_same, cnt_app, cnt_app]
      simp only [cnt, List.map_cons, List.map_nil, List.sum_cons, List.sum_nil]
      split <;> omega
    · rw [ad_other h, cnt_app]
      simp only [cnt, List.map_cons, List.map_nil, List.sum_cons, List.sum_nil]
      split <;> omega
theorem cnt_rle (s : Nat) (l : List Nat) : ∀ rows, cnt s (rle rows l) = cnt s rows + l.count s := by
  induction l with
  | nil => intro rows; rfl
  | cons c t ih =>
    intro rows
    show cnt s (rle (addRow rows c 1) t) = _
    rw [ih, cnt_add, List.count_cons]
    by_cases h : c = s
    · subst h; simp; omega
    · have : (c == s) = false := by simpa using h
      rw [if_neg h, this]
      simp
theorem mem_add {rows : List Rw} {c n : Nat} {x : Rw} (h : x ∈ addRow rows c n) : x.1 = c ∨ x ∈ rows := by
  rcases last_cases rows with rfl | ⟨r, c', m, rfl⟩
  · exact .inl (by rw [ad_nil] at h; rw [List.mem_singleton.mp h])
  · by_cases z : c' = c
    · subst z
      rw [ad_same] at h
      rcases List.mem_append.mp h with h | h
      · exact .inr (List.mem_append_left _ h)
      · exact .inl (by rw [List.mem_singleton.mp h])
    · rw [ad_other z] at h
      rcases List.mem_append.mp h with h | h
      · exact .inr h
      · exact .inl (by rw [List.mem_singleton.mp h])
theorem mem_rle {x : Rw} (l : List Nat) : ∀ rows, x ∈ rle rows l → x.1 ∈ l ∨ x ∈ rows := by
  induction l with
  | nil => intro rows h; exact .inr h
  | cons c t ih =>
    intro rows h
    rcases ih _ h with h | h
    · exact .inl (List.mem_cons_of_mem _ h)
    · rcases mem_add h with h | h
      · exact .inl (by rw [h]; exact List.mem_cons_self)
      · exact .inr h
theorem places_run {place : Nat} {R : List Rw} (hR : ∀ x, R.head? = some x → x.1 ≠ place ∧ ins x.1 = false) : ∀ (W : List Rw) (m : Nat), (∀ x ∈ W, x.1 = place ∨ ins x.1 = true) → placesGo place (W ++ R) m = (m + cnt place W, R) := by
  intro W
  induction W with
  | nil =>
    intro m _
    show placesGo place R m = _
    cases R with
    | nil => rfl
    | cons x r =>
      obtain ⟨c, n⟩ := x
      have := hR (c, n) rfl
      show (if c = place then _ else if ins c = true then _ else _) = _
      rw [if_neg this.1, if_neg (by rw [this.2]; decide)]
      rfl
  | cons x r ih =>
    intro m h
    obtain ⟨c, n⟩ := x
    have e : cnt place ((c, n) :: r) = (if c = place then n else 0) + cnt place r := by simp [cnt]
    show (if c = place then placesGo place (r ++ R) (m + n) else if ins c = true then placesGo place (r ++ R) m else (m, (c, n) :: (r ++ R))) = _
    rw [e]
    by_cases z : c = place
    · rw [if_pos z, if_pos z, ih _ fun y hy => h y (List.mem_cons_of_mem _ hy), Nat.add_assoc]
    · rw [if_neg z, if_neg z, if_pos ((h _ List.mem_cons_self).resolve_left z), ih _ fun y hy => h y (List.mem_cons_of_mem _ hy), Nat.zero_add]
/-- places of one symbol with inserted signs among and behind -/
structure PlT (s most : Nat) (l : List Nat) : Prop where
  hd : l.head? = some s
  all : ∀ x ∈ l, x = s ∨ ins x = true
  cn : l.count s ≤ most
theorem PlT.rows {s most : Nat} {l : List Nat} (h : PlT s most l) : ∃ n r, rle [] l = (s, n + 1) :: r ∧ (∀ x ∈ rle [] l, x.1 = s ∨ ins x.1 = true) ∧ cnt s (rle [] l) = l.count s := by
  cases l with
  | nil => cases h.hd
  | cons c t =>
    have e : c = s := Option.some.inj h.hd
    subst e
    obtain ⟨n, r, e⟩ := rle_head c t
    refine ⟨n, r, e, fun x hx => ?_, by rw [cnt_rle]; exact Nat.zero_add _⟩
    rcases mem_rle _ _ hx with z | z
    · exact h.all _ z
    · cases z
theorem PlT.last {s most : Nat} {l : List Nat} (h : PlT s most l) {x : Nat} (e : l.getLast? = some x) : x = s ∨ ins x = true := h.all x (List.mem_of_getLast? e)
end K04

set_option Elab.async false
set_option linter.all false
set_option maxRecDepth 100000
namespace K04
open PySem PySem.NumText K02
theorem rle_has {x : Nat} (l : List Nat) : ∀ rows : List Rw, (x ∈ l ∨ ∃ y ∈ rows, y.1 = x) → ∃ y ∈ rle rows l, y.1 = x := by
  have keep : ∀ (rows : List Rw) (c : Nat), (x = c ∨ ∃ y ∈ rows, y.1 = x) → ∃ y ∈ addRow rows c 1, y.1 = x := by
    intro rows c h
    rcases last_cases rows with rfl | ⟨r, c', m, rfl⟩
    · rcases h with h | ⟨y, hy, _⟩
      · exact ⟨(c, 1), List.mem_singleton.mpr rfl, h.symm⟩
      · cases hy
    · by_cases z : c' = c
      · subst z
        rw [ad_same]
        rcases h with h | ⟨y, hy, e⟩
        · exact ⟨_, List.mem_append_right _ (List.mem_singleton.mpr rfl), h.symm⟩
        · rcases List.mem_append.mp hy with hy | hy
          · exact ⟨y, List.mem_append_left _ hy, e⟩
          · rw [List.mem_singleton.mp hy] at e
            exact ⟨_, List.mem_append_right _ (List.mem_singleton.mpr rfl), e⟩
      · rw [ad_other z]
        rcases h with h | ⟨y, hy, e⟩
        · exact ⟨_, List.mem_append_right _ (List.mem_singleton.mpr rfl), h.symm⟩
        · exact ⟨y, List.mem_append_left _ hy, e⟩
  induction l with
  | nil => intro rows h; exact h.resolve_left (by simp)
  | cons c t ih =>
    intro rows h
    refine ih _ ?_
    rcases h with h | h
    · rcases List.mem_cons.mp h with h | h
      · exact .inr (keep rows c (.inl h))
      · exact .inl h
    · exact .inr (keep rows c (.inr h))
/-- the drawn parts of edited figures -/
structure Ed (lead : List Nat) (first : Nat) (W N broken tail : List Nat) : Prop where
  w : PlT first 5 W
  n : N = [] ∨ (first ≠ 57 ∧ PlT 57 3 N)
  f : first ∈ ([57, 90, 42, 43, 45, 36] : List Nat)
  fl : first ∈ ([43, 45, 36] : List Nat) → 2 ≤ W.count first
  br : broken = [] ∨ ∃ k b, k < 3 ∧ broken = List.replicate (k + 1) b ∧ (b = 57 ∨ (b = first ∧ (first = 90 ∨ first = 42) ∧ N = []))
  ld : lead ∈ ([[], [43], [45], [36], [43, 36], [45, 36]] : List (List Nat))
  l1 : first = 43 ∨ first = 45 → lead = [] ∨ lead = [36]
  l2 : first = 36 → lead = [] ∨ lead = [43] ∨ lead = [45]
  tl : tail ∈ ([[], [43], [45], [67, 82], [68, 66]] : List (List Nat))
  ts : tail ≠ [] → (first ≠ 43 ∧ first ≠ 45) ∧ (lead = [] ∨ lead = [36])
  nn : ¬ (first = 57 ∧ (∀ x ∈ W, x = 57) ∧ lead = [] ∧ broken = [] ∧ tail = [])
def dotted (broken : List Nat) : List Nat := if broken = [] then [] else 46 :: broken
def lineOf (lead W N broken tail : List Nat) : List Nat := lead ++ (W ++ (N ++ (dotted broken ++ tail)))
def sgn (lead : List Nat) (first : Nat) (tail : List Nat) : Bool := (lead.head? == some 43 || lead.head? == some 45) || (first == 43 || first == 45) || !tail.isEmpty
theorem shown_ok : ∀ first ∈ ([57, 90, 42, 43, 45, 36] : List Nat), ∀ lead ∈ ([[], [43], [45], [36], [43, 36], [45, 36]] : List (List Nat)), ∀ tail ∈ ([[], [43], [45], [67, 82], [68, 66]] : List (List Nat)),
    (first = 43 ∨ first = 45 → lead = [] ∨ lead = [36]) → (tail ≠ [] → (first ≠ 43 ∧ first ≠ 45) ∧ (lead = [] ∨ lead = [36])) →
      ([lead.take 1, [first], tail].filter (shownL.contains ·)).length ≤ 1 ∧ (([lead.take 1, [first], tail].filter (shownL.contains ·)).length == 1) = sgn lead first tail := by decide
theorem ins_f : ∀ first ∈ ([57, 90, 42, 43, 45, 36] : List Nat), ins first = false ∧ first ≠ 46 ∧ first ≠ 40 ∧ first ≠ 88 ∧ first ≠ 65 := by decide
section
variable {lead W N broken tail : List Nat} {first : Nat}
theorem drop_ins {s : Nat} (hs : ins s = false) (R : List Rw) : ∀ r : List Rw, (∀ x ∈ r, x.1 = s ∨ ins x.1 = true) → 1 ≤ cnt s r → ∃ m r', (r ++ R).dropWhile (fun x => ins x.1) = (s, m) :: r' := by
  intro r
  induction r with
  | nil => intro _ h; exact absurd h (by simp [cnt])
  | cons x r ih =>
    intro h1 h2
    obtain ⟨c, n⟩ := x
    by_cases z : c = s
    · subst z
      exact ⟨n, r ++ R, by rw [List.cons_append, List.dropWhile_cons, if_neg (by show ¬ ins c = true; rw [hs]; decide)]⟩
    · have hi : ins c = true := (h1 _ List.mem_cons_self).resolve_left z
      have hc : cnt s ((c, n) :: r) = cnt s r := by simp [cnt, z]
      rw [hc] at h2
      obtain ⟨m, r', e⟩ := ih (fun y hy => h1 y (List.mem_cons_of_mem _ hy)) h2
      exact ⟨m, r', by rw [List.cons_append, List.dropWhile_cons, if_pos (show ins c = true from hi), e]⟩
theorem floats_of {s n : Nat} {r : List Rw} (hs : ins s = false) (R : List Rw) (h1 : ∀ x ∈ (s, n + 1) :: r, x.1 = s ∨ ins x.1 = true) (h2 : 2 ≤ cnt s ((s, n + 1) :: r)) : floatsAt ((s, n + 1) :: (r ++ R)) = true := by
  show (decide (n + 1 > 1) || _) = true
  cases n with
  | succ n => rw [decide_eq_true (by omega)]; rfl
  | zero =>
    have hc : cnt s ((s, 0 + 1) :: r) = 1 + cnt s r := by simp [cnt]
    rw [hc] at h2
    obtain ⟨m, r', e⟩ := drop_ins hs R r (fun y hy => h1 y (List.mem_cons_of_mem _ hy)) (by omega)
    rw [e]
    simp
theorem floats_one {c s m : Nat} (hs : ins s = false) (r : List Rw) (h : s ≠ c) : floatsAt ((c, 1) :: (s, m) :: r) = false := by
  show (decide (1 > 1) || _) = false
  rw [List.dropWhile_cons, if_neg (show ¬ ins s = true by rw [hs]; decide)]
  simp [h]
theorem rle_dot {b k : Nat} (h : b ≠ 46) : rle [] (46 :: List.replicate (k + 1) b) = [(46, 1), (b, k + 1)] := by
  show rle [(46, 1)] (List.replicate (k + 1) b) = _
  rw [rle_rep]
  exact ad_other (rows := []) (Ne.symm h)
theorem tail_rows : ∀ tail ∈ ([[], [43], [45], [67, 82], [68, 66]] : List (List Nat)), tailOf (rle [] tail) = some tail ∧ (∀ x, (rle [] tail).head? = some x → x.1 ∈ ([43, 45, 67, 68] : List Nat)) ∧ (rle [] tail = [] → tail = []) ∧ (∀ x, tail.head? = some x → x ∈ ([43, 45, 67, 68] : List Nat)) := by
  intro tail h
  simp only [List.mem_cons, List.not_mem_nil, or_false] at h
  rcases h with rfl | rfl | rfl | rfl | rfl
  · exact ⟨by decide, (by intro x hx; cases hx), by decide, (by intro x hx; cases hx)⟩
  all_goals exact ⟨by decide, (by intro x hx; cases hx; decide), by decide, (by intro x hx; cases hx; decide)⟩
theorem lead_rows : ∀ lead ∈ ([[], [43], [45], [36], [43, 36], [45, 36]] : List (List Nat)), rle [] lead = lead.map fun c => (c, 1) := by decide
/-- where no inserted sign and no place can follow -/
theorem Ed.behind (E : Ed lead first W N broken tail) : ∀ x, (dotted broken ++ tail).head? = some x → x ≠ 57 ∧ ins x = false ∧ x ≠ first ∧ x ∈ ([46, 43, 45, 67, 68] : List Nat) := by
  intro x hx
  have hf := ins_f first E.f
  unfold dotted at hx
  by_cases hb : broken = []
  · rw [if_pos hb, List.nil_append] at hx
    have ht := (tail_rows tail E.tl).2.2.2 x hx
    have hn : tail ≠ [] := fun z => by rw [z] at hx; cases hx
    have hs := E.ts hn
    have h67 : first ≠ 67 ∧ first ≠ 68 := by
      have : ∀ f ∈ ([57, 90, 42, 43, 45, 36] : List Nat), f ≠ 67 ∧ f ≠ 68 := by decide
      exact this first E.f
    simp only [List.mem_cons, List.not_mem_nil, or_false] at ht
    rcases ht with rfl | rfl | rfl | rfl
    · exact ⟨by decide, by decide, Ne.symm hs.1.1, by decide⟩
    · exact ⟨by decide, by decide, Ne.symm hs.1.2, by decide⟩
    · exact ⟨by decide, by decide, Ne.symm h67.1, by decide⟩
    · exact ⟨by decide, by decide, Ne.symm h67.2, by decide⟩
  · rw [if_neg hb] at hx
    cases hx
    exact ⟨by decide, by decide, Ne.symm hf.2.1, by decide⟩
theorem Ed.behind2 (E : Ed lead first W N broken tail) : ∀ x, (N ++ (dotted broken ++ tail)).head? = some x → x ≠ first ∧ ins x = false := by
  intro x hx
  rcases E.n with rfl | ⟨h1, h2⟩
  · rw [List.nil_append] at hx
    exact ⟨(E.behind x hx).2.2.1, (E.behind x hx).2.1⟩
  · rw [List.head?_append, h2.hd] at hx
    cases hx
    exact ⟨Ne.symm h1, by decide⟩
theorem Ed.headW (E : Ed lead first W N broken tail) (R : List Nat) : (W ++ R).head? = some first := by rw [List.head?_append, E.w.hd]; rfl
theorem Ed.rows (E : Ed lead first W N broken tail) : rle [] (lineOf lead W N broken tail) = (lead.map fun c => (c, 1)) ++ (rle [] W ++ (rle [] N ++ (rle [] (dotted broken) ++ rle [] tail))) := by
  have hf := ins_f first E.f
  unfold lineOf
  rw [rle_two, lead_rows lead E.ld, rle_two, rle_two, rle_two]
  · intro x hx hx2
    unfold dotted at hx
    have ht := (tail_rows tail E.tl).2.2.2 x hx2
    rcases E.br with rfl | ⟨k, b, hk, rfl, hb⟩
    · cases hx
    · rw [if_neg (by simp)] at hx
      have hxb : x = b := by
        rw [List.getLast?_cons, List.getLast?_replicate] at hx
        simp at hx
        exact hx.symm
      subst hxb
      have : x = 57 ∨ x = 90 ∨ x = 42 := by
        rcases hb with h | ⟨h, h2 | h2, _⟩
        · exact .inl h
        · exact .inr (.inl (h.trans h2))
        · exact .inr (.inr (h.trans h2))
      rcases this with rfl | rfl | rfl <;> exact absurd ht (by decide)
  · intro x hx hx2
    have hb := E.behind x hx2
    rcases E.n with rfl | ⟨h1, h2⟩
    · cases hx
    · rcases h2.last hx with z | z
      · exact hb.1 z
      · rw [hb.2.1] at z; cases z
  · intro x hx hx2
    have hb := E.behind2 x hx2
    rcases E.w.last hx with z | z
    · exact hb.1 z
    · rw [hb.2] at z; cases z
  · intro x hx hx2
    rw [E.headW] at hx2
    cases hx2
    have hl := E.ld
    simp only [List.mem_cons, List.not_mem_nil, or_false] at hl
    have a1 : lead = [43] ∨ lead = [45] ∨ lead = [36] ∨ lead = [43, 36] ∨ lead = [45, 36] ∨ lead = [] := by rcases hl with h | h | h | h | h | h <;> simp [h]
    rcases a1 with rfl | rfl | rfl | rfl | rfl | rfl
    · cases hx; exact absurd (E.l1 (.inl rfl)) (by decide)
    · cases hx; exact absurd (E.l1 (.inr rfl)) (by decide)
    · cases hx; exact absurd (E.l2 rfl) (by decide)
    · cases hx; exact absurd (E.l2 rfl) (by decide)
    · cases hx; exact absurd (E.l2 rfl) (by decide)
    · cases hx
end
end K04

set_option Elab.async false
set_option linter.all false
set_option maxRecDepth 100000
namespace K04
open PySem PySem.NumText K02
section
variable {lead W N broken tail : List Nat} {first : Nat}
theorem Ed.leadP (E : Ed lead first W N broken tail) (R : List Rw) : leadOf ((lead.map fun c => (c, 1)) ++ (rle [] W ++ R)) = (lead, rle [] W ++ R) := by
  have hf := ins_f first E.f
  obtain ⟨n, r, e, hall, hcn⟩ := E.w.rows
  have hfl : first ∈ ([43, 45, 36] : List Nat) → floatsAt ((first, n + 1) :: (r ++ R)) = true := fun h => by
    have h2 := E.fl h
    rw [← hcn, e] at h2
    rw [e] at hall
    exact floats_of hf.1 R hall h2
  rw [e, List.cons_append]
  have g2 : ∀ ld : List Nat, (first = 36 → floatsAt ((first, n + 1) :: (r ++ R)) = true) → leadGo [[36]] ((first, n + 1) :: (r ++ R)) ld = (ld, (first, n + 1) :: (r ++ R)) := fun ld h => by
    show (if (([36] : List Nat).contains first && !floatsAt ((first, n + 1) :: (r ++ R))) = true then _ else _) = _
    by_cases z : first = 36
    · rw [h z]
      simp
      rfl
    · have : ([36] : List Nat).contains first = false := by simpa using z
      rw [this]
      rfl
  have g1 : ∀ ld : List Nat, leadGo [[43, 45], [36]] ((first, n + 1) :: (r ++ R)) ld = (ld, (first, n + 1) :: (r ++ R)) := fun ld => by
    show (if (([43, 45] : List Nat).contains first && !floatsAt ((first, n + 1) :: (r ++ R))) = true then _ else _) = _
    rw [if_neg]
    · exact g2 ld fun z => hfl (by rw [z]; decide)
    · by_cases z : first = 43 ∨ first = 45
      · rw [hfl (by rcases z with z | z <;> rw [z] <;> decide)]
        simp
      · have : ([43, 45] : List Nat).contains first = false := by simpa using z
        rw [this, Bool.false_and]
        decide
  have hl := E.ld
  simp only [List.mem_cons, List.not_mem_nil, or_false] at hl
  have g36 : first = 36 → floatsAt ((first, n + 1) :: (r ++ R)) = true := fun z => hfl (by rw [z]; decide)
  have step2 : ∀ (ld : List Nat), first ≠ 36 → leadGo [[36]] ((36, 1) :: (first, n + 1) :: (r ++ R)) ld = (ld ++ [36], (first, n + 1) :: (r ++ R)) := fun ld h => by
    show (if (([36] : List Nat).contains 36 && !floatsAt ((36, 1) :: (first, n + 1) :: (r ++ R))) = true then _ else _) = _
    rw [floats_one hf.1 _ h]
    rfl
  have step1 : ∀ (c : Nat) (s m : Nat) (r' : List Rw), (c = 43 ∨ c = 45) → ins s = false → s ≠ c → leadGo [[43, 45], [36]] ((c, 1) :: (s, m) :: r') [] = leadGo [[36]] ((s, m) :: r') [c] := fun c s m r' hc hs h => by
    show (if (([43, 45] : List Nat).contains c && !floatsAt ((c, 1) :: (s, m) :: r')) = true then _ else _) = _
    rw [floats_one hs _ h]
    rcases hc with rfl | rfl <;> rfl
  rcases hl with rfl | rfl | rfl | rfl | rfl | rfl
  · exact g1 []
  · show leadGo [[43, 45], [36]] ((43, 1) :: (first, n + 1) :: (r ++ R)) [] = _
    rw [step1 43 _ _ _ (.inl rfl) hf.1 (fun z => absurd (E.l1 (.inl z)) (by decide))]
    exact g2 _ g36
  · show leadGo [[43, 45], [36]] ((45, 1) :: (first, n + 1) :: (r ++ R)) [] = _
    rw [step1 45 _ _ _ (.inr rfl) hf.1 (fun z => absurd (E.l1 (.inr z)) (by decide))]
    exact g2 _ g36
  · show leadGo [[36]] ((36, 1) :: (first, n + 1) :: (r ++ R)) [] = _
    exact step2 [] fun z => absurd (E.l2 z) (by decide)
  · show leadGo [[43, 45], [36]] ((43, 1) :: (36, 1) :: (first, n + 1) :: (r ++ R)) [] = _
    rw [step1 43 _ _ _ (.inl rfl) (by decide) (by decide)]
    exact step2 [43] fun z => absurd (E.l2 z) (by decide)
  · show leadGo [[43, 45], [36]] ((45, 1) :: (36, 1) :: (first, n + 1) :: (r ++ R)) [] = _
    rw [step1 45 _ _ _ (.inr rfl) (by decide) (by decide)]
    exact step2 [45] fun z => absurd (E.l2 z) (by decide)
theorem head_rle {l : List Nat} {x : Rw} (h : (rle [] l).head? = some x) : l.head? = some x.1 := by
  cases l with
  | nil => cases h
  | cons c t =>
    obtain ⟨n, r, e⟩ := rle_head c t
    rw [e] at h
    cases h
    rfl
theorem head_rle2 {a b : List Nat} {x : Rw} (h : (rle [] a ++ rle [] b).head? = some x) : (a ++ b).head? = some x.1 := by
  cases a with
  | nil => exact head_rle h
  | cons c t =>
    obtain ⟨n, r, e⟩ := rle_head c t
    rw [e] at h
    cases h
    rfl
theorem Ed.whole (E : Ed lead first W N broken tail) : wholePart (rle [] W ++ (rle [] N ++ (rle [] (dotted broken) ++ rle [] tail))) = ([first], W.count first, N.count 57, rle [] (dotted broken) ++ rle [] tail) := by
  have hf := ins_f first E.f
  obtain ⟨n, r, e, hall, hcn⟩ := E.w.rows
  have h1 : placesGo first (rle [] W ++ (rle [] N ++ (rle [] (dotted broken) ++ rle [] tail))) 0 = (W.count first, rle [] N ++ (rle [] (dotted broken) ++ rle [] tail)) := by
    rw [places_run _ _ _ hall, hcn, Nat.zero_add]
    intro x hx
    refine E.behind2 x.1 ?_
    rcases E.n with rfl | ⟨_, h2⟩
    · rw [List.nil_append]
      exact head_rle2 (a := dotted broken) (b := tail) hx
    · obtain ⟨n', r', e', _⟩ := h2.rows
      rw [e'] at hx
      cases hx
      rw [List.head?_append, h2.hd]
      rfl
  have h2 : placesGo 57 (rle [] N ++ (rle [] (dotted broken) ++ rle [] tail)) 0 = (N.count 57, rle [] (dotted broken) ++ rle [] tail) := by
    have hN : (∀ x ∈ rle [] N, x.1 = 57 ∨ ins x.1 = true) ∧ cnt 57 (rle [] N) = N.count 57 := by
      rcases E.n with rfl | ⟨_, h2⟩
      · exact ⟨(fun x hx => nomatch hx), rfl⟩
      · obtain ⟨n', r', e', ha, hc⟩ := h2.rows
        exact ⟨ha, hc⟩
    rw [places_run _ _ _ hN.1, hN.2, Nat.zero_add]
    intro x hx
    have := E.behind x.1 (head_rle2 hx)
    exact ⟨this.1, this.2.1⟩
  have hc : ([57, 90, 42, 43, 45, 36] : List Nat).contains first = true := List.contains_iff_mem.mpr E.f
  rw [e, List.cons_append]
  rw [e, List.cons_append] at h1
  show (if ([57, 90, 42, 43, 45, 36] : List Nat).contains first = true then _ else _) = _
  rw [if_pos hc]
  show ([first], (placesGo first _ 0).1, (placesGo 57 (placesGo first _ 0).2 0).1, (placesGo 57 (placesGo first _ 0).2 0).2) = _
  rw [h1]
  show ([first], W.count first, (placesGo 57 _ 0).1, (placesGo 57 _ 0).2) = _
  rw [h2]
theorem Ed.brokenP (E : Ed lead first W N broken tail) : brokenPart (rle [] (dotted broken) ++ rle [] tail) (if N.count 57 = 0 then [first] else [57]) = (some broken.length, rle [] tail) := by
  rcases E.br with rfl | ⟨k, b, hk, rfl, hb⟩
  · show brokenPart (rle [] tail) _ = _
    have ht := (tail_rows tail E.tl).2.1
    cases e : rle [] tail with
    | nil => rfl
    | cons x r =>
      obtain ⟨c, n⟩ := x
      have := ht (c, n) (by rw [e]; rfl)
      unfold brokenPart
      split
      · rename_i heq
        cases heq
        exact absurd (show (46 : Nat) ∈ ([43, 45, 67, 68] : List Nat) from this) (by decide)
      · rfl
  · have h46 : b ≠ 46 := by
      rcases hb with h | ⟨h, h2 | h2, _⟩
      · rw [h]; decide
      · rw [h, h2]; decide
      · rw [h, h2]; decide
    unfold dotted
    rw [if_neg (by simp), rle_dot h46]
    have e : ∀ pl : List Nat, brokenPart ([(46, 1), (b, k + 1)] ++ rle [] tail) pl = if (1 > 1 ∨ (b, k + 1) :: rle [] tail = []) then (none, [(46, 1), (b, k + 1)] ++ rle [] tail) else (if b ≠ 57 ∧ ([b] ≠ pl ∨ ([43, 45, 36] : List Nat).contains b = true) then (none, [(46, 1), (b, k + 1)] ++ rle [] tail) else (some (k + 1), rle [] tail)) := fun pl => rfl
    rw [e]
    rw [if_neg (by simp), if_neg, List.length_replicate]
    rintro ⟨z1, z2⟩
    rcases hb with h | ⟨h, h2, h3⟩
    · exact z1 h
    · subst h3
      rw [if_pos List.count_nil, h] at z2
      rcases z2 with z2 | z2
      · exact z2 rfl
      · rcases h2 with h2 | h2 <;> rw [h2] at z2 <;> exact absurd z2 (by decide)
def flo (first : Nat) : Bool := ([43, 45, 36] : List Nat).contains first
theorem Ed.edited (E : Ed lead first W N broken tail) : editedFacts (rle [] (lineOf lead W N broken tail)) = some ⟨3, sgn lead first tail, W.count first + N.count 57 - (if flo first = true then 1 else 0), broken.length⟩ := by
  have h1 := E.leadP (rle [] N ++ (rle [] (dotted broken) ++ rle [] tail))
  rw [← E.rows] at h1
  have h4 := (tail_rows tail E.tl).1
  have hs := shown_ok first E.f lead E.ld tail E.tl E.l1 E.ts
  have hm : ¬ (flo first && decide (W.count first < 2)) = true := by
    intro z
    rw [Bool.and_eq_true] at z
    have := E.fl (List.contains_iff_mem.mp z.1)
    have := of_decide_eq_true z.2
    omega
  have h18 : ¬ (W.count first + N.count 57 - (if flo first = true then 1 else 0) + broken.length > 18) := by
    have a := E.w.cn
    have b : N.count 57 ≤ 3 := by
      rcases E.n with rfl | ⟨_, h⟩
      · simp
      · exact h.cn
    have c : broken.length ≤ 3 := by
      rcases E.br with rfl | ⟨k, b, hk, rfl, _⟩
      · simp
      · rw [List.length_replicate]; omega
    omega
  unfold editedFacts
  rw [h1]
  dsimp only
  rw [E.whole]
  dsimp only
  rw [E.brokenP]
  dsimp only
  rw [h4]
  show (if (flo first && decide (W.count first < 2)) = true then none else if ([lead.take 1, [first], tail].filter (shownL.contains ·)).length > 1 then none else if W.count first + N.count 57 - (if flo first = true then 1 else 0) + broken.length > 18 then none else some (⟨3, (([lead.take 1, [first], tail].filter (shownL.contains ·)).length == 1), W.count first + N.count 57 - (if flo first = true then 1 else 0), broken.length⟩ : Facts)) = _
  rw [if_neg hm, if_neg (by omega), if_neg h18, hs.2]
def alph : List Nat := [43, 45, 36, 57, 90, 42, 44, 66, 48, 47, 46, 67, 82, 68]
theorem ins_alph {x : Nat} (h : ins x = true) : x ∈ alph := by
  have : x ∈ ([44, 66, 48, 47] : List Nat) := List.contains_iff_mem.mp h
  revert this
  simp only [List.mem_cons, List.not_mem_nil, or_false, alph]
  omega
theorem Ed.sym (E : Ed lead first W N broken tail) : ∀ x ∈ lineOf lead W N broken tail, x ∈ alph := by
  intro x hx
  have hfa : first ∈ alph := by have h : ∀ f ∈ ([57, 90, 42, 43, 45, 36] : List Nat), f ∈ alph := (by decide); exact h first E.f
  unfold lineOf at hx
  rcases List.mem_append.mp hx with hx | hx
  · have h : ∀ l ∈ ([[], [43], [45], [36], [43, 36], [45, 36]] : List (List Nat)), ∀ x ∈ l, x ∈ alph := by decide
    exact h lead E.ld x hx
  rcases List.mem_append.mp hx with hx | hx
  · rcases E.w.all x hx with h | h
    · rw [h]; exact hfa
    · exact ins_alph h
  rcases List.mem_append.mp hx with hx | hx
  · rcases E.n with rfl | ⟨_, h2⟩
    · cases hx
    · rcases h2.all x hx with h | h
      · rw [h]; decide
      · exact ins_alph h
  rcases List.mem_append.mp hx with hx | hx
  · unfold dotted at hx
    rcases E.br with rfl | ⟨k, b, hk, rfl, hb⟩
    · cases hx
    · rw [if_neg (by simp)] at hx
      rcases List.mem_cons.mp hx with rfl | hx
      · decide
      · rw [List.eq_of_mem_replicate hx]
        rcases hb with h | ⟨h, _⟩
        · rw [h]; decide
        · rw [h]; exact hfa
  · have h : ∀ l ∈ ([[], [43], [45], [67, 82], [68, 66]] : List (List Nat)), ∀ x ∈ l, x ∈ alph := by decide
    exact h tail E.tl x hx
theorem form_sym : ∀ f ∈ forms, ∀ x ∈ f, x = 57 ∨ x = 83 ∨ x = 86 := by decide
theorem Ed.noNumber (E : Ed lead first W N broken tail) : numberFacts (rle [] (lineOf lead W N broken tail)) = none := by
  have key : ∃ x ∈ lineOf lead W N broken tail, x ≠ 57 := by
    unfold lineOf
    by_cases z : ∃ x ∈ lead ++ (W ++ (N ++ (dotted broken ++ tail))), x ≠ 57
    · exact z
    · exfalso
      have all : ∀ x ∈ lead ++ (W ++ (N ++ (dotted broken ++ tail))), x = 57 := fun x hx => Decidable.byContradiction fun q => z ⟨x, hx, q⟩
      have hl : lead = [] := by
        cases e : lead with
        | nil => rfl
        | cons a r =>
          have h : ∀ l ∈ ([[], [43], [45], [36], [43, 36], [45, 36]] : List (List Nat)), ∀ x ∈ l, x ≠ 57 := by decide
          have := all a (List.mem_append_left _ (by rw [e]; exact List.mem_cons_self))
          exact absurd this (h lead E.ld a (by rw [e]; exact List.mem_cons_self))
      have hW : ∀ x ∈ W, x = 57 := fun x hx => all x (List.mem_append_right _ (List.mem_append_left _ hx))
      have hf : first = 57 := hW first (List.mem_of_mem_head? E.w.hd)
      have hD : ∀ x ∈ dotted broken ++ tail, x = 57 := fun x hx => all x (List.mem_append_right _ (List.mem_append_right _ (List.mem_append_right _ hx)))
      have hb : broken = [] := by
        cases e : broken with
        | nil => rfl
        | cons a r =>
          have := hD 46 (List.mem_append_left _ (by unfold dotted; rw [if_neg (by rw [e]; simp)]; exact List.mem_cons_self))
          cases this
      have ht : tail = [] := by
        cases e : tail with
        | nil => rfl
        | cons a r =>
          have h : ∀ l ∈ ([[], [43], [45], [67, 82], [68, 66]] : List (List Nat)), ∀ x ∈ l, x ≠ 57 := by decide
          have := hD a (List.mem_append_right _ (by rw [e]; exact List.mem_cons_self))
          exact absurd this (h tail E.tl a (by rw [e]; exact List.mem_cons_self))
      exact E.nn ⟨hf, hW, hl, hb, ht⟩
  obtain ⟨x, hx, hne⟩ := key
  have ha := E.sym x hx
  obtain ⟨y, hy, e⟩ := rle_has _ [] (.inl hx)
  unfold numberFacts
  rw [if_neg]
  intro z
  have := form_sym _ (List.contains_iff_mem.mp z) x (by rw [← e]; exact List.mem_map_of_mem hy)
  rcases this with h | h | h
  · exact hne h
  · rw [h] at ha; exact absurd ha (by decide)
  · rw [h] at ha; exact absurd ha (by decide)
theorem Ed.noPlain (E : Ed lead first W N broken tail) : plainFacts (rle [] (lineOf lead W N broken tail)) = none := by
  unfold plainFacts
  split
  · rename_i c n heq
    have hm : c ∈ lineOf lead W N broken tail := by
      have := mem_rle (x := (c, n)) (lineOf lead W N broken tail) [] (by rw [heq]; exact List.mem_singleton.mpr rfl)
      exact this.resolve_right (by simp)
    have ha := E.sym c hm
    rw [if_pos]
    refine .inl ⟨fun z => ?_, fun z => ?_⟩
    · rw [z] at ha; exact absurd ha (by decide)
    · rw [z] at ha; exact absurd ha (by decide)
  · rfl
theorem Ed.no40 (E : Ed lead first W N broken tail) : 40 ∉ lineOf lead W N broken tail := fun z => absurd (E.sym 40 z) (by decide)
theorem Ed.pic (E : Ed lead first W N broken tail) : picture (lineOf lead W N broken tail) = some ⟨3, sgn lead first tail, W.count first + N.count 57 - (if flo first = true then 1 else 0), broken.length⟩ := by
  unfold picture
  rw [rowsOf_out E.no40]
  unfold factsOf
  rw [E.noNumber, E.noPlain, E.edited]
end
/-! the other kinds -/
theorem rep_no40 {c m : Nat} (h : c ≠ 40) : 40 ∉ List.replicate m c := fun z => h (List.eq_of_mem_replicate z).symm
theorem pic_plain {c m : Nat} (hc : c = 88 ∨ c = 65) (hm : m < 60) : picture (List.replicate (m + 1) c) = some ⟨if c = 88 then 0 else 1, false, 0, 0⟩ := by
  unfold picture
  rw [rowsOf_out (rep_no40 (by rcases hc with h | h <;> rw [h] <;> decide)), rle_rep, ad_nil]
  unfold factsOf
  have h1 : numberFacts [(c, m + 1)] = none := by
    unfold numberFacts
    rw [if_neg]
    show ¬ forms.contains [c] = true
    rcases hc with h | h <;> rw [h] <;> decide
  have h2 : plainFacts [(c, m + 1)] = some ⟨if c = 88 then 0 else 1, false, 0, 0⟩ := by
    show (if (c ≠ 88 ∧ c ≠ 65) ∨ m + 1 > 60 then none else some (⟨if c = 88 then 0 else 1, false, 0, 0⟩ : Facts)) = _
    rw [if_neg]
    rintro (⟨a, b⟩ | a)
    · rcases hc with h | h
      · exact a h
      · exact b h
    · omega
  rw [h1, h2]
def numLine (s : Bool) (a b : Nat) : List Nat := (if s then [83] else []) ++ List.replicate a 57 ++ (if b = 0 then [] else 86 :: List.replicate b 57)
theorem num_pic : ∀ (s : Bool) (a b : Nat), a < 6 → b < 4 → a + b ≠ 0 → picture (numLine s a b) = some ⟨2, s, a, b⟩ ∧ 40 ∉ numLine s a b := by
  intro s a b ha hb h
  have key : ∀ s : Bool, ∀ a < 6, ∀ b < 4, a + b ≠ 0 → picture (numLine s a b) = some ⟨2, s, a, b⟩ ∧ 40 ∉ numLine s a b := by decide
  exact key s a ha b hb h
end K04

set_option Elab.async false
set_option linter.all false
set_option maxRecDepth 100000
/-! rows written out, written short, and their sizes -/
namespace K04
open K02 PySem.NumText
def un (rows : List Rw) : List Nat := rows.flatMap fun x => List.replicate x.2 x.1
theorem un_app (a b : List Rw) : un (a ++ b) = un a ++ un b := List.flatMap_append
theorem un_one (c n : Nat) : un [(c, n)] = List.replicate n c := by simp [un]
theorem un_add (rows : List Rw) (c n : Nat) : un (addRow rows c n) = un rows ++ List.replicate n c := by
  rcases last_cases rows with rfl | ⟨r, c', m, rfl⟩
  · rw [ad_nil, un_one]; rfl
  · by_cases h : c' = c
    · subst h
      rw [ad_same, un_app, un_app, un_one, un_one, List.append_assoc, List.replicate_append_replicate, Nat.add_comm]
    · rw [ad_other h, un_app (r ++ [(c', m)]), un_one]
theorem un_rle (l : List Nat) : ∀ rows, un (rle rows l) = un rows ++ l := by
  induction l with
  | nil => intro rows; show un rows = _; rw [List.append_nil]
  | cons c t ih =>
    intro rows
    show un (rle (addRow rows c 1) t) = _
    rw [ih, un_add, List.append_assoc]
    rfl
theorem un_self (l : List Nat) : un (rle [] l) = l := by rw [un_rle]; rfl
/-- how many signs but S and V -/
def noSV (c : Nat) : Bool := !([83, 86] : List Nat).contains c
def szR (rows : List Rw) : Nat := ((rows.filter fun x => noSV x.1).map (·.2)).sum
theorem szR_app (a b : List Rw) : szR (a ++ b) = szR a + szR b := by simp [szR]
theorem szR_one (c n : Nat) : szR [(c, n)] = if noSV c = true then n else 0 := by
  unfold szR
  rw [List.filter_cons]
  split <;> simp
theorem szR_add (rows : List Rw) (c n : Nat) : szR (addRow rows c n) = szR rows + if noSV c = true then n else 0 := by
  rcases last_cases rows with rfl | ⟨r, c', m, rfl⟩
  · rw [ad_nil, szR_one]; simp [szR]
  · by_cases h : c' = c
    · subst h
      rw [ad_same, szR_app, szR_app, szR_one, szR_one]
      split <;> omega
    · rw [ad_other h, szR_app (r ++ [(c', m)]), szR_one]
theorem szR_rle (l : List Nat) : ∀ rows, szR (rle rows l) = szR rows + (l.filter noSV).length := by
  induction l with
  | nil => intro rows; rfl
  | cons c t ih =>
    intro rows
    show szR (rle (addRow rows c 1) t) = _
    rw [ih, szR_add, List.filter_cons]
    split <;> simp <;> omega
theorem szR_self (l : List Nat) : szR (rle [] l) = (l.filter noSV).length := by rw [szR_rle]; simp [szR]
/-- a row of same symbols, written short -/
def rowText (x : Rw) : List Nat := if x.2 < 5 then List.replicate x.2 x.1 else x.1 :: 40 :: (dec x.2 ++ [41])
def short (rows : List Rw) : List Nat := rows.flatMap rowText
theorem short_app (a b : List Rw) : short (a ++ b) = short a ++ short b := List.flatMap_append
theorem short_one (x : Rw) : short [x] = rowText x := by simp [short]
theorem dec_sm : ∀ m : Nat, m < 101 → 1 ≤ m → (dec m).length + 3 ≤ 4 * m ∧ (dec m).head? ≠ some 48 := by decide +kernel
theorem num_d {m : Nat} (h : m < 101) (h1 : 1 ≤ m) : Num (dec m) m := ⟨fun z => by have := dec_ne m; rw [z] at this; exact absurd this (by decide), dec_dig m, (dec_sm m h h1).2, dec_val m⟩
theorem rt_len {x : Rw} (h1 : 1 ≤ x.2) (h2 : x.2 ≤ 100) : (rowText x).length ≤ 4 * x.2 := by
  unfold rowText
  split
  · rw [List.length_replicate]; omega
  · have := (dec_sm x.2 (by omega) h1).1
    simp
    omega
/-- rows of a text: each once at least -/
def Pos (n : Nat) (rows : List Rw) : Prop := ∀ x ∈ rows, 1 ≤ x.2 ∧ x.2 ≤ n ∧ x.1 ≠ 40
theorem sh_short (n : Nat) (hn : n ≤ 100) : ∀ k (rows : List Rw), rows.length = k → Pos n rows → Sh (un rows) (short rows) := by
  intro k
  induction k with
  | zero =>
    intro rows h _
    rw [List.length_eq_zero_iff.mp h]
    exact .nil
  | succ k ih =>
    intro rows h hp
    rcases last_cases rows with rfl | ⟨r, c, m, rfl⟩
    · cases h
    · have hr := ih r (by simpa using h) fun x hx => hp x (List.mem_append_left _ hx)
      obtain ⟨h1, h2, h3⟩ := hp (c, m) (by simp)
      obtain ⟨d, rfl⟩ : ∃ d, m = d + 1 := ⟨m - 1, by simp at h1; omega⟩
      rw [un_app, short_app, un_one, short_one]
      unfold rowText
      split
      · exact Sh.out d hr h3
      · exact Sh.brk d hr h3 (num_d (by simp at h2; omega) (by omega))
theorem short_len {n : Nat} (hn : n ≤ 100) : ∀ rows : List Rw, Pos n rows → (short rows).length ≤ 4 * (un rows).length := by
  intro rows
  induction rows with
  | nil => intro _; exact Nat.le_refl _
  | cons x r ih =>
    intro hp
    have := ih fun y hy => hp y (List.mem_cons_of_mem _ hy)
    obtain ⟨h1, h2, h3⟩ := hp x List.mem_cons_self
    have h4 := rt_len h1 (by omega)
    show (rowText x ++ short r).length ≤ 4 * (List.replicate x.2 x.1 ++ un r).length
    rw [List.length_append, List.length_append, List.length_replicate]
    omega
theorem pos_add {n : Nat} {rows : List Rw} {c : Nat} (hp : Pos n rows) (hc : c ≠ 40) : Pos (n + 1) (addRow rows c 1) := by
  rcases last_cases rows with rfl | ⟨r, c', m, rfl⟩
  · rw [ad_nil]
    intro x hx
    rw [List.mem_singleton.mp hx]
    exact ⟨Nat.le_refl _, by simp, hc⟩
  · by_cases h : c' = c
    · subst h
      rw [ad_same]
      intro x hx
      rcases List.mem_append.mp hx with hx | hx
      · obtain ⟨h1, h2, h3⟩ := hp x (List.mem_append_left _ hx)
        exact ⟨h1, by omega, h3⟩
      · rw [List.mem_singleton.mp hx]
        obtain ⟨h1, h2, h3⟩ := hp (c', m) (by simp)
        exact ⟨by simp, by simp at h2 ⊢; omega, hc⟩
    · rw [ad_other h]
      intro x hx
      rcases List.mem_append.mp hx with hx | hx
      · obtain ⟨h1, h2, h3⟩ := hp x hx
        exact ⟨h1, by omega, h3⟩
      · rw [List.mem_singleton.mp hx]
        exact ⟨Nat.le_refl _, by simp, hc⟩
theorem pos_rle (l : List Nat) : ∀ (n : Nat) (rows : List Rw), Pos n rows → 40 ∉ l → Pos (n + l.length) (rle rows l) := by
  induction l with
  | nil => intro n rows h _; exact h
  | cons c t ih =>
    intro n rows h h40
    have := ih (n + 1) (addRow rows c 1) (pos_add h fun z => h40 (by rw [z]; exact List.mem_cons_self)) fun z => h40 (List.mem_cons_of_mem _ z)
    have e : n + (c :: t).length = n + 1 + t.length := by simp; omega
    rw [e]
    exact this
theorem pos_self {l : List Nat} (h : 40 ∉ l) : Pos l.length (rle [] l) := by
  have := pos_rle l 0 [] (fun x hx => absurd hx (by simp)) h
  rw [Nat.zero_add] at this
  exact this
/-- a picture written short -/
def fold (l : List Nat) : List Nat := short (rle [] l)
theorem sh_fold {l : List Nat} (h : 40 ∉ l) (hl : l.length ≤ 100) : Sh l (fold l) := by
  have := sh_short l.length hl _ (rle [] l) rfl (pos_self h)
  rw [un_self] at this
  exact this
theorem fold_len {l : List Nat} (h : 40 ∉ l) (hl : l.length ≤ 100) : (fold l).length ≤ 4 * l.length := by
  have := short_len hl (rle [] l) (pos_self h)
  rw [un_self] at this
  exact this
/-- the next row of same symbols -/
theorem rle_run {l : List Nat} {p e ch : Nat} (hs : ∀ j, p ≤ j → j < e → l[j]? = some ch) (hpe : p + 1 ≤ e) (hel : e ≤ l.length) (hl : ∀ r x n, rle [] (l.take p) = r ++ [(x, n)] → l[p]? ≠ some x) :
    rle [] (l.take e) = rle [] (l.take p) ++ [(ch, e - p)] := by
  obtain ⟨d, rfl⟩ : ∃ d, e = p + (d + 1) := ⟨e - p - 1, by omega⟩
  have htk : ∀ n, n ≤ d + 1 → l.take (p + n) = l.take p ++ List.replicate n ch := by
    intro n
    induction n with
    | zero => intro _; simp
    | succ n ih =>
      intro hn
      have hx := hs (p + n) (by omega) (by omega)
      rw [← Nat.add_assoc, List.take_add_one, ih (by omega), hx, List.replicate_succ', List.append_assoc]
      rfl
  rw [htk (d + 1) (Nat.le_refl _), rle_app, rle_cat fun r x n h => ?_]
  · rw [rle_rep, ad_nil]
    congr 3
    omega
  · have := hl r x n h
    rw [hs p (Nat.le_refl _) (by omega)] at this
    rw [List.replicate_succ, List.head?_cons]
    exact this
end K04

set_option Elab.async false
set_option linter.all false
set_option maxRecDepth 100000
/-! texts and rows, as the program's steps read them -/
namespace Lw
open PySem PySem.Spec PyProof.Rows L2 K02 K04
open Builtin Builtin.Str StrLaws
theorem in_sym (l : List Nat) (c : Nat) : (!(occurrences (tx l) (tx [c]) 0 (tx l).length 1).isEmpty) = l.contains c := by
  rcases occ_head (tx l) (tx [c]) 1 (Nat.le_refl _) with ⟨h1, h2⟩ | ⟨i, t, h1, h2, h3⟩
  · have hn : c ∉ l := fun hm => by
      obtain ⟨j, hj⟩ := List.mem_iff_getElem?.mp hm
      exact h2 j ((subAt_one (tx l) c j).mpr hj)
    rw [h1]
    simp [hn]
  · have hi : l[i]? = some c := (subAt_one (tx l) c i).mp h2
    have hm : c ∈ l := List.mem_iff_getElem?.mpr ⟨i, hi⟩
    rw [h1]
    simp [hm]
theorem starts_c (l : List Nat) (c : Nat) : Txt.startswith (tx l) (tx [c]) = (l.head? == some c) := by
  unfold Txt.startswith
  have e : (tx [c]) = (⟨#[c]⟩ : Str) := rfl
  rw [e, sub_one]
  cases l with
  | nil => rfl
  | cons a r =>
    rw [decide_eq_true (by show 0 + 1 ≤ (tx (a :: r)).length; rw [tx_len, List.length_cons]; omega)]
    rfl
theorem str_dec (a b : List Nat) : decide (V.str (tx a) = V.str (tx b)) = decide (a = b) := by
  by_cases h : a = b
  · rw [decide_eq_true h, decide_eq_true (by rw [h])]
  · rw [decide_eq_false h, decide_eq_false fun q => h (tx_inj (V.str.inj q))]
theorem sym_dec (a b : Nat) : decide (V.str (tx [a]) = V.str (tx [b])) = decide (a = b) := by
  rw [str_dec]
  by_cases h : a = b
  · rw [decide_eq_true h, decide_eq_true (by rw [h])]
  · rw [decide_eq_false h, decide_eq_false fun q => h (List.cons.inj q).1]
/-- where a sign is first found from a place on -/
theorem from_nat (n a : Nat) : fromIndex n (a : Int) = a := by
  unfold fromIndex
  rw [if_neg (by omega)]
  omega
theorem tw_at {l : List Nat} {c i : Nat} (hi : l[i]? = some c) (hn : ∀ k, k < i → l[k]? ≠ some c) : l.takeWhile (· != c) = l.take i := by
  induction l generalizing i with
  | nil => cases hi
  | cons a r ih =>
    cases i with
    | zero =>
      have : a = c := by simpa using hi
      subst this
      simp
    | succ i =>
      have hb : (a != c) = true := by
        have := hn 0 (Nat.succ_pos _)
        simpa using this
      rw [List.takeWhile_cons, hb]
      simp only [if_true, List.take_succ_cons]
      rw [ih (i := i) (by simpa using hi) fun k hk => by
        have := hn (k + 1) (by omega)
        simpa using this]
theorem find_is {l : List Nat} {a c : Nat} {r : List Nat} (h : l.drop a = 40 :: r) (hc : c ≠ 40) :
    (c ∉ r ∧ find2 (tx l) (tx [c]) (a : Int) = -1) ∨ (c ∈ r ∧ find2 (tx l) (tx [c]) (a : Int) = ((a + 1 + (r.takeWhile (· != c)).length : Nat) : Int)) := by
  have hd : ∀ i, l[a + i]? = (40 :: r)[i]? := fun i => by rw [← h, List.getElem?_drop]
  unfold find2
  rw [from_nat]
  rcases occ_head_from (tx l) (tx [c]) a 1 (Nat.le_refl _) with ⟨h1, h2⟩ | ⟨i, t, h1, h2, h3, h4⟩
  · refine .inl ⟨fun hm => ?_, by rw [h1]⟩
    obtain ⟨j, hj⟩ := List.mem_iff_getElem?.mp hm
    refine h2 (a + (j + 1)) (by omega) ((subAt_one (tx l) c _).mpr ?_)
    show l[a + (j + 1)]? = some c
    rw [hd]
    exact hj
  · have hi : l[i]? = some c := (subAt_one (tx l) c i).mp h3
    obtain ⟨k, rfl⟩ : ∃ k, i = a + k := ⟨i - a, by omega⟩
    rw [hd] at hi
    cases k with
    | zero => exact absurd (by simpa using hi) (Ne.symm hc)
    | succ k =>
      have hk : r[k]? = some c := by simpa using hi
      have e := tw_at (l := r) (c := c) (i := k) hk fun m hm z => h4 (a + (m + 1)) (by omega) (by omega) ((subAt_one (tx l) c _).mpr (by show l[a + (m + 1)]? = some c; rw [hd]; exact z))
      refine .inr ⟨List.mem_iff_getElem?.mpr ⟨k, hk⟩, ?_⟩
      have hkl := (List.getElem?_eq_some_iff.mp hk).1
      rw [h1, e, List.length_take, Nat.min_eq_left (by omega)]
      show ((a + (k + 1) : Nat) : Int) = _
      congr 1
      omega
theorem slice_none (l : List Nat) {a b : Nat} (h : b < a) (hl : 1 ≤ l.length) : sliceText (tx l) (some (a : Int)) (some (b : Int)) = tx [] := by
  have e3 : strSliceIndices (some (a : Int)) (some (b : Int)) 1 (tx l).length = [] := by
    rw [tx_len]
    unfold strSliceIndices
    have h1 : ¬ ((a : Int) < 0) := by omega
    have h2 : ¬ ((b : Int) < 0) := by omega
    have h3 : max (0 : Int) (min (a : Int) (l.length : Int)) ≥ max (0 : Int) (min (b : Int) (l.length : Int)) := by omega
    simp only [h1, h2, if_false, show ((1 : Int) > 0) = True from by simp, if_true]
    unfold sliceRange
    simp
    omega
  unfold sliceText
  rw [e3]
  split
  · rename_i h1
    have : l.length = 0 := by
      have h2 : (0 == (tx l).length) = true := by simpa using h1
      rw [tx_len] at h2
      have := beq_iff_eq.mp h2
      omega
    omega
  · rfl
/-! rows at hand -/
def rowO (x : Rw) : HO := .tup [.str (tx [x.1]), .int (x.2 : Nat)]
inductive Rws (H : Hp) : List Addr → List Rw → Prop where
  | nil : Rws H [] []
  | cons {r : Addr} {rs : List Addr} {x : Rw} {xs : List Rw} : H r = some (rowO x) → Rws H rs xs → Rws H (r :: rs) (x :: xs)
section
variable {H H' : Hp} {rs : List Addr} {rows : List Rw}
theorem Rws.len (h : Rws H rs rows) : rs.length = rows.length := by
  induction h with
  | nil => rfl
  | cons _ _ ih => rw [List.length_cons, List.length_cons, ih]
theorem Rws.keep (h : Rws H rs rows) (e : ∀ b xs, H b = some (.tup xs) → H' b = some (.tup xs)) : Rws H' rs rows := by
  induction h with
  | nil => exact .nil
  | cons a _ ih => exact .cons (e _ _ a) ih
theorem Rws.at (h : Rws H rs rows) : ∀ {i : Nat} {x : Rw}, rows[i]? = some x → ∃ r, rs[i]? = some r ∧ H r = some (rowO x) := by
  induction h with
  | nil => intro i x e; cases e
  | cons a _ ih =>
    intro i x e
    cases i with
    | zero => exact ⟨_, rfl, by have : _ = x := Option.some.inj e; rw [← this]; exact a⟩
    | succ i => exact ih (i := i) (x := x) e
theorem Rws.app (h : Rws H rs rows) {r : Addr} {x : Rw} (e : H r = some (rowO x)) : Rws H (rs ++ [r]) (rows ++ [x]) := by
  induction h with
  | nil => exact .cons e .nil
  | cons a _ ih => exact .cons a ih
theorem Rws.dr (h : Rws H rs rows) : ∀ k, Rws H (rs.drop k) (rows.drop k) := by
  induction h with
  | nil => intro k; rw [List.drop_nil, List.drop_nil]; exact .nil
  | cons a t ih =>
    intro k
    cases k with
    | zero => exact .cons a t
    | succ k => exact ih k
end
structure RowsAt (K : PySem.W.Frag) (H : Hp) (p : Addr) (rs : List Addr) (rows : List Rw) : Prop where
  sq : SqL K H p (rs.map V.ref)
  rw : Rws H rs rows
  le : rows.length ≤ 600
section
variable {K : PySem.W.Frag} {H H' : Hp} {p : Addr} {rs : List Addr} {rows : List Rw} {σ : L2.St} {i j k : Nat} {Q : VK}
theorem SqL.same {K : PySem.W.Frag} {H H' : Hp} {a : Addr} {xs : List V} (e : Same H H') (h : SqL K H a xs) : SqL K H' a xs := by
  rcases h with (h | ⟨o, h⟩) | h
  · exact .inl (.inl (e _ _ h))
  · exact .inl (.inr ⟨o, e _ _ h⟩)
  · exact .inr h
theorem RowsAt.same (R : RowsAt K H p rs rows) (e : Same H H') : RowsAt K H' p rs rows := ⟨SqL.same e R.sq, R.rw.keep fun b xs h => e _ _ h, R.le⟩
theorem RowsAt.len (R : RowsAt K H p rs rows) : (rs.map V.ref).length = rows.length := by rw [List.length_map, R.rw.len]
theorem RowsAt.at (R : RowsAt K H p rs rows) {x : Rw} (e : rows[k]? = some x) : ∃ r, atI (rs.map V.ref) (k : Int) = some (.ref r) ∧ H r = some (rowO x) := by
  obtain ⟨r, h1, h2⟩ := R.rw.at e
  exact ⟨r, atI_nat (by rw [List.getElem?_map, h1]; rfl), h2⟩
/-- the row itself -/
theorem row_at {te : TE} (h1 : σ[i]? = some (some (.ref p))) (h2 : ∀ Q : VK, Q (.int (k : Nat)) H → te σ H Q) (R : RowsAt K H p rs rows) {x : Rw} (e : rows[k]? = some x) (q : ∀ r, H r = some (rowO x) → Q (.ref r) H) : tOp (rIxL K) (tVar i) te σ H Q := by
  obtain ⟨r, a, b⟩ := R.at e
  exact ⟨_, h1, h2 _ ⟨p, _, _, _, rfl, rfl, R.sq, a, q r b⟩⟩
theorem sym_at {te : TE} (h1 : σ[i]? = some (some (.ref p))) (h2 : ∀ Q : VK, Q (.int (k : Nat)) H → te σ H Q) (R : RowsAt K H p rs rows) {x : Rw} (e : rows[k]? = some x) (q : Q (.str (tx [x.1])) H) : tOp (rIxT K) (tOp (rIxL K) (tVar i) te) (tC (.int 0)) σ H Q :=
  row_at h1 h2 R e fun r b => ⟨r, _, _, _, rfl, rfl, SqT.of b, rfl, q⟩
theorem num_at {te : TE} (h1 : σ[i]? = some (some (.ref p))) (h2 : ∀ Q : VK, Q (.int (k : Nat)) H → te σ H Q) (R : RowsAt K H p rs rows) {x : Rw} (e : rows[k]? = some x) (q : Q (.int (x.2 : Nat)) H) : tOp (rIxT K) (tOp (rIxL K) (tVar i) te) (tC (.int 1)) σ H Q :=
  row_at h1 h2 R e fun r b => ⟨r, _, _, _, rfl, rfl, SqT.of b, rfl, q⟩
theorem len_rows (h1 : σ[i]? = some (some (.ref p))) (R : RowsAt K H p rs rows) (q : Q (.int (rows.length : Nat)) H) : tCB (fun xs H Q => ∃ p ys, xs = [.ref p] ∧ (SqL K H p ys ∨ SqT K H p ys) ∧ Q (.int ys.length) H) (tCons (tVar i) tNil) σ H Q :=
  ⟨_, h1, p, _, rfl, .inl R.sq, by rw [R.len]; exact q⟩
theorem var_int (h : σ[i]? = some (some (.int (k : Nat)))) : ∀ Q : VK, Q (.int (k : Nat)) H → tVar i σ H Q := fun Q q => ⟨_, h, q⟩
end
theorem join_syms (l : List Nat) : Txt.join "" (l.map fun c => tx [c]) = tx l := by
  show Builtin.Str.glued _ _ = _
  rw [StrLaws.glued_eq_join]
  have e : ("" : Str) = ⟨#[]⟩ := by decide +kernel
  rw [e]
  exact join_ones l
theorem fold_len : ∀ (l : List Nat) (n : Nat), (l.map fun c => tx [c]).foldl (fun (m : Nat) (s : Str) => m + s.length + ("" : Str).length) n = n + l.length := by
  have e : ("" : Str).length = 0 := by decide +kernel
  intro l
  induction l with
  | nil => intro n; rfl
  | cons a r ih =>
    intro n
    show (r.map fun c => tx [c]).foldl _ (n + (tx [a]).length + ("" : Str).length) = _
    rw [ih, e, tx_len, List.length_cons, List.length_cons, List.length_nil]
    omega
theorem join_ok {l : List Nat} (h : l.length ≤ 1000) : JoinOk "" (l.map fun c => tx [c]) = true := by
  unfold JoinOk
  rw [← Array.foldl_toList, List.toList_toArray, fold_len]
  unfold tooLong
  have hz : 1000 ≤ sizeLine := by decide
  rw [decide_eq_false (by omega)]
  rfl
end Lw

set_option Elab.async false
set_option linter.all false
set_option maxRecDepth 100000
namespace Lw
open PySem PySem.Spec PyProof.Rows L2 K02 K04
def top (i : Nat) : Stmt := PySem.Challenge.pw_boxmoves_k06_rooms.main.body.getD i (.Pass ⟨0, 0, 0, 0⟩)
abbrev s_ten_to : Stmt := top 19
theorem sc_ten_to : FnScope ["many", "power", "turn"] ["many"] (defScope s_ten_to) := ⟨rfl, rfl, rfl, by decide +kernel, rfl, by decide +kernel, by decide +kernel⟩
abbrev s_is_figures : Stmt := top 20
theorem sc_is_figures : FnScope ["text"] ["text"] (defScope s_is_figures) := ⟨rfl, rfl, rfl, by decide +kernel, rfl, by decide +kernel, by decide +kernel⟩
abbrev s_number_of : Stmt := top 21
theorem sc_number_of : FnScope ["text", "number", "start", "part"] ["text"] (defScope s_number_of) := ⟨rfl, rfl, rfl, by decide +kernel, rfl, by decide +kernel, by decide +kernel⟩
abbrev s_figures_of : Stmt := top 22
theorem sc_figures_of : FnScope ["number", "above", "parts", "part"] ["number"] (defScope s_figures_of) := ⟨rfl, rfl, rfl, by decide +kernel, rfl, by decide +kernel, by decide +kernel⟩
abbrev s_unfolded : Stmt := top 34
theorem sc_unfolded : FnScope ["text", "rows", "facts"] ["text"] (defScope s_unfolded) := ⟨rfl, rfl, rfl, by decide +kernel, rfl, by decide +kernel, by decide +kernel⟩
abbrev s_folded : Stmt := top 35
theorem sc_folded : FnScope ["text", "rows", "facts"] ["text"] (defScope s_folded) := ⟨rfl, rfl, rfl, by decide +kernel, rfl, by decide +kernel, by decide +kernel⟩
abbrev s_is_picture : Stmt := top 36
theorem sc_is_picture : FnScope ["thing"] ["thing"] (defScope s_is_picture) := ⟨rfl, rfl, rfl, by decide +kernel, rfl, by decide +kernel, by decide +kernel⟩
abbrev s_kind_of : Stmt := top 37
theorem sc_kind_of : FnScope ["picture", "rows", "facts"] ["picture"] (defScope s_kind_of) := ⟨rfl, rfl, rfl, by decide +kernel, rfl, by decide +kernel, by decide +kernel⟩
abbrev s_room : Stmt := top 38
theorem sc_room : FnScope ["picture", "rows", "facts", "kind", "signed", "before", "behind"] ["picture"] (defScope s_room) := ⟨rfl, rfl, rfl, by decide +kernel, rfl, by decide +kernel, by decide +kernel⟩
abbrev s_size_of : Stmt := top 39
theorem sc_size_of : FnScope ["picture", "rows", "facts"] ["picture"] (defScope s_size_of) := ⟨rfl, rfl, rfl, by decide +kernel, rfl, by decide +kernel, by decide +kernel⟩
abbrev s_understood : Stmt := top 40
theorem sc_understood : FnScope ["picture", "rows", "facts"] ["picture"] (defScope s_understood) := ⟨rfl, rfl, rfl, by decide +kernel, rfl, by decide +kernel, by decide +kernel⟩
abbrev s_written_out : Stmt := top 41
theorem sc_written_out : FnScope ["rows"] ["rows"] (defScope s_written_out) := ⟨rfl, rfl, rfl, by decide +kernel, rfl, by decide +kernel, by decide +kernel⟩
abbrev s_row_text : Stmt := top 42
theorem sc_row_text : FnScope ["symbol", "many"] ["symbol", "many"] (defScope s_row_text) := ⟨rfl, rfl, rfl, by decide +kernel, rfl, by decide +kernel, by decide +kernel⟩
abbrev s_rows_of : Stmt := top 43
theorem sc_rows_of : FnScope ["thing", "rows", "at", "symbol", "many"] ["thing"] (defScope s_rows_of) := ⟨rfl, rfl, rfl, by decide +kernel, rfl, by decide +kernel, by decide +kernel⟩
abbrev s_times_at : Stmt := top 44
theorem sc_times_at : FnScope ["text", "at", "end", "number"] ["text", "at"] (defScope s_times_at) := ⟨rfl, rfl, rfl, by decide +kernel, rfl, by decide +kernel, by decide +kernel⟩
abbrev s_facts_of : Stmt := top 45
theorem sc_facts_of : FnScope ["rows", "facts"] ["rows"] (defScope s_facts_of) := ⟨rfl, rfl, rfl, by decide +kernel, rfl, by decide +kernel, by decide +kernel⟩
abbrev s_number_facts : Stmt := top 46
theorem sc_number_facts : FnScope ["rows", "symbol", "many", "signed", "behind_point", "figures"] ["rows"] (defScope s_number_facts) := ⟨rfl, rfl, rfl, by decide +kernel, rfl, by decide +kernel, by decide +kernel⟩
abbrev s_plain_facts : Stmt := top 47
theorem sc_plain_facts : FnScope ["rows", "symbol", "many"] ["rows"] (defScope s_plain_facts) := ⟨rfl, rfl, rfl, by decide +kernel, rfl, by decide +kernel, by decide +kernel⟩
abbrev s_edited_facts : Stmt := top 48
theorem sc_edited_facts : FnScope ["rows", "lead", "start", "place", "many", "nines", "behind", "end", "tail", "floats", "shown", "before"] ["rows"] (defScope s_edited_facts) := ⟨rfl, rfl, rfl, by decide +kernel, rfl, by decide +kernel, by decide +kernel⟩
abbrev s_lead_of : Stmt := top 49
theorem sc_lead_of : FnScope ["rows", "lead", "at", "choice"] ["rows"] (defScope s_lead_of) := ⟨rfl, rfl, rfl, by decide +kernel, rfl, by decide +kernel, by decide +kernel⟩
abbrev s_floats_at : Stmt := top 50
theorem sc_floats_at : FnScope ["rows", "at", "symbol", "many", "behind"] ["rows", "at"] (defScope s_floats_at) := ⟨rfl, rfl, rfl, by decide +kernel, rfl, by decide +kernel, by decide +kernel⟩
abbrev s_body_of : Stmt := top 51
theorem sc_body_of : FnScope ["rows", "at", "place", "many", "nines", "behind"] ["rows", "at"] (defScope s_body_of) := ⟨rfl, rfl, rfl, by decide +kernel, rfl, by decide +kernel, by decide +kernel⟩
abbrev s_whole_part : Stmt := top 52
theorem sc_whole_part : FnScope ["rows", "at", "place", "many", "nines"] ["rows", "at"] (defScope s_whole_part) := ⟨rfl, rfl, rfl, by decide +kernel, rfl, by decide +kernel, by decide +kernel⟩
abbrev s_places_of : Stmt := top 53
theorem sc_places_of : FnScope ["rows", "at", "place", "many"] ["rows", "at", "place"] (defScope s_places_of) := ⟨rfl, rfl, rfl, by decide +kernel, rfl, by decide +kernel, by decide +kernel⟩
abbrev s_broken_part : Stmt := top 54
theorem sc_broken_part : FnScope ["rows", "at", "place", "symbol", "many"] ["rows", "at", "place"] (defScope s_broken_part) := ⟨rfl, rfl, rfl, by decide +kernel, rfl, by decide +kernel, by decide +kernel⟩
abbrev s_tail_of : Stmt := top 55
theorem sc_tail_of : FnScope ["rows", "at", "tail"] ["rows", "at"] (defScope s_tail_of) := ⟨rfl, rfl, rfl, by decide +kernel, rfl, by decide +kernel, by decide +kernel⟩
abbrev s__law_draw : Stmt := top 57
theorem sc__law_draw : FnScope ["_law_script", "_law_town", "_law_many", "_law_at", "_law_rest", "_law_number"] ["_law_script", "_law_town", "_law_many"] (defScope s__law_draw) := ⟨rfl, rfl, rfl, by decide +kernel, rfl, by decide +kernel, by decide +kernel⟩
abbrev s__law_begun : Stmt := top 58
theorem sc__law_begun : FnScope [] [] (defScope s__law_begun) := ⟨rfl, rfl, rfl, by decide +kernel, rfl, by decide +kernel, by decide +kernel⟩
abbrev s__law_class : Stmt := top 59
theorem sc__law_class : FnScope ["_law_kept", "_law_kinds", "_law_found"] ["_law_kept"] (defScope s__law_class) := ⟨rfl, rfl, rfl, by decide +kernel, rfl, by decide +kernel, by decide +kernel⟩
abbrev s__law_heard : Stmt := top 60
theorem sc__law_heard : FnScope ["_law_deed", "_law_kept", "_law_found", "e"] ["_law_deed"] (defScope s__law_heard) := ⟨rfl, rfl, rfl, by decide +kernel, rfl, by decide +kernel, by decide +kernel⟩
abbrev s__law_places : Stmt := top 61
theorem sc__law_places : FnScope ["_law_script", "_law_town", "_law_symbol", "_law_most", "_law_found", "_law_k"] ["_law_script", "_law_town", "_law_symbol", "_law_most"] (defScope s__law_places) := ⟨rfl, rfl, rfl, by decide +kernel, rfl, by decide +kernel, by decide +kernel⟩
abbrev s__law_an_edited : Stmt := top 62
theorem sc__law_an_edited : FnScope ["_law_script", "_law_town", "_law_first", "_law_whole", "_law_broken", "_law_signs", "_law_lead", "_law_tail"] ["_law_script", "_law_town"] (defScope s__law_an_edited) := ⟨rfl, rfl, rfl, by decide +kernel, rfl, by decide +kernel, by decide +kernel⟩
abbrev s__law_line : Stmt := top 63
theorem sc__law_line : FnScope ["_law_parts", "_law_lead", "_law_first", "_law_whole", "_law_broken", "_law_tail"] ["_law_parts"] (defScope s__law_line) := ⟨rfl, rfl, rfl, by decide +kernel, rfl, by decide +kernel, by decide +kernel⟩
abbrev s__law_short_line : Stmt := top 64
theorem sc__law_short_line : FnScope ["_law_script", "_law_town", "_law_line_here", "_law_found", "_law_at", "_law_end", "_law_many", "_law_short"] ["_law_script", "_law_town", "_law_line_here"] (defScope s__law_short_line) := ⟨rfl, rfl, rfl, by decide +kernel, rfl, by decide +kernel, by decide +kernel⟩
abbrev s__law_a_picture : Stmt := top 65
theorem sc__law_a_picture : FnScope ["_law_script", "_law_town", "_law_turn", "_law_before", "_law_behind", "_law_line_here"] ["_law_script", "_law_town"] (defScope s__law_a_picture) := ⟨rfl, rfl, rfl, by decide +kernel, rfl, by decide +kernel, by decide +kernel⟩
abbrev s__law_folded : Stmt := top 66
theorem sc__law_folded : FnScope ["_law_line_here", "_law_found", "_law_at", "_law_end", "_law_short"] ["_law_line_here"] (defScope s__law_folded) := ⟨rfl, rfl, rfl, by decide +kernel, rfl, by decide +kernel, by decide +kernel⟩
abbrev s_law : Stmt := top 67
theorem sc_law : FnScope ["_law_script", "_law_town", "_law_k", "_law_kind", "_law_short", "_law_size", "_law_whole", "_law_point", "_law_broken", "_law_parts", "_law_lead", "_law_first", "_law_tail", "_law_before", "_law_shows", "_law_line_here"] ["_law_script"] (defScope s_law) := ⟨rfl, rfl, rfl, by decide +kernel, rfl, by decide +kernel, by decide +kernel⟩
section
variable {P : Program} {w : World} {K : PySem.W.Frag} {mg : Str → Option Value} {base : Heap} {f : Addr} {fd : FuncData} {tk : Nat → Tok} {c kr : Nat → Addr}
/-! ### the program -/
def spTen : Sp := fun vs H Q _ => ∃ m : Int, vs = [.int m] ∧ -(2 ^ 62) ≤ m ∧ m < 2 ^ 62 ∧ Q (.int (K01.ten m)) H
theorem ok_ten_to (F : Fun K "ten_to" "ten_to" s_ten_to f fd) (O : Own mg) : FnOk P w K mg base (CXE P w) 1 f fd ["many"] spTen := by
  refine okN F sc_ten_to (fun vs H Q E h => ?_) (fun cdv A outer s H vs Q E hr h => ?_)
  · obtain ⟨m, rfl, _⟩ := h
    rfl
  · obtain ⟨m, rfl, h1, h2, k⟩ := h
    refine ⟨_, (pss_cons (ps_set (i := 1) sc_ten_to.nd rfl (Or.inl rfl) pe_int)
      (pss_cons (ps_for PassesOwn.never rfl (pi_range1 rfl O.range (pa_cons (pv 0) pa_nil)) (pg_name (i := 2) sc_ten_to.nd rfl (Or.inl rfl)) (pss_one (ps_set (i := 1) sc_ten_to.nd rfl (Or.inl rfl) (pe_op op_mul (pv 1) pe_int))))
      (pss_one (ps_ret (pv 1))))), ?_⟩
    refine ⟨_, rfl, m, rfl, h1, h2, for_range (n := m.toNat) (fun i σ H2 => ∃ v, σ = [some (.int m), some (.int (10 ^ i)), v] ∧ H2 = H) ⟨none, rfl, rfl⟩ ?_ ?_⟩
    · rintro i σ H2 hi ⟨v, rfl, rfl⟩
      refine ⟨_, rfl, _, _, rfl, rfl, .inr ⟨by decide, by decide⟩, ?_⟩
      exact ⟨_, by rw [Int.pow_succ]; rfl, rfl⟩
    · rintro σ H2 ⟨v, rfl, rfl⟩
      exact ⟨_, rfl, k⟩
theorem ten_bound {m : Int} (h : m ≤ 40) : (K01.ten m).natAbs < 2 ^ 200 := by
  have h1 := K01.ten_le (a := m) (b := 40) h (by decide)
  have h2 := K01.ten_pos m
  have h3 : K01.ten 40 < 2 ^ 200 := by decide
  omega
theorem big {a : Int} (h : a.natAbs < 2 ^ 200) : a.natAbs < 2 ^ 2000 := Nat.lt_of_lt_of_le h (by decide)
/-- the names of the text's top -/
structure Txt (K : PySem.W.Frag) (mg : Str → Option Value) (tk : Nat → Tok) (c kr : Nat → Addr) : Prop where
  m_BoxError : mg "BoxError" = some (.ref (c 0))
  m_NoPicture : mg "NoPicture" = some (.ref (c 1))
  m_NoRoom : mg "NoRoom" = some (.ref (c 2))
  m_NoQuotient : mg "NoQuotient" = some (.ref (c 3))
  m_NoText : mg "NoText" = some (.ref (c 4))
  m_NoFigures : mg "NoFigures" = some (.ref (c 5))
  m_NoLetters : mg "NoLetters" = some (.ref (c 6))
  m_NoMove : mg "NoMove" = some (.ref (c 7))
  m_NoPath : mg "NoPath" = some (.ref (c 8))
  m_NoAmount : mg "NoAmount" = some (.ref (c 9))
  m_NoGroup : mg "NoGroup" = some (.ref (c 10))
  m_BadSize : mg "BadSize" = some (.ref (c 11))
  m_NoBack : mg "NoBack" = some (.ref (c 12))
  m_BadRow : mg "BadRow" = some (.ref (c 13))
  m_Closed : mg "Closed" = some (.ref (c 14))
  m_FIGURES : mg "FIGURES" = some (.str "0123456789" (tk 0))
  m_PART : mg "PART" = some (.int 18 (tk 1))
  m_INSERTED : mg "INSERTED" = some (.str ",B0/" (tk 2))
  m_SIGNS : mg "SIGNS" = some (.str "+-" (tk 3))
  m_FLOATING : mg "FLOATING" = some (.str "+-$" (tk 4))
  m_PLACES : mg "PLACES" = some (.str "9Z*+-$" (tk 5))
  m_MOST_FIGURES : mg "MOST_FIGURES" = some (.int 18 (tk 6))
  m_MOST_SIGNS : mg "MOST_SIGNS" = some (.int 60 (tk 7))
  m_SHORT_FROM : mg "SHORT_FROM" = some (.int 5 (tk 8))
  m_NUMBER_FORMS : mg "NUMBER_FORMS" = some (.ref (kr 0))
  m_SHOWN : mg "SHOWN" = some (.ref (kr 1))
  m_PLAIN_KINDS : mg "PLAIN_KINDS" = some (.ref (kr 2))
  q_FORMS : ∀ H, SqT K H (kr 0) [.str "9", .str "S9", .str "V9", .str "SV9", .str "9V9", .str "S9V9"]
  q_SHOWN : ∀ H, SqT K H (kr 1) [.str "+", .str "-", .str "CR", .str "DB"]
  e_NoPicture : Err K (c 1)
  e_NoRoom : Err K (c 2)
  t_str : PySem.W.kitOne K (.type "str") (.type "str") = some true
  t_int : PySem.W.kitOne K (.type "int") (.type "str") = some false
  t_non : PySem.W.kitOne K (.type "NoneType") (.type "str") = some false
  t_tup : PySem.W.kitOne K (.type "tuple") (.type "str") = some false
def kinds2 : List (Key × V) := [(Sum.inr "X", .str "text"), (Sum.inr "A", .str "letters")]
def spIsFig : Sp := fun vs H Q _ => ∃ z : Str, vs = [.str z] ∧ z.length ≤ 1000 ∧ Q (.bl (decide (z.cps.toList ≠ [] ∧ NumText.AllDigits z.cps.toList))) H
theorem str_empty (z : Str) : decide (V.str z = V.str "") = decide (z.cps.toList = []) := by
  have e : ("" : Str) = tx [] := by decide +kernel
  rw [e]
  by_cases h : z.cps.toList = []
  · rw [decide_eq_true h, decide_eq_true]
    rw [of_tx z, h]
  · rw [decide_eq_false h, decide_eq_false]
    intro q
    exact h (by rw [V.str.inj q])
theorem strip_dec (z : Str) : decide (V.str (Txt.stripChars z "0123456789") = V.str "") = decide (NumText.AllDigits z.cps.toList) := by
  rw [str_empty, ← strip_fig z.cps.toList]
  have e : tx z.cps.toList = z := (of_tx z).symm
  rw [e]
  by_cases h : (Txt.stripChars z "0123456789").cps.toList = []
  · rw [decide_eq_true h, decide_eq_true]
    rw [of_tx (Txt.stripChars _ _), h]
    rfl
  · rw [decide_eq_false h, decide_eq_false]
    intro q
    exact h (by rw [q]; rfl)
theorem ok_is_figures (F : Fun K "is_figures" "is_figures" s_is_figures f fd) (T : Txt K mg tk c kr) : FnOk P w K mg base (CXE P w) 1 f fd ["text"] spIsFig := by
  refine okN F sc_is_figures (fun vs H Q E h => ?_) (fun cdv A outer s H vs Q E hr h => ?_)
  · obtain ⟨z, rfl, _⟩ := h
    rfl
  · obtain ⟨z, rfl, hl, k⟩ := h
    refine ⟨_, (pss_one (ps_ret (pe_and (pe_cmpR op_ne (pv 0) pe_str (nomark _)) (pe_one (pe_cmpR op_eq (pe_bm PySem.F.plainAttrs_str PySem.F.slot_str_strip PySem.F.type_str_strip mt_strip (pv 0) (pa_cons (pe_glob (v := V.str "0123456789") rfl T.m_FIGURES ⟨_, rfl⟩) pa_nil)) pe_str (nomark _)))))), ?_⟩
    refine ⟨_, rfl, rfl, _, rfl, ?_⟩
    refine ifB (fun h => ?_) (fun h => ?_)
    · refine ⟨_, rfl, rfl, z, "0123456789", rfl, rfl, Nat.le_trans hl (by decide), rfl, ?_⟩
      rw [str_empty] at h
      refine Eq.mp (congrArg (fun b => Q (.bl b) H) ?_) k
      rw [strip_dec]
      have hne : z.cps.toList ≠ [] := fun q => by rw [decide_eq_true q] at h; cases h
      by_cases hd : NumText.AllDigits z.cps.toList
      · rw [decide_eq_true hd, decide_eq_true ⟨hne, hd⟩]
      · rw [decide_eq_false hd, decide_eq_false fun q => hd q.2]
    · rw [str_empty] at h
      have hne : z.cps.toList = [] := by
        by_cases q : z.cps.toList = []
        · exact q
        · rw [decide_eq_false q] at h; cases h
      refine Eq.mp (congrArg (fun b => Q (.bl b) H) ?_) k
      exact decide_eq_false fun q => q.1 hne
def spNum : Sp := fun vs H Q _ => ∃ z : Str, vs = [.str z] ∧ NumText.AllDigits z.cps.toList ∧ 1 ≤ z.length ∧ z.length ≤ 500 ∧ Q (.int (NumText.digitsVal z.cps.toList : Nat)) H
theorem ok_number_of (F : Fun K "number_of" "number_of" s_number_of f fd) (O : Own mg) (T : Txt K mg tk c kr) (D_ten_to : Def P w K mg base 1 "ten_to" ["many"] spTen) : FnOk P w K mg base (CXE P w) 2 f fd ["text"] spNum := by
  refine okN F sc_number_of (fun vs H Q E h => ?_) (fun cdv A outer s H vs Q E hr h => ?_)
  · obtain ⟨z, rfl, _⟩ := h
    rfl
  · obtain ⟨z, rfl, hd, h1, h2, k⟩ := h
    have hll := len_list z
    refine ⟨_, (pss_cons (ps_set (i := 1) sc_number_of.nd rfl (Or.inl rfl) pe_int)
      (pss_cons (ps_for PassesOwn.never rfl (pi_range3 rfl O.range (pa_cons pe_int (pa_cons (pe_callB call_len_str rfl O.len PySem.boot_len (pa_cons (pv 0) pa_nil)) (pa_cons (pe_glob (v := V.int 18) rfl T.m_PART ⟨_, rfl⟩) pa_nil)))) (pg_name (i := 2) sc_number_of.nd rfl (Or.inl rfl)) (pss_cons (ps_set (i := 3) sc_number_of.nd rfl (Or.inl rfl) (pe_slice sl_str (pv 0) (po_some (pv 2)) (po_some (pe_op op_add (pv 2) (pe_glob (v := V.int 18) rfl T.m_PART ⟨_, rfl⟩)))))
      (pss_one (ps_set (i := 1) sc_number_of.nd rfl (Or.inl rfl) (pe_op op_add (pe_op op_mulB (pv 1) (D_ten_to.pe hr (by decide) rfl passE0 (pa_cons (pe_callB call_len_str rfl O.len PySem.boot_len (pa_cons (pv 3) pa_nil)) pa_nil))) (pe_callTy call_int_text rfl O.int PyProof.Rows.boot_int (pa_cons (pv 3) pa_nil)))))))
      (pss_one (ps_ret (pv 1))))), ?_⟩
    have hn : Builtin.Range.rangeSize 0 (z.length : Int) 18 = (((z.length - 1) / 18 + 1 : Nat) : Int) := by
      unfold Builtin.Range.rangeSize
      rw [if_pos (by decide), if_pos (by omega)]
      omega
    refine ⟨_, rfl, z, rfl, Nat.le_trans h2 (by decide), 0, (z.length : Int), 18, _, rfl, ⟨by decide, by decide, by omega, by omega, by decide, by decide⟩, hn, for_range3 (fun i σ H2 => ∃ x2 x3, σ = [some (.str z), some (.int (NumText.digitsVal (z.cps.toList.take (18 * i)) : Nat)), x2, x3] ∧ H2 = H) ⟨none, none, rfl, rfl⟩ ?_ ?_⟩
    · rintro i σ H2 hi ⟨x2, x3, rfl, rfl⟩
      have hi18 : 18 * i < z.length := by omega
      have hs : StrLaws.sliceText z (some (0 + (i : Int) * 18)) (some (0 + (i : Int) * 18 + 18)) = tx ((z.cps.toList.drop (18 * i)).take 18) := by
        have e1 : (0 + (i : Int) * 18) = ((18 * i : Nat) : Int) := by omega
        have e2 : (0 + (i : Int) * 18 + 18) = ((18 * i + 18 : Nat) : Int) := by omega
        rw [e2, e1]
        have := slice_mid z.cps.toList (a := 18 * i) (b := 18 * i + 18) (by omega) (by omega)
        rw [← of_tx z, show 18 * i + 18 - 18 * i = 18 by omega] at this
        exact this
      refine ⟨_, rfl, _, rfl, _, rfl, _, rfl, _, _, rfl, rfl, _, rfl, z, rfl, Nat.le_trans h2 (by decide), ?_⟩
      rw [hs]
      have hpd : NumText.AllDigits ((z.cps.toList.drop (18 * i)).take 18) := fun c hc => hd c (List.mem_of_mem_drop (List.mem_of_mem_take hc))
      have hpl : ((z.cps.toList.drop (18 * i)).take 18).length ≤ 18 := by rw [List.length_take]; omega
      have hp1 : 1 ≤ ((z.cps.toList.drop (18 * i)).take 18).length := by rw [List.length_take, List.length_drop]; omega
      have htk : z.cps.toList.take (18 * (i + 1)) = z.cps.toList.take (18 * i) ++ (z.cps.toList.drop (18 * i)).take 18 := by rw [show 18 * (i + 1) = 18 * i + 18 by omega, List.take_add]
      generalize (z.cps.toList.drop (18 * i)).take 18 = pl at hpd hpl hp1 htk
      have htl := tx_len pl
      have hv0 := val_lt (l := z.cps.toList.take (18 * i)) fun c hc => hd c (List.mem_of_mem_take hc)
      have hv1 : NumText.digitsVal (z.cps.toList.take (18 * i)) < 10 ^ 500 := Nat.lt_of_lt_of_le hv0 (Nat.pow_le_pow_right (by decide) (by rw [List.length_take]; omega))
      refine ⟨_, rfl, _, rfl, tx pl, rfl, by rw [htl]; exact Nat.le_trans hpl (by decide), _, rfl, by omega, by omega, _, _, rfl, rfl, ⟨Nat.lt_trans hv1 (by decide), big (ten_bound (by omega))⟩, ?_⟩
      refine ⟨_, rfl, tx pl, _, rfl, PySem.intText_digits hpd (fun q => by rw [tx_list] at q; rw [q] at hp1; exact absurd hp1 (by decide)) (by rw [htl]; omega), by rw [htl]; omega, _, _, rfl, rfl, ?_⟩
      have et : K01.ten (((tx pl).length : Nat) : Int) = ((10 ^ pl.length : Nat) : Int) := by
        unfold K01.ten
        rw [Int.toNat_natCast, htl]
        push_cast
        rfl
      have key : ((NumText.digitsVal (z.cps.toList.take (18 * i)) : Nat) : Int) * K01.ten (((tx pl).length : Nat) : Int) + ((NumText.digitsVal (tx pl).cps.toList : Nat) : Int) = ((NumText.digitsVal (z.cps.toList.take (18 * (i + 1))) : Nat) : Int) := by
        rw [htk, val_app, et, tx_list]
        push_cast
        rfl
      refine ⟨some (.int (0 + (i : Int) * 18)), some (.str (tx pl)), ?_, rfl⟩
      rw [← key]
      rfl
    · rintro σ H2 ⟨x2, x3, rfl, rfl⟩
      refine ⟨_, rfl, ?_⟩
      rw [List.take_of_length_le (by omega)]
      exact k
end
end Lw

set_option Elab.async false
set_option linter.all false
set_option maxRecDepth 100000
namespace Lw
open PySem PySem.Spec PyProof.Rows L2 K02 K04
section
variable {P : Program} {w : World} {K : PySem.W.Frag} {mg : Str → Option Value} {base : Heap} {f : Addr} {fd : FuncData} {tk : Nat → Tok} {c kr : Nat → Addr}
def spTimes : Sp := fun vs H Q _ => ∃ (l : List Nat) (a : Nat), vs = [.str (tx l), .int (a : Nat)] ∧ l.length ≤ 500 ∧ a ≤ l.length ∧ ∀ b, a ≤ b → b ≤ l.length → (timesAt (l.drop a)).2 = l.drop b → ∀ q, H q = none → Q (.ref q) (upd H q (.tup [.int ((timesAt (l.drop a)).1 : Nat), .int (b : Nat)]))
theorem times_no {t : List Nat} (h : t.take 1 ≠ [40]) : timesAt t = (1, t) := by
  unfold timesAt
  split
  · exact absurd rfl h
  · rfl
theorem times_bad {r : List Nat} (h : ¬ (41 ∈ r ∧ r.takeWhile (· != 41) ≠ [] ∧ NumText.AllDigits (r.takeWhile (· != 41)) ∧ (r.takeWhile (· != 41)).head? ≠ some 48)) : timesAt (40 :: r) = (1, 40 :: r) := if_neg h
theorem times_good {r : List Nat} (h : 41 ∈ r ∧ r.takeWhile (· != 41) ≠ [] ∧ NumText.AllDigits (r.takeWhile (· != 41)) ∧ (r.takeWhile (· != 41)).head? ≠ some 48) : timesAt (40 :: r) = (NumText.digitsVal (r.takeWhile (· != 41)), r.drop ((r.takeWhile (· != 41)).length + 1)) := if_pos h
theorem cast_succ (a : Nat) : (a : Int) + 1 = ((a + 1 : Nat) : Int) := by omega
theorem ok_times_at (F : Fun K "times_at" "times_at" s_times_at f fd) (O : Own mg) (T : Txt K mg tk c kr) (D_is_figures : Def P w K mg base 1 "is_figures" ["text"] spIsFig) (D_number_of : Def P w K mg base 2 "number_of" ["text"] spNum) :
    FnOk P w K mg base (CXE P w) 3 f fd ["text", "at"] spTimes := by
  refine okN F sc_times_at (fun vs H Q E h => ?_) (fun cdv A outer s H vs Q E hr h => ?_)
  · obtain ⟨l, a, rfl, _⟩ := h
    rfl
  · obtain ⟨l, a, rfl, hl, ha, k⟩ := h
    have hz : 1000 ≤ sizeLine := by decide
    have htl := tx_len l
    have e40 : ("(" : Str) = tx [40] := by decide +kernel
    have e41 : (")" : Str) = tx [41] := by decide +kernel
    have e48 : ("0" : Str) = tx [48] := by decide +kernel
    refine ⟨_, (pss_cons (ps_if (pt_cmpR op_ne (pe_slice sl_str (pv 0) (po_some (pv 1)) (po_some (pe_op op_add (pv 1) pe_int))) pe_str (nomark _)) (pss_one (ps_ret (pe_tup (pa_cons pe_int (pa_cons (pv 1) pa_nil))))) pss_nil)
      (pss_cons (ps_set (i := 2) sc_times_at.nd rfl (Or.inl rfl) (pe_bm PySem.F.plainAttrs_str PySem.F.slot_str_find PySem.F.type_str_find mt_find2 (pv 0) (pa_cons pe_str (pa_cons (pv 1) pa_nil))))
      (pss_cons (ps_set (i := 3) sc_times_at.nd rfl (Or.inl rfl) (pe_slice sl_str (pv 0) (po_some (pe_op op_add (pv 1) pe_int)) (po_some (pe_callB (call_max2 rfl) rfl O.max PyProof.Rows.boot_max (pa_cons (pv 2) (pa_cons (pv 1) pa_nil))))))
      (pss_cons (ps_if (PW.pt (pw_or (pt_not (pt_val (D_is_figures.pe hr (by decide) rfl passE0 (pa_cons (pv 3) pa_nil)))) (pw_or1 (pt_val (pe_bm PySem.F.plainAttrs_str PySem.F.slot_str_startswith PySem.F.type_str_startswith mt_startswith (pv 3) (pa_cons pe_str pa_nil)))))) (pss_one (ps_ret (pe_tup (pa_cons pe_int (pa_cons (pv 1) pa_nil))))) pss_nil)
      (pss_one (ps_ret (pe_tup (pa_cons (D_number_of.pe hr (by decide) rfl passE0 (pa_cons (pv 3) pa_nil)) (pa_cons (pe_op op_add (pv 2) pe_int) pa_nil))))))))), ?_⟩
    refine ⟨_, rfl, _, rfl, _, rfl, _, rfl, _, _, rfl, rfl, _, rfl, tx l, rfl, by omega, ?_⟩
    rw [cast_succ, slice_mid l (a := a) (b := a + 1) ha (by omega), show a + 1 - a = 1 by omega]
    refine ⟨rfl, _, rfl, ?_⟩
    have stop : timesAt (l.drop a) = (1, l.drop a) → ∀ q, H q = none → Q (.ref q) (upd H q (.tup [.int 1, .int (a : Nat)])) := fun e q hq => by
      have := k a (Nat.le_refl _) ha (by rw [e]) q hq
      rw [e] at this
      exact this
    rw [e40, str_dec]
    refine ifB (fun h1 => ?_) (fun h1 => ?_)
    · refine ⟨_, rfl, by show 2 ≤ sizeLine; omega, stop (times_no fun e => ?_)⟩
      rw [e] at h1
      cases h1
    have h2 : (l.drop a).take 1 = [40] := by
      by_cases e : (l.drop a).take 1 = [40]
      · exact e
      · rw [decide_eq_false e] at h1; cases h1
    obtain ⟨r, hr0⟩ : ∃ r, l.drop a = 40 :: r := by
      cases e : l.drop a with
      | nil => rw [e] at h2; cases h2
      | cons b r =>
        rw [e] at h2
        have : b = 40 := (List.cons.inj h2).1
        exact ⟨r, by rw [this]⟩
    have hrl : l.length = a + (r.length + 1) := by
      have := congrArg List.length hr0
      rw [List.length_drop, List.length_cons] at this
      omega
    have stopB : ¬ (41 ∈ r ∧ r.takeWhile (· != 41) ≠ [] ∧ NumText.AllDigits (r.takeWhile (· != 41)) ∧ (r.takeWhile (· != 41)).head? ≠ some 48) → ∀ q, H q = none → Q (.ref q) (upd H q (.tup [.int 1, .int (a : Nat)])) := fun z => stop (by rw [hr0]; exact times_bad z)
    refine ⟨_, rfl, rfl, _, rfl, tx l, ")", (a : Int), rfl, rfl, ?_⟩
    rw [e41]
    have hfind := find_is (c := 41) hr0 (by decide)
    generalize find2 (tx l) (tx [41]) (a : Int) = e at hfind
    refine ⟨_, rfl, _, rfl, _, _, rfl, rfl, _, rfl, _, rfl, _, rfl, _, _, rfl, _, rfl, tx l, rfl, by omega, ?_⟩
    rw [cast_succ]
    rcases hfind with ⟨hno, rfl⟩ | ⟨hin, rfl⟩
    · have es : StrLaws.sliceText (tx l) (some ((a + 1 : Nat) : Int)) (some (if (a : Int) > -1 then (a : Int) else -1)) = tx [] := by
        rw [if_pos (by omega)]
        exact slice_none l (by omega) (by omega)
      rw [es]
      refine ⟨_, rfl, tx [], rfl, by rw [tx_len]; decide, _, rfl, ?_⟩
      refine ifB (fun _ => ?_) (fun q => ?_)
      · exact ⟨_, rfl, by show 2 ≤ sizeLine; omega, stopB fun q => hno q.1⟩
      · have : decide ((tx []).cps.toList ≠ [] ∧ NumText.AllDigits (tx []).cps.toList) = false := decide_eq_false fun z => z.1 rfl
        rw [this] at q
        cases q
    · generalize hn : r.takeWhile (· != 41) = n
      have hnl : n.length ≤ r.length := by rw [← hn]; exact (List.takeWhile_sublist _).length_le
      have hnr : n.length < r.length := by
        rcases Nat.lt_or_ge n.length r.length with h | h
        · exact h
        · have e : n = r := by rw [← hn] at h ⊢; exact (List.takeWhile_sublist _).eq_of_length_le h
          rw [← e, ← hn] at hin
          have := mem_tw hin
          simp at this
      have htk : r.take n.length = n := by
        have := List.takeWhile_append_dropWhile (p := (· != 41)) (l := r)
        rw [hn] at this
        rw [← this, List.take_left]
      have es : StrLaws.sliceText (tx l) (some ((a + 1 : Nat) : Int)) (some (if (a : Int) > ((a + 1 + n.length : Nat) : Int) then (a : Int) else ((a + 1 + n.length : Nat) : Int))) = tx n := by
        rw [if_neg (by omega), slice_mid l (by omega) (by omega), show a + 1 + n.length - (a + 1) = n.length by omega]
        have : l.drop (a + 1) = r := by rw [← List.drop_drop, hr0]; rfl
        rw [this, htk]
      rw [es]
      have hnt := tx_len n
      refine ⟨_, rfl, tx n, rfl, by omega, _, rfl, ?_⟩
      refine ifB (fun q => ?_) (fun q => ?_)
      · refine ⟨_, rfl, by show 2 ≤ sizeLine; omega, stopB fun z => ?_⟩
        rw [hn] at z
        have : decide ((tx n).cps.toList ≠ [] ∧ NumText.AllDigits (tx n).cps.toList) = true := decide_eq_true ⟨z.2.1, z.2.2.1⟩
        rw [this] at q
        cases q
      have hfg : n ≠ [] ∧ NumText.AllDigits n := by
        by_cases z : n ≠ [] ∧ NumText.AllDigits n
        · exact z
        · have : decide ((tx n).cps.toList ≠ [] ∧ NumText.AllDigits (tx n).cps.toList) = false := decide_eq_false z
          rw [this] at q
          cases q
      refine ⟨_, rfl, rfl, tx n, "0", rfl, rfl, trivial, _, rfl, ?_⟩
      rw [e48, starts_c]
      refine ifB (fun q2 => ?_) (fun q2 => ?_)
      · refine ⟨_, rfl, by show 2 ≤ sizeLine; omega, stopB fun z => ?_⟩
        rw [hn] at z
        exact z.2.2.2 (by simpa using q2)
      have hgood : 41 ∈ r ∧ r.takeWhile (· != 41) ≠ [] ∧ NumText.AllDigits (r.takeWhile (· != 41)) ∧ (r.takeWhile (· != 41)).head? ≠ some 48 := by
        rw [hn]
        exact ⟨hin, hfg.1, hfg.2, by simpa using q2⟩
      have hn1 : 1 ≤ n.length := by cases n with | nil => exact absurd rfl hfg.1 | cons => simp
      refine ⟨_, rfl, tx n, rfl, hfg.2, by omega, by omega, _, rfl, _, _, rfl, rfl, by show 2 ≤ sizeLine; omega, fun p hp => ?_⟩
      have et := times_good hgood
      rw [hn] at et
      have := k (a + 1 + n.length + 1) (by omega) (by omega) (by
        rw [hr0, et]
        show r.drop (n.length + 1) = _
        have e1 : l.drop (a + 1) = r := by rw [← List.drop_drop, hr0]; rfl
        rw [← e1, List.drop_drop]
        congr 1) p hp
      rw [hr0, et] at this
      exact this
def tupV (v : V) (H : Hp) : Prop := v = .non ∨ (∃ i, v = .int i) ∨ ∃ a xs, v = .ref a ∧ H a = some (.tup xs)
/-- the rows of a text; none of what is no text -/
def spRows (K : PySem.W.Frag) : Sp := fun vs H Q _ => ∃ (v : V) (rows : List Rw), vs = [v] ∧ ((∃ l, v = .str (tx l) ∧ l.length ≤ 500 ∧ rows = rowsOf l) ∨ (tupV v H ∧ rows = [])) ∧ ∀ p rs H', Same H H' → RowsAt K H' p rs rows → Q (.ref p) H'
theorem times_le (t : List Nat) : (timesAt t).2.length ≤ t.length := by
  unfold timesAt
  split
  · split
    · show (List.drop _ _).length ≤ _
      rw [List.length_drop, List.length_cons]
      omega
    · exact Nat.le_refl _
  · exact Nat.le_refl _
theorem seq_join {c : TT} {t u : TS} {D : Ends} {σ : L2.St} {H : Hp} (Good : L2.St → Hp → Prop) (rest : ∀ σ' H', Good σ' H' → u D σ' H') (h : (∀ σ' H', Good σ' H' → u D σ' H') → c σ H fun b H1 => if b = true then t { D with nx := u D } σ H1 else u D σ H1) : tSeq (tIfS c t tNext) u D σ H := h rest
theorem Rws.last {H : Hp} {rs : List Addr} {rows : List Rw} (h : Rws H rs rows) : (rs = [] ∧ rows = []) ∨ ∃ rs' r rows' x, rs = rs' ++ [r] ∧ rows = rows' ++ [x] ∧ Rws H rs' rows' ∧ H r = some (rowO x) := by
  induction h with
  | nil => exact .inl ⟨rfl, rfl⟩
  | @cons r rs x xs a t ih =>
    rcases ih with ⟨rfl, rfl⟩ | ⟨rs', r', rows', x', rfl, rfl, h1, h2⟩
    · exact .inr ⟨[], r, [], x, rfl, rfl, .nil, a⟩
    · exact .inr ⟨r :: rs', r', x :: rows', x', rfl, rfl, .cons a h1, h2⟩
theorem add_nil (c n : Nat) : addRow [] c n = [] ++ [(c, n)] := rfl
theorem add_same (rows : List Rw) (c n m : Nat) : addRow (rows ++ [(c, m)]) c n = rows ++ [(c, n + m)] := by
  unfold addRow
  rw [List.getLast?_concat]
  simp
theorem add_other {rows : List Rw} {c c' n m : Nat} (h : c' ≠ c) : addRow (rows ++ [(c', m)]) c n = (rows ++ [(c', m)]) ++ [(c, n)] := by
  unfold addRow
  rw [List.getLast?_concat]
  simp [h]
theorem ok_rows_of (F : Fun K "rows_of" "rows_of" s_rows_of f fd) (O : Own mg) (T : Txt K mg tk c kr) (D_times_at : Def P w K mg base 3 "times_at" ["text", "at"] spTimes) :
    FnOk P w K mg base (CXE P w) 4 f fd ["thing"] (spRows K) := by
  refine okN F sc_rows_of (fun vs H Q E h => ?_) (fun cdv A outer s H vs Q E hr h => ?_)
  · obtain ⟨v, rows, rfl, _⟩ := h
    rfl
  · obtain ⟨v, rows, rfl, hv, k⟩ := h
    have hz : 1000 ≤ sizeLine := by decide
    refine ⟨_, (pss_cons (ps_if (pt_not (pt_val (pe_callB call_isi rfl O.isi PyProof.Rows.boot_isinstance (pa_cons (pv 0) (pa_cons (pe_bltn (v := V.ty "str") rfl O.str PyProof.Rows.boot_str rfl) pa_nil))))) (pss_one (ps_ret (pe_lst pa_nil))) pss_nil)
      (pss_cons (ps_set (i := 1) sc_rows_of.nd rfl (Or.inl rfl) (pe_lst pa_nil))
      (pss_cons (ps_set (i := 2) sc_rows_of.nd rfl (Or.inl rfl) pe_int)
      (pss_cons (ps_while PassesOwn.never (pt_cmpR op_lt (pv 2) (pe_callB call_len_str rfl O.len PySem.boot_len (pa_cons (pv 0) pa_nil)) (nomark _)) (pss_cons (ps_set (i := 3) sc_rows_of.nd rfl (Or.inl rfl) (pe_ix ix_str (pv 0) (pv 2) (fun _ _ => rfl)))
      (pss_cons (ps_asg (D_times_at.pe hr (by decide) rfl passE0 (pa_cons (pv 0) (pa_cons (pe_op op_add (pv 2) pe_int) pa_nil))) (pg_tup rfl (pgs_cons (pg_name (i := 4) sc_rows_of.nd rfl (Or.inl rfl)) (pgs_cons (pg_name (i := 2) sc_rows_of.nd rfl (Or.inl rfl)) pgs_nil))))
      (pss_cons (ps_if (PW.pt (pw_and (pt_truth (pv 1) (fun _ => rfl)) (pw_and1 (pt_cmpR op_eq (pe_ix ix_tup (pe_ix ix_list (pv 1) (pe_un un_neg pe_int) (fun _ _ => rfl)) pe_int (fun _ _ => rfl)) (pv 3) (nomark _))))) (pss_one (ps_aug (i := 4) sc_rows_of.nd rfl (Or.inl rfl) (pe_ix ix_tup (pe_bm0 PySem.F.plainAttrs_list PySem.F.slot_list_pop PySem.F.type_list_pop mt_pop (pv 1)) pe_int (fun _ _ => rfl)) ip_add)) pss_nil)
      (pss_one (ps_expr (pe_bm PySem.F.plainAttrs_list PySem.F.slot_list_append PySem.F.type_list_append mt_append (pv 1) (pa_cons (pe_tup (pa_cons (pv 3) (pa_cons (pv 4) pa_nil))) pa_nil))))))))
      (pss_one (ps_ret (pv 1))))))), ?_⟩
    rcases hv with ⟨l, rfl, hl, rfl⟩ | ⟨hv, rfl⟩
    · have htl := tx_len l
      refine ⟨_, rfl, .str (tx l), V.ty "str", true, rfl, rfl, .inl ⟨_, .str _, T.t_str⟩, true, rfl, ?_⟩
      refine iteF ⟨by show 0 ≤ sizeLine; omega, fun p hp => ?_⟩
      have S1 := Same.new (o := .lst []) hp
      refine ⟨fun m σ H2 => ∃ (a : Nat) (rs : List Addr) (rows : List Rw) (x3 x4 : Option V) (kf : Nat), m = l.length - a ∧ a ≤ l.length ∧ σ = [some (.str (tx l)), some (.ref p), some (.int (a : Nat)), x3, x4] ∧ H2 p = some (.lst (rs.map V.ref)) ∧ Rws H2 rs rows ∧ Same H H2 ∧ rows.length ≤ a ∧ (l.drop a).length ≤ kf ∧ rowsOf l = rowsGo kf (l.drop a) rows, ⟨l.length, 0, [], [], none, none, l.length, rfl, Nat.zero_le _, rfl, upd_same, .nil, S1, Nat.le_refl _, by simp, rfl⟩, ?_⟩
      rintro m σ H2 ⟨a, rs, rows, x3, x4, kf, rfl, hal, rfl, hp2, R2, S2, hra, hkf, hro⟩
      refine ⟨_, rfl, _, rfl, tx l, rfl, by omega, _, _, rfl, rfl, _, rfl, ?_⟩
      refine ifB (fun h1 => ?_) (fun h1 => ?_)
      · have ha : a < l.length := by have := of_decide_eq_true h1; omega
        obtain ⟨ch, hch⟩ : ∃ ch, l[a]? = some ch := ⟨_, List.getElem?_eq_getElem ha⟩
        have hdr : l.drop a = ch :: l.drop (a + 1) := by rw [List.drop_eq_getElem_cons ha]; congr 1; rw [List.getElem?_eq_getElem ha] at hch; exact Option.some.inj hch
        refine ⟨_, fun _ _ h => h, _, rfl, _, rfl, tx l, (a : Int), ch, rfl, rfl, by omega, atI_nat hch, ?_⟩
        refine ⟨_, rfl, _, rfl, _, _, rfl, rfl, l, a + 1, rfl, hl, by omega, fun b hb1 hb2 hb3 q hq => ⟨q, _, rfl, SqT.of upd_same, rfl, _, _, rfl, _, _, rfl, rfl, ?_⟩⟩
        have S3 := Same.new (o := .tup [.int ((timesAt (l.drop (a + 1))).1 : Nat), .int (b : Nat)]) hq
        generalize hH3 : upd H2 q (.tup [.int ((timesAt (l.drop (a + 1))).1 : Nat), .int (b : Nat)]) = H3 at S3
        have hp3 := S3 _ _ hp2
        have R3 := R2.keep fun b xs h => S3 _ _ h
        have S13 := S2.trans S3
        clear hH3 hq S3 hp2 R2 S2
        cases kf with
        | zero => rw [hdr] at hkf; exact absurd hkf (by simp)
        | succ kf =>
        rw [hdr] at hro hkf
        have hro2 : rowsOf l = rowsGo kf (timesAt (l.drop (a + 1))).2 (addRow rows ch (timesAt (l.drop (a + 1))).1) := hro
        have hkf2 : (timesAt (l.drop (a + 1))).2.length ≤ kf := by
          have := times_le (l.drop (a + 1))
          rw [List.length_cons] at hkf
          omega
        rw [hb3] at hro2 hkf2
        generalize (timesAt (l.drop (a + 1))).1 = n at hro2
        dsimp only
        refine seq_join (fun σ' H' => ∃ (rs1 : List Addr) (rows1 : List Rw) (nn : Nat), σ' = [some (.str (tx l)), some (.ref p), some (.int (b : Nat)), some (.str (tx [ch])), some (.int (nn : Nat))] ∧ H' p = some (.lst (rs1.map V.ref)) ∧ Rws H' rs1 rows1 ∧ Same H H' ∧ addRow rows ch n = rows1 ++ [(ch, nn)] ∧ rows1.length ≤ rows.length) ?_ (fun rest => ?_)
        · rintro σ' H4 ⟨rs1, rows1, nn, rfl, hp4, R4, S4, had, hle⟩
          refine ⟨_, rfl, .inl ⟨rfl, _, .inl (.inl hp4)⟩, _, rfl, _, rfl, by show 2 ≤ sizeLine; omega, fun q2 hq2 => ?_⟩
          have S5 := Same.new (o := .tup [.str (tx [ch]), .int (nn : Nat)]) hq2
          have g5 : upd H4 q2 (.tup [.str (tx [ch]), .int (nn : Nat)]) q2 = some (rowO (ch, nn)) := upd_same
          generalize upd H4 q2 (.tup [.str (tx [ch]), .int (nn : Nat)]) = H5 at S5 g5
          have hp5 := S5 _ _ hp4
          have nq : q2 ≠ p := fun z => by rw [z, hp4] at hq2; cases hq2
          have R5 := R4.keep fun b xs h => S5 _ _ h
          have S15 := S4.trans S5
          refine ⟨p, _, _, rfl, rfl, hp5, by rw [List.length_map, R4.len]; omega, l.length - b, by omega, b, rs1 ++ [q2], addRow rows ch n, _, _, kf, rfl, hb2, rfl, ?_, ?_, ?_, ?_, hkf2, hro2⟩
          · rw [upd_same, List.map_append]
            rfl
          · rw [had]
            refine Rws.app (R5.keep fun b xs h => ?_) ?_
            · rw [upd_ne fun z => by rw [z, hp5] at h; cases h]; exact h
            · rw [upd_ne nq]; exact g5
          · intro b o h
            rw [upd_ne (ne_of_none h hp)]
            exact S15 _ _ h
          · rw [had, List.length_append]
            simp
            omega
        · rcases R3.last with ⟨rfl, rfl⟩ | ⟨rs', r', rows', ⟨c', m'⟩, rfl, rfl, R4, g4⟩
          · refine ⟨_, rfl, false, .inl ⟨_, SqL.of hp3, rfl⟩, ?_⟩
            exact iteF (iteF (rest _ _ ⟨[], [], n, rfl, hp3, .nil, S13, add_nil ch n, Nat.le_refl _⟩))
          · have hp4 : H3 p = some (.lst (rs'.map V.ref ++ [V.ref r'])) := by rw [hp3, List.map_append]; rfl
            have sq4 : SqL K H3 p (rs'.map V.ref ++ [V.ref r']) := SqL.of hp4
            refine ⟨_, rfl, true, .inl ⟨_, sq4, by cases rs' <;> rfl⟩, ?_⟩
            refine iteT ⟨_, rfl, _, rfl, p, _, _, _, rfl, rfl, sq4, atI_last _ _, r', _, _, _, rfl, rfl, SqT.of g4, rfl, _, rfl, rfl, _, rfl, ?_⟩
            rw [show (⟨#[ch]⟩ : Str) = tx [ch] from rfl, sym_dec]
            refine ifB (fun h2 => ?_) (fun h2 => ?_)
            · have hc : c' = ch := of_decide_eq_true h2
              subst hc
              refine ⟨_, rfl, _, rfl, .inl ⟨rfl, _, sq4⟩, p, _, V.ref r', rfl, rfl, hp4, by rw [List.length_append]; simp, r', [.str (tx [c']), .int (m' : Nat)], 1, .int (m' : Nat), rfl, rfl, ?_, rfl, _, _, rfl, rfl, ?_⟩
              · exact SqT.of (by rw [upd_ne fun z => by rw [z, hp4] at g4; cases g4]; exact g4)
              · refine rest _ _ ⟨rs', rows', n + m', rfl, by rw [upd_same, List.dropLast_concat], R4.keep fun b xs h => ?_, fun b o h => ?_, add_same rows' c' n m', by simp⟩
                · rw [upd_ne fun z => by rw [z, hp4] at h; cases h]; exact h
                · rw [upd_ne (ne_of_none h hp)]; exact S13 _ _ h
            · have hc : c' ≠ ch := of_decide_eq_false h2
              exact rest _ _ ⟨_, _, n, rfl, hp3, R3, S13, add_other hc, Nat.le_refl _⟩
      · have ha : a = l.length := by have := of_decide_eq_false h1; omega
        subst ha
        rw [List.drop_length] at hro
        have hr2 : rowsOf l = rows := by
          rw [hro]
          cases kf <;> rfl
        refine ⟨_, rfl, k p rs H2 S2 ⟨SqL.of hp2, by rw [hr2]; exact R2, by rw [hr2]; omega⟩⟩
    · have isi : ∃ x c b, [v, V.ty "str"] = [x, c] ∧ isCls c = true ∧ ((∃ t, TyOf K H x t ∧ PySem.W.kitOne K t (clsV c) = some b) ∨ ∃ a C, x = .ref a ∧ H a = some (excO a (.ref C)) ∧ ErrK K C ∧ PySem.W.kitOne K (.ref C) (clsV c) = some b) ∧ b = false := by
        rcases hv with rfl | ⟨i, rfl⟩ | ⟨a, xs, rfl, e⟩
        · exact ⟨_, _, false, rfl, rfl, .inl ⟨_, .non, T.t_non⟩, rfl⟩
        · exact ⟨_, _, false, rfl, rfl, .inl ⟨_, .int _, T.t_int⟩, rfl⟩
        · exact ⟨_, _, false, rfl, rfl, .inl ⟨_, .tup e, T.t_tup⟩, rfl⟩
      obtain ⟨x, cc, b, e1, e2, e3, rfl⟩ := isi
      refine ⟨_, rfl, x, cc, false, e1, e2, e3, false, rfl, ?_⟩
      refine iteT ⟨by show 0 ≤ sizeLine; omega, fun p hp => ?_⟩
      exact k p [] _ (Same.new hp) ⟨SqL.of upd_same, .nil, by simp⟩
end
end Lw

set_option Elab.async false
set_option linter.all false
set_option maxRecDepth 100000
namespace Lw
open PySem PySem.Spec PyProof.Rows L2 K02 K04
section
variable {P : Program} {w : World} {K : PySem.W.Frag} {mg : Str → Option Value} {base : Heap} {f : Addr} {fd : FuncData} {tk : Nat → Tok} {c kr : Nat → Addr}
theorem drop_cons {α : Type} {l : List α} {a : Nat} {x : α} (h : l[a]? = some x) : l.drop a = x :: l.drop (a + 1) := by
  have ha := (List.getElem?_eq_some_iff.mp h).1
  rw [List.drop_eq_getElem_cons ha]
  congr 1
  rw [List.getElem?_eq_getElem ha] at h
  exact Option.some.inj h
theorem get_lt {α : Type} {l : List α} {a : Nat} (h : a < l.length) : ∃ x, l[a]? = some x := ⟨_, List.getElem?_eq_getElem h⟩
theorem e_ins : (",B0/" : Str) = tx [44, 66, 48, 47] := by decide +kernel
theorem e_flo : ("+-$" : Str) = tx [43, 45, 36] := by decide +kernel
theorem e_sig : ("+-" : Str) = tx [43, 45] := by decide +kernel
theorem e_pla : ("9Z*+-$" : Str) = tx [57, 90, 42, 43, 45, 36] := by decide +kernel
theorem e_dol : ("$" : Str) = tx [36] := by decide +kernel
theorem e_nin : ("9" : Str) = tx [57] := by decide +kernel
theorem e_dot : ("." : Str) = tx [46] := by decide +kernel
theorem e_emp : ("" : Str) = tx [] := by decide +kernel
def spFloats (K : PySem.W.Frag) : Sp := fun vs H Q _ => ∃ (p : Addr) (rs : List Addr) (rows : List Rw) (a : Nat), vs = [.ref p, .int (a : Nat)] ∧ RowsAt K H p rs rows ∧ a < rows.length ∧ Q (.bl (floatsAt (rows.drop a))) H
theorem ok_floats_at (F : Fun K "floats_at" "floats_at" s_floats_at f fd) (O : Own mg) (T : Txt K mg tk c kr) : FnOk P w K mg base (CXE P w) 1 f fd ["rows", "at"] (spFloats K) := by
  refine okN F sc_floats_at (fun vs H Q E h => ?_) (fun cdv A outer s H vs Q E hr h => ?_)
  · obtain ⟨p, rs, rows, a, rfl, _⟩ := h
    rfl
  · obtain ⟨p, rs, rows, a, rfl, R, ha, k⟩ := h
    refine ⟨_, (pss_cons (ps_asg (pe_ix ix_list (pv 0) (pv 1) (fun _ _ => rfl)) (pg_tup rfl (pgs_cons (pg_name (i := 2) sc_floats_at.nd rfl (Or.inl rfl)) (pgs_cons (pg_name (i := 3) sc_floats_at.nd rfl (Or.inl rfl)) pgs_nil))))
      (pss_cons (ps_if (pt_cmpR op_gt (pv 3) pe_int (nomark _)) (pss_one (ps_ret pe_bl)) pss_nil)
      (pss_cons (ps_set (i := 4) sc_floats_at.nd rfl (Or.inl rfl) (pe_op op_add (pv 1) pe_int))
      (pss_cons (ps_while PassesOwn.never (PW.pt (pw_and (pt_cmpR op_lt (pv 4) (pe_callB call_len_seq rfl O.len PySem.boot_len (pa_cons (pv 0) pa_nil)) (nomark _)) (pw_and1 (pt_cmpR op_in_str (pe_ix ix_tup (pe_ix ix_list (pv 0) (pv 4) (fun _ _ => rfl)) pe_int (fun _ _ => rfl)) (pe_glob (v := V.str ",B0/") rfl T.m_INSERTED ⟨_, rfl⟩) (by with_unfolding_all rfl))))) (pss_one (ps_aug (i := 4) sc_floats_at.nd rfl (Or.inl rfl) pe_int ip_add)))
      (pss_one (ps_ret (pe_and (pe_cmpR op_lt (pv 4) (pe_callB call_len_seq rfl O.len PySem.boot_len (pa_cons (pv 0) pa_nil)) (nomark _)) (pe_one (pe_cmpR op_eq (pe_ix ix_tup (pe_ix ix_list (pv 0) (pv 4) (fun _ _ => rfl)) pe_int (fun _ _ => rfl)) (pv 2) (nomark _)))))))))), ?_⟩
    obtain ⟨⟨y, n⟩, hx⟩ := get_lt ha
    rw [drop_cons hx] at k
    refine row_at rfl (var_int rfl) R hx fun r hr1 => ⟨r, _, rfl, SqT.of hr1, rfl, _, _, rfl, _, _, rfl, rfl, ?_⟩
    refine ⟨_, rfl, _, _, rfl, rfl, _, rfl, ?_⟩
    refine ifB (fun h1 => ?_) (fun h1 => ?_)
    · have hn : n > 1 := by have := of_decide_eq_true h1; omega
      have e : floatsAt ((y, n) :: rows.drop (a + 1)) = true := by unfold floatsAt; simp [hn]
      rw [e] at k
      exact k
    have hn : ¬ n > 1 := by have := of_decide_eq_false h1; omega
    have e : floatsAt ((y, n) :: rows.drop (a + 1)) = (match (rows.drop (a + 1)).dropWhile (fun x => ins x.1) with | (c', _) :: _ => c' == y | [] => false) := by
      show (decide (n > 1) || _) = _
      rw [decide_eq_false hn, Bool.false_or]
      all_goals rfl
    rw [e] at k
    clear e
    refine ⟨_, rfl, _, _, rfl, rfl, ?_⟩
    refine ⟨fun m σ H2 => ∃ b : Nat, m = rows.length - b ∧ b ≤ rows.length ∧ σ = [some (.ref p), some (.int (a : Nat)), some (.str (tx [y])), some (.int (n : Nat)), some (.int (b : Nat))] ∧ H2 = H ∧ (rows.drop (a + 1)).dropWhile (fun x => ins x.1) = (rows.drop b).dropWhile (fun x => ins x.1), ⟨_, a + 1, rfl, by omega, rfl, rfl, rfl⟩, ?_⟩
    rintro m σ H2 ⟨b, rfl, hb, rfl, rfl, hd⟩
    refine ⟨_, rfl, len_rows rfl R ⟨_, _, rfl, rfl, _, rfl, ?_⟩⟩
    rcases Nat.lt_or_ge b rows.length with hlt | hge
    · rw [decide_eq_true (by omega)]
      obtain ⟨⟨y2, n2⟩, hx2⟩ := get_lt hlt
      refine iteT (sym_at rfl (var_int rfl) R hx2 ⟨_, _, rfl, rfl, _, rfl, ?_⟩)
      rw [e_ins, in_sym]
      have hc : ([44, 66, 48, 47] : List Nat).contains y2 = ins y2 := rfl
      rw [hc]
      rw [drop_cons hx2] at hd
      refine ifB (fun h2 => ?_) (fun h2 => ?_)
      · refine ⟨_, fun _ _ h => h, ?_⟩
        refine ⟨_, rfl, _, _, rfl, rfl, _, ?_, b + 1, rfl, by omega, rfl, rfl, ?_⟩
        · omega
        · rw [hd, List.dropWhile_cons, if_pos h2]
      · rw [List.dropWhile_cons, if_neg (by rw [h2]; decide)] at hd
        rw [hd] at k
        refine ⟨_, rfl, len_rows rfl R ⟨_, _, rfl, rfl, _, rfl, ?_⟩⟩
        rw [decide_eq_true (by omega)]
        refine iteT (sym_at rfl (var_int rfl) R hx2 ⟨_, rfl, rfl, ?_⟩)
        rw [sym_dec]
        have e3 : decide (y2 = y) = (y2 == y) := by by_cases z : y2 = y <;> simp [z]
        rw [e3]
        exact k
    · rw [decide_eq_false (by omega)]
      refine iteF (iteF ?_)
      rw [List.drop_eq_nil_of_le hge] at hd
      rw [hd] at k
      refine ⟨_, rfl, len_rows rfl R ⟨_, _, rfl, rfl, _, rfl, ?_⟩⟩
      rw [decide_eq_false (by omega)]
      exact iteF k
def spPlaces (K : PySem.W.Frag) : Sp := fun vs H Q _ => ∃ (p : Addr) (rs : List Addr) (rows : List Rw) (a pc : Nat), vs = [.ref p, .int (a : Nat), .str (tx [pc])] ∧ RowsAt K H p rs rows ∧ a ≤ rows.length ∧
  ∀ b many : Nat, b ≤ rows.length → placesGo pc (rows.drop a) 0 = (many, rows.drop b) → ∀ q, H q = none → Q (.ref q) (upd H q (.tup [.int (many : Nat), .int (b : Nat)]))
theorem ok_places_of (F : Fun K "places_of" "places_of" s_places_of f fd) (O : Own mg) (T : Txt K mg tk c kr) : FnOk P w K mg base (CXE P w) 1 f fd ["rows", "at", "place"] (spPlaces K) := by
  refine okN F sc_places_of (fun vs H Q E h => ?_) (fun cdv A outer s H vs Q E hr h => ?_)
  · obtain ⟨p, rs, rows, a, pc, rfl, _⟩ := h
    rfl
  · obtain ⟨p, rs, rows, a, pc, rfl, R, ha, k⟩ := h
    have hz : 1000 ≤ sizeLine := by decide
    refine ⟨_, (pss_cons (ps_set (i := 3) sc_places_of.nd rfl (Or.inl rfl) pe_int)
      (pss_cons (ps_while PassesOwn.never (PW.pt (pw_and (pt_cmpR op_lt (pv 1) (pe_callB call_len_seq rfl O.len PySem.boot_len (pa_cons (pv 0) pa_nil)) (nomark _)) (pw_and1 (PW.pt (pw_or (pt_cmpR op_eq (pe_ix ix_tup (pe_ix ix_list (pv 0) (pv 1) (fun _ _ => rfl)) pe_int (fun _ _ => rfl)) (pv 2) (nomark _)) (pw_or1 (pt_cmpR op_in_str (pe_ix ix_tup (pe_ix ix_list (pv 0) (pv 1) (fun _ _ => rfl)) pe_int (fun _ _ => rfl)) (pe_glob (v := V.str ",B0/") rfl T.m_INSERTED ⟨_, rfl⟩) (by with_unfolding_all rfl)))))))) (pss_cons (ps_if (pt_cmpR op_eq (pe_ix ix_tup (pe_ix ix_list (pv 0) (pv 1) (fun _ _ => rfl)) pe_int (fun _ _ => rfl)) (pv 2) (nomark _)) (pss_one (ps_aug (i := 3) sc_places_of.nd rfl (Or.inl rfl) (pe_ix ix_tup (pe_ix ix_list (pv 0) (pv 1) (fun _ _ => rfl)) pe_int (fun _ _ => rfl)) ip_add)) pss_nil)
      (pss_one (ps_aug (i := 1) sc_places_of.nd rfl (Or.inl rfl) pe_int ip_add))))
      (pss_one (ps_ret (pe_tup (pa_cons (pv 3) (pa_cons (pv 1) pa_nil))))))), ?_⟩
    refine ⟨fun m σ H2 => ∃ b many : Nat, m = rows.length - b ∧ b ≤ rows.length ∧ σ = [some (.ref p), some (.int (b : Nat)), some (.str (tx [pc])), some (.int (many : Nat))] ∧ H2 = H ∧ placesGo pc (rows.drop a) 0 = placesGo pc (rows.drop b) many, ⟨_, a, 0, rfl, ha, rfl, rfl, rfl⟩, ?_⟩
    rintro m σ H2 ⟨b, many, rfl, hb, rfl, rfl, hd⟩
    refine ⟨_, rfl, len_rows rfl R ⟨_, _, rfl, rfl, _, rfl, ?_⟩⟩
    rcases Nat.lt_or_ge b rows.length with hlt | hge
    · rw [decide_eq_true (by omega)]
      obtain ⟨⟨y, n⟩, hx⟩ := get_lt hlt
      rw [drop_cons hx] at hd
      refine iteT (sym_at rfl (var_int rfl) R hx ⟨_, rfl, rfl, _, rfl, ?_⟩)
      rw [sym_dec]
      by_cases h1 : y = pc
      · rw [decide_eq_true h1]
        refine iteT (iteT ⟨_, fun _ _ h => h, sym_at rfl (var_int rfl) R hx ⟨_, rfl, rfl, _, rfl, ?_⟩⟩)
        rw [sym_dec, decide_eq_true h1]
        refine iteT ⟨_, rfl, num_at rfl (var_int rfl) R hx ⟨_, _, rfl, rfl, ?_⟩⟩
        refine ⟨_, rfl, _, _, rfl, rfl, rows.length - (b + 1), by omega, b + 1, many + n, rfl, by omega, rfl, rfl, ?_⟩
        rw [hd]
        show (if y = pc then placesGo pc (rows.drop (b + 1)) (many + n) else _) = _
        rw [if_pos h1]
      · rw [decide_eq_false h1]
        refine iteF (sym_at rfl (var_int rfl) R hx ⟨_, _, rfl, rfl, _, rfl, ?_⟩)
        rw [e_ins, in_sym]
        have hc : ([44, 66, 48, 47] : List Nat).contains y = ins y := rfl
        rw [hc]
        refine ifB (fun h2 => ?_) (fun h2 => ?_)
        · refine ⟨_, fun _ _ h => h, sym_at rfl (var_int rfl) R hx ⟨_, rfl, rfl, _, rfl, ?_⟩⟩
          rw [sym_dec, decide_eq_false h1]
          refine iteF ⟨_, rfl, _, _, rfl, rfl, rows.length - (b + 1), by omega, b + 1, many, rfl, by omega, rfl, rfl, ?_⟩
          rw [hd]
          show (if y = pc then _ else if ins y then placesGo pc (rows.drop (b + 1)) many else _) = _
          rw [if_neg h1, if_pos h2]
        · have hd2 : placesGo pc (rows.drop a) 0 = (many, rows.drop b) := by
            rw [hd, drop_cons hx]
            show (if y = pc then _ else if ins y then _ else (many, (y, n) :: rows.drop (b + 1))) = _
            rw [if_neg h1, if_neg (by rw [h2]; decide)]
          exact ⟨_, rfl, _, rfl, by show 2 ≤ sizeLine; omega, k b many (by omega) hd2⟩
    · rw [decide_eq_false (by omega)]
      refine iteF (iteF ?_)
      have hb2 : rows.drop b = [] := List.drop_eq_nil_of_le hge
      have hd2 : placesGo pc (rows.drop a) 0 = (many, rows.drop b) := by rw [hd, hb2]; rfl
      exact ⟨_, rfl, _, rfl, by show 2 ≤ sizeLine; omega, k b many (by omega) hd2⟩
def spWhole (K : PySem.W.Frag) : Sp := fun vs H Q _ => ∃ (p : Addr) (rs : List Addr) (rows : List Rw) (a : Nat), vs = [.ref p, .int (a : Nat)] ∧ RowsAt K H p rs rows ∧ a ≤ rows.length ∧
  ∀ (pl : List Nat) (many nines b : Nat), b ≤ rows.length → wholePart (rows.drop a) = (pl, many, nines, rows.drop b) → ∀ q H', Same H H' → H' q = some (.tup [.str (tx pl), .int (many : Nat), .int (nines : Nat), .int (b : Nat)]) → Q (.ref q) H'
theorem ok_whole_part (F : Fun K "whole_part" "whole_part" s_whole_part f fd) (O : Own mg) (T : Txt K mg tk c kr) (D_places_of : Def P w K mg base 1 "places_of" ["rows", "at", "place"] (spPlaces K)) : FnOk P w K mg base (CXE P w) 2 f fd ["rows", "at"] (spWhole K) := by
  refine okN F sc_whole_part (fun vs H Q E h => ?_) (fun cdv A outer s H vs Q E hr h => ?_)
  · obtain ⟨p, rs, rows, a, rfl, _⟩ := h
    rfl
  · obtain ⟨p, rs, rows, a, rfl, R, ha, k⟩ := h
    have hz : 1000 ≤ sizeLine := by decide
    refine ⟨_, (pss_cons (ps_if (PW.pt (pw_or (pt_cmpR op_ge (pv 1) (pe_callB call_len_seq rfl O.len PySem.boot_len (pa_cons (pv 0) pa_nil)) (nomark _)) (pw_or1 (pt_cmpR op_notin_str (pe_ix ix_tup (pe_ix ix_list (pv 0) (pv 1) (fun _ _ => rfl)) pe_int (fun _ _ => rfl)) (pe_glob (v := V.str "9Z*+-$") rfl T.m_PLACES ⟨_, rfl⟩) (by with_unfolding_all rfl))))) (pss_one (ps_ret (pe_tup (pa_cons pe_str (pa_cons pe_int (pa_cons pe_int (pa_cons (pv 1) pa_nil))))))) pss_nil)
      (pss_cons (ps_set (i := 2) sc_whole_part.nd rfl (Or.inl rfl) (pe_ix ix_tup (pe_ix ix_list (pv 0) (pv 1) (fun _ _ => rfl)) pe_int (fun _ _ => rfl)))
      (pss_cons (ps_asg (D_places_of.pe hr (by decide) rfl passE0 (pa_cons (pv 0) (pa_cons (pv 1) (pa_cons (pv 2) pa_nil)))) (pg_tup rfl (pgs_cons (pg_name (i := 3) sc_whole_part.nd rfl (Or.inl rfl)) (pgs_cons (pg_name (i := 1) sc_whole_part.nd rfl (Or.inl rfl)) pgs_nil))))
      (pss_cons (ps_asg (D_places_of.pe hr (by decide) rfl passE0 (pa_cons (pv 0) (pa_cons (pv 1) (pa_cons pe_str pa_nil)))) (pg_tup rfl (pgs_cons (pg_name (i := 4) sc_whole_part.nd rfl (Or.inl rfl)) (pgs_cons (pg_name (i := 1) sc_whole_part.nd rfl (Or.inl rfl)) pgs_nil))))
      (pss_one (ps_ret (pe_tup (pa_cons (pv 2) (pa_cons (pv 3) (pa_cons (pv 4) (pa_cons (pv 1) pa_nil))))))))))), ?_⟩
    refine ⟨_, rfl, len_rows rfl R ⟨_, _, rfl, rfl, _, rfl, ?_⟩⟩
    have none : wholePart (rows.drop a) = ([], 0, 0, rows.drop a) → ∀ q, H q = none → Q (.ref q) (upd H q (.tup [.str "", .int 0, .int 0, .int (a : Nat)])) := fun e q hq =>
      k [] 0 0 a ha e q _ (Same.new hq) (by rw [upd_same, e_emp]; rfl)
    rcases Nat.lt_or_ge a rows.length with hlt | hge
    · rw [decide_eq_false (by omega)]
      obtain ⟨⟨y, n⟩, hx⟩ := get_lt hlt
      refine iteF (sym_at rfl (var_int rfl) R hx ⟨_, _, rfl, rfl, _, rfl, ?_⟩)
      rw [e_pla, in_sym]
      refine ifB (fun h1 => ?_) (fun h1 => ?_)
      · refine ⟨_, rfl, by show 4 ≤ sizeLine; omega, none ?_⟩
        rw [drop_cons hx]
        show (if ([57, 90, 42, 43, 45, 36] : List Nat).contains y then _ else _) = _
        rw [if_neg (by rw [Bool.not_eq_true'] at h1; rw [h1]; decide)]
      · have h2 : ([57, 90, 42, 43, 45, 36] : List Nat).contains y = true := by
          cases e : ([57, 90, 42, 43, 45, 36] : List Nat).contains y with
          | true => rfl
          | false => rw [e] at h1; cases h1
        refine sym_at rfl (var_int rfl) R hx ?_
        refine ⟨_, rfl, _, rfl, _, rfl, p, rs, rows, a, y, rfl, R, ha, fun b many hb hp1 q hq => ⟨q, _, rfl, SqT.of upd_same, rfl, _, _, rfl, _, _, rfl, rfl, ?_⟩⟩
        have S1 := Same.new (o := .tup [.int (many : Nat), .int (b : Nat)]) hq
        generalize upd H q (.tup [.int (many : Nat), .int (b : Nat)]) = H1 at S1
        refine ⟨_, rfl, _, rfl, p, rs, rows, b, 57, by rw [e_nin]; rfl, R.same S1, hb, fun b2 nines hb2 hp2 q2 hq2 => ⟨q2, _, rfl, SqT.of upd_same, rfl, _, _, rfl, _, _, rfl, rfl, ?_⟩⟩
        have S2 := Same.new (o := .tup [.int (nines : Nat), .int (b2 : Nat)]) hq2
        generalize upd H1 q2 (.tup [.int (nines : Nat), .int (b2 : Nat)]) = H2 at S2
        refine ⟨_, rfl, _, rfl, _, rfl, _, rfl, by show 4 ≤ sizeLine; omega, fun q3 hq3 => ?_⟩
        refine k [y] many nines b2 hb2 ?_ q3 _ ((S1.trans S2).trans (Same.new hq3)) upd_same
        rw [drop_cons hx] at hp1 ⊢
        show (if ([57, 90, 42, 43, 45, 36] : List Nat).contains y then _ else _) = _
        rw [if_pos h2, hp1]
        show ([y], many, (placesGo 57 (rows.drop b) 0).1, (placesGo 57 (rows.drop b) 0).2) = _
        rw [hp2]
    · rw [decide_eq_true (by omega)]
      refine iteT (iteT ⟨_, rfl, by show 4 ≤ sizeLine; omega, none ?_⟩)
      rw [List.drop_eq_nil_of_le hge]
      rfl
def oV : Option Nat → V
  | none => .non
  | some n => .int (n : Nat)
def spBroken (K : PySem.W.Frag) : Sp := fun vs H Q _ => ∃ (p : Addr) (rs : List Addr) (rows : List Rw) (a : Nat) (pl : List Nat), vs = [.ref p, .int (a : Nat), .str (tx pl)] ∧ RowsAt K H p rs rows ∧ a ≤ rows.length ∧
  ∀ (o : Option Nat) (b : Nat), b ≤ rows.length → brokenPart (rows.drop a) pl = (o, rows.drop b) → ∀ q, H q = none → Q (.ref q) (upd H q (.tup [oV o, .int (b : Nat)]))
theorem broken_not {y n : Nat} {r : List Rw} {pl : List Nat} (h : y ≠ 46) : brokenPart ((y, n) :: r) pl = (some 0, (y, n) :: r) := by
  unfold brokenPart
  split
  · rename_i e
    exact absurd (Prod.mk.inj (List.cons.inj e).1).1 h
  · rfl
theorem ok_broken_part (F : Fun K "broken_part" "broken_part" s_broken_part f fd) (O : Own mg) (T : Txt K mg tk c kr) : FnOk P w K mg base (CXE P w) 1 f fd ["rows", "at", "place"] (spBroken K) := by
  refine okN F sc_broken_part (fun vs H Q E h => ?_) (fun cdv A outer s H vs Q E hr h => ?_)
  · obtain ⟨p, rs, rows, a, pl, rfl, _⟩ := h
    rfl
  · obtain ⟨p, rs, rows, a, pl, rfl, R, ha, k⟩ := h
    have hz : 1000 ≤ sizeLine := by decide
    have h2s : 2 ≤ sizeLine := by omega
    refine ⟨_, (pss_cons (ps_if (PW.pt (pw_or (pt_cmpR op_ge (pv 1) (pe_callB call_len_seq rfl O.len PySem.boot_len (pa_cons (pv 0) pa_nil)) (nomark _)) (pw_or1 (pt_cmpR op_ne (pe_ix ix_tup (pe_ix ix_list (pv 0) (pv 1) (fun _ _ => rfl)) pe_int (fun _ _ => rfl)) pe_str (nomark _))))) (pss_one (ps_ret (pe_tup (pa_cons pe_int (pa_cons (pv 1) pa_nil))))) pss_nil)
      (pss_cons (ps_if (PW.pt (pw_or (pt_cmpR op_gt (pe_ix ix_tup (pe_ix ix_list (pv 0) (pv 1) (fun _ _ => rfl)) pe_int (fun _ _ => rfl)) pe_int (nomark _)) (pw_or1 (pt_cmpR op_eq (pe_op op_add (pv 1) pe_int) (pe_callB call_len_seq rfl O.len PySem.boot_len (pa_cons (pv 0) pa_nil)) (nomark _))))) (pss_one (ps_ret (pe_tup (pa_cons pe_non (pa_cons (pv 1) pa_nil))))) pss_nil)
      (pss_cons (ps_asg (pe_ix ix_list (pv 0) (pe_op op_add (pv 1) pe_int) (fun _ _ => rfl)) (pg_tup rfl (pgs_cons (pg_name (i := 3) sc_broken_part.nd rfl (Or.inl rfl)) (pgs_cons (pg_name (i := 4) sc_broken_part.nd rfl (Or.inl rfl)) pgs_nil))))
      (pss_cons (ps_if (PW.pt (pw_and (pt_cmpR op_ne (pv 3) pe_str (nomark _)) (pw_and1 (PW.pt (pw_or (pt_cmpR op_ne (pv 3) (pv 2) (nomark _)) (pw_or1 (pt_cmpR op_in_str (pv 3) (pe_glob (v := V.str "+-$") rfl T.m_FLOATING ⟨_, rfl⟩) (by with_unfolding_all rfl)))))))) (pss_one (ps_ret (pe_tup (pa_cons pe_non (pa_cons (pv 1) pa_nil))))) pss_nil)
      (pss_one (ps_ret (pe_tup (pa_cons (pv 4) (pa_cons (pe_op op_add (pv 1) pe_int) pa_nil))))))))), ?_⟩
    refine ⟨_, rfl, len_rows rfl R ⟨_, _, rfl, rfl, _, rfl, ?_⟩⟩
    rcases Nat.lt_or_ge a rows.length with hlt | hge
    · rw [decide_eq_false (by omega)]
      obtain ⟨⟨y, n⟩, hx⟩ := get_lt hlt
      refine iteF (sym_at rfl (var_int rfl) R hx ⟨rfl, _, rfl, ?_⟩)
      rw [e_dot, sym_dec]
      by_cases h1 : y = 46
      · rw [decide_eq_true h1]
        subst h1
        refine iteF (num_at rfl (var_int rfl) R hx ⟨_, _, rfl, rfl, _, rfl, ?_⟩)
        by_cases h2 : n > 1
        · rw [decide_eq_true (by omega)]
          refine iteT (iteT ⟨_, rfl, h2s, k none a ha ?_⟩)
          rw [drop_cons hx]
          show (if n > 1 ∨ _ then _ else _) = _
          rw [if_pos (.inl h2)]
        · rw [decide_eq_false (by omega)]
          refine iteF ⟨_, rfl, _, _, rfl, rfl, len_rows rfl R ⟨rfl, _, rfl, ?_⟩⟩
          rw [eq_int']
          by_cases h3 : a + 1 = rows.length
          · rw [decide_eq_true (by omega)]
            refine iteT ⟨_, rfl, h2s, k none a ha ?_⟩
            rw [drop_cons hx]
            show (if n > 1 ∨ _ then _ else _) = _
            rw [if_pos (.inr (List.drop_eq_nil_of_le (by omega)))]
          · rw [decide_eq_false (by omega)]
            obtain ⟨⟨y2, n2⟩, hx2⟩ := get_lt (show a + 1 < rows.length by omega)
            refine iteF (row_at (k := a + 1) rfl (fun Q q => ⟨_, rfl, _, _, rfl, rfl, q⟩) R hx2 fun r hr1 => ⟨r, _, rfl, SqT.of hr1, rfl, _, _, rfl, _, _, rfl, rfl, ?_⟩)
            have eb : brokenPart (rows.drop a) pl = if y2 ≠ 57 ∧ ([y2] ≠ pl ∨ [43, 45, 36].contains y2 = true) then (none, rows.drop a) else (some n2, rows.drop (a + 2)) := by
              rw [drop_cons hx]
              show (if n > 1 ∨ rows.drop (a + 1) = [] then _ else _) = _
              rw [if_neg (by rw [drop_cons hx2]; simp; omega), drop_cons hx2]
            refine ⟨_, rfl, rfl, _, rfl, ?_⟩
            rw [e_nin, sym_dec]
            by_cases h4 : y2 = 57
            · rw [decide_eq_true h4]
              refine iteF (iteF ⟨_, rfl, _, rfl, _, _, rfl, rfl, h2s, k (some n2) (a + 2) (by omega) ?_⟩)
              rw [eb, if_neg fun z => z.1 h4]
            · rw [decide_eq_false h4]
              refine iteT ⟨_, rfl, _, rfl, rfl, _, rfl, ?_⟩
              rw [str_dec]
              by_cases h5 : [y2] = pl
              · rw [decide_eq_true h5]
                refine iteF ⟨_, rfl, _, _, rfl, rfl, _, rfl, ?_⟩
                rw [e_flo, in_sym]
                refine ifB (fun h6 => ?_) (fun h6 => ?_)
                · refine ⟨_, rfl, h2s, k none a ha ?_⟩
                  rw [eb, if_pos ⟨h4, .inr h6⟩]
                · refine ⟨_, rfl, _, rfl, _, _, rfl, rfl, h2s, k (some n2) (a + 2) (by omega) ?_⟩
                  rw [eb, if_neg fun z => z.2.elim (fun q => q h5) (fun q => by rw [h6] at q; cases q)]
              · rw [decide_eq_false h5]
                refine iteT (iteT ⟨_, rfl, h2s, k none a ha ?_⟩)
                rw [eb, if_pos ⟨h4, .inl h5⟩]
      · rw [decide_eq_false h1]
        refine iteT ⟨_, rfl, h2s, k (some 0) a ha ?_⟩
        rw [drop_cons hx]
        exact broken_not h1
    · rw [decide_eq_true (by omega)]
      refine iteT (iteT ⟨_, rfl, h2s, k (some 0) a ha ?_⟩)
      rw [List.drop_eq_nil_of_le hge]
      rfl
def spLead (K : PySem.W.Frag) : Sp := fun vs H Q _ => ∃ (p : Addr) (rs : List Addr) (rows : List Rw), vs = [.ref p] ∧ RowsAt K H p rs rows ∧
  ∀ (ld : List Nat) (b : Nat), b ≤ rows.length → ld.length ≤ 2 → leadOf rows = (ld, rows.drop b) → ∀ q H', Same H H' → H' q = some (.tup [.str (tx ld), .int (b : Nat)]) → Q (.ref q) H'
theorem ok_lead_of (F : Fun K "lead_of" "lead_of" s_lead_of f fd) (O : Own mg) (T : Txt K mg tk c kr) (D_floats_at : Def P w K mg base 1 "floats_at" ["rows", "at"] (spFloats K)) : FnOk P w K mg base (CXE P w) 2 f fd ["rows"] (spLead K) := by
  refine okN F sc_lead_of (fun vs H Q E h => ?_) (fun cdv A outer s H vs Q E hr h => ?_)
  · obtain ⟨p, rs, rows, rfl, _⟩ := h
    rfl
  · obtain ⟨p, rs, rows, rfl, R, k⟩ := h
    have hz : 1000 ≤ sizeLine := by decide
    have h2s : 2 ≤ sizeLine := by omega
    refine ⟨_, (pss_cons (ps_set (i := 1) sc_lead_of.nd rfl (Or.inl rfl) pe_str)
      (pss_cons (ps_set (i := 2) sc_lead_of.nd rfl (Or.inl rfl) pe_int)
      (pss_cons (ps_for PassesOwn.never rfl (pi_tup (pe_tup (pa_cons (pe_glob (v := V.str "+-") rfl T.m_SIGNS ⟨_, rfl⟩) (pa_cons pe_str pa_nil)))) (pg_name (i := 3) sc_lead_of.nd rfl (Or.inl rfl)) (pss_one (ps_if (PW.pt (pw_and (pt_cmpR op_lt (pv 2) (pe_callB call_len_seq rfl O.len PySem.boot_len (pa_cons (pv 0) pa_nil)) (nomark _)) (pw_and (pt_cmpR op_in_str (pe_ix ix_tup (pe_ix ix_list (pv 0) (pv 2) (fun _ _ => rfl)) pe_int (fun _ _ => rfl)) (pv 3) (by with_unfolding_all rfl)) (pw_and1 (pt_not (pt_val (D_floats_at.pe hr (by decide) rfl passE0 (pa_cons (pv 0) (pa_cons (pv 2) pa_nil))))))))) (pss_cons (ps_aug (i := 1) sc_lead_of.nd rfl (Or.inl rfl) (pe_ix ix_tup (pe_ix ix_list (pv 0) (pv 2) (fun _ _ => rfl)) pe_int (fun _ _ => rfl)) ip_addS)
      (pss_one (ps_aug (i := 2) sc_lead_of.nd rfl (Or.inl rfl) pe_int ip_add))) pss_nil)))
      (pss_one (ps_ret (pe_tup (pa_cons (pv 1) (pa_cons (pv 2) pa_nil)))))))), ?_⟩
    refine ⟨h2s, fun t ht => ⟨t, rfl, ⟨_, SqT.of upd_same⟩, ?_⟩⟩
    have S1 := Same.new (o := .tup [.str "+-", .str "$"]) ht
    have g1 : upd H t (.tup [.str "+-", .str "$"]) t = some (.tup [.str (tx [43, 45]), .str (tx [36])]) := by rw [upd_same, e_sig, e_dol]
    generalize upd H t (.tup [.str "+-", .str "$"]) = H1 at S1 g1
    have R1 := R.same S1
    refine for_tup (xs := [.str (tx [43, 45]), .str (tx [36])]) (fun i σ H2 => ∃ (ld : List Nat) (b : Nat) (x : Option V), σ = [some (.ref p), some (.str (tx ld)), some (.int (b : Nat)), x] ∧ H2 = H1 ∧ b ≤ rows.length ∧ ld.length ≤ i ∧ leadOf rows = leadGo (([[43, 45], [36]] : List (List Nat)).drop i) (rows.drop b) ld) ⟨[], 0, none, by rw [← e_emp]; rfl, rfl, Nat.zero_le _, Nat.le_refl _, rfl⟩ (fun i σ H2 hi hP => ?_) ?_ ?_
    · obtain ⟨_, _, _, _, rfl, _⟩ := hP
      exact SqT.of g1
    · rintro i x σ H2 hi ⟨ld, b, x3, rfl, rfl, hb, hll, hlo⟩
      have hi2 : i < 2 := (List.getElem?_eq_some_iff.mp hi).1
      obtain ⟨ch, hch, hxc⟩ : ∃ ch, ([[43, 45], [36]] : List (List Nat))[i]? = some ch ∧ x = .str (tx ch) := by
        match i, hi, hi2 with
        | 0, hi, _ => exact ⟨_, rfl, (Option.some.inj hi).symm⟩
        | 1, hi, _ => exact ⟨_, rfl, (Option.some.inj hi).symm⟩
      subst hxc
      rw [drop_cons hch] at hlo
      refine ⟨_, rfl, len_rows rfl R1 ⟨_, _, rfl, rfl, _, rfl, ?_⟩⟩
      rcases Nat.lt_or_ge b rows.length with hlt | hge
      · rw [decide_eq_true (by omega)]
        obtain ⟨⟨y, n⟩, hx⟩ := get_lt hlt
        have el : leadGo (ch :: ([[43, 45], [36]] : List (List Nat)).drop (i + 1)) (rows.drop b) ld = if (ch.contains y && !floatsAt (rows.drop b)) = true then leadGo (([[43, 45], [36]] : List (List Nat)).drop (i + 1)) (rows.drop (b + 1)) (ld ++ [y]) else leadGo (([[43, 45], [36]] : List (List Nat)).drop (i + 1)) (rows.drop b) ld := by
          rw [drop_cons hx]
          rfl
        rw [el] at hlo
        refine iteT (sym_at rfl (var_int rfl) R1 hx ⟨_, rfl, _, _, rfl, rfl, _, rfl, ?_⟩)
        rw [in_sym]
        refine ifB (fun h1 => ?_) (fun h1 => ?_)
        · refine ⟨_, rfl, _, rfl, p, rs, rows, b, rfl, R1, hlt, _, rfl, ?_⟩
          rw [h1, Bool.true_and] at hlo
          refine ifB (fun h2 => ?_) (fun h2 => ?_)
          · refine ⟨_, rfl, sym_at rfl (var_int rfl) R1 hx ⟨_, _, rfl, rfl, by rw [tx_len, tx_len]; simp; omega, ?_⟩⟩
            rw [tx_app]
            refine ⟨_, rfl, _, _, rfl, rfl, ld ++ [y], b + 1, _, rfl, rfl, by omega, by rw [List.length_append]; simp; omega, ?_⟩
            rw [hlo, if_pos h2]
          · refine ⟨ld, b, _, rfl, rfl, hb, by omega, ?_⟩
            rw [hlo, if_neg (by rw [h2]; decide)]
        · rw [h1, Bool.false_and] at hlo
          exact iteF ⟨ld, b, _, rfl, rfl, hb, by omega, by rw [hlo]; rfl⟩
      · rw [decide_eq_false (by omega)]
        refine iteF (iteF ⟨ld, b, _, rfl, rfl, hb, by omega, ?_⟩)
        rw [hlo, List.drop_eq_nil_of_le hge]
        rfl
    · rintro σ H2 ⟨ld, b, x3, rfl, rfl, hb, hll, hlo⟩
      refine ⟨_, rfl, _, rfl, h2s, fun q hq => ?_⟩
      exact k ld b hb hll hlo q _ (S1.trans (Same.new hq)) upd_same
theorem comp_list {K : PySem.W.Frag} {a : Addr} {xs : List V} {NB : List Str} {g : TG} {tt : TT} {te : TE} {Q : VK} {H : Hp} (Pv : Nat → List V → Hp → Prop) (h0 : Pv 0 [] H) (hl : ∀ i vs H, i ≤ xs.length → Pv i vs H → SqL K H a xs ∧ vs.length ≤ i)
    (hs : ∀ i x vs H, xs[i]? = some x → Pv i vs H → g x (List.replicate NB.length none) H fun σ2 H2 => tt σ2 H2 fun b H3 => if b = true then te σ2 H3 fun v H4 => Pv (i + 1) (vs ++ [v]) H4 else Pv (i + 1) vs H3)
    (hd : ∀ vs H, Pv xs.length vs H → ∀ p, H p = none → Q (.ref p) (upd H p (.lst vs))) (hz : xs.length < sizeLine) :
    ∃ W : Nat → Nat → List V → Hp → Prop, (∃ m, W 0 m [] H) ∧ ∀ i m vs H, W i m vs H →
      ((Itl K a).stop i H ∧ ∀ p, H p = none → Q (.ref p) (upd H p (.lst vs))) ∨ ((Itl K a).go i H ∧ vs.length < sizeLine ∧ ∃ N : List V → Hp → Prop, (∀ vs' H', N vs' H' → ∃ m', m' < m ∧ W (i + 1) m' vs' H') ∧
        ∀ x H', (Itl K a).yld i H x H' → g x (List.replicate NB.length none) H' fun σ2 H2 => tt σ2 H2 fun b H3 => if b = true then te σ2 H3 fun v H4 => N (vs ++ [v]) H4 else N vs H3) := by
  refine ⟨fun i m vs H => m = xs.length - i ∧ i ≤ xs.length ∧ Pv i vs H, ⟨xs.length, by simp, Nat.zero_le _, h0⟩, ?_⟩
  rintro i m vs H ⟨rfl, hi, p⟩
  obtain ⟨q, hv⟩ := hl i vs H hi p
  by_cases hlt : i < xs.length
  · refine .inr ⟨⟨xs, xs[i], q, by simp [hlt]⟩, by omega, Pv (i + 1), fun vs' H' p' => ⟨xs.length - (i + 1), by omega, rfl, hlt, p'⟩, fun x H' y => ?_⟩
    obtain ⟨e, y⟩ := y
    subst e
    exact hs i x vs _ (y xs q) p
  · have e : i = xs.length := by omega
    subst e
    exact .inl ⟨⟨xs, q, Nat.le_refl _⟩, hd vs H p⟩
end
end Lw

set_option Elab.async false
set_option linter.all false
set_option maxRecDepth 100000
namespace Lw
open PySem PySem.Spec PyProof.Rows L2 K02 K04
section
variable {P : Program} {w : World} {K : PySem.W.Frag} {mg : Str → Option Value} {base : Heap} {f : Addr} {fd : FuncData} {tk : Nat → Tok} {c kr : Nat → Addr}
theorem Rws.at' {H : Hp} {rs : List Addr} {rows : List Rw} (h : Rws H rs rows) : ∀ {i : Nat} {r : Addr}, rs[i]? = some r → ∃ x, rows[i]? = some x ∧ H r = some (rowO x) := by
  induction h with
  | nil => intro i r e; cases e
  | cons a _ ih =>
    intro i r e
    cases i with
    | zero => exact ⟨_, rfl, by have : _ = r := Option.some.inj e; rw [← this]; exact a⟩
    | succ i => exact ih (i := i) (r := r) e
theorem pg_tupK {X : Cx} {K0 : PySem.W.Frag} {es : List Expr} {k : Nat} {t : TGs} {n : Nat} {pos : Pos} (hK : X.K = K0) (hc : X.calm = true) (h : PGs X es t)
    (hn : (assignEach es X.env).length = n := by rfl) (hst : (assignEach es X.env).findIdx? (·.1) = none := by rfl) : PG X (.Tuple es k pos) (gTup K0 n t) := by
  subst hK
  exact pg_tup hc h hn hst
/-- of each row one thing -/
theorem comp_rows {p : Addr} {rs : List Addr} {rows : List Rw} {te : TE} {NB : List Str} {n : Nat} {H : Hp} {Q : VK} (val : Rw → V) (hNB : NB.length = 3) (hn : n = 2) (R : RowsAt K H p rs rows)
    (hte : ∀ (x : Rw) (Q : VK), Q (val x) H → te [none, some (.str (tx [x.1])), some (.int (x.2 : Nat))] H Q) (hd : ∀ q, H q = none → Q (.ref q) (upd H q (.lst (rows.map val)))) :
    ∃ W : Nat → Nat → List V → Hp → Prop, (∃ m, W 0 m [] H) ∧ ∀ i m vs H, W i m vs H →
      ((Itl K p).stop i H ∧ ∀ p, H p = none → Q (.ref p) (upd H p (.lst vs))) ∨ ((Itl K p).go i H ∧ vs.length < sizeLine ∧ ∃ N : List V → Hp → Prop, (∀ vs' H', N vs' H' → ∃ m', m' < m ∧ W (i + 1) m' vs' H') ∧
        ∀ x H', (Itl K p).yld i H x H' → gTup K n (gCons (gName 1) (gCons (gName 2) gNil)) x (List.replicate NB.length none) H' fun σ2 H2 => tAll σ2 H2 fun b H3 => if b = true then te σ2 H3 fun v H4 => N (vs ++ [v]) H4 else N vs H3) := by
  have hz : 1000 ≤ sizeLine := by decide
  have hl := R.le
  have hlen := R.len
  refine comp_list (xs := rs.map V.ref) (fun i vs H2 => H2 = H ∧ vs = (rows.take i).map val) ⟨rfl, rfl⟩ ?_ ?_ ?_ (by omega)
  · rintro i vs H2 hi ⟨rfl, rfl⟩
    exact ⟨R.sq, by rw [List.length_map, List.length_take]; omega⟩
  · rintro i x vs H2 hx ⟨rfl, rfl⟩
    rw [List.getElem?_map] at hx
    obtain ⟨r, hr, rfl⟩ := Option.map_eq_some_iff.mp hx
    obtain ⟨y, hy, g⟩ := R.rw.at' hr
    subst hn
    rw [hNB]
    refine ⟨r, _, rfl, SqT.of g, rfl, _, _, rfl, _, _, rfl, rfl, ?_⟩
    dsimp only [tAll]
    rw [if_pos rfl]
    refine hte y _ ⟨rfl, ?_⟩
    have hi := (List.getElem?_eq_some_iff.mp hy).1
    rw [List.take_add_one, hy, List.map_append]
    rfl
  · rintro vs H2 ⟨rfl, rfl⟩ q hq
    rw [List.take_of_length_le (by omega)]
    exact hd q hq
theorem cut_from {α : Type} (rs : List Addr) (a : Nat) : cutV (rs.map V.ref) (some (a : Int)) none = (rs.drop a).map V.ref := by
  unfold cutV
  rw [HT.sIx_nat, HT.sIx_none]
  rcases Nat.le_total a (rs.map V.ref).length with h | h
  · rw [Nat.min_eq_left h, List.take_of_length_le (by rw [List.length_drop]; exact Nat.le_refl _), List.map_drop]
  · rw [Nat.min_eq_right h, List.drop_eq_nil_of_le (Nat.le_refl _), List.take_nil, List.drop_eq_nil_of_le (by rw [List.length_map] at h; exact h)]
    rfl
theorem comp_rowsT {rows : List Rw} {tl te : TE} {NB : List Str} {n : Nat} {σ : L2.St} {H : Hp} {Q : VK} (val : Rw → V) (hNB : NB.length = 3) (hn : n = 2)
    (h : ∀ R : VK, (∀ p rs H1, Same H H1 → RowsAt K H1 p rs rows → R (.ref p) H1) → tl σ H R)
    (hte : ∀ (x : Rw) (H : Hp) (Q : VK), Q (val x) H → te [none, some (.str (tx [x.1])), some (.int (x.2 : Nat))] H Q) (hd : ∀ q H1, Same H H1 → H1 q = none → Q (.ref q) (upd H1 q (.lst (rows.map val)))) :
    tComp NB (iList K tl) (gTup K n (gCons (gName 1) (gCons (gName 2) gNil))) tAll te σ H Q :=
  h _ fun p rs H1 S1 R1 => ⟨p, rfl, ⟨_, R1.sq⟩, comp_rows val hNB hn R1 (fun x Q q => hte x H1 Q q) fun q hq => hd q H1 S1 hq⟩
theorem slice_rows {p : Addr} {rs : List Addr} {rows : List Rw} {σ : L2.St} {H : Hp} {i j a : Nat} (RA : RowsAt K H p rs rows) (h1 : σ[i]? = some (some (.ref p))) (h2 : σ[j]? = some (some (.int (a : Nat)))) :
    ∀ R : VK, (∀ p2 rs2 H1, Same H H1 → RowsAt K H1 p2 rs2 (rows.drop a) → R (.ref p2) H1) → tSl (rSlL K) (tVar i) (tPart (tVar j)) tNoPart σ H R := fun R r =>
  ⟨_, h1, _, h2, _, rfl, p, _, rfl, RA.sq, fun p2 hp2 => by
    rw [cut_from (α := Unit)]
    have S2 := Same.new (o := .lst ((rs.drop a).map V.ref)) hp2
    exact r p2 (rs.drop a) _ S2 ⟨SqL.of upd_same, (RA.rw.dr a).keep fun b xs h => S2 _ _ h, by rw [List.length_drop]; have := RA.le; omega⟩⟩
theorem var_rows {p : Addr} {rs : List Addr} {rows : List Rw} {σ : L2.St} {H : Hp} {i : Nat} (RA : RowsAt K H p rs rows) (h1 : σ[i]? = some (some (.ref p))) :
    ∀ R : VK, (∀ p2 rs2 H1, Same H H1 → RowsAt K H1 p2 rs2 rows → R (.ref p2) H1) → tVar i σ H R := fun R r => ⟨_, h1, r p rs H (Same.refl H) RA⟩
theorem eqV_tx (a b : List Nat) : eqV (.str (tx a)) (.str (tx b)) = decide (a = b) := by
  show (tx a == tx b) = _
  by_cases h : a = b
  · subst h; simp
  · rw [decide_eq_false h]
    exact beq_eq_false_iff_ne.mpr fun z => h (tx_inj z)
theorem in_list (ls : List (List Nat)) (s : List Nat) : inV (.str (tx s)) (ls.map fun l => V.str (tx l)) = ls.contains s := by
  unfold inV
  induction ls with
  | nil => rfl
  | cons a r ih =>
    rw [List.map_cons, List.any_cons, ih, eqV_tx, List.contains_cons]
    congr 1
    by_cases h : a = s
    · subst h; simp
    · rw [decide_eq_false h]
      exact (beq_eq_false_iff_ne.mpr fun z => h z.symm).symm
theorem e_forms : ([.str "9", .str "S9", .str "V9", .str "SV9", .str "9V9", .str "S9V9"] : List V) = forms.map fun l => V.str (tx l) := by decide +kernel
theorem e_shown : ([.str "+", .str "-", .str "CR", .str "DB"] : List V) = shownL.map fun l => V.str (tx l) := by decide +kernel
theorem flat_txs (ls : List (List Nat)) : (ls.map fun l => V.str (tx l)).all flatV = true := by
  induction ls with
  | nil => rfl
  | cons a r ih => rw [List.map_cons, List.all_cons, ih]; rfl
def tV : Option (List Nat) → V
  | none => .non
  | some l => .str (tx l)
def spTail (K : PySem.W.Frag) : Sp := fun vs H Q _ => ∃ (p : Addr) (rs : List Addr) (rows : List Rw) (a : Nat), vs = [.ref p, .int (a : Nat)] ∧ RowsAt K H p rs rows ∧ a ≤ rows.length ∧ ∀ H', Same H H' → Q (tV (tailOf (rows.drop a))) H'
theorem map_sym (rows : List Rw) : (rows.map fun x => V.str (tx [x.1])) = ((rows.map (·.1)).map fun c => tx [c]).map V.str := by rw [List.map_map, List.map_map]; rfl
theorem map_num (rows : List Rw) : (rows.map fun x => V.int (x.2 : Nat)) = (rows.map fun x => ((x.2 : Nat) : Int)).map V.int := by rw [List.map_map]; rfl
set_option maxHeartbeats 2000000 in
theorem ok_tail_of (F : Fun K "tail_of" "tail_of" s_tail_of f fd) (O : Own mg) (T : Txt K mg tk c kr) : FnOk P w K mg base (CXE P w) 1 f fd ["rows", "at"] (spTail K) := by
  refine okN F sc_tail_of (fun vs H Q E h => ?_) (fun cdv A outer s H vs Q E hr h => ?_)
  · obtain ⟨p, rs, rows, a, rfl, _⟩ := h
    rfl
  · obtain ⟨p, rs, rows, a, rfl, R, ha, k⟩ := h
    have hz : 1000 ≤ sizeLine := by decide
    have hle := R.le
    refine ⟨_, (pss_cons (ps_if (pt_cmpR op_eq (pv 1) (pe_callB call_len_seq rfl O.len PySem.boot_len (pa_cons (pv 0) pa_nil)) (nomark _)) (pss_one (ps_ret pe_str)) pss_nil)
      (pss_cons (ps_set (i := 2) sc_tail_of.nd rfl (Or.inl rfl) (pe_bm PySem.F.plainAttrs_str PySem.F.slot_str_join PySem.F.type_str_join mt_join pe_str (pa_cons (pe_lcomp (NB := [".0", "symbol", "many"]) rfl ⟨rfl, by decide +kernel, by decide +kernel, by decide +kernel⟩ (pi_list (pe_slice sl_list (pv 0) (po_some (pv 1)) po_none)) (fun _ _ _ => (pg_tupK (K0 := K) (n := 2) rfl rfl (pgs_cons (pg_name (i := 1) (show ([".0", "symbol", "many"] : List Str).Nodup by decide +kernel) rfl (Or.inl rfl) (Or.inr rfl)) (pgs_cons (pg_name (i := 2) (show ([".0", "symbol", "many"] : List Str).Nodup by decide +kernel) rfl (Or.inl rfl) (Or.inr rfl)) pgs_nil)))) (fun _ _ _ => pts_nil) (fun _ _ _ => (pv 1))) pa_nil)))
      (pss_cons (ps_if (PW.pt (pw_or (pt_cmpR op_notIn_seq (pv 2) (pe_glob (v := V.ref (kr 1)) rfl T.m_SHOWN rfl) (by with_unfolding_all rfl)) (pw_or1 (pt_cmpR op_gt (pe_callB (call_maxL rfl) rfl O.max PyProof.Rows.boot_max (pa_cons (pe_lcomp (NB := [".0", "symbol", "many"]) rfl ⟨rfl, by decide +kernel, by decide +kernel, by decide +kernel⟩ (pi_list (pe_slice sl_list (pv 0) (po_some (pv 1)) po_none)) (fun _ _ _ => (pg_tupK (K0 := K) (n := 2) rfl rfl (pgs_cons (pg_name (i := 1) (show ([".0", "symbol", "many"] : List Str).Nodup by decide +kernel) rfl (Or.inl rfl) (Or.inr rfl)) (pgs_cons (pg_name (i := 2) (show ([".0", "symbol", "many"] : List Str).Nodup by decide +kernel) rfl (Or.inl rfl) (Or.inr rfl)) pgs_nil)))) (fun _ _ _ => pts_nil) (fun _ _ _ => (pv 2))) pa_nil)) pe_int (nomark _))))) (pss_one (ps_ret pe_non)) pss_nil)
      (pss_one (ps_ret (pv 2)))))), ?_⟩
    refine ⟨_, rfl, len_rows rfl R ⟨rfl, _, rfl, ?_⟩⟩
    rw [eq_int']
    by_cases h1 : a = rows.length
    · rw [decide_eq_true (by omega)]
      have e : tailOf (rows.drop a) = some [] := by rw [h1, List.drop_length]; rfl
      rw [e] at k
      have := k H (Same.refl H)
      refine iteT ?_
      show Q (.str "") H
      rw [e_emp]
      exact this
    · rw [decide_eq_false (by omega)]
      have hne : rows.drop a ≠ [] := fun z => by
        have := congrArg List.length z
        rw [List.length_drop, List.length_nil] at this
        omega
      have et : tailOf (rows.drop a) = if (!shownL.contains ((rows.drop a).map (·.1)) || (rows.drop a).any (fun x => decide (x.2 > 1))) = true then none else some ((rows.drop a).map (·.1)) := by
        unfold tailOf
        rw [if_neg hne]
      rw [et] at k
      have hdl : (rows.drop a).length ≤ 600 := by rw [List.length_drop]; omega
      refine iteF ⟨rfl, comp_rowsT (fun x => .str (tx [x.1])) rfl rfl (slice_rows R rfl rfl) (fun x H Q q => ⟨_, rfl, q⟩) fun q H2 S2 hq => ?_⟩
      have RR := R.same S2
      have hsl : ∀ {H3 : Hp}, RowsAt K H3 p rs rows → ∀ {σ : L2.St} {i j : Nat}, σ[i]? = some (some (.ref p)) → σ[j]? = some (some (.int (a : Nat))) → ∀ R : VK, (∀ p2 rs2 H1, Same H3 H1 → RowsAt K H1 p2 rs2 (rows.drop a) → R (.ref p2) H1) → tSl (rSlL K) (tVar i) (tPart (tVar j)) tNoPart σ H3 R := fun {_} R3 {_ _ _} h1 h2 => slice_rows R3 h1 h2
      generalize hD : rows.drop a = D at k hne hdl hsl
      rw [map_sym]
      have S3 := S2.trans (Same.new (o := .lst (((D.map (·.1)).map fun c => tx [c]).map V.str)) hq)
      have R3 := RR.same (Same.new (o := .lst (((D.map (·.1)).map fun c => tx [c]).map V.str)) hq)
      refine ⟨"", q, _, rfl, rfl, SqL.of upd_same, join_ok (by rw [List.length_map]; omega), ?_⟩
      rw [join_syms]
      generalize upd H2 q (.lst (((D.map (·.1)).map fun c => tx [c]).map V.str)) = H3 at S3 R3
      refine ⟨_, rfl, kr 1, _, rfl, .inr (T.q_SHOWN _), rfl, by rw [e_shown]; exact flat_txs _, _, rfl, ?_⟩
      rw [e_shown, if_pos rfl, in_list]
      refine ifB (fun h2 => ?_) (fun h2 => ?_)
      · rw [h2, Bool.true_or] at k
        exact k _ S3
      · rw [h2, Bool.false_or] at k
        dsimp only [tTest, tOp, tCB, tCons]
        refine comp_rowsT (fun x => .int (x.2 : Nat)) rfl rfl (hsl R3 rfl rfl) (fun x H Q q => ⟨_, rfl, q⟩) fun q5 H4 S4 hq5 => ?_
        rw [map_num]
        have S5 := (S3.trans S4).trans (Same.new (o := .lst ((D.map fun x => ((x.2 : Nat) : Int)).map V.int)) hq5)
        refine ⟨q5, _, rfl, SqL.of upd_same, by simpa using hne, fun m hm hmx => ?_⟩
        generalize upd H4 q5 (.lst ((D.map fun x => ((x.2 : Nat) : Int)).map V.int)) = H5 at S5
        refine ⟨_, _, rfl, rfl, _, rfl, ?_⟩
        have hany : decide ((1 : Int) < m) = D.any (fun x => decide (x.2 > 1)) := by
          obtain ⟨y, hy, rfl⟩ := List.mem_map.mp hm
          by_cases h3 : y.2 > 1
          · rw [decide_eq_true (by omega), List.any_eq_true.mpr ⟨y, hy, decide_eq_true h3⟩]
          · rw [decide_eq_false (by omega)]
            refine (List.any_eq_false.mpr fun z hz2 => ?_).symm
            have := hmx _ (List.mem_map.mpr ⟨z, hz2, rfl⟩)
            rw [decide_eq_true_eq]
            omega
        rw [hany]
        refine ifB (fun h3 => ?_) (fun h3 => ?_)
        · rw [h3] at k
          exact k _ S5
        · rw [h3] at k
          exact ⟨_, rfl, k _ S5⟩
end
end Lw

set_option Elab.async false
set_option linter.all false
set_option maxRecDepth 100000
namespace Lw
open PySem PySem.Spec PyProof.Rows L2 K02 K04
section
variable {P : Program} {w : World} {K : PySem.W.Frag} {mg : Str → Option Value} {base : Heap} {f : Addr} {fd : FuncData} {tk : Nat → Tok} {c kr : Nat → Addr}
def kindS : Nat → Str
  | 0 => "text"
  | 1 => "letters"
  | 2 => "number"
  | _ => "edited"
def fO (x : Facts) : HO := .tup [.str (kindS x.kind), .bl x.signed, .int (x.before : Nat), .int (x.behind : Nat)]
def FV (o : Option Facts) (v : V) (H : Hp) : Prop := match o with
  | none => v = .non
  | some x => ∃ q, v = .ref q ∧ H q = some (fO x)
def spFacts (K : PySem.W.Frag) (fn : List Rw → Option Facts) : Sp := fun vs H Q _ => ∃ (p : Addr) (rs : List Addr) (rows : List Rw), vs = [.ref p] ∧ RowsAt K H p rs rows ∧ ∀ v H', Same H H' → FV (fn rows) v H' → Q v H'
theorem num_step {rows : List Rw} {i : Nat} {y n : Nat} {s p : Bool} {a b : Nat} (h : rows[i]? = some (y, n)) : numGo (rows.drop i) s p a b = if y = 57 then (if p then numGo (rows.drop (i + 1)) s p a n else numGo (rows.drop (i + 1)) s p n b) else if n > 1 then none else if y = 83 then numGo (rows.drop (i + 1)) true p a b else numGo (rows.drop (i + 1)) s true a b := by
  rw [drop_cons h]
  rfl
set_option maxHeartbeats 2000000 in
theorem ok_number_facts (F : Fun K "number_facts" "number_facts" s_number_facts f fd) (O : Own mg) (T : Txt K mg tk c kr) : FnOk P w K mg base (CXE P w) 1 f fd ["rows"] (spFacts K numberFacts) := by
  refine okN F sc_number_facts (fun vs H Q E h => ?_) (fun cdv A outer s H vs Q E hr h => ?_)
  · obtain ⟨p, rs, rows, rfl, _⟩ := h
    rfl
  · obtain ⟨p, rs, rows, rfl, R, k⟩ := h
    have hz : 1000 ≤ sizeLine := by decide
    have hle := R.le
    refine ⟨_, (pss_cons (ps_if (pt_cmpR op_notIn_seq (pe_bm PySem.F.plainAttrs_str PySem.F.slot_str_join PySem.F.type_str_join mt_join pe_str (pa_cons (pe_lcomp (NB := [".0", "symbol", "many"]) rfl ⟨rfl, by decide +kernel, by decide +kernel, by decide +kernel⟩ (pi_list (pv 0)) (fun _ _ _ => (pg_tupK (K0 := K) (n := 2) rfl rfl (pgs_cons (pg_name (i := 1) (show ([".0", "symbol", "many"] : List Str).Nodup by decide +kernel) rfl (Or.inl rfl) (Or.inr rfl)) (pgs_cons (pg_name (i := 2) (show ([".0", "symbol", "many"] : List Str).Nodup by decide +kernel) rfl (Or.inl rfl) (Or.inr rfl)) pgs_nil)))) (fun _ _ _ => pts_nil) (fun _ _ _ => (pv 1))) pa_nil)) (pe_glob (v := V.ref (kr 0)) rfl T.m_NUMBER_FORMS rfl) (by with_unfolding_all rfl)) (pss_one (ps_ret pe_non)) pss_nil)
      (pss_cons (ps_set (i := 3) sc_number_facts.nd rfl (Or.inl rfl) pe_bl)
      (pss_cons (ps_set (i := 4) sc_number_facts.nd rfl (Or.inl rfl) pe_bl)
      (pss_cons (ps_set (i := 5) sc_number_facts.nd rfl (Or.inl rfl) (pe_lst (pa_cons pe_int (pa_cons pe_int pa_nil))))
      (pss_cons (ps_for PassesOwn.never rfl (pi_list (pv 0)) (pg_tup rfl (pgs_cons (pg_name (i := 1) sc_number_facts.nd rfl (Or.inl rfl)) (pgs_cons (pg_name (i := 2) sc_number_facts.nd rfl (Or.inl rfl)) pgs_nil))) (pss_one (ps_if (pt_cmpR op_eq (pv 1) pe_str (nomark _)) (pss_one (ps_asg (pv 2) (pg_sub (pv 5) (pe_ifExp (pt_truth (pv 4) (fun _ => rfl)) pe_int pe_int) set_list))) (pss_one (ps_if (pt_cmpR op_gt (pv 2) pe_int (nomark _)) (pss_one (ps_ret pe_non)) (pss_one (ps_if (pt_cmpR op_eq (pv 1) pe_str (nomark _)) (pss_one (ps_set (i := 3) sc_number_facts.nd rfl (Or.inl rfl) pe_bl)) (pss_one (ps_set (i := 4) sc_number_facts.nd rfl (Or.inl rfl) pe_bl)))))))))
      (pss_cons (ps_if (pt_cmpR op_gt (pe_callB (call_sum rfl) rfl O.sum L2.boot_sum (pa_cons (pv 5) pa_nil)) (pe_glob (v := V.int 18) rfl T.m_MOST_FIGURES ⟨_, rfl⟩) (nomark _)) (pss_one (ps_ret pe_non)) pss_nil)
      (pss_one (ps_ret (pe_tup (pa_cons pe_str (pa_cons (pv 3) (pa_cons (pe_ix ix_list (pv 5) pe_int (fun _ _ => rfl)) (pa_cons (pe_ix ix_list (pv 5) pe_int (fun _ _ => rfl)) pa_nil))))))))))))), ?_⟩
    have e83 : ("S" : Str) = tx [83] := by decide +kernel
    refine ⟨rfl, comp_rowsT (fun x => .str (tx [x.1])) rfl rfl (var_rows R rfl) (fun x H Q q => ⟨_, rfl, q⟩) fun q H2 S2 hq => ?_⟩
    rw [map_sym]
    have S3 := S2.trans (Same.new (o := .lst (((rows.map (·.1)).map fun c => tx [c]).map V.str)) hq)
    refine ⟨"", q, _, rfl, rfl, SqL.of upd_same, join_ok (by rw [List.length_map]; omega), ?_⟩
    rw [join_syms]
    generalize upd H2 q (.lst (((rows.map (·.1)).map fun c => tx [c]).map V.str)) = H3 at S3
    have R3 := R.same S3
    refine ⟨kr 0, _, rfl, .inr (T.q_FORMS _), rfl, by rw [e_forms]; exact flat_txs _, _, rfl, ?_⟩
    rw [e_forms, if_pos rfl, in_list]
    refine ifB (fun h2 => ?_) (fun h2 => ?_)
    · have hn : numberFacts rows = none := by
        unfold numberFacts
        rw [if_neg (by rw [Bool.not_eq_true'] at h2; rw [h2]; decide)]
      exact k .non H3 S3 (by rw [hn]; rfl)
    have hf : forms.contains (rows.map (·.1)) = true := by
      cases e : forms.contains (rows.map (·.1)) with
      | true => rfl
      | false => rw [e] at h2; cases h2
    have en : numberFacts rows = (match numGo rows false false 0 0 with
        | some (s, a, b) => if a + b > 18 then none else some ⟨2, s, a, b⟩
        | none => none) := by
      unfold numberFacts
      rw [if_pos hf]
      all_goals rfl
    refine ⟨by show 2 ≤ sizeLine; omega, fun fl hfl => ?_⟩
    have S4 := Same.new (o := .lst [.int 0, .int 0]) hfl
    refine ⟨_, rfl, p, rfl, ⟨_, (R3.same S4).sq⟩, ?_⟩
    refine for_list (xs := rs.map V.ref) (fun i σ H5 => ∃ (x1 x2 : Option V) (sg pt : Bool) (a b : Nat), σ = [some (.ref p), x1, x2, some (.bl sg), some (.bl pt), some (.ref fl)] ∧ H5 fl = some (.lst [.int (a : Nat), .int (b : Nat)]) ∧ Same H3 H5 ∧ numGo rows false false 0 0 = numGo (rows.drop i) sg pt a b) ⟨none, none, false, false, 0, 0, rfl, upd_same, S4, rfl⟩ ?_ ?_ ?_
    · rintro i σ H5 hi ⟨x1, x2, sg, pt, a, b, rfl, g5, S5, hg⟩
      exact (R3.same S5).sq
    · rintro i x σ H5 hx ⟨x1, x2, sg, pt, a, b, rfl, g5, S5, hg⟩
      rw [List.getElem?_map] at hx
      obtain ⟨r, hr1, rfl⟩ := Option.map_eq_some_iff.mp hx
      obtain ⟨⟨y, n⟩, hy, g⟩ := (R3.same S5).rw.at' hr1
      rw [num_step hy] at hg
      refine ⟨r, _, rfl, SqT.of g, rfl, _, _, rfl, _, _, rfl, rfl, ?_⟩
      refine ⟨_, rfl, rfl, _, rfl, ?_⟩
      rw [e_nin, sym_dec]
      have keep : ∀ (o : HO), Same H3 (upd H5 fl o) := fun o b u h => by rw [upd_ne (ne_of_none h hfl)]; exact S5 _ _ h
      by_cases h1 : y = 57
      · rw [decide_eq_true h1]
        rw [if_pos h1] at hg
        refine iteT ⟨_, rfl, _, rfl, _, rfl, pt, rfl, ?_⟩
        refine ifB (fun h3 => ?_) (fun h3 => ?_)
        · rw [if_pos h3] at hg
          refine ⟨fl, _, 1, 1, rfl, rfl, g5, rfl, some (.str (tx [y])), some (.int (n : Nat)), sg, pt, a, n, rfl, ?_, keep _, hg⟩
          rw [upd_same]
          rfl
        · rw [if_neg (by rw [h3]; decide)] at hg
          refine ⟨fl, _, 0, 0, rfl, rfl, g5, rfl, some (.str (tx [y])), some (.int (n : Nat)), sg, pt, n, b, rfl, ?_, keep _, hg⟩
          rw [upd_same]
          rfl
      · rw [decide_eq_false h1]
        rw [if_neg h1] at hg
        refine iteF ⟨_, rfl, _, _, rfl, rfl, _, rfl, ?_⟩
        by_cases h3 : n > 1
        · rw [decide_eq_true (by omega)]
          rw [if_pos h3] at hg
          refine iteT (k .non H5 (S3.trans S5) ?_)
          rw [en, hg]
          rfl
        · rw [decide_eq_false (by omega)]
          rw [if_neg h3] at hg
          refine iteF ⟨_, rfl, rfl, _, rfl, ?_⟩
          rw [e83, sym_dec]
          by_cases h4 : y = 83
          · rw [decide_eq_true h4]
            rw [if_pos h4] at hg
            exact iteT ⟨some (.str (tx [y])), some (.int (n : Nat)), true, pt, a, b, rfl, g5, S5, hg⟩
          · rw [decide_eq_false h4]
            rw [if_neg h4] at hg
            exact iteF ⟨some (.str (tx [y])), some (.int (n : Nat)), sg, true, a, b, rfl, g5, S5, hg⟩
    · rintro σ H5 ⟨x1, x2, sg, pt, a, b, rfl, g5, S5, hg⟩
      rw [R.len, List.drop_length] at hg
      rw [hg] at en
      refine ⟨_, rfl, fl, [(a : Int), (b : Int)], rfl, SqL.of g5, _, _, rfl, rfl, _, rfl, ?_⟩
      have es : ([(a : Int), (b : Int)] : List Int).sum = ((a + b : Nat) : Int) := by simp
      rw [es]
      by_cases h1 : a + b > 18
      · rw [decide_eq_true (by omega)]
        refine iteT (k .non H5 (S3.trans S5) ?_)
        rw [en]
        show FV (if a + b > 18 then none else _) _ _
        rw [if_pos h1]
        rfl
      · rw [decide_eq_false (by omega)]
        refine iteF ⟨_, rfl, _, rfl, fl, _, _, _, rfl, rfl, SqL.of g5, rfl, _, rfl, fl, _, _, _, rfl, rfl, SqL.of g5, rfl, by show 4 ≤ sizeLine; omega, fun q6 hq6 => ?_⟩
        refine k _ _ ((S3.trans S5).trans (Same.new hq6)) ?_
        rw [en]
        show FV (if a + b > 18 then none else _) _ _
        rw [if_neg h1]
        exact ⟨q6, rfl, upd_same⟩
theorem val_kinds (y : Nat) : valV kinds2 (Sum.inr (tx [y]) : Key) = if y = 88 then some (.str "text") else if y = 65 then some (.str "letters") else none := by
  have eX : ("X" : Str) = tx [88] := by decide +kernel
  have eA : ("A" : Str) = tx [65] := by decide +kernel
  unfold valV kinds2
  rw [eX, eA]
  by_cases h1 : y = 88
  · subst h1
    rw [if_pos rfl]
    simp
  · rw [if_neg h1]
    have n1 : ¬ ((Sum.inr (tx [88]) : Key) = Sum.inr (tx [y])) := fun z => h1 (List.cons.inj (tx_inj (Sum.inr.inj z))).1.symm
    by_cases h2 : y = 65
    · subst h2
      rw [if_pos rfl]
      simp
    · rw [if_neg h2]
      have n2 : ¬ ((Sum.inr (tx [65]) : Key) = Sum.inr (tx [y])) := fun z => h2 (List.cons.inj (tx_inj (Sum.inr.inj z))).1.symm
      simp [n1, n2]
set_option maxHeartbeats 2000000 in
theorem ok_plain_facts (F : Fun K "plain_facts" "plain_facts" s_plain_facts f fd) (O : Own mg) (T : Txt K mg tk c kr) (KD : KDict P w K (kr 2) kinds2) : FnOk P w K mg base (CXE P w) 1 f fd ["rows"] (spFacts K plainFacts) := by
  refine okN F sc_plain_facts (fun vs H Q E h => ?_) (fun cdv A outer s H vs Q E hr h => ?_)
  · obtain ⟨p, rs, rows, rfl, _⟩ := h
    rfl
  · obtain ⟨p, rs, rows, rfl, R, k⟩ := h
    have hz : 1000 ≤ sizeLine := by decide
    refine ⟨_, (pss_cons (ps_if (pt_cmpR op_ne (pe_callB call_len_seq rfl O.len PySem.boot_len (pa_cons (pv 0) pa_nil)) pe_int (nomark _)) (pss_one (ps_ret pe_non)) pss_nil)
      (pss_cons (ps_asg (pe_ix ix_list (pv 0) pe_int (fun _ _ => rfl)) (pg_tup rfl (pgs_cons (pg_name (i := 1) sc_plain_facts.nd rfl (Or.inl rfl)) (pgs_cons (pg_name (i := 2) sc_plain_facts.nd rfl (Or.inl rfl)) pgs_nil))))
      (pss_cons (ps_if (PW.pt (pw_or (pt_cmp (pc_kdnotin KD (pv 1) (pe_glob (v := V.ref (kr 2)) rfl T.m_PLAIN_KINDS rfl)) (by with_unfolding_all rfl)) (pw_or1 (pt_cmpR op_gt (pv 2) (pe_glob (v := V.int 60) rfl T.m_MOST_SIGNS ⟨_, rfl⟩) (nomark _))))) (pss_one (ps_ret pe_non)) pss_nil)
      (pss_one (ps_ret (pe_tup (pa_cons (pe_kdget KD (pe_glob (v := V.ref (kr 2)) rfl T.m_PLAIN_KINDS rfl) (pv 1) (fun _ _ => rfl)) (pa_cons pe_bl (pa_cons pe_int (pa_cons pe_int pa_nil)))))))))), ?_⟩
    refine ⟨_, rfl, p, _, rfl, .inl R.sq, ?_⟩
    rw [R.len]
    refine ⟨rfl, _, rfl, ?_⟩
    rw [ne_int']
    match rows, R, k with
    | [], R, k => exact iteT (k .non H (Same.refl H) rfl)
    | _ :: _ :: _, R, k =>
      rw [decide_eq_true (by simp; omega)]
      exact iteT (k .non H (Same.refl H) rfl)
    | [(y, n)], R, k =>
      refine iteF (row_at (k := 0) rfl (fun Q q => q) R rfl fun r hr1 => ⟨r, _, rfl, SqT.of hr1, rfl, _, _, rfl, _, _, rfl, rfl, ?_⟩)
      refine ⟨_, rfl, Sum.inr (tx [y]), rfl, rfl, _, rfl, ?_⟩
      have ep : plainFacts [(y, n)] = if (y ≠ 88 ∧ y ≠ 65) ∨ n > 60 then none else some ⟨if y = 88 then 0 else 1, false, 0, 0⟩ := rfl
      rw [val_kinds]
      by_cases h1 : y = 88 ∨ y = 65
      · have h2 : (if y = 88 then some (V.str "text") else if y = 65 then some (.str "letters") else none) = some (.str (kindS (if y = 88 then 0 else 1))) := by
          rcases h1 with rfl | rfl
          · rfl
          · rfl
        rw [h2]
        refine iteF ⟨_, rfl, _, _, rfl, rfl, _, rfl, ?_⟩
        by_cases h3 : n > 60
        · rw [decide_eq_true (by omega)]
          refine iteT (k .non H (Same.refl H) ?_)
          rw [ep, if_pos (.inr h3)]
          rfl
        · rw [decide_eq_false (by omega)]
          refine iteF ⟨_, rfl, Sum.inr (tx [y]), .str (kindS (if y = 88 then 0 else 1)), rfl, rfl, by rw [val_kinds, h2], by show 4 ≤ sizeLine; omega, fun q hq => ?_⟩
          refine k _ _ (Same.new hq) ?_
          rw [ep, if_neg (by omega)]
          exact ⟨q, rfl, upd_same⟩
      · rw [if_neg (by omega), if_neg (by omega)]
        refine iteT (iteT (k .non H (Same.refl H) ?_))
        rw [ep, if_pos (.inl (by omega))]
        rfl
end
end Lw

set_option Elab.async false
set_option linter.all false
set_option maxRecDepth 100000
namespace Lw
open PySem PySem.Spec PyProof.Rows L2 K02 K04
theorem comp_tup {K : PySem.W.Frag} {a : Addr} {xs : List V} {NB : List Str} {g : TG} {tt : TT} {te : TE} {Q : VK} {H : Hp} (Pv : Nat → List V → Hp → Prop) (h0 : Pv 0 [] H) (hl : ∀ i vs H, i ≤ xs.length → Pv i vs H → SqT K H a xs ∧ vs.length ≤ i)
    (hs : ∀ i x vs H, xs[i]? = some x → Pv i vs H → g x (List.replicate NB.length none) H fun σ2 H2 => tt σ2 H2 fun b H3 => if b = true then te σ2 H3 fun v H4 => Pv (i + 1) (vs ++ [v]) H4 else Pv (i + 1) vs H3)
    (hd : ∀ vs H, Pv xs.length vs H → ∀ p, H p = none → Q (.ref p) (upd H p (.lst vs))) (hz : xs.length < sizeLine) :
    ∃ W : Nat → Nat → List V → Hp → Prop, (∃ m, W 0 m [] H) ∧ ∀ i m vs H, W i m vs H →
      ((Itt K a).stop i H ∧ ∀ p, H p = none → Q (.ref p) (upd H p (.lst vs))) ∨ ((Itt K a).go i H ∧ vs.length < sizeLine ∧ ∃ N : List V → Hp → Prop, (∀ vs' H', N vs' H' → ∃ m', m' < m ∧ W (i + 1) m' vs' H') ∧
        ∀ x H', (Itt K a).yld i H x H' → g x (List.replicate NB.length none) H' fun σ2 H2 => tt σ2 H2 fun b H3 => if b = true then te σ2 H3 fun v H4 => N (vs ++ [v]) H4 else N vs H3) := by
  refine ⟨fun i m vs H => m = xs.length - i ∧ i ≤ xs.length ∧ Pv i vs H, ⟨xs.length, by simp, Nat.zero_le _, h0⟩, ?_⟩
  rintro i m vs H ⟨rfl, hi, p⟩
  obtain ⟨q, hv⟩ := hl i vs H hi p
  by_cases hlt : i < xs.length
  · refine .inr ⟨⟨xs, xs[i], q, by simp [hlt]⟩, by omega, Pv (i + 1), fun vs' H' p' => ⟨xs.length - (i + 1), by omega, rfl, hlt, p'⟩, fun x H' y => ?_⟩
    obtain ⟨e, y⟩ := y
    subst e
    exact hs i x vs _ (y xs q) p
  · have e : i = xs.length := by omega
    subst e
    exact .inl ⟨⟨xs, q, Nat.le_refl _⟩, hd vs H p⟩
section
variable {P : Program} {w : World} {K : PySem.W.Frag} {mg : Str → Option Value} {base : Heap} {f : Addr} {fd : FuncData} {tk : Nat → Tok} {c kr : Nat → Addr}
def editedEnd (ld pl : List Nat) (many nines : Nat) (o : Option Nat) (tl : Option (List Nat)) : Option Facts :=
  match pl, o, tl with
  | [place], some behind, some tail =>
    let fl : Bool := [43, 45, 36].contains place
    if fl && decide (many < 2) then none
    else
      let shown := [ld.take 1, [place], tail].filter (shownL.contains ·)
      if shown.length > 1 then none
      else
        let before := many + nines - (if fl then 1 else 0)
        if before + behind > 18 then none else some ⟨3, shown.length == 1, before, behind⟩
  | _, _, _ => none
theorem edited_eq {rows : List Rw} {ld pl : List Nat} {b many nines b2 b3 : Nat} {o : Option Nat} (h1 : leadOf rows = (ld, rows.drop b)) (h2 : wholePart (rows.drop b) = (pl, many, nines, rows.drop b2)) (h3 : brokenPart (rows.drop b2) (if nines = 0 then pl else [57]) = (o, rows.drop b3)) :
    editedFacts rows = editedEnd ld pl many nines o (tailOf (rows.drop b3)) := by
  unfold editedFacts
  simp only [h1, h2, h3]
  rfl
theorem whole_one (r : List Rw) : (wholePart r).1 = [] ∨ ∃ y, (wholePart r).1 = [y] := by
  unfold wholePart
  split
  · split
    · exact .inr ⟨_, rfl⟩
    · exact .inl rfl
  · exact .inl rfl
/-- the parts that show a sign -/
theorem comp_shown {a : Addr} {ls : List (List Nat)} {H : Hp} {Q : VK} (T : Txt K mg tk c kr) (hq : H a = some (.tup (ls.map fun l => V.str (tx l)))) (hl : ls.length ≤ 3)
    (hd : ∀ q, H q = none → Q (.ref q) (upd H q (.lst ((ls.filter (shownL.contains ·)).map fun l => V.str (tx l))))) :
    ∃ W : Nat → Nat → List V → Hp → Prop, (∃ m, W 0 m [] H) ∧ ∀ i m vs H, W i m vs H →
      ((Itt K a).stop i H ∧ ∀ p, H p = none → Q (.ref p) (upd H p (.lst vs))) ∨ ((Itt K a).go i H ∧ vs.length < sizeLine ∧ ∃ N : List V → Hp → Prop, (∀ vs' H', N vs' H' → ∃ m', m' < m ∧ W (i + 1) m' vs' H') ∧
        ∀ x H', (Itt K a).yld i H x H' → gName 1 x (List.replicate 2 none) H' fun σ2 H2 => tTest (tOp (rIn K false) (tVar 1) (tC (.ref (kr 1)))) σ2 H2 fun b H3 => if b = true then tVar 1 σ2 H3 fun v H4 => N (vs ++ [v]) H4 else N vs H3) := by
  have hz : 1000 ≤ sizeLine := by decide
  refine comp_tup (NB := ["a", "b"]) (xs := ls.map fun l => V.str (tx l)) (fun i vs H2 => H2 = H ∧ vs = ((ls.take i).filter (shownL.contains ·)).map fun l => V.str (tx l)) ⟨rfl, rfl⟩ ?_ ?_ ?_ (by rw [List.length_map]; omega)
  · rintro i vs H2 hi ⟨rfl, rfl⟩
    refine ⟨SqT.of hq, ?_⟩
    rw [List.length_map]
    exact Nat.le_trans (List.length_filter_le _ _) (by rw [List.length_take]; omega)
  · rintro i x vs H2 hx ⟨rfl, rfl⟩
    rw [List.getElem?_map] at hx
    obtain ⟨l, hl1, rfl⟩ := Option.map_eq_some_iff.mp hx
    refine ⟨_, rfl, kr 1, _, rfl, .inr (T.q_SHOWN _), rfl, by rw [e_shown]; exact flat_txs _, _, rfl, ?_⟩
    rw [e_shown, if_neg (by decide), in_list]
    have ef : ((ls.take (i + 1)).filter (shownL.contains ·)) = ((ls.take i).filter (shownL.contains ·)) ++ (if shownL.contains l then [l] else []) := by
      rw [List.take_add_one, hl1, List.filter_append]
      by_cases hm : l ∈ shownL <;> simp [hm]
    refine ifB (fun h => ?_) (fun h => ?_)
    · refine ⟨_, rfl, rfl, ?_⟩
      rw [ef, h, List.map_append]
      rfl
    · refine ⟨rfl, ?_⟩
      rw [ef, h]
      simp
  · rintro vs H2 ⟨rfl, rfl⟩ q hq2
    rw [List.length_map, List.take_length]
    exact hd q hq2
theorem comp_shownT {ls : List (List Nat)} {tl : TE} {NB : List Str} {σ : L2.St} {H : Hp} {Q : VK} (T : Txt K mg tk c kr) (hNB : NB.length = 2) (hl : ls.length ≤ 3)
    (h : ∀ R : VK, (∀ p H1, Same H H1 → H1 p = some (.tup (ls.map fun l => V.str (tx l))) → R (.ref p) H1) → tl σ H R)
    (hd : ∀ q H1, Same H H1 → H1 q = none → Q (.ref q) (upd H1 q (.lst ((ls.filter (shownL.contains ·)).map fun l => V.str (tx l))))) :
    tComp NB (iTup K tl) (gName 1) (tTest (tOp (rIn K false) (tVar 1) (tC (.ref (kr 1))))) (tVar 1) σ H Q := by
  refine h _ fun p H1 S1 g1 => ⟨p, rfl, ⟨_, SqT.of g1⟩, ?_⟩
  rw [hNB]
  exact comp_shown T g1 hl fun q hq => hd q H1 S1 hq
theorem slice_one (l : List Nat) : StrLaws.sliceText (tx l) none (some 1) = tx (l.take 1) := by
  cases l with
  | nil => decide +kernel
  | cons a r => exact slice_take (a :: r) (k := 1) (by simp)
def spBody (K : PySem.W.Frag) : Sp := fun vs H Q _ => ∃ (p : Addr) (rs : List Addr) (rows : List Rw) (a : Nat), vs = [.ref p, .int (a : Nat)] ∧ RowsAt K H p rs rows ∧ a ≤ rows.length ∧
  ∀ (pl : List Nat) (many nines b2 b3 : Nat) (o : Option Nat), b3 ≤ rows.length → wholePart (rows.drop a) = (pl, many, nines, rows.drop b2) → brokenPart (rows.drop b2) (if nines = 0 then pl else [57]) = (o, rows.drop b3) → ∀ q H', Same H H' → H' q = some (.tup [.str (tx pl), .int (many : Nat), .int (nines : Nat), oV o, .int (b3 : Nat)]) → Q (.ref q) H'
theorem ok_body_of (F : Fun K "body_of" "body_of" s_body_of f fd) (D_whole_part : Def P w K mg base 2 "whole_part" ["rows", "at"] (spWhole K)) (D_broken_part : Def P w K mg base 1 "broken_part" ["rows", "at", "place"] (spBroken K)) :
    FnOk P w K mg base (CXE P w) 3 f fd ["rows", "at"] (spBody K) := by
  refine okN F sc_body_of (fun vs H Q E h => ?_) (fun cdv A outer s H vs Q E hr h => ?_)
  · obtain ⟨p, rs, rows, a, rfl, _⟩ := h
    rfl
  · obtain ⟨p, rs, rows, b, rfl, R, hb, k⟩ := h
    have hz : 1000 ≤ sizeLine := by decide
    refine ⟨_, (pss_cons (ps_asg (D_whole_part.pe hr (by decide) rfl passE0 (pa_cons (pv 0) (pa_cons (pv 1) pa_nil))) (pg_tup rfl (pgs_cons (pg_name (i := 2) sc_body_of.nd rfl (Or.inl rfl)) (pgs_cons (pg_name (i := 3) sc_body_of.nd rfl (Or.inl rfl)) (pgs_cons (pg_name (i := 4) sc_body_of.nd rfl (Or.inl rfl)) (pgs_cons (pg_name (i := 1) sc_body_of.nd rfl (Or.inl rfl)) pgs_nil))))))
      (pss_cons (ps_asg (D_broken_part.pe hr (by decide) rfl passE0 (pa_cons (pv 0) (pa_cons (pv 1) (pa_cons (pe_ifExp (pt_cmpR op_eq (pv 4) pe_int (nomark _)) (pv 2) pe_str) pa_nil)))) (pg_tup rfl (pgs_cons (pg_name (i := 5) sc_body_of.nd rfl (Or.inl rfl)) (pgs_cons (pg_name (i := 1) sc_body_of.nd rfl (Or.inl rfl)) pgs_nil))))
      (pss_one (ps_ret (pe_tup (pa_cons (pv 2) (pa_cons (pv 3) (pa_cons (pv 4) (pa_cons (pv 5) (pa_cons (pv 1) pa_nil)))))))))), ?_⟩
    refine ⟨_, rfl, _, rfl, p, rs, rows, b, rfl, R, hb, fun pl many nines b2 hb2 h2 q2 H2 S2 g2 => ⟨q2, _, rfl, SqT.of g2, rfl, _, _, rfl, _, _, rfl, _, _, rfl, _, _, rfl, rfl, ?_⟩⟩
    refine ⟨_, rfl, _, rfl, _, rfl, rfl, _, rfl, ?_⟩
    refine ifJoinE (fun x H' => x = .str (tx (if nines = 0 then pl else [57])) ∧ H' = H2) (fun z rest => ?_) (fun z rest => ?_) ?_
    · rw [eq_int'] at z
      have hn : nines = 0 := by have := of_decide_eq_true z; omega
      rw [if_pos hn] at rest
      exact ⟨_, rfl, rest _ _ ⟨rfl, rfl⟩⟩
    · rw [eq_int'] at z
      have hn : nines ≠ 0 := by have := of_decide_eq_false z; omega
      rw [if_neg hn] at rest
      exact rest _ _ ⟨by rw [e_nin], rfl⟩
    rintro x H' ⟨rfl, rfl⟩
    refine ⟨p, rs, rows, b2, _, rfl, R.same S2, hb2, fun o b3 hb3 h3 q3 hq3 => ⟨q3, _, rfl, SqT.of upd_same, rfl, _, _, rfl, _, _, rfl, rfl, ?_⟩⟩
    have S3 := S2.trans (Same.new (o := .tup [oV o, .int (b3 : Nat)]) hq3)
    generalize upd H' q3 (.tup [oV o, .int (b3 : Nat)]) = H3 at S3
    refine ⟨_, rfl, _, rfl, _, rfl, _, rfl, _, rfl, by show 5 ≤ sizeLine; omega, fun q4 hq4 => ?_⟩
    exact k pl many nines b2 b3 o hb3 h2 h3 q4 _ (S3.trans (Same.new hq4)) upd_same
set_option maxHeartbeats 4000000 in
theorem ok_edited_facts (F : Fun K "edited_facts" "edited_facts" s_edited_facts f fd) (O : Own mg) (T : Txt K mg tk c kr) (D_lead_of : Def P w K mg base 2 "lead_of" ["rows"] (spLead K)) (D_body_of : Def P w K mg base 3 "body_of" ["rows", "at"] (spBody K)) (D_tail_of : Def P w K mg base 1 "tail_of" ["rows", "at"] (spTail K)) :
    FnOk P w K mg base (CXE P w) 4 f fd ["rows"] (spFacts K editedFacts) := by
  refine okN F sc_edited_facts (fun vs H Q E h => ?_) (fun cdv A outer s H vs Q E hr h => ?_)
  · obtain ⟨p, rs, rows, rfl, _⟩ := h
    rfl
  · obtain ⟨p, rs, rows, rfl, R, k⟩ := h
    have hz : 1000 ≤ sizeLine := by decide
    refine ⟨_, (pss_cons (ps_asg (D_lead_of.pe hr (by decide) rfl passE0 (pa_cons (pv 0) pa_nil)) (pg_tup rfl (pgs_cons (pg_name (i := 1) sc_edited_facts.nd rfl (Or.inl rfl)) (pgs_cons (pg_name (i := 2) sc_edited_facts.nd rfl (Or.inl rfl)) pgs_nil))))
      (pss_cons (ps_asg (D_body_of.pe hr (by decide) rfl passE0 (pa_cons (pv 0) (pa_cons (pv 2) pa_nil))) (pg_tup rfl (pgs_cons (pg_name (i := 3) sc_edited_facts.nd rfl (Or.inl rfl)) (pgs_cons (pg_name (i := 4) sc_edited_facts.nd rfl (Or.inl rfl)) (pgs_cons (pg_name (i := 5) sc_edited_facts.nd rfl (Or.inl rfl)) (pgs_cons (pg_name (i := 6) sc_edited_facts.nd rfl (Or.inl rfl)) (pgs_cons (pg_name (i := 7) sc_edited_facts.nd rfl (Or.inl rfl)) pgs_nil)))))))
      (pss_cons (ps_set (i := 8) sc_edited_facts.nd rfl (Or.inl rfl) (D_tail_of.pe hr (by decide) rfl passE0 (pa_cons (pv 0) (pa_cons (pv 7) pa_nil))))
      (pss_cons (ps_if (PW.pt (pw_or (pt_cmpR op_eq (pv 3) pe_str (nomark _)) (pw_or (pt_cmp (pc_isN (pv 6))) (pw_or1 (pt_cmp (pc_isN (pv 8))))))) (pss_one (ps_ret pe_non)) pss_nil)
      (pss_cons (ps_set (i := 9) sc_edited_facts.nd rfl (Or.inl rfl) (pe_cmpR op_in_str (pv 3) (pe_glob (v := V.str "+-$") rfl T.m_FLOATING ⟨_, rfl⟩) (by with_unfolding_all rfl)))
      (pss_cons (ps_if (PW.pt (pw_and (pt_truth (pv 9) (fun _ => rfl)) (pw_and1 (pt_cmpR op_lt (pv 4) pe_int (nomark _))))) (pss_one (ps_ret pe_non)) pss_nil)
      (pss_cons (ps_lcomp (NB := [".0", "part"]) (iy := 10) rfl ⟨rfl, by decide +kernel, by decide +kernel, by decide +kernel⟩ (pi_tup (pe_tup (pa_cons (pe_slice sl_str (pv 1) po_none (po_some pe_int)) (pa_cons (pv 3) (pa_cons (pv 8) pa_nil))))) (fun _ _ _ => (pg_name (i := 1) (show ([".0", "part"] : List Str).Nodup by decide +kernel) rfl (Or.inl rfl))) (fun _ _ _ => (pts_one (pt_cmpR (op_in_seqK (K0 := K) rfl) (pv 1) (pe_glob (v := V.ref (kr 1)) rfl T.m_SHOWN rfl) (by with_unfolding_all rfl)))) (fun _ _ _ => (pv 1)) sc_edited_facts.nd rfl (Or.inl rfl) rfl)
      (pss_cons (ps_if (pt_cmpR op_gt (pe_callB call_len_seq rfl O.len PySem.boot_len (pa_cons (pv 10) pa_nil)) pe_int (nomark _)) (pss_one (ps_ret pe_non)) pss_nil)
      (pss_cons (ps_set (i := 11) sc_edited_facts.nd rfl (Or.inl rfl) (pe_op op_sub (pe_op op_add (pv 4) (pv 5)) (pe_ifExp (pt_truth (pv 9) (fun _ => rfl)) pe_int pe_int)))
      (pss_cons (ps_if (pt_cmpR op_gt (pe_op op_add (pv 11) (pv 6)) (pe_glob (v := V.int 18) rfl T.m_MOST_FIGURES ⟨_, rfl⟩) (nomark _)) (pss_one (ps_ret pe_non)) pss_nil)
      (pss_one (ps_ret (pe_tup (pa_cons pe_str (pa_cons (pe_cmpR op_eq (pe_callB call_len_seq rfl O.len PySem.boot_len (pa_cons (pv 10) pa_nil)) pe_int (nomark _)) (pa_cons (pv 11) (pa_cons (pv 6) pa_nil))))))))))))))))), ?_⟩
    refine ⟨_, rfl, p, rs, rows, rfl, R, fun ld b hb hll h1 q1 H1 S1 g1 => ⟨q1, _, rfl, SqT.of g1, rfl, _, _, rfl, _, _, rfl, rfl, ?_⟩⟩
    refine ⟨_, rfl, _, rfl, p, rs, rows, b, rfl, R.same S1, hb, fun pl many nines b2 b3 o hb3 h2 h3 q2 H3 S2 g2 => ⟨q2, _, rfl, SqT.of g2, rfl, _, _, rfl, _, _, rfl, _, _, rfl, _, _, rfl, _, _, rfl, rfl, ?_⟩⟩
    have S3 := S1.trans S2
    clear g1 g2 S1 S2
    have ee := edited_eq h1 h2 h3
    have hone := whole_one (rows.drop b)
    rw [h2] at hone
    refine ⟨_, rfl, _, rfl, p, rs, rows, b3, rfl, R.same S3, hb3, fun H4 S4 => ?_⟩
    have S14 := S3.trans S4
    generalize tailOf (rows.drop b3) = tl at ee
    rw [ee] at k
    clear ee h1 h2 h3 S3 S4
    refine ⟨_, rfl, rfl, _, rfl, ?_⟩
    rw [e_emp, str_dec]
    rcases hone with hp | ⟨place, hp⟩
    · have hp2 : pl = [] := hp
      subst hp2
      rw [decide_eq_true rfl]
      exact iteT (iteT (k .non H4 S14 rfl))
    have hp2 : pl = [place] := hp
    subst hp2
    rw [decide_eq_false (by simp)]
    refine iteF ⟨_, rfl, _, rfl, ?_⟩
    cases o with
    | none => exact iteT (iteT (k .non H4 S14 rfl))
    | some behind =>
    refine iteF ⟨_, rfl, _, rfl, ?_⟩
    cases tl with
    | none => exact iteT (k .non H4 S14 rfl)
    | some tail =>
    refine iteF ⟨_, rfl, _, _, rfl, rfl, ?_⟩
    rw [e_flo, in_sym]
    generalize hfl : ([43, 45, 36] : List Nat).contains place = fl
    have ek : editedEnd ld [place] many nines (some behind) (some tail) = if (fl && decide (many < 2)) = true then none else if ([ld.take 1, [place], tail].filter (shownL.contains ·)).length > 1 then none else if many + nines - (if fl = true then 1 else 0) + behind > 18 then none else some ⟨3, ([ld.take 1, [place], tail].filter (shownL.contains ·)).length == 1, many + nines - (if fl = true then 1 else 0), behind⟩ := by
      rw [← hfl]
      rfl
    rw [ek] at k
    clear ek
    dsimp only
    refine seq_join (fun σ' H' => σ' = [some (.ref p), some (.str (tx ld)), some (.int (b : Nat)), some (.str (tx [place])), some (.int (many : Nat)), some (.int (nines : Nat)), some (.int (behind : Nat)), some (.int (b3 : Nat)), some (.str (tx tail)), some (.bl fl), none, none] ∧ H' = H4 ∧ ¬ (fl && decide (many < 2)) = true) ?_ (fun rest => ?_)
    · rintro σ' H' ⟨rfl, rfl, hfm⟩
      rw [if_neg hfm] at k
      have hmm : fl = true → 2 ≤ many := fun z => by
        rcases Nat.lt_or_ge many 2 with q | q
        · exact absurd (by rw [z, decide_eq_true q]; rfl) hfm
        · exact q
      dsimp only [tSeq, tAsg]
      refine comp_shownT (ls := [ld.take 1, [place], tail]) T rfl (by simp) (fun R r => ⟨_, rfl, _, rfl, tx ld, rfl, by rw [tx_len]; omega, _, rfl, _, rfl, by show 3 ≤ sizeLine; omega, fun p5 hp5 => r p5 _ (Same.new hp5) (by rw [upd_same, slice_one]; rfl)⟩) fun q5 H5 S5 hq5 => ?_
      have S6 := (S14.trans S5).trans (Same.new (o := .lst (([ld.take 1, [place], tail].filter (shownL.contains ·)).map fun l => V.str (tx l))) hq5)
      have g6 : upd H5 q5 (.lst (([ld.take 1, [place], tail].filter (shownL.contains ·)).map fun l => V.str (tx l))) q5 = some (.lst (([ld.take 1, [place], tail].filter (shownL.contains ·)).map fun l => V.str (tx l))) := upd_same
      generalize upd H5 q5 (.lst (([ld.take 1, [place], tail].filter (shownL.contains ·)).map fun l => V.str (tx l))) = H6 at S6 g6
      generalize [ld.take 1, [place], tail].filter (shownL.contains ·) = sh at g6 k
      refine ⟨_, rfl, q5, _, rfl, .inl (SqL.of g6), _, _, rfl, rfl, _, rfl, ?_⟩
      rw [List.length_map]
      by_cases h7 : sh.length > 1
      · rw [decide_eq_true (by omega)]
        rw [if_pos h7] at k
        exact iteT (k .non H6 S6 rfl)
      · rw [decide_eq_false (by omega)]
        rw [if_neg h7] at k
        refine iteF ⟨_, rfl, _, rfl, _, _, rfl, rfl, _, rfl, fl, rfl, ?_⟩
        have hbf : ((many : Nat) : Int) + (nines : Nat) - (if fl = true then 1 else 0) = ((many + nines - (if fl = true then 1 else 0) : Nat) : Int) := by
          cases fl with
          | true => have := hmm rfl; simp; omega
          | false => simp
        refine ifJoinE (fun x H' => x = .int (if fl = true then 1 else 0) ∧ H' = H6) (fun z rest => rest _ _ ⟨by rw [if_pos z], rfl⟩) (fun z rest => rest _ _ ⟨by rw [if_neg (by rw [z]; decide)], rfl⟩) ?_
        rintro x H7 ⟨rfl, rfl⟩
        refine ⟨_, _, rfl, rfl, ?_⟩
        dsimp only [gName]
        rw [hbf]
        generalize many + nines - (if fl = true then 1 else 0) = before at k
        refine ⟨_, rfl, _, rfl, _, _, rfl, rfl, _, _, rfl, rfl, _, rfl, ?_⟩
        by_cases h8 : before + behind > 18
        · rw [decide_eq_true (by omega)]
          rw [if_pos h8] at k
          exact iteT (k .non H7 S6 rfl)
        · rw [decide_eq_false (by omega)]
          rw [if_neg h8] at k
          refine iteF ⟨_, rfl, q5, _, rfl, .inl (SqL.of g6), rfl, _, rfl, _, rfl, by show 4 ≤ sizeLine; omega, fun q9 hq9 => ?_⟩
          refine k _ _ (S6.trans (Same.new hq9)) ⟨q9, rfl, ?_⟩
          rw [upd_same, List.length_map, eq_int']
          have e9 : decide ((sh.length : Int) = 1) = (sh.length == 1) := by
            by_cases z : sh.length = 1
            · rw [z]; rfl
            · rw [decide_eq_false (by omega)]; exact (beq_eq_false_iff_ne.mpr z).symm
          rw [e9]
          rfl
    · refine ⟨_, rfl, fl, rfl, ?_⟩
      cases fl with
      | false =>
        exact iteF (iteF (rest _ _ ⟨rfl, rfl, by simp⟩))
      | true =>
        refine iteT ⟨_, rfl, _, _, rfl, rfl, _, rfl, ?_⟩
        by_cases h6 : many < 2
        · rw [decide_eq_true (by omega)]
          refine iteT (k .non H4 S14 ?_)
          rw [decide_eq_true h6]
          rfl
        · rw [decide_eq_false (by omega)]
          exact iteF (rest _ _ ⟨rfl, rfl, by rw [decide_eq_false h6]; decide⟩)
end
end Lw

set_option Elab.async false
set_option linter.all false
set_option maxRecDepth 100000
namespace Lw
open PySem PySem.Spec PyProof.Rows L2 K02 K04
section
variable {P : Program} {w : World} {K : PySem.W.Frag} {mg : Str → Option Value} {base : Heap} {f : Addr} {fd : FuncData} {tk : Nat → Tok} {c kr : Nat → Addr}
theorem FV.isN {o : Option Facts} {v : V} {H : Hp} (h : FV o v H) : decide (v = .non) = !o.isSome := by
  cases o with
  | none => rw [show v = .non from h]; rfl
  | some x => obtain ⟨q, h1, h2⟩ := h; rw [h1]; rfl
set_option maxHeartbeats 1000000 in
theorem ok_facts_of (F : Fun K "facts_of" "facts_of" s_facts_of f fd) (D_number_facts : Def P w K mg base 1 "number_facts" ["rows"] (spFacts K numberFacts)) (D_plain_facts : Def P w K mg base 1 "plain_facts" ["rows"] (spFacts K plainFacts)) (D_edited_facts : Def P w K mg base 4 "edited_facts" ["rows"] (spFacts K editedFacts)) :
    FnOk P w K mg base (CXE P w) 5 f fd ["rows"] (spFacts K factsOf) := by
  refine okN F sc_facts_of (fun vs H Q E h => ?_) (fun cdv A outer s H vs Q E hr h => ?_)
  · obtain ⟨p, rs, rows, rfl, _⟩ := h
    rfl
  · obtain ⟨p, rs, rows, rfl, R, k⟩ := h
    refine ⟨_, (pss_cons (ps_set (i := 1) sc_facts_of.nd rfl (Or.inl rfl) (D_number_facts.pe hr (by decide) rfl passE0 (pa_cons (pv 0) pa_nil)))
      (pss_cons (ps_if (pt_cmp (pc_isN (pv 1))) (pss_one (ps_set (i := 1) sc_facts_of.nd rfl (Or.inl rfl) (D_plain_facts.pe hr (by decide) rfl passE0 (pa_cons (pv 0) pa_nil)))) pss_nil)
      (pss_cons (ps_if (pt_cmp (pc_isN (pv 1))) (pss_one (ps_set (i := 1) sc_facts_of.nd rfl (Or.inl rfl) (D_edited_facts.pe hr (by decide) rfl passE0 (pa_cons (pv 0) pa_nil)))) pss_nil)
      (pss_one (ps_ret (pv 1)))))), ?_⟩
    refine ⟨_, rfl, p, rs, rows, rfl, R, fun v1 H1 S1 f1 => ?_⟩
    refine ⟨_, rfl, _, rfl, ?_⟩
    rw [f1.isN]
    cases e1 : numberFacts rows with
    | some x =>
      rw [e1] at f1
      have ef : factsOf rows = some x := by unfold factsOf; rw [e1]
      refine iteF ⟨_, rfl, _, rfl, ?_⟩
      rw [f1.isN]
      refine iteF ⟨_, rfl, k v1 H1 S1 ?_⟩
      rw [ef]
      exact f1
    | none =>
      refine iteT ⟨_, rfl, p, rs, rows, rfl, R.same S1, fun v2 H2 S2 f2 => ?_⟩
      refine ⟨_, rfl, _, rfl, ?_⟩
      rw [f2.isN]
      cases e2 : plainFacts rows with
      | some x =>
        rw [e2] at f2
        have ef : factsOf rows = some x := by unfold factsOf; rw [e1, e2]
        refine iteF ⟨_, rfl, k v2 H2 (S1.trans S2) ?_⟩
        rw [ef]
        exact f2
      | none =>
        have ef : factsOf rows = editedFacts rows := by unfold factsOf; rw [e1, e2]
        refine iteT ⟨_, rfl, p, rs, rows, rfl, (R.same S1).same S2, fun v3 H3 S3 f3 => ⟨_, rfl, k v3 H3 ((S1.trans S2).trans S3) ?_⟩⟩
        rw [ef]
        exact f3
def spIsPic (K : PySem.W.Frag) : Sp := fun vs H Q _ => ∃ (v : V) (b : Bool), vs = [v] ∧ ((∃ l, v = .str (tx l) ∧ l.length ≤ 500 ∧ b = (picture l).isSome) ∨ (tupV v H ∧ b = false)) ∧ ∀ H', Same H H' → Q (.bl b) H'
theorem facts_nil : factsOf [] = none := by decide
theorem ok_is_picture (F : Fun K "is_picture" "is_picture" s_is_picture f fd) (D_rows_of : Def P w K mg base 4 "rows_of" ["thing"] (spRows K)) (D_facts_of : Def P w K mg base 5 "facts_of" ["rows"] (spFacts K factsOf)) :
    FnOk P w K mg base (CXE P w) 6 f fd ["thing"] (spIsPic K) := by
  refine okN F sc_is_picture (fun vs H Q E h => ?_) (fun cdv A outer s H vs Q E hr h => ?_)
  · obtain ⟨v, b, rfl, _⟩ := h
    rfl
  · obtain ⟨v, b, rfl, hv, k⟩ := h
    refine ⟨_, (pss_one (ps_ret (pe_cmp (pc_notN (D_facts_of.pe hr (by decide) rfl passE0 (pa_cons (D_rows_of.pe hr (by decide) rfl passE0 (pa_cons (pv 0) pa_nil)) pa_nil)))))), ?_⟩
    obtain ⟨rows, hr1, hb⟩ : ∃ rows, ((∃ l, v = .str (tx l) ∧ l.length ≤ 500 ∧ rows = rowsOf l) ∨ (tupV v H ∧ rows = [])) ∧ b = (factsOf rows).isSome := by
      rcases hv with ⟨l, rfl, hl, rfl⟩ | ⟨hv, rfl⟩
      · exact ⟨_, .inl ⟨l, rfl, hl, rfl⟩, rfl⟩
      · exact ⟨[], .inr ⟨hv, rfl⟩, by rw [facts_nil]; rfl⟩
    refine ⟨_, rfl, v, rows, rfl, hr1, fun p rs H1 S1 R1 => ⟨p, rs, rows, rfl, R1, fun v2 H2 S2 f2 => ?_⟩⟩
    show Q (.bl (!decide (v2 = .non))) H2
    rw [f2.isN, Bool.not_not, ← hb]
    exact k H2 (S1.trans S2)
/-- understood, or refused -/
def spUnder (K : PySem.W.Frag) (c : Nat → Addr) : Sp := fun vs H Q E => ∃ l : List Nat, vs = [.str (tx l)] ∧ l.length ≤ 500 ∧ (picture l = none → ∀ H', Same H H' → E (.ref (c 1)) none H') ∧
  (∀ x, picture l = some x → ∀ q p rs r H', Same H H' → H' q = some (.tup [.ref p, .ref r]) → H' r = some (fO x) → RowsAt K H' p rs (rowsOf l) → Q (.ref q) H')
theorem ok_understood (F : Fun K "understood" "understood" s_understood f fd) (T : Txt K mg tk c kr) (D_rows_of : Def P w K mg base 4 "rows_of" ["thing"] (spRows K)) (D_facts_of : Def P w K mg base 5 "facts_of" ["rows"] (spFacts K factsOf)) :
    FnOk P w K mg base (CXE P w) 6 f fd ["picture"] (spUnder K c) := by
  refine okE F sc_understood (fun vs H Q E h => ?_) (fun cdv A outer s H vs Q E hr h => ?_)
  · obtain ⟨l, rfl, _⟩ := h
    rfl
  · obtain ⟨l, rfl, hl, k1, k2⟩ := h
    have hz : 1000 ≤ sizeLine := by decide
    have fr := fram_of (P := P) (w := w) (K := K) (mg := mg) (base := base) (N := ["picture", "rows", "facts"]) (qual := "understood") (scope := defScope s_understood) (f := f) (cd := cdv) (A := A) (outer := outer) (s := s) (H := H) (E := E)
    have ht := takes_gen fr
    have hx := passes_gen fr
    refine ⟨_, (pss_cons (ps_set (i := 1) sc_understood.nd rfl (Or.inl rfl) (D_rows_of.pe hr (by decide) rfl hx (pa_cons (pv 0) pa_nil)))
      (pss_cons (ps_set (i := 2) sc_understood.nd rfl (Or.inl rfl) (D_facts_of.pe hr (by decide) rfl hx (pa_cons (pv 1) pa_nil)))
      (pss_cons (ps_if (pt_cmp (pc_isN (pv 2))) (pss_one (ps_raise ht rfl rfl T.m_NoPicture T.e_NoPicture (pa_cons pe_str pa_nil))) pss_nil)
      (pss_one (ps_ret (pe_tup (pa_cons (pv 1) (pa_cons (pv 2) pa_nil)))))))), ?_⟩
    refine ⟨_, rfl, _, rowsOf l, rfl, .inl ⟨l, rfl, hl, rfl⟩, fun p rs H1 S1 R1 => ⟨_, rfl, p, rs, rowsOf l, rfl, R1, fun v2 H2 S2 f2 => ?_⟩⟩
    refine ⟨_, rfl, _, rfl, ?_⟩
    rw [f2.isN]
    cases e : factsOf (rowsOf l) with
    | none => exact iteT ⟨by show 1 ≤ sizeLine; omega, k1 e _ (S1.trans S2)⟩
    | some x =>
      rw [e] at f2
      obtain ⟨r, rfl, g⟩ := f2
      refine iteF ⟨_, rfl, _, rfl, by show 2 ≤ sizeLine; omega, fun q hq => ?_⟩
      have S3 := Same.new (o := .tup [.ref p, .ref r]) hq
      exact k2 x e q p rs r _ ((S1.trans S2).trans S3) upd_same (S3 _ _ g) ((R1.same S2).same S3)
def spKind (c : Nat → Addr) : Sp := fun vs H Q E => ∃ l : List Nat, vs = [.str (tx l)] ∧ l.length ≤ 500 ∧ (picture l = none → ∀ H', Same H H' → E (.ref (c 1)) none H') ∧ (∀ x, picture l = some x → ∀ H', Same H H' → Q (.str (kindS x.kind)) H')
theorem ok_kind_of (F : Fun K "kind_of" "kind_of" s_kind_of f fd) (D_understood : Def P w K mg base 6 "understood" ["picture"] (spUnder K c)) : FnOk P w K mg base (CXE P w) 7 f fd ["picture"] (spKind c) := by
  refine okE F sc_kind_of (fun vs H Q E h => ?_) (fun cdv A outer s H vs Q E hr h => ?_)
  · obtain ⟨l, rfl, _⟩ := h
    rfl
  · obtain ⟨l, rfl, hl, k1, k2⟩ := h
    have fr := fram_of (P := P) (w := w) (K := K) (mg := mg) (base := base) (N := ["picture", "rows", "facts"]) (qual := "kind_of") (scope := defScope s_kind_of) (f := f) (cd := cdv) (A := A) (outer := outer) (s := s) (H := H) (E := E)
    have hx := passes_gen fr
    refine ⟨_, (pss_cons (ps_asg (D_understood.pe hr (by decide) rfl hx (pa_cons (pv 0) pa_nil)) (pg_tup rfl (pgs_cons (pg_name (i := 1) sc_kind_of.nd rfl (Or.inl rfl)) (pgs_cons (pg_name (i := 2) sc_kind_of.nd rfl (Or.inl rfl)) pgs_nil))))
      (pss_one (ps_ret (pe_ix ix_tup (pv 2) pe_int (fun _ _ => rfl))))), ?_⟩
    refine ⟨_, rfl, l, rfl, hl, k1, fun x e q p rs r H1 S1 g1 g2 R1 => ?_⟩
    exact ⟨q, _, rfl, SqT.of g1, rfl, _, _, rfl, _, _, rfl, rfl, _, rfl, r, _, _, _, rfl, rfl, SqT.of g2, rfl, k2 x e H1 S1⟩
end
end Lw

set_option Elab.async false
set_option linter.all false
set_option maxRecDepth 100000
namespace Lw
open PySem PySem.Spec PyProof.Rows L2 K02 K04
open Builtin Builtin.Str StrLaws
theorem join_txs : ∀ ls : List (List Nat), Txt.join "" (ls.map tx) = tx ls.flatten := by
  intro ls
  show Builtin.Str.glued _ _ = _
  rw [StrLaws.glued_eq_join]
  have e : ("" : Str) = tx [] := by decide +kernel
  rw [e]
  induction ls with
  | nil => rfl
  | cons a r ih =>
    cases r with
    | nil => simp [PySem.Str.join]
    | cons b r =>
      show tx a ++ tx [] ++ PySem.Str.join (tx []) ((b :: r).map tx) = _
      rw [ih, tx_app, tx_app, List.flatten_cons (l := a), List.append_nil]
theorem fold_lens : ∀ (ls : List (List Nat)) (n : Nat), (ls.map tx).foldl (fun (m : Nat) (s : Str) => m + s.length + ("" : Str).length) n = n + ls.flatten.length := by
  have e : ("" : Str).length = 0 := by decide +kernel
  intro ls
  induction ls with
  | nil => intro n; rfl
  | cons a r ih =>
    intro n
    show (r.map tx).foldl _ (n + (tx a).length + ("" : Str).length) = _
    rw [ih, e, tx_len, List.flatten_cons, List.length_append]
    omega
theorem join_oks {ls : List (List Nat)} (h : ls.flatten.length ≤ 1000) : JoinOk "" (ls.map tx) = true := by
  unfold JoinOk
  rw [← Array.foldl_toList, List.toList_toArray, fold_lens]
  unfold tooLong
  have hz : 1000 ≤ sizeLine := by decide
  rw [decide_eq_false (by omega)]
  rfl
theorem rep_tx (ch k : Nat) : L2.repS (tx [ch]) k = tx (List.replicate k ch) := by
  rw [of_tx (L2.repS (tx [ch]) k)]
  congr 1
  unfold L2.repS
  have : ∀ (l : List (Array Nat)) (acc : Array Nat), (l.foldl (· ++ ·) acc).toList = acc.toList ++ (l.map (·.toList)).flatten := by
    intro l
    induction l with
    | nil => intro acc; simp
    | cons a r ih => intro acc; rw [List.foldl_cons, ih]; simp
  rw [this]
  simp only [List.map_replicate]
  induction k with
  | zero => rfl
  | succ k ih => simp [List.replicate_succ] at ih ⊢
section
variable {P : Program} {w : World} {K : PySem.W.Frag} {mg : Str → Option Value} {base : Heap} {f : Addr} {fd : FuncData} {tk : Nat → Tok} {c kr : Nat → Addr}
/-- of each row that passes one thing -/
theorem comp_rowsG {p : Addr} {rs : List Addr} {rows : List Rw} {te : TE} {tt : TT} {NB : List Str} {n i : Nat} {σ : L2.St} {H : Hp} {Q : VK} (val : Rw → V) (ok : Rw → Bool) (hNB : NB.length = 3) (hn : n = 2) (hσ : σ[i]? = some (some (.ref p))) (R : RowsAt K H p rs rows)
    (htt : ∀ x ∈ rows, ∀ (H1 : Hp) (R : Bool → Hp → Prop), R (ok x) H1 → tt [none, some (.str (tx [x.1])), some (.int (x.2 : Nat))] H1 R)
    (hte : ∀ x ∈ rows, ∀ (H1 : Hp) (Q : VK), (∀ H2, Same H1 H2 → Q (val x) H2) → te [none, some (.str (tx [x.1])), some (.int (x.2 : Nat))] H1 Q)
    (hd : ∀ q H1, Same H H1 → H1 q = none → Q (.ref q) (upd H1 q (.lst ((rows.filter ok).map val)))) :
    tComp NB (iList K (tVar i)) (gTup K n (gCons (gName 1) (gCons (gName 2) gNil))) tt te σ H Q := by
  have hz : 1000 ≤ sizeLine := by decide
  have hl := R.le
  have hlen := R.len
  refine ⟨_, hσ, p, rfl, ⟨_, R.sq⟩, ?_⟩
  refine comp_list (xs := rs.map V.ref) (fun i vs H2 => Same H H2 ∧ vs = ((rows.take i).filter ok).map val) ⟨Same.refl H, rfl⟩ ?_ ?_ ?_ (by omega)
  · rintro i vs H2 hi ⟨S, rfl⟩
    exact ⟨(R.same S).sq, by rw [List.length_map]; exact Nat.le_trans (List.length_filter_le _ _) (by rw [List.length_take]; omega)⟩
  · rintro i x vs H2 hx ⟨S, rfl⟩
    rw [List.getElem?_map] at hx
    obtain ⟨r, hr, rfl⟩ := Option.map_eq_some_iff.mp hx
    obtain ⟨y, hy, g⟩ := (R.same S).rw.at' hr
    subst hn
    rw [hNB]
    have hm := List.mem_of_getElem? hy
    have htk : (rows.take (i + 1)).filter ok = (rows.take i).filter ok ++ if ok y = true then [y] else [] := by
      rw [List.take_add_one, hy, List.filter_append]
      congr 1
      show List.filter ok [y] = _
      rw [List.filter_cons]
      rfl
    refine ⟨r, _, rfl, SqT.of g, rfl, _, _, rfl, _, _, rfl, rfl, ?_⟩
    refine htt y hm _ _ ?_
    rw [htk]
    cases ok y with
    | true => exact iteT (hte y hm _ _ fun H3 S3 => ⟨S.trans S3, by simp⟩)
    | false => exact iteF ⟨S, by simp⟩
  · rintro vs H2 ⟨S, rfl⟩ q hq
    rw [List.take_of_length_le (by omega)]
    exact hd q H2 S hq
def spFigs : Sp := fun vs H Q _ => ∃ n : Nat, vs = [.int n] ∧ n < 10 ^ 18 ∧ ∀ H', Same H H' → Q (.str (tx (dec n))) H'
theorem ok_figures_of (F : Fun K "figures_of" "figures_of" s_figures_of f fd) (O : Own mg) (T : Txt K mg tk c kr) (D_ten_to : Def P w K mg base 1 "ten_to" ["many"] spTen) : FnOk P w K mg base (CXE P w) 2 f fd ["number"] spFigs := by
  refine okN F sc_figures_of (fun vs H Q E h => ?_) (fun cdv A outer s H vs Q E hr h => ?_)
  · obtain ⟨n, rfl, _⟩ := h
    rfl
  · obtain ⟨n, rfl, hn, k⟩ := h
    refine ⟨_, (pss_cons (ps_set (i := 1) sc_figures_of.nd rfl (Or.inl rfl) (D_ten_to.pe hr (by decide) rfl passE0 (pa_cons (pe_glob (v := V.int 18) rfl T.m_PART ⟨_, rfl⟩) pa_nil)))
      (pss_cons (ps_set (i := 2) sc_figures_of.nd rfl (Or.inl rfl) (pe_lst pa_nil))
      (pss_cons (ps_while PassesOwn.never (pt_cmpR op_ge (pv 0) (pv 1) (nomark _)) (pss_cons (ps_asg (pe_callB call_divmod rfl O.divmod PyProof.Rows.boot_divmod (pa_cons (pv 0) (pa_cons (pv 1) pa_nil))) (pg_tup rfl (pgs_cons (pg_name (i := 0) sc_figures_of.nd rfl (Or.inl rfl)) (pgs_cons (pg_name (i := 3) sc_figures_of.nd rfl (Or.inl rfl)) pgs_nil))))
      (pss_one (ps_expr (pe_bm PySem.F.plainAttrs_list PySem.F.slot_list_append PySem.F.type_list_append mt_append (pv 2) (pa_cons (pe_bm PySem.F.plainAttrs_str PySem.F.slot_str_zfill PySem.F.type_str_zfill mt_zfill (pe_callTy call_str_int rfl O.str PyProof.Rows.boot_str (pa_cons (pv 3) pa_nil)) (pa_cons (pe_glob (v := V.int 18) rfl T.m_PART ⟨_, rfl⟩) pa_nil)) pa_nil))))))
      (pss_cons (ps_expr (pe_bm PySem.F.plainAttrs_list PySem.F.slot_list_append PySem.F.type_list_append mt_append (pv 2) (pa_cons (pe_callTy call_str_int rfl O.str PyProof.Rows.boot_str (pa_cons (pv 0) pa_nil)) pa_nil)))
      (pss_one (ps_ret (pe_joinrev rfl rfl O.reversed pe_str (pv 2)))))))), ?_⟩
    refine ⟨18, rfl, by decide, by decide, by show 0 ≤ sizeLine; decide, fun p hp => ?_⟩
    have S1 := Same.new (o := .lst []) hp
    refine ⟨fun m σ H2 => σ = [some (.int (n : Int)), some (.int (K01.ten 18)), some (.ref p), none] ∧ H2 = upd H p (.lst []), ⟨0, rfl, rfl⟩, ?_⟩
    rintro m σ H2 ⟨rfl, rfl⟩
    refine ⟨_, rfl, _, rfl, _, _, rfl, rfl, _, rfl, ?_⟩
    have h18 : K01.ten 18 = 10 ^ 18 := by decide
    refine ifB (fun q => absurd (of_decide_eq_true q) (by rw [h18]; omega)) (fun _ => ?_)
    have hlog : (n : Int).natAbs.log2 < 1920 := by
      rw [Int.natAbs_natCast]
      by_cases h0 : n = 0
      · rw [h0]; decide
      · exact (Nat.log2_lt h0).mpr (Nat.lt_trans hn (by decide))
    refine ⟨_, rfl, .inl ⟨rfl, _, .inl (.inl upd_same)⟩, _, rfl, (n : Int), rfl, hlog, p, [], _, rfl, rfl, upd_same, by show 0 < sizeLine; decide, ?_⟩
    rw [K02.dec_str]
    have S2 : Same H (upd (upd H p (.lst [])) p (.lst ([] ++ [.str (tx (dec n))]))) := fun b o e => by
      have hb := ne_of_none e hp
      rw [upd_ne hb, upd_ne hb]
      exact e
    have hdl := dec_len (n := n) (Nat.lt_trans hn (by decide))
    refine ⟨"", rfl, _, rfl, p, [tx (dec n)], rfl, upd_same, ?_, ?_⟩
    · have hjl := tx_len (dec n)
      show (!Builtin.Str.tooLong (0 + (tx (dec n)).length + ("" : Str).length)) = true
      rw [hjl]
      have he : ("" : Str).length = 0 := by decide +kernel
      rw [he]
      unfold Builtin.Str.tooLong
      have hz : 1000 ≤ sizeLine := by decide
      rw [decide_eq_false (by omega)]
      rfl
    · have ej : Txt.join "" [tx (dec n)].reverse = tx (dec n) := by
        show Builtin.Str.glued _ _ = _
        rw [StrLaws.glued_eq_join]
        rfl
      rw [ej]
      exact k _ S2
def spRowT : Sp := fun vs H Q _ => ∃ s m : Nat, vs = [.str (tx [s]), .int (m : Nat)] ∧ 1 ≤ m ∧ m ≤ 100 ∧ ∀ H', Same H H' → Q (.str (tx (rowText (s, m)))) H'
theorem ok_row_text (F : Fun K "row_text" "row_text" s_row_text f fd) (O : Own mg) (T : Txt K mg tk c kr) (D_figures_of : Def P w K mg base 2 "figures_of" ["number"] spFigs) : FnOk P w K mg base (CXE P w) 3 f fd ["symbol", "many"] spRowT := by
  refine okN F sc_row_text (fun vs H Q E h => ?_) (fun cdv A outer s H vs Q E hr h => ?_)
  · obtain ⟨n, m, rfl, _⟩ := h
    rfl
  · obtain ⟨n, m, rfl, h1, h2, k⟩ := h
    have hz : 1000 ≤ sizeLine := by decide
    have e40 : ("(" : Str) = tx [40] := by decide +kernel
    have e41 : (")" : Str) = tx [41] := by decide +kernel
    have e0 : Str.empty = tx [] := rfl
    refine ⟨_, (pss_cons (ps_if (pt_cmpR op_lt (pv 1) (pe_glob (v := V.int 5) rfl T.m_SHORT_FROM ⟨_, rfl⟩) (nomark _)) (pss_one (ps_ret (pe_op op_mul_strN (pv 0) (pv 1)))) pss_nil)
      (pss_one (ps_ret (pe_joined (pj_cons (pe_fmt (pv 0)) (pj_cons pe_str (pj_cons (pe_fmt (D_figures_of.pe hr (by decide) rfl passE0 (pa_cons (pv 1) pa_nil))) (pj_cons pe_str pj_nil)))))))), ?_⟩
    refine ⟨_, rfl, _, _, rfl, rfl, _, rfl, ?_⟩
    by_cases h5 : m < 5
    · rw [decide_eq_true (by omega)]
      refine iteT ⟨_, rfl, _, rfl, tx [n], (m : Int), rfl, rfl, by omega, by rw [tx_len, Int.toNat_natCast, List.length_singleton]; omega, by omega, ?_⟩
      rw [Int.toNat_natCast, rep_tx]
      have := k H (Same.refl H)
      unfold rowText at this
      rw [if_pos h5] at this
      exact this
    · rw [decide_eq_false (by omega)]
      have hds := (dec_sm m (by omega) h1).1
      refine iteF ⟨_, rfl, tx [n], rfl, by rw [tx_len]; simp; omega, _, rfl, ?_, "(", rfl, ?_, _, rfl, m, rfl, Nat.lt_of_le_of_lt h2 (by decide), fun H' S => ⟨_, rfl, by rw [tx_len]; omega, _, rfl, ?_, ")", rfl, ?_, ?_, ?_⟩⟩
      · rw [e0, tx_app, tx_len]; simp; omega
      · rw [e0, e40, tx_app, tx_app, tx_len]; simp; omega
      · rw [e0, e40, tx_app, tx_app, tx_app, tx_len]; simp; omega
      · rw [e0, e40, e41, tx_app, tx_app, tx_app, tx_app, tx_len]; simp; omega
      · rw [e0, e40, e41, tx_app, tx_app, tx_app, tx_app, tx_len]; simp; omega
      · have := k H' S
        unfold rowText at this
        rw [if_neg h5] at this
        rw [e0, e40, e41, tx_app, tx_app, tx_app, tx_app]
        have ee : [] ++ [n] ++ [40] ++ dec m ++ [41] = n :: 40 :: (dec m ++ [41]) := by simp
        rw [ee]
        exact this
def spOut (K : PySem.W.Frag) : Sp := fun vs H Q _ => ∃ (p : Addr) (rs : List Addr) (rows : List Rw), vs = [.ref p] ∧ RowsAt K H p rs rows ∧ Pos 100 rows ∧ (un rows).length ≤ 1000 ∧ ∀ H', Same H H' → Q (.str (tx (un rows))) H'
theorem filt_all (rows : List Rw) : rows.filter (fun _ => true) = rows := by simp
theorem ok_written_out (F : Fun K "written_out" "written_out" s_written_out f fd) (O : Own mg) : FnOk P w K mg base (CXE P w) 1 f fd ["rows"] (spOut K) := by
  refine okN F sc_written_out (fun vs H Q E h => ?_) (fun cdv A outer s H vs Q E hr h => ?_)
  · obtain ⟨p, rs, rows, rfl, _⟩ := h
    rfl
  · obtain ⟨p, rs, rows, rfl, R, hp, hl, k⟩ := h
    have hz : 1000 ≤ sizeLine := by decide
    refine ⟨_, (pss_one (ps_ret (pe_bm PySem.F.plainAttrs_str PySem.F.slot_str_join PySem.F.type_str_join mt_join pe_str (pa_cons (pe_lcomp (NB := [".0", "symbol", "many"]) rfl ⟨rfl, by decide +kernel, by decide +kernel, by decide +kernel⟩ (pi_list (pv 0)) (fun _ _ _ => (pg_tupK (K0 := K) (n := 2) rfl rfl (pgs_cons (pg_name (i := 1) (show ([".0", "symbol", "many"] : List Str).Nodup by decide +kernel) rfl (Or.inl rfl) (Or.inr rfl)) (pgs_cons (pg_name (i := 2) (show ([".0", "symbol", "many"] : List Str).Nodup by decide +kernel) rfl (Or.inl rfl) (Or.inr rfl)) pgs_nil)))) (fun _ _ _ => pts_nil) (fun _ _ _ => (pe_op op_mul_strN (pv 1) (pv 2)))) pa_nil)))), ?_⟩
    refine ⟨rfl, ?_⟩
    refine comp_rowsG (p := p) (rs := rs) (rows := rows) (fun x => .str (tx (List.replicate x.2 x.1))) (fun _ => true) rfl rfl rfl R (fun x hx H1 R h => h) (fun x hx H1 Q h => ?_) (fun q H1 S hq => ?_)
    · obtain ⟨h1, h2, h3⟩ := hp x hx
      refine ⟨_, rfl, _, rfl, tx [x.1], (x.2 : Int), rfl, rfl, by omega, by rw [tx_len, Int.toNat_natCast, List.length_singleton]; omega, by omega, ?_⟩
      rw [Int.toNat_natCast, rep_tx]
      exact h _ (Same.refl _)
    · rw [filt_all]
      have em : (rows.map fun x => V.str (tx (List.replicate x.2 x.1))) = ((rows.map fun x => List.replicate x.2 x.1).map tx).map V.str := by rw [List.map_map, List.map_map]; rfl
      have ef : (rows.map fun x => List.replicate x.2 x.1).flatten = un rows := by rw [un, List.flatMap_def]
      rw [em]
      refine ⟨"", q, _, rfl, rfl, SqL.of upd_same, join_oks (by rw [ef]; exact hl), ?_⟩
      rw [join_txs, ef]
      exact k _ (S.trans (Same.new hq))
/-- a picture, written somehow -/
structure PicAt (a l : List Nat) (x : Facts) : Prop where
  pc : picture l = some x
  sh : Sh a l
  no : 40 ∉ a
  la : a.length ≤ 100
  ll : l.length ≤ 500
def spUnf : Sp := fun vs H Q _ => ∃ (a l : List Nat) (x : Facts), vs = [.str (tx l)] ∧ PicAt a l x ∧ ∀ H', Same H H' → Q (.str (tx a)) H'
theorem PicAt.pos {a l : List Nat} {x : Facts} (h : PicAt a l x) : Pos 100 (rowsOf l) := by
  rw [rowsOf_sh h.sh]
  intro y hy
  obtain ⟨h1, h2, h3⟩ := pos_self h.no y hy
  have := h.la
  exact ⟨h1, by omega, h3⟩
theorem PicAt.un {a l : List Nat} {x : Facts} (h : PicAt a l x) : un (rowsOf l) = a := by rw [rowsOf_sh h.sh, un_self]
theorem ok_unfolded (F : Fun K "unfolded" "unfolded" s_unfolded f fd) (D_understood : Def P w K mg base 6 "understood" ["picture"] (spUnder K c)) (D_written_out : Def P w K mg base 1 "written_out" ["rows"] (spOut K)) : FnOk P w K mg base (CXE P w) 7 f fd ["text"] spUnf := by
  refine okE F sc_unfolded (fun vs H Q E h => ?_) (fun cdv A outer s H vs Q E hr h => ?_)
  · obtain ⟨a, l, x, rfl, _⟩ := h
    rfl
  · obtain ⟨a, l, x, rfl, hp, k⟩ := h
    have fr := fram_of (P := P) (w := w) (K := K) (mg := mg) (base := base) (N := ["text", "rows", "facts"]) (qual := "unfolded") (scope := defScope s_unfolded) (f := f) (cd := cdv) (A := A) (outer := outer) (s := s) (H := H) (E := E)
    have hx := passes_gen fr
    have hla := hp.la
    refine ⟨_, (pss_cons (ps_asg (D_understood.pe hr (by decide) rfl hx (pa_cons (pv 0) pa_nil)) (pg_tup rfl (pgs_cons (pg_name (i := 1) sc_unfolded.nd rfl (Or.inl rfl)) (pgs_cons (pg_name (i := 2) sc_unfolded.nd rfl (Or.inl rfl)) pgs_nil))))
      (pss_one (ps_ret (D_written_out.pe hr (by decide) rfl hx (pa_cons (pv 1) pa_nil))))), ?_⟩
    refine ⟨_, rfl, l, rfl, hp.ll, (fun z => by rw [hp.pc] at z; cases z), fun x2 e q p rs r H1 S1 g1 g2 R1 => ?_⟩
    refine ⟨q, _, rfl, SqT.of g1, rfl, _, _, rfl, _, _, rfl, rfl, ?_⟩
    refine ⟨_, rfl, p, rs, rowsOf l, rfl, R1, hp.pos, by rw [hp.un]; omega, fun H2 S2 => ?_⟩
    rw [hp.un]
    exact k H2 (S1.trans S2)
def spFold : Sp := fun vs H Q _ => ∃ (a l : List Nat) (x : Facts), vs = [.str (tx l)] ∧ PicAt a l x ∧ ∀ H', Same H H' → Q (.str (tx (fold a))) H'
theorem ok_folded (F : Fun K "folded" "folded" s_folded f fd) (D_understood : Def P w K mg base 6 "understood" ["picture"] (spUnder K c)) (D_row_text : Def P w K mg base 3 "row_text" ["symbol", "many"] spRowT) : FnOk P w K mg base (CXE P w) 7 f fd ["text"] spFold := by
  refine okE F sc_folded (fun vs H Q E h => ?_) (fun cdv A outer s H vs Q E hr h => ?_)
  · obtain ⟨a, l, x, rfl, _⟩ := h
    rfl
  · obtain ⟨a, l, x, rfl, hp, k⟩ := h
    have fr := fram_of (P := P) (w := w) (K := K) (mg := mg) (base := base) (N := ["text", "rows", "facts"]) (qual := "folded") (scope := defScope s_folded) (f := f) (cd := cdv) (A := A) (outer := outer) (s := s) (H := H) (E := E)
    have hx := passes_gen fr
    have hla := hp.la
    refine ⟨_, (pss_cons (ps_asg (D_understood.pe hr (by decide) rfl hx (pa_cons (pv 0) pa_nil)) (pg_tup rfl (pgs_cons (pg_name (i := 1) sc_folded.nd rfl (Or.inl rfl)) (pgs_cons (pg_name (i := 2) sc_folded.nd rfl (Or.inl rfl)) pgs_nil))))
      (pss_one (ps_ret (pe_bm PySem.F.plainAttrs_str PySem.F.slot_str_join PySem.F.type_str_join mt_join pe_str (pa_cons (pe_lcomp (NB := [".0", "symbol", "many"]) rfl ⟨rfl, by decide +kernel, by decide +kernel, by decide +kernel⟩ (pi_list (pv 1)) (fun _ _ _ => (pg_tupK (K0 := K) (n := 2) rfl rfl (pgs_cons (pg_name (i := 1) (show ([".0", "symbol", "many"] : List Str).Nodup by decide +kernel) rfl (Or.inl rfl) (Or.inr rfl)) (pgs_cons (pg_name (i := 2) (show ([".0", "symbol", "many"] : List Str).Nodup by decide +kernel) rfl (Or.inl rfl) (Or.inr rfl)) pgs_nil)))) (fun _ _ _ => pts_nil) (fun _ _ _ => (D_row_text.pe hr (by decide) rfl passE0 (pa_cons (pv 1) (pa_cons (pv 2) pa_nil))))) pa_nil))))), ?_⟩
    refine ⟨_, rfl, l, rfl, hp.ll, (fun z => by rw [hp.pc] at z; cases z), fun x2 e q p rs r H1 S1 g1 g2 R1 => ?_⟩
    refine ⟨q, _, rfl, SqT.of g1, rfl, _, _, rfl, _, _, rfl, rfl, ?_⟩
    refine ⟨rfl, ?_⟩
    refine comp_rowsG (p := p) (rs := rs) (rows := rowsOf l) (fun x => .str (tx (rowText x))) (fun _ => true) rfl rfl rfl R1 (fun x hx H1 R h => h) (fun x hx H1 Q h => ?_) (fun q H2 S hq => ?_)
    · obtain ⟨h1, h2, h3⟩ := hp.pos x hx
      exact ⟨_, rfl, _, rfl, x.1, x.2, rfl, h1, h2, h⟩
    · rw [filt_all]
      have em : ((rowsOf l).map fun x => V.str (tx (rowText x))) = (((rowsOf l).map rowText).map tx).map V.str := by rw [List.map_map, List.map_map]; rfl
      have ef : ((rowsOf l).map rowText).flatten = fold a := by rw [← List.flatMap_def, rowsOf_sh hp.sh]; rfl
      have hfl := K04.fold_len hp.no hp.la
      rw [em]
      refine ⟨"", q, _, rfl, rfl, SqL.of upd_same, join_oks (by rw [ef]; omega), ?_⟩
      rw [join_txs, ef]
      exact k _ (S1.trans (S.trans (Same.new hq)))
def spSize : Sp := fun vs H Q _ => ∃ (a l : List Nat) (x : Facts), vs = [.str (tx l)] ∧ PicAt a l x ∧ ∀ H', Same H H' → Q (.int ((a.filter noSV).length : Nat)) H'
theorem ok_size_of (F : Fun K "size_of" "size_of" s_size_of f fd) (O : Own mg) (D_understood : Def P w K mg base 6 "understood" ["picture"] (spUnder K c)) : FnOk P w K mg base (CXE P w) 7 f fd ["picture"] spSize := by
  refine okE F sc_size_of (fun vs H Q E h => ?_) (fun cdv A outer s H vs Q E hr h => ?_)
  · obtain ⟨a, l, x, rfl, _⟩ := h
    rfl
  · obtain ⟨a, l, x, rfl, hp, k⟩ := h
    have fr := fram_of (P := P) (w := w) (K := K) (mg := mg) (base := base) (N := ["picture", "rows", "facts"]) (qual := "size_of") (scope := defScope s_size_of) (f := f) (cd := cdv) (A := A) (outer := outer) (s := s) (H := H) (E := E)
    have hx := passes_gen fr
    have hla := hp.la
    have e83 : ("S" : Str) = tx [83] := by decide +kernel
    have e86 : ("V" : Str) = tx [86] := by decide +kernel
    refine ⟨_, (pss_cons (ps_asg (D_understood.pe hr (by decide) rfl hx (pa_cons (pv 0) pa_nil)) (pg_tup rfl (pgs_cons (pg_name (i := 1) sc_size_of.nd rfl (Or.inl rfl)) (pgs_cons (pg_name (i := 2) sc_size_of.nd rfl (Or.inl rfl)) pgs_nil))))
      (pss_one (ps_ret (pe_callB (call_sum rfl) rfl O.sum L2.boot_sum (pa_cons (pe_lcomp (NB := [".0", "symbol", "many"]) rfl ⟨rfl, by decide +kernel, by decide +kernel, by decide +kernel⟩ (pi_list (pv 1)) (fun _ _ _ => (pg_tupK (K0 := K) (n := 2) rfl rfl (pgs_cons (pg_name (i := 1) (show ([".0", "symbol", "many"] : List Str).Nodup by decide +kernel) rfl (Or.inl rfl) (Or.inr rfl)) (pgs_cons (pg_name (i := 2) (show ([".0", "symbol", "many"] : List Str).Nodup by decide +kernel) rfl (Or.inl rfl) (Or.inr rfl)) pgs_nil)))) (fun _ _ _ => (pts_one (PW.pt (pw_and (pt_cmpR op_ne (pv 1) pe_str (nomark _)) (pw_and1 (pt_cmpR op_ne (pv 1) pe_str (nomark _))))))) (fun _ _ _ => (pv 2))) pa_nil))))), ?_⟩
    refine ⟨_, rfl, l, rfl, hp.ll, (fun z => by rw [hp.pc] at z; cases z), fun x2 e q p rs r H1 S1 g1 g2 R1 => ?_⟩
    refine ⟨q, _, rfl, SqT.of g1, rfl, _, _, rfl, _, _, rfl, rfl, ?_⟩
    dsimp only [tRet, tCB, tCons, tNil]
    refine comp_rowsG (p := p) (rs := rs) (rows := rowsOf l) (fun x => .int (x.2 : Nat)) (fun x => noSV x.1) rfl rfl rfl R1 (fun x hx H1 R h => ?_) (fun x hx H1 Q h => ⟨_, rfl, h _ (Same.refl _)⟩) (fun q H2 S hq => ?_)
    · have hd : noSV x.1 = (!decide (x.1 = 83) && !decide (x.1 = 86)) := by
        unfold noSV
        by_cases z1 : x.1 = 83 <;> by_cases z2 : x.1 = 86 <;> simp [z1, z2]
      rw [hd] at h
      refine ⟨_, rfl, rfl, _, rfl, ?_⟩
      rw [e83, sym_dec]
      cases h1 : decide (x.1 = 83) with
      | true => rw [h1] at h; exact iteF h
      | false =>
        rw [h1] at h
        refine iteT ⟨_, rfl, rfl, _, rfl, ?_⟩
        rw [e86, sym_dec]
        exact h
    · have em : (((rowsOf l).filter fun x => noSV x.1).map fun x => V.int (x.2 : Nat)) = (((rowsOf l).filter fun x => noSV x.1).map fun x => ((x.2 : Nat) : Int)).map V.int := by rw [List.map_map]; rfl
      have es : ∀ rows : List Rw, (rows.map fun x => ((x.2 : Nat) : Int)).sum = (((rows.map (·.2)).sum : Nat) : Int) := by
        intro rows
        induction rows with
        | nil => rfl
        | cons y r ih => rw [List.map_cons, List.sum_cons, ih, List.map_cons, List.sum_cons]; push_cast; rfl
      rw [em]
      refine ⟨q, _, rfl, SqL.of upd_same, ?_⟩
      rw [es]
      have := szR_self a
      rw [← rowsOf_sh hp.sh] at this
      unfold szR at this
      rw [this]
      exact k _ (S1.trans (S.trans (Same.new hq)))
theorem end_kind {ld pl : List Nat} {many nines : Nat} {o : Option Nat} {tl : Option (List Nat)} {x : Facts} (h : editedEnd ld pl many nines o tl = some x) : x.kind ≤ 3 := by
  unfold editedEnd at h
  split at h
  · dsimp only at h
    repeat' (split at h)
    all_goals first
      | (cases h; done)
      | (have := Option.some.inj h; rw [← this]; exact Nat.le_refl _)
  · cases h
theorem ed_kind {rows : List Rw} {x : Facts} (h : editedFacts rows = some x) : x.kind ≤ 3 := by
  have e : editedFacts rows = editedEnd (leadOf rows).1 (wholePart (leadOf rows).2).1 (wholePart (leadOf rows).2).2.1 (wholePart (leadOf rows).2).2.2.1 (brokenPart (wholePart (leadOf rows).2).2.2.2 (if (wholePart (leadOf rows).2).2.2.1 = 0 then (wholePart (leadOf rows).2).1 else [57])).1
    (tailOf (brokenPart (wholePart (leadOf rows).2).2.2.2 (if (wholePart (leadOf rows).2).2.2.1 = 0 then (wholePart (leadOf rows).2).1 else [57])).2) := rfl
  rw [e] at h
  exact end_kind h
theorem pic_kind {l : List Nat} {x : Facts} (h : picture l = some x) : x.kind ≤ 3 := by
  unfold picture factsOf at h
  cases e1 : numberFacts (rowsOf l) with
  | some y =>
    rw [e1] at h
    have e : y = x := Option.some.inj h
    subst e
    unfold numberFacts at e1
    split at e1
    · split at e1
      · split at e1
        · cases e1
        · cases e1; exact (show (2 : Nat) ≤ 3 by decide)
      · cases e1
    · cases e1
  | none =>
    rw [e1] at h
    cases e2 : plainFacts (rowsOf l) with
    | some y =>
      rw [e2] at h
      have e : y = x := Option.some.inj h
      subst e
      unfold plainFacts at e2
      split at e2
      · split at e2
        · cases e2
        · cases e2; show (if _ then 0 else 1) ≤ 3; split <;> decide
      · cases e2
    | none =>
      rw [e2] at h
      exact ed_kind h
def spRoom (c : Nat → Addr) : Sp := fun vs H Q E => ∃ (l : List Nat) (x : Facts), vs = [.str (tx l)] ∧ picture l = some x ∧ l.length ≤ 500 ∧ (x.kind ≤ 1 → ∀ H', Same H H' → E (.ref (c 2)) none H') ∧ (2 ≤ x.kind → x.kind ≤ 3 → ∀ q H', Same H H' → H q = none → H' q = some (.tup [.bl x.signed, .int (x.before : Nat), .int (x.behind : Nat)]) → Q (.ref q) H')
theorem kinds_ne : ∀ a ≤ 3, ∀ b ≤ 3, decide (V.str (kindS a) = V.str (kindS b)) = decide (a = b) := by decide +kernel
theorem same_free {H H' : Hp} {q : Addr} (S : Same H H') (h : H' q = none) : H q = none := by
  cases e : H q with
  | none => rfl
  | some o => rw [S _ _ e] at h; cases h
theorem ok_room (F : Fun K "room" "room" s_room f fd) (T : Txt K mg tk c kr) (D_understood : Def P w K mg base 6 "understood" ["picture"] (spUnder K c)) : FnOk P w K mg base (CXE P w) 7 f fd ["picture"] (spRoom c) := by
  refine okE F sc_room (fun vs H Q E h => ?_) (fun cdv A outer s H vs Q E hr h => ?_)
  · obtain ⟨l, x, rfl, _⟩ := h
    rfl
  · obtain ⟨l, x, rfl, hp, hl, k1, k2⟩ := h
    have hz : 1000 ≤ sizeLine := by decide
    have fr := fram_of (P := P) (w := w) (K := K) (mg := mg) (base := base) (N := ["picture", "rows", "facts", "kind", "signed", "before", "behind"]) (qual := "room") (scope := defScope s_room) (f := f) (cd := cdv) (A := A) (outer := outer) (s := s) (H := H) (E := E)
    have ht := takes_gen fr
    have hx := passes_gen fr
    refine ⟨_, (pss_cons (ps_asg (D_understood.pe hr (by decide) rfl hx (pa_cons (pv 0) pa_nil)) (pg_tup rfl (pgs_cons (pg_name (i := 1) sc_room.nd rfl (Or.inl rfl)) (pgs_cons (pg_name (i := 2) sc_room.nd rfl (Or.inl rfl)) pgs_nil))))
      (pss_cons (ps_asg (pv 2) (pg_tup rfl (pgs_cons (pg_name (i := 3) sc_room.nd rfl (Or.inl rfl)) (pgs_cons (pg_name (i := 4) sc_room.nd rfl (Or.inl rfl)) (pgs_cons (pg_name (i := 5) sc_room.nd rfl (Or.inl rfl)) (pgs_cons (pg_name (i := 6) sc_room.nd rfl (Or.inl rfl)) pgs_nil))))))
      (pss_cons (ps_if (PW.pt (pw_or (pt_cmpR op_eq (pv 3) pe_str (nomark _)) (pw_or1 (pt_cmpR op_eq (pv 3) pe_str (nomark _))))) (pss_one (ps_raise ht rfl rfl T.m_NoRoom T.e_NoRoom (pa_cons pe_str pa_nil))) pss_nil)
      (pss_one (ps_ret (pe_tup (pa_cons (pv 4) (pa_cons (pv 5) (pa_cons (pv 6) pa_nil))))))))), ?_⟩
    refine ⟨_, rfl, l, rfl, hl, (fun z => by rw [hp] at z; cases z), fun x2 e q p rs r H1 S1 g1 g2 R1 => ?_⟩
    obtain rfl : x = x2 := by rw [hp] at e; exact Option.some.inj e
    refine ⟨q, _, rfl, SqT.of g1, rfl, _, _, rfl, _, _, rfl, rfl, ?_⟩
    refine ⟨_, rfl, r, _, rfl, SqT.of g2, rfl, _, _, rfl, _, _, rfl, _, _, rfl, _, _, rfl, rfl, ?_⟩
    have hk3 : x.kind ≤ 3 := pic_kind hp
    refine ⟨_, rfl, rfl, _, rfl, ?_⟩
    rw [show V.str "text" = V.str (kindS 0) from rfl, kinds_ne _ hk3 0 (by decide)]
    by_cases h0 : x.kind = 0
    · rw [decide_eq_true h0]
      exact iteT (iteT ⟨by show 1 ≤ sizeLine; omega, k1 (by omega) _ S1⟩)
    · rw [decide_eq_false h0]
      refine iteF ⟨_, rfl, rfl, _, rfl, ?_⟩
      rw [show V.str "letters" = V.str (kindS 1) from rfl, kinds_ne _ hk3 1 (by decide)]
      by_cases h1 : x.kind = 1
      · rw [decide_eq_true h1]
        exact iteT ⟨by show 1 ≤ sizeLine; omega, k1 (by omega) _ S1⟩
      · rw [decide_eq_false h1]
        refine iteF ⟨_, rfl, _, rfl, _, rfl, by show 3 ≤ sizeLine; omega, fun q2 hq2 => ?_⟩
        exact k2 (by omega) hk3 q2 _ (S1.trans (Same.new hq2)) (same_free S1 hq2) upd_same
end
end Lw

set_option Elab.async false
set_option linter.all false
set_option maxRecDepth 100000
namespace Lw
open PySem PySem.Spec PyProof.Rows L2 K02
section
variable {P : Program} {w : World} {K : PySem.W.Frag} {mg : Str → Option Value} {base : Heap} {f : Addr} {fd : FuncData} {tk : Nat → Tok} {c kr : Nat → Addr}
/-! ### the law's own defs -/
theorem tru_list {H : Hp} {a : Addr} {ns : List Int} (h : SqL K H a (ns.map V.int)) : TruV K (.ref a) H (!ns.isEmpty) := .inl ⟨_, h, by cases ns <;> rfl⟩
theorem ok__law_draw (F : Fun K "_law_draw" "_law_draw" s__law_draw f fd) (O : Own mg) : FnOk P w K mg base (CXE P w) 1 f fd ["_law_script", "_law_town", "_law_many"] (spDraw K) := by
  refine okN F sc__law_draw (fun vs H Q E h => ?_) (fun cdv A outer s H vs Q E hr h => ?_)
  · obtain ⟨a, t, r, ns, c, many, rs, rfl, _⟩ := h
    rfl
  · obtain ⟨a, t, r, ns, c, many, rs, rfl, hS, T, nat, nar, hl, hc, hm0, hm1, k⟩ := h
    have hu := hu_of hr
    have T1 : TownAt (upd H t (.dK [(Sum.inr "count", .int (c + 1)), (Sum.inr "rests", .ref r)])) t r (c + 1) rs := ⟨upd_same, by rw [upd_ne T.ne.symm]; exact T.rt, T.vs, by have := T.c0; omega, by have := T.ln; omega, T.ne⟩
    have hS1 := hS.upd (o := .dK [(Sum.inr "count", .int (c + 1)), (Sum.inr "rests", .ref r)]) nat
    have A1 : Apart t r H (upd H t (.dK [(Sum.inr "count", .int (c + 1)), (Sum.inr "rests", .ref r)])) := fun b o e n1 n2 => by rw [upd_ne n1]; exact e
    refine ⟨_, (pss_cons (ps_dput hu (pv 1) pe_str (pe_op op_add (pe_dget hu (pv 1) pe_str (fun _ _ => rfl)) pe_int) rfl)
      (pss_cons (ps_set (i := 3) sc__law_draw.nd rfl (Or.inl rfl) (pe_ifExp (pt_truth (pv 0) (fun _ => rfl)) (pe_op op_mod (pe_dget hu (pv 1) pe_str (fun _ _ => rfl)) (pe_callB call_len_seq rfl O.len PySem.boot_len (pa_cons (pv 0) pa_nil))) pe_int))
      (pss_cons (ps_set (i := 4) sc__law_draw.nd rfl (Or.inl rfl) (pe_dget2 hu (pe_dget hu (pv 1) pe_str (fun _ _ => rfl)) (pv 3) (pe_ifExp (pt_truth (pv 0) (fun _ => rfl)) (pe_ix ix_list (pv 0) (pv 3) (fun _ _ => rfl)) pe_int) ⟨rfl, rfl, rfl, rfl⟩))
      (pss_cons (ps_if (pt_cmpR op_ge (pv 4) (pe_op op_pow pe_int pe_int) (nomark _)) (pss_cons (ps_dput hu (pe_dget hu (pv 1) pe_str (fun _ _ => rfl)) (pv 3) (pe_op op_fdiv (pv 4) (pv 2)) rfl)
      (pss_one (ps_ret (pe_op op_mod (pv 4) (pv 2))))) pss_nil)
      (pss_cons (ps_set (i := 5) sc__law_draw.nd rfl (Or.inl rfl) (pe_op op_mod (pe_op op_add (pv 4) (pe_op op_mul pe_int (pe_dget hu (pv 1) pe_str (fun _ _ => rfl)))) pe_int))
      (pss_cons (ps_set (i := 5) sc__law_draw.nd rfl (Or.inl rfl) (pe_op op_mod (pe_op op_pow (pv 5) pe_int) pe_int))
      (pss_one (ps_ret (pe_op op_mod (pe_op op_fdiv (pe_op op_mod (pe_op op_add (pe_op op_mul (pe_op op_fdiv (pv 5) pe_int) pe_int) (pv 5)) pe_int) pe_int) (pv 2)))))))))), ?_⟩
    refine ⟨_, rfl, t, _, rfl, dget_count T.tw, _, _, rfl, rfl, _, rfl, t, _, rfl, dput_count _ T.tw, ?_⟩
    refine ⟨_, rfl, _, tru_list hS1, ?_⟩
    refine ifB (fun hz => ?_) (fun hz => ?_)
    · have hp : 0 < ns.length := by cases ns with | nil => cases hz | cons a r => exact Nat.succ_pos _
      have hp' : (0 : Int) < ((ns.map V.int).length : Int) := by rw [List.length_map]; omega
      refine ⟨_, rfl, t, _, rfl, dget_count T1.tw, _, rfl, a, _, rfl, .inl hS1, _, _, rfl, rfl, hp', ?_⟩
      have m1 := Int.emod_nonneg (c + 1) (Int.ne_of_gt hp')
      have m2 := Int.emod_lt_of_pos (c + 1) hp'
      obtain ⟨j, hj⟩ := Int.eq_ofNat_of_zero_le m1
      have hjl : j < ns.length := by rw [hj, List.length_map] at m2; omega
      refine ⟨_, rfl, t, _, rfl, dget_rests T1.tw, r, rfl, .inl ⟨rs, .inl T1.rt⟩, _, rfl, _, rfl, _, tru_list hS1, ?_⟩
      rw [hz]
      refine iteT ⟨_, rfl, _, rfl, a, _, _, V.int ns[j], rfl, rfl, hS1, ?_, _, DGet.k (k := Sum.inl ((c + 1) % ((ns.map V.int).length : Int))) T1.rt, ?_⟩
      · show atI (ns.map V.int) ((c + 1) % ((ns.map V.int).length : Int)) = _
        rw [hj]
        refine atI_nat ?_
        rw [List.getElem?_map, List.getElem?_eq_getElem hjl]
        rfl
      obtain ⟨z, hz⟩ := rests_val T1.vs ((c + 1) % ((ns.map V.int).length : Int)) (ns[j])
      rw [hz]
      refine ⟨_, rfl, _, _, rfl, rfl, ⟨by decide, by decide, by decide⟩, _, _, rfl, rfl, _, rfl, ?_⟩
      refine ifB (fun g => ?_) (fun g => ?_)
      · have P2 := rests_put T1.vs ((c + 1) % ((ns.map V.int).length : Int)) (z / many)
        refine ⟨_, rfl, _, rfl, _, _, rfl, rfl, ⟨hm0, by omega⟩, _, rfl, t, _, rfl, dget_rests T1.tw, _, rfl, r, _, rfl, DPut.k (k := Sum.inl ((c + 1) % ((ns.map V.int).length : Int))) T1.rt (Nat.lt_of_lt_of_le (m := 100001) (by have := T.ln; omega) (by decide)), ?_⟩
        refine ⟨_, rfl, _, rfl, _, _, rfl, rfl, hm0, ?_⟩
        refine k _ (putK rs (Sum.inl ((c + 1) % ((ns.map V.int).length : Int))) (.int (z / many))) _ (Int.emod_nonneg _ (Int.ne_of_gt hm0)) (Int.emod_lt_of_pos _ hm0) ⟨?_, upd_same, P2.1, T1.c0, ?_, T.ne⟩ (A1.trans fun b o e n1 n2 => by rw [upd_ne n2]; exact e)
        · rw [upd_ne T.ne]; exact T1.tw
        · have := P2.2
          have := T.ln
          omega
      · refine ⟨_, rfl, _, rfl, t, _, rfl, dget_count T1.tw, _, _, rfl, rfl, .inl ⟨by decide, by decide⟩, _, _, rfl, rfl, _, _, rfl, rfl, (show (0 : Int) < 4294967291 by decide), ?_⟩
        have n1 := Int.emod_nonneg (z + 104729 * (c + 1)) (show (4294967291 : Int) ≠ 0 by decide)
        have n2 := Int.emod_lt_of_pos (z + 104729 * (c + 1)) (show (0 : Int) < 4294967291 by decide)
        refine ⟨_, rfl, _, _, rfl, rfl, ⟨by decide, by decide, by show Int.natAbs _ < 2 ^ 64; omega⟩, _, _, rfl, rfl, (show (0 : Int) < 4294967279 by decide), ?_⟩
        refine ⟨_, rfl, _, _, rfl, rfl, ⟨by decide, by decide⟩, _, _, rfl, rfl, .inr ⟨by decide, by decide⟩, _, rfl, _, _, rfl, rfl, _, _, rfl, rfl, (show (0 : Int) < 4294967231 by decide), _, _, rfl, rfl, ⟨by decide, by decide⟩, _, rfl, _, _, rfl, rfl, hm0, ?_⟩
        exact k _ rs _ (Int.emod_nonneg _ (Int.ne_of_gt hm0)) (Int.emod_lt_of_pos _ hm0) T1 A1
    · refine ⟨_, rfl, t, _, rfl, dget_rests T1.tw, r, rfl, .inl ⟨rs, .inl T1.rt⟩, _, rfl, _, rfl, _, tru_list hS1, ?_⟩
      rw [hz]
      refine iteF ⟨_, DGet.k (k := Sum.inl (0 : Int)) T1.rt, ?_⟩
      obtain ⟨z, hz⟩ := rests_val T1.vs ((0 : Int)) (0)
      rw [hz]
      refine ⟨_, rfl, _, _, rfl, rfl, ⟨by decide, by decide, by decide⟩, _, _, rfl, rfl, _, rfl, ?_⟩
      refine ifB (fun g => ?_) (fun g => ?_)
      · have P2 := rests_put T1.vs ((0 : Int)) (z / many)
        refine ⟨_, rfl, _, rfl, _, _, rfl, rfl, ⟨hm0, by omega⟩, _, rfl, t, _, rfl, dget_rests T1.tw, _, rfl, r, _, rfl, DPut.k (k := Sum.inl ((0 : Int))) T1.rt (Nat.lt_of_lt_of_le (m := 100001) (by have := T.ln; omega) (by decide)), ?_⟩
        refine ⟨_, rfl, _, rfl, _, _, rfl, rfl, hm0, ?_⟩
        refine k _ (putK rs (Sum.inl ((0 : Int))) (.int (z / many))) _ (Int.emod_nonneg _ (Int.ne_of_gt hm0)) (Int.emod_lt_of_pos _ hm0) ⟨?_, upd_same, P2.1, T1.c0, ?_, T.ne⟩ (A1.trans fun b o e n1 n2 => by rw [upd_ne n2]; exact e)
        · rw [upd_ne T.ne]; exact T1.tw
        · have := P2.2
          have := T.ln
          omega
      · refine ⟨_, rfl, _, rfl, t, _, rfl, dget_count T1.tw, _, _, rfl, rfl, .inl ⟨by decide, by decide⟩, _, _, rfl, rfl, _, _, rfl, rfl, (show (0 : Int) < 4294967291 by decide), ?_⟩
        have n1 := Int.emod_nonneg (z + 104729 * (c + 1)) (show (4294967291 : Int) ≠ 0 by decide)
        have n2 := Int.emod_lt_of_pos (z + 104729 * (c + 1)) (show (0 : Int) < 4294967291 by decide)
        refine ⟨_, rfl, _, _, rfl, rfl, ⟨by decide, by decide, by show Int.natAbs _ < 2 ^ 64; omega⟩, _, _, rfl, rfl, (show (0 : Int) < 4294967279 by decide), ?_⟩
        refine ⟨_, rfl, _, _, rfl, rfl, ⟨by decide, by decide⟩, _, _, rfl, rfl, .inr ⟨by decide, by decide⟩, _, rfl, _, _, rfl, rfl, _, _, rfl, rfl, (show (0 : Int) < 4294967231 by decide), _, _, rfl, rfl, ⟨by decide, by decide⟩, _, rfl, _, _, rfl, rfl, hm0, ?_⟩
        exact k _ rs _ (Int.emod_nonneg _ (Int.ne_of_gt hm0)) (Int.emod_lt_of_pos _ hm0) T1 A1
theorem ok__law_begun (F : Fun K "_law_begun" "_law_begun" s__law_begun f fd) : FnOk P w K mg base (CXE P w) 1 f fd [] spBegun := by
  refine okNx F sc__law_begun (fun vs H Q E h => ?_) (fun cdv A outer s H vs Q E hr h => ?_)
  · obtain ⟨rfl, _⟩ := h
    rfl
  · obtain ⟨rfl, k⟩ := h
    refine ⟨_, begun_body, ?_⟩
    intro p hp d hd
    have npd : d ≠ p := fun z => by rw [z, upd_same] at hd; cases hd
    have hd0 : H d = none := by rw [upd_ne npd] at hd; exact hd
    refine ⟨by rw [upd_ne npd.symm, upd_same], [(Sum.inr "count", .int 0), (Sum.inr "rests", .ref d)], rfl, Nat.le_of_ble_eq_true rfl, ?_⟩
    have e : mergeK [] [((Sum.inr "count" : Key), V.int 0), ((Sum.inr "rests" : Key), V.ref d)] = [((Sum.inr "count" : Key), V.int 0), ((Sum.inr "rests" : Key), V.ref d)] := by
      have h : ¬ ((Sum.inr "count" : Key) = (Sum.inr "rests" : Key)) := cnt_ne
      unfold mergeK putK
      simp [h]
    rw [e]
    refine k p d _ hp hd0 ⟨upd_same, by rw [upd_ne npd, upd_same], (fun kv hm => nomatch hm), by decide, by decide, npd.symm⟩ fun b o z => ?_
    rw [upd_ne (ne_of_none z hp), upd_ne (ne_of_none z hd0), upd_ne (ne_of_none z hp)]
    exact z
end
/-- which of the fourteen errors a class is -/
structure Kind (K : PySem.W.Frag) (c : Nat → Addr) (i : Nat) : Prop where
  lo : 1 ≤ i
  hi : i ≤ 14
  er : ErrK K (c i)
  ki : ∀ j, j < 14 → PySem.W.kitOne K (.ref (c i)) (.ref (c (j + 1))) = some (decide (j + 1 = i))
  va : PySem.W.kitOne K (.ref (c i)) (.type "ValueError") = some true
  bo : PySem.W.exmOne K (.ref (c i)) (.ref (c 0)) = some true
def nmOf (i : Nat) : Str := (["no picture", "no room", "no quotient", "no text", "no figures", "no letters", "no move", "no path", "no amount", "no group", "bad size", "no back", "bad row", "closed"] : List Str).getD (i - 1) ""
def kinds (i : Nat) : List V := [.bl (decide (0 + 1 = i)), .bl (decide (1 + 1 = i)), .bl (decide (2 + 1 = i)), .bl (decide (3 + 1 = i)), .bl (decide (4 + 1 = i)), .bl (decide (5 + 1 = i)), .bl (decide (6 + 1 = i)), .bl (decide (7 + 1 = i)), .bl (decide (8 + 1 = i)), .bl (decide (9 + 1 = i)), .bl (decide (10 + 1 = i)), .bl (decide (11 + 1 = i)), .bl (decide (12 + 1 = i)), .bl (decide (13 + 1 = i))]
theorem kinds_count : ∀ i, i < 15 → 1 ≤ i → (kinds i).countP (fun z => eqV z (.bl true)) = 1 := by decide
theorem kinds_at : ∀ i, i < 15 → 1 ≤ i → (kinds i)[i - 1]? = some (.bl true) := by decide
theorem kinds_no : ∀ i, i < 15 → 1 ≤ i → ∀ j, j < i - 1 → (kinds i)[j]? = some (.bl false) := by decide
theorem kinds_flat (i : Nat) : (kinds i).all flatV = true := rfl
def nms : List V := [.str "no picture", .str "no room", .str "no quotient", .str "no text", .str "no figures", .str "no letters", .str "no move", .str "no path", .str "no amount", .str "no group", .str "bad size", .str "no back", .str "bad row", .str "closed"]
theorem nms_at : ∀ i, i < 15 → 1 ≤ i → nms[i - 1]? = some (.str (nmOf i)) := by decide
/-- the one word of a refusal -/
def spClass (K : PySem.W.Frag) (c : Nat → Addr) : Sp := fun vs H Q _ => ∃ (a : Addr) (i : Nat), vs = [.ref a] ∧ H a = some (excO a (.ref (c i))) ∧ Kind K c i ∧ ∀ H', Same H H' → Q (.str (nmOf i)) H'
section
variable {P : Program} {w : World} {K : PySem.W.Frag} {mg : Str → Option Value} {base : Heap} {f : Addr} {fd : FuncData} {tk : Nat → Tok} {c kr : Nat → Addr}
set_option maxHeartbeats 8000000 in
theorem ok__law_class (F : Fun K "_law_class" "_law_class" s__law_class f fd) (O : Own mg) (T : Txt K mg tk c kr) : FnOk P w K mg base (CXE P w) 1 f fd ["_law_kept"] (spClass K c) := by
  refine okN F sc__law_class (fun vs H Q E h => ?_) (fun cdv A outer s H vs Q E hr h => ?_)
  · obtain ⟨a, i, rfl, _⟩ := h
    rfl
  · obtain ⟨a, i, rfl, hH, G, k⟩ := h
    have isi : ∀ (H1 : Hp) (j : Nat), Same H H1 → j < 14 → (∃ t, TyOf K H1 (.ref a) t ∧ PySem.W.kitOne K t (clsV (.ref (c (j + 1)))) = some (decide (j + 1 = i))) ∨ ∃ b C, V.ref a = .ref b ∧ H1 b = some (excO b (.ref C)) ∧ ErrK K C ∧ PySem.W.kitOne K (.ref C) (clsV (.ref (c (j + 1)))) = some (decide (j + 1 = i)) :=
      fun H1 j e hj => .inr ⟨a, c i, rfl, e _ _ hH, G.er, G.ki j hj⟩
    refine ⟨_, (pss_cons (ps_set (i := 1) sc__law_class.nd rfl (Or.inl rfl) (pe_lst (pa_cons (pe_callB call_isi rfl O.isi PyProof.Rows.boot_isinstance (pa_cons (pv 0) (pa_cons (pe_glob (v := V.ref (c 1)) rfl T.m_NoPicture rfl) pa_nil))) (pa_cons (pe_callB call_isi rfl O.isi PyProof.Rows.boot_isinstance (pa_cons (pv 0) (pa_cons (pe_glob (v := V.ref (c 2)) rfl T.m_NoRoom rfl) pa_nil))) (pa_cons (pe_callB call_isi rfl O.isi PyProof.Rows.boot_isinstance (pa_cons (pv 0) (pa_cons (pe_glob (v := V.ref (c 3)) rfl T.m_NoQuotient rfl) pa_nil))) pa_nil)))))
      (pss_cons (ps_set (i := 1) sc__law_class.nd rfl (Or.inl rfl) (pe_op op_cat (pv 1) (pe_lst (pa_cons (pe_callB call_isi rfl O.isi PyProof.Rows.boot_isinstance (pa_cons (pv 0) (pa_cons (pe_glob (v := V.ref (c 4)) rfl T.m_NoText rfl) pa_nil))) (pa_cons (pe_callB call_isi rfl O.isi PyProof.Rows.boot_isinstance (pa_cons (pv 0) (pa_cons (pe_glob (v := V.ref (c 5)) rfl T.m_NoFigures rfl) pa_nil))) (pa_cons (pe_callB call_isi rfl O.isi PyProof.Rows.boot_isinstance (pa_cons (pv 0) (pa_cons (pe_glob (v := V.ref (c 6)) rfl T.m_NoLetters rfl) pa_nil))) pa_nil))))))
      (pss_cons (ps_set (i := 1) sc__law_class.nd rfl (Or.inl rfl) (pe_op op_cat (pv 1) (pe_lst (pa_cons (pe_callB call_isi rfl O.isi PyProof.Rows.boot_isinstance (pa_cons (pv 0) (pa_cons (pe_glob (v := V.ref (c 7)) rfl T.m_NoMove rfl) pa_nil))) (pa_cons (pe_callB call_isi rfl O.isi PyProof.Rows.boot_isinstance (pa_cons (pv 0) (pa_cons (pe_glob (v := V.ref (c 8)) rfl T.m_NoPath rfl) pa_nil))) (pa_cons (pe_callB call_isi rfl O.isi PyProof.Rows.boot_isinstance (pa_cons (pv 0) (pa_cons (pe_glob (v := V.ref (c 9)) rfl T.m_NoAmount rfl) pa_nil))) pa_nil))))))
      (pss_cons (ps_set (i := 1) sc__law_class.nd rfl (Or.inl rfl) (pe_op op_cat (pv 1) (pe_lst (pa_cons (pe_callB call_isi rfl O.isi PyProof.Rows.boot_isinstance (pa_cons (pv 0) (pa_cons (pe_glob (v := V.ref (c 10)) rfl T.m_NoGroup rfl) pa_nil))) (pa_cons (pe_callB call_isi rfl O.isi PyProof.Rows.boot_isinstance (pa_cons (pv 0) (pa_cons (pe_glob (v := V.ref (c 11)) rfl T.m_BadSize rfl) pa_nil))) (pa_cons (pe_callB call_isi rfl O.isi PyProof.Rows.boot_isinstance (pa_cons (pv 0) (pa_cons (pe_glob (v := V.ref (c 12)) rfl T.m_NoBack rfl) pa_nil))) pa_nil))))))
      (pss_cons (ps_set (i := 1) sc__law_class.nd rfl (Or.inl rfl) (pe_op op_cat (pv 1) (pe_lst (pa_cons (pe_callB call_isi rfl O.isi PyProof.Rows.boot_isinstance (pa_cons (pv 0) (pa_cons (pe_glob (v := V.ref (c 13)) rfl T.m_BadRow rfl) pa_nil))) (pa_cons (pe_callB call_isi rfl O.isi PyProof.Rows.boot_isinstance (pa_cons (pv 0) (pa_cons (pe_glob (v := V.ref (c 14)) rfl T.m_Closed rfl) pa_nil))) pa_nil)))))
      (pss_cons (ps_if (PW.pt (pw_or (pt_cmpR op_ne (pe_bm PySem.F.plainAttrs_list PySem.F.slot_list_count PySem.F.type_list_count mt_count (pv 1) (pa_cons pe_bl pa_nil)) pe_int (nomark _)) (pw_or1 (pt_not (pt_val (pe_callB call_isi rfl O.isi PyProof.Rows.boot_isinstance (pa_cons (pv 0) (pa_cons (pe_bltn (v := V.ty "ValueError") rfl O.val PyProof.Rows.Boot.«ValueError» rfl) pa_nil)))))))) (pss_one (ps_ret pe_str)) pss_nil)
      (pss_cons (ps_set (i := 2) sc__law_class.nd rfl (Or.inl rfl) (pe_lst (pa_cons pe_str (pa_cons pe_str (pa_cons pe_str (pa_cons pe_str (pa_cons pe_str (pa_cons pe_str (pa_cons pe_str (pa_cons pe_str pa_nil))))))))))
      (pss_one (ps_ret (pe_ix ix_list (pe_op op_cat (pv 2) (pe_lst (pa_cons pe_str (pa_cons pe_str (pa_cons pe_str (pa_cons pe_str (pa_cons pe_str (pa_cons pe_str pa_nil)))))))) (pe_bm PySem.F.plainAttrs_list PySem.F.slot_list_index PySem.F.type_list_index mt_index (pv 1) (pa_cons pe_bl pa_nil)) (fun _ _ => rfl))))))))))), ?_⟩
    have e0 := Same.refl H
    refine ⟨_, rfl, _, _, _, rfl, rfl, isi _ 0 e0 (by decide), _, rfl, _, _, _, rfl, rfl, isi _ 1 e0 (by decide), _, rfl, _, _, _, rfl, rfl, isi _ 2 e0 (by decide), by show 3 ≤ sizeLine; decide, fun p1 h1 => ?_⟩
    generalize hG : upd H p1 _ = H1
    have e1 : Same H H1 := by rw [← hG]; exact Same.new h1
    have g1 : H1 p1 = some (.lst [.bl (decide (0 + 1 = i)), .bl (decide (1 + 1 = i)), .bl (decide (2 + 1 = i))]) := by rw [← hG]; exact upd_same
    clear hG h1
    refine ⟨_, rfl, _, rfl, _, _, _, rfl, rfl, isi _ 3 e1 (by decide), _, rfl, _, _, _, rfl, rfl, isi _ 4 e1 (by decide), _, rfl, _, _, _, rfl, rfl, isi _ 5 e1 (by decide), by show 3 ≤ sizeLine; decide, fun q2 h2 => ⟨p1, q2, _, _, rfl, rfl, by rw [upd_ne (ne_of_none g1 h2)]; exact g1, upd_same, by show 6 ≤ sizeLine; decide, fun p2 h3 => ?_⟩⟩
    generalize hG : upd (upd H1 q2 _) p2 _ = H2
    have e2 : Same H H2 := by rw [← hG]; exact (e1.trans (Same.new h2)).trans (Same.new h3)
    have g2 : H2 p2 = some (.lst [.bl (decide (0 + 1 = i)), .bl (decide (1 + 1 = i)), .bl (decide (2 + 1 = i)), .bl (decide (3 + 1 = i)), .bl (decide (4 + 1 = i)), .bl (decide (5 + 1 = i))]) := by rw [← hG]; exact upd_same
    clear hG h2 h3
    refine ⟨_, rfl, _, rfl, _, _, _, rfl, rfl, isi _ 6 e2 (by decide), _, rfl, _, _, _, rfl, rfl, isi _ 7 e2 (by decide), _, rfl, _, _, _, rfl, rfl, isi _ 8 e2 (by decide), by show 3 ≤ sizeLine; decide, fun q3 h2 => ⟨p2, q3, _, _, rfl, rfl, by rw [upd_ne (ne_of_none g2 h2)]; exact g2, upd_same, by show 9 ≤ sizeLine; decide, fun p3 h3 => ?_⟩⟩
    generalize hG : upd (upd H2 q3 _) p3 _ = H3
    have e3 : Same H H3 := by rw [← hG]; exact (e2.trans (Same.new h2)).trans (Same.new h3)
    have g3 : H3 p3 = some (.lst [.bl (decide (0 + 1 = i)), .bl (decide (1 + 1 = i)), .bl (decide (2 + 1 = i)), .bl (decide (3 + 1 = i)), .bl (decide (4 + 1 = i)), .bl (decide (5 + 1 = i)), .bl (decide (6 + 1 = i)), .bl (decide (7 + 1 = i)), .bl (decide (8 + 1 = i))]) := by rw [← hG]; exact upd_same
    clear hG h2 h3
    refine ⟨_, rfl, _, rfl, _, _, _, rfl, rfl, isi _ 9 e3 (by decide), _, rfl, _, _, _, rfl, rfl, isi _ 10 e3 (by decide), _, rfl, _, _, _, rfl, rfl, isi _ 11 e3 (by decide), by show 3 ≤ sizeLine; decide, fun q4 h2 => ⟨p3, q4, _, _, rfl, rfl, by rw [upd_ne (ne_of_none g3 h2)]; exact g3, upd_same, by show 12 ≤ sizeLine; decide, fun p4 h3 => ?_⟩⟩
    generalize hG : upd (upd H3 q4 _) p4 _ = H4
    have e4 : Same H H4 := by rw [← hG]; exact (e3.trans (Same.new h2)).trans (Same.new h3)
    have g4 : H4 p4 = some (.lst [.bl (decide (0 + 1 = i)), .bl (decide (1 + 1 = i)), .bl (decide (2 + 1 = i)), .bl (decide (3 + 1 = i)), .bl (decide (4 + 1 = i)), .bl (decide (5 + 1 = i)), .bl (decide (6 + 1 = i)), .bl (decide (7 + 1 = i)), .bl (decide (8 + 1 = i)), .bl (decide (9 + 1 = i)), .bl (decide (10 + 1 = i)), .bl (decide (11 + 1 = i))]) := by rw [← hG]; exact upd_same
    clear hG h2 h3
    refine ⟨_, rfl, _, rfl, _, _, _, rfl, rfl, isi _ 12 e4 (by decide), _, rfl, _, _, _, rfl, rfl, isi _ 13 e4 (by decide), by show 2 ≤ sizeLine; decide, fun q5 h2 => ⟨p4, q5, _, _, rfl, rfl, by rw [upd_ne (ne_of_none g4 h2)]; exact g4, upd_same, by show 14 ≤ sizeLine; decide, fun p5 h3 => ?_⟩⟩
    generalize hG : upd (upd H4 q5 _) p5 _ = H5
    have e5 : Same H H5 := by rw [← hG]; exact (e4.trans (Same.new h2)).trans (Same.new h3)
    have g5 : H5 p5 = some (.lst [.bl (decide (0 + 1 = i)), .bl (decide (1 + 1 = i)), .bl (decide (2 + 1 = i)), .bl (decide (3 + 1 = i)), .bl (decide (4 + 1 = i)), .bl (decide (5 + 1 = i)), .bl (decide (6 + 1 = i)), .bl (decide (7 + 1 = i)), .bl (decide (8 + 1 = i)), .bl (decide (9 + 1 = i)), .bl (decide (10 + 1 = i)), .bl (decide (11 + 1 = i)), .bl (decide (12 + 1 = i)), .bl (decide (13 + 1 = i))]) := by rw [← hG]; exact upd_same
    clear hG h2 h3
    have hi : i < 15 := by have := G.hi; omega
    have g6 : H5 p5 = some (.lst (kinds i)) := g5
    clear g5
    have ty5 : ∀ H' : Hp, H' p5 = some (.lst (kinds i)) → tyV K "list" (V.ref p5) H' := fun H' g => .inl ⟨rfl, _, .inl (.inl g)⟩
    refine ⟨_, rfl, ty5 _ g6, p5, kinds i, _, rfl, rfl, g6, rfl, kinds_flat i, ?_⟩
    rw [kinds_count i hi G.lo]
    refine ⟨rfl, _, rfl, ?_⟩
    refine ifB (fun z => absurd z (by decide)) (fun _ => ?_)
    refine ⟨_, rfl, _, _, _, rfl, rfl, .inr ⟨a, c i, rfl, e5 _ _ hH, G.er, G.va⟩, _, rfl, ?_⟩
    refine ifB (fun z => absurd z (by decide)) (fun _ => ?_)
    refine ⟨by show 8 ≤ sizeLine; decide, fun p6 h6 => ?_⟩
    generalize hG : upd H5 p6 _ = H6
    have e6 : Same H H6 := by rw [← hG]; exact e5.trans (Same.new h6)
    have k6 : H6 p5 = some (.lst (kinds i)) := by rw [← hG, upd_ne (ne_of_none g6 h6)]; exact g6
    have g7 : H6 p6 = some (.lst [.str "no picture", .str "no room", .str "no quotient", .str "no text", .str "no figures", .str "no letters", .str "no move", .str "no path"]) := by rw [← hG]; exact upd_same
    clear hG h6 g6
    refine ⟨_, rfl, by show 6 ≤ sizeLine; decide, fun q6 h7 => ⟨p6, q6, _, _, rfl, rfl, by rw [upd_ne (ne_of_none g7 h7)]; exact g7, upd_same, by show 14 ≤ sizeLine; decide, fun p7 h8 => ?_⟩⟩
    generalize hG : upd (upd H6 q6 _) p7 _ = H7
    have e7 : Same H H7 := by rw [← hG]; exact (e6.trans (Same.new h7)).trans (Same.new h8)
    have k7 : H7 p5 = some (.lst (kinds i)) := by
      have z : Same H6 H7 := by rw [← hG]; exact (Same.new h7).trans (Same.new h8)
      exact z _ _ k6
    have g8 : H7 p7 = some (.lst nms) := by rw [← hG]; exact upd_same
    clear hG h7 h8
    refine ⟨_, rfl, ty5 _ k7, p5, kinds i, _, i - 1, rfl, rfl, k7, rfl, kinds_flat i, ⟨_, kinds_at i hi G.lo, rfl⟩, fun j z hj hz => ?_, p7, nms, _, .str (nmOf i), rfl, rfl, .inl (.inl g8), atI_nat (nms_at i hi G.lo), k _ e7⟩
    rw [kinds_no i hi G.lo j hj] at hz
    cases hz
    rfl
end
/-- what is heard of a deed: told, or the word of its refusal -/
def tHd (K : PySem.W.Frag) (c : Nat → Addr) (te : XK → TE) : L2.St → Hp → VK → Prop := fun σ H1 Q => ∀ H0, Same H1 H0 →
  te (fun cls _ H2 => ∃ i, cls = .ref (c i) ∧ Kind K c i ∧ ∀ a p H3, H2 a = none → Same (upd H2 a (excO a cls)) H3 → H3 p = none → Q (.ref p) (upd H3 p (.tup [.str (nmOf i)]))) σ H0
    (fun v H2 => ∀ p, H2 p = none → Q (.ref p) (upd H2 p (.tup [.str "told", v])))
theorem passE00 {P : Program} {w : World} {X : Cx} : Passes (CXE P w) X E00 := fun _ _ _ _ _ _ _ ⟨_, _, _, _, _, _, _, _, _, _, _, _, _, _, h⟩ => False.elim h
theorem heard_body {P : Program} {w : World} {K : PySem.W.Frag} {mg : Str → Option Value} {base : Heap} {k : Nat} {fa : Addr} {q : Str} {params : Arguments} {body : Expr} {scope : Scope} {tk : Nat → Tok} {c kr : Nat → Addr} {te : XK → TE} {A : Around} {outer : List Env} {cdv : Value} {N : List Str} {σ : L2.St} {f c' : Addr} {cl : List (Str × Addr)} {pm ctv : Value} {s1 : Shared} {H1 : Hp} {Q : VK}
    (T : Txt K mg tk c kr) (D__law_class : Def P w K mg base 1 "_law_class" ["_law_kept"] (spClass K c))
    (LA : LamAt (cxOf (CXE P w) P w K mg base ["_law_deed", "_law_kept", "_law_found", "e"] "_law_heard" (defScope s__law_heard) fa cdv A outer s1 H1 E00) N σ q params body scope f c' cl pm ctv)
    (hlo : ∀ x c, cl.lookup x = some c → c < s1.heap.objs.size) (hr1 : Room (k + 1) (A.deeper (envOfC "_law_heard" (defScope s__law_heard) s1.heap.objs.size fa cdv)))
    (hlam : ∀ (f c' : Addr) (cl : List (Str × Addr)) (A : Around) (outer : List Env) (s : Shared) (H : Hp) (E : XK), Room k (A.deeper (PySem.W.envX q scope s.heap.objs.size f (.ref c') cl)) → PE (cxLam P w K mg base N q scope f c' cl A outer s H E) body (te E))
    (hmono : ∀ (σ : L2.St) (H : Hp) (Q Q' : VK) (E E' : XK), (∀ cls x H, E cls x H → E' cls x H) → (∀ v H, Q v H → Q' v H) → te E σ H Q → te E' σ H Q')
    (hcd : H1 c' = some (codeO c' q)) (h : tHd K c te σ H1 Q) :
    ∃ t, PSs (cxOf (CXE P w) P w K mg base ["_law_deed", "_law_kept", "_law_found", "e"] "_law_heard" (defScope s__law_heard) fa cdv A outer s1 H1 E00) (defBody s__law_heard) t ∧ t { nx := fun _ H' => Q .non H', rt := Q } (start ["_law_deed", "_law_kept", "_law_found", "e"] [.ref f]) H1 := by
  refine ⟨_, (pss_cons (ps_asg (pe_tup (pa_cons pe_non (pa_cons pe_non pa_nil))) (pg_tup rfl (pgs_cons (pg_name (i := 1) sc__law_heard.nd rfl (Or.inl rfl)) (pgs_cons (pg_name (i := 2) sc__law_heard.nd rfl (Or.inl rfl)) pgs_nil))))
      (pss_cons (ps_try (i := 3) (tb := fun E => _) rfl rfl rfl rfl rfl T.m_BoxError sc__law_heard.nd rfl rfl (fun E pn xe hx => pss_one (ps_set (i := 2) sc__law_heard.nd rfl (Or.inl rfl) (pe_deed (i := 0) (te := te E) LA.alt rfl rfl rfl (Or.inl rfl) hr1 hx hlo (fun s H hr2 => hlam f c' cl _ _ s H E hr2)))) (fun v => pss_one (ps_set (i := 1) sc__law_heard.nd rfl (Or.inl rfl) (pv 3))))
      (pss_one (ps_ret (pe_ifExp (pt_cmp (pc_isN (pv 1))) (pe_tup (pa_cons pe_str (pa_cons (pv 2) pa_nil))) (pe_tup (pa_cons (D__law_class.pe hr1 (Nat.succ_le_succ (Nat.zero_le k)) rfl passE00 (pa_cons (pv 1) pa_nil)) pa_nil))))))), ?_⟩
  refine ⟨by show 2 ≤ sizeLine; decide, fun p0 h0 => ⟨p0, _, rfl, SqT.of upd_same, rfl, _, _, rfl, _, _, rfl, rfl, ?_⟩⟩
  have S0 := Same.new (o := .tup [.non, .non]) h0
  refine ⟨rfl, S0 _ _ hcd, hmono σ _ _ _ _ _ (fun cls x H2 hE => ?_) (fun v H2 hQ => ?_) (h _ S0)⟩
  · obtain ⟨i, rfl, G, hE⟩ := hE
    refine ⟨G.bo, fun a ha => ⟨_, rfl, ?_⟩⟩
    refine ⟨_, rfl, _, rfl, ?_⟩
    refine ifB (fun z => nomatch (of_decide_eq_true z)) (fun _ => ?_)
    exact ⟨_, rfl, a, i, rfl, upd_same, G, fun H3 e3 => ⟨by show 1 ≤ sizeLine; decide, fun p hp => hE a p H3 ha e3 hp⟩⟩
  · refine ⟨_, rfl, _, rfl, ?_⟩
    refine ifB (fun _ => ?_) (fun z => absurd z (by decide))
    exact ⟨_, rfl, by show 2 ≤ sizeLine; decide, fun p hp => hQ p hp⟩
section
variable {X : Cx} {k : Nat} {fa : Addr} {fd : FuncData} {ca Pa : Addr} {q : Str} {params : Arguments} {body : Expr} {scope : Scope} {p lpos cpos : Pos} {tk : Nat → Tok} {c kr : Nat → Addr} {te : XK → TE}
theorem pe_heard {K0 : PySem.W.Frag} (hK : X.K = K0) (F : Fun X.K "_law_heard" "_law_heard" s__law_heard fa fd) (hm : X.mg "_law_heard" = some (.ref fa)) (hb : Binds X.K fd ["_law_deed"] []) (T : Txt X.K X.mg tk c kr) (D__law_class : Def X.prog X.w X.K X.mg X.base 1 "_law_class" ["_law_kept"] (spClass X.K c))
    (hr : Room (k + 2) X.A) (hg : Gl X "_law_heard") 
    (L : Lamb X.mg X.base ca Pa) (hcode : X.env.code = .ref ca) (hq : q = X.env.qual ++ "<lambda>") (hdef : defaultsOf params X.env = ([], [])) (hfn : ∀ y, X.fn y = true)
    (sk : scope.kind = .function) (sco : scope.isCoroutine = false) (sgen : scope.isGenerator = false) (snone : ∀ y ∈ scope.names, y.2 ≠ .local ∧ y.2 ≠ .cell) (sfree : freeIn scope X.env.scope = true)
    (hbind : ∀ cl pm c' ctv, bindArgs (PySem.W.kla_fn "<lambda>" q params body scope cl pm (.ref c') ctv) ⟨[], []⟩ = pure [])
    (hlam : ∀ (f c' : Addr) (cl : List (Str × Addr)) (A : Around) (outer : List Env) (s : Shared) (H : Hp) (E : XK), Room k (A.deeper (PySem.W.envX q scope s.heap.objs.size f (.ref c') cl)) → PE (cxLam X.prog X.w X.K X.mg X.base X.N q scope f c' cl A outer s H E) body (te E))
    (hmono : ∀ (σ : L2.St) (H : Hp) (Q Q' : VK) (E E' : XK), (∀ cls x H, E cls x H → E' cls x H) → (∀ v H, Q v H → Q' v H) → te E σ H Q → te E' σ H Q') :
    PE X (.Call (.Name "_law_heard" p) [.Lambda params body scope lpos] [] cpos) (tLam Pa q (fun σ f c' H1 Q => H1 c' = some (codeO c' q) ∧ tHd K0 c te σ H1 Q)) := by
  subst hK
  refine pe_lamcall F sc__law_heard hm hg hb hr passE00 L hcode hq hdef hfn sk sco sgen snone (freeIn_at sfree) hbind (fun cdv σ f c' cl pm ctv s1 H1 Q LA hlo hr1 h => ?_)
  exact heard_body T D__law_class LA hlo hr1 hlam hmono h.1 h.2
end
end Lw

set_option Elab.async false
set_option linter.all false
set_option maxRecDepth 100000
namespace Lw
open PySem PySem.Spec PyProof.Rows L2 K02 K04
abbrev tv (l : List Nat) : V := .str (tx l)
theorem tv_at {ls : List (List Nat)} {d : Nat} {x : V} (h : (ls.map tv)[d]? = some x) : ∃ l, l ∈ ls ∧ x = .str (tx l) := by
  rw [List.getElem?_map] at h
  cases e : ls[d]? with
  | none => rw [e] at h; cases h
  | some l => rw [e] at h; exact ⟨l, List.mem_of_getElem? e, (Option.some.inj h).symm⟩
section
variable {P : Program} {w : World} {K : PySem.W.Frag} {mg : Str → Option Value} {base : Heap} {f : Addr} {fd : FuncData} {tk : Nat → Tok} {c kr : Nat → Addr}
def ins7 : List (List Nat) := [[], [], [44], [66], [48], [47], [66, 44]]
theorem e_ins7 : ([.str "", .str "", .str ",", .str "B", .str "0", .str "/", .str "B,"] : List V) = ins7.map tv := by decide +kernel
def ins5 : List (List Nat) := [[], [], [], [44], [47]]
theorem e_ins5 : ([.str "", .str "", .str "", .str ",", .str "/"] : List V) = ins5.map tv := by decide +kernel
theorem ins7_ok : ∀ l ∈ ins7, (∀ x ∈ l, ins x = true) ∧ l.length ≤ 2 := by decide
theorem ins5_ok : ∀ l ∈ ins5, (∀ x ∈ l, ins x = true) ∧ l.length ≤ 2 := by decide
theorem count_ins {s : Nat} {e : List Nat} (hs : ins s = false) (he : ∀ x ∈ e, ins x = true) : e.count s = 0 := List.count_eq_zero.mpr fun z => by have := he s z; rw [hs] at this; cases this
theorem _root_.K04.PlT.app {s m : Nat} {l e : List Nat} (hs : ins s = false) (h : PlT s m l) (he : ∀ x ∈ e, ins x = true) : PlT s m (l ++ e) := by
  refine ⟨by rw [List.head?_append, h.hd]; rfl, fun x hx => ?_, by rw [List.count_append, count_ins hs he]; exact h.cn⟩
  rcases List.mem_append.mp hx with hx | hx
  · exact h.all x hx
  · exact .inr (he x hx)
theorem _root_.K04.PlT.snoc {s m : Nat} {l : List Nat} (h : PlT s m l) : PlT s (m + 1) (l ++ [s]) := by
  refine ⟨by rw [List.head?_append, h.hd]; rfl, fun x hx => ?_, by rw [List.count_append]; have := h.cn; simp; omega⟩
  rcases List.mem_append.mp hx with hx | hx
  · exact h.all x hx
  · exact .inl (List.mem_singleton.mp hx)
theorem _root_.K04.PlT.cons {s m : Nat} {l : List Nat} (h : PlT s m l) : PlT s (m + 1) (s :: l) := by
  refine ⟨rfl, fun x hx => ?_, by rw [List.count_cons_self]; have := h.cn; omega⟩
  rcases List.mem_cons.mp hx with hx | hx
  · exact .inl hx
  · exact h.all x hx
theorem _root_.K04.PlT.mono {s m m' : Nat} {l : List Nat} (h : PlT s m l) (hm : m ≤ m') : PlT s m' l := ⟨h.hd, h.all, Nat.le_trans h.cn hm⟩
def spLPl (K : PySem.W.Frag) : Sp := fun vs H Q _ => ∃ (a t r : Addr) (ns : List Int) (c : Int) (s m : Nat), vs = [.ref a, .ref t, .str (tx [s]), .int (m : Nat)] ∧ Bag K H a t r ns c ∧ c < 90000 ∧ ins s = false ∧ 0 < m ∧ m ≤ 5 ∧
  ∀ (l : List Nat) (c' : Int) (H' : Hp), PlT s m l → l.length ≤ 20 → Bag K H' a t r ns c' → c' ≤ c + 10 → Apart t r H H' → Q (.str (tx l)) H'
theorem ok__law_places (F : Fun K "_law_places" "_law_places" s__law_places f fd) (O : Own mg) (D__law_draw : Def P w K mg base 1 "_law_draw" ["_law_script", "_law_town", "_law_many"] (spDraw K)) :
    FnOk P w K mg base (CXE P w) 2 f fd ["_law_script", "_law_town", "_law_symbol", "_law_most"] (spLPl K) := by
  refine okN F sc__law_places (fun vs H Q E h => ?_) (fun cdv A outer s H vs Q E hr h => ?_)
  · obtain ⟨a, t, r, ns, c, s, m, rfl, _⟩ := h
    rfl
  · obtain ⟨a, t, r, ns, c, sy, m, rfl, B, hc, hs, hm0, hm5, k⟩ := h
    have hz : 1000 ≤ sizeLine := by decide
    refine ⟨_, (pss_cons (ps_set (i := 4) sc__law_places.nd rfl (Or.inl rfl) (pv 2))
      (pss_cons (ps_for PassesOwn.never rfl (pi_range1 rfl O.range (pa_cons (D__law_draw.pe hr (by decide) rfl passE0 (pa_cons (pv 0) (pa_cons (pv 1) (pa_cons (pv 3) pa_nil)))) pa_nil)) (pg_name (i := 5) sc__law_places.nd rfl (Or.inl rfl)) (pss_one (ps_set (i := 4) sc__law_places.nd rfl (Or.inl rfl) (pe_op op_add_str (pe_op op_add_str (pv 4) (pe_ix ix_list (pe_lst (pa_cons pe_str (pa_cons pe_str (pa_cons pe_str (pa_cons pe_str (pa_cons pe_str (pa_cons pe_str (pa_cons pe_str pa_nil)))))))) (D__law_draw.pe hr (by decide) rfl passE0 (pa_cons (pv 0) (pa_cons (pv 1) (pa_cons pe_int pa_nil)))) (fun _ _ => rfl))) (pv 2)))))
      (pss_one (ps_ret (pe_op op_add_str (pv 4) (pe_ix ix_list (pe_lst (pa_cons pe_str (pa_cons pe_str (pa_cons pe_str (pa_cons pe_str (pa_cons pe_str pa_nil)))))) (D__law_draw.pe hr (by decide) rfl passE0 (pa_cons (pv 0) (pa_cons (pv 1) (pa_cons pe_int pa_nil)))) (fun _ _ => rfl))))))), ?_⟩
    refine ⟨_, rfl, ?_⟩
    refine B.draw (n := (m : Int)) rfl rfl (fun R h => ⟨_, rfl, h⟩) (by omega) (by omega) (by omega) fun d H1 hd B1 A1 => ?_
    refine ⟨(d : Int), rfl, by omega, by omega, for_range (n := (d : Int).toNat) (fun i σ H3 => ∃ l x c3, σ = [some (.ref a), some (.ref t), some (.str (tx [sy])), some (.int (m : Nat)), some (.str (tx l)), x] ∧ PlT sy (i + 1) l ∧ l.length ≤ 1 + 3 * i ∧ Bag K H3 a t r ns c3 ∧ c3 = c + 1 + i ∧ Apart t r H H3)
      ⟨[sy], none, _, rfl, ⟨rfl, fun x hx => .inl (List.mem_singleton.mp hx), by simp⟩, by simp, B1, by omega, A1⟩ ?_ ?_⟩
    · rintro i σ H3 hi ⟨l, x, c3, rfl, hl, hll, B3, rfl, A3⟩
      refine ⟨_, rfl, ?_⟩
      refine B3.pick (xs := ins7.map tv) rfl rfl (fun R h => by rw [← e_ins7] at h; exact h) (by decide) (by decide) (by decide) (by omega) fun d2 x2 H4 hx2 B4 A4 => ?_
      obtain ⟨e, he, rfl⟩ := tv_at hx2
      obtain ⟨he1, he2⟩ := ins7_ok e he
      refine ⟨_, _, rfl, rfl, by rw [tx_len, tx_len]; omega, ?_⟩
      rw [tx_app]
      refine ⟨_, rfl, _, _, rfl, rfl, by rw [tx_len, tx_len, List.length_append, List.length_singleton]; omega, ?_⟩
      rw [tx_app]
      refine ⟨l ++ e ++ [sy], _, _, rfl, (hl.app hs he1).snoc, by rw [List.length_append, List.length_append, List.length_singleton]; omega, B4, by omega, A3.trans A4⟩
    · rintro σ H3 ⟨l, x, c3, rfl, hl, hll, B3, rfl, A3⟩
      refine ⟨_, rfl, ?_⟩
      refine B3.pick (xs := ins5.map tv) rfl rfl (fun R h => by rw [← e_ins5] at h; exact h) (by decide) (by decide) (by decide) (by omega) fun d2 x2 H4 hx2 B4 A4 => ?_
      obtain ⟨e, he, rfl⟩ := tv_at hx2
      obtain ⟨he1, he2⟩ := ins5_ok e he
      refine ⟨_, _, rfl, rfl, by rw [tx_len, tx_len]; omega, ?_⟩
      rw [tx_app]
      exact k _ _ _ ((hl.app hs he1).mono (by omega)) (by rw [List.length_append]; omega) B4 (by omega) (A3.trans A4)
def spLine (K : PySem.W.Frag) : Sp := fun vs H Q _ => ∃ (p : Addr) (lead fi W N broken tail : List Nat), vs = [.ref p] ∧ SqT K H p [tv lead, tv fi, tv (W ++ N), tv broken, tv tail] ∧ lead.length + (W.length + N.length) + broken.length + tail.length ≤ 200 ∧ Q (.str (tx (lineOf lead W N broken tail))) H
theorem ok__law_line (F : Fun K "_law_line" "_law_line" s__law_line f fd) : FnOk P w K mg base (CXE P w) 1 f fd ["_law_parts"] (spLine K) := by
  refine okN F sc__law_line (fun vs H Q E h => ?_) (fun cdv A outer s H vs Q E hr h => ?_)
  · obtain ⟨p, _, _, _, _, _, _, rfl, _⟩ := h
    rfl
  · obtain ⟨p, lead, fi, W, N, broken, tail, rfl, sq, hl, k⟩ := h
    have hz : 1000 ≤ sizeLine := by decide
    refine ⟨_, (pss_cons (ps_asg (pv 0) (pg_tup rfl (pgs_cons (pg_name (i := 1) sc__law_line.nd rfl (Or.inl rfl)) (pgs_cons (pg_name (i := 2) sc__law_line.nd rfl (Or.inl rfl)) (pgs_cons (pg_name (i := 3) sc__law_line.nd rfl (Or.inl rfl)) (pgs_cons (pg_name (i := 4) sc__law_line.nd rfl (Or.inl rfl)) (pgs_cons (pg_name (i := 5) sc__law_line.nd rfl (Or.inl rfl)) pgs_nil)))))))
      (pss_one (ps_ret (pe_op op_add_str (pe_op op_add_str (pe_op op_add_str (pv 1) (pv 3)) (pe_ifExp (pt_cmpR op_ne (pv 4) pe_str (nomark _)) (pe_op op_add_str pe_str (pv 4)) pe_str)) (pv 5))))), ?_⟩
    refine ⟨_, rfl, p, _, rfl, sq, rfl, _, _, rfl, _, _, rfl, _, _, rfl, _, _, rfl, _, _, rfl, rfl, ?_⟩
    refine ⟨_, rfl, _, rfl, _, _, rfl, rfl, by rw [tx_len, tx_len, List.length_append]; omega, ?_⟩
    rw [tx_app]
    refine ⟨_, rfl, rfl, _, rfl, ?_⟩
    rw [e_emp, str_dec]
    refine ifJoinE (fun x H' => x = .str (tx (dotted broken)) ∧ H' = H) (fun z rest => ?_) (fun z rest => ?_) ?_
    · have hb : broken ≠ [] := fun q => by rw [decide_eq_true q] at z; cases z
      refine ⟨_, rfl, _, _, rfl, rfl, ?_, ?_⟩
      · rw [e_dot, tx_len, tx_len, List.length_singleton]; omega
      · rw [e_dot, tx_app]
        exact rest _ _ ⟨by unfold dotted; rw [if_neg hb]; rfl, rfl⟩
    · have hb : broken = [] := by
        by_cases q : broken = []
        · exact q
        · rw [decide_eq_false q] at z; cases z
      exact rest _ _ ⟨by unfold dotted; rw [if_pos hb], rfl⟩
    rintro x H' ⟨rfl, rfl⟩
    have hdl : (dotted broken).length ≤ broken.length + 1 := by unfold dotted; split <;> simp
    refine ⟨_, _, rfl, rfl, by rw [tx_len, tx_len, List.length_append, List.length_append]; omega, ?_⟩
    rw [tx_app]
    refine ⟨_, rfl, _, _, rfl, rfl, by rw [tx_len, tx_len, List.length_append, List.length_append, List.length_append]; omega, ?_⟩
    rw [tx_app]
    have e : lead ++ (W ++ N) ++ dotted broken ++ tail = lineOf lead W N broken tail := by unfold lineOf; simp [List.append_assoc]
    rw [e]
    exact k
end
end Lw

set_option Elab.async false
set_option linter.all false
set_option maxRecDepth 100000
namespace Lw
open PySem PySem.Spec PyProof.Rows L2 K02 K04
theorem dec_small : ∀ m : Nat, m < 101 → 1 ≤ m → (dec m).length + 3 ≤ 4 * m ∧ (dec m).head? ≠ some 48 := by decide +kernel
theorem num_dec {m : Nat} (h : m < 101) (h1 : 1 ≤ m) : Num (dec m) m := ⟨fun z => by have := dec_ne m; rw [z] at this; exact absurd this (by decide), dec_dig m, (dec_small m h h1).2, dec_val m⟩
theorem take_same {l : List Nat} {a e n ch : Nat} (h : ∀ j, a ≤ j → j < e → l[j]? = some ch) (hn : a + n ≤ e) : l.take (a + n) = l.take a ++ List.replicate n ch := by
  induction n with
  | zero => simp
  | succ n ih =>
    have hx := h (a + n) (by omega) (by omega)
    rw [← Nat.add_assoc, List.take_add_one, ih (by omega), hx, List.replicate_succ', List.append_assoc]
    rfl
theorem while_join {c : TT} {tb : TS} {D : Ends} {σ : L2.St} {H : Hp} (W : Nat → L2.St → Hp → Prop) (Good : L2.St → Hp → Prop) (h0 : ∃ m, W m σ H)
    (hs : (∀ σ H, Good σ H → D.nx σ H) → ∀ m σ H, W m σ H → c σ H fun b H1 => if b = true then (∃ N : L2.St → Hp → Prop, (∀ σ' H', N σ' H' → ∃ m', m' < m ∧ W m' σ' H') ∧ tb { D with nx := N, ct := N, bk := D.nx } σ H1) else D.nx σ H1) (rest : ∀ σ H, Good σ H → D.nx σ H) : tWhile c tb D σ H := ⟨W, h0, hs rest⟩
section
variable {P : Program} {w : World} {K : PySem.W.Frag} {mg : Str → Option Value} {base : Heap} {f : Addr} {fd : FuncData} {tk : Nat → Tok} {c kr : Nat → Addr}
def spShortL (K : PySem.W.Frag) : Sp := fun vs H Q _ => ∃ (a t r : Addr) (ns : List Int) (c : Int) (l : List Nat), vs = [.ref a, .ref t, .str (tx l)] ∧ Bag K H a t r ns c ∧ c < 80000 ∧ l.length ≤ 100 ∧ 40 ∉ l ∧
  ∀ (l' : List Nat) (c' : Int) (H' : Hp), Sh l l' → l'.length ≤ 400 → Bag K H' a t r ns c' → c' ≤ c + 200 → Apart t r H H' → Q (.str (tx l')) H'
set_option maxHeartbeats 1000000 in
theorem ok__law_short_line (F : Fun K "_law_short_line" "_law_short_line" s__law_short_line f fd) (O : Own mg) (D__law_draw : Def P w K mg base 1 "_law_draw" ["_law_script", "_law_town", "_law_many"] (spDraw K)) :
    FnOk P w K mg base (CXE P w) 2 f fd ["_law_script", "_law_town", "_law_line_here"] (spShortL K) := by
  refine okN F sc__law_short_line (fun vs H Q E h => ?_) (fun cdv A outer s H vs Q E hr h => ?_)
  · obtain ⟨a, t, r, ns, c, l, rfl, _⟩ := h
    rfl
  · obtain ⟨a, t, r, ns, c, l, rfl, B, hc, hl, h40, k⟩ := h
    have hz : 1000 ≤ sizeLine := by decide
    have htl := tx_len l
    have e40 : ("(" : Str) = tx [40] := by decide +kernel
    have e41 : (")" : Str) = tx [41] := by decide +kernel
    refine ⟨_, (pss_cons (ps_asg (pe_tup (pa_cons pe_str (pa_cons pe_int pa_nil))) (pg_tup rfl (pgs_cons (pg_name (i := 3) sc__law_short_line.nd rfl (Or.inl rfl)) (pgs_cons (pg_name (i := 4) sc__law_short_line.nd rfl (Or.inl rfl)) pgs_nil))))
      (pss_cons (ps_while PassesOwn.never (pt_cmpR op_lt (pv 4) (pe_callB call_len_str rfl O.len PySem.boot_len (pa_cons (pv 2) pa_nil)) (nomark _)) (pss_cons (ps_set (i := 5) sc__law_short_line.nd rfl (Or.inl rfl) (pv 4))
      (pss_cons (ps_while PassesOwn.never (PW.pt (pw_and (pt_cmpR op_lt (pv 5) (pe_callB call_len_str rfl O.len PySem.boot_len (pa_cons (pv 2) pa_nil)) (nomark _)) (pw_and1 (pt_cmpR op_eq (pe_ix ix_str (pv 2) (pv 5) (fun _ _ => rfl)) (pe_ix ix_str (pv 2) (pv 4) (fun _ _ => rfl)) (nomark _))))) (pss_one (ps_set (i := 5) sc__law_short_line.nd rfl (Or.inl rfl) (pe_op op_add (pv 5) pe_int))))
      (pss_cons (ps_set (i := 6) sc__law_short_line.nd rfl (Or.inl rfl) (pe_op op_add pe_int (D__law_draw.pe hr (by decide) rfl passE0 (pa_cons (pv 0) (pa_cons (pv 1) (pa_cons (pe_op op_sub (pv 5) (pv 4)) pa_nil))))))
      (pss_cons (ps_set (i := 7) sc__law_short_line.nd rfl (Or.inl rfl) (pe_op op_add_str (pe_op op_add_str (pe_op op_add_str (pe_ix ix_str (pv 2) (pv 4) (fun _ _ => rfl)) pe_str) (pe_callTy call_str_int rfl O.str PyProof.Rows.boot_str (pa_cons (pv 6) pa_nil))) pe_str))
      (pss_cons (ps_set (i := 3) sc__law_short_line.nd rfl (Or.inl rfl) (pe_op op_add_str (pv 3) (pe_ifExp (pt_cmpR op_eq (D__law_draw.pe hr (by decide) rfl passE0 (pa_cons (pv 0) (pa_cons (pv 1) (pa_cons pe_int pa_nil)))) pe_int (nomark _)) (pv 7) (pe_op op_mul_strN (pe_ix ix_str (pv 2) (pv 4) (fun _ _ => rfl)) (pv 6)))))
      (pss_one (ps_set (i := 4) sc__law_short_line.nd rfl (Or.inl rfl) (pe_op op_add (pv 4) (pv 6))))))))))
      (pss_one (ps_ret (pv 3))))), ?_⟩
    refine ⟨by show 2 ≤ sizeLine; omega, fun p0 h0 => ⟨p0, _, rfl, SqT.of upd_same, rfl, _, _, rfl, _, _, rfl, rfl, ?_⟩⟩
    have S0 := Same.new (o := .tup [.str "", .int 0]) h0
    have B0 := B.same S0
    have A0 : Apart t r H _ := Apart.of S0
    generalize upd H p0 (.tup [.str "", .int 0]) = H0 at S0 B0 A0
    refine ⟨fun m σ H2 => ∃ (p : Nat) (fo : List Nat) (x5 x6 x7 : Option V) (c3 : Int), m = l.length - p ∧ p ≤ l.length ∧ σ = [some (.ref a), some (.ref t), some (.str (tx l)), some (.str (tx fo)), some (.int (p : Nat)), x5, x6, x7] ∧ Sh (l.take p) fo ∧ fo.length ≤ 4 * p ∧ Bag K H2 a t r ns c3 ∧ c3 ≤ c + 2 * p ∧ Apart t r H H2,
      ⟨l.length - 0, 0, [], none, none, none, c, rfl, Nat.zero_le _, by rw [e_emp]; rfl, by rw [List.take_zero]; exact .nil, Nat.zero_le _, B0, by omega, A0⟩, ?_⟩
    rintro m σ H2 ⟨p, fo, x5, x6, x7, c3, rfl, hp, rfl, hsh, hfl, B2, hc3, A2⟩
    refine ⟨_, rfl, _, rfl, tx l, rfl, by omega, _, _, rfl, rfl, _, rfl, ?_⟩
    refine ifB (fun h1 => ?_) (fun h1 => ?_)
    · have hpl : p < l.length := by have := of_decide_eq_true h1; omega
      obtain ⟨ch, hch⟩ : ∃ ch, l[p]? = some ch := ⟨_, List.getElem?_eq_getElem hpl⟩
      have hch40 : ch ≠ 40 := fun z => h40 (by rw [← z]; exact List.mem_of_getElem? hch)
      refine ⟨_, fun _ _ h => h, _, rfl, ?_⟩
      refine while_join (fun m σ H3 => ∃ (e : Nat), m = l.length - e ∧ p ≤ e ∧ e ≤ l.length ∧ σ = [some (.ref a), some (.ref t), some (.str (tx l)), some (.str (tx fo)), some (.int (p : Nat)), some (.int (e : Nat)), x6, x7] ∧ H3 = H2 ∧ ∀ j, p ≤ j → j < e → l[j]? = some ch)
        (fun σ H3 => ∃ (e : Nat), p + 1 ≤ e ∧ e ≤ l.length ∧ σ = [some (.ref a), some (.ref t), some (.str (tx l)), some (.str (tx fo)), some (.int (p : Nat)), some (.int (e : Nat)), x6, x7] ∧ H3 = H2 ∧ ∀ j, p ≤ j → j < e → l[j]? = some ch)
        ⟨l.length - p, p, rfl, Nat.le_refl _, hp, rfl, rfl, fun j h1 h2 => absurd h2 (by omega)⟩ (fun rest => ?_) ?_
      · rintro m σ H3 ⟨e, rfl, hpe, hel, rfl, rfl, hsame⟩
        refine ⟨_, rfl, _, rfl, tx l, rfl, by omega, _, _, rfl, rfl, _, rfl, ?_⟩
        refine ifB (fun h2 => ?_) (fun h2 => ?_)
        · have hel2 : e < l.length := by have := of_decide_eq_true h2; omega
          obtain ⟨ch2, hch2⟩ : ∃ ch, l[e]? = some ch := ⟨_, List.getElem?_eq_getElem hel2⟩
          refine ⟨_, rfl, _, rfl, tx l, (e : Int), ch2, rfl, rfl, by omega, atI_nat hch2, ?_⟩
          refine ⟨_, rfl, _, rfl, tx l, (p : Int), ch, rfl, rfl, by omega, atI_nat hch, rfl, _, rfl, ?_⟩
          rw [show (⟨#[ch2]⟩ : Str) = tx [ch2] from rfl, show (⟨#[ch]⟩ : Str) = tx [ch] from rfl, sym_dec]
          refine ifB (fun h3 => ?_) (fun h3 => ?_)
          · have hcc : ch2 = ch := of_decide_eq_true h3
            refine ⟨_, fun _ _ h => h, _, rfl, _, _, rfl, rfl, l.length - (e + 1), by omega, e + 1, rfl, by omega, by omega, ?_, rfl, fun j j1 j2 => ?_⟩
            · show [_, _, _, _, _, some (V.int ((e : Int) + 1)), _, _] = _
              rw [cast_succ]
            · rcases Nat.lt_or_ge j e with q | q
              · exact hsame j j1 q
              · rw [show j = e by omega, hch2, hcc]
          · have hcc : ch2 ≠ ch := of_decide_eq_false h3
            refine rest _ _ ⟨e, ?_, hel, rfl, rfl, hsame⟩
            rcases Nat.lt_or_ge p e with q | q
            · exact q
            · have : p = e := by omega
              subst this
              rw [hch] at hch2
              exact absurd (Option.some.inj hch2).symm hcc
        · have hel2 : e = l.length := by have := of_decide_eq_false h2; omega
          exact iteF (rest _ _ ⟨e, by omega, hel, rfl, rfl, hsame⟩)
      · rintro σ H3 ⟨e, hpe, hel, rfl, rfl, hsame⟩
        refine B2.draw (n := (e : Int) - (p : Int)) rfl rfl (fun R h => ⟨_, rfl, _, rfl, _, _, rfl, rfl, h⟩) (by omega) (by omega) (by omega) fun d H4 hd B4 A4 => ?_
        have hm : (1 : Int) + (d : Nat) = ((d + 1 : Nat) : Int) := by omega
        refine ⟨_, _, rfl, rfl, ?_⟩
        dsimp only [gName]
        rw [hm]
        have hnd := num_dec (m := d + 1) (by omega) (by omega)
        have hds := (dec_small (d + 1) (by omega) (by omega)).1
        have hdl := tx_len (dec (d + 1))
        refine ⟨_, rfl, _, rfl, tx l, (p : Int), ch, rfl, rfl, by omega, atI_nat hch, ?_⟩
        rw [show (⟨#[ch]⟩ : Str) = tx [ch] from rfl, e40, e41]
        refine ⟨_, _, rfl, rfl, by rw [tx_len, tx_len]; simp; omega, ?_⟩
        rw [tx_app]
        refine ⟨_, rfl, _, rfl, ?_, ?_⟩
        · rw [Int.natAbs_natCast]
          exact (Nat.log2_lt (by omega)).mpr (Nat.lt_of_le_of_lt (show d + 1 ≤ 100 by omega) (by decide))
        rw [K02.dec_str]
        refine ⟨_, _, rfl, rfl, by rw [tx_len, hdl, List.length_append]; simp; omega, ?_⟩
        rw [tx_app]
        refine ⟨_, _, rfl, rfl, by rw [tx_len, tx_len, List.length_append, List.length_append]; simp; omega, ?_⟩
        rw [tx_app]
        have esh : [ch] ++ [40] ++ dec (d + 1) ++ [41] = ch :: 40 :: (dec (d + 1) ++ [41]) := by simp
        rw [esh]
        refine ⟨_, rfl, ?_⟩
        refine B4.draw (n := 3) rfl rfl (fun R h => h) (by decide) (by decide) (by omega) fun d2 H5 hd2 B5 A5 => ?_
        refine ⟨rfl, _, rfl, ?_⟩
        have hend : (p : Int) + ((d + 1 : Nat) : Int) = ((p + (d + 1) : Nat) : Int) := by omega
        have htk := take_same (l := l) (a := p) (e := e) (n := d + 1) hsame (by omega)
        refine ifJoinE (fun x H' => ∃ fo2, x = .str (tx fo2) ∧ H' = H5 ∧ Sh (l.take (p + (d + 1))) (fo ++ fo2) ∧ fo2.length ≤ 4 * (d + 1)) (fun z rest => ?_) (fun z rest => ?_) ?_
        · refine ⟨_, rfl, rest _ _ ⟨_, rfl, rfl, by rw [htk]; exact Sh.brk d hsh hch40 hnd, ?_⟩⟩
          simp
          omega
        · refine ⟨_, rfl, _, rfl, tx l, (p : Int), ch, rfl, rfl, by omega, atI_nat hch, ?_⟩
          refine ⟨_, rfl, tx [ch], ((d + 1 : Nat) : Int), rfl, rfl, by omega, ?_, by omega, ?_⟩
          · rw [tx_len, Int.toNat_natCast, List.length_singleton]; omega
          · rw [Int.toNat_natCast, rep_tx]
            exact rest _ _ ⟨_, rfl, rfl, by rw [htk]; exact Sh.out d hsh hch40, by rw [List.length_replicate]; omega⟩
        rintro x H6 ⟨fo2, rfl, rfl, hsh2, hfl2⟩
        refine ⟨_, _, rfl, rfl, by rw [tx_len, tx_len]; omega, ?_⟩
        rw [tx_app]
        refine ⟨_, rfl, _, rfl, _, _, rfl, rfl, ?_⟩
        dsimp only [gName]
        rw [hend]
        exact ⟨l.length - (p + (d + 1)), by omega, p + (d + 1), fo ++ fo2, _, _, _, _, rfl, by omega, rfl, hsh2, by rw [List.length_append]; omega, B5, by omega, (A2.trans A4).trans A5⟩
    · have ha : p = l.length := by have := of_decide_eq_false h1; omega
      subst ha
      rw [List.take_length] at hsh
      exact ⟨_, rfl, k fo c3 H2 hsh (by omega) B2 (by omega) A2⟩
end
end Lw

set_option Elab.async false
set_option linter.all false
set_option maxRecDepth 100000
namespace Lw
open PySem PySem.Spec PyProof.Rows L2 K02 K04
def first8 : List (List Nat) := [[57], [90], [42], [43], [45], [36], [90], [57]]
theorem e_first8 : ([.str "9", .str "Z", .str "*", .str "+", .str "-", .str "$", .str "Z", .str "9"] : List V) = first8.map tv := by decide +kernel
theorem first8_ok : ∀ l ∈ first8, ∃ y, l = [y] ∧ y ∈ ([57, 90, 42, 43, 45, 36] : List Nat) := by
  intro l h
  simp only [first8, List.mem_cons, List.not_mem_nil, or_false] at h
  rcases h with rfl | rfl | rfl | rfl | rfl | rfl | rfl | rfl <;> exact ⟨_, rfl, by decide⟩
def br4 : List (List Nat) := [[], [57], [57, 57], [57, 57, 57]]
theorem e_br4 : ([.str "", .str "9", .str "99", .str "999"] : List V) = br4.map tv := by decide +kernel
theorem br4_ok : ∀ l ∈ br4, l = [] ∨ ∃ k b, k < 3 ∧ l = List.replicate (k + 1) b ∧ b = 57 := by
  intro l h
  simp only [br4, List.mem_cons, List.not_mem_nil, or_false] at h
  rcases h with rfl | rfl | rfl | rfl
  · exact .inl rfl
  · exact .inr ⟨0, 57, by decide, rfl, rfl⟩
  · exact .inr ⟨1, 57, by decide, rfl, rfl⟩
  · exact .inr ⟨2, 57, by decide, rfl, rfl⟩
def dol2 : List (List Nat) := [[], [36]]
theorem e_dol2 : ([.str "", .str "$"] : List V) = dol2.map tv := by decide +kernel
def sg3 : List (List Nat) := [[], [43], [45]]
theorem e_sg3 : ([.str "", .str "+", .str "-"] : List V) = sg3.map tv := by decide +kernel
def sg1 : List (List Nat) := [[]]
theorem e_sg1 : ([.str ""] : List V) = sg1.map tv := by decide +kernel
def tl6 : List (List Nat) := [[], [], [43], [45], [67, 82], [68, 66]]
theorem e_tl6 : ([.str "", .str "", .str "+", .str "-", .str "CR", .str "DB"] : List V) = tl6.map tv := by decide +kernel
def pm2 : List (List Nat) := [[43], [45]]
theorem e_pm2 : ([.str "+", .str "-"] : List V) = pm2.map tv := by decide +kernel
theorem e_zst : ("Z*" : Str) = tx [90, 42] := by decide +kernel
theorem e_min : ("-" : Str) = tx [45] := by decide +kernel
theorem cnt_is (s : Nat) (l : List Nat) : PySem.Txt.count (tx l) (tx [s]) = (l.count s : Int) := by
  have h : ∀ l : List Nat, PyProof.Rows.cnt s l = (l.count s : Int) := by
    intro l
    induction l with
    | nil => rfl
    | cons a r ih =>
      rw [PyProof.Rows.cnt_cons, ih, List.count_cons]
      by_cases z : a = s
      · subst z; simp; omega
      · rw [if_neg z]
        have : (a == s) = false := by simpa using z
        rw [this]
        simp
  rw [show (tx [s]) = (⟨#[s]⟩ : Str) from rfl, PyProof.Rows.count_cnt, h]
theorem strip_nines : ∀ k : Nat, k < 6 → decide (V.str (Txt.stripChars (tx (List.replicate k 57)) "9") = V.str "") = true := by decide +kernel
section
variable {P : Program} {w : World} {K : PySem.W.Frag} {mg : Str → Option Value} {base : Heap} {f : Addr} {fd : FuncData} {tk : Nat → Tok} {c kr : Nat → Addr}
/-- drawn parts of edited figures -/
def spEd (K : PySem.W.Frag) : Sp := fun vs H Q _ => ∃ (a t r : Addr) (ns : List Int) (c : Int), vs = [.ref a, .ref t] ∧ Bag K H a t r ns c ∧ c < 80000 ∧
  ∀ (lead : List Nat) (first : Nat) (W N broken tail : List Nat) (q : Addr) (c' : Int) (H' : Hp), Ed lead first W N broken tail → lead.length + (W.length + N.length) + broken.length + tail.length ≤ 60 → H q = none →
    H' q = some (.tup [tv lead, tv [first], tv (W ++ N), tv broken, tv tail]) → Bag K H' a t r ns c' → c' ≤ c + 40 → Apart t r H H' → Q (.ref q) H'
set_option maxHeartbeats 4000000 in
theorem ok__law_an_edited (F : Fun K "_law_an_edited" "_law_an_edited" s__law_an_edited f fd) (O : Own mg) (D__law_draw : Def P w K mg base 1 "_law_draw" ["_law_script", "_law_town", "_law_many"] (spDraw K)) (D__law_places : Def P w K mg base 2 "_law_places" ["_law_script", "_law_town", "_law_symbol", "_law_most"] (spLPl K)) :
    FnOk P w K mg base (CXE P w) 3 f fd ["_law_script", "_law_town"] (spEd K) := by
  refine okN F sc__law_an_edited (fun vs H Q E h => ?_) (fun cdv A outer s H vs Q E hr h => ?_)
  · obtain ⟨a, t, r, ns, c, rfl, _⟩ := h
    rfl
  · obtain ⟨a, t, r, ns, c, rfl, B, hc, k⟩ := h
    have hz : 1000 ≤ sizeLine := by decide
    refine ⟨_, (pss_cons (ps_set (i := 2) sc__law_an_edited.nd rfl (Or.inl rfl) (pe_ix ix_list (pe_lst (pa_cons pe_str (pa_cons pe_str (pa_cons pe_str (pa_cons pe_str (pa_cons pe_str (pa_cons pe_str (pa_cons pe_str (pa_cons pe_str pa_nil))))))))) (D__law_draw.pe hr (by decide) rfl passE0 (pa_cons (pv 0) (pa_cons (pv 1) (pa_cons pe_int pa_nil)))) (fun _ _ => rfl)))
      (pss_cons (ps_set (i := 3) sc__law_an_edited.nd rfl (Or.inl rfl) (D__law_places.pe hr (by decide) rfl passE0 (pa_cons (pv 0) (pa_cons (pv 1) (pa_cons (pv 2) (pa_cons pe_int pa_nil))))))
      (pss_cons (ps_if (PW.pt (pw_and (pt_cmpR op_in_str (pv 2) pe_str (by with_unfolding_all rfl)) (pw_and1 (pt_cmpR op_lt (pe_bm PySem.F.plainAttrs_str PySem.F.slot_str_count PySem.F.type_str_count mt_scount (pv 3) (pa_cons (pv 2) pa_nil)) pe_int (nomark _))))) (pss_one (ps_set (i := 3) sc__law_an_edited.nd rfl (Or.inl rfl) (pe_op op_add_str (pv 2) (pv 3)))) pss_nil)
      (pss_cons (ps_if (PW.pt (pw_and (pt_cmpR op_ne (pv 2) pe_str (nomark _)) (pw_and1 (pt_cmpR op_eq (D__law_draw.pe hr (by decide) rfl passE0 (pa_cons (pv 0) (pa_cons (pv 1) (pa_cons pe_int pa_nil)))) pe_int (nomark _))))) (pss_one (ps_set (i := 3) sc__law_an_edited.nd rfl (Or.inl rfl) (pe_op op_add_str (pv 3) (D__law_places.pe hr (by decide) rfl passE0 (pa_cons (pv 0) (pa_cons (pv 1) (pa_cons pe_str (pa_cons pe_int pa_nil)))))))) pss_nil)
      (pss_cons (ps_set (i := 4) sc__law_an_edited.nd rfl (Or.inl rfl) (pe_ix ix_list (pe_lst (pa_cons pe_str (pa_cons pe_str (pa_cons pe_str (pa_cons pe_str pa_nil))))) (D__law_draw.pe hr (by decide) rfl passE0 (pa_cons (pv 0) (pa_cons (pv 1) (pa_cons pe_int pa_nil)))) (fun _ _ => rfl)))
      (pss_cons (ps_if (PW.pt (pw_and (pt_cmpR op_eq (D__law_draw.pe hr (by decide) rfl passE0 (pa_cons (pv 0) (pa_cons (pv 1) (pa_cons pe_int pa_nil)))) pe_int (nomark _)) (pw_and (pt_cmpR op_in_str (pv 2) pe_str (by with_unfolding_all rfl)) (pw_and1 (pt_cmpR op_notin_str pe_str (pv 3) (by with_unfolding_all rfl)))))) (pss_one (ps_set (i := 4) sc__law_an_edited.nd rfl (Or.inl rfl) (pe_op op_mul_strN (pv 2) (pe_op op_add pe_int (D__law_draw.pe hr (by decide) rfl passE0 (pa_cons (pv 0) (pa_cons (pv 1) (pa_cons pe_int pa_nil)))))))) pss_nil)
      (pss_cons (ps_set (i := 5) sc__law_an_edited.nd rfl (Or.inl rfl) (pe_ifExp (pt_cmpR op_notin_str (pv 2) pe_str (by with_unfolding_all rfl)) (pe_lst (pa_cons pe_str (pa_cons pe_str (pa_cons pe_str pa_nil)))) (pe_lst (pa_cons pe_str pa_nil))))
      (pss_cons (ps_set (i := 6) sc__law_an_edited.nd rfl (Or.inl rfl) (pe_op op_add_str (pe_ix ix_list (pv 5) (D__law_draw.pe hr (by decide) rfl passE0 (pa_cons (pv 0) (pa_cons (pv 1) (pa_cons (pe_callB call_len_seq rfl O.len PySem.boot_len (pa_cons (pv 5) pa_nil)) pa_nil)))) (fun _ _ => rfl)) (pe_ifExp (pt_cmpR op_ne (pv 2) pe_str (nomark _)) (pe_ix ix_list (pe_lst (pa_cons pe_str (pa_cons pe_str pa_nil))) (D__law_draw.pe hr (by decide) rfl passE0 (pa_cons (pv 0) (pa_cons (pv 1) (pa_cons pe_int pa_nil)))) (fun _ _ => rfl)) pe_str)))
      (pss_cons (ps_set (i := 7) sc__law_an_edited.nd rfl (Or.inl rfl) pe_str)
      (pss_cons (ps_if (PW.pt (pw_and (pt_cmpR op_notin_str (pv 2) pe_str (by with_unfolding_all rfl)) (pw_and1 (pt_cmpR op_notIn_seq (pe_slice sl_str (pv 6) po_none (po_some pe_int)) (pe_tup (pa_cons pe_str (pa_cons pe_str pa_nil))) (by with_unfolding_all rfl))))) (pss_one (ps_set (i := 7) sc__law_an_edited.nd rfl (Or.inl rfl) (pe_ix ix_list (pe_lst (pa_cons pe_str (pa_cons pe_str (pa_cons pe_str (pa_cons pe_str (pa_cons pe_str (pa_cons pe_str pa_nil))))))) (D__law_draw.pe hr (by decide) rfl passE0 (pa_cons (pv 0) (pa_cons (pv 1) (pa_cons pe_int pa_nil)))) (fun _ _ => rfl)))) pss_nil)
      (pss_cons (ps_if (PW.pt (pw_and (pt_cmpR op_eq (pv 2) pe_str (nomark _)) (pw_and (pt_cmpR op_eq (pe_bm PySem.F.plainAttrs_str PySem.F.slot_str_strip PySem.F.type_str_strip mt_strip (pv 3) (pa_cons pe_str pa_nil)) pe_str (nomark _)) (pw_and1 (pt_cmpR op_eq (pe_op op_add_str (pe_op op_add_str (pv 6) (pv 4)) (pv 7)) pe_str (nomark _)))))) (pss_one (ps_set (i := 7) sc__law_an_edited.nd rfl (Or.inl rfl) pe_str)) pss_nil)
      (pss_one (ps_ret (pe_tup (pa_cons (pv 6) (pa_cons (pv 2) (pa_cons (pv 3) (pa_cons (pv 4) (pa_cons (pv 7) pa_nil))))))))))))))))))), ?_⟩
    refine B.pick (xs := first8.map tv) rfl rfl (fun R h => by rw [← e_first8] at h; exact h) (by decide) (by decide) (by decide) (by omega) fun d1 x1 H1 hx1 B1 A1 => ?_
    obtain ⟨l1, hl1, rfl⟩ := tv_at hx1
    obtain ⟨first, rfl, hfm⟩ := first8_ok l1 hl1
    clear hx1 hl1
    obtain ⟨hfi, hf46, hf40, hf88, hf65⟩ := ins_f first hfm
    refine ⟨_, rfl, _, rfl, _, rfl, a, t, r, ns, c + 1, first, 4, rfl, B1, by omega, hfi, by decide, by decide, fun W0 c2 H2 hW0 hW0l B2 hc2 A2 => ?_⟩
    have A02 := A1.trans A2
    dsimp only [gName, tAsg, tSeq]
    -- W
    refine seq_join (fun σ' H' => ∃ W, σ' = [some (.ref a), some (.ref t), some (tv [first]), some (tv W), none, none, none, none] ∧ H' = H2 ∧ PlT first 5 W ∧ W.length ≤ 21 ∧ (first ∈ ([43, 45, 36] : List Nat) → 2 ≤ W.count first)) ?_ (fun rest => ?_)
    rotate_left
    · refine ⟨_, rfl, _, _, rfl, rfl, _, rfl, ?_⟩
      rw [e_flo, in_sym]
      by_cases hfl : ([43, 45, 36] : List Nat).contains first = true
      · rw [hfl]
        refine iteT ⟨_, rfl, rfl, _, rfl, tx W0, tx [first], rfl, rfl, trivial, ?_⟩
        refine ⟨_, _, congrArg V.int (cnt_is first W0), rfl, _, rfl, ?_⟩
        by_cases h2 : W0.count first < 2
        · rw [decide_eq_true (by omega)]
          refine iteT ⟨_, rfl, _, rfl, _, _, rfl, rfl, by rw [tx_len, tx_len]; simp; omega, ?_⟩
          rw [tx_app]
          have h1 : 1 ≤ W0.count first := List.count_pos_iff.mpr (List.mem_of_mem_head? hW0.hd)
          refine rest _ _ ⟨first :: W0, rfl, rfl, hW0.cons, by simp; omega, fun _ => by rw [List.count_cons_self]; omega⟩
        · rw [decide_eq_false (by omega)]
          exact iteF (rest _ _ ⟨W0, rfl, rfl, hW0.mono (by decide), by omega, fun _ => by omega⟩)
      · have hfl2 : ([43, 45, 36] : List Nat).contains first = false := by simpa using hfl
        rw [hfl2]
        exact iteF (iteF (rest _ _ ⟨W0, rfl, rfl, hW0.mono (by decide), by omega, fun z => absurd (List.contains_iff_mem.mpr z) hfl⟩))
    rintro σ' H' ⟨W, rfl, rfl, hW, hWl, hWf⟩
    clear hW0 hW0l
    -- N
    refine seq_join (fun σ' H3 => ∃ N c3, σ' = [some (.ref a), some (.ref t), some (tv [first]), some (tv (W ++ N)), none, none, none, none] ∧ Bag K H3 a t r ns c3 ∧ c3 ≤ c + 25 ∧ Apart t r H H3 ∧ (N = [] ∨ (first ≠ 57 ∧ PlT 57 3 N)) ∧ N.length ≤ 20) ?_ (fun rest => ?_)
    rotate_left
    · refine ⟨_, rfl, rfl, _, rfl, ?_⟩
      rw [e_nin, sym_dec]
      by_cases h9 : first = 57
      · rw [decide_eq_true h9]
        exact iteF (iteF (rest _ _ ⟨[], c2, by rw [List.append_nil], B2, by omega, A02, .inl rfl, by simp⟩))
      · rw [decide_eq_false h9]
        refine iteT ?_
        refine B2.draw (n := 2) rfl rfl (fun R h => h) (by decide) (by decide) (by omega) fun d3 H3 hd3 B3 A3 => ?_
        refine ⟨rfl, _, rfl, ?_⟩
        refine ifB (fun z => ?_) (fun z => ?_)
        · refine ⟨_, rfl, _, rfl, _, rfl, a, t, r, ns, c2 + 1, 57, 3, rfl, B3, by omega, by decide, by decide, by decide, fun N c4 H4 hN hNl B4 hc4 A4 => ?_⟩
          refine ⟨_, _, rfl, rfl, by rw [tx_len, tx_len]; omega, ?_⟩
          rw [tx_app]
          exact rest _ _ ⟨N, c4, rfl, B4, by omega, (A02.trans A3).trans A4, .inr ⟨h9, hN⟩, hNl⟩
        · exact rest _ _ ⟨[], c2 + 1, by rw [List.append_nil], B3, by omega, A02.trans A3, .inl rfl, by simp⟩
    rintro σ' H3 ⟨N, c3, rfl, B3, hc3, A3, hN, hNl⟩
    clear B1 B2 A1 A2 A02
    -- broken
    refine B3.pick (xs := br4.map tv) rfl rfl (fun R h => by rw [← e_br4] at h; exact h) (by decide) (by decide) (by decide) (by omega) fun d4 x4 H4 hx4 B4 A4 => ?_
    obtain ⟨b0, hb0, rfl⟩ := tv_at hx4
    have hb0' := br4_ok b0 hb0
    have hA4 := A3.trans A4
    clear hx4 hb0
    dsimp only [gName, tAsg, tSeq]
    refine seq_join (fun σ' H5 => ∃ broken c5, σ' = [some (.ref a), some (.ref t), some (tv [first]), some (tv (W ++ N)), some (tv broken), none, none, none] ∧ Bag K H5 a t r ns c5 ∧ c5 ≤ c + 28 ∧ Apart t r H H5 ∧ (broken = [] ∨ ∃ k b, k < 3 ∧ broken = List.replicate (k + 1) b ∧ (b = 57 ∨ (b = first ∧ (first = 90 ∨ first = 42) ∧ N = [])))) ?_ (fun rest => ?_)
    rotate_left
    · have stay : ∀ c5 H5, Bag K H5 a t r ns c5 → c5 ≤ c + 28 → Apart t r H H5 → _ := fun c5 H5 B5 hc5 A5 => rest _ H5 ⟨b0, c5, rfl, B5, hc5, A5, hb0'.imp id fun ⟨k, b, h1, h2, h3⟩ => ⟨k, b, h1, h2, .inl h3⟩⟩
      refine B4.draw (n := 3) rfl rfl (fun R h => h) (by decide) (by decide) (by omega) fun d5 H5 hd5 B5 A5 => ?_
      refine ⟨rfl, _, rfl, ?_⟩
      refine ifB (fun z => ?_) (fun z => ?_)
      · refine ⟨_, rfl, _, _, rfl, rfl, _, rfl, ?_⟩
        rw [e_zst, in_sym]
        by_cases hzs : ([90, 42] : List Nat).contains first = true
        · rw [hzs]
          refine iteT ⟨_, rfl, _, _, rfl, rfl, _, rfl, ?_⟩
          rw [e_nin, in_sym]
          by_cases h57 : (W ++ N).contains 57 = true
          · rw [h57]
            exact iteF (stay _ _ B5 (by omega) (hA4.trans A5))
          · have h57' : (W ++ N).contains 57 = false := by simpa using h57
            rw [h57']
            refine iteT ⟨_, rfl, ?_⟩
            refine B5.draw (n := 3) rfl rfl (fun R h => h) (by decide) (by decide) (by omega) fun d6 H6 hd6 B6 A6 => ?_
            have hm : (1 : Int) + (d6 : Nat) = ((d6 + 1 : Nat) : Int) := by omega
            refine ⟨_, _, rfl, rfl, ?_⟩
            dsimp only
            rw [hm]
            refine ⟨tx [first], ((d6 + 1 : Nat) : Int), rfl, rfl, by omega, by rw [tx_len, Int.toNat_natCast, List.length_singleton]; omega, by omega, ?_⟩
            rw [Int.toNat_natCast, rep_tx]
            refine rest _ _ ⟨_, _, rfl, B6, by omega, (hA4.trans A5).trans A6, .inr ⟨d6, first, by omega, rfl, .inr ⟨rfl, ?_, ?_⟩⟩⟩
            · simpa using hzs
            · rcases hN with h | ⟨_, h⟩
              · exact h
              · exact absurd (List.contains_iff_mem.mpr (List.mem_append_right W (List.mem_of_mem_head? h.hd))) h57
        · have hzs' : ([90, 42] : List Nat).contains first = false := by simpa using hzs
          rw [hzs']
          exact iteF (iteF (stay _ _ B5 (by omega) (hA4.trans A5)))
      · exact iteF (stay _ _ B5 (by omega) (hA4.trans A5))
    rintro σ' H5 ⟨broken, c5, rfl, B5, hc5, A5, hbr⟩
    clear B3 B4 A3 A4 hA4 hb0'
    have hbl : broken.length ≤ 3 := by
      rcases hbr with rfl | ⟨kk, b, hk, rfl, _⟩
      · simp
      · rw [List.length_replicate]; omega
    -- signs
    refine ⟨_, rfl, _, _, rfl, rfl, _, rfl, ?_⟩
    rw [e_sig, in_sym]
    refine ifJoinE (fun v H' => ∃ p sg, v = .ref p ∧ H' p = some (.lst (sg.map tv)) ∧ Same H5 H' ∧ (sg = sg1 ∨ (sg = sg3 ∧ first ≠ 43 ∧ first ≠ 45))) (fun z rest => ?_) (fun z rest => ?_) ?_
    · refine ⟨by show 3 ≤ sizeLine; omega, fun p hp => rest _ _ ⟨p, sg3, rfl, by rw [upd_same]; exact congrArg (fun x => some (HO.lst x)) e_sg3, Same.new hp, .inr ⟨rfl, ?_⟩⟩⟩
      have : ([43, 45] : List Nat).contains first = false := by simpa using z
      constructor
      · intro q; rw [q] at this; cases this
      · intro q; rw [q] at this; cases this
    · exact ⟨by show 1 ≤ sizeLine; omega, fun p hp => rest _ _ ⟨p, sg1, rfl, by rw [upd_same]; exact congrArg (fun x => some (HO.lst x)) e_sg1, Same.new hp, .inl rfl⟩⟩
    rintro v H6 ⟨ps, sg, rfl, gs, S6, hsg⟩
    have B6 := B5.same S6
    have A6 := A5.trans (Apart.of S6)
    have hsl : sg.length = 1 ∨ sg.length = 3 := by
      rcases hsg with rfl | ⟨rfl, _⟩
      · exact .inl rfl
      · exact .inr rfl
    refine ⟨_, rfl, ?_⟩
    refine B6.draw (n := (sg.length : Int)) rfl rfl (fun R h => ⟨_, rfl, ps, _, rfl, .inl (SqL.of gs), by rw [List.length_map]; exact h⟩) (by omega) (by omega) (by omega) fun d7 H7 hd7 B7 A7 => ?_
    obtain ⟨x7, hx7⟩ : ∃ x, (sg.map tv)[d7]? = some x := ⟨_, List.getElem?_eq_getElem (by rw [List.length_map]; omega)⟩
    have gs7 := B6.keep A7 gs fun _ z => nomatch z
    have A67 := A6.trans A7
    refine ⟨ps, _, _, x7, rfl, rfl, SqL.of gs7, atI_nat hx7, ?_⟩
    obtain ⟨sl, hsl2, rfl⟩ := tv_at hx7
    have hsl3 : sl = [] ∨ ((sl = [43] ∨ sl = [45]) ∧ first ≠ 43 ∧ first ≠ 45) := by
      rcases hsg with rfl | ⟨rfl, h⟩
      · exact .inl (List.mem_singleton.mp hsl2)
      · simp only [sg3, List.mem_cons, List.not_mem_nil, or_false] at hsl2
        rcases hsl2 with h1 | h1 | h1
        · exact .inl h1
        · exact .inr ⟨.inl h1, h⟩
        · exact .inr ⟨.inr h1, h⟩
    have hsll : sl.length ≤ 1 := by rcases hsl3 with rfl | ⟨rfl | rfl, _⟩ <;> simp
    refine ⟨_, rfl, rfl, _, rfl, ?_⟩
    rw [e_dol, sym_dec]
    refine ifJoinE (fun v H' => ∃ dl c8, v = .str (tx dl) ∧ Bag K H' a t r ns c8 ∧ c8 ≤ c + 31 ∧ Apart t r H H' ∧ (dl = [] ∨ (dl = [36] ∧ first ≠ 36))) (fun z rest => ?_) (fun z rest => ?_) ?_
    · have hf36 : first ≠ 36 := fun q => by rw [decide_eq_true q] at z; cases z
      refine B7.pick (xs := dol2.map tv) rfl rfl (fun R h => by rw [← e_dol2, e_dol] at h; exact h) (by decide) (by decide) (by decide) (by omega) fun d8 x8 H8 hx8 B8 A8 => ?_
      obtain ⟨dl, hdl, rfl⟩ := tv_at hx8
      refine rest _ _ ⟨dl, _, rfl, B8, by omega, A67.trans A8, ?_⟩
      simp only [dol2, List.mem_cons, List.not_mem_nil, or_false] at hdl
      exact hdl.imp id fun h => ⟨h, hf36⟩
    · exact rest _ _ ⟨[], _, by rw [e_emp], B7, by omega, A67, .inl rfl⟩
    rintro v H8 ⟨dl, c8, rfl, B8, hc8, A8, hdl⟩
    have hdll : dl.length ≤ 1 := by rcases hdl with rfl | ⟨rfl, _⟩ <;> simp
    refine ⟨_, _, rfl, rfl, by rw [tx_len, tx_len]; omega, ?_⟩
    rw [tx_app]
    clear hx7 hsl2 gs7 gs S6 B5 B6 B7 A5 A6 A7 A67 hd7
    generalize hlead : sl ++ dl = lead
    have hld : lead ∈ ([[], [43], [45], [36], [43, 36], [45, 36]] : List (List Nat)) := by
      rw [← hlead]
      rcases hsl3 with rfl | ⟨rfl | rfl, _⟩ <;> rcases hdl with rfl | ⟨rfl, _⟩ <;> decide
    have hl1 : first = 43 ∨ first = 45 → lead = [] ∨ lead = [36] := fun q => by
      rw [← hlead]
      rcases hsl3 with rfl | ⟨_, h1, h2⟩
      · exact hdl.imp id fun h => h.1
      · exact absurd q fun z => z.elim h1 h2
    have hl2 : first = 36 → lead = [] ∨ lead = [43] ∨ lead = [45] := fun q => by
      rw [← hlead]
      rcases hdl with rfl | ⟨_, h⟩
      · rw [List.append_nil]
        exact hsl3.imp id fun h => h.1
      · exact absurd q h
    have hll : lead.length ≤ 2 := by rw [← hlead, List.length_append]; omega
    -- the tail
    dsimp only [gName, tAsg, tSeq]
    refine seq_join (fun σ' H9 => ∃ tail c9, σ' = [some (.ref a), some (.ref t), some (tv [first]), some (tv (W ++ N)), some (tv broken), some (.ref ps), some (tv lead), some (tv tail)] ∧ Bag K H9 a t r ns c9 ∧ c9 ≤ c + 32 ∧ Apart t r H H9 ∧ tail ∈ ([[], [43], [45], [67, 82], [68, 66]] : List (List Nat)) ∧ (tail ≠ [] → (first ≠ 43 ∧ first ≠ 45) ∧ (lead = [] ∨ lead = [36]))) ?_ (fun rest => ?_)
    rotate_left
    · have none9 : ∀ H9, Bag K H9 a t r ns c8 → Apart t r H H9 → _ := fun H9 B9 A9 => rest [some (.ref a), some (.ref t), some (tv [first]), some (tv (W ++ N)), some (tv broken), some (.ref ps), some (tv lead), some (tv [])] H9 ⟨[], c8, rfl, B9, by omega, A9, by decide, fun z => absurd rfl z⟩
      refine ⟨_, rfl, _, _, rfl, rfl, _, rfl, ?_⟩
      rw [in_sym]
      by_cases hpm : ([43, 45] : List Nat).contains first = true
      · rw [hpm, e_emp]
        exact iteF (iteF (none9 _ B8 A8))
      · have hpm' : ([43, 45] : List Nat).contains first = false := by simpa using hpm
        have hf2 : first ≠ 43 ∧ first ≠ 45 := by
          constructor
          · intro q; rw [q] at hpm'; cases hpm'
          · intro q; rw [q] at hpm'; cases hpm'
        rw [hpm']
        refine iteT ⟨_, rfl, _, rfl, tx lead, rfl, by rw [tx_len]; omega, ?_⟩
        rw [slice_one]
        refine ⟨by show 2 ≤ sizeLine; omega, fun pt hpt => ?_⟩
        have S9 := Same.new (o := .tup [.str "+", .str "-"]) hpt
        have g9 : upd H8 pt (.tup [.str "+", .str "-"]) pt = some (.tup (pm2.map tv)) := by rw [upd_same]; exact congrArg (fun x => some (HO.tup x)) e_pm2
        generalize upd H8 pt (.tup [.str "+", .str "-"]) = H9 at S9 g9
        refine ⟨pt, _, rfl, .inr (SqT.of g9), rfl, flat_txs pm2, _, rfl, ?_⟩
        rw [if_pos rfl, in_list]
        by_cases hin : pm2.contains (lead.take 1) = true
        · rw [hin, e_emp]
          exact iteF (none9 _ (B8.same S9) (A8.trans (Apart.of S9)))
        · have hin' : pm2.contains (lead.take 1) = false := by simpa using hin
          rw [hin']
          refine iteT ?_
          refine (B8.same S9).pick (xs := tl6.map tv) rfl rfl (fun R h => by rw [← e_tl6] at h; exact h) (by decide) (by decide) (by decide) (by omega) fun d9 x9 H10 hx9 B10 A10 => ?_
          obtain ⟨tail, htl, rfl⟩ := tv_at hx9
          have hlok : lead = [] ∨ lead = [36] := by
            have h : ∀ l ∈ ([[], [43], [45], [36], [43, 36], [45, 36]] : List (List Nat)), pm2.contains (l.take 1) = false → l = [] ∨ l = [36] := by decide
            exact h lead hld hin'
          refine rest _ _ ⟨tail, _, rfl, B10, by omega, (A8.trans (Apart.of S9)).trans A10, ?_, fun _ => ⟨hf2, hlok⟩⟩
          have h : ∀ l ∈ tl6, l ∈ ([[], [43], [45], [67, 82], [68, 66]] : List (List Nat)) := by decide
          exact h tail htl
    rintro σ' H9 ⟨tail, c9, rfl, B9, hc9, A9, htl, hts⟩
    have htll : tail.length ≤ 2 := by
      have h : ∀ l ∈ ([[], [43], [45], [67, 82], [68, 66]] : List (List Nat)), l.length ≤ 2 := by decide
      exact h tail htl
    refine seq_join (fun σ' H10 => ∃ tail, σ' = [some (.ref a), some (.ref t), some (tv [first]), some (tv (W ++ N)), some (tv broken), some (.ref ps), some (tv lead), some (tv tail)] ∧ H10 = H9 ∧ tail ∈ ([[], [43], [45], [67, 82], [68, 66]] : List (List Nat)) ∧ (tail ≠ [] → (first ≠ 43 ∧ first ≠ 45) ∧ (lead = [] ∨ lead = [36])) ∧ ¬ (first = 57 ∧ (∀ x ∈ W, x = 57) ∧ lead = [] ∧ broken = [] ∧ tail = []) ∧ tail.length ≤ 2) ?_ (fun rest => ?_)
    · rintro σ' H10 ⟨tail, rfl, rfl, htl, hts, hnn, htll⟩
      refine ⟨_, rfl, _, rfl, _, rfl, _, rfl, _, rfl, by show 5 ≤ sizeLine; omega, fun q hq => ?_⟩
      exact k lead first W N broken tail q c9 _ ⟨hW, hN, hfm, hWf, hbr, hld, hl1, hl2, htl, hts, hnn⟩ (by omega) (B.free B9 A9 hq) upd_same (B9.same (Same.new hq)) (by omega) (A9.trans (Apart.of (Same.new hq)))
    · have stay : ¬ (first = 57 ∧ (∀ x ∈ W, x = 57) ∧ lead = [] ∧ broken = [] ∧ tail = []) → _ := fun hnn => rest _ H9 ⟨tail, rfl, rfl, htl, hts, hnn, htll⟩
      refine ⟨_, rfl, rfl, _, rfl, ?_⟩
      rw [e_nin, sym_dec]
      by_cases h9 : first = 57
      · rw [decide_eq_true h9]
        have hN0 : N = [] := hN.resolve_right fun h => h.1 h9
        refine iteT ⟨_, rfl, rfl, tx (W ++ N), tx [57], rfl, rfl, by show (tx (W ++ N)).length ≤ sizeLine; rw [tx_len, List.length_append]; omega, rfl, _, rfl, ?_⟩
        refine ifB (fun z => ?_) (fun z => ?_)
        · refine ⟨_, rfl, _, rfl, _, _, rfl, rfl, by rw [tx_len, tx_len]; omega, ?_⟩
          rw [tx_app]
          refine ⟨_, rfl, _, _, rfl, rfl, by rw [tx_len, tx_len, List.length_append]; omega, ?_⟩
          rw [tx_app]
          refine ⟨rfl, _, rfl, ?_⟩
          rw [e_emp, str_dec]
          by_cases h0 : lead ++ broken ++ tail = []
          · rw [decide_eq_true h0]
            refine iteT (rest _ H9 ⟨[45], by rw [e_min]; rfl, rfl, by decide, fun _ => ⟨⟨by rw [h9]; decide, by rw [h9]; decide⟩, .inl ?_⟩, fun z => absurd z.2.2.2.2 (by decide), by decide⟩)
            have := List.append_eq_nil_iff.mp h0
            exact (List.append_eq_nil_iff.mp this.1).1
          · rw [decide_eq_false h0]
            exact iteF (stay fun z => h0 (by rw [z.2.2.1, z.2.2.2.1, z.2.2.2.2]; rfl))
        · refine iteF (stay fun q => ?_)
          have hrep : W = List.replicate W.length 57 := List.eq_replicate_iff.mpr ⟨rfl, q.2.1⟩
          have hlen : W.length < 6 := by
            have h5 := hW.cn
            rw [h9] at h5
            have : W.count 57 = W.length := List.count_eq_length.mpr fun b hb => (q.2.1 b hb).symm
            omega
          have := strip_nines W.length hlen
          rw [← hrep] at this
          rw [hN0, List.append_nil, ← e_nin] at z
          rw [this] at z
          cases z
      · rw [decide_eq_false h9]
        exact iteF (iteF (stay fun z => h9 z.1))
end
end Lw

set_option Elab.async false
set_option linter.all false
set_option maxRecDepth 100000
namespace Lw
open PySem PySem.Spec PyProof.Rows L2 K02 K04
/-- a drawn picture and its facts -/
inductive PicD : List Nat → Facts → Prop
  | text (m : Nat) : m < 60 → PicD (List.replicate (m + 1) 88) ⟨0, false, 0, 0⟩
  | letters (m : Nat) : m < 60 → PicD (List.replicate (m + 1) 65) ⟨1, false, 0, 0⟩
  | number (s : Bool) (a b : Nat) : a < 6 → b < 4 → a + b ≠ 0 → PicD (numLine s a b) ⟨2, s, a, b⟩
  | edited {lead : List Nat} {first : Nat} {W N broken tail : List Nat} : Ed lead first W N broken tail → lead.length + (W.length + N.length) + broken.length + tail.length ≤ 60 →
    PicD (lineOf lead W N broken tail) ⟨3, sgn lead first tail, W.count first + N.count 57 - (if flo first = true then 1 else 0), broken.length⟩
theorem line_len {lead W N broken tail : List Nat} (h : lead.length + (W.length + N.length) + broken.length + tail.length ≤ 60) : (lineOf lead W N broken tail).length ≤ 61 := by
  have hdl : (dotted broken).length ≤ broken.length + 1 := by unfold dotted; split <;> simp
  unfold lineOf
  rw [List.length_append, List.length_append, List.length_append, List.length_append]
  omega
theorem num_len : ∀ (s : Bool) (a b : Nat), a < 6 → b < 4 → (numLine s a b).length ≤ 61 := by
  intro s a b ha hb
  unfold numLine
  have h1 : (if s = true then [83] else ([] : List Nat)).length ≤ 1 := by split <;> simp
  have h2 : (if b = 0 then ([] : List Nat) else 86 :: List.replicate b 57).length ≤ b + 1 := by split <;> simp
  rw [List.length_append, List.length_append, List.length_replicate]
  omega
theorem PicD.ok {l : List Nat} {x : Facts} (h : PicD l x) : picture l = some x ∧ 40 ∉ l ∧ l.length ≤ 61 := by
  cases h with
  | text m hm => exact ⟨pic_plain (.inl rfl) hm, rep_no40 (by decide), by rw [List.length_replicate]; omega⟩
  | letters m hm => exact ⟨pic_plain (.inr rfl) hm, rep_no40 (by decide), by rw [List.length_replicate]; omega⟩
  | number s a b ha hb h => exact ⟨(num_pic s a b ha hb h).1, (num_pic s a b ha hb h).2, num_len s a b ha hb⟩
  | edited E hl => exact ⟨E.pic, E.no40, line_len hl⟩
theorem e_X : ("X" : Str) = tx [88] := by decide +kernel
theorem e_A : ("A" : Str) = tx [65] := by decide +kernel
theorem e_V : ("V" : Str) = tx [86] := by decide +kernel
def es2 : List (List Nat) := [[], [83]]
theorem e_es2 : ([.str "", .str "S"] : List V) = es2.map tv := by decide +kernel
section
variable {P : Program} {w : World} {K : PySem.W.Frag} {mg : Str → Option Value} {base : Heap} {f : Addr} {fd : FuncData} {tk : Nat → Tok} {c kr : Nat → Addr}
def spPic (K : PySem.W.Frag) : Sp := fun vs H Q _ => ∃ (a t r : Addr) (ns : List Int) (c : Int), vs = [.ref a, .ref t] ∧ Bag K H a t r ns c ∧ c < 70000 ∧
  ∀ (l : List Nat) (x : Facts) (q : Addr) (c' : Int) (H' : Hp), PicD l x → H q = none → H' q = some (.tup [tv l, .str (kindS x.kind)]) → Bag K H' a t r ns c' → c' ≤ c + 50 → Apart t r H H' → Q (.ref q) H'
set_option maxHeartbeats 1000000 in
theorem ok__law_a_picture (F : Fun K "_law_a_picture" "_law_a_picture" s__law_a_picture f fd) (O : Own mg) (D__law_draw : Def P w K mg base 1 "_law_draw" ["_law_script", "_law_town", "_law_many"] (spDraw K)) (D__law_line : Def P w K mg base 1 "_law_line" ["_law_parts"] (spLine K)) (D__law_an_edited : Def P w K mg base 3 "_law_an_edited" ["_law_script", "_law_town"] (spEd K)) :
    FnOk P w K mg base (CXE P w) 4 f fd ["_law_script", "_law_town"] (spPic K) := by
  refine okN F sc__law_a_picture (fun vs H Q E h => ?_) (fun cdv A outer s H vs Q E hr h => ?_)
  · obtain ⟨a, t, r, ns, c, rfl, _⟩ := h
    rfl
  · obtain ⟨a, t, r, ns, c, rfl, B, hc, k⟩ := h
    have hz : 1000 ≤ sizeLine := by decide
    refine ⟨_, (pss_cons (ps_set (i := 2) sc__law_a_picture.nd rfl (Or.inl rfl) (D__law_draw.pe hr (by decide) rfl passE0 (pa_cons (pv 0) (pa_cons (pv 1) (pa_cons pe_int pa_nil)))))
      (pss_cons (ps_if (pt_cmpR op_eq (pv 2) pe_int (nomark _)) (pss_one (ps_ret (pe_tup (pa_cons (pe_op op_mul_strN pe_str (pe_op op_add pe_int (D__law_draw.pe hr (by decide) rfl passE0 (pa_cons (pv 0) (pa_cons (pv 1) (pa_cons pe_int pa_nil)))))) (pa_cons pe_str pa_nil))))) pss_nil)
      (pss_cons (ps_if (pt_cmpR op_eq (pv 2) pe_int (nomark _)) (pss_one (ps_ret (pe_tup (pa_cons (pe_op op_mul_strN pe_str (pe_op op_add pe_int (D__law_draw.pe hr (by decide) rfl passE0 (pa_cons (pv 0) (pa_cons (pv 1) (pa_cons pe_int pa_nil)))))) (pa_cons pe_str pa_nil))))) pss_nil)
      (pss_cons (ps_if (pt_cmpR op_lt (pv 2) pe_int (nomark _)) (pss_cons (ps_par (i := 3) (j := 4) rfl sc__law_a_picture.nd rfl rfl (by decide) rfl rfl (pa_cons (D__law_draw.pe hr (by decide) rfl passE0 (pa_cons (pv 0) (pa_cons (pv 1) (pa_cons pe_int pa_nil)))) (pa_cons (D__law_draw.pe hr (by decide) rfl passE0 (pa_cons (pv 0) (pa_cons (pv 1) (pa_cons pe_int pa_nil)))) pa_nil)) rfl)
      (pss_cons (ps_set (i := 4) sc__law_a_picture.nd rfl (Or.inl rfl) (pe_ifExp (pt_cmpR op_eq (pe_op op_add (pv 3) (pv 4)) pe_int (nomark _)) pe_int (pv 4)))
      (pss_cons (ps_set (i := 5) sc__law_a_picture.nd rfl (Or.inl rfl) (pe_op op_add_str (pe_ix ix_list (pe_lst (pa_cons pe_str (pa_cons pe_str pa_nil))) (D__law_draw.pe hr (by decide) rfl passE0 (pa_cons (pv 0) (pa_cons (pv 1) (pa_cons pe_int pa_nil)))) (fun _ _ => rfl)) (pe_op op_mul_strN pe_str (pv 3))))
      (pss_one (ps_ret (pe_tup (pa_cons (pe_op op_add_str (pv 5) (pe_ifExp (pt_cmpR op_gt (pv 4) pe_int (nomark _)) (pe_op op_add_str pe_str (pe_op op_mul_strN pe_str (pv 4))) pe_str)) (pa_cons pe_str pa_nil)))))))) pss_nil)
      (pss_one (ps_ret (pe_tup (pa_cons (D__law_line.pe hr (by decide) rfl passE0 (pa_cons (D__law_an_edited.pe hr (by decide) rfl passE0 (pa_cons (pv 0) (pa_cons (pv 1) pa_nil))) pa_nil)) (pa_cons pe_str pa_nil))))))))), ?_⟩
    refine B.draw (n := 6) rfl rfl (fun R h => h) (by decide) (by decide) (by omega) fun d1 H1 hd1 B1 A1 => ?_
    have one : ∀ d : Nat, (1 : Int) + (d : Nat) = ((d + 1 : Nat) : Int) := fun d => by omega
    refine ⟨_, rfl, rfl, _, rfl, ?_⟩
    rw [eq_int']
    refine ifB (fun z1 => ?_) (fun z1 => ?_)
    · refine B1.draw (n := 8) rfl rfl (fun R h => h) (by decide) (by decide) (by omega) fun d2 H2 hd2 B2 A2 => ?_
      refine ⟨_, _, rfl, rfl, ?_⟩
      dsimp only
      rw [one, e_X]
      refine ⟨tx [88], ((d2 + 1 : Nat) : Int), rfl, rfl, by omega, by rw [tx_len, Int.toNat_natCast, List.length_singleton]; omega, by omega, ?_⟩
      rw [Int.toNat_natCast, rep_tx]
      refine ⟨by show 2 ≤ sizeLine; omega, fun q hq => ?_⟩
      exact k _ _ q _ _ (.text d2 (by omega)) (B.free B2 (A1.trans A2) hq) upd_same (B2.same (Same.new hq)) (by omega) ((A1.trans A2).trans (Apart.of (Same.new hq)))
    refine ⟨_, rfl, rfl, _, rfl, ?_⟩
    rw [eq_int']
    refine ifB (fun z2 => ?_) (fun z2 => ?_)
    · refine B1.draw (n := 8) rfl rfl (fun R h => h) (by decide) (by decide) (by omega) fun d2 H2 hd2 B2 A2 => ?_
      refine ⟨_, _, rfl, rfl, ?_⟩
      dsimp only
      rw [one, e_A]
      refine ⟨tx [65], ((d2 + 1 : Nat) : Int), rfl, rfl, by omega, by rw [tx_len, Int.toNat_natCast, List.length_singleton]; omega, by omega, ?_⟩
      rw [Int.toNat_natCast, rep_tx]
      refine ⟨by show 2 ≤ sizeLine; omega, fun q hq => ?_⟩
      exact k _ _ q _ _ (.letters d2 (by omega)) (B.free B2 (A1.trans A2) hq) upd_same (B2.same (Same.new hq)) (by omega) ((A1.trans A2).trans (Apart.of (Same.new hq)))
    refine ⟨_, rfl, _, _, rfl, rfl, _, rfl, ?_⟩
    refine ifB (fun z3 => ?_) (fun z3 => ?_)
    · refine B1.draw (n := 6) rfl rfl (fun R h => h) (by decide) (by decide) (by omega) fun a2 H2 hd2 B2 A2 => ?_
      refine B2.draw (n := 4) rfl rfl (fun R h => h) (by decide) (by decide) (by omega) fun b2 H3 hd3 B3 A3 => ?_
      refine ⟨_, _, rfl, ?_⟩
      have A03 := (A1.trans A2).trans A3
      refine ⟨_, rfl, _, rfl, _, _, rfl, rfl, rfl, _, rfl, ?_⟩
      rw [eq_int']
      refine ifJoinE (fun v H' => ∃ b : Nat, v = .int (b : Nat) ∧ H' = H3 ∧ b < 4 ∧ a2 + b ≠ 0) (fun z rest => ?_) (fun z rest => ?_) ?_
      · have := of_decide_eq_true z
        exact rest _ _ ⟨1, rfl, rfl, by decide, by omega⟩
      · have := of_decide_eq_false z
        exact ⟨_, rfl, rest _ _ ⟨b2, rfl, rfl, by omega, by omega⟩⟩
      rintro v H' ⟨b, rfl, rfl, hb4, hab⟩
      dsimp only [gName, tAsg, tSeq]
      refine B3.pick (xs := es2.map tv) rfl rfl (fun R h => by rw [← e_es2] at h; exact h) (by decide) (by decide) (by decide) (by omega) fun d4 x4 H4 hx4 B4 A4 => ?_
      obtain ⟨sl, hsl, rfl⟩ := tv_at hx4
      obtain ⟨sg, rfl⟩ : ∃ sg : Bool, sl = if sg = true then [83] else [] := by
        simp only [es2, List.mem_cons, List.not_mem_nil, or_false] at hsl
        rcases hsl with rfl | rfl
        · exact ⟨false, rfl⟩
        · exact ⟨true, rfl⟩
      have hsll : (if sg = true then [83] else ([] : List Nat)).length ≤ 1 := by split <;> simp
      rw [e_nin]
      refine ⟨_, rfl, tx [57], (a2 : Int), rfl, rfl, by omega, by rw [tx_len, Int.toNat_natCast, List.length_singleton]; omega, by omega, ?_⟩
      rw [Int.toNat_natCast, rep_tx]
      refine ⟨_, _, rfl, rfl, by rw [tx_len, tx_len, List.length_replicate]; omega, ?_⟩
      rw [tx_app]
      refine ⟨_, rfl, _, rfl, _, _, rfl, rfl, _, rfl, ?_⟩
      refine ifJoinE (fun v H' => v = .str (tx (if b = 0 then ([] : List Nat) else 86 :: List.replicate b 57)) ∧ H' = H4) (fun z rest => ?_) (fun z rest => ?_) ?_
      · have hb : b ≠ 0 := by have := of_decide_eq_true z; omega
        refine ⟨_, rfl, tx [57], (b : Int), rfl, rfl, by omega, by rw [tx_len, Int.toNat_natCast, List.length_singleton]; omega, by omega, ?_⟩
        rw [Int.toNat_natCast, rep_tx, e_V]
        refine ⟨_, _, rfl, rfl, by rw [tx_len, tx_len, List.length_replicate]; simp; omega, ?_⟩
        rw [tx_app]
        exact rest _ _ ⟨by rw [if_neg hb]; rfl, rfl⟩
      · have hb : b = 0 := by have := of_decide_eq_false z; omega
        exact rest _ _ ⟨by rw [if_pos hb, e_emp], rfl⟩
      rintro v H' ⟨rfl, rfl⟩
      have h2 : (if b = 0 then ([] : List Nat) else 86 :: List.replicate b 57).length ≤ b + 1 := by split <;> simp
      refine ⟨_, _, rfl, rfl, by rw [tx_len, tx_len, List.length_append, List.length_replicate]; omega, ?_⟩
      rw [tx_app]
      refine ⟨by show 2 ≤ sizeLine; omega, fun q hq => ?_⟩
      exact k _ _ q _ _ (.number sg a2 b (by omega) hb4 hab) (B.free B4 (A03.trans A4) hq) upd_same (B4.same (Same.new hq)) (by omega) ((A03.trans A4).trans (Apart.of (Same.new hq)))
    · refine ⟨_, rfl, _, rfl, a, t, r, ns, c + 1, rfl, B1, by omega, fun lead first W N broken tail q c2 H2 E hl hq gq B2 hc2 A2 => ?_⟩
      refine ⟨q, lead, [first], W, N, broken, tail, rfl, SqT.of gq, by omega, ?_⟩
      refine ⟨by show 2 ≤ sizeLine; omega, fun q2 hq2 => ?_⟩
      exact k _ _ q2 _ _ (.edited E hl) (B.free B2 (A1.trans A2) hq2) upd_same (B2.same (Same.new hq2)) (by omega) ((A1.trans A2).trans (Apart.of (Same.new hq2)))
end
end Lw

set_option Elab.async false
set_option linter.all false
set_option maxRecDepth 100000
namespace Lw
open PySem PySem.Spec PyProof.Rows L2 K02 K04
open Builtin Builtin.Str StrLaws
theorem run_is {l : List Nat} {p e ch : Nat} (hs : ∀ j, p ≤ j → j < e → l[j]? = some ch) (hpe : p ≤ e) (hel : e ≤ l.length) : (l.drop p).take (e - p) = List.replicate (e - p) ch := by
  apply List.ext_getElem?
  intro i
  rw [List.getElem?_take, List.getElem?_replicate]
  split
  · rw [List.getElem?_drop, hs (p + i) (by omega) (by omega)]
  · rfl
section
variable {P : Program} {w : World} {K : PySem.W.Frag} {mg : Str → Option Value} {base : Heap} {f : Addr} {fd : FuncData} {tk : Nat → Tok} {c kr : Nat → Addr}
def spLF : Sp := fun vs H Q _ => ∃ l : List Nat, vs = [.str (tx l)] ∧ l.length ≤ 100 ∧ 40 ∉ l ∧ ∀ H', Same H H' → Q (.str (tx (fold l))) H'
set_option maxHeartbeats 1000000 in
theorem ok__law_folded (F : Fun K "_law_folded" "_law_folded" s__law_folded f fd) (O : Own mg) : FnOk P w K mg base (CXE P w) 1 f fd ["_law_line_here"] spLF := by
  refine okN F sc__law_folded (fun vs H Q E h => ?_) (fun cdv A outer s H vs Q E hr h => ?_)
  · obtain ⟨l, rfl, _⟩ := h
    rfl
  · obtain ⟨l, rfl, hl, h40, k⟩ := h
    have hz : 1000 ≤ sizeLine := by decide
    have htl := tx_len l
    have e40 : ("(" : Str) = tx [40] := by decide +kernel
    have e41 : (")" : Str) = tx [41] := by decide +kernel
    refine ⟨_, (pss_cons (ps_asg (pe_tup (pa_cons pe_str (pa_cons pe_int pa_nil))) (pg_tup rfl (pgs_cons (pg_name (i := 1) sc__law_folded.nd rfl (Or.inl rfl)) (pgs_cons (pg_name (i := 2) sc__law_folded.nd rfl (Or.inl rfl)) pgs_nil))))
      (pss_cons (ps_while PassesOwn.never (pt_cmpR op_lt (pv 2) (pe_callB call_len_str rfl O.len PySem.boot_len (pa_cons (pv 0) pa_nil)) (nomark _)) (pss_cons (ps_set (i := 3) sc__law_folded.nd rfl (Or.inl rfl) (pv 2))
      (pss_cons (ps_while PassesOwn.never (PW.pt (pw_and (pt_cmpR op_lt (pv 3) (pe_callB call_len_str rfl O.len PySem.boot_len (pa_cons (pv 0) pa_nil)) (nomark _)) (pw_and1 (pt_cmpR op_eq (pe_ix ix_str (pv 0) (pv 3) (fun _ _ => rfl)) (pe_ix ix_str (pv 0) (pv 2) (fun _ _ => rfl)) (nomark _))))) (pss_one (ps_set (i := 3) sc__law_folded.nd rfl (Or.inl rfl) (pe_op op_add (pv 3) pe_int))))
      (pss_cons (ps_set (i := 4) sc__law_folded.nd rfl (Or.inl rfl) (pe_op op_add_str (pe_op op_add_str (pe_op op_add_str (pe_ix ix_str (pv 0) (pv 2) (fun _ _ => rfl)) pe_str) (pe_callTy call_str_int rfl O.str PyProof.Rows.boot_str (pa_cons (pe_op op_sub (pv 3) (pv 2)) pa_nil))) pe_str))
      (pss_cons (ps_set (i := 1) sc__law_folded.nd rfl (Or.inl rfl) (pe_op op_add_str (pv 1) (pe_ifExp (pt_cmpR op_gt (pe_op op_sub (pv 3) (pv 2)) pe_int (nomark _)) (pv 4) (pe_slice sl_str (pv 0) (po_some (pv 2)) (po_some (pv 3))))))
      (pss_one (ps_set (i := 2) sc__law_folded.nd rfl (Or.inl rfl) (pv 3))))))))
      (pss_one (ps_ret (pv 1))))), ?_⟩
    refine ⟨by show 2 ≤ sizeLine; omega, fun p0 h0 => ⟨p0, _, rfl, SqT.of upd_same, rfl, _, _, rfl, _, _, rfl, rfl, ?_⟩⟩
    have S0 := Same.new (o := .tup [.str "", .int 0]) h0
    generalize upd H p0 (.tup [.str "", .int 0]) = H0 at S0
    refine ⟨fun m σ H2 => ∃ (p : Nat) (x3 x4 : Option V), m = l.length - p ∧ p ≤ l.length ∧ σ = [some (.str (tx l)), some (.str (tx (fold (l.take p)))), some (.int (p : Nat)), x3, x4] ∧ H2 = H0 ∧ (∀ r x n, rle [] (l.take p) = r ++ [(x, n)] → l[p]? ≠ some x),
      ⟨l.length - 0, 0, none, none, rfl, Nat.zero_le _, by rw [e_emp]; rfl, rfl, fun r x n h => ?_⟩, ?_⟩
    · have := congrArg List.length h
      simp [rle] at this
    rintro m σ H2 ⟨p, x3, x4, rfl, hp, rfl, rfl, hlast⟩
    refine ⟨_, rfl, _, rfl, tx l, rfl, by omega, _, _, rfl, rfl, _, rfl, ?_⟩
    refine ifB (fun h1 => ?_) (fun h1 => ?_)
    · have hpl : p < l.length := by have := of_decide_eq_true h1; omega
      obtain ⟨ch, hch⟩ : ∃ ch, l[p]? = some ch := ⟨_, List.getElem?_eq_getElem hpl⟩
      have hch40 : ch ≠ 40 := fun z => h40 (by rw [← z]; exact List.mem_of_getElem? hch)
      refine ⟨_, fun _ _ h => h, _, rfl, ?_⟩
      refine while_join (fun m σ H3 => ∃ (e : Nat), m = l.length - e ∧ p ≤ e ∧ e ≤ l.length ∧ σ = [some (.str (tx l)), some (.str (tx (fold (l.take p)))), some (.int (p : Nat)), some (.int (e : Nat)), x4] ∧ H3 = H2 ∧ ∀ j, p ≤ j → j < e → l[j]? = some ch)
        (fun σ H3 => ∃ (e : Nat), p + 1 ≤ e ∧ e ≤ l.length ∧ σ = [some (.str (tx l)), some (.str (tx (fold (l.take p)))), some (.int (p : Nat)), some (.int (e : Nat)), x4] ∧ H3 = H2 ∧ (∀ j, p ≤ j → j < e → l[j]? = some ch) ∧ l[e]? ≠ some ch)
        ⟨l.length - p, p, rfl, Nat.le_refl _, hp, rfl, rfl, fun j h1 h2 => absurd h2 (by omega)⟩ (fun rest => ?_) ?_
      · rintro m σ H3 ⟨e, rfl, hpe, hel, rfl, rfl, hsame⟩
        have hlt : l[e]? ≠ some ch → p + 1 ≤ e := fun z => by
          rcases Nat.lt_or_ge p e with q | q
          · exact q
          · have : p = e := by omega
            subst this
            exact absurd hch z
        refine ⟨_, rfl, _, rfl, tx l, rfl, by omega, _, _, rfl, rfl, _, rfl, ?_⟩
        refine ifB (fun h2 => ?_) (fun h2 => ?_)
        · have hel2 : e < l.length := by have := of_decide_eq_true h2; omega
          obtain ⟨ch2, hch2⟩ : ∃ ch, l[e]? = some ch := ⟨_, List.getElem?_eq_getElem hel2⟩
          refine ⟨_, rfl, _, rfl, tx l, (e : Int), ch2, rfl, rfl, by omega, atI_nat hch2, ?_⟩
          refine ⟨_, rfl, _, rfl, tx l, (p : Int), ch, rfl, rfl, by omega, atI_nat hch, rfl, _, rfl, ?_⟩
          rw [show (⟨#[ch2]⟩ : Str) = tx [ch2] from rfl, show (⟨#[ch]⟩ : Str) = tx [ch] from rfl, sym_dec]
          refine ifB (fun h3 => ?_) (fun h3 => ?_)
          · have hcc : ch2 = ch := of_decide_eq_true h3
            refine ⟨_, fun _ _ h => h, _, rfl, _, _, rfl, rfl, l.length - (e + 1), by omega, e + 1, rfl, by omega, by omega, ?_, rfl, fun j j1 j2 => ?_⟩
            · show [_, _, _, some (V.int ((e : Int) + 1)), _] = _
              rw [cast_succ]
            · rcases Nat.lt_or_ge j e with q | q
              · exact hsame j j1 q
              · rw [show j = e by omega, hch2, hcc]
          · have hcc : ch2 ≠ ch := of_decide_eq_false h3
            have hne : l[e]? ≠ some ch := fun z => by rw [hch2] at z; exact hcc (Option.some.inj z)
            exact rest _ _ ⟨e, hlt hne, hel, rfl, rfl, hsame, hne⟩
        · have hel2 : e = l.length := by have := of_decide_eq_false h2; omega
          have hne : l[e]? ≠ some ch := by rw [List.getElem?_eq_none (by omega)]; exact fun z => by cases z
          exact iteF (rest _ _ ⟨e, hlt hne, hel, rfl, rfl, hsame, hne⟩)
      · rintro σ H3 ⟨e, hpe, hel, rfl, rfl, hsame, hne⟩
        have hrun := rle_run hsame hpe hel hlast
        have hfo : fold (l.take e) = fold (l.take p) ++ rowText (ch, e - p) := by unfold fold; rw [hrun, short_app, short_one]
        have hm : (e : Int) - (p : Int) = ((e - p : Nat) : Int) := by omega
        have hds := (dec_small (e - p) (by omega) (by omega)).1
        have hdl := tx_len (dec (e - p))
        have hfl := K04.fold_len (l := l.take e) (fun z => h40 (List.mem_of_mem_take z)) (by rw [List.length_take]; omega)
        have hfl2 : (fold (l.take e)).length ≤ 400 := by rw [List.length_take] at hfl; omega
        rw [hfo, List.length_append] at hfl2
        dsimp only [gName, tAsg, tSeq, tNext]
        refine ⟨_, rfl, _, rfl, tx l, (p : Int), ch, rfl, rfl, by omega, atI_nat hch, ?_⟩
        rw [show (⟨#[ch]⟩ : Str) = tx [ch] from rfl, e40, e41]
        refine ⟨_, _, rfl, rfl, by rw [tx_len, tx_len]; simp; omega, ?_⟩
        rw [tx_app]
        refine ⟨_, rfl, _, rfl, _, _, rfl, rfl, ?_⟩
        dsimp only
        rw [hm]
        refine ⟨_, rfl, ?_, ?_⟩
        · rw [Int.natAbs_natCast]
          exact (Nat.log2_lt (by omega)).mpr (Nat.lt_of_le_of_lt (show e - p ≤ 100 by omega) (by decide))
        rw [K02.dec_str]
        refine ⟨_, _, rfl, rfl, by rw [tx_len, hdl, List.length_append]; simp; omega, ?_⟩
        rw [tx_app]
        refine ⟨_, _, rfl, rfl, by rw [tx_len, tx_len, List.length_append, List.length_append]; simp; omega, ?_⟩
        rw [tx_app]
        have esh : [ch] ++ [40] ++ dec (e - p) ++ [41] = ch :: 40 :: (dec (e - p) ++ [41]) := by simp
        rw [esh]
        refine ⟨_, rfl, _, rfl, _, rfl, _, _, rfl, rfl, _, _, rfl, rfl, _, rfl, ?_⟩
        dsimp only
        rw [hm]
        refine ifJoinE (fun x H' => x = .str (tx (rowText (ch, e - p))) ∧ H' = H3) (fun z rest => ?_) (fun z rest => ?_) ?_
        · have z5 := of_decide_eq_true z
          refine ⟨_, rfl, rest _ _ ⟨?_, rfl⟩⟩
          unfold rowText
          rw [if_neg (by show ¬ e - p < 5; omega)]
        · have z5 := of_decide_eq_false z
          refine ⟨_, rfl, _, rfl, _, rfl, _, rfl, _, rfl, tx l, rfl, by omega, ?_⟩
          rw [slice_mid l (by omega) (by omega), run_is hsame (by omega) hel]
          refine rest _ _ ⟨?_, rfl⟩
          unfold rowText
          rw [if_pos (by show e - p < 5; omega)]
        rintro x H6 ⟨rfl, rfl⟩
        refine ⟨_, _, rfl, rfl, by rw [tx_len, tx_len]; omega, ?_⟩
        rw [tx_app, ← hfo]
        refine ⟨_, rfl, ?_⟩
        refine ⟨l.length - e, by omega, e, _, _, rfl, hel, rfl, rfl, fun r x n h => ?_⟩
        rw [hrun] at h
        have := (List.append_inj' h rfl).2
        have hx : ch = x := by injection this with h1 _; exact congrArg Prod.fst h1
        rw [← hx]
        exact hne
    · have ha : p = l.length := by have := of_decide_eq_false h1; omega
      subst ha
      refine ⟨_, rfl, ?_⟩
      rw [List.take_length]
      exact k _ S0
end
end Lw

set_option Elab.async false
set_option linter.all false
set_option maxRecDepth 100000
namespace Lw
open PySem PySem.Spec PyProof.Rows L2 K02 K04
open Builtin Builtin.Str StrLaws
/-- the name of the law's lambdas -/
def qq : Str := (envOfC "law" (defScope s_law) 0 0 .none).qual ++ "<lambda>"
def spLaw (Pa : Addr) : Sp := fun vs H Q _ => ∃ (a : Addr) (ns : List Int), vs = [.ref a] ∧ ns.length ≤ 63 ∧ Only1 Pa H ∧ (∃ o, H a = some (.frz o (.lst (ns.map V.int)))) ∧ ∀ H', Q (.bl true) H'
theorem tab_new {H : Hp} {P : Addr} {q : Str} (h : H P = some (.tbl #[])) : TabOk H P q := ⟨#[], h, trivial, fun pos cv z => by cases z⟩
theorem neS (a : Str) : ¬ (!decide (V.str a = V.str a)) = true := by simp
theorem heard_no {K : PySem.W.Frag} {c : Nat → Addr} {te : XK → TE} {σ : L2.St} {H : Hp} {Q : VK} {a t r Pa : Addr} {ns : List Int} {cc : Int} {q : Str} (i : Nat) (St : LawSt H a t r Pa q ns cc) (G : Kind K c i)
    (hte : ∀ (E : XK) (H0 : Hp) (Q' : VK), (∀ H', Same H0 H' → E (.ref (c i)) none H') → te E σ H0 Q')
    (k : ∀ pw H', LawSt H' a t r Pa q ns cc → H' pw = some (.tup [.str (nmOf i)]) → (∀ b o, H b = some o → (∀ ps, o ≠ .tbl ps) → H' b = some o) → H pw = none → Q (.ref pw) H') :
    tLam Pa q (fun σ f c' H1 Q => H1 c' = some (codeO c' q) ∧ tHd K c te σ H1 Q) σ H Q := by
  refine ⟨St.tab, fun fl c' H1 un code T1 keep => ⟨code, fun H2 S2 => hte _ _ _ fun H3 S3 => ⟨i, rfl, G, fun ex pw H4 hex S4 hpw => ?_⟩⟩⟩
  have Sx := S2.trans (S3.trans ((Same.new hex).trans S4))
  have Sp := Same.new (o := .tup [.str (nmOf i)]) hpw
  refine k pw _ (((St.lam keep T1).same Sx).same Sp) upd_same (fun b o e n => Sp _ _ (Sx _ _ (St.keepL keep e n))) ?_
  cases e : H pw with
  | none => rfl
  | some o =>
    by_cases z : pw = Pa
    · obtain ⟨ps, h1, _⟩ := T1
      have := Sx _ _ h1
      rw [← z, hpw] at this
      cases this
    · have := Sx _ _ (keep _ _ e z)
      rw [hpw] at this
      cases this
theorem orV_join {ta tb : TE} {σ : L2.St} {H : Hp} {Q : VK} (Good : V → Hp → Prop) (rest : ∀ v H', Good v H' → Q v H') (h : (∀ v H', Good v H' → Q v H') → tOrV ta tb σ H Q) : tOrV ta tb σ H Q := h rest
theorem num_asc : ∀ (s : Bool) (a b : Nat), a < 6 → b < 4 → ∀ x ∈ numLine s a b, x < 128 := by
  intro s a b _ _ x hx
  unfold numLine at hx
  rcases List.mem_append.mp hx with hx | hx
  · rcases List.mem_append.mp hx with hx | hx
    · split at hx
      · rw [List.mem_singleton.mp hx]; decide
      · cases hx
    · rw [List.eq_of_mem_replicate hx]; decide
  · split at hx
    · cases hx
    · rcases List.mem_cons.mp hx with hx | hx
      · rw [hx]; decide
      · rw [List.eq_of_mem_replicate hx]; decide
theorem alph_asc : ∀ x ∈ alph, x < 128 := by decide
theorem PicD.asc {l : List Nat} {x : Facts} (h : PicD l x) : ∀ y ∈ l, y < 128 := by
  cases h with
  | text m hm => intro y hy; rw [List.eq_of_mem_replicate hy]; decide
  | letters m hm => intro y hy; rw [List.eq_of_mem_replicate hy]; decide
  | number s a b ha hb h => exact num_asc s a b ha hb
  | edited E hl => exact fun y hy => alph_asc y (E.sym y hy)
theorem asc_all {l : List Nat} (h : ∀ x ∈ l, x < 128) : (tx l).cps.all (· < 128) = true := by
  rw [Array.all_eq_true']
  intro x hx
  have : x ∈ l := by simpa using hx
  simpa using h x this
def tl2 : List V := [.str "text", .str "letters"]
theorem in_tl : ∀ k ≤ 3, inV (.str (kindS k)) tl2 = decide (k ≤ 1) := by decide +kernel
/-- what the law takes apart of a number -/
theorem num_parts : ∀ (s : Bool) (a b : Nat), a < 6 → b < 4 → parts3 (Txt.replace (tx (numLine s a b)) "S" "") "V" = [tv (List.replicate a 57), if b = 0 then tv [] else tv [86], tv (List.replicate b 57)] := by
  have h : ∀ s : Bool, ∀ a < 6, ∀ b < 4, parts3 (Txt.replace (tx (numLine s a b)) "S" "") "V" = [tv (List.replicate a 57), if b = 0 then tv [] else tv [86], tv (List.replicate b 57)] := by decide +kernel
  intro s a b ha hb
  exact h s a ha b hb
theorem num_S : ∀ (s : Bool) (a b : Nat), a < 6 → b < 4 → (numLine s a b).contains 83 = s := by
  have h : ∀ s : Bool, ∀ a < 6, ∀ b < 4, (numLine s a b).contains 83 = s := by decide +kernel
  intro s a b ha hb
  exact h s a ha b hb
theorem num_rl : ∀ (s : Bool) (a b : Nat), a < 6 → b < 4 → (Txt.replace (tx (numLine s a b)) "S" "").length ≤ 100 := by
  have h : ∀ s : Bool, ∀ a < 6, ∀ b < 4, (Txt.replace (tx (numLine s a b)) "S" "").length ≤ 100 := by decide +kernel
  intro s a b ha hb
  exact h s a ha b hb
def plc (c : Nat) : Bool := ([57, 90, 42, 43, 45, 36] : List Nat).contains c
theorem plc_ins {c : Nat} (h : ins c = true) : plc c = false := by
  have : ∀ c ∈ ([44, 66, 48, 47] : List Nat), plc c = false := by decide
  exact this c (List.contains_iff_mem.mp h)
theorem plc_cnt {s m : Nat} {l : List Nat} (hs : plc s = true) (h : PlT s m l) : (l.filter plc).length = l.count s := by
  have : ∀ l : List Nat, (∀ x ∈ l, x = s ∨ ins x = true) → (l.filter plc).length = l.count s := by
    intro l
    induction l with
    | nil => intro _; rfl
    | cons a r ih =>
      intro ha
      have hr := ih fun x hx => ha x (List.mem_cons_of_mem _ hx)
      rw [List.filter_cons, List.count_cons]
      rcases ha a List.mem_cons_self with rfl | hi
      · rw [if_pos hs]
        simp
        omega
      · rw [if_neg (by rw [plc_ins hi]; decide), hr]
        have : (a == s) = false := by
          have hne : a ≠ s := fun z => by rw [z] at hi; rw [plc_ins hi] at hs; cases hs
          simpa using hne
        rw [this]
        simp
  exact this l h.all
theorem _root_.K04.Ed.plcs {lead : List Nat} {first : Nat} {W N broken tail : List Nat} (E : Ed lead first W N broken tail) : ((W ++ N).filter plc).length = W.count first + N.count 57 := by
  have hf : plc first = true := List.contains_iff_mem.mpr E.f
  rw [List.filter_append, List.length_append, plc_cnt hf E.w]
  rcases E.n with hn | ⟨_, hn⟩
  · rw [hn]; rfl
  · rw [plc_cnt (by decide) hn]
theorem e_plc : ("9Z*+-$" : Str) = tx [57, 90, 42, 43, 45, 36] := by decide +kernel
theorem e_sv : ("SV" : Str) = tx [83, 86] := by decide +kernel
theorem e_S : ("S" : Str) = tx [83] := by decide +kernel
theorem e_pm : ("+-" : Str) = tx [43, 45] := by decide +kernel
theorem sgn_is {lead tail : List Nat} {first : Nat} (h : lead ∈ ([[], [43], [45], [36], [43, 36], [45, 36]] : List (List Nat))) : sgn lead first tail = (pm2.contains (lead.take 1) || (([43, 45] : List Nat).contains first || !decide (tail = []))) := by
  have e1 : ∀ l ∈ ([[], [43], [45], [36], [43, 36], [45, 36]] : List (List Nat)), (l.head? == some 43 || l.head? == some 45) = pm2.contains (l.take 1) := by decide
  unfold sgn
  rw [e1 lead h, Bool.or_assoc]
  congr 1
  congr 1
  · by_cases h1 : first = 43 <;> by_cases h2 : first = 45 <;> simp [h1, h2]
  · cases tail <;> simp
theorem EqD.bl {K : PySem.W.Frag} {H : Hp} {n : Nat} {a b : Bool} (e : a = b) : EqD K H n (.bl a) (.bl b) true := by
  subst e
  have := EqD.flat (K := K) (H := H) (n := n) (x := .bl a) (y := .bl a) rfl rfl
  have e : eqV (.bl a) (.bl a) = true := by cases a <;> rfl
  rw [e] at this
  exact this
section
variable {P : Program} {w : World} {K : PySem.W.Frag} {mg : Str → Option Value} {base : Heap} {f fh : Addr} {fd fdh : FuncData} {tk : Nat → Tok} {c kr : Nat → Addr} {ca Pa : Addr}
/-- the signs of a text that pass, counted -/
theorem len_signs {l : List Nat} {NB : List Str} {tl : TE} {tt : TT} {σ : L2.St} {H : Hp} {Q : VK} (ok : Nat → Bool) (hNB : NB.length = 2) (ha : ∀ x ∈ l, x < 128) (hl : l.length ≤ 900) (h : ∀ R : VK, R (.str (tx l)) H → tl σ H R)
    (htt : ∀ (y : Nat) (H1 : Hp) (R : Bool → Hp → Prop), R (ok y) H1 → tt [none, some (.str (tx [y]))] H1 R) (k : ∀ H', Same H H' → Q (.int ((l.filter ok).length : Nat)) H') :
    tCB (fun xs H Q => ∃ p ys, xs = [.ref p] ∧ (SqL K H p ys ∨ SqT K H p ys) ∧ Q (.int (ys.length : Nat)) H) (tCons (tComp NB (iStr tl) (gName 1) tt (tVar 1)) tNil) σ H Q := by
  have hz : 1000 ≤ sizeLine := by decide
  have htl := tx_len l
  dsimp only [tCB, tCons, tNil]
  refine comp_str (z := tx l) (fun m vs H2 => vs = ((l.take m).filter ok).map (fun c => V.str (tx [c])) ∧ H2 = H) h (asc_all ha) ⟨rfl, rfl⟩ (fun m vs H hm ⟨e, _⟩ => ?_) ?_ ?_ (by show (tx l).length < sizeLine; omega)
  · rw [e, List.length_map]
    exact Nat.le_trans (List.length_filter_le _ _) (by rw [List.length_take]; omega)
  · rintro m cc vs H1 hx ⟨rfl, rfl⟩
    have hx' : l[m]? = some cc := by simpa using hx
    have htk : l.take (m + 1) = l.take m ++ [cc] := by rw [List.take_add_one, hx']; rfl
    rw [show (⟨#[cc]⟩ : Str) = tx [cc] from rfl, hNB]
    refine htt cc _ _ ?_
    rw [htk, List.filter_append]
    cases hn : ok cc with
    | true =>
      refine iteT ⟨_, rfl, ?_, rfl⟩
      rw [List.filter_cons, if_pos hn]
      simp
    | false =>
      refine iteF ⟨?_, rfl⟩
      rw [List.filter_cons, if_neg (by rw [hn]; decide)]
      simp
  · rintro vs H1 ⟨rfl, rfl⟩ pv hpv
    rw [List.take_of_length_le (show l.length ≤ (tx l).cps.size by simp)]
    refine ⟨pv, _, rfl, .inl (SqL.of upd_same), ?_⟩
    rw [List.length_map]
    exact k _ (Same.new hpv)
set_option maxHeartbeats 8000000 in
theorem ok_law (F : FunC K "law" "law" s_law f fd (.ref ca)) (O : Own mg) (T : Txt K mg tk c kr) (L : Lamb mg base ca Pa) (Fh : Fun K "_law_heard" "_law_heard" s__law_heard fh fdh) (hmh : mg "_law_heard" = some (.ref fh)) (hbh : Binds K fdh ["_law_deed"] []) (G2 : Kind K c 2)
    (D__law_class : Def P w K mg base 1 "_law_class" ["_law_kept"] (spClass K c)) (D__law_begun : Def P w K mg base 1 "_law_begun" [] spBegun) (D__law_draw : Def P w K mg base 1 "_law_draw" ["_law_script", "_law_town", "_law_many"] (spDraw K))
    (D__law_short_line : Def P w K mg base 2 "_law_short_line" ["_law_script", "_law_town", "_law_line_here"] (spShortL K)) (D__law_a_picture : Def P w K mg base 4 "_law_a_picture" ["_law_script", "_law_town"] (spPic K)) (D__law_an_edited : Def P w K mg base 3 "_law_an_edited" ["_law_script", "_law_town"] (spEd K)) (D__law_line : Def P w K mg base 1 "_law_line" ["_law_parts"] (spLine K)) (D__law_folded : Def P w K mg base 1 "_law_folded" ["_law_line_here"] spLF)
    (D_is_picture : Def P w K mg base 6 "is_picture" ["thing"] (spIsPic K)) (D_kind_of : Def P w K mg base 7 "kind_of" ["picture"] (spKind c)) (D_unfolded : Def P w K mg base 7 "unfolded" ["text"] spUnf) (D_folded : Def P w K mg base 7 "folded" ["text"] spFold) (DK0_folded : DefK0 P w K mg base 7 "folded" "text" spFold) (D_room : Def P w K mg base 7 "room" ["picture"] (spRoom c)) (D_size_of : Def P w K mg base 7 "size_of" ["picture"] spSize) :
    FnOk P w K mg base (CXE P w) 10 f fd ["_law_script"] (spLaw Pa) := by
  refine okNCx F sc_law (fun vs H Q E h => ?_) (fun A outer s H vs Q E hr h => ?_)
  · obtain ⟨a, ns, rfl, _⟩ := h
    rfl
  · obtain ⟨a, ns, rfl, hln, hO, hsc, k⟩ := h
    have mono1 : ∀ (σ : L2.St) (H : Hp) (Q Q' : VK) (E E' : XK), (∀ cls x H, E cls x H → E' cls x H) → (∀ v H, Q v H → Q' v H) → tCall (spRoom c) [] E (tCons (tVar 15) tNil) σ H Q → tCall (spRoom c) [] E' (tCons (tVar 15) tNil) σ H Q' := by
      rintro σ H Q Q' E E' hE hQ ⟨v1, e1, l, x, e, hp, hl, k1, k2⟩
      exact ⟨v1, e1, l, x, e, hp, hl, fun n H' S => hE _ _ _ (k1 n H' S), fun n n3 q H' S h1 h2 => hQ _ _ (k2 n n3 q H' S h1 h2)⟩
    refine ⟨_, (psx_cons (PSy.mk (ps_set (i := 1) sc_law.nd rfl (Or.inl rfl) (D__law_begun.pe0 hr (by decide) rfl passE0)))
      (psx_cons (PSy.mk (ps_for PassesOwn.never rfl (pi_range1 rfl O.range (pa_cons pe_int pa_nil)) (pg_name (i := 2) sc_law.nd rfl (Or.inl rfl)) (pss_cons (ps_asg (D__law_a_picture.pe hr (by decide) rfl passE0 (pa_cons (pv 0) (pa_cons (pv 1) pa_nil))) (pg_tup rfl (pgs_cons (pg_name (i := 15) sc_law.nd rfl (Or.inr rfl)) (pgs_cons (pg_name (i := 3) sc_law.nd rfl (Or.inl rfl)) pgs_nil))))
      (pss_cons (ps_if (PW.pt (pw_and (pt_cmpR op_in_seq (pv 3) (pe_tup (pa_cons pe_str (pa_cons pe_str pa_nil))) (by with_unfolding_all rfl)) (pw_and1 (pt_cmpR op_eq (D__law_draw.pe hr (by decide) rfl passE0 (pa_cons (pv 0) (pa_cons (pv 1) (pa_cons pe_int pa_nil)))) pe_int (nomark _))))) (pss_one (ps_set (i := 15) sc_law.nd rfl (Or.inr rfl) (pe_op op_mul_strN (pe_ix ix_str (pv 15) pe_int (fun _ _ => rfl)) (pe_op op_add pe_int (D__law_draw.pe hr (by decide) rfl passE0 (pa_cons (pv 0) (pa_cons (pv 1) (pa_cons pe_int pa_nil)))))))) pss_nil)
      (pss_cons (ps_set (i := 4) sc_law.nd rfl (Or.inl rfl) (D__law_short_line.pe hr (by decide) rfl passE0 (pa_cons (pv 0) (pa_cons (pv 1) (pa_cons (pv 15) pa_nil)))))
      (pss_cons (ps_if (pt_cmpR op_ne (D_unfolded.pe hr (by decide) rfl passE0 (pa_cons (pv 4) pa_nil)) (pv 15) (nomark _)) (pss_one (ps_ret pe_bl)) pss_nil)
      (pss_cons (ps_if (pt_cmpR op_ne (D_folded.pe hr (by decide) rfl passE0 (pa_cons (pv 4) pa_nil)) (D__law_folded.pe hr (by decide) rfl passE0 (pa_cons (pv 15) pa_nil)) (nomark _)) (pss_one (ps_ret pe_bl)) pss_nil)
      (pss_cons (ps_if (pt_cmpR op_ne (DK0_folded.pe hr (by decide) rfl passE0 (pv 15)) (D__law_folded.pe hr (by decide) rfl passE0 (pa_cons (pv 15) pa_nil)) (nomark _)) (pss_one (ps_ret pe_bl)) pss_nil)
      (pss_cons (ps_if (pt_cmpR op_ne (D_unfolded.pe hr (by decide) rfl passE0 (pa_cons (D_folded.pe hr (by decide) rfl passE0 (pa_cons (pv 15) pa_nil)) pa_nil)) (pv 15) (nomark _)) (pss_one (ps_ret pe_bl)) pss_nil)
      (pss_cons (ps_if (pt_cmpR op_ne (D_folded.pe hr (by decide) rfl passE0 (pa_cons (D_folded.pe hr (by decide) rfl passE0 (pa_cons (pv 15) pa_nil)) pa_nil)) (D_folded.pe hr (by decide) rfl passE0 (pa_cons (pv 15) pa_nil)) (nomark _)) (pss_one (ps_ret pe_bl)) pss_nil)
      (pss_cons (ps_if (pt_not (pt_val (D_is_picture.pe hr (by decide) rfl passE0 (pa_cons (D_folded.pe hr (by decide) rfl passE0 (pa_cons (pv 15) pa_nil)) pa_nil)))) (pss_one (ps_ret pe_bl)) pss_nil)
      (pss_cons (ps_set (i := 5) sc_law.nd rfl (Or.inl rfl) (pe_callB call_len_seq rfl O.len PySem.boot_len (pa_cons (pe_lcomp (NB := [".0", "_law_symbol"]) rfl ⟨rfl, by decide +kernel, by decide +kernel, by decide +kernel⟩ (pi_str (pv 15)) (fun _ _ _ => (pg_name (i := 1) (show ([".0", "_law_symbol"] : List Str).Nodup by decide +kernel) rfl (Or.inl rfl))) (fun _ _ _ => (pts_one (pt_cmpR op_notin_str (pv 1) pe_str (by with_unfolding_all rfl)))) (fun _ _ _ => (pv 1))) pa_nil)))
      (pss_cons (ps_if (PW.pt (pw_or (pt_cmpR op_ne (D_size_of.pe hr (by decide) rfl passE0 (pa_cons (pv 4) pa_nil)) (pv 5) (nomark _)) (pw_or1 (pt_cmpR op_ne (D_kind_of.pe hr (by decide) rfl passE0 (pa_cons (D_folded.pe hr (by decide) rfl passE0 (pa_cons (pv 15) pa_nil)) pa_nil)) (pv 3) (nomark _))))) (pss_one (ps_ret pe_bl)) pss_nil)
      (pss_one (ps_ifk (i := 3) rfl (Or.inl rfl) (pssk_cons (psk_asg (pek_bm PySem.F.plainAttrs_str PySem.F.slot_str_partition PySem.F.type_str_partition mt_partition (pe_repl (i := 15) rfl (by first | exact Or.inl rfl | exact Or.inr (Or.inl rfl)) (by decide +kernel)) (pa_cons pe_str pa_nil)) (pg_tup rfl (pgs_cons (pg_name (i := 6) sc_law.nd rfl (Or.inl rfl)) (pgs_cons (pg_name (i := 7) sc_law.nd rfl (Or.inl rfl)) (pgs_cons (pg_name (i := 8) sc_law.nd rfl (Or.inl rfl)) pgs_nil))))) (pss_one (ps_if (pt_cmpR (op_neT (n := 1) (hn_of hr)) (D_room.pe hr (by decide) rfl passE0 (pa_cons (pv 4) pa_nil)) (pe_tup (pa_cons (pe_cmpR op_in_str pe_str (pv 15) (by with_unfolding_all rfl)) (pa_cons (pe_callB call_len_str rfl O.len PySem.boot_len (pa_cons (pv 6) pa_nil)) (pa_cons (pe_callB call_len_str rfl O.len PySem.boot_len (pa_cons (pv 8) pa_nil)) pa_nil)))) (nomark _)) (pss_one (ps_ret pe_bl)) pss_nil))) (pss_one (ps_if (PW.pt (pw_and (pt_cmpR op_in_seq (pv 3) (pe_tup (pa_cons pe_str (pa_cons pe_str pa_nil))) (by with_unfolding_all rfl)) (pw_and1 (pt_cmpR (op_neT (n := 1) (hn_of hr)) (pe_heard (K0 := K) (q := qq) rfl Fh hmh hbh T D__law_class hr rfl L rfl rfl rfl (fun _ => rfl) rfl rfl rfl (by decide +kernel) rfl (fun _ _ _ _ => rfl) (fun _ _ _ _ _ _ _ _ hr2 => (D_room.pe hr2 (by decide) rfl (passes_gen fram_lam) (pa_cons (pv 15) pa_nil))) mono1) (pe_tup (pa_cons pe_str pa_nil)) (nomark _))))) (pss_one (ps_ret pe_bl)) pss_nil)))))))))))))))))
      (psx_cons (PSy.mk (ps_set (i := 9) sc_law.nd rfl (Or.inl rfl) (D__law_an_edited.pe hr (by decide) rfl passE0 (pa_cons (pv 0) (pa_cons (pv 1) pa_nil)))))
      (psx_cons (PSy.mk (ps_asg (pv 9) (pg_tup rfl (pgs_cons (pg_name (i := 10) sc_law.nd rfl (Or.inl rfl)) (pgs_cons (pg_name (i := 11) sc_law.nd rfl (Or.inl rfl)) (pgs_cons (pg_name (i := 6) sc_law.nd rfl (Or.inl rfl)) (pgs_cons (pg_name (i := 8) sc_law.nd rfl (Or.inl rfl)) (pgs_cons (pg_name (i := 12) sc_law.nd rfl (Or.inl rfl)) pgs_nil))))))))
      (psx_cons (PSy.mk (ps_set (i := 13) sc_law.nd rfl (Or.inl rfl) (pe_op op_sub (pe_callB call_len_seq rfl O.len PySem.boot_len (pa_cons (pe_lcomp (NB := [".0", "_law_symbol"]) rfl ⟨rfl, by decide +kernel, by decide +kernel, by decide +kernel⟩ (pi_str (pv 6)) (fun _ _ _ => (pg_name (i := 1) (show ([".0", "_law_symbol"] : List Str).Nodup by decide +kernel) rfl (Or.inl rfl))) (fun _ _ _ => (pts_one (pt_cmpR op_in_str (pv 1) pe_str (by with_unfolding_all rfl)))) (fun _ _ _ => (pv 1))) pa_nil)) (pe_ifExp (pt_cmpR op_in_str (pv 11) pe_str (by with_unfolding_all rfl)) pe_int pe_int))))
      (psx_cons (PSy.mk (ps_set (i := 14) sc_law.nd rfl (Or.inl rfl) (pe_or (pe_cmpR op_in_seq (pe_slice sl_str (pv 10) po_none (po_some pe_int)) (pe_tup (pa_cons pe_str (pa_cons pe_str pa_nil))) (by with_unfolding_all rfl)) (pe_or (pe_cmpR op_in_str (pv 11) pe_str (by with_unfolding_all rfl)) (pe_one (pe_cmpR op_ne (pv 12) pe_str (nomark _)))))))
      (psx_one (PSy.mk (ps_ret (pe_cmpR (op_eqT (n := 1) (hn_of hr)) (D_room.pe hr (by decide) rfl passE0 (pa_cons (D__law_line.pe hr (by decide) rfl passE0 (pa_cons (pv 9) pa_nil)) pa_nil)) (pe_tup (pa_cons (pv 14) (pa_cons (pv 13) (pa_cons (pe_callB call_len_str rfl O.len PySem.boot_len (pa_cons (pv 8) pa_nil)) pa_nil)))) (nomark _))))))))))), ?_⟩
    have hz : 1000 ≤ sizeLine := by decide
    refine ⟨rfl, fun t r H1 ht hr1 T1 S1 => ?_⟩
    have St1 : LawSt H1 a t r Pa qq ns 0 := ⟨let ⟨o, h⟩ := hsc; ⟨o, S1 _ _ h⟩, ⟨[], T1⟩, (tab_new hO.1).same S1, hln⟩
    refine ⟨4, rfl, by decide, by decide, for_range (n := 4) (fun i σ H3 => ∃ x2 x3 x4 x5 x6 x7 x8 x15 c3, σ = [some (.ref a), some (.ref t), x2, x3, x4, x5, x6, x7, x8, none, none, none, none, none, none, x15] ∧ LawSt H3 a t r Pa qq ns c3 ∧ c3 ≤ 400 * i)
      ⟨none, none, none, none, none, none, none, none, 0, rfl, St1, by decide⟩ ?_ ?_⟩
    · rintro i σ H2 hi ⟨x2, x3, x4, x5, x6, x7, x8, x15, c2, rfl, St2, hc2⟩
      refine ⟨_, rfl, _, rfl, a, t, r, ns, c2, rfl, St2.bag, by omega, fun l0 x q c3 H3 hP0 hq gq B3 hc3 A3 => ⟨q, _, rfl, SqT.of gq, rfl, _, _, rfl, _, _, rfl, rfl, ?_⟩⟩
      obtain ⟨rs3, T3⟩ := B3.tw
      have St3 := St2.drawn A3 T3
      have hk3 : x.kind ≤ 3 := pic_kind hP0.ok.1
      dsimp only [gName, tAsg, tSeq]
      refine seq_join (fun σ' H' => ∃ l c4, PicD l x ∧ σ' = [some (.ref a), some (.ref t), some (.int (0 + (i : Int))), some (.str (kindS x.kind)), x4, x5, x6, x7, x8, none, none, none, none, none, none, some (tv l)] ∧ LawSt H' a t r Pa qq ns c4 ∧ c4 ≤ c3 + 2) ?_ (fun rest => ?_)
      rotate_left
      · refine ⟨_, rfl, by show 2 ≤ sizeLine; omega, fun pt hpt => ?_⟩
        have S4 := Same.new (o := .tup tl2) hpt
        have g4 : upd H3 pt (.tup tl2) pt = some (.tup tl2) := upd_same
        change rIn K false _ _ (upd H3 pt (.tup tl2)) _
        generalize upd H3 pt (.tup tl2) = H4 at S4 g4
        have St4 := St3.same S4
        refine ⟨pt, _, rfl, .inr (SqT.of g4), rfl, by decide, _, rfl, ?_⟩
        rw [if_neg (by decide), in_tl _ hk3]
        by_cases hk : x.kind ≤ 1
        · rw [decide_eq_true hk]
          refine iteT ?_
          refine St4.bag.draw (K := K) (n := 2) rfl rfl (fun R h => h) (by decide) (by decide) (by omega) fun d H5 hd B5 A5 => ?_
          obtain ⟨rs5, T5⟩ := B5.tw
          have St5 := St4.drawn A5 T5
          refine ⟨rfl, _, rfl, ?_⟩
          refine ifB (fun z => ?_) (fun z => ?_)
          · obtain ⟨ch, hch, hnew, m, hm0⟩ : ∃ ch, (ch = 88 ∨ ch = 65) ∧ (∀ d, d < 60 → PicD (List.replicate (d + 1) ch) x) ∧ ∃ m, l0 = List.replicate (m + 1) ch := by
              cases hP0 with
              | text m hm => exact ⟨88, .inl rfl, fun d hd => .text d hd, m, rfl⟩
              | letters m hm => exact ⟨65, .inr rfl, fun d hd => .letters d hd, m, rfl⟩
              | number s a b ha hb h => exact absurd hk (show ¬ (2 : Nat) ≤ 1 by decide)
              | edited E hl => exact absurd hk (show ¬ (3 : Nat) ≤ 1 by decide)
            have hll := hP0.ok.2.2
            refine ⟨_, rfl, tx l0, (0 : Int), ch, rfl, rfl, by rw [tx_len]; omega, ?_, ?_⟩
            · have h0 : l0[0]? = some ch := by rw [hm0]; rfl
              exact atI_nat h0
            rw [show (⟨#[ch]⟩ : Str) = tx [ch] from rfl]
            refine St5.bag.draw (K := K) (n := 60) rfl rfl (fun R h => h) (by decide) (by decide) (by omega) fun d6 H6 hd6 B6 A6 => ?_
            obtain ⟨rs6, T6⟩ := B6.tw
            have St6 := St5.drawn A6 T6
            refine ⟨_, _, rfl, rfl, ?_⟩
            dsimp only
            rw [show (1 : Int) + (d6 : Nat) = ((d6 + 1 : Nat) : Int) by omega]
            refine ⟨tx [ch], ((d6 + 1 : Nat) : Int), rfl, rfl, by omega, by rw [tx_len, Int.toNat_natCast, List.length_singleton]; omega, by omega, ?_⟩
            rw [Int.toNat_natCast, rep_tx]
            exact rest _ _ ⟨List.replicate (d6 + 1) ch, _, hnew d6 (by omega), rfl, St6, by omega⟩
          · exact rest _ _ ⟨l0, _, hP0, rfl, St5, by omega⟩
        · rw [decide_eq_false hk]
          exact iteF (iteF (rest _ _ ⟨l0, _, hP0, rfl, St4, by omega⟩))
      clear B3 A3 gq hq hP0 St3 T3
      rintro σ' H4 ⟨l, c4, hP, rfl, St4, hc4⟩
      obtain ⟨hpic, h40, hll⟩ := hP.ok
      refine ⟨_, rfl, _, rfl, _, rfl, a, t, r, ns, c4, l, rfl, St4.bag, by omega, by omega, h40, fun l' c5 H5 hsh hl' B5 hc5 A5 => ?_⟩
      obtain ⟨rs5, T5⟩ := B5.tw
      have St5 := St4.drawn A5 T5
      have hpic2 : picture l' = some x := by rw [pic_sh hsh h40, hpic]
      have pa1 : PicAt l l' x := ⟨hpic2, hsh, h40, by omega, by omega⟩
      have pa0 : PicAt l l x := ⟨hpic, sh_self l h40, h40, by omega, by omega⟩
      have hff := K04.fold_len h40 (by omega : l.length ≤ 100)
      have hsf := sh_fold h40 (by omega : l.length ≤ 100)
      have paF : PicAt l (fold l) x := ⟨by rw [pic_sh hsf h40, hpic], hsf, h40, by omega, by omega⟩
      clear B5 A5 T5
      -- unfolded(short)
      refine ⟨_, rfl, l, l', x, rfl, pa1, fun H6 S6 => ⟨_, rfl, rfl, _, rfl, ?_⟩⟩
      refine ifB (fun z => absurd z (neS _)) (fun _ => ?_)
      -- folded(short)
      refine ⟨_, rfl, l, l', x, rfl, pa1, fun H7 S7 => ⟨_, rfl, l, rfl, by omega, h40, fun H8 S8 => ⟨rfl, _, rfl, ?_⟩⟩⟩
      refine ifB (fun z => absurd z (neS _)) (fun _ => ?_)
      -- folded(text=line)
      refine ⟨_, rfl, l, l, x, rfl, pa0, fun H9 S9 => ⟨_, rfl, l, rfl, by omega, h40, fun H10 S10 => ⟨rfl, _, rfl, ?_⟩⟩⟩
      refine ifB (fun z => absurd z (neS _)) (fun _ => ?_)
      -- unfolded(folded(line))
      refine ⟨_, rfl, l, l, x, rfl, pa0, fun H11 S11 => ⟨l, fold l, x, rfl, paF, fun H12 S12 => ⟨_, rfl, rfl, _, rfl, ?_⟩⟩⟩
      refine ifB (fun z => absurd z (neS _)) (fun _ => ?_)
      -- folded(folded(line))
      refine ⟨_, rfl, l, l, x, rfl, pa0, fun H13 S13 => ⟨l, fold l, x, rfl, paF, fun H14 S14 => ⟨_, rfl, l, l, x, rfl, pa0, fun H15 S15 => ⟨rfl, _, rfl, ?_⟩⟩⟩⟩
      refine ifB (fun z => absurd z (neS _)) (fun _ => ?_)
      -- is_picture(folded(line))
      refine ⟨_, rfl, l, l, x, rfl, pa0, fun H16 S16 => ⟨_, _, rfl, .inl ⟨fold l, rfl, by omega, rfl⟩, fun H17 S17 => ⟨_, rfl, ?_⟩⟩⟩
      rw [paF.pc]
      refine ifB (fun z => absurd z (by simp)) (fun _ => ?_)
      have St17 := ((((((((((((St5.same S6).same S7).same S8).same S9).same S10).same S11).same S12).same S13).same S14).same S15).same S16).same S17)
      clear S6 S7 S8 S9 S10 S11 S12 S13 S14 S15 S16 S17
      -- size
      dsimp only [gName, tAsg, tSeq, tNext]
      refine len_signs (l := l) noSV rfl hP.asc (by omega) (fun R h => ⟨_, rfl, h⟩) (fun y H1 R h => ?_) fun H18 S18 => ?_
      · refine ⟨_, rfl, _, _, rfl, rfl, _, rfl, ?_⟩
        rw [e_sv, in_sym]
        exact h
      try dsimp only [gName, tAsg, tSeq, tNext]
      refine ⟨_, rfl, l, l', x, rfl, pa1, fun H19 S19 => ⟨_, rfl, rfl, _, rfl, ?_⟩⟩
      rw [ne_int', decide_eq_false (by omega)]
      refine iteF ⟨_, rfl, l, l, x, rfl, pa0, fun H20 S20 => ⟨fold l, rfl, by omega, (fun z => by rw [paF.pc] at z; cases z), fun x' e H21 S21 => ?_⟩⟩
      obtain rfl : x = x' := by rw [paF.pc] at e; exact Option.some.inj e
      refine ⟨_, rfl, rfl, _, rfl, ?_⟩
      refine ifB (fun z => absurd z (neS _)) (fun _ => ?_)
      have St21 := (((St17.same S18).same S19).same S20).same S21
      clear S18 S19 S20 S21
      refine ⟨_, rfl, ?_⟩
      rw [show V.str "number" = V.str (kindS 2) from rfl, kinds_ne _ hk3 2 (by decide)]
      by_cases h2 : x.kind = 2
      · rw [decide_eq_true h2]
        refine iteT ?_
        obtain ⟨sg, na, nb, ha, hb, rfl, rfl⟩ : ∃ sg na nb, na < 6 ∧ nb < 4 ∧ l = numLine sg na nb ∧ x = ⟨2, sg, na, nb⟩ := by
          cases hP with
          | text m hm => exact absurd h2 (show ¬ (0 : Nat) = 2 by decide)
          | letters m hm => exact absurd h2 (show ¬ (1 : Nat) = 2 by decide)
          | number s a b ha hb h => exact ⟨s, a, b, ha, hb, rfl, rfl⟩
          | edited E hl => exact absurd h2 (show ¬ (3 : Nat) = 2 by decide)
        have hrl := num_rl sg na nb ha hb
        refine ⟨_, rfl, by rw [tx_len, show ("" : Str).length = 0 from by decide +kernel]; omega, rfl, _, "V", rfl, rfl, by decide +kernel, by omega, fun p hp => ?_⟩
        rw [num_parts sg na nb ha hb]
        refine ⟨p, _, rfl, SqT.of upd_same, rfl, _, _, rfl, _, _, rfl, _, _, rfl, rfl, ?_⟩
        have S22 := Same.new (o := .tup [tv (List.replicate na 57), if nb = 0 then tv [] else tv [86], tv (List.replicate nb 57)]) hp
        have St22 := St21.same S22
        generalize upd H21 p (.tup [tv (List.replicate na 57), if nb = 0 then tv [] else tv [86], tv (List.replicate nb 57)]) = H22 at St22
        clear S22 hp
        refine ⟨_, rfl, l', _, rfl, hpic2, by omega, (fun z => absurd z (show ¬ (2 : Nat) ≤ 1 by decide)), fun _ _ q H23 S23 _ gq => ?_⟩
        refine ⟨_, rfl, _, _, rfl, rfl, _, rfl, _, rfl, by rw [tx_len, List.length_replicate]; omega, _, rfl, _, rfl, by rw [tx_len, List.length_replicate]; omega, by show 3 ≤ sizeLine; omega, fun p2 hp2 => ?_⟩
        have S24 := Same.new (o := .tup [.bl (!(occurrences (tx (numLine sg na nb)) "S" 0 (tx (numLine sg na nb)).length 1).isEmpty), .int ((tx (List.replicate na 57)).length : Nat), .int ((tx (List.replicate nb 57)).length : Nat)]) hp2
        refine eqT_like (SqT.of (S24 _ _ gq)) (SqT.of upd_same) (.cons (EqD.bl ?_) (.cons (.int ?_) (.cons (.int ?_) .nil))) ⟨_, rfl, ?_⟩
        · rw [e_S, in_sym, num_S sg na nb ha hb]
        · rw [tx_len, List.length_replicate]
        · rw [tx_len, List.length_replicate]
        refine ifB (fun z => absurd z (by decide)) (fun _ => ?_)
        exact ⟨_, _, _, _, _, _, _, _, _, rfl, (St22.same S23).same S24, by omega⟩
      · rw [decide_eq_false h2]
        refine iteF ⟨_, rfl, by show 2 ≤ sizeLine; omega, fun pt hpt => ?_⟩
        have S22 := Same.new (o := .tup tl2) hpt
        have g22 : upd H21 pt (.tup tl2) pt = some (.tup tl2) := upd_same
        change rIn K false _ _ (upd H21 pt (.tup tl2)) _
        generalize upd H21 pt (.tup tl2) = H22 at S22 g22
        have St22 := St21.same S22
        refine ⟨pt, _, rfl, .inr (SqT.of g22), rfl, by decide, _, rfl, ?_⟩
        rw [if_neg (by decide), in_tl _ hk3]
        by_cases hk : x.kind ≤ 1
        · rw [decide_eq_true hk]
          refine iteT ?_
          refine heard_no 2 St22 G2 (fun E H0 Q' h => ⟨_, rfl, l, x, rfl, hpic, by omega, fun _ => h, fun z => absurd z (by omega)⟩) fun pw H23 St23 gw keep un => ?_
          refine ⟨by show 1 ≤ sizeLine; omega, fun pz hpz => ?_⟩
          have Sz := Same.new (o := .tup [.str "no room"]) hpz
          refine eqT_like (SqT.of (Sz _ _ gw)) (SqT.of upd_same) (.cons .str .nil) ⟨_, rfl, ?_⟩
          refine ifB (fun z => absurd z (by decide)) (fun _ => ?_)
          exact ⟨_, _, _, _, _, _, _, _, _, rfl, St23.same Sz, by omega⟩
        · rw [decide_eq_false hk]
          exact iteF (iteF ⟨_, _, _, _, _, _, _, _, _, rfl, St22, by omega⟩)
    · rintro σ H2 ⟨x2, x3, x4, x5, x6, x7, x8, x15, c2, rfl, St2, hc2⟩
      refine ⟨_, rfl, _, rfl, a, t, r, ns, c2, rfl, St2.bag, by omega, fun lead first W N broken tail q c3 H3 E hl hq gq B3 hc3 A3 => ?_⟩
      have hsym : ∀ y ∈ W ++ N, y < 128 := fun y hy => alph_asc y (E.sym y (by
        unfold lineOf
        rcases List.mem_append.mp hy with h | h
        · exact List.mem_append_right _ (List.mem_append_left _ h)
        · exact List.mem_append_right _ (List.mem_append_right _ (List.mem_append_left _ h))))
      have hcw : 1 ≤ W.count first := List.count_pos_iff.mpr (List.mem_of_mem_head? E.w.hd)
      have hln2 : (W ++ N).length ≤ 60 := by rw [List.length_append]; omega
      refine ⟨_, rfl, q, _, rfl, SqT.of gq, rfl, _, _, rfl, _, _, rfl, _, _, rfl, _, _, rfl, _, _, rfl, rfl, ?_⟩
      dsimp only [gName, tAsg, tSeq, tNext]
      refine len_signs (l := W ++ N) plc rfl hsym (by omega) (fun R h => ⟨_, rfl, h⟩) (fun y H1 R h => ?_) fun H4 S4 => ?_
      · refine ⟨_, rfl, _, _, rfl, rfl, _, rfl, ?_⟩
        rw [e_plc, in_sym]
        exact h
      rw [E.plcs]
      refine ⟨_, rfl, _, _, rfl, rfl, _, rfl, ?_⟩
      rw [e_flo, in_sym]
      refine ifJoinE (fun v H' => v = .int (if flo first = true then 1 else 0) ∧ H' = H4) (fun z rest => rest _ _ ⟨by rw [if_pos (show flo first = true from z)], rfl⟩) (fun z rest => rest _ _ ⟨by rw [if_neg (by rw [show flo first = false from z]; decide)], rfl⟩) ?_
      rintro v H' ⟨rfl, rfl⟩
      refine ⟨_, _, rfl, rfl, ?_⟩
      have hbe : ((W.count first + N.count 57 : Nat) : Int) - (if flo first = true then 1 else 0) = ((W.count first + N.count 57 - (if flo first = true then 1 else 0) : Nat) : Int) := by split <;> omega
      dsimp only
      rw [hbe]
      have g4 := S4 _ _ gq
      refine orV_join (fun v H5 => v = .bl (sgn lead first tail) ∧ Same H' H5) ?_ (fun rest => ?_)
      rotate_left
      · rw [sgn_is E.ld] at rest
        refine ⟨_, rfl, _, rfl, tx lead, rfl, by rw [tx_len]; omega, ?_⟩
        rw [slice_one]
        refine ⟨by show 2 ≤ sizeLine; omega, fun pt hpt => ?_⟩
        have S9 := Same.new (o := .tup [.str "+", .str "-"]) hpt
        have g9 : upd H' pt (.tup [.str "+", .str "-"]) pt = some (.tup (pm2.map tv)) := by rw [upd_same]; exact congrArg (fun x => some (HO.tup x)) e_pm2
        generalize upd H' pt (.tup [.str "+", .str "-"]) = H9 at S9 g9
        refine ⟨pt, _, rfl, .inr (SqT.of g9), rfl, flat_txs pm2, _, rfl, ?_⟩
        rw [if_neg (show ¬ (false = true) by decide), in_list]
        cases hc1 : pm2.contains (lead.take 1) with
        | true => rw [hc1] at rest; exact iteT (rest _ _ ⟨rfl, S9⟩)
        | false =>
          rw [hc1] at rest
          refine iteF ⟨_, rfl, _, _, rfl, rfl, _, rfl, ?_⟩
          rw [e_pm, in_sym]
          cases hc2 : ([43, 45] : List Nat).contains first with
          | true => rw [hc2] at rest; exact iteT (rest _ _ ⟨rfl, S9⟩)
          | false =>
            rw [hc2] at rest
            refine iteF ⟨_, rfl, rfl, ?_⟩
            rw [e_emp, str_dec]
            exact rest _ _ ⟨rfl, S9⟩
      rintro v H5 ⟨rfl, S5⟩
      try dsimp only [gName, tAsg, tSeq, tNext]
      refine ⟨_, rfl, q, lead, [first], W, N, broken, tail, rfl, SqT.of (S5 _ _ g4), by omega, ?_⟩
      have hll := line_len hl
      refine ⟨_, _, rfl, E.pic, by omega, (fun z => absurd z (show ¬ (3 : Nat) ≤ 1 by decide)), fun _ _ p H6 S6 _ gp => ?_⟩
      refine ⟨_, rfl, _, rfl, _, rfl, tx broken, rfl, by rw [tx_len]; omega, by show 3 ≤ sizeLine; omega, fun p2 hp2 => ?_⟩
      have S7 := Same.new (o := .tup [.bl (sgn lead first tail), .int ((W.count first + N.count 57 - (if flo first = true then 1 else 0) : Nat) : Int), .int ((tx broken).length : Nat)]) hp2
      refine eqT_like (SqT.of (S7 _ _ gp)) (SqT.of upd_same) (.cons (EqD.bl rfl) (.cons (.int rfl) (.cons (.int ?_) .nil))) ?_
      · rw [tx_len]
      exact k _
end
end Lw

set_option Elab.async false
set_option linter.all false
set_option maxRecDepth 100000
namespace L2
open PySem PySem.Spec PyProof.Rows
theorem sqT_mk {K : PySem.W.Frag} {a : Addr} {xs : List V} {its : Array Value} {n : Nat} {od : Option Addr} {osl : Array (Option Value)} (l : K.lookup a = some ⟨.type "tuple", od, .seq its n, osl⟩) (z : its.size ≤ sizeLine) (v : Vals xs its.toList) (H : Hp) : SqT K H a xs := .inr ⟨_, its, n, l, rfl, rfl, z, v⟩
theorem kdict2_mk {P : Program} {w : World} {K : PySem.W.Frag} {a : Addr} {h1 h2 : Int} {x1 x2 y1 y2 : Str} {t1 t2 u1 u2 : Tok} {n : Nat} (ne : (a == sysModules) = false) (l : K.lookup a = some ⟨.type "dict", none, .dict #[⟨h1, .str x1 t1, .str y1 u1⟩, ⟨h2, .str x2 t2, .str y2 u2⟩] n, #[]⟩)
    (e1 : h1 = keyH w (.inr x1)) (e2 : h2 = keyH w (.inr x2)) (hx : x1 ≠ x2) : KDict P w K a [(Sum.inr x1, .str y1), (Sum.inr x2, .str y2)] := by
  refine ⟨ne, fun h KX => ⟨[(Sum.inr x1, .str y1 u1), (Sum.inr x2, .str y2 u2)], .cons ⟨rfl, _, rfl⟩ (.cons ⟨rfl, _, rfl⟩ .nil), _, _, _, KX a _ l, ⟨rfl, rfl, rfl⟩, rfl, fun e he => ?_, .cons (mixKind_str P w x1 t1) rfl (.cons (mixKind_str P w x2 t2) rfl .nil), ?_⟩⟩
  · have he : e = ⟨h1, .str x1 t1, .str y1 u1⟩ ∨ e = ⟨h2, .str x2 t2, .str y2 u2⟩ := by simpa using he
    rcases he with rfl | rfl
    · exact ⟨_, mixKind_str P w x1 t1, e1⟩
    · exact ⟨_, mixKind_str P w x2 t2, e2⟩
  · have hk : ¬ (Sum.inr x1 : Key) = Sum.inr x2 := fun q => hx (Sum.inr.inj q)
    simp [hk]
end L2
namespace Lw
open PySem PySem.Spec PyProof.Rows L2 K02 K04
set_option maxHeartbeats 8000000 in
theorem all_mk {l : PySem.W.OpenLaw} {w : World} {K : PySem.W.Frag} {h : Heap} {mg : Str → Option Value} {fa fl ca R0 R1 R2 C0 C1 C2 C3 C4 C5 C6 C7 C8 C9 C10 C11 C12 C13 C14 : Addr} {t0 t1 t2 t3 t4 t5 t6 t7 t8 : Tok} {oc kV doc pm ct : Value} {od an : Option Addr} {osl : Array (Option Value)} (X : K.In h) (G : h.Ns mainGlobals mg) (hfa : mg "law" = some (.ref fa))
    (d_ten_to : DefAt K "ten_to" s_ten_to)
    (d_is_figures : DefAt K "is_figures" s_is_figures)
    (d_number_of : DefAt K "number_of" s_number_of)
    (d_times_at : DefAt K "times_at" s_times_at)
    (d_rows_of : DefAt K "rows_of" s_rows_of)
    (d_floats_at : DefAt K "floats_at" s_floats_at)
    (d_places_of : DefAt K "places_of" s_places_of)
    (d_whole_part : DefAt K "whole_part" s_whole_part)
    (d_broken_part : DefAt K "broken_part" s_broken_part)
    (d_lead_of : DefAt K "lead_of" s_lead_of)
    (d_tail_of : DefAt K "tail_of" s_tail_of)
    (d_number_facts : DefAt K "number_facts" s_number_facts)
    (d_plain_facts : DefAt K "plain_facts" s_plain_facts)
    (d_body_of : DefAt K "body_of" s_body_of)
    (d_edited_facts : DefAt K "edited_facts" s_edited_facts)
    (d_facts_of : DefAt K "facts_of" s_facts_of)
    (d_is_picture : DefAt K "is_picture" s_is_picture)
    (d_understood : DefAt K "understood" s_understood)
    (d_kind_of : DefAt K "kind_of" s_kind_of)
    (d_figures_of : DefAt K "figures_of" s_figures_of)
    (d_row_text : DefAt K "row_text" s_row_text)
    (d_written_out : DefAt K "written_out" s_written_out)
    (d_unfolded : DefAt K "unfolded" s_unfolded)
    (d_folded : DefAt K "folded" s_folded)
    (d_room : DefAt K "room" s_room)
    (d_size_of : DefAt K "size_of" s_size_of)
    (d__law_draw : DefAt K "_law_draw" s__law_draw)
    (d__law_begun : DefAt K "_law_begun" s__law_begun)
    (d__law_class : DefAt K "_law_class" s__law_class)
    (d__law_places : DefAt K "_law_places" s__law_places)
    (d__law_line : DefAt K "_law_line" s__law_line)
    (d__law_short_line : DefAt K "_law_short_line" s__law_short_line)
    (d__law_an_edited : DefAt K "_law_an_edited" s__law_an_edited)
    (d__law_a_picture : DefAt K "_law_a_picture" s__law_a_picture)
    (d__law_folded : DefAt K "_law_folded" s__law_folded)
    (d_heard : DefAt K "_law_heard" s__law_heard)
    (k_0 : PySem.W.nsIn K mainGlobals "BoxError" = some (some (.ref C0)))
    (k_1 : PySem.W.nsIn K mainGlobals "NoPicture" = some (some (.ref C1)))
    (k_2 : PySem.W.nsIn K mainGlobals "NoRoom" = some (some (.ref C2)))
    (k_3 : PySem.W.nsIn K mainGlobals "NoQuotient" = some (some (.ref C3)))
    (k_4 : PySem.W.nsIn K mainGlobals "NoText" = some (some (.ref C4)))
    (k_5 : PySem.W.nsIn K mainGlobals "NoFigures" = some (some (.ref C5)))
    (k_6 : PySem.W.nsIn K mainGlobals "NoLetters" = some (some (.ref C6)))
    (k_7 : PySem.W.nsIn K mainGlobals "NoMove" = some (some (.ref C7)))
    (k_8 : PySem.W.nsIn K mainGlobals "NoPath" = some (some (.ref C8)))
    (k_9 : PySem.W.nsIn K mainGlobals "NoAmount" = some (some (.ref C9)))
    (k_10 : PySem.W.nsIn K mainGlobals "NoGroup" = some (some (.ref C10)))
    (k_11 : PySem.W.nsIn K mainGlobals "BadSize" = some (some (.ref C11)))
    (k_12 : PySem.W.nsIn K mainGlobals "NoBack" = some (some (.ref C12)))
    (k_13 : PySem.W.nsIn K mainGlobals "BadRow" = some (some (.ref C13)))
    (k_14 : PySem.W.nsIn K mainGlobals "Closed" = some (some (.ref C14)))
    (m_FIGURES : PySem.W.nsIn K mainGlobals "FIGURES" = some (some (.str "0123456789" t0)))
    (m_INSERTED : PySem.W.nsIn K mainGlobals "INSERTED" = some (some (.str ",B0/" t2)))
    (m_SIGNS : PySem.W.nsIn K mainGlobals "SIGNS" = some (some (.str "+-" t3)))
    (m_FLOATING : PySem.W.nsIn K mainGlobals "FLOATING" = some (some (.str "+-$" t4)))
    (m_PLACES : PySem.W.nsIn K mainGlobals "PLACES" = some (some (.str "9Z*+-$" t5)))
    (m_PART : PySem.W.nsIn K mainGlobals "PART" = some (some (.int 18 t1)))
    (m_MOST_FIGURES : PySem.W.nsIn K mainGlobals "MOST_FIGURES" = some (some (.int 18 t6)))
    (m_MOST_SIGNS : PySem.W.nsIn K mainGlobals "MOST_SIGNS" = some (some (.int 60 t7)))
    (m_SHORT_FROM : PySem.W.nsIn K mainGlobals "SHORT_FROM" = some (some (.int 5 t8)))
    (m_NUMBER_FORMS : PySem.W.nsIn K mainGlobals "NUMBER_FORMS" = some (some (.ref R0)))
    (m_SHOWN : PySem.W.nsIn K mainGlobals "SHOWN" = some (some (.ref R1)))
    (m_PLAIN_KINDS : PySem.W.nsIn K mainGlobals "PLAIN_KINDS" = some (some (.ref R2)))
    (q_NUMBER_FORMS : ∀ H, SqT K H R0 [.str "9", .str "S9", .str "V9", .str "SV9", .str "9V9", .str "S9V9"])
    (q_SHOWN : ∀ H, SqT K H R1 [.str "+", .str "-", .str "CR", .str "DB"])
    (kd : KDict l.prog w K R2 kinds2)
    (t_str : PySem.W.kitOne K (.type "str") (.type "str") = some true)
    (t_int : PySem.W.kitOne K (.type "int") (.type "str") = some false)
    (t_NoneType : PySem.W.kitOne K (.type "NoneType") (.type "str") = some false)
    (t_tuple : PySem.W.kitOne K (.type "tuple") (.type "str") = some false)
    (z_len : PySem.W.nsIn K mainGlobals "len" = some none)
    (z_range : PySem.W.nsIn K mainGlobals "range" = some none)
    (z_abs : PySem.W.nsIn K mainGlobals "abs" = some none)
    (z_max : PySem.W.nsIn K mainGlobals "max" = some none)
    (z_int : PySem.W.nsIn K mainGlobals "int" = some none)
    (z_isi : PySem.W.nsIn K mainGlobals "isinstance" = some none)
    (z_bool : PySem.W.nsIn K mainGlobals "bool" = some none)
    (z_val : PySem.W.nsIn K mainGlobals "ValueError" = some none)
    (z_reversed : PySem.W.nsIn K mainGlobals "reversed" = some none)
    (z_divmod : PySem.W.nsIn K mainGlobals "divmod" = some none)
    (z_str : PySem.W.nsIn K mainGlobals "str" = some none)
    (z_sum : PySem.W.nsIn K mainGlobals "sum" = some none)
    (x1_ex : PySem.W.excIn K C1 [.type "ValueError", .type "Exception", .type "BaseException", .type "object"] "ValueError.__new__" = true)
    (x2_ex : PySem.W.excIn K C2 [.type "ValueError", .type "Exception", .type "BaseException", .type "object"] "ValueError.__new__" = true)
    (x2_ga : PySem.W.findIn K (.ref C2) "__getattribute__" = some (some (.builtin "BaseException.__getattribute__")))
    (x2_gn : PySem.W.findIn K (.ref C2) "__getattr__" = some none)
    (x2_cl : PySem.W.findIn K (.ref C2) "__class__" = some (some (.builtin "object.__class__")))
    (x2_k0 : PySem.W.kitOne K (.ref C2) (.ref C1) = some false)
    (x2_k1 : PySem.W.kitOne K (.ref C2) (.ref C2) = some true)
    (x2_k2 : PySem.W.kitOne K (.ref C2) (.ref C3) = some false)
    (x2_k3 : PySem.W.kitOne K (.ref C2) (.ref C4) = some false)
    (x2_k4 : PySem.W.kitOne K (.ref C2) (.ref C5) = some false)
    (x2_k5 : PySem.W.kitOne K (.ref C2) (.ref C6) = some false)
    (x2_k6 : PySem.W.kitOne K (.ref C2) (.ref C7) = some false)
    (x2_k7 : PySem.W.kitOne K (.ref C2) (.ref C8) = some false)
    (x2_k8 : PySem.W.kitOne K (.ref C2) (.ref C9) = some false)
    (x2_k9 : PySem.W.kitOne K (.ref C2) (.ref C10) = some false)
    (x2_k10 : PySem.W.kitOne K (.ref C2) (.ref C11) = some false)
    (x2_k11 : PySem.W.kitOne K (.ref C2) (.ref C12) = some false)
    (x2_k12 : PySem.W.kitOne K (.ref C2) (.ref C13) = some false)
    (x2_k13 : PySem.W.kitOne K (.ref C2) (.ref C14) = some false)
    (x2_va : PySem.W.kitOne K (.ref C2) (.type "ValueError") = some true)
    (x2_bo : PySem.W.exmOne K (.ref C2) (.ref C0) = some true)
    (a_law : PySem.W.nsIn K mainGlobals "law" = some (some (.ref fl)))
    (l_law : K.lookup fl = some ⟨oc, od, .func (PySem.W.fnOf "law" "law" (defArgs s_law) (defBody s_law) (defScope s_law) .none kV doc pm an (.ref ca) ct), osl⟩)
    (c_law : PySem.W.codeIn K (.ref ca) "law" = true)
    : ∃ fd : FuncData, (∀ (s : Shared) (v : Value), BindsTo s fd ⟨[v], []⟩ [("_law_script", v)]) ∧ ∀ (base : Heap) (c P : Addr), PySem.W.tabIn K "law" = some (c, P) → K.In base → base.Ns mainGlobals mg → Lamb mg base c P → FnOk l.prog w K mg base (CXE l.prog w) 10 fa fd ["_law_script"] (spLaw P) := by
  have e := hfa.symm.trans (PySem.W.mg_of X G a_law)
  cases e
  have O : Own mg := ⟨PySem.W.mg_none_of X G z_len, PySem.W.mg_none_of X G z_range, PySem.W.mg_none_of X G z_abs, PySem.W.mg_none_of X G z_max, PySem.W.mg_none_of X G z_int, PySem.W.mg_none_of X G z_isi, PySem.W.mg_none_of X G z_bool, PySem.W.mg_none_of X G z_val, PySem.W.mg_none_of X G z_reversed, PySem.W.mg_none_of X G z_divmod, PySem.W.mg_none_of X G z_str, PySem.W.mg_none_of X G z_sum⟩
  have G2 : Kind K (fun i => ([C0, C1, C2, C3, C4, C5, C6, C7, C8, C9, C10, C11, C12, C13, C14] : List Addr).getD i 0) 2 := ⟨by decide, by decide, ⟨x2_ex, x2_ga, x2_gn, x2_cl⟩, fun j hj => match j, hj with | 0, _ => x2_k0 | 1, _ => x2_k1 | 2, _ => x2_k2 | 3, _ => x2_k3 | 4, _ => x2_k4 | 5, _ => x2_k5 | 6, _ => x2_k6 | 7, _ => x2_k7 | 8, _ => x2_k8 | 9, _ => x2_k9 | 10, _ => x2_k10 | 11, _ => x2_k11 | 12, _ => x2_k12 | 13, _ => x2_k13 | n + 14, h => absurd h (by omega), x2_va, x2_bo⟩
  have T : Txt K mg (fun i => ([t0, t1, t2, t3, t4, t5, t6, t7, t8] : List Tok).getD i 0) (fun i => ([C0, C1, C2, C3, C4, C5, C6, C7, C8, C9, C10, C11, C12, C13, C14] : List Addr).getD i 0) (fun i => ([R0, R1, R2] : List Addr).getD i 0) := ⟨PySem.W.mg_of X G k_0, PySem.W.mg_of X G k_1, PySem.W.mg_of X G k_2, PySem.W.mg_of X G k_3, PySem.W.mg_of X G k_4, PySem.W.mg_of X G k_5, PySem.W.mg_of X G k_6, PySem.W.mg_of X G k_7, PySem.W.mg_of X G k_8, PySem.W.mg_of X G k_9, PySem.W.mg_of X G k_10, PySem.W.mg_of X G k_11, PySem.W.mg_of X G k_12, PySem.W.mg_of X G k_13, PySem.W.mg_of X G k_14, PySem.W.mg_of X G m_FIGURES, PySem.W.mg_of X G m_PART, PySem.W.mg_of X G m_INSERTED, PySem.W.mg_of X G m_SIGNS, PySem.W.mg_of X G m_FLOATING, PySem.W.mg_of X G m_PLACES, PySem.W.mg_of X G m_MOST_FIGURES, PySem.W.mg_of X G m_MOST_SIGNS, PySem.W.mg_of X G m_SHORT_FROM, PySem.W.mg_of X G m_NUMBER_FORMS, PySem.W.mg_of X G m_SHOWN, PySem.W.mg_of X G m_PLAIN_KINDS, q_NUMBER_FORMS, q_SHOWN, ⟨x1_ex⟩, ⟨x2_ex⟩, t_str, t_int, t_NoneType, t_tuple⟩
  have KD : KDict l.prog w K ((fun i => ([R0, R1, R2] : List Addr).getD i 0) 2) kinds2 := kd
  generalize (fun i => ([C0, C1, C2, C3, C4, C5, C6, C7, C8, C9, C10, C11, C12, C13, C14] : List Addr).getD i 0) = c at G2 T
  generalize (fun i => ([R0, R1, R2] : List Addr).getD i 0) = kr at T KD
  generalize (fun i => ([t0, t1, t2, t3, t4, t5, t6, t7, t8] : List Tok).getD i 0) = tk at T
  refine ⟨PySem.W.fnOf "law" "law" (defArgs s_law) (defBody s_law) (defScope s_law) .none kV doc pm an (.ref ca) ct, fun s v => .of_eq rfl, fun base c' P ht kb nb L => ?_⟩
  obtain rfl : c' = ca := by
    have z : PySem.W.tabIn K "law" = some (c', P) := ht
    unfold PySem.W.tabIn at z
    simp only [a_law, l_law] at z
    split at z
    · split at z
      · cases z; rfl
      · cases z
    · cases z
  have D_ten_to : Def l.prog w K mg base 1 "ten_to" ["many"] (spTen) := d_ten_to.def X G (fun f fd F => ok_ten_to F O) fun _ _ _ _ _ _ us hl => match us, hl with | [_], _ => rfl
  have D_is_figures : Def l.prog w K mg base 1 "is_figures" ["text"] (spIsFig) := d_is_figures.def X G (fun f fd F => ok_is_figures F T) fun _ _ _ _ _ _ us hl => match us, hl with | [_], _ => rfl
  have D_number_of : Def l.prog w K mg base 2 "number_of" ["text"] (spNum) := d_number_of.def X G (fun f fd F => ok_number_of F O T D_ten_to) fun _ _ _ _ _ _ us hl => match us, hl with | [_], _ => rfl
  have D_times_at : Def l.prog w K mg base 3 "times_at" ["text", "at"] (spTimes) := d_times_at.def X G (fun f fd F => ok_times_at F O T D_is_figures D_number_of) fun _ _ _ _ _ _ us hl => match us, hl with | [_, _], _ => rfl
  have D_rows_of : Def l.prog w K mg base 4 "rows_of" ["thing"] (spRows K) := d_rows_of.def X G (fun f fd F => ok_rows_of F O T D_times_at) fun _ _ _ _ _ _ us hl => match us, hl with | [_], _ => rfl
  have D_floats_at : Def l.prog w K mg base 1 "floats_at" ["rows", "at"] (spFloats K) := d_floats_at.def X G (fun f fd F => ok_floats_at F O T) fun _ _ _ _ _ _ us hl => match us, hl with | [_, _], _ => rfl
  have D_places_of : Def l.prog w K mg base 1 "places_of" ["rows", "at", "place"] (spPlaces K) := d_places_of.def X G (fun f fd F => ok_places_of F O T) fun _ _ _ _ _ _ us hl => match us, hl with | [_, _, _], _ => rfl
  have D_whole_part : Def l.prog w K mg base 2 "whole_part" ["rows", "at"] (spWhole K) := d_whole_part.def X G (fun f fd F => ok_whole_part F O T D_places_of) fun _ _ _ _ _ _ us hl => match us, hl with | [_, _], _ => rfl
  have D_broken_part : Def l.prog w K mg base 1 "broken_part" ["rows", "at", "place"] (spBroken K) := d_broken_part.def X G (fun f fd F => ok_broken_part F O T) fun _ _ _ _ _ _ us hl => match us, hl with | [_, _, _], _ => rfl
  have D_lead_of : Def l.prog w K mg base 2 "lead_of" ["rows"] (spLead K) := d_lead_of.def X G (fun f fd F => ok_lead_of F O T D_floats_at) fun _ _ _ _ _ _ us hl => match us, hl with | [_], _ => rfl
  have D_tail_of : Def l.prog w K mg base 1 "tail_of" ["rows", "at"] (spTail K) := d_tail_of.def X G (fun f fd F => ok_tail_of F O T) fun _ _ _ _ _ _ us hl => match us, hl with | [_, _], _ => rfl
  have D_number_facts : Def l.prog w K mg base 1 "number_facts" ["rows"] (spFacts K numberFacts) := d_number_facts.def X G (fun f fd F => ok_number_facts F O T) fun _ _ _ _ _ _ us hl => match us, hl with | [_], _ => rfl
  have D_plain_facts : Def l.prog w K mg base 1 "plain_facts" ["rows"] (spFacts K plainFacts) := d_plain_facts.def X G (fun f fd F => ok_plain_facts F O T KD) fun _ _ _ _ _ _ us hl => match us, hl with | [_], _ => rfl
  have D_body_of : Def l.prog w K mg base 3 "body_of" ["rows", "at"] (spBody K) := d_body_of.def X G (fun f fd F => ok_body_of F D_whole_part D_broken_part) fun _ _ _ _ _ _ us hl => match us, hl with | [_, _], _ => rfl
  have D_edited_facts : Def l.prog w K mg base 4 "edited_facts" ["rows"] (spFacts K editedFacts) := d_edited_facts.def X G (fun f fd F => ok_edited_facts F O T D_lead_of D_body_of D_tail_of) fun _ _ _ _ _ _ us hl => match us, hl with | [_], _ => rfl
  have D_facts_of : Def l.prog w K mg base 5 "facts_of" ["rows"] (spFacts K factsOf) := d_facts_of.def X G (fun f fd F => ok_facts_of F D_number_facts D_plain_facts D_edited_facts) fun _ _ _ _ _ _ us hl => match us, hl with | [_], _ => rfl
  have D_is_picture : Def l.prog w K mg base 6 "is_picture" ["thing"] (spIsPic K) := d_is_picture.def X G (fun f fd F => ok_is_picture F D_rows_of D_facts_of) fun _ _ _ _ _ _ us hl => match us, hl with | [_], _ => rfl
  have D_understood : Def l.prog w K mg base 6 "understood" ["picture"] (spUnder K c) := d_understood.def X G (fun f fd F => ok_understood F T D_rows_of D_facts_of) fun _ _ _ _ _ _ us hl => match us, hl with | [_], _ => rfl
  have D_kind_of : Def l.prog w K mg base 7 "kind_of" ["picture"] (spKind c) := d_kind_of.def X G (fun f fd F => ok_kind_of F D_understood) fun _ _ _ _ _ _ us hl => match us, hl with | [_], _ => rfl
  have D_figures_of : Def l.prog w K mg base 2 "figures_of" ["number"] (spFigs) := d_figures_of.def X G (fun f fd F => ok_figures_of F O T D_ten_to) fun _ _ _ _ _ _ us hl => match us, hl with | [_], _ => rfl
  have D_row_text : Def l.prog w K mg base 3 "row_text" ["symbol", "many"] (spRowT) := d_row_text.def X G (fun f fd F => ok_row_text F O T D_figures_of) fun _ _ _ _ _ _ us hl => match us, hl with | [_, _], _ => rfl
  have D_written_out : Def l.prog w K mg base 1 "written_out" ["rows"] (spOut K) := d_written_out.def X G (fun f fd F => ok_written_out F O) fun _ _ _ _ _ _ us hl => match us, hl with | [_], _ => rfl
  have D_unfolded : Def l.prog w K mg base 7 "unfolded" ["text"] (spUnf) := d_unfolded.def X G (fun f fd F => ok_unfolded F D_understood D_written_out) fun _ _ _ _ _ _ us hl => match us, hl with | [_], _ => rfl
  have D_folded : Def l.prog w K mg base 7 "folded" ["text"] (spFold) := d_folded.def X G (fun f fd F => ok_folded F D_understood D_row_text) fun _ _ _ _ _ _ us hl => match us, hl with | [_], _ => rfl
  have D_room : Def l.prog w K mg base 7 "room" ["picture"] (spRoom c) := d_room.def X G (fun f fd F => ok_room F T D_understood) fun _ _ _ _ _ _ us hl => match us, hl with | [_], _ => rfl
  have D_size_of : Def l.prog w K mg base 7 "size_of" ["picture"] (spSize) := d_size_of.def X G (fun f fd F => ok_size_of F O D_understood) fun _ _ _ _ _ _ us hl => match us, hl with | [_], _ => rfl
  have D__law_draw : Def l.prog w K mg base 1 "_law_draw" ["_law_script", "_law_town", "_law_many"] (spDraw K) := d__law_draw.def X G (fun f fd F => ok__law_draw F O) fun _ _ _ _ _ _ us hl => match us, hl with | [_, _, _], _ => rfl
  have D__law_begun : Def l.prog w K mg base 1 "_law_begun" [] (spBegun) := d__law_begun.def X G (fun f fd F => ok__law_begun F ) fun _ _ _ _ _ _ us hl => match us, hl with | [], _ => rfl
  have D__law_class : Def l.prog w K mg base 1 "_law_class" ["_law_kept"] (spClass K c) := d__law_class.def X G (fun f fd F => ok__law_class F O T) fun _ _ _ _ _ _ us hl => match us, hl with | [_], _ => rfl
  have D__law_places : Def l.prog w K mg base 2 "_law_places" ["_law_script", "_law_town", "_law_symbol", "_law_most"] (spLPl K) := d__law_places.def X G (fun f fd F => ok__law_places F O D__law_draw) fun _ _ _ _ _ _ us hl => match us, hl with | [_, _, _, _], _ => rfl
  have D__law_line : Def l.prog w K mg base 1 "_law_line" ["_law_parts"] (spLine K) := d__law_line.def X G (fun f fd F => ok__law_line F ) fun _ _ _ _ _ _ us hl => match us, hl with | [_], _ => rfl
  have D__law_short_line : Def l.prog w K mg base 2 "_law_short_line" ["_law_script", "_law_town", "_law_line_here"] (spShortL K) := d__law_short_line.def X G (fun f fd F => ok__law_short_line F O D__law_draw) fun _ _ _ _ _ _ us hl => match us, hl with | [_, _, _], _ => rfl
  have D__law_an_edited : Def l.prog w K mg base 3 "_law_an_edited" ["_law_script", "_law_town"] (spEd K) := d__law_an_edited.def X G (fun f fd F => ok__law_an_edited F O D__law_draw D__law_places) fun _ _ _ _ _ _ us hl => match us, hl with | [_, _], _ => rfl
  have D__law_a_picture : Def l.prog w K mg base 4 "_law_a_picture" ["_law_script", "_law_town"] (spPic K) := d__law_a_picture.def X G (fun f fd F => ok__law_a_picture F O D__law_draw D__law_line D__law_an_edited) fun _ _ _ _ _ _ us hl => match us, hl with | [_, _], _ => rfl
  have D__law_folded : Def l.prog w K mg base 1 "_law_folded" ["_law_line_here"] (spLF) := d__law_folded.def X G (fun f fd F => ok__law_folded F O) fun _ _ _ _ _ _ us hl => match us, hl with | [_], _ => rfl
  have DK0_folded : DefK0 l.prog w K mg base 7 "folded" "text" (spFold) := d_folded.defK0 X G (fun f fd F => ok_folded F D_understood D_row_text) fun _ _ _ _ _ _ _ => rfl
  obtain ⟨fh, fdh, ah, Fh⟩ := d_heard.ex
  have hbh : Binds K fdh ["_law_deed"] [] := Fh.binds (ps := ["_law_deed"]) fun _ _ _ _ _ _ us hl => match us, hl with | [_], _ => rfl
  exact ok_law (P := l.prog) (w := w) (base := base) ⟨oc, od, kV, doc, pm, an, ct, osl, rfl, l_law, c_law⟩ O T L Fh (PySem.W.mg_of X G ah) hbh G2 D__law_class D__law_begun D__law_draw D__law_short_line D__law_a_picture D__law_an_edited D__law_line D__law_folded D_is_picture D_kind_of D_unfolded D_folded DK0_folded D_room D_size_of
theorem cxe_no {P : Program} {w : World} {H : Hp} {s : Shared} {e : Value} {s' : Shared} (z : CXE P w [] H s (fun _ _ _ => False) e s') : False := by
  obtain ⟨_, _, _, _, _, _, _, _, _, _, _, _, _, _, h⟩ := z
  exact h
theorem tab_law {K : PySem.W.Frag} {fl c P : Addr} {oc kV doc pm ct oc2 : Value} {od an od2 : Option Addr} {osl osl2 : Array (Option Value)} {vs : Array Value} (a : PySem.W.nsIn K mainGlobals "law" = some (some (.ref fl)))
    (l : K.lookup fl = some ⟨oc, od, .func (PySem.W.fnOf "law" "law" (defArgs s_law) (defBody s_law) (defScope s_law) .none kV doc pm an (.ref c) ct), osl⟩) (lc : K.lookup c = some ⟨oc2, od2, .fields vs, osl2⟩) (hv : (vs[11]? : Option Value) = some (.ref P)) : ∃ c P, PySem.W.tabIn K "law" = some (c, P) := ⟨c, P, tab_mk a l rfl lc hv⟩
end Lw
/-! names that keep the head from laying twins of what it need not look into -/
namespace PySem.W.Fast
theorem tw8750649462039338176 : True := trivial
theorem tw5262460657446301920 : True := trivial
theorem tw1467256948191623392 : True := trivial
theorem tw2692793194852613344 : True := trivial
theorem tw1111849658422764800 : True := trivial
theorem tw3652141194818926848 : True := trivial
theorem tw4821080356003837248 : True := trivial
theorem tw1980197906398555456 : True := trivial
theorem tw3083773882185630048 : True := trivial
theorem tw17885998593786495328 : True := trivial
theorem tw11850949188080489824 : True := trivial
theorem tw10516446964493897088 : True := trivial
theorem tw11454181674079188448 : True := trivial
theorem tw18331743759472482976 : True := trivial
theorem tw16394140129216356096 : True := trivial
theorem tw7852448648098418464 : True := trivial
theorem tw1246411631645634336 : True := trivial
theorem tw13685092384863634208 : True := trivial
theorem tw855053365442634720 : True := trivial
theorem tw13015072596950979585 : True := trivial
theorem tw5502518675955998817 : True := trivial
theorem tw12998274097382348033 : True := trivial
theorem tw1509917364929255713 : True := trivial
theorem tw13184498987845433665 : True := trivial
theorem tw834210876736993697 : True := trivial
theorem tw6725686543492913729 : True := trivial
theorem tw16462079605343511201 : True := trivial
theorem tw17049113295938558625 : True := trivial
theorem tw5459991042062432961 : True := trivial
theorem tw15651377824505421601 : True := trivial
theorem tw18024493086871621666 : True := trivial
theorem tw3775685989046415554 : True := trivial
theorem tw15480841074361348418 : True := trivial
theorem tw14230111373723636066 : True := trivial
theorem tw14907643532913473954 : True := trivial
theorem tw8938719169213361570 : True := trivial
theorem tw6596557476987904450 : True := trivial
theorem tw14475496438543839682 : True := trivial
theorem tw9559321159232924226 : True := trivial
theorem tw3782043707595524706 : True := trivial
theorem tw14433622837818575842 : True := trivial
theorem tw11207362269200719842 : True := trivial
theorem tw16602159126315194371 : True := trivial
theorem tw9196171774864846883 : True := trivial
theorem tw18238069046769381411 : True := trivial
theorem tw3518145362035774659 : True := trivial
theorem tw6579463580297160963 : True := trivial
theorem tw3480794234331433347 : True := trivial
theorem tw2523935686364295715 : True := trivial
theorem tw18000373831489219 : True := trivial
theorem tw3046493245694585571 : True := trivial
theorem tw1469267506695859939 : True := trivial
theorem tw2659850542645755651 : True := trivial
theorem tw12811054597282017027 : True := trivial
theorem tw7025451209749066627 : True := trivial
theorem tw2105467335154844643 : True := trivial
theorem tw13469348092918485124 : True := trivial
theorem tw356276026584090756 : True := trivial
theorem tw14386387249605039364 : True := trivial
theorem tw9922880979382355236 : True := trivial
theorem tw6602527113159966180 : True := trivial
theorem tw8209773342658920068 : True := trivial
theorem tw9516644311458959429 : True := trivial
theorem tw2859436807039199397 : True := trivial
theorem tw2529223135421697189 : True := trivial
theorem tw3970441464528715045 : True := trivial
theorem tw17892978438889672101 : True := trivial
theorem tw893165331934371237 : True := trivial
theorem tw3213722224275507845 : True := trivial
theorem tw2889337319224761029 : True := trivial
theorem tw14662537151239908165 : True := trivial
theorem tw1720553378415802181 : True := trivial
theorem tw16803807307129256805 : True := trivial
theorem tw17885094146174777221 : True := trivial
theorem tw12552580449717442469 : True := trivial
theorem tw10040620393759437862 : True := trivial
theorem tw15185645803811506342 : True := trivial
theorem tw3538528029042077894 : True := trivial
theorem tw10391492371544629670 : True := trivial
theorem tw1305960066859841990 : True := trivial
theorem tw6222660552953308614 : True := trivial
theorem tw518379029234417126 : True := trivial
theorem tw14617904358830500422 : True := trivial
theorem tw12475464991334234854 : True := trivial
theorem tw12232171518729704198 : True := trivial
theorem tw8197651391495205702 : True := trivial
theorem tw10111877404262944646 : True := trivial
theorem tw16843723493718337510 : True := trivial
theorem tw8777508130299560039 : True := trivial
theorem tw12454875297023666439 : True := trivial
theorem tw17801810000232785383 : True := trivial
theorem tw11302442494489974279 : True := trivial
theorem tw95340602801316359 : True := trivial
theorem tw8969370664452209255 : True := trivial
theorem tw3732773652778590055 : True := trivial
theorem tw8191566283159155687 : True := trivial
theorem tw4384035492933920872 : True := trivial
theorem tw6214525069829244136 : True := trivial
theorem tw8729110413156253960 : True := trivial
theorem tw6939571452984941896 : True := trivial
theorem tw181261365552815560 : True := trivial
theorem tw10277972628640861704 : True := trivial
theorem tw9270956407785112104 : True := trivial
theorem tw12285726779752414856 : True := trivial
theorem tw15986553514882620072 : True := trivial
theorem tw10782390328536026920 : True := trivial
theorem tw9694517908777478088 : True := trivial
theorem tw1269667539503800296 : True := trivial
theorem tw17112723460444474473 : True := trivial
theorem tw14315796080559996009 : True := trivial
theorem tw11001925057191420105 : True := trivial
theorem tw16175231818764612841 : True := trivial
theorem tw17168598447462592841 : True := trivial
theorem tw17695888344382491977 : True := trivial
theorem tw8740798618691539305 : True := trivial
theorem tw14271195589316178281 : True := trivial
theorem tw16772728565999691369 : True := trivial
theorem tw14580922000557236937 : True := trivial
theorem tw3074492394313547497 : True := trivial
theorem tw10984973458408073065 : True := trivial
theorem tw17197126490411855721 : True := trivial
theorem tw4290290681104010217 : True := trivial
theorem tw4530526461933906122 : True := trivial
theorem tw16670108492852132106 : True := trivial
theorem tw14864675947977658666 : True := trivial
theorem tw3126876742258349354 : True := trivial
theorem tw9098178607261025610 : True := trivial
theorem tw8197317168480455178 : True := trivial
theorem tw11185975759583599146 : True := trivial
theorem tw10658025425461348074 : True := trivial
theorem tw1789049212544679818 : True := trivial
theorem tw1302265251197038538 : True := trivial
theorem tw8670990930711382091 : True := trivial
theorem tw3998984330316576907 : True := trivial
theorem tw7831216310147685643 : True := trivial
theorem tw15648311113617737067 : True := trivial
theorem tw13429785182969612715 : True := trivial
theorem tw332577225353674443 : True := trivial
theorem tw17780092232628812619 : True := trivial
theorem tw17522322127552792395 : True := trivial
theorem tw3602549310802174891 : True := trivial
theorem tw1681297247721390059 : True := trivial
theorem tw4309719988131152908 : True := trivial
theorem tw15450368539863024748 : True := trivial
theorem tw2587224337700689260 : True := trivial
theorem tw5306596766608036268 : True := trivial
theorem tw267045787587993100 : True := trivial
theorem tw10479218085464889132 : True := trivial
theorem tw914539155840496460 : True := trivial
theorem tw15461502405162107788 : True := trivial
theorem tw5877634698697333837 : True := trivial
theorem tw16590310259465820333 : True := trivial
theorem tw6276631094215924045 : True := trivial
theorem tw12204113429079289229 : True := trivial
theorem tw16401361353220485549 : True := trivial
theorem tw1611572089343230605 : True := trivial
theorem tw6475612326888447661 : True := trivial
theorem tw8689430395490444013 : True := trivial
theorem tw15057604860892698541 : True := trivial
theorem tw6850658382172152813 : True := trivial
theorem tw7676319768612466734 : True := trivial
theorem tw15480407325208456366 : True := trivial
theorem tw8983190039911867566 : True := trivial
theorem tw998766817973983406 : True := trivial
theorem tw3750531856626323694 : True := trivial
theorem tw16591763835980303694 : True := trivial
theorem tw12388233164805710382 : True := trivial
theorem tw17303924209378638446 : True := trivial
theorem tw10939305395121091246 : True := trivial
theorem tw5099571378390879950 : True := trivial
theorem tw17395190154383161038 : True := trivial
theorem tw2208313394218369838 : True := trivial
theorem tw6015946921074921422 : True := trivial
theorem tw9670047323696569326 : True := trivial
theorem tw6495367159732233263 : True := trivial
theorem tw9615956385392574703 : True := trivial
theorem tw15711480690127406447 : True := trivial
theorem tw3261982462380483023 : True := trivial
theorem tw16313924658758964847 : True := trivial
theorem tw1353003445793937039 : True := trivial
theorem tw16057585088037690063 : True := trivial
theorem tw11573234257722023663 : True := trivial
theorem tw13412067756549040879 : True := trivial
theorem tw11186277469502463887 : True := trivial
theorem tw15663136290103021680 : True := trivial
theorem tw2174923342762343568 : True := trivial
theorem tw11956183224144637232 : True := trivial
theorem tw13619176604407345520 : True := trivial
theorem tw1694339917807829456 : True := trivial
theorem tw12544664744535387760 : True := trivial
theorem tw7008450224488393360 : True := trivial
theorem tw6313694811564135088 : True := trivial
theorem tw15115502286183581584 : True := trivial
theorem tw2069054486751704976 : True := trivial
theorem tw3441093534052535377 : True := trivial
theorem tw13377978242690321521 : True := trivial
theorem tw15278641831476096305 : True := trivial
theorem tw16521080427648421233 : True := trivial
theorem tw11290318497793148369 : True := trivial
theorem tw9021109644013370897 : True := trivial
theorem tw8007865219415567921 : True := trivial
theorem tw4875292829779794577 : True := trivial
theorem tw15587810683993266897 : True := trivial
theorem tw5826026030302087921 : True := trivial
theorem tw12696890625237992273 : True := trivial
theorem tw15041890114258601010 : True := trivial
theorem tw3962653494719191314 : True := trivial
theorem tw8270277831428018482 : True := trivial
theorem tw12026556239589578162 : True := trivial
theorem tw1385784927563425202 : True := trivial
theorem tw15837669285241434546 : True := trivial
theorem tw1636747767113258450 : True := trivial
theorem tw5306148964828292882 : True := trivial
theorem tw6515198403486309202 : True := trivial
theorem tw11711002651930615634 : True := trivial
theorem tw13405698921699415922 : True := trivial
theorem tw15898337472853528659 : True := trivial
theorem tw17087484446215374963 : True := trivial
theorem tw507939847458076819 : True := trivial
theorem tw8033509289586552979 : True := trivial
theorem tw4784287656889239731 : True := trivial
theorem tw848430807413470419 : True := trivial
theorem tw529492049711993139 : True := trivial
theorem tw6853399057473816883 : True := trivial
theorem tw1504368547928688019 : True := trivial
theorem tw3333629457760730899 : True := trivial
theorem tw6142142736906498931 : True := trivial
theorem tw15952156450751711123 : True := trivial
theorem tw6798162726842960948 : True := trivial
theorem tw4242143109304472628 : True := trivial
theorem tw14050276262897249492 : True := trivial
theorem tw10527044898283792628 : True := trivial
theorem tw15541140293136356596 : True := trivial
theorem tw9404048857286394196 : True := trivial
theorem tw447903101302974868 : True := trivial
theorem tw1041848936754930132 : True := trivial
theorem tw11468256268811848436 : True := trivial
theorem tw9887966630247705332 : True := trivial
theorem tw17166089473273554772 : True := trivial
theorem tw3703960480546122612 : True := trivial
theorem tw10319348078323143572 : True := trivial
theorem tw18412745316112067637 : True := trivial
theorem tw14828197282908469365 : True := trivial
theorem tw6703825162903369877 : True := trivial
theorem tw14607366538756638965 : True := trivial
theorem tw455706964519786805 : True := trivial
theorem tw15349352366437555637 : True := trivial
theorem tw1017288926870376949 : True := trivial
theorem tw6428936692510202485 : True := trivial
theorem tw3113320428310431349 : True := trivial
theorem tw4368485329265855125 : True := trivial
theorem tw6333169117845011093 : True := trivial
theorem tw9326712333826645717 : True := trivial
theorem tw8475128723470440181 : True := trivial
theorem tw1507467676907490037 : True := trivial
theorem tw3209284400000455669 : True := trivial
theorem tw1991029893334657078 : True := trivial
theorem tw9116807666046252118 : True := trivial
theorem tw9304090324583811190 : True := trivial
theorem tw7057650543101910166 : True := trivial
theorem tw3785507497377892566 : True := trivial
theorem tw3954302639422070038 : True := trivial
theorem tw16280521374921552150 : True := trivial
theorem tw7896479843767933494 : True := trivial
theorem tw13063731009196530262 : True := trivial
theorem tw6398103365285309014 : True := trivial
theorem tw15145086378210535094 : True := trivial
theorem tw6960543970752087766 : True := trivial
theorem tw18339889766526329590 : True := trivial
theorem tw6708256193646432022 : True := trivial
theorem tw17412018792543153207 : True := trivial
theorem tw2226713469237338231 : True := trivial
theorem tw7763357369964841335 : True := trivial
theorem tw9898753207102628311 : True := trivial
theorem tw11981030582134048247 : True := trivial
theorem tw6720853964196049463 : True := trivial
theorem tw17622495891234731607 : True := trivial
theorem tw17151826662705508983 : True := trivial
theorem tw3774322698509063991 : True := trivial
theorem tw2359889841479096151 : True := trivial
theorem tw6926593199068795895 : True := trivial
theorem tw12234689038564908088 : True := trivial
theorem tw17325320332837455960 : True := trivial
theorem tw10321294178087957912 : True := trivial
theorem tw13011457054700096920 : True := trivial
theorem tw7371791502183499192 : True := trivial
theorem tw9578498843526341144 : True := trivial
theorem tw7369032376112647800 : True := trivial
theorem tw15279517133046941336 : True := trivial
theorem tw5140268583015678680 : True := trivial
theorem tw1611791051858055000 : True := trivial
theorem tw9179140484823109464 : True := trivial
theorem tw18149097993134860184 : True := trivial
theorem tw714589751076616152 : True := trivial
theorem tw1226188079675228152 : True := trivial
theorem tw17135761032571318329 : True := trivial
theorem tw3591919255971842105 : True := trivial
theorem tw15967392468573587609 : True := trivial
theorem tw9320281924668193945 : True := trivial
theorem tw12424002885326215353 : True := trivial
theorem tw331267031065780409 : True := trivial
theorem tw5587486464092749081 : True := trivial
theorem tw13905898260386577721 : True := trivial
theorem tw17224342874126435673 : True := trivial
theorem tw15131669339773173081 : True := trivial
theorem tw18227270681776052697 : True := trivial
theorem tw2592693423140406777 : True := trivial
theorem tw6072661193267373593 : True := trivial
theorem tw7799085090218218169 : True := trivial
theorem tw1709792450443459481 : True := trivial
theorem tw3111009401383739385 : True := trivial
theorem tw7722275528394213786 : True := trivial
theorem tw18116725000728487418 : True := trivial
theorem tw4876177950632887994 : True := trivial
theorem tw13301613149290254074 : True := trivial
theorem tw18222412393995481882 : True := trivial
theorem tw9689565459609874298 : True := trivial
theorem tw8105553659963500442 : True := trivial
theorem tw18353805657405551675 : True := trivial
theorem tw14644951477498964219 : True := trivial
theorem tw10980654158760240411 : True := trivial
theorem tw11948056681682023835 : True := trivial
theorem tw10838132793767584379 : True := trivial
theorem tw2364675770431178363 : True := trivial
theorem tw10716169720615541659 : True := trivial
theorem tw2812840711144125660 : True := trivial
theorem tw2283671968040716572 : True := trivial
theorem tw1491683144741342588 : True := trivial
theorem tw1406993274387848604 : True := trivial
theorem tw15949834584561863100 : True := trivial
theorem tw13070043376689375964 : True := trivial
theorem tw18200536788570820348 : True := trivial
theorem tw10927300440902286268 : True := trivial
theorem tw5032847102390558813 : True := trivial
theorem tw6865463427958544509 : True := trivial
theorem tw8554488295355644029 : True := trivial
theorem tw10828898499429495005 : True := trivial
theorem tw12484554357801387549 : True := trivial
theorem tw7406944726545228477 : True := trivial
theorem tw17185101423676225277 : True := trivial
theorem tw13679574693060513150 : True := trivial
theorem tw300778607646755358 : True := trivial
theorem tw12204167212896059070 : True := trivial
theorem tw3398144155924480702 : True := trivial
theorem tw1887416941380330238 : True := trivial
theorem tw9744275403832523614 : True := trivial
theorem tw8501025901034491870 : True := trivial
theorem tw8074958702195210335 : True := trivial
theorem tw6869824599932892447 : True := trivial
theorem tw6211648421232146783 : True := trivial
theorem tw18103419942623607167 : True := trivial
theorem tw17565718463068120703 : True := trivial
theorem tw12820159538336797343 : True := trivial
theorem tw5927297565677097841 : True := trivial
end PySem.W.Fast
open PySem PySem.W PyProof.Rows
set_option maxRecDepth 100000 in
set_option maxHeartbeats 0 in
theorem PySem.Challenge.cw_boxmoves_k06_rooms_holds : PySem.Challenge.rw_boxmoves_k06_rooms.Holds := by
  w_on; o_law; k_head; (case hw => w_witness2)
  k_fill
  refine L2.walk_ofT (l := PySem.Challenge.rw_boxmoves_k06_rooms) (n := 63) (k := 10) (x := "_law_script") (CX := fun w => L2.CXE PySem.Challenge.rw_boxmoves_k06_rooms.prog w) (sp := fun _ P => Lw.spLaw P) rfl (by decide) rfl ⟨rfl, by decide, by decide⟩ (fun w h Y => PySem.W.km_in_of Y) ?nL ?nT rfl ?hT ?F (fun w H a P ns hl hO hS => ⟨a, ns, rfl, hl, hO, hS, fun _ => rfl⟩) (fun w H s e s' z => Lw.cxe_no z)
  case nL => intro w; kernel_rfl
  case nT => intro w; kernel_rfl
  case hT =>
    intro w
    refine' Lw.tab_law ?a ?l ?lc ?hv
    (case a => k_is); (case l => k_is); (case lc => k_is); (case hv => exact rfl)
  case F =>
    intro w mg fa h KX G hmg
    refine' Lw.all_mk KX G hmg ?d_ten_to ?d_is_figures ?d_number_of ?d_times_at ?d_rows_of ?d_floats_at ?d_places_of ?d_whole_part ?d_broken_part ?d_lead_of ?d_tail_of ?d_number_facts ?d_plain_facts ?d_body_of ?d_edited_facts ?d_facts_of ?d_is_picture ?d_understood ?d_kind_of ?d_figures_of ?d_row_text ?d_written_out ?d_unfolded ?d_folded ?d_room ?d_size_of ?d__law_draw ?d__law_begun ?d__law_class ?d__law_places ?d__law_line ?d__law_short_line ?d__law_an_edited ?d__law_a_picture ?d__law_folded ?d_heard ?k_0 ?k_1 ?k_2 ?k_3 ?k_4 ?k_5 ?k_6 ?k_7 ?k_8 ?k_9 ?k_10 ?k_11 ?k_12 ?k_13 ?k_14 ?m_FIGURES ?m_INSERTED ?m_SIGNS ?m_FLOATING ?m_PLACES ?m_PART ?m_MOST_FIGURES ?m_MOST_SIGNS ?m_SHORT_FROM ?m_NUMBER_FORMS ?m_SHOWN ?m_PLAIN_KINDS ?q_NUMBER_FORMS ?q_SHOWN ?kd ?t_str ?t_int ?t_NoneType ?t_tuple ?z_len ?z_range ?z_abs ?z_max ?z_int ?z_isi ?z_bool ?z_val ?z_reversed ?z_divmod ?z_str ?z_sum ?x1_ex ?x2_ex ?x2_ga ?x2_gn ?x2_cl ?x2_k0 ?x2_k1 ?x2_k2 ?x2_k3 ?x2_k4 ?x2_k5 ?x2_k6 ?x2_k7 ?x2_k8 ?x2_k9 ?x2_k10 ?x2_k11 ?x2_k12 ?x2_k13 ?x2_va ?x2_bo ?a_law ?l_law ?c_law
    (case d_ten_to => (refine' L2.defAt_mk ?a ?l ?c ?k; (case a => k_is); (case l => k_is); (case c => k_is); (case k => k_is)))
    (case d_is_figures => (refine' L2.defAt_mk ?a ?l ?c ?k; (case a => k_is); (case l => k_is); (case c => k_is); (case k => k_is)))
    (case d_number_of => (refine' L2.defAt_mk ?a ?l ?c ?k; (case a => k_is); (case l => k_is); (case c => k_is); (case k => k_is)))
    (case d_times_at => (refine' L2.defAt_mk ?a ?l ?c ?k; (case a => k_is); (case l => k_is); (case c => k_is); (case k => k_is)))
    (case d_rows_of => (refine' L2.defAt_mk ?a ?l ?c ?k; (case a => k_is); (case l => k_is); (case c => k_is); (case k => k_is)))
    (case d_floats_at => (refine' L2.defAt_mk ?a ?l ?c ?k; (case a => k_is); (case l => k_is); (case c => k_is); (case k => k_is)))
    (case d_places_of => (refine' L2.defAt_mk ?a ?l ?c ?k; (case a => k_is); (case l => k_is); (case c => k_is); (case k => k_is)))
    (case d_whole_part => (refine' L2.defAt_mk ?a ?l ?c ?k; (case a => k_is); (case l => k_is); (case c => k_is); (case k => k_is)))
    (case d_broken_part => (refine' L2.defAt_mk ?a ?l ?c ?k; (case a => k_is); (case l => k_is); (case c => k_is); (case k => k_is)))
    (case d_lead_of => (refine' L2.defAt_mk ?a ?l ?c ?k; (case a => k_is); (case l => k_is); (case c => k_is); (case k => k_is)))
    (case d_tail_of => (refine' L2.defAt_mk ?a ?l ?c ?k; (case a => k_is); (case l => k_is); (case c => k_is); (case k => k_is)))
    (case d_number_facts => (refine' L2.defAt_mk ?a ?l ?c ?k; (case a => k_is); (case l => k_is); (case c => k_is); (case k => k_is)))
    (case d_plain_facts => (refine' L2.defAt_mk ?a ?l ?c ?k; (case a => k_is); (case l => k_is); (case c => k_is); (case k => k_is)))
    (case d_body_of => (refine' L2.defAt_mk ?a ?l ?c ?k; (case a => k_is); (case l => k_is); (case c => k_is); (case k => k_is)))
    (case d_edited_facts => (refine' L2.defAt_mk ?a ?l ?c ?k; (case a => k_is); (case l => k_is); (case c => k_is); (case k => k_is)))
    (case d_facts_of => (refine' L2.defAt_mk ?a ?l ?c ?k; (case a => k_is); (case l => k_is); (case c => k_is); (case k => k_is)))
    (case d_is_picture => (refine' L2.defAt_mk ?a ?l ?c ?k; (case a => k_is); (case l => k_is); (case c => k_is); (case k => k_is)))
    (case d_understood => (refine' L2.defAt_mk ?a ?l ?c ?k; (case a => k_is); (case l => k_is); (case c => k_is); (case k => k_is)))
    (case d_kind_of => (refine' L2.defAt_mk ?a ?l ?c ?k; (case a => k_is); (case l => k_is); (case c => k_is); (case k => k_is)))
    (case d_figures_of => (refine' L2.defAt_mk ?a ?l ?c ?k; (case a => k_is); (case l => k_is); (case c => k_is); (case k => k_is)))
    (case d_row_text => (refine' L2.defAt_mk ?a ?l ?c ?k; (case a => k_is); (case l => k_is); (case c => k_is); (case k => k_is)))
    (case d_written_out => (refine' L2.defAt_mk ?a ?l ?c ?k; (case a => k_is); (case l => k_is); (case c => k_is); (case k => k_is)))
    (case d_unfolded => (refine' L2.defAt_mk ?a ?l ?c ?k; (case a => k_is); (case l => k_is); (case c => k_is); (case k => k_is)))
    (case d_folded => (refine' L2.defAt_mk ?a ?l ?c ?k; (case a => k_is); (case l => k_is); (case c => k_is); (case k => k_is)))
    (case d_room => (refine' L2.defAt_mk ?a ?l ?c ?k; (case a => k_is); (case l => k_is); (case c => k_is); (case k => k_is)))
    (case d_size_of => (refine' L2.defAt_mk ?a ?l ?c ?k; (case a => k_is); (case l => k_is); (case c => k_is); (case k => k_is)))
    (case d__law_draw => (refine' L2.defAt_mk ?a ?l ?c ?k; (case a => k_is); (case l => k_is); (case c => k_is); (case k => k_is)))
    (case d__law_begun => (refine' L2.defAt_mk ?a ?l ?c ?k; (case a => k_is); (case l => k_is); (case c => k_is); (case k => k_is)))
    (case d__law_class => (refine' L2.defAt_mk ?a ?l ?c ?k; (case a => k_is); (case l => k_is); (case c => k_is); (case k => k_is)))
    (case d__law_places => (refine' L2.defAt_mk ?a ?l ?c ?k; (case a => k_is); (case l => k_is); (case c => k_is); (case k => k_is)))
    (case d__law_line => (refine' L2.defAt_mk ?a ?l ?c ?k; (case a => k_is); (case l => k_is); (case c => k_is); (case k => k_is)))
    (case d__law_short_line => (refine' L2.defAt_mk ?a ?l ?c ?k; (case a => k_is); (case l => k_is); (case c => k_is); (case k => k_is)))
    (case d__law_an_edited => (refine' L2.defAt_mk ?a ?l ?c ?k; (case a => k_is); (case l => k_is); (case c => k_is); (case k => k_is)))
    (case d__law_a_picture => (refine' L2.defAt_mk ?a ?l ?c ?k; (case a => k_is); (case l => k_is); (case c => k_is); (case k => k_is)))
    (case d__law_folded => (refine' L2.defAt_mk ?a ?l ?c ?k; (case a => k_is); (case l => k_is); (case c => k_is); (case k => k_is)))
    (case d_heard => (refine' L2.defAt_mk ?a ?l ?c ?k; (case a => k_is); (case l => k_is); (case c => k_is); (case k => k_is)))
    (case k_0 => k_is)
    (case k_1 => k_is)
    (case k_2 => k_is)
    (case k_3 => k_is)
    (case k_4 => k_is)
    (case k_5 => k_is)
    (case k_6 => k_is)
    (case k_7 => k_is)
    (case k_8 => k_is)
    (case k_9 => k_is)
    (case k_10 => k_is)
    (case k_11 => k_is)
    (case k_12 => k_is)
    (case k_13 => k_is)
    (case k_14 => k_is)
    (case m_FIGURES => k_is)
    (case m_INSERTED => k_is)
    (case m_SIGNS => k_is)
    (case m_FLOATING => k_is)
    (case m_PLACES => k_is)
    (case m_PART => k_is)
    (case m_MOST_FIGURES => k_is)
    (case m_MOST_SIGNS => k_is)
    (case m_SHORT_FROM => k_is)
    (case m_NUMBER_FORMS => k_is)
    (case m_SHOWN => k_is)
    (case m_PLAIN_KINDS => k_is)
    (case q_NUMBER_FORMS => (refine' L2.sqT_mk ?l ?z ?v; (case l => k_is); (case z => show 6 ≤ sizeLine; decide); (case v => exact (.cons ⟨_, rfl⟩ (.cons ⟨_, rfl⟩ (.cons ⟨_, rfl⟩ (.cons ⟨_, rfl⟩ (.cons ⟨_, rfl⟩ (.cons ⟨_, rfl⟩ .nil)))))))))
    (case q_SHOWN => (refine' L2.sqT_mk ?l ?z ?v; (case l => k_is); (case z => show 4 ≤ sizeLine; decide); (case v => exact (.cons ⟨_, rfl⟩ (.cons ⟨_, rfl⟩ (.cons ⟨_, rfl⟩ (.cons ⟨_, rfl⟩ .nil)))))))
    (case kd => (refine' L2.kdict2_mk ?ne ?l ?e1 ?e2 ?hx; (case l => k_is); (case ne => exact rfl); (case e1 => exact rfl); (case e2 => exact rfl); (case hx => decide +kernel)))
    (case t_str => kit_is)
    (case t_int => kit_is)
    (case t_NoneType => kit_is)
    (case t_tuple => kit_is)
    (case z_len => k_is)
    (case z_range => k_is)
    (case z_abs => k_is)
    (case z_max => k_is)
    (case z_int => k_is)
    (case z_isi => k_is)
    (case z_bool => k_is)
    (case z_val => k_is)
    (case z_reversed => k_is)
    (case z_divmod => k_is)
    (case z_str => k_is)
    (case z_sum => k_is)
    (case x1_ex => k_exc)
    (case x2_ex => k_exc)
    (case x2_ga => k_is)
    (case x2_gn => k_is)
    (case x2_cl => k_is)
    (case x2_k0 => kit_is)
    (case x2_k1 => kit_is)
    (case x2_k2 => kit_is)
    (case x2_k3 => kit_is)
    (case x2_k4 => kit_is)
    (case x2_k5 => kit_is)
    (case x2_k6 => kit_is)
    (case x2_k7 => kit_is)
    (case x2_k8 => kit_is)
    (case x2_k9 => kit_is)
    (case x2_k10 => kit_is)
    (case x2_k11 => kit_is)
    (case x2_k12 => kit_is)
    (case x2_k13 => kit_is)
    (case x2_va => kit_is)
    (case x2_bo => kts_exm)
    (case a_law => k_is)
    (case l_law => k_is)
    (case c_law => k_is)

