import PyProof.Rows.All
import Wide.All
import OpenK.AllK
import Wide.FinOn
import Lean
import PyProof.EqAt
import PyProof.EqKinds
import PyProof.TupleCall
import PyProof.NeKinds
import PyProof.WalksMore
import PyProof.Rows.SetFrom
import PyProof.FString5
import PySem.Challenge.RW_boxmoves_k37_whole_pages
set_option Elab.async false
set_option linter.all false
set_option maxRecDepth 100000
/-! THE HAND LAYER, for ints, bools, texts, own classes, LISTS and tuples (index, slices, in, append, pop ..), calls, loops. Paste it whole ahead of your own text; what your proof does not reach may be deleted. -/
namespace L2
open PySem PySem.Spec PyProof.Rows

/-- a key: an int or a str -/
abbrev Key := Sum Int Str
def keyIs : Key → Value → Bool
  | .inl k, v => Value.isInt k v
  | .inr x, v => Value.isStrOf x v
def keyH (w : World) : Key → Int
  | .inl k => hashInt k
  | .inr x => hashStr w x
theorem keyIs_shape : ∀ {k : Key} {v : Value}, keyIs k v = true → (∃ i t, k = Sum.inl i ∧ v = Value.int i t) ∨ (∃ x t, k = Sum.inr x ∧ v = Value.str x t)
  | .inl i, v, h => by
    obtain ⟨t, e⟩ := Value.isInt_shape (k := i) (v := v) h
    exact .inl ⟨i, t, rfl, e⟩
  | .inr x, v, h => by
    obtain ⟨t, e⟩ := Value.isStrOf_shape (x := x) (v := v) h
    exact .inr ⟨x, t, rfl, e⟩
theorem keyIs_int (i : Int) (t : Tok) : keyIs (.inl i) (.int i t) = true := by simp [keyIs, Value.isInt]
theorem keyIs_str (x : Str) (t : Tok) : keyIs (.inr x) (.str x t) = true := by simp [keyIs, Value.isStrOf]
theorem key_ll (a b : Int) : decide ((Sum.inl a : Key) = Sum.inl b) = (a == b) := by
  by_cases e : a = b
  · subst e; simp
  · have h : ¬ (Sum.inl a : Key) = Sum.inl b := fun q => e (Sum.inl.inj q)
    rw [decide_eq_false h]
    exact (beq_eq_false_iff_ne.mpr e).symm
theorem key_rr (a b : Str) : decide ((Sum.inr a : Key) = Sum.inr b) = decide (a = b) := by
  by_cases e : a = b
  · subst e; simp
  · have h : ¬ (Sum.inr a : Key) = Sum.inr b := fun q => e (Sum.inr.inj q)
    rw [decide_eq_false h, decide_eq_false e]
theorem key_lr (a : Int) (b : Str) : decide ((Sum.inl a : Key) = Sum.inr b) = false := decide_eq_false (fun q => nomatch q)
theorem key_rl (a : Str) (b : Int) : decide ((Sum.inr a : Key) = Sum.inl b) = false := decide_eq_false (fun q => nomatch q)

def mixKind (prog : Program) (w : World) : PySem.KeyKind prog w Key where
  is := keyIs
  hash := keyH w
  inj := fun v a b ha hb => by
    rcases keyIs_shape ha with ⟨i, t, rfl, rfl⟩ | ⟨x, t, rfl, rfl⟩
    · rcases keyIs_shape hb with ⟨j, u, rfl, e⟩ | ⟨y, u, rfl, e⟩
      · injection e with e1 _; rw [e1]
      · exact nomatch e
    · rcases keyIs_shape hb with ⟨j, u, rfl, e⟩ | ⟨y, u, rfl, e⟩
      · exact nomatch e
      · injection e with e1 _; rw [e1]
  byValue := fun k v h => by
    rcases keyIs_shape h with ⟨i, t, rfl, rfl⟩ | ⟨x, t, rfl, rfl⟩ <;> rfl
  pyHash := fun hv h => by
    rcases keyIs_shape hv with ⟨i, t, rfl, rfl⟩ | ⟨x, t, rfl, rfl⟩
    · exact wpAny_pyHash_int h
    · exact wpAny_pyHash_str h
  eqBool := fun hu hv h => by
    rcases keyIs_shape hu with ⟨i, t, rfl, rfl⟩ | ⟨x, t, rfl, rfl⟩
    · rcases keyIs_shape hv with ⟨j, u, rfl, rfl⟩ | ⟨y, u, rfl, rfl⟩
      · rw [key_ll] at h; exact wpAny_eqBool_int h
      · rw [key_lr] at h; exact SeqAt.EqAt.int_str i t y u _ _ _ _ h
    · rcases keyIs_shape hv with ⟨j, u, rfl, rfl⟩ | ⟨y, u, rfl, rfl⟩
      · rw [key_rl] at h; exact SeqAt.EqAt.str_int x t j u _ _ _ _ h
      · rw [key_rr] at h; exact wpAny_eqBool_str h
  «strs» := fun k x t v h => by
    rcases keyIs_shape h with ⟨i, u, rfl, e⟩ | ⟨y, u, rfl, e⟩
    · exact nomatch e
    · injection e with e1 _
      subst e1
      cases v <;> rfl

theorem mixKind_int (prog : Program) (w : World) (i : Int) (t : Tok) : (mixKind prog w).is (.inl i) (.int i t) = true := keyIs_int i t
theorem mixKind_str (prog : Program) (w : World) (x : Str) (t : Tok) : (mixKind prog w).is (.inr x) (.str x t) = true := keyIs_str x t
end L2

namespace L2
open PySem PySem.Spec PyProof.Rows

/-- a value, without the heap -/
inductive V where
  | non | bl (b : Bool) | int (i : Int) | str (x : Str) | byt (b : Array UInt8) | flt (b : UInt64) | ref (a : Addr) | ty (n : String)
  deriving DecidableEq

def RelV : V → Value → Prop
  | .non, u => u = Value.none
  | .bl b, u => u = Value.bool b
  | .int i, u => ∃ t, u = Value.int i t
  | .str x, u => ∃ t, u = Value.str x t
  | .byt b, u => ∃ t, u = Value.bytes b t
  | .flt b, u => ∃ t, u = Value.float b t
  | .ref a, u => u = Value.ref a
  | .ty n, u => u = Value.type n

abbrev Vals : List V → List Value → Prop := Paired RelV
theorem Vals.length {xs : List V} {us : List Value} (r : Vals xs us) : xs.length = us.length := Paired.length r
theorem Vals.get : ∀ {xs : List V} {us : List Value} {i : Nat} {x : V}, Vals xs us → xs[i]? = some x → ∃ u, us[i]? = some u ∧ RelV x u
  | _, _, _, _, .nil, e => by simp at e
  | _, _, 0, _, .cons r _, e => by simp at e; subst e; exact ⟨_, rfl, r⟩
  | _, _, i + 1, x, .cons _ t, e => by
    obtain ⟨u, h1, h2⟩ := Vals.get (i := i) (x := x) t (by simpa using e)
    exact ⟨u, by simpa using h1, h2⟩
theorem Vals.append : ∀ {xs ys : List V} {us ws : List Value}, Vals xs us → Vals ys ws → Vals (xs ++ ys) (us ++ ws)
  | _, _, _, _, .nil, s => s
  | _, _, _, _, .cons r t, s => .cons r (Vals.append t s)
theorem Vals.take : ∀ {xs : List V} {us : List Value} (n : Nat), Vals xs us → Vals (xs.take n) (us.take n)
  | _, _, 0, _ => .nil
  | _, _, _ + 1, .nil => .nil
  | _, _, n + 1, .cons r t => .cons r (Vals.take n t)
theorem Vals.drop : ∀ {xs : List V} {us : List Value} (n : Nat), Vals xs us → Vals (xs.drop n) (us.drop n)
  | _, _, 0, r => r
  | _, _, _ + 1, .nil => .nil
  | _, _, n + 1, .cons _ t => Vals.drop n t
def RelO : Option V → Option Value → Prop
  | some v, some u => RelV v u
  | none, none => True
  | _, _ => False
def KV {κ : Type} : List (κ × V) → List (κ × Value) → Prop := Paired fun (p : κ × V) (q : κ × Value) => p.1 = q.1 ∧ RelV p.2 q.2

/-- a key of a dict (00_mix): an int or a text -/
def kV : Key → V
  | .inl i => .int i
  | .inr x => .str x

/-- what stands at a tracked address -/
inductive HO where
  /-- a list -/
  | lst (xs : List V)
  /-- a tuple (never changes) -/
  | tup (xs : List V)
  /-- a dict whose keys are ints and texts; one whose keys are tuples of ints and texts (the empty one is both) -/
  | dK (kvs : List (Key × V)) | dT (kvs : List (List Key × V))
  /-- a set of ints: its members, its size -/
  | set (S : Int → Bool) (n : Nat)
  /-- an instance of the class at C, its dict at dx, its attributes -/
  | ins (C dx : Addr) (fs : List (Str × V))
  /-- the dict of the instance at x -/
  | own (x : Addr)
  /-- the dict of an exception -/
  | xd (fs : List (Str × V))
  /-- a bound method, f of x -/
  | met (f x : Addr)
  /-- a range object lo, lo + 1, .. below hi -/
  | rng (lo hi : Int)
  /-- a thing that is known to the object (the script; a dict while a loop walks it): read, never written while it is so -/
  | frz (o : Obj) (u : HO)
  /-- a code object's table -/
  | tbl (ps : Array Value)
  /-- any other thing, by what is true of its one object (a def of one's own: SetO a S n := HO.ext fun h => ..) -/
  | ext (φ : Heap → Prop)

abbrev Hp := Addr → Option HO
def upd (H : Hp) (a : Addr) (o : HO) : Hp := fun b => if b = a then some o else H b
theorem upd_same {H : Hp} {a : Addr} {o : HO} : upd H a o a = some o := by unfold upd; rw [if_pos rfl]
theorem upd_ne {H : Hp} {a b : Addr} {o : HO} (h : b ≠ a) : upd H a o b = H b := by unfold upd; rw [if_neg h]
/-- two objects of different content stand apart -/
theorem ne_of {H : Hp} {a b : Addr} {o u : HO} (h : H a = some o) (h' : H b = some u) (d : o ≠ u) : a ≠ b := by
  intro e; subst e; rw [h] at h'; exact d (Option.some.inj h')
theorem ne_of_none {H : Hp} {a b : Addr} {o : HO} (h : H a = some o) (h' : H b = none) : a ≠ b := by
  intro e; subst e; rw [h] at h'; cases h'

/-- a tuple, with no dict of its own -/
def IsTupX (h : Heap) (a : Addr) (items : Array Value) : Prop := ∃ o, h.get? a = some o ∧ o.cls = .type "tuple" ∧ ∃ n, o.data = .seq items n ∧ o.dict = none
theorem IsTupX.tup {h : Heap} {a : Addr} {items : Array Value} (p : IsTupX h a items) : IsTup h a items := let ⟨o, h1, h2, n, h3, _⟩ := p; ⟨o, h1, h2, n, h3⟩
theorem IsTupX.new (h : Heap) (items : Array Value) : IsTupX (h.push { cls := .type "tuple", data := .seq items }) h.objs.size items := ⟨_, Heap.get?_push_size _ rfl, rfl, _, rfl, rfl⟩
section
variable (P : Program) (w : World)
def ObjOk (H : Hp) (h : Heap) (a : Addr) : HO → Prop
  | .lst xs => xs.length ≤ sizeLine ∧ ∃ (its : List Value) (n : Nat), Vals xs its ∧ h.get? a = some { cls := .type "list", data := .seq its.toArray n }
  | .tup xs => xs.length ≤ sizeLine ∧ ∃ its : List Value, Vals xs its ∧ IsTupX h a its.toArray
  | .dK kvs => kvs.length ≤ sizeLine ∧ (a == sysModules) = false ∧ ∃ vs, KV kvs vs ∧ h.DictOf (mixKind P w) a vs
  | .dT kvs => kvs.length ≤ sizeLine ∧ (a == sysModules) = false ∧ ∃ xs : List (List Key × Addr × Value),
      Paired (fun (p : List Key × V) (q : List Key × Addr × Value) => p.1 = q.1 ∧ H q.2.1 = some (.tup (p.1.map kV)) ∧ RelV p.2 q.2.2) kvs xs ∧
      ∃ o es ep, h.get? a = some o ∧ o.ExactDict ∧ o.data = .dict es ep ∧ es.toList = xs.map (entryOfKey (tupleKind (mixKind P w))) ∧ (xs.map (·.1)).Nodup
  | .set S n => h.SetOf (intKind P w) a S n
  | .ins C dx fs => H dx = some (.own a) ∧ fs.length ≤ 1000 ∧ dx ≠ a ∧ h.get? a = some (PySem.W.instObj C dx) ∧
      ∃ mA, h.Ns1 dx mA ∧ (∀ f, RelO (fs.lookup f) (mA f)) ∧ PySem.Within mA (fs.map (·.1))
  | .own _ => ∃ o, h.get? a = some o
  | .xd fs => ∃ mA, h.Ns1 a mA ∧ ∀ f, RelO (fs.lookup f) (mA f)
  | .rng lo hi => ∃ t u v, h.get? a = some { cls := .type "range", data := .fields #[.int lo t, .int hi u, .int 1 v] }
  | .frz o u => h.get? a = some o ∧ ObjOk H h a u
  | .tbl ps => h.get? a = some { cls := .none, data := .fields ps }
  | .met f x => h.get? a = some (PySem.W.methodObj (.ref f) (.ref x))
  | .ext φ => φ h ∧ (∃ o, h.get? a = some o) ∧ ∀ h1 h2 : Heap, φ h1 → (∀ o, h1.get? a = some o → h2.get? a = some o) → φ h2
/-- the abstract heap is held -/
def HOk (H : Hp) (h : Heap) : Prop := ∀ a o, H a = some o → ObjOk P w H h a o
end

section
variable {P : Program} {w : World} {H H' : Hp} {h h' : Heap} {a : Addr} {o : HO}
theorem ObjOk.lt (x : ObjOk P w H h a o) : a < h.objs.size := by
  cases o with
  | lst xs => obtain ⟨_, _, _, _, e⟩ := x; exact Heap.lt_size e
  | tup xs => obtain ⟨_, _, _, p⟩ := x; exact p.tup.lt
  | dK kvs => obtain ⟨_, _, _, _, o, _, _, e, _⟩ := x; exact Heap.lt_size e
  | dT kvs => obtain ⟨_, _, _, _, o, _, _, e, _⟩ := x; exact Heap.lt_size e
  | set S n => obtain ⟨o, _, _, _, e, _⟩ := x; exact Heap.lt_size e
  | ins C dx fs => obtain ⟨_, _, _, e, _⟩ := x; exact Heap.lt_size e
  | own y => obtain ⟨_, e⟩ := x; exact Heap.lt_size e
  | xd fs => obtain ⟨_, ⟨_, _, _, e, _⟩, _⟩ := x; exact Heap.lt_size e
  | rng lo hi => obtain ⟨_, _, _, e⟩ := x; exact Heap.lt_size e
  | frz ob u => obtain ⟨e, _⟩ := x; exact Heap.lt_size e
  | tbl ps => exact Heap.lt_size (show h.get? a = some _ from x)
  | met f y => exact Heap.lt_size (show h.get? a = some _ from x)
  | ext φ => obtain ⟨_, ⟨_, e⟩, _⟩ := x; exact Heap.lt_size e
theorem Paired.mapP {α β : Type} {F G : α → β → Prop} : ∀ {l₁ : List α} {l₂ : List β}, Paired F l₁ l₂ → (∀ a b, F a b → G a b) → Paired G l₁ l₂
  | _, _, .nil, _ => .nil
  | _, _, .cons r t, f => .cons (f _ _ r) (Paired.mapP t f)
/-- what an object's description leans on: its own object, its own dict, the tuples -/
theorem ObjOk.stay (x : ObjOk P w H h a o) (k : ∀ b u, (b = a ∨ H b = some (.own a)) → h.get? b = some u → h'.get? b = some u)
    (ho : ∀ b, H b = some (.own a) → H' b = some (.own a)) (ht : ∀ b xs, H b = some (.tup xs) → H' b = some (.tup xs)) : ObjOk P w H' h' a o := by
  induction o with
  | lst xs => obtain ⟨z, its, n, r, e⟩ := x; exact ⟨z, its, n, r, k _ _ (.inl rfl) e⟩
  | tup xs => obtain ⟨z, its, r, ob, e, c⟩ := x; exact ⟨z, its, r, ob, k _ _ (.inl rfl) e, c⟩
  | dK kvs => obtain ⟨z, y, vs, r, ob, es, ep, e, c⟩ := x; exact ⟨z, y, vs, r, ob, es, ep, k _ _ (.inl rfl) e, c⟩
  | dT kvs =>
    obtain ⟨z, y, xs, r, ob, es, ep, e, c⟩ := x
    exact ⟨z, y, xs, Paired.mapP r fun p q z => ⟨z.1, ht _ _ z.2.1, z.2.2⟩, ob, es, ep, k _ _ (.inl rfl) e, c⟩
  | set S n => obtain ⟨ob, es, ep, t, e, c⟩ := x; exact ⟨ob, es, ep, t, k _ _ (.inl rfl) e, c⟩
  | ins C dx fs =>
    obtain ⟨d, z, ne, e, mA, ⟨od, es, ep, e2, c⟩, r⟩ := x
    exact ⟨ho _ d, z, ne, k _ _ (.inl rfl) e, mA, ⟨od, es, ep, k _ _ (.inr d) e2, c⟩, r⟩
  | own y => obtain ⟨ob, e⟩ := x; exact ⟨ob, k _ _ (.inl rfl) e⟩
  | xd fs => obtain ⟨mA, ⟨od, es, ep, e, c⟩, r⟩ := x; exact ⟨mA, ⟨od, es, ep, k _ _ (.inl rfl) e, c⟩, r⟩
  | rng lo hi => obtain ⟨t, u, v, e⟩ := x; exact ⟨t, u, v, k _ _ (.inl rfl) e⟩
  | frz ob u ih => obtain ⟨e, q⟩ := x; exact ⟨k _ _ (.inl rfl) e, ih q⟩
  | tbl ps =>
    have e : h.get? a = some { cls := .none, data := .fields ps } := x
    show h'.get? a = some { cls := .none, data := .fields ps }
    exact k a _ (.inl rfl) e
  | met f y =>
    have e : h.get? a = some (PySem.W.methodObj (.ref f) (.ref y)) := x
    show h'.get? a = some (PySem.W.methodObj (.ref f) (.ref y))
    exact k a _ (.inl rfl) e
  | ext φ => obtain ⟨p, ⟨o, e⟩, st⟩ := x; exact ⟨st _ _ p fun o q => k _ _ (.inl rfl) q, ⟨o, k _ _ (.inl rfl) e⟩, st⟩
theorem HOk.lt (x : HOk P w H h) (e : H a = some o) : a < h.objs.size := (x a o e).lt
theorem HOk.fresh (x : HOk P w H h) (e : h.objs.size ≤ a) : H a = none := by
  cases q : H a with
  | none => rfl
  | some u => exact absurd (Nat.lt_of_lt_of_le (x.lt q) e) (Nat.lt_irrefl _)
/-- every object of the heap is kept -/
theorem HOk.kept (x : HOk P w H h) (k : ∀ b u, h.get? b = some u → h'.get? b = some u) : HOk P w H h' := fun a o e =>
  (x a o e).stay (fun b u _ q => k b u q) (fun _ q => q) fun _ _ q => q
/-- a new object is laid and tracked -/
theorem HOk.laid (x : HOk P w H h) (k : ∀ b u, h.get? b = some u → h'.get? b = some u) (hp : h.objs.size ≤ a) (new : ObjOk P w (upd H a o) h' a o) : HOk P w (upd H a o) h' := fun b u e => by
  have hn := x.fresh hp
  by_cases hb : b = a
  · subst hb; rw [upd_same] at e; cases e; exact new
  · rw [upd_ne hb] at e
    exact (x b u e).stay (fun c v _ q => k c v q) (fun c q => by rw [upd_ne (ne_of_none q hn)]; exact q) fun c xs q => by rw [upd_ne (ne_of_none q hn)]; exact q
end

/-- what may be read as u: it is u, or a known u -/
def Rd (H : Hp) (a : Addr) (u : HO) : Prop := H a = some u ∨ ∃ o, H a = some (.frz o u)
theorem Rd.ok {P : Program} {w : World} {H : Hp} {h : Heap} {a : Addr} {u : HO} (r : Rd H a u) (x : HOk P w H h) : ObjOk P w H h a u := by
  rcases r with r | ⟨o, r⟩
  · exact x a u r
  · obtain ⟨_, q⟩ := x a _ r
    exact q
/-- what may be written -/
def Mut : Option HO → Prop
  | some (.lst _) => True
  | some (.dK _) => True
  | some (.dT _) => True
  | some (.set _ _) => True
  | some (.ins _ _ _) => True
  | some (.ext _) => True
  | _ => False
section
variable {P : Program} {w : World} {H : Hp} {h h' : Heap} {x e : Addr} {o' : HO}
/-- the object at e is changed: x itself, or the dict of the instance x -/
theorem HOk.write (ok : HOk P w H h) (mu : Mut (H x)) (he : e = x ∨ H e = some (.own x)) (k : ∀ b u, b ≠ e → h.get? b = some u → h'.get? b = some u) (heo : ∃ u, h'.get? e = some u)
    (new : ObjOk P w (upd H x o') h' x o') : HOk P w (upd H x o') h' := fun b u q => by
  have nown : ∀ c y, H c = some (.own y) → c ≠ x := fun c y r z => by subst z; rw [r] at mu; exact mu
  have ntup : ∀ c xs, H c = some (.tup xs) → c ≠ x := fun c xs r z => by subst z; rw [r] at mu; exact mu
  by_cases hb : b = x
  · subst hb; rw [upd_same] at q; cases q; exact new
  · rw [upd_ne hb] at q
    by_cases hbe : b = e
    · have q' : H b = some (.own x) := by
        rcases he with z | z
        · exact absurd (hbe.trans z) hb
        · rw [hbe]; exact z
      rw [q] at q'; cases q'
      obtain ⟨v, hv⟩ := heo
      exact ⟨v, by rw [hbe]; exact hv⟩
    · refine (ok b u q).stay (fun c v hc r => k c v ?_ r) (fun c r => by rw [upd_ne (nown c b r)]; exact r) fun c xs r => by rw [upd_ne (ntup c xs r)]; exact r
      rcases hc with rfl | hc
      · exact hbe
      · rintro rfl
        rcases he with z | z
        · exact nown c b hc z
        · rw [hc] at z; cases z; exact hb rfl
end

/-! ### kept unless tracked; of the frames at fs (the callers') the slots may change (an exception that passes writes there); of the records at ex (iterators) nothing is said -/
structure Un (fs ex : List Addr) (H H' : Hp) (h h' : Heap) : Prop where
  keep : ∀ b o, h.get? b = some o → H b = none → b ∉ fs → b ∉ ex → h'.get? b = some o
  slot : ∀ b o, h.get? b = some o → H b = none → b ∈ fs → b ∉ ex → ∃ sl, h'.get? b = some { o with slots := sl }
  free : ∀ b o, h.get? b = some o → H b = none → b ∉ ex → H' b = none
  there : ∀ b o, h.get? b = some o → b ∉ ex → ∃ o', h'.get? b = some o'
  tups : ∀ b xs, H b = some (.tup xs) → H' b = some (.tup xs)
  frzs : ∀ b o u, H b = some (.frz o u) → H' b = some (.frz o u)
  tbls : ∀ b ps, H b = some (.tbl ps) → ∃ more, H' b = some (.tbl (ps ++ more))
section
variable {fs fs' ex ex' : List Addr} {H H1 H2 : Hp} {h h1 h2 h' : Heap} {a x e : Addr} {o : HO}
theorem Un.any (u : Un fs ex H H1 h h1) {b : Addr} {ob : Obj} (q : h.get? b = some ob) (n : H b = none) (hx : b ∉ ex) : ∃ sl, h1.get? b = some { ob with slots := sl } := by
  by_cases hb : b ∈ fs
  · exact u.slot b ob q n hb hx
  · exact ⟨ob.slots, u.keep b ob q n hb hx⟩
theorem Un.kept (k : ∀ b u, h.get? b = some u → h'.get? b = some u) : Un fs ex H H h h' :=
  ⟨fun b ob q _ _ _ => k b ob q, fun b ob q _ _ _ => ⟨ob.slots, k b ob q⟩, fun _ _ _ n _ => n, fun b ob q _ => ⟨ob, k b ob q⟩, fun _ _ q => q, fun _ _ _ q => q, fun _ ps q => ⟨#[], by rw [q]; simp⟩⟩
theorem Un.refl : Un fs ex H H h h := Un.kept fun _ _ q => q
theorem Un.laid (k : ∀ b u, h.get? b = some u → h'.get? b = some u) (hp : h.objs.size ≤ a) (hn : H a = none) : Un fs ex H (upd H a o) h h' where
  keep := fun b u q _ _ _ => k b u q
  slot := fun b u q _ _ _ => ⟨u.slots, k b u q⟩
  free := fun b u q n _ => by rw [upd_ne (Nat.ne_of_lt (Nat.lt_of_lt_of_le (Heap.lt_size q) hp))]; exact n
  there := fun b u q _ => ⟨u, k b u q⟩
  tups := fun b xs q => by rw [upd_ne (ne_of_none q hn)]; exact q
  frzs := fun b u xs q => by rw [upd_ne (ne_of_none q hn)]; exact q
  tbls := fun b ps q => ⟨#[], by rw [upd_ne (ne_of_none q hn), q]; simp⟩
theorem Un.write (mu : Mut (H x)) (he : e = x ∨ H e = some (.own x)) (k : ∀ b u, b ≠ e → h.get? b = some u → h'.get? b = some u) (heo : ∃ u, h'.get? e = some u) : Un fs ex H (upd H x o) h h' := by
  have hx : ∀ b, H b = none → b ≠ x := fun b n z => by subst z; rw [n] at mu; exact mu
  have hb : ∀ b, H b = none → b ≠ e := fun b n z => by
    subst z
    rcases he with r | r
    · exact hx b n r
    · rw [n] at r; cases r
  have hm : ∀ b u, H b = some u → ¬ Mut (some u) → b ≠ x := fun b u q nm z => by subst z; rw [q] at mu; exact nm mu
  refine ⟨fun b u q n _ _ => k b u (hb b n) q, fun b u q n _ _ => ⟨u.slots, k b u (hb b n) q⟩, fun b u q n _ => by rw [upd_ne (hx b n)]; exact n, fun b u q _ => ?_,
    fun b xs q => by rw [upd_ne (hm b _ q fun z => z)]; exact q, fun b u xs q => by rw [upd_ne (hm b _ q fun z => z)]; exact q, fun b ps q => ⟨#[], by rw [upd_ne (hm b _ q fun z => z), q]; simp⟩⟩
  by_cases hbe : b = e
  · subst hbe; exact heo
  · exact ⟨u, k b u hbe q⟩
end

/-! ### the heap without what is tracked -/
def trk (h : Heap) (H : Hp) : List Addr := (List.range h.objs.size).filter fun a => (H a).isSome
def hidT (h : Heap) (H : Hp) : Heap := PySem.W.hideAll h (trk h H)
theorem hidT_size (h : Heap) (H : Hp) : (hidT h H).objs.size = h.objs.size := PySem.W.hideAll_size _ _
theorem hidT_get {h : Heap} {H : Hp} {b : Addr} {o : Obj} (e : h.get? b = some o) (n : H b = none) : (hidT h H).get? b = some o :=
  PySem.W.hideAll_get _ e fun hm => by
    have q : (H b).isSome = true := (List.mem_filter.mp hm).2
    rw [n] at q; simp at q
theorem of_hidT {h : Heap} {H : Hp} {b : Addr} {o : Obj} (e : (hidT h H).get? b = some o) : h.get? b = some o ∧ H b = none := by
  have e' : h.get? b = some o := PySem.W.of_hideAll (trk h H) e
  refine ⟨e', ?_⟩
  cases q : H b with
  | none => rfl
  | some x =>
    have hm : b ∈ trk h H := List.mem_filter.mpr ⟨List.mem_range.mpr (Heap.lt_size e'), by simp [q]⟩
    have z : (hidT h H).get? b = none := PySem.W.hideAll_none (trk h H) hm
    rw [z] at e; cases e

/-! ### OpenK's ledger, filled with every new object but one -/
end L2

namespace L2
open PySem PySem.Spec PyProof.Rows

/-- the module's facts, over the base: the heap at the law's entry without what is tracked there -/
structure Mod (K : PySem.W.Frag) (mg : Str → Option Value) (base : Heap) : Prop where
  kin : K.In base
  glob : base.Ns mainGlobals mg
  blt : ∃ mb, base.Ns builtinsNs mb ∧ ∀ x : Str, x ≠ "__name__" → mb x = bootBuiltins x
  nolimit : base.NoLimit

/-- the context: a def's body (or a comprehension's block) running. base: fixed through the whole law; s₀, H₀: the entry; outer: the frames whose slots others may change (a def's callers); stack: all frames that run;
   ex: iterators that were made ahead of the entry and are walked here (a comprehension's); fn: the names whose cells were made at the entry (a def: all; a comprehension's block: its own); calm: not within an except suite; pn: pins that every state bears; xe: what is wanted of an exception that leaves the code -/
structure Cx where
  prog : Program
  w : World
  K : PySem.W.Frag
  mg : Str → Option Value
  base : Heap
  A : Around
  N : List Str
  s₀ : Shared
  H₀ : Hp
  env : Env
  outer : List Env
  stack : List Env
  ex : List Addr
  fn : Str → Bool
  calm : Bool
  pn : List (Addr × Obj)
  xe : Value → Shared → Prop
/-- the callers' frames -/
def frs (l : List Env) : List Addr := l.filterMap (·.frame)
abbrev Cx.fs (X : Cx) : List Addr := frs X.outer

def Vis (sc : Scope) (x : Str) : Prop := sc.names.lookup x = some .local ∨ sc.names.lookup x = some .cell ∨ sc.names.lookup x = some .free
def Loc (sc : Scope) (x : Str) : Prop := sc.names.lookup x = some .local ∨ sc.names.lookup x = some .cell
def Look (env : Env) (h : Heap) (m : Str → Option Value) (x : Str) (u : Value) : Prop :=
  (env.kindOf x = some .local ∧ m x = some u) ∨ ((env.kindOf x = some .cell ∨ env.kindOf x = some .free) ∧ ∃ c, env.cells.lookup x = some c ∧ h.IsCell c (some u))

structure Cx.Ok (X : Cx) : Prop where
  mod : Mod X.K X.mg X.base
  kind : X.env.scope.kind = .function
  glob : X.env.globals = mainGlobals
  blt : X.env.builtins = builtinsNs
  above : X.s₀.heap.objs.size ≤ X.env.locals
  inj : ∀ x y c, X.env.cells.lookup x = some c → X.env.cells.lookup y = some c → x = y
  has : ∀ x, (X.env.kindOf x = some .cell ∨ X.env.kindOf x = some .free) → ∃ c, X.env.cells.lookup x = some c
  cab : ∀ x c, X.fn x = true → X.env.cells.lookup x = some c → X.s₀.heap.objs.size ≤ c
  hd : X.calm = true → X.A.handled = none
  frames : X.A.frames = some X.stack
  stk : X.stack = X.outer ∨ (X.stack = X.env :: X.outer ∧ X.env.frame = some X.env.locals)
  exf : ∀ b ∈ X.ex, b ≠ X.env.locals ∧ ∀ x c, X.env.cells.lookup x = some c → c ≠ b
  bs : ∀ b o, X.base.get? b = some o → X.s₀.heap.get? b = some o ∧ X.H₀ b = none
  bsz : X.base.objs.size ≤ X.s₀.heap.objs.size
  noex : ∀ b o, X.base.get? b = some o → b ∉ X.ex
  exfs : ∀ b ∈ X.ex, b ∉ X.fs
  funs : X.s₀.heap.FunFrames X.base X.outer
  frf : ∀ b ∈ X.fs, X.H₀ b = none

structure Inv (X : Cx) (pins : List (Addr × Obj)) (σ : List (Option V)) (H : Hp) (s : Shared) : Prop where
  ok : X.Ok
  os : s.os = X.s₀.os
  bare : AllBare s.gens
  base : Un X.fs X.ex X.H₀ H X.s₀.heap s.heap
  loc : ∃ m, s.heap.Ns X.env.locals m ∧ ∀ (i : Nat) (x : Str) (v : V), X.N[i]? = some x → σ[i]? = some (some v) → Vis X.env.scope x → ∃ u, RelV v u ∧ Look X.env s.heap m x u
  cell : ∀ x c, X.env.cells.lookup x = some c → ∃ v, s.heap.IsCell c v
  free : H X.env.locals = none
  freeC : ∀ x c, X.env.cells.lookup x = some c → H c = none
  pin : ∀ p ∈ X.pn ++ pins, s.heap.get? p.1 = some p.2 ∧ H p.1 = none ∧ p.1 ≠ X.env.locals ∧ p.1 ∉ X.fs ∧ ∀ v, p.2.data ≠ .cell v
  hok : HOk X.prog X.w H s.heap
  len : σ.length = X.N.length

section
variable {X : Cx} {pins : List (Addr × Obj)} {σ : List (Option V)} {H H' : Hp} {s : Shared} {h' : Heap}

theorem Cx.Ok.nofr (ok : X.Ok) {b : Addr} {o : Obj} (e : X.base.get? b = some o) : b ∉ X.fs := fun hb => by
  have := (ok.funs.mem hb).1
  rw [e] at this; cases this
theorem Inv.bs (I : Inv X pins σ H s) : ∀ b o, X.base.get? b = some o → s.heap.get? b = some o ∧ H b = none := fun b o e =>
  ⟨I.base.keep b o (I.ok.bs b o e).1 (I.ok.bs b o e).2 (I.ok.nofr e) (I.ok.noex b o e), I.base.free b o (I.ok.bs b o e).1 (I.ok.bs b o e).2 (I.ok.noex b o e)⟩
theorem Inv.bk (I : Inv X pins σ H s) : ∀ b o, X.base.get? b = some o → s.heap.get? b = some o := fun b o e => (I.bs b o e).1
theorem Inv.mod (I : Inv X pins σ H s) : Mod X.K X.mg X.base := I.ok.mod
theorem Inv.kIn (I : Inv X pins σ H s) : X.K.In s.heap := I.ok.mod.kin.keeps I.bk
theorem Inv.lt (I : Inv X pins σ H s) : X.env.locals < s.heap.objs.size := let ⟨_, hn, _⟩ := I.loc; hn.lt
theorem Inv.sz (I : Inv X pins σ H s) : X.s₀.heap.objs.size ≤ s.heap.objs.size := Nat.le_trans I.ok.above (Nat.le_of_lt I.lt)
theorem Inv.nofs (I : Inv X pins σ H s) {a : Addr} (h : s.heap.objs.size ≤ a) : a ∉ X.fs := fun hb => by
  obtain ⟨_, o, ho, _⟩ := I.ok.funs.mem hb
  exact absurd (Nat.lt_of_lt_of_le (Heap.lt_size ho) (Nat.le_trans I.sz h)) (Nat.lt_irrefl _)
theorem Inv.cne (I : Inv X pins σ H s) : ∀ x c, X.env.cells.lookup x = some c → c ≠ X.env.locals := fun x c e z => by
  obtain ⟨v, o, ho, hd⟩ := I.cell x c e
  obtain ⟨m, ⟨o', es, ep, ho', hd', _⟩, _⟩ := I.loc
  rw [z, ho'] at ho; cases ho; rw [hd'] at hd; cases hd
theorem Inv.funs (I : Inv X pins σ H s) : s.heap.FunFrames X.base X.outer := by
  have all : ∀ (l : List Env), (∀ b ∈ frs l, b ∈ X.fs) → X.s₀.heap.FunFrames X.base l → s.heap.FunFrames X.base l := by
    intro l
    induction l with
    | nil => intro _ _; trivial
    | cons env r ih =>
      intro hs hl
      obtain ⟨hk, ⟨L, o, hf, hn, ho, hd⟩, hr⟩ := hl
      have hL : L ∈ X.fs := hs L (by unfold frs; rw [List.filterMap_cons, hf]; exact List.mem_cons_self)
      obtain ⟨sl, e⟩ := I.base.slot L o ho (I.ok.frf L hL) hL fun z => I.ok.exfs L z hL
      exact ⟨hk, ⟨L, _, hf, hn, e, hd⟩, ih (fun b hb => hs b (by unfold frs; rw [List.filterMap_cons, hf]; exact List.mem_cons_of_mem _ hb)) hr⟩
  exact all X.outer (fun _ hb => hb) I.ok.funs

/-- the frames that run, for a call -/
theorem Inv.stack (I : Inv X pins σ H s) : s.heap.FunFrames X.base X.stack := by
  rcases I.ok.stk with e | ⟨e, hf⟩
  · rw [e]; exact I.funs
  · rw [e]
    obtain ⟨m, hn, _⟩ := I.loc
    refine .cons (by rw [I.ok.kind]; decide) hf hn ?_ I.funs
    exact Heap.get?_none_of_le (Nat.le_trans I.ok.bsz I.ok.above)
theorem Inv.stkSub (I : Inv X pins σ H s) : ∀ b ∈ frs X.stack, b ∈ X.env.locals :: X.fs := fun b hb => by
  rcases I.ok.stk with e | ⟨e, hf⟩
  · rw [e] at hb; exact List.mem_cons_of_mem _ hb
  · rw [e] at hb
    unfold frs at hb
    rw [List.filterMap_cons, hf] at hb
    exact hb
theorem Inv.stkFree (I : Inv X pins σ H s) : ∀ b ∈ frs X.stack, H b = none := fun b hb => by
  rcases List.mem_cons.mp (I.stkSub b hb) with e | hb
  · rw [e]; exact I.free
  · obtain ⟨_, o, ho, _⟩ := I.ok.funs.mem hb
    exact I.base.free b o ho (I.ok.frf b hb) fun z => I.ok.exfs b z hb

/-- THE STEP: the untracked objects but the frame and the records at ch are kept (the callers' frames up to slots), the frame's map is kept, the new abstract heap is held -/
theorem Inv.step {g' : Array GenState} {t' : Nat} {d' : Drawn} {ch : List Addr} (I : Inv X pins σ H s)
    (hch : ∀ b ∈ ch, (b ∈ X.ex ∨ X.s₀.heap.objs.size ≤ b) ∧ b ≠ X.env.locals ∧ (∀ x c, X.env.cells.lookup x = some c → c ≠ b) ∧ ∀ p ∈ X.pn ++ pins, p.1 ≠ b)
    (keep : ∀ b o, b ≠ X.env.locals → b ∉ X.fs → b ∉ ch → s.heap.get? b = some o → H b = none → h'.get? b = some o)
    (slot : ∀ b o, b ≠ X.env.locals → b ∈ X.fs → b ∉ ch → s.heap.get? b = some o → H b = none → ∃ sl, h'.get? b = some { o with slots := sl }) (free : ∀ b o, b ∉ ch → s.heap.get? b = some o → H b = none → H' b = none)
    (there : ∀ b o, b ∉ ch → s.heap.get? b = some o → ∃ o', h'.get? b = some o')
    (tups : ∀ b xs, H b = some (.tup xs) → H' b = some (.tup xs)) (frzs : ∀ b o u, H b = some (.frz o u) → H' b = some (.frz o u)) (tbls : ∀ b ps, H b = some (.tbl ps) → ∃ more, H' b = some (.tbl (ps ++ more)))
    (ns : ∀ m, s.heap.Ns X.env.locals m → h'.Ns X.env.locals m) (hok : HOk X.prog X.w H' h') (hg : AllBare g') :
    Inv X pins σ H' { s with heap := h', gens := g', drawn := d', toks := t' } := by
  have neL : ∀ b o, X.s₀.heap.get? b = some o → b ≠ X.env.locals := fun b o e => Nat.ne_of_lt (Nat.lt_of_lt_of_le (Heap.lt_size e) I.ok.above)
  have neC : ∀ b o, X.s₀.heap.get? b = some o → b ∉ X.ex → b ∉ ch := fun b o e hx hb => by
    rcases (hch b hb).1 with z | z
    · exact hx z
    · exact absurd (Nat.lt_of_lt_of_le (Heap.lt_size e) z) (Nat.lt_irrefl _)
  have cellK : ∀ x c, X.env.cells.lookup x = some c → ∀ v, s.heap.IsCell c v → h'.IsCell c v := fun x c e v ⟨o, ho, hd⟩ => by
    have nch : c ∉ ch := fun z => (hch c z).2.2.1 x c e rfl
    by_cases hc : c ∈ X.fs
    · obtain ⟨sl, q⟩ := slot c o (I.cne x c e) hc nch ho (I.freeC x c e)
      exact ⟨_, q, hd⟩
    · exact ⟨o, keep c o (I.cne x c e) hc nch ho (I.freeC x c e), hd⟩
  refine ⟨I.ok, I.os, hg, ⟨fun b o e n hb hx => ?_, fun b o e n hb hx => ?_, fun b o e n hx => ?_, fun b o e hx => ?_, fun b xs e => tups b xs (I.base.tups b xs e), fun b o xs e => frzs b o xs (I.base.frzs b o xs e), fun b ps e => ?_⟩, ?_, fun x c e => ?_, ?_, fun x c e => ?_, fun p hp => ?_, hok, I.len⟩
  · exact keep b o (neL b o e) hb (neC b o e hx) (I.base.keep b o e n hb hx) (I.base.free b o e n hx)
  · obtain ⟨sl, e1⟩ := I.base.slot b o e n hb hx
    obtain ⟨sl', e2⟩ := slot b _ (neL b o e) hb (neC b o e hx) e1 (I.base.free b o e n hx)
    exact ⟨sl', e2⟩
  · obtain ⟨o', e1⟩ := I.base.there b o e hx
    exact free b o' (neC b o e hx) e1 (I.base.free b o e n hx)
  · obtain ⟨o', e1⟩ := I.base.there b o e hx
    exact there b o' (neC b o e hx) e1
  · obtain ⟨m1, e1⟩ := I.base.tbls b ps e
    obtain ⟨m2, e2⟩ := tbls b _ e1
    exact ⟨m1 ++ m2, by rw [e2, Array.append_assoc]⟩
  · obtain ⟨m, hn, hl⟩ := I.loc
    refine ⟨m, ns m hn, fun i x v e1 e2 e3 => ?_⟩
    obtain ⟨u, r, l⟩ := hl i x v e1 e2 e3
    refine ⟨u, r, ?_⟩
    rcases l with l | ⟨k, c, e, z⟩
    · exact .inl l
    · exact .inr ⟨k, c, e, cellK x c e _ z⟩
  · obtain ⟨v, z⟩ := I.cell x c e
    exact ⟨v, cellK x c e v z⟩
  · obtain ⟨m, ⟨o, _, _, ho, _⟩, _⟩ := I.loc
    exact free _ o (fun z => (hch _ z).2.1 rfl) ho I.free
  · obtain ⟨v, o, ho, hd⟩ := I.cell x c e
    exact free c o (fun z => (hch c z).2.2.1 x c e rfl) ho (I.freeC x c e)
  · obtain ⟨e, n, ne, nf, d⟩ := I.pin p hp
    have nch : p.1 ∉ ch := fun z => (hch p.1 z).2.2.2 p hp rfl
    exact ⟨keep p.1 p.2 ne nf nch e n, free p.1 p.2 nch e n, ne, nf, d⟩
/-- .. where the frame's own object is kept too -/
theorem Inv.un {t' : Nat} (I : Inv X pins σ H s) (u : Un X.fs [] H H' s.heap h') (hok : HOk X.prog X.w H' h') : Inv X pins σ H' { s with heap := h', toks := t' } := by
  obtain ⟨m, ⟨o, es, ep, ho, r⟩, _⟩ := id I.loc
  obtain ⟨sl, hL⟩ := u.any ho I.free (by simp)
  exact I.step (g' := s.gens) (d' := s.drawn) (ch := []) (fun _ z => nomatch z) (fun b o _ hb _ e n => u.keep b o e n hb (by simp)) (fun b o _ hb _ e n => u.slot b o e n hb (by simp)) (fun b o _ e n => u.free b o e n (by simp)) (fun b o _ e => u.there b o e (by simp)) u.tups u.frzs u.tbls (fun m' hm => by
    obtain ⟨o', es', ep', ho', r'⟩ := hm
    rw [ho] at ho'; cases ho'
    exact ⟨_, es', ep', hL, r'⟩) hok I.bare
/-- behind a call (or a comprehension's block): the slots of this frame may have changed too, the records at ch may have turned -/
theorem Inv.call {g' : Array GenState} {t' : Nat} {d' : Drawn} {ch : List Addr} (I : Inv X pins σ H s) (u : Un (frs X.stack) ch H H' s.heap h') (hok : HOk X.prog X.w H' h') (hg : AllBare g')
    (hch : ∀ b ∈ ch, (b ∈ X.ex ∨ X.s₀.heap.objs.size ≤ b) ∧ b ≠ X.env.locals ∧ (∀ x c, X.env.cells.lookup x = some c → c ≠ b) ∧ ∀ p ∈ X.pn ++ pins, p.1 ≠ b) :
    Inv X pins σ H' { s with heap := h', gens := g', drawn := d', toks := t' } := by
  obtain ⟨m, ⟨o, es, ep, ho, r⟩, _⟩ := id I.loc
  obtain ⟨sl, hL⟩ := u.any ho I.free fun z => (hch _ z).2.1 rfl
  exact I.step (ch := ch) hch (fun b o hL hb hc e n => u.keep b o e n (fun z => (List.mem_cons.mp (I.stkSub b z)).elim hL hb) hc) (fun b o _ _ hc e n => u.any e n hc) (fun b o hc e n => u.free b o e n hc) (fun b o hc e => u.there b o e hc) u.tups u.frzs u.tbls (fun m' hm => by
    obtain ⟨o', es', ep', ho', r'⟩ := hm
    rw [ho] at ho'; cases ho'
    exact ⟨_, es', ep', hL, r'⟩) hok hg
/-- an untracked record of ours (an iterator) has turned -/
theorem Inv.turned {t' : Nat} {it : Addr} (I : Inv X pins σ H s) (k : ∀ b o, b ≠ it → s.heap.get? b = some o → h'.get? b = some o) (hn : H it = none) (hL : it ≠ X.env.locals)
    (h1 : it ∈ X.ex ∨ X.s₀.heap.objs.size ≤ it) (h2 : ∀ x c, X.env.cells.lookup x = some c → c ≠ it) (h3 : ∀ p ∈ X.pn ++ pins, p.1 ≠ it) : Inv X pins σ H { s with heap := h', toks := t' } := by
  have nit : ∀ b u, H b = some u → b ≠ it := fun b u e z => by rw [z, hn] at e; cases e
  refine I.step (g' := s.gens) (d' := s.drawn) (ch := [it]) (fun b hb => ?_) (fun b o _ _ hc e _ => k b o (fun z => hc (by simp [z])) e) (fun b o _ _ hc e _ => ⟨o.slots, k b o (fun z => hc (by simp [z])) e⟩) (fun _ _ _ _ n => n)
    (fun b o hc e => ⟨o, k b o (fun z => hc (by simp [z])) e⟩) (fun _ _ e => e) (fun _ _ _ e => e) (fun b ps e => ⟨#[], by rw [e]; simp⟩) (fun m hm => ?_) (fun b u e => ?_) I.bare
  · have e : b = it := by simpa using hb
    subst e
    exact ⟨h1, hL, h2, h3⟩
  · obtain ⟨o, es, ep, ho, r⟩ := hm
    exact ⟨o, es, ep, k _ o (Ne.symm hL) ho, r⟩
  · refine (I.hok b u e).stay (fun c v hc q => k c v ?_ q) (fun _ q => q) fun _ _ q => q
    rcases hc with z | z
    · rw [z]; exact nit b u e
    · exact nit c _ z
theorem Inv.tok (I : Inv X pins σ H s) (t : Nat) : Inv X pins σ H { s with toks := t } := I.un (h' := s.heap) (t' := t) Un.refl I.hok
/-- all objects kept -/
theorem Inv.kept {t' : Nat} (I : Inv X pins σ H s) (k : ∀ b u, s.heap.get? b = some u → h'.get? b = some u) : Inv X pins σ H { s with heap := h', toks := t' } := I.un (Un.kept k) (I.hok.kept k)
/-- a new object laid and tracked -/
theorem Inv.laid {a : Addr} {o : HO} {t' : Nat} (I : Inv X pins σ H s) (k : ∀ b u, s.heap.get? b = some u → h'.get? b = some u) (hp : s.heap.objs.size ≤ a) (new : ObjOk X.prog X.w (upd H a o) h' a o) :
    Inv X pins σ (upd H a o) { s with heap := h', toks := t' } := I.un (Un.laid k hp (I.hok.fresh hp)) (I.hok.laid k hp new)
/-- an object written -/
theorem Inv.write {x e : Addr} {o : HO} {t' : Nat} (I : Inv X pins σ H s) (mu : Mut (H x)) (he : e = x ∨ H e = some (.own x)) (k : ∀ b u, b ≠ e → s.heap.get? b = some u → h'.get? b = some u) (heo : ∃ u, h'.get? e = some u)
    (new : ObjOk X.prog X.w (upd H x o) h' x o) : Inv X pins σ (upd H x o) { s with heap := h', toks := t' } := I.un (Un.write mu he k heo) (I.hok.write mu he k heo new)
/-- forgetting slots, pins -/
theorem Inv.weak {σ' : List (Option V)} (I : Inv X pins σ H s) (hl : σ'.length = σ.length) (w : ∀ (i : Nat) v, σ'[i]? = some (some v) → σ[i]? = some (some v)) : Inv X pins σ' H s :=
  ⟨I.ok, I.os, I.bare, I.base, let ⟨m, hn, hl'⟩ := I.loc; ⟨m, hn, fun i x v e1 e2 e3 => hl' i x v e1 (w i v e2) e3⟩, I.cell, I.free, I.freeC, I.pin, I.hok, hl.trans I.len⟩
theorem Inv.pins_of {pins' : List (Addr × Obj)} (I : Inv X pins σ H s) (h : ∀ p ∈ pins', s.heap.get? p.1 = some p.2 ∧ H p.1 = none ∧ p.1 ≠ X.env.locals ∧ p.1 ∉ X.fs ∧ ∀ v, p.2.data ≠ .cell v) : Inv X pins' σ H s :=
  ⟨I.ok, I.os, I.bare, I.base, I.loc, I.cell, I.free, I.freeC, fun p hp => (List.mem_append.mp hp).elim (fun z => I.pin p (List.mem_append_left _ z)) (h p), I.hok, I.len⟩

theorem nodup_ix {N : List Str} (hN : N.Nodup) {i j : Nat} {x : Str} (a : N[i]? = some x) (b : N[j]? = some x) : i = j := by
  obtain ⟨h1, e1⟩ := List.getElem?_eq_some_iff.mp a
  obtain ⟨h2, e2⟩ := List.getElem?_eq_some_iff.mp b
  exact (List.getElem_inj hN).mp (e1.trans e2.symm)

/-- a name is stored; what changed -/
theorem store_ok2 {M : Model} {A : Around} {E : Value → Shared → Prop} {i : Nat} {x : Str} {v : V} {u : Value} {Q : Unit → Shared → Prop} (I : Inv X pins σ H s) (hN : X.N.Nodup) (hi : X.N[i]? = some x) (hx : Loc X.env.scope x) (r : RelV v u)
    (h : ∀ s', Inv X pins (σ.set i (some v)) H s' → (∃ a, Heap.SameBut a s.heap s'.heap ∧ (a = X.env.locals ∨ X.env.cells.lookup x = some a)) → Q () s') (hf : X.fn x = true ∨ X.env.scope.names.lookup x = some .local := by first | exact .inl rfl | exact .inr rfl | assumption) : wpAny M A (storeName X.env x u) Q E s := by
  obtain ⟨m, hn, hl⟩ := id I.loc
  have hcls : (X.env.scope.kind == .class || (X.env.scope.kind == .module && X.env.locals != X.env.globals)) = false := by rw [I.ok.kind]; rfl
  have hiσ : i < σ.length := by rw [I.len]; exact (List.getElem?_eq_some_iff.mp hi).1
  have cne := I.cne
  have tracked : ∀ {a : Addr} {h' : Heap}, (∃ o, s.heap.get? a = some o ∧ H a = none) → Heap.SameBut a s.heap h' → HOk X.prog X.w H h' := fun {a h'} ha hs b ob e => by
    obtain ⟨_, _, hfree⟩ := ha
    refine (I.hok b ob e).stay (fun c w' hc q => (hs.2 c ?_).trans q) (fun _ q => q) fun _ _ q => q
    rintro rfl
    rcases hc with rfl | hc
    · rw [hfree] at e; cases e
    · rw [hfree] at hc; cases hc
  rcases hx with hk | hk
  · refine wpAny_storeName_local hk hn (fun h' hn' hs => ?_) hcls
    obtain ⟨oL, _, _, hoL, _⟩ := id hn
    refine h _ ⟨I.ok, I.os, I.bare, ⟨fun b o e n hb hx => ?_, fun b o e n hb hx => ?_, I.base.free, fun b o e hx => ?_, I.base.tups, I.base.frzs, I.base.tbls⟩, ⟨_, hn', fun j y v' e1 e2 e3 => ?_⟩, fun y c e => ?_, I.free, I.freeC, fun p hp => ?_, tracked ⟨oL, hoL, I.free⟩ hs, by simpa using I.len⟩ ⟨_, hs, .inl rfl⟩
    · exact (hs.2 b (Nat.ne_of_lt (Nat.lt_of_lt_of_le (Heap.lt_size e) I.ok.above))).trans (I.base.keep b o e n hb hx)
    · obtain ⟨sl, e1⟩ := I.base.slot b o e n hb hx
      exact ⟨sl, (hs.2 b (Nat.ne_of_lt (Nat.lt_of_lt_of_le (Heap.lt_size e) I.ok.above))).trans e1⟩
    · obtain ⟨o', e1⟩ := I.base.there b o e hx
      exact ⟨o', (hs.2 b (Nat.ne_of_lt (Nat.lt_of_lt_of_le (Heap.lt_size e) I.ok.above))).trans e1⟩
    · by_cases hj : j = i
      · subst hj
        rw [hi] at e1; cases e1
        rw [List.getElem?_set_self hiσ] at e2
        cases e2
        exact ⟨u, r, .inl ⟨hk, by simp⟩⟩
      · rw [List.getElem?_set_ne (Ne.symm hj)] at e2
        obtain ⟨u', r', q⟩ := hl j y v' e1 e2 e3
        refine ⟨u', r', ?_⟩
        rcases q with ⟨k, e⟩ | ⟨k, c, e, z⟩
        · refine .inl ⟨k, ?_⟩
          have : y ≠ x := fun e => hj (nodup_ix hN e1 (e ▸ hi))
          simp [this, e]
        · exact .inr ⟨k, c, e, z.sameBut hs (cne y c e)⟩
    · obtain ⟨w', z⟩ := I.cell y c e
      exact ⟨w', z.sameBut hs (cne y c e)⟩
    · obtain ⟨e, n, ne, nf, d⟩ := I.pin p hp
      exact ⟨(hs.2 p.1 ne).trans e, n, ne, nf, d⟩
  · have hfn : X.fn x = true := by
      rcases hf with z | z
      · exact z
      · rw [z] at hk; cases hk
    obtain ⟨c, hc⟩ := I.ok.has x (.inl hk)
    obtain ⟨w', z⟩ := I.cell x c hc
    refine wpAny_storeName_cell I.ok.kind hk hc z (fun h' hc' hs => ?_)
    obtain ⟨oc, hoc, hocd⟩ := id z
    refine h { s with heap := h' } ⟨I.ok, I.os, I.bare, ⟨fun b o e n hb hx => ?_, fun b o e n hb hx => ?_, I.base.free, fun b o e hx => ?_, I.base.tups, I.base.frzs, I.base.tbls⟩, ⟨m, hn.sameBut hs (Ne.symm (cne x c hc)), fun j y v' e1 e2 e3 => ?_⟩, fun y c' e => ?_, I.free, I.freeC, fun p hp => ?_, tracked ⟨oc, hoc, I.freeC x c hc⟩ hs, by simpa using I.len⟩ ⟨c, hs, .inr hc⟩
    · exact (hs.2 b (Nat.ne_of_lt (Nat.lt_of_lt_of_le (Heap.lt_size e) (I.ok.cab x c hfn hc)))).trans (I.base.keep b o e n hb hx)
    · obtain ⟨sl, e1⟩ := I.base.slot b o e n hb hx
      exact ⟨sl, (hs.2 b (Nat.ne_of_lt (Nat.lt_of_lt_of_le (Heap.lt_size e) (I.ok.cab x c hfn hc)))).trans e1⟩
    · obtain ⟨o', e1⟩ := I.base.there b o e hx
      exact ⟨o', (hs.2 b (Nat.ne_of_lt (Nat.lt_of_lt_of_le (Heap.lt_size e) (I.ok.cab x c hfn hc)))).trans e1⟩
    · by_cases hj : j = i
      · subst hj
        rw [hi] at e1; cases e1
        rw [List.getElem?_set_self hiσ] at e2
        cases e2
        exact ⟨u, r, .inr ⟨.inl hk, c, hc, hc'⟩⟩
      · rw [List.getElem?_set_ne (Ne.symm hj)] at e2
        obtain ⟨u', r', q⟩ := hl j y v' e1 e2 e3
        refine ⟨u', r', ?_⟩
        rcases q with q | ⟨k, c', e, z'⟩
        · exact .inl q
        · refine .inr ⟨k, c', e, z'.sameBut hs ?_⟩
          rintro rfl
          exact hj (nodup_ix hN e1 (I.ok.inj _ _ _ e hc ▸ hi))
    · by_cases hcc : c' = c
      · subst hcc; exact ⟨_, hc'⟩
      · obtain ⟨w2, z2⟩ := I.cell y c' e
        exact ⟨w2, z2.sameBut hs hcc⟩
    · obtain ⟨e, n, ne, nf, d⟩ := I.pin p hp
      refine ⟨(hs.2 p.1 ?_).trans e, n, ne, nf, d⟩
      intro q
      rw [q, hoc] at e
      have q' : oc = p.2 := Option.some.inj e
      exact d w' (by rw [← q']; exact hocd)
theorem store_ok {M : Model} {A : Around} {E : Value → Shared → Prop} {i : Nat} {x : Str} {v : V} {u : Value} {Q : Unit → Shared → Prop} (I : Inv X pins σ H s) (hN : X.N.Nodup) (hi : X.N[i]? = some x) (hx : Loc X.env.scope x) (r : RelV v u)
    (h : ∀ s', Inv X pins (σ.set i (some v)) H s' → Q () s') (hf : X.fn x = true ∨ X.env.scope.names.lookup x = some .local := by first | exact .inl rfl | exact .inr rfl | assumption) : wpAny M A (storeName X.env x u) Q E s :=
  store_ok2 I hN hi hx r (fun s' I' _ => h s' I') hf
/-- behind a call or a block, the state as it is -/
theorem Inv.call' {s' : Shared} {ch : List Addr} (I : Inv X pins σ H s) (ho : s'.os = s.os) (u : Un (frs X.stack) ch H H' s.heap s'.heap) (hok : HOk X.prog X.w H' s'.heap) (hg : AllBare s'.gens)
    (hch : ∀ b ∈ ch, (b ∈ X.ex ∨ X.s₀.heap.objs.size ≤ b) ∧ b ≠ X.env.locals ∧ (∀ x c, X.env.cells.lookup x = some c → c ≠ b) ∧ ∀ p ∈ X.pn ++ pins, p.1 ≠ b) : Inv X pins σ H' s' := by
  obtain ⟨h', g', d', t', o'⟩ := s'
  have e : o' = s.os := ho
  subst e
  exact I.call (g' := g') (t' := t') (d' := d') u hok hg hch
end

/-! ### the judgements -/
/-- an exception: its class, its own dict's address (where it has one), the abstract heap behind it -/
abbrev XK := Value → Option Addr → Hp → Prop
abbrev St := List (Option V)
abbrev VK := V → Hp → Prop
/-- an expression's reading; a test's; an argument list's -/
abbrev TE := St → Hp → VK → Prop
abbrev TT := St → Hp → (Bool → Hp → Prop) → Prop
abbrev TA := St → Hp → (List V → Hp → Prop) → Prop
/-- what is wanted behind a statement -/
structure Ends where
  nx : St → Hp → Prop
  rt : VK
  bk : St → Hp → Prop := fun _ _ => False
  ct : St → Hp → Prop := fun _ _ => False
abbrev TS := Ends → St → Hp → Prop

def EP (X : Cx) (pins : List (Addr × Obj)) (σ : St) (Q : VK) (u : Value) (s' : Shared) : Prop := ∃ v H', Inv X pins σ H' s' ∧ RelV v u ∧ Q v H'
def TP (X : Cx) (pins : List (Addr × Obj)) (σ : St) (Q : Bool → Hp → Prop) (b : Bool) (s' : Shared) : Prop := ∃ H', Inv X pins σ H' s' ∧ Q b H'
def AP (X : Cx) (pins : List (Addr × Obj)) (σ : St) (Q : List V → Hp → Prop) (us : List Value) (s' : Shared) : Prop := ∃ vs H', Inv X pins σ H' s' ∧ Vals vs us ∧ Q vs H'
def SP (X : Cx) (pins : List (Addr × Obj)) (D : Ends) (f : Flow) (s' : Shared) : Prop :=
  match f with
  | .next => ∃ σ' H', Inv X pins σ' H' s' ∧ D.nx σ' H'
  | .brk => ∃ σ' H', Inv X pins σ' H' s' ∧ D.bk σ' H'
  | .cont => ∃ σ' H', Inv X pins σ' H' s' ∧ D.ct σ' H'
  | .ret u => ∃ v σ' H', Inv X pins σ' H' s' ∧ RelV v u ∧ D.rt v H'

def PE (X : Cx) (e : Expr) (t : TE) : Prop :=
  ∀ (pins : List (Addr × Obj)) (s : Shared) (σ : St) (H : Hp) (Q : VK), Inv X pins σ H s → t σ H Q → wpAny (model X.prog X.w) X.A (eval e X.env) (EP X pins σ Q) X.xe s
def PT (X : Cx) (e : Expr) (t : TT) : Prop :=
  ∀ (pins : List (Addr × Obj)) (s : Shared) (σ : St) (H : Hp) (Q : Bool → Hp → Prop), Inv X pins σ H s → t σ H Q → wpAny (model X.prog X.w) X.A (isTrue e X.env (eval e X.env)) (TP X pins σ Q) X.xe s
/-- a test whatever its 'whole' is (and, or) -/
def PW (X : Cx) (e : Expr) (t : TT) : Prop :=
  ∀ (whole : Sem Value) (pins : List (Addr × Obj)) (s : Shared) (σ : St) (H : Hp) (Q : Bool → Hp → Prop), Inv X pins σ H s → t σ H Q → wpAny (model X.prog X.w) X.A (isTrue e X.env whole) (TP X pins σ Q) X.xe s
theorem PW.pt {X : Cx} {e : Expr} {t : TT} (h : PW X e t) : PT X e t := h _
/-- an argument list (no star), from the left -/
def PA (X : Cx) (es : List Expr) (t : TA) : Prop :=
  ∀ (pos : Pos) (pins : List (Addr × Obj)) (s : Shared) (σ : St) (H : Hp) (Q : List V → Hp → Prop), Inv X pins σ H s → t σ H Q → wpAny (model X.prog X.w) X.A (spliced (backTo pos (starEach es X.env))) (AP X pins σ Q) X.xe s
def PS (X : Cx) (st : Stmt) (t : TS) : Prop :=
  ∀ (pins : List (Addr × Obj)) (s : Shared) (σ : St) (H : Hp) (D : Ends), Inv X pins σ H s → t D σ H → wpAny (model X.prog X.w) X.A (exec st X.env) (SP X pins D) X.xe s
def PSs (X : Cx) (st : List Stmt) (t : TS) : Prop :=
  ∀ (pins : List (Addr × Obj)) (s : Shared) (σ : St) (H : Hp) (D : Ends), Inv X pins σ H s → t D σ H → wpAny (model X.prog X.w) X.A (execs st X.env) (SP X pins D) X.xe s
/-- weaken the end -/
theorem thn {α : Type} {t : Sem α} {Q Q' : α → Shared → Prop} {M : Model} {A : Around} {E : Value → Shared → Prop} {s : Shared} (h : wpAny M A t Q E s) (hQ : ∀ a s, Q a s → Q' a s) : wpAny M A t Q' E s := wpAny_mono h hQ fun _ _ x => x
end L2

namespace L2
open PySem PySem.Spec PyProof.Rows
section
variable {X : Cx}

/-! ### names and constants -/
def tVar (i : Nat) : TE := fun σ H Q => ∃ v, σ[i]? = some (some v) ∧ Q v H
def tC (v : V) : TE := fun _ H Q => Q v H
theorem pe_var {i : Nat} {x : Str} {pos : Pos} (hN : X.N[i]? = some x) (hv : Vis X.env.scope x) (hd : (x == ("__debug__" : Str)) = false := by decide) (hcd : (x == ("__classdict__" : Str)) = false := by decide) : PE X (.Name x pos) (tVar i) := by
  intro pins s σ H Q I h
  obtain ⟨v, e, h⟩ := h
  obtain ⟨m, hn, hl⟩ := I.loc
  obtain ⟨u, r, l⟩ := hl i x v hN e hv
  have fin : EP X pins σ Q u s := ⟨v, H, I, r, h⟩
  rcases l with ⟨hk, hm⟩ | ⟨hk, c, hc, hcell⟩
  · exact wpAny_Name (wpAny_loadName_local I.ok.kind hk hn hm fin) hd
  · rcases hk with hk | hk
    · exact wpAny_Name (wpAny_loadName_cell I.ok.kind hk hc hcell fin) hd
    · exact wpAny_Name (wpAny_loadName_free I.ok.kind hk hc hcell fin hcd) hd
theorem pe_int {i j pos} : PE X (.Constant (.int i) j pos) (tC (.int i)) := fun _ _ _ H _ I h => wpAny_Constant_int ⟨.int i, H, I.tok _, ⟨_, rfl⟩, h⟩
theorem pe_bl {b j pos} : PE X (.Constant (.bool b) j pos) (tC (.bl b)) := fun _ _ _ H _ I h => Constant_bool ⟨.bl b, H, I, rfl, h⟩
theorem pe_non {j pos} : PE X (.Constant .none j pos) (tC .non) := fun _ _ _ H _ I h => Constant_none ⟨.non, H, I, rfl, h⟩
theorem pe_str {x j pos} : PE X (.Constant (.str x) j pos) (tC (.str x)) := fun _ _ _ H _ I h => Calls.Constant_str ⟨.str x, H, I.tok _, ⟨_, rfl⟩, h⟩

/-- a global name of the def -/
def Gl (X : Cx) (x : Str) : Prop := X.env.kindOf x = some .globalImplicit
theorem ld_glob {E : Value → Shared → Prop} {pins : List (Addr × Obj)} {s : Shared} {σ : St} {H : Hp} {x : Str} {u : Value} {pos : Pos} {Q : Value → Shared → Prop} (I : Inv X pins σ H s) (hg : Gl X x) (hm : X.mg x = some u) (h : Q u s)
    (hd : (x == ("__debug__" : Str)) = false := by decide) : wpAny (model X.prog X.w) X.A (eval (.Name x pos) X.env) Q E s :=
  Calls.Name_function_global I.ok.kind hg (Calls.loadGlobal_global (by rw [I.ok.glob]; exact I.mod.glob.keeps I.bk) hm h) hd
theorem ld_blt {E : Value → Shared → Prop} {pins : List (Addr × Obj)} {s : Shared} {σ : St} {H : Hp} {x : Str} {u : Value} {pos : Pos} {Q : Value → Shared → Prop} (I : Inv X pins σ H s) (hg : Gl X x) (hm : X.mg x = none) (hv : bootBuiltins x = some u) (h : Q u s)
    (hn : x ≠ "__name__" := by decide) (hd : (x == ("__debug__" : Str)) = false := by decide) : wpAny (model X.prog X.w) X.A (eval (.Name x pos) X.env) Q E s := by
  obtain ⟨mb, h1, h2⟩ := I.mod.blt
  exact Calls.Name_function_global I.ok.kind hg (Calls.loadGlobal_builtin (by rw [I.ok.glob]; exact I.mod.glob.keeps I.bk) hm (by rw [I.ok.blt]; exact h1.keeps I.bk) ((h2 x hn).trans hv) h) hd
theorem pe_bltn {x : Str} {v : V} {u : Value} {pos : Pos} (hg : Gl X x) (hm : X.mg x = none) (hv : bootBuiltins x = some u) (r : RelV v u) (hn : x ≠ "__name__" := by decide) (hd : (x == ("__debug__" : Str)) = false := by decide) : PE X (.Name x pos) (tC v) :=
  fun _ _ _ H _ I h => ld_blt I hg hm hv ⟨v, H, I, r, h⟩ hn hd

/-! ### arithmetic -/
variable {a b : Expr} {ta tb : TE} {pos : Pos}
/-! ### comparisons -/
def PC (X : Cx) (op : CmpOp) (a b : Expr) (t : TE) : Prop :=
  ∀ (pins : List (Addr × Obj)) (s : Shared) (σ : St) (H : Hp) (Q : VK), Inv X pins σ H s → t σ H Q →
    wpAny (model X.prog X.w) X.A (eval a X.env) (fun v s₁ => wpAny (model X.prog X.w) X.A (eval b X.env) (fun u s₂ => wpAny (model X.prog X.w) X.A (compareOp op v u) (EP X pins σ Q) X.xe s₂) X.xe s₁) X.xe s
theorem nobehind (b : Expr) {op : CmpOp} (h : op ≠ .In) (h2 : op ≠ .NotIn) : behindInMarks op b = false := by
  have e1 : (op == CmpOp.In) = false := by cases op <;> first | rfl | exact absurd rfl h
  have e2 : (op == CmpOp.NotIn) = false := by cases op <;> first | rfl | exact absurd rfl h2
  cases b <;> simp [behindInMarks, e1, e2]
def tNotN (ta : TE) : TE := fun σ H Q => ta σ H fun x H1 => Q (.bl (!decide (x = .non))) H1
theorem RelV.none_iff {x : V} {v : Value} (r : RelV x v) : (v == Value.none) = decide (x = .non) := by
  cases x with
  | non => cases r; rfl
  | bl _ => cases r; rfl
  | int _ => obtain ⟨t, rfl⟩ := r; rfl
  | str _ => obtain ⟨t, rfl⟩ := r; rfl
  | byt _ => obtain ⟨t, rfl⟩ := r; rfl
  | flt _ => obtain ⟨t, rfl⟩ := r; rfl
  | ref _ => cases r; rfl
  | ty _ => cases r; rfl
theorem pc_notN {j pos'} (ha : PE X a ta) : PC X .IsNot a (.Constant .none j pos') (tNotN ta) := by
  intro pins s σ H Q I h
  refine thn (ha pins s σ H _ I h) fun v s1 ⟨x, H1, I1, r1, q1⟩ => ?_
  exact Constant_none (isnot_none_gen ⟨.bl _, H1, I1, by rw [r1.none_iff]; rfl, q1⟩)
/-- a comparison as a value, as a test -/
def tB (t : TE) : TT := fun σ H Q => t σ H fun x H1 => ∃ c, x = .bl c ∧ Q c H1
theorem pt_cmp {op : CmpOp} {t : TE} (h : PC X op a b t) (h1 : behindInMarks op b = false := by first | exact nobehind _ (by decide) (by decide) | rfl) : PT X (.Compare a [op] [b] pos) (tB t) := by
  intro pins s σ H Q I hw
  refine wpAny_isTrue_Compare1 (thn (h pins s σ H _ I hw) fun v s1 h1 => thn h1 fun u s2 h2 => thn h2 fun c s3 ⟨x, H1, I1, r1, q1⟩ => ?_) h1
  obtain ⟨d, rfl, q⟩ := q1
  cases r1
  exact wpAny_truthy_bool ⟨H1, I1, q⟩
/-- an expression whose value is a bool, as a test -/
theorem pt_val {e : Expr} {t : TE} (h : PE X e t) (he : ∀ whole, isTrue e X.env whole = (do let v ← whole; standAt e.pos; holding [v] (truthy v)) := by intro _; rfl) : PT X e (tB t) := by
  intro pins s σ H Q I hw
  refine isTrue_plain (thn (h pins s σ H _ I hw) fun v s1 ⟨x, H1, I1, r1, q1⟩ => ?_) (he _)
  obtain ⟨d, rfl, q⟩ := q1
  cases r1
  exact wpAny_truthy_bool ⟨H1, I1, q⟩

/-! ### and, or, not -/
variable {tA tB' : TT} {rest : List Expr}
def tAnd (t u : TT) : TT := fun σ H Q => t σ H fun c H1 => if c = true then u σ H1 Q else Q false H1
def tOr (t u : TT) : TT := fun σ H Q => t σ H fun c H1 => if c = true then Q true H1 else u σ H1 Q
def tNot (t : TT) : TT := fun σ H Q => t σ H fun c H1 => Q (!c) H1
theorem pw_and1 (ha : PT X a tA) : PW X (.BoolOp .And [a] pos) tA := by
  intro wh pins s σ H Q I h
  refine isTrue_and (thn (ha pins s σ H Q I h) fun c s1 e => ?_)
  cases c with
  | true => exact isTrue_and_nil e
  | false => exact e
theorem pw_or1 (ha : PT X a tA) : PW X (.BoolOp .Or [a] pos) tA := by
  intro wh pins s σ H Q I h
  refine isTrue_or (thn (ha pins s σ H Q I h) fun c s1 e => ?_)
  cases c with
  | false => exact isTrue_or_nil e
  | true => exact e
theorem pw_and (ha : PT X a tA) (hb : PW X (.BoolOp .And (b :: rest) pos) tB') : PW X (.BoolOp .And (a :: b :: rest) pos) (tAnd tA tB') := by
  intro wh pins s σ H Q I h
  refine isTrue_and (thn (ha pins s σ H _ I h) fun c s1 ⟨H1, I1, q1⟩ => ?_)
  cases c with
  | true => exact hb wh pins s1 σ H1 Q I1 q1
  | false => exact ⟨H1, I1, q1⟩
theorem pw_or (ha : PT X a tA) (hb : PW X (.BoolOp .Or (b :: rest) pos) tB') : PW X (.BoolOp .Or (a :: b :: rest) pos) (tOr tA tB') := by
  intro wh pins s σ H Q I h
  refine isTrue_or (thn (ha pins s σ H _ I h) fun c s1 ⟨H1, I1, q1⟩ => ?_)
  cases c with
  | true => exact ⟨H1, I1, q1⟩
  | false => exact hb wh pins s1 σ H1 Q I1 q1
theorem pt_not (ha : PT X a tA) : PT X (.UnaryOp .Not a pos) (tNot tA) := by
  intro pins s σ H Q I h
  exact isTrue_not (ha pins s σ H (fun c H1 => Q (!c) H1) I h)
/-- a if t else b -/
def tIf (t : TT) (ta tb : TE) : TE := fun σ H Q => t σ H fun c H1 => if c = true then ta σ H1 Q else tb σ H1 Q
theorem pe_ifExp {c : Expr} (hc : PT X c tA) (ha : PE X a ta) (hb : PE X b tb) : PE X (.IfExp c a b pos) (tIf tA ta tb) := by
  intro pins s σ H Q I h
  refine wpAny_IfExp (thn (hc pins s σ H _ I h) fun d s1 ⟨H1, I1, q1⟩ => ?_)
  cases d with
  | true => exact ha pins s1 σ H1 Q I1 q1
  | false => exact hb pins s1 σ H1 Q I1 q1
end
end L2

namespace L2
open PySem PySem.Spec PyProof.Rows

/-! ### a list, a tuple that is read: tracked, frozen, or an object of the module -/
def SqL (K : PySem.W.Frag) (H : Hp) (a : Addr) (xs : List V) : Prop :=
  Rd H a (.lst xs) ∨
    ∃ (o : Obj) (its : Array Value) (n : Nat), K.lookup a = some o ∧ o.cls = .type "list" ∧ o.dict = none ∧ o.data = .seq its n ∧ its.size ≤ sizeLine ∧ Vals xs its.toList
def SqT (K : PySem.W.Frag) (H : Hp) (a : Addr) (xs : List V) : Prop :=
  Rd H a (.tup xs) ∨
    ∃ (o : Obj) (its : Array Value) (n : Nat), K.lookup a = some o ∧ o.cls = .type "tuple" ∧ o.data = .seq its n ∧ its.size ≤ sizeLine ∧ Vals xs its.toList
def absV : Value → Option V
  | .none => some .non
  | .bool b => some (.bl b)
  | .int i _ => some (.int i)
  | .str x _ => some (.str x)
  | .bytes b _ => some (.byt b)
  | .float b _ => some (.flt b)
  | .ref a => some (.ref a)
  | .type n => some (.ty n)
  | _ => none
theorem RelV.abs {x : V} {u : Value} (r : RelV x u) : absV u = some x := by
  cases x with
  | non => cases r; rfl
  | bl _ => cases r; rfl
  | int _ => obtain ⟨t, rfl⟩ := r; rfl
  | str _ => obtain ⟨t, rfl⟩ := r; rfl
  | byt _ => obtain ⟨t, rfl⟩ := r; rfl
  | flt _ => obtain ⟨t, rfl⟩ := r; rfl
  | ref _ => cases r; rfl
  | ty _ => cases r; rfl
theorem RelV.inj {x y : V} {u : Value} (r : RelV x u) (q : RelV y u) : x = y := Option.some.inj (r.abs.symm.trans q.abs)
theorem Vals.inj : ∀ {xs ys : List V} {us : List Value}, Vals xs us → Vals ys us → xs = ys
  | _, _, _, .nil, .nil => rfl
  | _, _, _, .cons r t, .cons r' t' => by rw [r.inj r', Vals.inj t t']
section
variable {X : Cx} {pins : List (Addr × Obj)} {σ : St} {H : Hp} {s : Shared} {a : Addr} {xs ys : List V}
theorem SqT.of {K : PySem.W.Frag} (h : H a = some (.tup xs)) : SqT K H a xs := .inl (.inl h)
theorem Inv.list (I : Inv X pins σ H s) (h : SqL X.K H a xs) : ∃ its : List Value, Vals xs its ∧ PlainL s.heap a its.toArray ∧ xs.length ≤ sizeLine := by
  rcases h with h | ⟨o, its, n, hk, hc, hd, hs, hz, r⟩
  · obtain ⟨z, its, n, r, e⟩ := h.ok I.hok
    exact ⟨its, r, ⟨_, n, e, rfl, rfl, rfl⟩, z⟩
  · refine ⟨its.toList, r, ⟨o, n, I.kIn a o hk, hc, hd, by simpa using hs⟩, ?_⟩
    have e := r.length
    simp only [Array.length_toList] at e
    omega
theorem Inv.tuple (I : Inv X pins σ H s) (h : SqT X.K H a xs) : ∃ its : List Value, Vals xs its ∧ IsTup s.heap a its.toArray ∧ xs.length ≤ sizeLine := by
  rcases h with h | ⟨o, its, n, hk, hc, hs, hz, r⟩
  · obtain ⟨z, its, r, p⟩ := h.ok I.hok
    exact ⟨its, r, p.tup, z⟩
  · refine ⟨its.toList, r, ⟨o, I.kIn a o hk, hc, n, by simpa using hs⟩, ?_⟩
    have e := r.length
    simp only [Array.length_toList] at e
    omega
theorem Inv.list_inj (I : Inv X pins σ H s) (h : SqL X.K H a xs) (h' : SqL X.K H a ys) : xs = ys := by
  obtain ⟨its, r, ⟨o, n, e, _, _, d⟩, _⟩ := I.list h
  obtain ⟨its', r', ⟨o', n', e', _, _, d'⟩, _⟩ := I.list h'
  rw [e] at e'; cases e'
  rw [d] at d'
  injection d' with d1 _
  have : its = its' := by simpa using congrArg Array.toList d1
  subst this
  exact r.inj r'
theorem Inv.tuple_inj (I : Inv X pins σ H s) (h : SqT X.K H a xs) (h' : SqT X.K H a ys) : xs = ys := by
  obtain ⟨its, r, ⟨o, e, _, n, d⟩, _⟩ := I.tuple h
  obtain ⟨its', r', ⟨o', e', _, n', d'⟩, _⟩ := I.tuple h'
  rw [e] at e'; cases e'
  rw [d] at d'
  injection d' with d1 _
  have : its = its' := by simpa using congrArg Array.toList d1
  subst this
  exact r.inj r'
end

/-! ### another wish about exceptions -/
abbrev Cx.wish (X : Cx) (E : Value → Shared → Prop) : Cx := { X with xe := E }
/-- no exception leaves -/
abbrev Cx.nox (X : Cx) : Cx := X.wish fun _ _ => False
theorem Cx.Ok.wish {X : Cx} (ok : X.Ok) (E : Value → Shared → Prop) : (X.wish E).Ok :=
  ⟨ok.mod, ok.kind, ok.glob, ok.blt, ok.above, ok.inj, ok.has, ok.cab, ok.hd, ok.frames, ok.stk, ok.exf, ok.bs, ok.bsz, ok.noex, ok.exfs, ok.funs, ok.frf⟩
theorem Cx.Ok.unwish {X : Cx} {E : Value → Shared → Prop} (ok : (X.wish E).Ok) : X.Ok :=
  ⟨ok.mod, ok.kind, ok.glob, ok.blt, ok.above, ok.inj, ok.has, ok.cab, ok.hd, ok.frames, ok.stk, ok.exf, ok.bs, ok.bsz, ok.noex, ok.exfs, ok.funs, ok.frf⟩
section
variable {X : Cx} {pins : List (Addr × Obj)} {σ : St} {H : Hp} {s : Shared} {E : Value → Shared → Prop}
theorem Inv.wish (I : Inv X pins σ H s) (E : Value → Shared → Prop) : Inv (X.wish E) pins σ H s := ⟨I.ok.wish E, I.os, I.bare, I.base, I.loc, I.cell, I.free, I.freeC, I.pin, I.hok, I.len⟩
theorem Inv.unwish (I : Inv (X.wish E) pins σ H s) : Inv X pins σ H s := ⟨I.ok.unwish, I.os, I.bare, I.base, I.loc, I.cell, I.free, I.freeC, I.pin, I.hok, I.len⟩
theorem SP.unwish {D : Ends} {f : Flow} {s' : Shared} (h : SP (X.wish E) pins D f s') : SP X pins D f s' := by
  cases f with
  | next => obtain ⟨σ', H', I, q⟩ := h; exact ⟨σ', H', I.unwish, q⟩
  | brk => obtain ⟨σ', H', I, q⟩ := h; exact ⟨σ', H', I.unwish, q⟩
  | cont => obtain ⟨σ', H', I, q⟩ := h; exact ⟨σ', H', I.unwish, q⟩
  | ret u => obtain ⟨v, σ', H', I, r, q⟩ := h; exact ⟨v, σ', H', I.unwish, r, q⟩
theorem PSs.nox {st : List Stmt} {t : TS} (h : PSs X.nox st t) : PSs X st t := fun pins s σ H D I hw =>
  wpAny_mono (h pins s σ H D (I.wish _) hw) (fun _ _ q => q.unwish) fun _ _ z => False.elim z
end

/-! ### blocks and small statements -/
section
variable {X : Cx} {st : Stmt} {rest : List Stmt} {t u : TS} {e : Expr} {te : TE} {pos : Pos}
def tNext : TS := fun D σ H => D.nx σ H
def tSeq (t u : TS) : TS := fun D σ H => t { D with nx := u D } σ H
theorem pss_nil : PSs X [] tNext := fun _ _ σ H _ I h => wpAny_execs_nil ⟨σ, H, I, h⟩
theorem pss_cons (h1 : PS X st t) (h2 : PSs X rest u) : PSs X (st :: rest) (tSeq t u) := by
  intro pins s σ H D I h
  refine wpAny_execs_cons (thn (h1 pins s σ H { D with nx := u D } I h) fun f s1 q => ?_)
  cases f with
  | next =>
    obtain ⟨σ', H', I', q⟩ := q
    exact h2 pins s1 σ' H' D I' q
  | ret v => exact q
  | brk => exact q
  | cont => exact q
theorem pss_one (h1 : PS X st t) : PSs X [st] t := by
  intro pins s σ H D I h
  refine wpAny_execs_cons (thn (h1 pins s σ H D I h) fun f s1 q => ?_)
  cases f with
  | next => exact wpAny_execs_nil q
  | ret v => exact q
  | brk => exact q
  | cont => exact q
/-- in a def's body nothing is shown -/
theorem Inv.quiet {pins : List (Addr × Obj)} {σ : St} {H : Hp} {s : Shared} (I : Inv X pins σ H s) : interactive X.env = false := by simp [interactive, I.ok.kind]
/-- an expression whose value is dropped -/
def tDrop (te : TE) : TS := fun D σ H => te σ H fun _ H1 => D.nx σ H1
theorem ps_expr (he : PE X e te) (hs : swapsWith e none pos.line X.env = pure false := by rfl) : PS X (.Expr e pos) (tDrop te) := by
  intro pins s σ H D I h
  exact wpAny_Expr_any (thn (he pins s σ H _ I h) fun v s1 ⟨x, H1, I1, r1, q1⟩ => ⟨σ, H1, I1, q1⟩) I.quiet hs
def tRet (te : TE) : TS := fun D σ H => te σ H D.rt
theorem ps_ret (he : PE X e te) : PS X (.Return (some e) pos) (tRet te) := by
  intro pins s σ H D I h
  exact wpAny_Return_some (thn (he pins s σ H _ I h) fun v s1 ⟨x, H1, I1, r1, q1⟩ => ⟨x, σ, H1, I1, r1, q1⟩)
def tIfS (c : TT) (t u : TS) : TS := fun D σ H => c σ H fun b H1 => if b = true then t D σ H1 else u D σ H1
theorem ps_if {c : Expr} {a b : List Stmt} {tc : TT} (hc : PT X c tc) (ha : PSs X a t) (hb : PSs X b u) : PS X (.If c a b pos) (tIfS tc t u) := by
  intro pins s σ H D I h
  refine wpAny_If (thn (hc pins s σ H _ I h) fun d s1 ⟨H1, I1, q1⟩ => ?_)
  cases d with
  | true => exact ha pins s1 σ H1 D I1 q1
  | false => exact hb pins s1 σ H1 D I1 q1
end

/-! ### targets -/
abbrev TG := V → St → Hp → (St → Hp → Prop) → Prop
abbrev TGs := List V → St → Hp → (St → Hp → Prop) → Prop
def PG (X : Cx) (target : Expr) (t : TG) : Prop :=
  ∀ (pins : List (Addr × Obj)) (s : Shared) (σ : St) (H : Hp) (v : V) (u : Value) (Q : St → Hp → Prop), Inv X pins σ H s → RelV v u → t v σ H Q →
    wpAny (model X.prog X.w) X.A (assign target X.env u) (fun _ s' => ∃ σ' H', Inv X pins σ' H' s' ∧ Q σ' H') X.xe s
/-- several targets, one after another -/
def PGs (X : Cx) (ts : List Expr) (t : TGs) : Prop :=
  ∀ (pins : List (Addr × Obj)) (s : Shared) (σ : St) (H : Hp) (vs : List V) (us : List Value) (Q : St → Hp → Prop), Inv X pins σ H s → Vals vs us → t vs σ H Q →
    wpAny (model X.prog X.w) X.A (assignInOrder ((assignEach ts X.env).map (·.2)) us) (fun _ s' => ∃ σ' H', Inv X pins σ' H' s' ∧ Q σ' H') X.xe s
/-- o[i] = v, by values -/
abbrev TSet := V → V → V → Hp → (Hp → Prop) → Prop
def PSet (X : Cx) (t : TSet) : Prop :=
  ∀ (pins : List (Addr × Obj)) (s : Shared) (σ : St) (H : Hp) (o i v : V) (ov iv u : Value) (Q : Hp → Prop), Inv X pins σ H s → RelV o ov → RelV i iv → RelV v u → t o i v H Q →
    wpAny (model X.prog X.w) X.A (setItem ov iv u) (fun _ s' => ∃ H', Inv X pins σ H' s' ∧ Q H') X.xe s
section
variable {X : Cx} {pos : Pos}
def gName (i : Nat) : TG := fun v σ H Q => Q (σ.set i (some v)) H
theorem pg_name {i : Nat} {x : Str} (hN : X.N.Nodup) (hi : X.N[i]? = some x) (hx : Loc X.env.scope x) (hf : X.fn x = true ∨ X.env.scope.names.lookup x = some .local := by first | exact .inl rfl | exact .inr rfl | assumption) : PG X (.Name x pos) (gName i) := by
  intro pins s σ H v u Q I r h
  exact wpAny_assign_Name (store_ok I hN hi hx r (fun s' I' => ⟨_, H, I', h⟩) hf)
def gNil : TGs := fun vs σ H Q => vs = [] ∧ Q σ H
def gCons (t : TG) (u : TGs) : TGs := fun vs σ H Q => ∃ v r, vs = v :: r ∧ t v σ H fun σ' H' => u r σ' H' Q
theorem pgs_nil : PGs X [] gNil := by
  intro pins s σ H vs us Q I r h
  obtain ⟨e, h⟩ := h
  subst e
  cases r
  exact assignInOrder_nil ⟨σ, H, I, h⟩
theorem pgs_cons {e : Expr} {es : List Expr} {t : TG} {u : TGs} (h1 : PG X e t) (h2 : PGs X es u)
    (hs : (assignEach (e :: es) X.env).map (·.2) = assign e X.env :: (assignEach es X.env).map (·.2) := by rfl) : PGs X (e :: es) (gCons t u) := by
  intro pins s σ H vs us Q I r h
  obtain ⟨v, vr, e1, h⟩ := h
  subst e1
  cases r with
  | cons r rr =>
    rw [hs]
    refine assignInOrder_cons (thn (h1 pins s σ H _ _ _ I r h) fun _ s1 ⟨σ1, H1, I1, q1⟩ => ?_)
    exact h2 pins s1 σ1 H1 _ _ Q I1 rr q1
/-- (a, b, ..) = a tuple of that length -/
def gTup (K : PySem.W.Frag) (n : Nat) (t : TGs) : TG := fun v σ H Q => ∃ a xs, v = .ref a ∧ SqT K H a xs ∧ xs.length = n ∧ t xs σ H Q
theorem pg_tup {es : List Expr} {k : Nat} {t : TGs} {n : Nat} (hc : X.calm = true) (h : PGs X es t)
    (hn : (assignEach es X.env).length = n := by rfl) (hst : (assignEach es X.env).findIdx? (·.1) = none := by rfl) : PG X (.Tuple es k pos) (gTup X.K n t) := by
  intro pins s σ H v u Q I r hw
  obtain ⟨a, xs, e1, hq, hl, hw⟩ := hw
  subst e1
  cases r
  obtain ⟨its, rv, ht, hz⟩ := I.tuple hq
  refine assign_Tuple_tuple (I.ok.hd hc) ht (by simp [hn, ← hl, rv.length]) hst fun h' hx => ?_
  have I1 : Inv X pins σ H { s with heap := h' } := I.kept (t' := s.toks) fun b o e => hx b o (Nat.ne_of_lt (Heap.lt_size e)) e
  exact h pins _ σ H xs _ Q I1 (by simpa using rv) hw
/-- o[i] = .. -/
def gSub (to ti : TE) (t : TSet) : TG := fun v σ H Q => to σ H fun o H1 => ti σ H1 fun i H2 => t o i v H2 fun H3 => Q σ H3
theorem pg_sub {o i : Expr} {to ti : TE} {t : TSet} (ho : PE X o to) (hi : PE X i ti) (hs : PSet X t)
    (ha : ∀ v, assign (.Subscript o i pos) X.env v = (do
      let ov ← holding [v] (eval o X.env)
      let iv ← holding [v, ov] (eval i X.env)
      standAt pos
      holding [v, ov, iv] (setItem ov iv v)
      release [v, ov, iv] []) := by intro _; rfl) : PG X (.Subscript o i pos) (gSub to ti t) := by
  intro pins s σ H v u Q I r h
  rw [ha]
  refine wpAny_bind (wpAny_holding (thn (ho pins s σ H _ I h) fun ov s1 ⟨x, H1, I1, r1, q1⟩ => ?_))
  refine wpAny_bind (wpAny_holding (thn (hi pins s1 σ H1 _ I1 q1) fun iv s2 ⟨y, H2, I2, r2, q2⟩ => ?_))
  refine wpAny_bind (wpAny_standAt (wpAny_bind (wpAny_holding (thn (hs pins s2 σ H2 x y v ov iv u _ I2 r1 r2 r q2) fun _ s3 ⟨H3, I3, q3⟩ => ?_))))
  exact wpAny_release ⟨σ, H3, I3, q3⟩
/-- target = value -/
def tAsg (te : TE) (g : TG) : TS := fun D σ H => te σ H fun x H1 => g x σ H1 D.nx
theorem ps_asg {tg e : Expr} {te : TE} {g : TG} (he : PE X e te) (hg : PG X tg g) (hs : swapsWithSole [tg] e pos.line X.env = pure false := by rfl) (hw : swappedStores [tg] e X.env = pure none := by rfl)
    (h1 : (assignEach [tg] X.env).map (·.2) = [assign tg X.env] := by rfl) : PS X (.Assign [tg] e pos) (tAsg te g) := by
  intro pins s σ H D I h
  refine wpAny_Assign_stores (thn (he pins s σ H _ I h) fun v s1 ⟨x, H1, I1, r1, q1⟩ => ?_) hs hw
  rw [h1]
  exact thn (hg pins s1 σ H1 x v _ I1 r1 q1) fun _ s2 q => q
/-- name = value -/
theorem ps_set {i : Nat} {x : Str} {e : Expr} {te : TE} {pos' : Pos} (hN : X.N.Nodup) (hi : X.N[i]? = some x) (hx : Loc X.env.scope x) (he : PE X e te) (hs : swapsWith e (some (.Name x pos')) pos.line X.env = pure false := by rfl) (hf : X.fn x = true ∨ X.env.scope.names.lookup x = some .local := by first | exact .inl rfl | exact .inr rfl | assumption) :
    PS X (.Assign [.Name x pos'] e pos) (tAsg te (gName i)) := by
  intro pins s σ H D I h
  refine wpAny_Assign_Name (thn (he pins s σ H _ I h) fun v s1 ⟨y, H1, I1, r1, q1⟩ => ?_) hs
  exact store_ok I1 hN hi hx r1 (fun s2 I2 => ⟨_, H1, I2, q1⟩) hf
end

/-! ### while -/
section
variable {X : Cx} {pos : Pos}
/-- the invariant W with its measure -/
def tWhile (c : TT) (tb : TS) : TS := fun D σ H => ∃ W : Nat → St → Hp → Prop, (∃ m, W m σ H) ∧ ∀ m σ H, W m σ H →
  c σ H fun b H1 => if b = true then ∃ N : St → Hp → Prop, (∀ σ' H', N σ' H' → ∃ m', m' < m ∧ W m' σ' H') ∧ tb { D with nx := N, ct := N, bk := D.nx } σ H1 else D.nx σ H1
theorem ps_while {c : Expr} {body : List Stmt} {tc : TT} {tb : TS} (hp : PassesOwn (model X.prog X.w) X.A X.env X.xe) (hc : PT X c tc) (hb : PSs X body tb) : PS X (.While c body [] pos) (tWhile tc tb) := by
  intro pins s σ H D I h
  obtain ⟨W, ⟨m0, w0⟩, turn⟩ := h
  refine wpAny_While (codeAny_whileLoop (fun n s' => ∃ σ' H', Inv X pins σ' H' s' ∧ W n σ' H') ?_ m0 ⟨σ, H, I, w0⟩)
  rintro n s1 ⟨σ1, H1, I1, w1⟩
  refine wpAny_passesOwn hp (thn (hc pins s1 σ1 H1 _ I1 (turn n σ1 H1 w1)) fun b s2 ⟨H2, I2, q2⟩ => ?_)
  cases b with
  | true =>
    obtain ⟨N, hN, q2⟩ := q2
    rw [if_pos rfl]
    refine wpAny_passesOwn hp (thn (hb pins s2 σ1 H2 _ I2 q2) fun f s3 q3 => ?_)
    cases f with
    | next =>
      obtain ⟨σ3, H3, I3, n3⟩ := q3
      obtain ⟨m', hm, w3⟩ := hN σ3 H3 n3
      exact ⟨m', hm, σ3, H3, I3, w3⟩
    | cont =>
      obtain ⟨σ3, H3, I3, n3⟩ := q3
      obtain ⟨m', hm, w3⟩ := hN σ3 H3 n3
      exact ⟨m', hm, σ3, H3, I3, w3⟩
    | brk => exact q3
    | ret v => exact q3
  | false =>
    rw [if_neg Bool.false_ne_true]
    exact wpAny_execs_nil ⟨σ1, H2, I2, q2⟩
end

/-! ### what a loop or a comprehension walks -/
/-- at turn i: it yields x (the heap may grow), or it stops -/
structure It where
  go : Nat → Hp → Prop
  yld : Nat → Hp → V → Hp → Prop
  stop : Nat → Hp → Prop
/-- the iterator's own objects may turn: they are not the frame's, not pinned, younger than the entry (or a comprehension's own) -/
def FpOk (X : Cx) (pins : List (Addr × Obj)) (H : Hp) (b : Addr) : Prop :=
  H b = none ∧ b ≠ X.env.locals ∧ b ∉ X.fs ∧ (b ∈ X.ex ∨ X.s₀.heap.objs.size ≤ b) ∧ (∀ x c, X.env.cells.lookup x = some c → c ≠ b) ∧ ∀ p ∈ X.pn ++ pins, p.1 ≠ b
theorem Inv.fpOk {X : Cx} {pins : List (Addr × Obj)} {σ : St} {H H' : Hp} {s : Shared} {b : Addr} (I : Inv X pins σ H s) (hb : s.heap.objs.size ≤ b) (hn : H' b = none) : FpOk X pins H' b := by
  refine ⟨hn, Nat.ne_of_gt (Nat.lt_of_lt_of_le I.lt hb), I.nofs hb, .inr (Nat.le_trans I.sz hb), fun x c e z => ?_, fun p hp z => ?_⟩
  · obtain ⟨v, q⟩ := I.cell x c e
    exact absurd (Nat.lt_of_lt_of_le q.lt (by rw [z]; exact hb)) (Nat.lt_irrefl _)
  · exact absurd (Nat.lt_of_lt_of_le (Heap.lt_size (I.pin p hp).1) (by rw [z]; exact hb)) (Nat.lt_irrefl _)
structure Turn (P : Program) (w : World) (K : PySem.W.Frag) (tg : Expr) (J : It) (fp : List Addr) (it : Addr) (tn : Nat → Heap → Prop) : Prop where
  mem : it ∈ fp
  obj : ∀ i h, tn i h → ∀ b ∈ fp, ∃ o, h.get? b = some o ∧ ∀ v, o.data ≠ .cell v
  keep : ∀ i h h', tn i h → (∀ b ∈ fp, ∀ o, h.get? b = some o → h'.get? b = some o) → tn i h'
  item : ∀ (X : Cx), X.prog = P → X.w = w → X.K = K → X.calm = true → ∀ (i : Nat) (pins : List (Addr × Obj)) (s : Shared) (σ : St) (H : Hp) (E : Value → Shared → Prop), Inv X pins σ H s → (∀ b ∈ fp, FpOk X pins H b) → tn i s.heap → J.go i H →
    wpAny (model P w) X.A (pyNext (.ref it)) (fun r s1 => ∃ u, r = some u ∧
      wpAny (model P w) X.A (letOwnedTupleGo tg (.ref it) u) (fun _ s2 => ∃ x H', Inv X pins σ H' s2 ∧ RelV x u ∧ J.yld i H x H' ∧ tn (i + 1) s2.heap ∧ ∀ b ∈ fp, H' b = none) E s1) E s
  done : ∀ (X : Cx), X.prog = P → X.w = w → X.K = K → X.calm = true → ∀ (i : Nat) (pins : List (Addr × Obj)) (s : Shared) (σ : St) (H : Hp) (E : Value → Shared → Prop), Inv X pins σ H s → (∀ b ∈ fp, FpOk X pins H b) → tn i s.heap → J.stop i H →
    wpAny (model P w) X.A (pyNext (.ref it)) (fun r s1 => r = none ∧ Inv X pins σ H s1) E s
  self : ∀ (A : Around) (i : Nat) (s : Shared) (Q : Value → Shared → Prop) (E : Value → Shared → Prop), tn i s.heap → Q (.ref it) s → wpAny (model P w) A (pyIter (.ref it)) Q E s
abbrev TI := St → Hp → (It → Hp → Prop) → Prop
/-- an iterator has come -/
def PIE (X : Cx) (pins : List (Addr × Obj)) (σ : St) (tg : Expr) (R : It → Hp → Prop) (itv : Value) (s2 : Shared) : Prop :=
  ∃ (it : Addr) (fp : List Addr) (tn : Nat → Heap → Prop) (J : It) (H' : Hp), itv = .ref it ∧ Inv X pins σ H' s2 ∧ Turn X.prog X.w X.K tg J fp it tn ∧ tn 0 s2.heap ∧ (∀ b ∈ fp, FpOk X pins H' b) ∧ R J H'
def PI (X : Cx) (tg iter : Expr) (wi : TI) : Prop :=
  ∀ (pins : List (Addr × Obj)) (s : Shared) (σ : St) (H : Hp) (R : It → Hp → Prop), Inv X pins σ H s → wi σ H R →
    wpAny (model X.prog X.w) X.A (eval iter X.env) (fun v s1 => wpAny (model X.prog X.w) X.A (pyIter v) (PIE X pins σ tg R) X.xe s1) X.xe s

/-- the step ahead of the store is nothing for an iterator that keeps no tuple -/
theorem go_of {M : Model} {A : Around} {E : Value → Shared → Prop} {s : Shared} {tg : Expr} {it : Addr} {u : Value} {o : Obj} {n : String} {vs : Array Value} {Q : Unit → Shared → Prop} (ho : s.heap.get? it = some o) (hc : o.cls = .type n) (hd : o.data = .fields vs)
    (hn : ["enumerate", "zip", "dict_itemiterator", "dict_reverseitemiterator", "odict_iterator", "itertools.zip_longest", "itertools.pairwise"].contains n = false) (hQ : Q () s) : wpAny M A (letOwnedTupleGo tg (.ref it) u) Q E s := by
  unfold letOwnedTupleGo
  cases tg <;> first
    | exact wpAny_pure hQ
    | (cases u <;> first
        | exact wpAny_pure hQ
        | (refine wpAny_bind (wpAny_load ho ?_)
           rw [hc, hd]
           show wpAny M A (if (["enumerate", "zip", "dict_itemiterator", "dict_reverseitemiterator", "odict_iterator", "itertools.zip_longest", "itertools.pairwise"].contains n && vs[0]? == some (rawInt _)) = true then _ else _) Q E s
           rw [if_neg (by intro h; rw [hn, Bool.false_and] at h; cases h)]
           exact wpAny_pure hQ))

/-- the list at a, as it stands at each turn (a loop may append to it) -/
def Itl (K : PySem.W.Frag) (a : Addr) : It :=
  ⟨fun i H => ∃ xs x, SqL K H a xs ∧ xs[i]? = some x, fun i H x H' => H' = H ∧ ∀ xs, SqL K H a xs → xs[i]? = some x, fun i H => ∃ xs, SqL K H a xs ∧ xs.length ≤ i⟩
def Itt (K : PySem.W.Frag) (a : Addr) : It :=
  ⟨fun i H => ∃ xs x, SqT K H a xs ∧ xs[i]? = some x, fun i H x H' => H' = H ∧ ∀ xs, SqT K H a xs → xs[i]? = some x, fun i H => ∃ xs, SqT K H a xs ∧ xs.length ≤ i⟩
/-- lo, lo + 1, .. (n of them) -/
def Itr (lo : Int) (n : Nat) : It := ⟨fun i _ => i < n, fun i H x H' => H' = H ∧ x = .int (lo + i), fun i _ => n ≤ i⟩
theorem turn_list {P : Program} {w : World} {K : PySem.W.Frag} {tg : Expr} (a it : Addr) : Turn P w K tg (Itl K a) [it] it (fun i h => h.IsListIter it a i) where
  mem := by simp
  obj := fun i h st b hb => by
    have e : b = it := by simpa using hb
    subst e
    obtain ⟨o, e, c, d⟩ := st
    exact ⟨o, e, fun v z => by rw [d] at z; cases z⟩
  keep := fun i h h' st k => st.at fun o e => k it (by simp) o e
  item := by
    intro X hP hw hK hc i pins s σ H E I hf st hg
    subst hP hw hK
    obtain ⟨xs, x, hq, hx⟩ := hg
    obtain ⟨its, rv, p, hz⟩ := I.list hq
    obtain ⟨u, hu, ru⟩ := rv.get hx
    obtain ⟨f0, f1, f2, f3, f4, f5⟩ := hf it (by simp)
    refine wpAny_pyNext_list_item st p.isList (x := u) (by simpa using hu) fun h' st' sb => ?_
    have I1 : Inv X pins σ H { s with heap := h' } := I.turned (t' := s.toks) (fun b o hb e => (sb.2 b hb).trans e) f0 f1 f3 f4 f5
    obtain ⟨o, e, c, d⟩ := id st'
    exact ⟨u, rfl, go_of (s := { s with heap := h' }) e c d (by decide) ⟨x, H, I1, ru, ⟨rfl, fun ys hy => by rw [I.list_inj hy hq]; exact hx⟩, st', fun b hb => (hf b hb).1⟩⟩
  done := by
    intro X hP hw hK hc i pins s σ H E I hf st hg
    subst hP hw hK
    obtain ⟨xs, hq, hx⟩ := hg
    obtain ⟨its, rv, p, hz⟩ := I.list hq
    obtain ⟨f0, f1, f2, f3, f4, f5⟩ := hf it (by simp)
    have hl := rv.length
    exact wpAny_pyNext_list_end (I.ok.hd hc) st p.isList (by simp; omega) fun h' eb => ⟨rfl, I.turned (t' := s.toks) (fun b o hb e => eb b o hb e) f0 f1 f3 f4 f5⟩
  self := fun _ _ _ _ _ st h => wpAny_pyIter_listiter st h
theorem turn_tuple {P : Program} {w : World} {K : PySem.W.Frag} {tg : Expr} (a it : Addr) : Turn P w K tg (Itt K a) [it] it (fun i h => h.IsTupleIter it a i) where
  mem := by simp
  obj := fun i h st b hb => by
    have e : b = it := by simpa using hb
    subst e
    obtain ⟨o, e, c, d⟩ := st
    exact ⟨o, e, fun v z => by rw [d] at z; cases z⟩
  keep := fun i h h' st k => st.at fun o e => k it (by simp) o e
  item := by
    intro X hP hw hK hc i pins s σ H E I hf st hg
    subst hP hw hK
    obtain ⟨xs, x, hq, hx⟩ := hg
    obtain ⟨its, rv, p, hz⟩ := I.tuple hq
    obtain ⟨u, hu, ru⟩ := rv.get hx
    obtain ⟨f0, f1, f2, f3, f4, f5⟩ := hf it (by simp)
    refine wpAny_pyNext_tuple_item st (show s.heap.IsTuple a its.toArray from p) (x := u) (by simpa using hu) fun h' st' sb => ?_
    have I1 : Inv X pins σ H { s with heap := h' } := I.turned (t' := s.toks) (fun b o hb e => (sb.2 b hb).trans e) f0 f1 f3 f4 f5
    obtain ⟨o, e, c, d⟩ := id st'
    exact ⟨u, rfl, go_of (s := { s with heap := h' }) e c d (by decide) ⟨x, H, I1, ru, ⟨rfl, fun ys hy => by rw [I.tuple_inj hy hq]; exact hx⟩, st', fun b hb => (hf b hb).1⟩⟩
  done := by
    intro X hP hw hK hc i pins s σ H E I hf st hg
    subst hP hw hK
    obtain ⟨xs, hq, hx⟩ := hg
    obtain ⟨its, rv, p, hz⟩ := I.tuple hq
    obtain ⟨f0, f1, f2, f3, f4, f5⟩ := hf it (by simp)
    have hl := rv.length
    exact wpAny_pyNext_tuple_end (I.ok.hd hc) st (show s.heap.IsTuple a its.toArray from p) (by simp; omega) fun h' eb => ⟨rfl, I.turned (t' := s.toks) (fun b o hb e => eb b o hb e) f0 f1 f3 f4 f5⟩
  self := fun _ _ _ _ _ st h => wpAny_pyIter_tupleiter st h
theorem turn_range {P : Program} {w : World} {K : PySem.W.Frag} {tg : Expr} (it : Addr) (lo : Int) (n : Nat) : Turn P w K tg (Itr lo n) [it] it (fun i h => IsRangeIter h it (lo + (i : Nat) * 1) ((n : Int) - (i : Nat)) 1) where
  mem := by simp
  obj := fun i h st b hb => by
    have e : b = it := by simpa using hb
    subst e
    exact ⟨_, st, fun v z => by
      have z' : Data.fields _ = Data.cell v := z
      cases z'⟩
  keep := fun i h h' st k => k it (by simp) _ st
  item := by
    intro X hP hw hK hc i pins s σ H E I hf st hg
    subst hP hw hK
    obtain ⟨f0, f1, f2, f3, f4, f5⟩ := hf it (by simp)
    have W := Walks.range (prog := X.prog) (w := X.w) (I.ok.hd hc) it lo 1 n
    refine W.item i s _ _ hg st fun v h' tk hv st' kk => ?_
    obtain ⟨t, rfl⟩ := hv
    have I1 : Inv X pins σ H { s with heap := h', toks := tk } := I.turned (fun b o hb e => kk b o (by simpa using hb) e) f0 f1 f3 f4 f5
    refine ⟨_, rfl, go_of (s := { s with heap := h', toks := tk }) (n := "range_iterator") st' rfl rfl (by decide) ⟨.int (lo + i), H, I1, ⟨t, ?_⟩, ⟨rfl, rfl⟩, st', fun b hb => (hf b hb).1⟩⟩
    rw [Int.mul_one]
  done := by
    intro X hP hw hK hc i pins s σ H E I hf st hg
    subst hP hw hK
    obtain ⟨f0, f1, f2, f3, f4, f5⟩ := hf it (by simp)
    exact wpAny_pyNext_range_end (I.ok.hd hc) st (by have : n ≤ i := hg; omega) fun h' eb => ⟨rfl, I.turned (t' := s.toks) (fun b o hb e => eb b o hb e) f0 f1 f3 f4 f5⟩
  self := fun _ _ _ _ _ st h => wpAny_pyIter_rangeiter st h
end L2

namespace L2
open PySem PySem.Spec PyProof.Rows
section
variable {X : Cx} {tg : Expr}
def iList (K : PySem.W.Frag) (tl : TE) : TI := fun σ H R => tl σ H fun x H1 => ∃ a, x = .ref a ∧ (∃ xs, SqL K H1 a xs) ∧ R (Itl K a) H1
def iTup (K : PySem.W.Frag) (tl : TE) : TI := fun σ H R => tl σ H fun x H1 => ∃ a, x = .ref a ∧ (∃ xs, SqT K H1 a xs) ∧ R (Itt K a) H1
theorem pi_list {l : Expr} {tl : TE} (hl : PE X l tl) : PI X tg l (iList X.K tl) := by
  intro pins s σ H R I h
  refine thn (hl pins s σ H _ I h) fun v s1 ⟨x, H1, I1, r1, q1⟩ => ?_
  obtain ⟨a, e, ⟨xs, hq⟩, q⟩ := q1
  subst e
  cases r1
  obtain ⟨its, rv, p, hz⟩ := I1.list hq
  refine wpAny_pyIter_list p.isList ?_
  refine ⟨s1.heap.objs.size, [s1.heap.objs.size], _, _, H1, rfl, I1.kept (t' := s1.toks) fun b o e => Heap.get?_push_of_some _ e, turn_list a _, ⟨_, Heap.get?_push_size _ rfl, rfl, rfl⟩, fun b hb => ?_, q⟩
  have e : b = s1.heap.objs.size := by simpa using hb
  subst e
  exact I1.fpOk (Nat.le_refl _) (I1.hok.fresh (Nat.le_refl _))
theorem pi_tup {l : Expr} {tl : TE} (hl : PE X l tl) : PI X tg l (iTup X.K tl) := by
  intro pins s σ H R I h
  refine thn (hl pins s σ H _ I h) fun v s1 ⟨x, H1, I1, r1, q1⟩ => ?_
  obtain ⟨a, e, ⟨xs, hq⟩, q⟩ := q1
  subst e
  cases r1
  obtain ⟨its, rv, p, hz⟩ := I1.tuple hq
  refine wpAny_pyIter_tuple (show s1.heap.IsTuple a its.toArray from p) ?_
  refine ⟨s1.heap.objs.size, [s1.heap.objs.size], _, _, H1, rfl, I1.kept (t' := s1.toks) fun b o e => Heap.get?_push_of_some _ e, turn_tuple a _, ⟨_, Heap.get?_push_size _ rfl, rfl, rfl⟩, fun b hb => ?_, q⟩
  have e : b = s1.heap.objs.size := by simpa using hb
  subst e
  exact I1.fpOk (Nat.le_refl _) (I1.hok.fresh (Nat.le_refl _))
/-- a range object just made, walked -/
theorem range_it {pins : List (Addr × Obj)} {σ : St} {H : Hp} {s : Shared} {R : It → Hp → Prop} {E : Value → Shared → Prop} {lo hi : Int} {t u v : Tok} {tk : Nat} (I : Inv X pins σ H s) (h1 : -(2 ^ 62) ≤ lo) (h2 : lo < 2 ^ 62) (h3 : -(2 ^ 62) ≤ hi) (h4 : hi < 2 ^ 62)
    (q : R (Itr lo (hi - lo).toNat) H) : wpAny (model X.prog X.w) X.A (pyIter (.ref s.heap.objs.size)) (PIE X pins σ tg R) E { s with heap := s.heap.push { cls := .type "range", data := .fields #[.int lo t, .int hi u, .int 1 v] }, toks := tk } := by
  refine wpAny_pyIter_range (IsRange.new ..) (small_one h1 h2 h3 h4) ?_
  have I1 : Inv X pins σ H { s with heap := s.heap.push { cls := .type "range", data := .fields #[.int lo t, .int hi u, .int 1 v] }, toks := tk } := I.kept fun b o e => Heap.get?_push_of_some _ e
  refine ⟨(s.heap.push { cls := .type "range", data := .fields #[.int lo t, .int hi u, .int 1 v] }).objs.size, [(s.heap.push { cls := .type "range", data := .fields #[.int lo t, .int hi u, .int 1 v] }).objs.size], _, _, H, rfl,
    I1.kept (t' := tk) fun b o e => Heap.get?_push_of_some _ e, turn_range _ lo (hi - lo).toNat, ?_, fun b hb => ?_, q⟩
  · have e1 : lo + ((0 : Nat) : Int) * 1 = lo := by simp
    have e2 : (((hi - lo).toNat : Nat) : Int) - ((0 : Nat) : Int) = Builtin.Range.rangeSize lo hi 1 := by rw [rangeSize_one]; split <;> omega
    show IsRangeIter _ _ (lo + ((0 : Nat) : Int) * 1) ((((hi - lo).toNat : Nat) : Int) - ((0 : Nat) : Int)) 1
    rw [e1, e2]
    exact Heap.get?_push_size _ rfl
  · have e : b = (s.heap.push { cls := .type "range", data := .fields #[.int lo t, .int hi u, .int 1 v] }).objs.size := by simpa using hb
    subst e
    exact I1.fpOk (Nat.le_refl _) (I1.hok.fresh (Nat.le_refl _))
def iRng1 (ta : TA) : TI := fun σ H R => ta σ H fun vs H1 => ∃ j : Int, vs = [.int j] ∧ -(2 ^ 62) ≤ j ∧ j < 2 ^ 62 ∧ R (Itr 0 j.toNat) H1
theorem pi_range1 {a : Expr} {ta : TA} {p pos : Pos} (hg : Gl X "range") (hm : X.mg "range" = none) (ha : PA X [a] ta) (hs : starEach [a] X.env = [(false, eval a X.env)] := by rfl) : PI X tg (.Call (.Name "range" p) [a] [] pos) (iRng1 ta) := by
  intro pins s σ H R I h
  refine Call_ (ld_blt I hg hm boot_range (PyProof.Rows.callWith_type1 (thn (ha pos pins s σ H _ I h) fun us s1 ⟨vs, H1, I1, r1, q1⟩ => ?_) hs rfl))
  obtain ⟨j, e, q1, q2, q⟩ := q1
  subst e
  cases r1 with
  | cons r rr =>
    cases rr
    obtain ⟨t, rfl⟩ := r
    exact call_range_1 (range_it I1 (by omega) (by omega) q1 q2 (by simpa using q))
/-! ### for -/
/-- W: the invariant by the turn and a measure; N: what the body is to reach -/
def tFor (wi : TI) (g : TG) (tb : TS) : TS := fun D σ H => wi σ H fun J H1 => ∃ W : Nat → Nat → St → Hp → Prop, (∃ m, W 0 m σ H1) ∧ ∀ i m σ H, W i m σ H →
  (J.stop i H ∧ D.nx σ H) ∨ (J.go i H ∧ ∃ N : St → Hp → Prop, (∀ σ' H', N σ' H' → ∃ m', m' < m ∧ W (i + 1) m' σ' H') ∧ ∀ x H', J.yld i H x H' → g x σ H' fun σ2 H2 => tb { D with nx := N, ct := N, bk := D.nx } σ2 H2)
/-- the records at fp as they stand -/
def pinsAt (fp : List Addr) (h : Heap) : List (Addr × Obj) := fp.filterMap fun b => (h.get? b).map fun o => (b, o)
theorem mem_pinsAt {fp : List Addr} {h : Heap} {b : Addr} {o : Obj} (hb : b ∈ fp) (e : h.get? b = some o) : (b, o) ∈ pinsAt fp h := List.mem_filterMap.mpr ⟨b, hb, by rw [e]; rfl⟩
theorem of_pinsAt {fp : List Addr} {h : Heap} {p : Addr × Obj} (hp : p ∈ pinsAt fp h) : p.1 ∈ fp ∧ h.get? p.1 = some p.2 := by
  obtain ⟨b, hb, e⟩ := List.mem_filterMap.mp hp
  cases q : h.get? b with
  | none => rw [q] at e; cases e
  | some o =>
    rw [q] at e
    have e' : (b, o) = p := Option.some.inj e
    subst e'
    exact ⟨hb, q⟩
theorem Inv.pinned {pins : List (Addr × Obj)} {σ : St} {H : Hp} {s : Shared} {fp : List Addr} (I : Inv X pins σ H s) (hf : ∀ b ∈ fp, FpOk X pins H b) (ho : ∀ b ∈ fp, ∃ o, s.heap.get? b = some o ∧ ∀ v, o.data ≠ .cell v) : Inv X (pins ++ pinsAt fp s.heap) σ H s :=
  I.pins_of fun p hp => (List.mem_append.mp hp).elim (fun z => I.pin p (List.mem_append_right _ z)) fun z => by
    obtain ⟨hb, e⟩ := of_pinsAt z
    obtain ⟨f0, f1, f2, _⟩ := hf p.1 hb
    obtain ⟨o, e', d⟩ := ho p.1 hb
    rw [e] at e'; cases e'
    exact ⟨e, f0, f1, f2, d⟩
theorem Inv.unpinned {pins pl : List (Addr × Obj)} {σ : St} {H : Hp} {s : Shared} (I : Inv X (pins ++ pl) σ H s) : Inv X pins σ H s := I.pins_of fun p hp => I.pin p (List.mem_append_right _ (List.mem_append_left _ hp))
theorem ps_for {iter : Expr} {body : List Stmt} {wi : TI} {g : TG} {tb : TS} {pos : Pos} (hp : PassesOwn (model X.prog X.w) X.A X.env X.xe) (hc : X.calm = true) (hi : PI X tg iter wi) (hg : PG X tg g) (hb : PSs X body tb)
    (hs : ∀ x, foldedSetIterable iter X.env x = pure x := by intro _; rfl) : PS X (.For tg iter body [] pos) (tFor wi g tb) := by
  intro pins s σ H D I h
  refine wpAny_For (thn (hi pins s σ H _ I h) fun v s1 h1 => thn h1 fun itv s2 h2 => ?_) hs
  obtain ⟨it, fp, tn, J, H2, e, I2, T, st2, f2, W, ⟨m0, w0⟩, turn⟩ := h2
  subst e
  -- what stays true of the iterator's objects through the loop
  have stat : ∀ {H' : Hp}, (∀ b ∈ fp, H' b = none) → ∀ b ∈ fp, FpOk X pins H' b := fun hn b hb => ⟨hn b hb, (f2 b hb).2⟩
  refine codeAny_forLoop_any (fun n s' => ∃ i σ' H', Inv X pins σ' H' s' ∧ tn i s'.heap ∧ (∀ b ∈ fp, H' b = none) ∧ W i n σ' H') ?_ m0 ⟨0, σ, H2, I2, st2, fun b hb => (f2 b hb).1, w0⟩
  rintro n s3 ⟨i, σ3, H3, I3, st3, fr3, w3⟩
  rcases turn i n σ3 H3 w3 with ⟨stop, qn⟩ | ⟨go, N, hN, step⟩
  · refine wpAny_passesOwn hp (thn (T.done X rfl rfl rfl hc i pins s3 σ3 H3 X.xe I3 (stat fr3) st3 stop) fun r s4 ⟨hr, I4⟩ => ?_)
    subst hr
    exact wpAny_execs_nil ⟨σ3, H3, I4, qn⟩
  · refine wpAny_passesOwn hp (thn (T.item X rfl rfl rfl hc i pins s3 σ3 H3 X.xe I3 (stat fr3) st3 go) fun r s4 ⟨u, hr, h4⟩ => ?_)
    subst hr
    refine wpAny_passesOwn hp (thn h4 fun _ s5 ⟨x, H5, I5, r5, y5, st5, fr5⟩ => ?_)
    have I5' := I5.pinned (stat fr5) (T.obj _ _ st5)
    refine wpAny_passesOwn hp (thn (hg _ s5 σ3 H5 x u _ I5' r5 (step x H5 y5)) fun _ s6 ⟨σ6, H6, I6, q6⟩ => ?_)
    refine wpAny_passesOwn hp (thn (hb _ s6 σ6 H6 _ I6 q6) fun f s7 q7 => ?_)
    have again : ∀ {σ7 : St} {H7 : Hp}, Inv X (pins ++ pinsAt fp s5.heap) σ7 H7 s7 → N σ7 H7 → ∃ m, m < n ∧ ∃ i σ' H', Inv X pins σ' H' s7 ∧ tn i s7.heap ∧ (∀ b ∈ fp, H' b = none) ∧ W i m σ' H' := fun {σ7 H7} I7 n7 => by
      obtain ⟨m', hm, w7⟩ := hN σ7 H7 n7
      refine ⟨m', hm, i + 1, σ7, H7, I7.unpinned, T.keep _ _ _ st5 fun b hb o e => (I7.pin (b, o) (List.mem_append_right _ (List.mem_append_right _ (mem_pinsAt hb e)))).1, fun b hb => ?_, w7⟩
      obtain ⟨o, e, d⟩ := T.obj _ _ st5 b hb
      exact (I7.pin (b, o) (List.mem_append_right _ (List.mem_append_right _ (mem_pinsAt hb e)))).2.1
    cases f with
    | next => obtain ⟨σ7, H7, I7, n7⟩ := q7; exact again I7 n7
    | cont => obtain ⟨σ7, H7, I7, n7⟩ := q7; exact again I7 n7
    | brk => obtain ⟨σ7, H7, I7, q7⟩ := q7; exact ⟨σ7, H7, I7.unpinned, q7⟩
    | ret v => obtain ⟨x7, σ7, H7, I7, r7, q7⟩ := q7; exact ⟨x7, σ7, H7, I7.unpinned, r7, q7⟩
end

/-! ### the forms one uses -/
theorem for_range {lo : Int} {n : Nat} {g : TG} {tb : TS} {D : Ends} {σ : St} {H : Hp} (Pv : Nat → St → Hp → Prop) (h0 : Pv 0 σ H)
    (hs : ∀ i σ H, i < n → Pv i σ H → g (.int (lo + i)) σ H fun σ2 H2 => tb { D with nx := Pv (i + 1), ct := Pv (i + 1), bk := D.nx } σ2 H2) (hd : ∀ σ H, Pv n σ H → D.nx σ H) :
    ∃ W : Nat → Nat → St → Hp → Prop, (∃ m, W 0 m σ H) ∧ ∀ i m σ H, W i m σ H →
      ((Itr lo n).stop i H ∧ D.nx σ H) ∨ ((Itr lo n).go i H ∧ ∃ N : St → Hp → Prop, (∀ σ' H', N σ' H' → ∃ m', m' < m ∧ W (i + 1) m' σ' H') ∧ ∀ x H', (Itr lo n).yld i H x H' → g x σ H' fun σ2 H2 => tb { D with nx := N, ct := N, bk := D.nx } σ2 H2) := by
  refine ⟨fun i m σ H => m = n - i ∧ i ≤ n ∧ Pv i σ H, ⟨n, by simp, Nat.zero_le _, h0⟩, ?_⟩
  rintro i m σ H ⟨rfl, hi, p⟩
  by_cases hlt : i < n
  · refine .inr ⟨hlt, Pv (i + 1), fun σ' H' p' => ⟨n - (i + 1), by omega, rfl, hlt, p'⟩, fun x H' y => ?_⟩
    obtain ⟨e, y⟩ := y
    subst e y
    exact hs i σ _ hlt p
  · have e : i = n := by omega
    subst e
    exact .inl ⟨Nat.le_refl _, hd σ H p⟩
/-- while, by a word and a measure of the state -/
theorem while_by {c : TT} {tb : TS} {D : Ends} {σ : St} {H : Hp} (Pv : St → Hp → Prop) (μ : St → Hp → Nat) (h0 : Pv σ H)
    (hs : ∀ σ H, Pv σ H → c σ H fun b H1 => if b = true then tb { D with nx := fun σ' H' => Pv σ' H' ∧ μ σ' H' < μ σ H, ct := fun σ' H' => Pv σ' H' ∧ μ σ' H' < μ σ H, bk := D.nx } σ H1 else D.nx σ H1)
    (mono : ∀ σ H Q Q', (∀ b H1, Q b H1 → Q' b H1) → c σ H Q → c σ H Q') : tWhile c tb D σ H := by
  refine ⟨fun m σ H => m = μ σ H ∧ Pv σ H, ⟨_, rfl, h0⟩, ?_⟩
  rintro m σ H ⟨rfl, p⟩
  refine mono σ H _ _ (fun b H1 q => ?_) (hs σ H p)
  cases b with
  | true => exact ⟨_, fun σ' H' ⟨p', l⟩ => ⟨_, l, rfl, p'⟩, q⟩
  | false => exact q
end L2

namespace L2
open PySem PySem.Spec PyProof.Rows

abbrev R2 := V → V → Hp → VK → Prop
/-- a two-place operation on values: f is binaryOp op, inplaceOp op or compareOp op -/
def OpR (X : Cx) (f : Value → Value → Sem Value) (r : R2) : Prop :=
  ∀ (pins : List (Addr × Obj)) (s : Shared) (σ : St) (H : Hp) (x y : V) (v u : Value) (Q : VK), Inv X pins σ H s → RelV x v → RelV y u → r x y H Q →
    wpAny (model X.prog X.w) X.A (f v u) (EP X pins σ Q) X.xe s
/-- a one-place operation -/
def UnR (X : Cx) (f : Value → Sem Value) (r : V → Hp → VK → Prop) : Prop :=
  ∀ (pins : List (Addr × Obj)) (s : Shared) (σ : St) (H : Hp) (x : V) (v : Value) (Q : VK), Inv X pins σ H s → RelV x v → r x H Q →
    wpAny (model X.prog X.w) X.A (f v) (EP X pins σ Q) X.xe s
/-- a call of a value that is known (a builtin, a type) with values -/
def CallR (X : Cx) (f : Value) (r : List V → Hp → VK → Prop) : Prop :=
  ∀ (pins : List (Addr × Obj)) (s : Shared) (σ : St) (H : Hp) (xs : List V) (us : List Value) (Q : VK), Inv X pins σ H s → Vals xs us → r xs H Q →
    wpAny (model X.prog X.w) X.A (call f us) (EP X pins σ Q) X.xe s
/-- a value's truth -/
def TruR (X : Cx) (r : V → Hp → (Bool → Hp → Prop) → Prop) : Prop :=
  ∀ (pins : List (Addr × Obj)) (s : Shared) (σ : St) (H : Hp) (x : V) (v : Value) (Q : Bool → Hp → Prop), Inv X pins σ H s → RelV x v → r x H Q →
    wpAny (model X.prog X.w) X.A (truthy v) (TP X pins σ Q) X.xe s

def tOp (r : R2) (ta tb : TE) : TE := fun σ H Q => ta σ H fun x H1 => tb σ H1 fun y H2 => r x y H2 Q
def tUn (r : V → Hp → VK → Prop) (ta : TE) : TE := fun σ H Q => ta σ H fun x H1 => r x H1 Q
/-- ints in, under C, and a value out -/
def rI (C : Int → Int → Prop) (g : Int → Int → V) : R2 := fun x y H Q => ∃ i j, x = .int i ∧ y = .int j ∧ C i j ∧ Q (g i j) H
def rI0 (g : Int → Int → V) : R2 := fun x y H Q => ∃ i j, x = .int i ∧ y = .int j ∧ Q (g i j) H
def rU (g : Int → V) : V → Hp → VK → Prop := fun x H Q => ∃ i, x = .int i ∧ Q (g i) H

section
variable {X : Cx} {a b c : Expr} {ta tb tc : TE} {pos : Pos}

theorem binT (ha : PE X a ta) (hb : PE X b tb) {pins : List (Addr × Obj)} {s : Shared} {σ : St} {H : Hp} {R : V → V → Hp → Prop} (I : Inv X pins σ H s)
    (h : ta σ H fun x H1 => tb σ H1 fun y H2 => R x y H2) {Q : Value → Shared → Prop} {f : Value → Value → Sem Value}
    (hf : ∀ v u s2 x y H2, Inv X pins σ H2 s2 → RelV x v → RelV y u → R x y H2 → wpAny (model X.prog X.w) X.A (f v u) Q X.xe s2) :
    wpAny (model X.prog X.w) X.A (eval a X.env) (fun v s₁ => wpAny (model X.prog X.w) X.A (eval b X.env) (fun u s₂ => wpAny (model X.prog X.w) X.A (f v u) Q X.xe s₂) X.xe s₁) X.xe s := by
  refine thn (ha pins s σ H _ I h) fun v s1 ⟨x, H1, I1, r1, q1⟩ => ?_
  refine thn (hb pins s1 σ H1 _ I1 q1) fun u s2 ⟨y, H2, I2, r2, q2⟩ => ?_
  exact hf v u s2 x y H2 I2 r1 r2 q2

theorem pe_op {op : Operator} {r : R2} (ho : OpR X (binaryOp op) r) (ha : PE X a ta) (hb : PE X b tb) : PE X (.BinOp a op b pos) (tOp r ta tb) := by
  intro pins s σ H Q I h
  exact wpAny_BinOp (binT ha hb I h fun v u s2 x y H2 I2 rx ry q => ho pins s2 σ H2 x y v u Q I2 rx ry q)
theorem pe_un {op : UnaryOp} {r : V → Hp → VK → Prop} (ho : UnR X (unaryOp op) r) (ha : PE X a ta) : PE X (.UnaryOp op a pos) (tUn r ta) := by
  intro pins s σ H Q I h
  exact UnaryOp_ (thn (ha pins s σ H _ I h) fun v s1 ⟨x, H1, I1, r1, q1⟩ => ho pins s1 σ H1 x v Q I1 r1 q1)
/-! ### ints -/
theorem opI {f : Value → Value → Sem Value} {C : Int → Int → Prop} {g : Int → Int → Int}
    (rule : ∀ (i j : Int) (t u : Tok) (s : Shared) (Q : Value → Shared → Prop) (E : Value → Shared → Prop), C i j → Q (.int (g i j) s.toks) { s with toks := s.toks + 1 } → wpAny (model X.prog X.w) X.A (f (.int i t) (.int j u)) Q E s) :
    OpR X f (rI C fun i j => .int (g i j)) := by
  intro pins s σ H x y v u Q I rx ry h
  obtain ⟨i, j, rfl, rfl, hc, q⟩ := h
  obtain ⟨t, rfl⟩ := rx
  obtain ⟨t', rfl⟩ := ry
  exact rule i j t t' s _ _ hc ⟨.int (g i j), H, I.tok _, ⟨_, rfl⟩, q⟩
theorem opI0 {f : Value → Value → Sem Value} {g : Int → Int → Int}
    (rule : ∀ (i j : Int) (t u : Tok) (s : Shared) (Q : Value → Shared → Prop) (E : Value → Shared → Prop), Q (.int (g i j) s.toks) { s with toks := s.toks + 1 } → wpAny (model X.prog X.w) X.A (f (.int i t) (.int j u)) Q E s) :
    OpR X f (rI0 fun i j => .int (g i j)) := by
  intro pins s σ H x y v u Q I rx ry h
  obtain ⟨i, j, rfl, rfl, q⟩ := h
  obtain ⟨t, rfl⟩ := rx
  obtain ⟨t', rfl⟩ := ry
  exact rule i j t t' s _ _ ⟨.int (g i j), H, I.tok _, ⟨_, rfl⟩, q⟩
theorem opB0 {f : Value → Value → Sem Value} {g : Int → Int → Bool}
    (rule : ∀ (i j : Int) (t u : Tok) (s : Shared) (Q : Value → Shared → Prop) (E : Value → Shared → Prop), Q (.bool (g i j)) s → wpAny (model X.prog X.w) X.A (f (.int i t) (.int j u)) Q E s) :
    OpR X f (rI0 fun i j => .bl (g i j)) := by
  intro pins s σ H x y v u Q I rx ry h
  obtain ⟨i, j, rfl, rfl, q⟩ := h
  obtain ⟨t, rfl⟩ := rx
  obtain ⟨t', rfl⟩ := ry
  exact rule i j t t' s _ _ ⟨.bl (g i j), H, I, rfl, q⟩

def CDiv (i j : Int) : Prop := 0 < j ∧ j < 1073741824
def CPow (i j : Int) : Prop := 0 ≤ j ∧ j ≤ 1000000 ∧ i.natAbs < 2 ^ 64
def CMul (i j : Int) : Prop := (-(2 ^ 64) < i ∧ i < 2 ^ 64) ∨ (-(2 ^ 64) < j ∧ j < 2 ^ 64)
theorem CMul.ok {i j : Int} (h : CMul i j) : IntMulOk i j := by
  rcases h with ⟨h1, h2⟩ | ⟨h1, h2⟩
  · exact .of_left (intBits_le_64 h1 h2)
  · exact .of_right (intBits_le_64 h1 h2)
theorem op_add : OpR X (binaryOp .Add) (rI0 fun i j => .int (i + j)) := opI0 fun _ _ _ _ _ _ _ q => add_int q
theorem op_sub : OpR X (binaryOp .Sub) (rI0 fun i j => .int (i - j)) := opI0 fun _ _ _ _ _ _ _ q => sub_int q
theorem op_mul : OpR X (binaryOp .Mult) (rI CMul fun i j => .int (i * j)) := opI fun _ _ _ _ _ _ _ hc q => mul_int q hc.ok
/-- // by a positive divisor -/
theorem op_fdiv : OpR X (binaryOp .FloorDiv) (rI CDiv fun i j => .int (i / j)) := opI fun i j _ _ _ _ _ hc q => by
  have h1 : (0 : Int) < j := hc.1
  have h2 : j < 1073741824 := hc.2
  exact floordiv_int (by omega) (by rw [Int.fdiv_eq_ediv_of_nonneg i (by omega)]; exact q) (.inl (PyProof.noPylong_small (by omega)))
/-- % by a positive divisor of any size -/
theorem op_mod : OpR X (binaryOp .Mod) (rI (fun _ j => 0 < j) fun i j => .int (i % j)) := opI fun i j _ _ _ _ _ hc q => by
  have h1 : (0 : Int) < j := hc
  exact mod_int' (by omega) (by rw [Int.fmod_eq_emod_of_nonneg i (by omega)]; exact q)
theorem op_pow : OpR X (binaryOp .Pow) (rI CPow fun i j => .int (i ^ j.toNat)) := opI fun _ _ _ _ _ _ _ hc q => pow_int_small hc.1 hc.2.1 hc.2.2 q
theorem unI {f : Value → Sem Value} {g : Int → Int}
    (rule : ∀ (i : Int) (t : Tok) (s : Shared) (Q : Value → Shared → Prop) (E : Value → Shared → Prop), Q (.int (g i) s.toks) { s with toks := s.toks + 1 } → wpAny (model X.prog X.w) X.A (f (.int i t)) Q E s) :
    UnR X f (rU fun i => .int (g i)) := by
  intro pins s σ H x v Q I rx h
  obtain ⟨i, rfl, q⟩ := h
  obtain ⟨t, rfl⟩ := rx
  exact rule i t s _ _ ⟨.int (g i), H, I.tok _, ⟨_, rfl⟩, q⟩
theorem un_neg : UnR X (unaryOp .USub) (rU fun i => .int (-i)) := unI fun _ _ _ _ _ q => neg_int q
/-! ### bools among ints: n += (a < b) -/
end

/-! ### comparisons -/
/-- the scalars that == tells apart as data does -/
def scal : V → V → Bool
  | .non, .non => true | .non, .int _ => true | .int _, .non => true | .non, .bl _ => true | .bl _, .non => true | .non, .str _ => true | .str _, .non => true
  | .int _, .int _ => true | .bl _, .bl _ => true | .str _, .str _ => true | .byt _, .byt _ => true
  | .int _, .str _ => true | .str _, .int _ => true | .bl _, .str _ => true | .str _, .bl _ => true
  | _, _ => false
def rEq : R2 := fun x y H Q => scal x y = true ∧ Q (.bl (decide (x = y))) H
def rNe : R2 := fun x y H Q => scal x y = true ∧ Q (.bl (!decide (x = y))) H

theorem dec_int {i j : Int} : decide (V.int i = V.int j) = (i == j) := by
  rw [Bool.eq_iff_iff]
  simp
theorem dec_bl {i j : Bool} : decide (V.bl i = V.bl j) = (i == j) := by
  rw [Bool.eq_iff_iff]
  simp
theorem dec_str {i j : Str} : decide (V.str i = V.str j) = (i == j) := by
  rw [Bool.eq_iff_iff]
  simp
theorem dec_byt {i j : Array UInt8} : decide (V.byt i = V.byt j) = (i.toList == j.toList) := by
  rw [Bool.eq_iff_iff]
  cases i
  cases j
  simp

section
variable {X : Cx} {a b c : Expr} {ta tb tc : TE} {pos : Pos}
theorem fin_bl {pins : List (Addr × Obj)} {σ : St} {H : Hp} {s : Shared} {Q : VK} {k k' : Bool} (I : Inv X pins σ H s) (q : Q (.bl k) H) (e : k = k') : EP X pins σ Q (.bool k') s := by
  subst e
  exact ⟨.bl k, H, I, rfl, q⟩
theorem op_eq : OpR X (compareOp .Eq) rEq := by
  intro pins s σ H x y v u Q I rx ry h
  obtain ⟨hs, q⟩ := h
  cases x with
  | non =>
    cases rx
    cases y with
    | non => cases ry; exact PySem.EqNone.eq_none_none (fin_bl I q (by simp))
    | bl j => cases ry; exact PySem.EqNone.eq_none_bool (fin_bl I q (by simp))
    | int j => obtain ⟨t', rfl⟩ := ry; exact PySem.EqNone.eq_none_int (fin_bl I q (by simp))
    | str j => obtain ⟨t', rfl⟩ := ry; exact PySem.EqNone.eq_none_str (fin_bl I q (by simp))
    | _ => exact absurd (show false = true from hs) Bool.false_ne_true
  | bl i =>
    cases rx
    cases y with
    | non => cases ry; exact PySem.EqNone.eq_bool_none (fin_bl I q (by simp))
    | bl j => cases ry; exact eq_bool (fin_bl I q dec_bl)
    | str j => obtain ⟨t', rfl⟩ := ry; exact PySem.EqMixed.eq_bool_str (fin_bl I q (by simp))
    | _ => exact absurd (show false = true from hs) Bool.false_ne_true
  | int i =>
    obtain ⟨t, rfl⟩ := rx
    cases y with
    | non => cases ry; exact PySem.EqNone.eq_int_none (fin_bl I q (by simp))
    | int j => obtain ⟨t', rfl⟩ := ry; exact eq_int (fin_bl I q dec_int)
    | str j => obtain ⟨t', rfl⟩ := ry; exact PySem.EqMixed.eq_int_str (fin_bl I q (by simp))
    | _ => exact absurd (show false = true from hs) Bool.false_ne_true
  | str i =>
    obtain ⟨t, rfl⟩ := rx
    cases y with
    | non => cases ry; exact PySem.EqNone.eq_str_none (fin_bl I q (by simp))
    | bl j => cases ry; exact PySem.EqMixed.eq_str_bool (fin_bl I q (by simp))
    | int j => obtain ⟨t', rfl⟩ := ry; exact PySem.EqMixed.eq_str_int (fin_bl I q (by simp))
    | str j => obtain ⟨t', rfl⟩ := ry; exact eq_str (fin_bl I q dec_str)
    | _ => exact absurd (show false = true from hs) Bool.false_ne_true
  | byt i =>
    obtain ⟨t, rfl⟩ := rx
    cases y with
    | byt j => obtain ⟨t', rfl⟩ := ry; exact PySem.W.eq_bytes (fin_bl I q dec_byt)
    | _ => exact absurd (show false = true from hs) Bool.false_ne_true
  | _ => cases y <;> exact absurd (show false = true from hs) Bool.false_ne_true
theorem op_ne : OpR X (compareOp .NotEq) rNe := by
  intro pins s σ H x y v u Q I rx ry h
  obtain ⟨hs, q⟩ := h
  cases x with
  | non =>
    cases rx
    cases y with
    | non => cases ry; exact PySem.EqNone.ne_none_none (fin_bl I q (by simp))
    | bl j => cases ry; exact PySem.EqNone.ne_none_bool (fin_bl I q (by simp))
    | int j => obtain ⟨t', rfl⟩ := ry; exact PySem.EqNone.ne_none_int (fin_bl I q (by simp))
    | str j => obtain ⟨t', rfl⟩ := ry; exact PySem.EqNone.ne_none_str (fin_bl I q (by simp))
    | _ => exact absurd (show false = true from hs) Bool.false_ne_true
  | bl i =>
    cases rx
    cases y with
    | non => cases ry; exact PySem.EqNone.ne_bool_none (fin_bl I q (by simp))
    | bl j => cases ry; exact ne_bool (fin_bl I q (congrArg not dec_bl))
    | str j => obtain ⟨t', rfl⟩ := ry; exact PySem.EqMixed.ne_bool_str (fin_bl I q (by simp))
    | _ => exact absurd (show false = true from hs) Bool.false_ne_true
  | int i =>
    obtain ⟨t, rfl⟩ := rx
    cases y with
    | non => cases ry; exact PySem.EqNone.ne_int_none (fin_bl I q (by simp))
    | int j => obtain ⟨t', rfl⟩ := ry; exact ne_int (fin_bl I q (congrArg not dec_int))
    | str j => obtain ⟨t', rfl⟩ := ry; exact PySem.EqMixed.ne_int_str (fin_bl I q (by simp))
    | _ => exact absurd (show false = true from hs) Bool.false_ne_true
  | str i =>
    obtain ⟨t, rfl⟩ := rx
    cases y with
    | non => cases ry; exact PySem.EqNone.ne_str_none (fin_bl I q (by simp))
    | bl j => cases ry; exact PySem.EqMixed.ne_str_bool (fin_bl I q (by simp))
    | int j => obtain ⟨t', rfl⟩ := ry; exact PySem.EqMixed.ne_str_int (fin_bl I q (by simp))
    | str j => obtain ⟨t', rfl⟩ := ry; exact ne_str (fin_bl I q (congrArg not dec_str))
    | _ => exact absurd (show false = true from hs) Bool.false_ne_true
  | byt i =>
    obtain ⟨t, rfl⟩ := rx
    cases y with
    | byt j => obtain ⟨t', rfl⟩ := ry; exact PySem.W.ne_bytes (fin_bl I q (congrArg not dec_byt))
    | _ => exact absurd (show false = true from hs) Bool.false_ne_true
  | _ => cases y <;> exact absurd (show false = true from hs) Bool.false_ne_true

theorem op_lt : OpR X (compareOp .Lt) (rI0 fun i j => .bl (decide (i < j))) := opB0 fun _ _ _ _ _ _ _ q => lt_int q
theorem op_le : OpR X (compareOp .LtE) (rI0 fun i j => .bl (decide (i ≤ j))) := opB0 fun _ _ _ _ _ _ _ q => le_int q
theorem op_gt : OpR X (compareOp .Gt) (rI0 fun i j => .bl (decide (j < i))) := opB0 fun _ _ _ _ _ _ _ q => gt_int q
theorem op_ge : OpR X (compareOp .GtE) (rI0 fun i j => .bl (decide (j ≤ i))) := opB0 fun _ _ _ _ _ _ _ q => ge_int q
theorem nomark (b : Expr) {op : CmpOp} (h : op ≠ .In := by decide) (h2 : op ≠ .NotIn := by decide) : behindInMarks op b = false := by
  have e1 : (op == CmpOp.In) = false := by cases op <;> first | rfl | exact absurd rfl h
  have e2 : (op == CmpOp.NotIn) = false := by cases op <;> first | rfl | exact absurd rfl h2
  cases b <;> simp [behindInMarks, e1, e2]
/-- a comparison as a value; hm: nomark b, or (for in, not in) by with_unfolding_all rfl -/
theorem pe_cmpR {op : CmpOp} {r : R2} (ho : OpR X (compareOp op) r) (ha : PE X a ta) (hb : PE X b tb) (hm : behindInMarks op b = false) : PE X (.Compare a [op] [b] pos) (tOp r ta tb) := by
  intro pins s σ H Q I h
  exact wpAny_Compare1 (binT ha hb I h fun v u s2 x y H2 I2 rx ry q => ho pins s2 σ H2 x y v u Q I2 rx ry q) hm
/-- a reading of a value as a test -/
def tTest (t : TE) : TT := fun σ H Q => t σ H fun x H' => ∃ k, x = .bl k ∧ Q k H'
theorem pt_cmpR {op : CmpOp} {r : R2} (ho : OpR X (compareOp op) r) (ha : PE X a ta) (hb : PE X b tb) (hm : behindInMarks op b = false) : PT X (.Compare a [op] [b] pos) (tTest (tOp r ta tb)) := by
  intro pins s σ H Q I h
  refine wpAny_isTrue_Compare1 (thn (ha pins s σ H _ I h) fun v s1 ⟨x, H1, I1, r1, q1⟩ => thn (hb pins s1 σ H1 _ I1 q1) fun u s2 ⟨y, H2, I2, r2, q2⟩ =>
    thn (ho pins s2 σ H2 x y v u _ I2 r1 r2 q2) fun c s3 ⟨z, H3, I3, r3, k, e, q3⟩ => ?_) hm
  subst e
  cases r3
  exact wpAny_truthy_bool ⟨H3, I3, q3⟩
/-! ### truth -/
/-- a value's truth by the abstract heap -/
def TruV (K : PySem.W.Frag) (x : V) (H : Hp) (k : Bool) : Prop :=
  match x with
  | .non => k = false
  | .bl b => k = b
  | .int i => k = (i != 0)
  | .str y => y.length ≤ sizeLine ∧ k = ((y.length : Int) != 0)
  | .byt y => y.size ≤ sizeLine ∧ k = ((y.size : Int) != 0)
  | .ref p => (∃ xs, SqL K H p xs ∧ k = !xs.isEmpty) ∨ (∃ xs, SqT K H p xs ∧ k = !xs.isEmpty) ∨ ∃ kvs, H p = some (.dK kvs) ∧ k = !kvs.isEmpty
  | _ => False
theorem isEmpty_kv {κ : Type} {kvs : List (κ × V)} {vs : List (κ × Value)} (r : KV kvs vs) : (!vs.isEmpty) = !kvs.isEmpty := by
  cases r <;> rfl
theorem isEmpty_of {xs : List V} {its : List Value} (r : Vals xs its) : (!its.toArray.isEmpty) = !xs.isEmpty := by
  cases r <;> simp
theorem line63 : (sizeLine : Nat) < 2 ^ 63 := by rw [sizeLine_eq]; decide
theorem tru_ok : TruR X (fun x H Q => ∃ k, TruV X.K x H k ∧ Q k H) := by
  intro pins s σ H x v Q I rx h
  obtain ⟨k, e, q⟩ := h
  have hl := line63
  have hs : sizeLine = 16777216 := sizeLine_eq
  cases x with
  | non =>
    cases rx
    have e' : k = false := e
    subst e'
    exact truthy_none ⟨H, I, q⟩
  | bl b =>
    cases rx
    have e' : k = b := e
    subst e'
    exact wpAny_truthy_bool ⟨H, I, q⟩
  | int i =>
    obtain ⟨t, rfl⟩ := rx
    have e' : k = (i != 0) := e
    subst e'
    exact PySem.P.truthy_int ⟨H, I, q⟩
  | str y =>
    obtain ⟨t, rfl⟩ := rx
    obtain ⟨hy, e'⟩ : y.length ≤ sizeLine ∧ k = ((y.length : Int) != 0) := e
    subst e'
    exact PySem.P.truthy_str (by omega) ⟨H, I.tok _, q⟩
  | byt y =>
    obtain ⟨t, rfl⟩ := rx
    obtain ⟨hy, e'⟩ : y.size ≤ sizeLine ∧ k = ((y.size : Int) != 0) := e
    subst e'
    exact PySem.W.truthy_bytes (by omega) ⟨H, I.tok _, q⟩
  | ref p =>
    cases rx
    have e' : (∃ xs, SqL X.K H p xs ∧ k = !xs.isEmpty) ∨ (∃ xs, SqT X.K H p xs ∧ k = !xs.isEmpty) ∨ ∃ kvs, H p = some (.dK kvs) ∧ k = !kvs.isEmpty := e
    rcases e' with ⟨xs, hx, e'⟩ | ⟨xs, hx, e'⟩ | ⟨kvs, hx, e'⟩
    · subst e'
      obtain ⟨its, r, pl, hz⟩ := I.list hx
      have hlen := r.length
      exact wpAny_truthy_list pl.isList (by simp only [List.size_toArray]; omega) ⟨H, I.tok _, by rw [isEmpty_of r]; exact q⟩
    · subst e'
      obtain ⟨its, r, pl, hz⟩ := I.tuple hx
      have hlen := r.length
      exact truthy_tuple pl (by simp only [List.size_toArray]; omega) ⟨H, I.tok _, by rw [isEmpty_of r]; exact q⟩
    · subst e'
      obtain ⟨hz, hS, vs, r, m⟩ : kvs.length ≤ sizeLine ∧ (p == sysModules) = false ∧ ∃ vs, KV kvs vs ∧ s.heap.DictOf (mixKind X.prog X.w) p vs := I.hok p _ hx
      have hlen : kvs.length = vs.length := Paired.length r
      exact wpAny_truthy_dict hS m (by omega) ⟨H, I.tok _, by rw [isEmpty_kv r]; exact q⟩
  | _ => exact (show False from e).elim
/-- any expression whose test is its value's truth (a name, a call, a subscript, a field ..: he by fun _ => rfl) -/
theorem pt_truth (ha : PE X a ta) (he : ∀ whole, isTrue a X.env whole = (do let v ← whole; standAt a.pos; holding [v] (truthy v))) :
    PT X a (fun σ H Q => ta σ H fun x H' => ∃ k, TruV X.K x H' k ∧ Q k H') := by
  intro pins s σ H Q I h
  exact isTrue_plain (thn (ha pins s σ H _ I h) fun v s1 ⟨x, H1, I1, r1, q1⟩ => tru_ok pins s1 σ H1 x v Q I1 r1 q1) (he _)

/-! ### strs and bytes -/
theorem op_add_str : OpR X (binaryOp .Add) (fun x y H Q => ∃ i j, x = .str i ∧ y = .str j ∧ i.length + j.length ≤ sizeLine ∧ Q (.str (i ++ j)) H) := by
  intro pins s σ H x y v u Q I rx ry h
  obtain ⟨i, j, rfl, rfl, hz, q⟩ := h
  obtain ⟨t, rfl⟩ := rx
  obtain ⟨t', rfl⟩ := ry
  exact add_str (fun t' tk => ⟨.str (i ++ j), H, I.tok _, ⟨_, rfl⟩, q⟩) hz
/-! ### scalar builtins, by CallR -/
theorem vals1 {x : V} {us : List Value} (r : Vals [x] us) : ∃ u, us = [u] ∧ RelV x u := by
  cases r with
  | cons r1 r2 => cases r2; exact ⟨_, rfl, r1⟩
theorem vals2 {x y : V} {us : List Value} (r : Vals [x, y] us) : ∃ u w', us = [u, w'] ∧ RelV x u ∧ RelV y w' := by
  cases r with
  | cons r1 r2 =>
    cases r2 with
    | cons r3 r4 => cases r4; exact ⟨_, _, rfl, r1, r3⟩
theorem call_abs : CallR X (.builtin "abs") (fun xs H Q => ∃ i, xs = [.int i] ∧ Q (.int (if i < 0 then -i else i)) H) := by
  intro pins s σ H xs us Q I r h
  obtain ⟨i, rfl, q⟩ := h
  obtain ⟨u, rfl, t, rfl⟩ := vals1 r
  exact call_abs_int fun u tk => ⟨.int (if i < 0 then -i else i), H, I.tok _, ⟨_, rfl⟩, q⟩
theorem call_max2 (hc : X.calm = true) : CallR X (.builtin "max") (fun xs H Q => ∃ i j, xs = [.int i, .int j] ∧ Q (.int (if j > i then j else i)) H) := by
  intro pins s σ H xs us Q I r h
  obtain ⟨i, j, rfl, q⟩ := h
  obtain ⟨u, w', rfl, ⟨t, rfl⟩, ⟨t', rfl⟩⟩ := vals2 r
  refine max_two_ints (I.ok.hd hc) fun h' tk k => ⟨_, H, I.kept k, ?_, q⟩
  by_cases hj : j > i
  · rw [if_pos hj, if_pos hj]; exact ⟨_, rfl⟩
  · rw [if_neg hj, if_neg hj]; exact ⟨_, rfl⟩
end
end L2

namespace L2
open PySem PySem.Spec PyProof.Rows

/-! ### an instance, its attributes a map -/
structure ObjM (h : Heap) (x dx C : Addr) (mA : Str → Option Value) : Prop where
  obj : h.get? x = some (PySem.W.instObj C dx)
  ns : h.Ns1 dx mA
  ne : dx ≠ x

theorem lookIn_ns {h : Heap} {dx : Addr} {mA : Str → Option Value} (n : h.Ns1 dx mA) : ∃ od, h.get? dx = some od ∧ ∀ name, PySem.W.lookIn name od = some (mA name) := by
  obtain ⟨o, es, ep, ho, hd, hk, _, hm⟩ := n
  refine ⟨o, ho, fun name => ?_⟩
  have e := hm name
  unfold nsFind findBy at e
  rw [← Array.find?_toList] at e
  unfold PySem.W.lookIn
  rw [hd]
  dsimp only
  split
  · rename_i y q
    rw [q] at e
    exact congrArg some e
  · rename_i q
    rw [q] at e
    have a : es.toList.any (·.refKey) = false := by
      rw [List.any_eq_false]
      intro y hy
      obtain ⟨z, t, hkey⟩ := hk y (Array.mem_toList_iff.mp hy)
      simp [DictEntry.refKey, hkey]
    have a' : ¬ es.toList.any (·.refKey) = true := by rw [a]; exact Bool.false_ne_true
    rw [if_neg a']
    exact congrArg some e

theorem ObjM.look {h : Heap} {x dx C : Addr} {mA : Str → Option Value} (I : ObjM h x dx C mA) : ∃ od, PySem.W.InstAt h x (PySem.W.instObj C dx) C (some od) ∧ ∀ name, PySem.W.lookIn name od = some (mA name) :=
  let ⟨od, ho, hl⟩ := lookIn_ns I.ns
  ⟨od, ⟨I.obj, rfl, rfl, ho⟩, hl⟩

section
variable {prog : Program} {w : World} {A : Around} {E : Value → Shared → Prop} {s : Shared} {K : PySem.W.Frag} {x dx C f : Addr} {mA : Str → Option Value} {name : Str} {v : Value}

end

/-! ### the attributes as a list of pairs -/
theorem RelO.some_of {v : V} {o : Option Value} (r : RelO (some v) o) : ∃ u, o = some u ∧ RelV v u := by
  cases o with
  | none => exact (show False from r).elim
  | some u => exact ⟨u, rfl, r⟩
section
variable {P : Program} {w : World} {H H' : Hp} {h h' : Heap} {a C dx : Addr} {fs fs' : List (Str × V)}
theorem ins_get (hok : HOk P w H h) (e : H a = some (.ins C dx fs)) : ∃ mA, ObjM h a dx C mA ∧ (∀ f, RelO (fs.lookup f) (mA f)) ∧ PySem.Within mA (fs.map (·.1)) ∧ fs.length ≤ 1000 ∧ H dx = some (.own a) := by
  obtain ⟨d, z, ne, ob, mA, n, r, q⟩ := (show ObjOk P w H h a (.ins C dx fs) from hok a _ e)
  exact ⟨mA, ⟨ob, n, ne⟩, r, q, z, d⟩
end

/-! ### what of the text a class must have -/
structure Cls (K : PySem.W.Frag) (C : Addr) : Prop where
  pg : PySem.W.plainGet K C Str.empty = true
  hd : PySem.W.hasDictIn K C = true
  po : PySem.W.plainOver K C = true
  sa : PySem.W.findIn K (.ref C) "__setattr__" = some (some (.builtin "object.__setattr__"))
theorem Cls.get {K : PySem.W.Frag} {C : Addr} (c : Cls K C) (f : Str) : PySem.W.plainGet K C f = true := c.pg
section
variable {X : Cx} {pins : List (Addr × Obj)} {σ : St} {H : Hp} {s : Shared} {a C dx : Addr} {fs : List (Str × V)} {f : Str} {v : V} {A : Around} {E : Value → Shared → Prop}

end

/-! ### readings and rules -/
section
variable {X : Cx} {o e value : Expr} {f : Str} {pos pos' tpos : Pos} {ta tv : TE}
end

/-! ### isinstance -/
section
variable {X : Cx} {pins : List (Addr × Obj)} {σ : St} {H : Hp} {s : Shared} {A : Around} {E : Value → Shared → Prop} {Q : Value → Shared → Prop} {c : Value} {b : Bool}
/-- the type of a value, as the fragment's deciders take it; for an instance its class -/
inductive TyOf (K : PySem.W.Frag) (H : Hp) : V → Value → Prop where
  | non : TyOf K H .non (.type "NoneType")
  | bl (x : Bool) : TyOf K H (.bl x) (.type "bool")
  | int (i : Int) : TyOf K H (.int i) (.type "int")
  | str (x : Str) : TyOf K H (.str x) (.type "str")
  | flt (x : UInt64) : TyOf K H (.flt x) (.type "float")
  | lst {a : Addr} {xs : List V} (e : H a = some (.lst xs)) : TyOf K H (.ref a) (.type "list")
  | frz {a : Addr} {o : Obj} {xs : List V} (e : H a = some (.frz o (.lst xs))) : TyOf K H (.ref a) (.type "list")
  | tup {a : Addr} {xs : List V} (e : H a = some (.tup xs)) : TyOf K H (.ref a) (.type "tuple")
  | dK {a : Addr} {kvs : List (Key × V)} (e : H a = some (.dK kvs)) : TyOf K H (.ref a) (.type "dict")
  | dT {a : Addr} {kvs : List (List Key × V)} (e : H a = some (.dT kvs)) : TyOf K H (.ref a) (.type "dict")
  | ins {a C dx : Addr} {fs : List (Str × V)} (e : H a = some (.ins C dx fs)) (cl : Cls K C) (ha : PySem.W.findIn K (.ref C) "__class__" = some (some (.builtin "object.__class__")))
      (hn : PySem.W.specialIn K (.builtin "object.__class__") "__get__" = some (some (.builtin "getset_descriptor.__get__"))) (htk : PySem.W.takesIn K (.builtin "object.__class__") = some true)
      (hm : PySem.W.mroIn K C (.type "object") = some true) : TyOf K H (.ref a) (.ref C)
/-- isinstance(x, c) for one class c, a built-in or an own one: kitOne's answer -/
theorem isinst_ok {x : V} {u t : Value} (I : Inv X pins σ H s) (rx : RelV x u) (ty : TyOf X.K H x t) (e : PySem.W.kitOne X.K t c = some b) (h : ∀ tk, Q (.bool b) { s with toks := tk }) :
    wpAny (model X.prog X.w) A (call (.builtin "isinstance") [u, c]) Q E s := by
  cases ty with
  | non => cases (show u = Value.none from rx); exact PySem.W.kia_one PySem.W.kitx_none I.kIn True.intro e (fun z => nomatch z) h
  | bl y => cases (show u = Value.bool y from rx); exact PySem.W.kia_one PySem.W.kitx_bool I.kIn True.intro e (fun z => nomatch z) h
  | int i => obtain ⟨t, q⟩ := (show ∃ t, u = Value.int i t from rx); cases q; exact PySem.W.kia_one PySem.W.kitx_int I.kIn True.intro e (fun z => nomatch z) h
  | str y => obtain ⟨t, q⟩ := (show ∃ t, u = Value.str y t from rx); cases q; exact PySem.W.kia_one PySem.W.kitx_str I.kIn True.intro e (fun z => nomatch z) h
  | flt y => obtain ⟨t, q⟩ := (show ∃ t, u = Value.float y t from rx); cases q; exact PySem.W.kia_one PySem.W.kitx_float I.kIn True.intro e (fun z => nomatch z) h
  | @lst a xs ea =>
    cases (show u = Value.ref a from rx)
    obtain ⟨_, _, n, _, h1⟩ := (show ObjOk X.prog X.w H s.heap a (.lst xs) from I.hok a _ ea)
    exact PySem.W.kia_one PySem.W.kitx_list I.kIn ⟨_, h1, rfl⟩ e (fun z => nomatch z) h
  | @frz a ob xs ea =>
    cases (show u = Value.ref a from rx)
    obtain ⟨_, _, _, n, _, h1⟩ := (show ObjOk X.prog X.w H s.heap a (.frz ob (.lst xs)) from I.hok a _ ea)
    exact PySem.W.kia_one PySem.W.kitx_list I.kIn ⟨_, h1, rfl⟩ e (fun z => nomatch z) h
  | @tup a xs ea =>
    cases (show u = Value.ref a from rx)
    obtain ⟨_, _, _, p⟩ := (show ObjOk X.prog X.w H s.heap a (.tup xs) from I.hok a _ ea)
    obtain ⟨o, h1, h2, _⟩ := p
    exact PySem.W.kia_one PySem.W.kitx_tuple I.kIn ⟨o, h1, h2⟩ e (fun z => nomatch z) h
  | @dK a kvs ea =>
    cases (show u = Value.ref a from rx)
    obtain ⟨_, _, vs, _, p⟩ := (show ObjOk X.prog X.w H s.heap a (.dK kvs) from I.hok a _ ea)
    obtain ⟨o, es, ep, h1, h2, _⟩ := p
    exact PySem.W.kia_one PySem.W.kitx_dict I.kIn ⟨o, h1, h2.1⟩ e (fun z => nomatch z) h
  | @dT a kvs ea =>
    cases (show u = Value.ref a from rx)
    obtain ⟨_, _, xs, _, o, es, ep, h1, h2, _⟩ := (show ObjOk X.prog X.w H s.heap a (.dT kvs) from I.hok a _ ea)
    exact PySem.W.kia_one PySem.W.kitx_dict I.kIn ⟨o, h1, h2.1⟩ e (fun z => nomatch z) h
  | @ins a C dx fs ea cl ha hn htk hm =>
    cases (show u = Value.ref a from rx)
    obtain ⟨mA, O, _⟩ := ins_get I.hok ea
    obtain ⟨od, J, _⟩ := O.look
    exact PySem.W.kia_one (PySem.W.kitx_own (cl.get _) cl.hd ha hn htk hm) I.kIn J e (fun z => nomatch z) h
end
end L2

namespace L2
open PySem PySem.Spec PyProof.Rows

/-! ### room -/
structure Room (k : Nat) (A : Around) : Prop where
  hd : A.handled = none
  dp : A.depth + 3 * k + 5 < recursionLimit
  un : A.units + 16 * k + 200 < cLine
theorem Room.mono {j k : Nat} {A : Around} (r : Room k A) (h : j ≤ k) : Room j A := ⟨r.hd, by have := r.dp; omega, by have := r.un; omega⟩
theorem Room.deeper {k : Nat} {A : Around} (r : Room (k + 1) A) (env : Env) : Room k (A.deeper env) :=
  ⟨r.hd, by have := r.dp; show A.depth + 1 + 3 * k + 5 < _; omega, by have := r.un; show A.units + 3 + 16 * k + 200 < _; omega⟩
theorem Room.depth {k : Nat} {A : Around} (r : Room k A) : A.depth < recursionLimit := by have := r.dp; omega
theorem Room.units {k : Nat} {A : Around} (r : Room k A) : A.units + 64 < cLine := by have := r.un; omega
/-! ### argument lists and displays -/
def tNil : TA := fun _ H Q => Q [] H
def tCons (ta : TE) (tr : TA) : TA := fun σ H Q => ta σ H fun x H1 => tr σ H1 fun xs H2 => Q (x :: xs) H2
section
variable {X : Cx} {e : Expr} {es : List Expr} {te : TE} {t : TA} {pos : Pos}
theorem pa_nil : PA X [] tNil := fun _ _ _ _ H Q I h => Calls.spliced_nil ⟨[], H, I, .nil, h⟩
theorem pa_cons (ha : PE X e te) (hr : PA X es t) (hs : starEach (e :: es) X.env = (false, eval e X.env) :: starEach es X.env := by rfl) : PA X (e :: es) (tCons te t) := by
  intro pos pins s σ H Q I h
  rw [hs]
  show wpAny _ _ (spliced ((false, eval e X.env) :: backTo pos (starEach es X.env))) _ _ s
  refine Calls.spliced_cons (thn (ha pins s σ H _ I h) fun u s1 ⟨x, H1, I1, r1, q1⟩ => ?_)
  exact thn (hr pos pins s1 σ H1 _ I1 q1) fun us s2 ⟨xs, H2, I2, r2, q2⟩ => ⟨x :: xs, H2, I2, .cons r1 r2, q2⟩

/-- a tuple, a list of written items -/
def tTup (t : TA) : TE := fun σ H Q => t σ H fun xs H1 => xs.length ≤ sizeLine ∧ ∀ p, H1 p = none → Q (.ref p) (upd H1 p (.tup xs))
def tLst (t : TA) : TE := fun σ H Q => t σ H fun xs H1 => xs.length ≤ sizeLine ∧ ∀ p, H1 p = none → Q (.ref p) (upd H1 p (.lst xs))
theorem pe_tup {x1} (h : PA X es t) : PE X (.Tuple es x1 pos) (tTup t) := by
  intro pins s σ H Q I hq
  refine wpAny_Tuple_spliced (thn (h pos pins s σ H _ I hq) fun us s1 ⟨xs, H1, I1, r, z, q⟩ => ⟨by rw [← r.length]; exact z, ?_⟩)
  have hf : H1 s1.heap.objs.size = none := I1.hok.fresh (Nat.le_refl _)
  refine ⟨.ref s1.heap.objs.size, upd H1 s1.heap.objs.size (.tup xs), I1.laid (t' := s1.toks) (fun b u e => Heap.get?_push_of_some _ e) (Nat.le_refl _) ?_, rfl, q _ hf⟩
  exact ⟨z, us, r, ⟨_, Heap.get?_push_size _ rfl, rfl, _, rfl, rfl⟩⟩
theorem pe_lst (h : PA X es t) : PE X (.List es pos) (tLst t) := by
  intro pins s σ H Q I hq
  refine wpAny_List_spliced (thn (h pos pins s σ H _ I hq) fun us s1 ⟨xs, H1, I1, r, z, q⟩ => ⟨by rw [← r.length]; exact z, ?_⟩)
  have hf : H1 s1.heap.objs.size = none := I1.hok.fresh (Nat.le_refl _)
  refine ⟨.ref s1.heap.objs.size, upd H1 s1.heap.objs.size (.lst xs), I1.laid (t' := s1.toks) (fun b u e => Heap.get?_push_of_some _ e) (Nat.le_refl _) ?_, rfl, q _ hf⟩
  exact ⟨z, us, 0, r, Heap.get?_push_size _ rfl⟩
end

/-! ### what a def promises -/
/-- a def's promise: the bound arguments in the parameters' order, the heap, the wanted end, the wanted exception -/
abbrev Sp := List V → Hp → VK → XK → Prop
/-- how an exception lies behind a call (file 08 gives it): the callers' frames, abstract heap and state ahead of the call, the wish, the exception, the state -/
abbrev CXT := List Env → Hp → Shared → XK → Value → Shared → Prop

/-- the state at a call -/
structure Env0 (P : Program) (w : World) (K : PySem.W.Frag) (mg : Str → Option Value) (base : Heap) (A : Around) (outer : List Env) (s : Shared) (H : Hp) : Prop where
  frames : A.frames = some outer
  mod : Mod K mg base
  bs : ∀ b o, base.get? b = some o → s.heap.get? b = some o ∧ H b = none
  bsz : base.objs.size ≤ s.heap.objs.size
  funs : s.heap.FunFrames base outer
  frf : ∀ b ∈ frs outer, H b = none
  hok : HOk P w H s.heap
  bare : AllBare s.gens
/-- a call's end -/
def CE (outer : List Env) (P : Program) (w : World) (H : Hp) (s : Shared) (Q : VK) (u : Value) (s' : Shared) : Prop :=
  ∃ v H', s'.os = s.os ∧ AllBare s'.gens ∧ Un (frs outer) [] H H' s.heap s'.heap ∧ HOk P w H' s'.heap ∧ RelV v u ∧ Q v H'
def CR (CX : CXT) (outer : List Env) (P : Program) (w : World) (H : Hp) (s : Shared) (Q : VK) (E : XK) (r : Result) (s' : Shared) : Prop :=
  match r with
  | .ok (.ret u) => CE outer P w H s Q u s'
  | .ok _ => False
  | .error e => CX outer H s E e s'
structure FnOk (P : Program) (w : World) (K : PySem.W.Frag) (mg : Str → Option Value) (base : Heap) (CX : CXT) (k : Nat) (f : Addr) (fd : FuncData) (ps : List Str) (sp : Sp) : Prop where
  len : ∀ vs H Q E, sp vs H Q E → vs.length = ps.length
  run : ∀ (A : Around) (outer : List Env) (s : Shared) (H : Hp) (args : Args) (us : List Value) (vs : List V) (Q : VK) (E : XK), Room k A → Env0 P w K mg base A outer s H → BindsTo s fd args (ps.zip us) → Vals vs us → sp vs H Q E →
    codeAny (model P w) A (.call (.ref f) args) (CR CX outer P w H s Q E) s
section
variable {X : Cx} {pins : List (Addr × Obj)} {σ : St} {H : Hp} {s s' : Shared}
/-- from a body: what a callee wants -/
theorem Inv.env0 (I : Inv X pins σ H s) : Env0 X.prog X.w X.K X.mg X.base X.A X.stack s H :=
  ⟨I.ok.frames, I.ok.mod, I.bs, Nat.le_trans I.ok.bsz I.sz, I.stack, I.stkFree, I.hok, I.bare⟩
/-- behind a call -/
theorem Inv.after {Q : VK} {u : Value} (I : Inv X pins σ H s) (h : CE X.stack X.prog X.w H s Q u s') : EP X pins σ Q u s' := by
  obtain ⟨v, H', os, bare, un, hok, r, q⟩ := h
  obtain ⟨hh, g, d, t, os'⟩ := s'
  obtain rfl : os' = s.os := os
  exact ⟨v, H', I.call (h' := hh) (g' := g) (d' := d) (t' := t) (ch := []) un hok bare (fun b z => absurd z (by simp)), r, q⟩
end

/-! ### calls -/
/-- f(..): the written arguments, then the defaults dvs; E: what is wanted of an exception -/
def tCall (sp : Sp) (dvs : List V) (E : XK) (t : TA) : TE := fun σ H Q => t σ H fun vs H1 => sp (vs ++ dvs) H1 Q E
/-- how the parameters are bound: us the positional arguments, kw the keywords' values by name, ds the defaults that fill up -/
def Binds (K : PySem.W.Frag) (fd : FuncData) (ps : List Str) (ds : List Value) : Prop :=
  ∀ (s : Shared) (us : List Value), K.In s.heap → (us ++ ds).length = ps.length → BindsTo s fd ⟨us, []⟩ (ps.zip (us ++ ds))
/-- every parameter is given -/
theorem Binds.all {K : PySem.W.Frag} {fd : FuncData} {ps : List Str} (h : ∀ us : List Value, us.length = ps.length → bindArgs fd ⟨us, []⟩ = pure (ps.zip us)) : Binds K fd ps [] := fun s us _ hl => by
  rw [List.append_nil] at hl ⊢
  exact .of_eq (h us hl)

/-- an exception of a callee reaches what this body wants of exceptions -/
def Passes (CX : CXT) (X : Cx) (E : XK) : Prop := ∀ (pins : List (Addr × Obj)) (σ : St) (H : Hp) (s : Shared) (e : Value) (s' : Shared), Inv X pins σ H s → CX X.stack H s E e s' → X.xe e s'

section
variable {X : Cx} {CX : CXT} {k : Nat} {f C : Addr} {fd : FuncData} {ps : List Str} {sp : Sp} {dvs : List V} {ds : List Value} {E : XK} {x m : Str} {p pos apos : Pos} {e o : Expr} {es : List Expr} {ta : TE} {t : TA}

/-- the callee runs -/
theorem run_fn {pins : List (Addr × Obj)} {σ : St} {H : Hp} {s : Shared} {Q : VK} {us : List Value} {vs : List V} (F : FnOk X.prog X.w X.K X.mg X.base CX k f fd ps sp) (hr : Room k X.A) (hb : Binds X.K fd ps ds) (hd : Vals dvs ds) (hx : Passes CX X E)
    (I : Inv X pins σ H s) (r : Vals vs us) (h : sp (vs ++ dvs) H Q E) : wpAny (model X.prog X.w) X.A (call (.ref f) us) (EP X pins σ Q) X.xe s := by
  have r2 : Vals (vs ++ dvs) (us ++ ds) := r.append hd
  have hl : (us ++ ds).length = ps.length := by rw [← r2.length]; exact F.len _ _ _ _ h
  refine wpAny_call (codeAny_mono (F.run X.A X.stack s H ⟨us, []⟩ (us ++ ds) (vs ++ dvs) Q E hr I.env0 (hb s us I.kIn hl) r2 h) fun r s' hq => ?_)
  cases r with
  | error e => exact hx pins σ H s e s' I hq
  | ok fl =>
    cases fl with
    | ret u => exact I.after hq
    | next => exact False.elim hq
    | brk => exact False.elim hq
    | cont => exact False.elim hq

theorem pe_call (F : FnOk X.prog X.w X.K X.mg X.base CX k f fd ps sp) (hr : Room k X.A) (hg : Gl X x) (hm : X.mg x = some (.ref f)) (hk : PySem.W.keepIn X.K (.ref f) = true) (hb : Binds X.K fd ps ds) (hd : Vals dvs ds) (hx : Passes CX X E)
    (ha : PA X (e :: es) t) (hdb : (x == ("__debug__" : Str)) = false := by decide) (he : starEach (e :: es) X.env = (false, eval e X.env) :: starEach es X.env := by rfl) (hpl : (backTo pos (starEach es X.env)).any (·.1) = false := by rfl) :
    PE X (.Call (.Name x p) (e :: es) [] pos) (tCall sp dvs E t) := by
  intro pins s σ H Q I h
  refine wpAny_Call_Name_kw (ld_glob I hg hm ?_ hdb)
  refine PySem.W.callWith_K (h₀ := X.base) I.ok.mod.kin hk (thn (ha pos pins s σ H _ I h) fun us s1 ⟨vs, H1, I1, r, q⟩ => ⟨I1.kIn, ?_⟩) he hpl
  exact run_fn F hr hb hd hx I1 r q
theorem pe_call0 (F : FnOk X.prog X.w X.K X.mg X.base CX k f fd ps sp) (hr : Room k X.A) (hg : Gl X x) (hm : X.mg x = some (.ref f)) (hk : PySem.W.keepIn X.K (.ref f) = true) (hb : Binds X.K fd ps ds) (hd : Vals dvs ds) (hx : Passes CX X E)
    (hdb : (x == ("__debug__" : Str)) = false := by decide) : PE X (.Call (.Name x p) [] [] pos) (tCall sp dvs E tNil) := by
  intro pins s σ H Q I h
  refine wpAny_Call_Name_kw (ld_glob I hg hm ?_ hdb)
  exact PySem.W.callWith_K0 I.kIn hk (run_fn (us := []) F hr hb hd hx I .nil h)

end

/-! ### keywords -/
section
variable {X : Cx} {CX : CXT} {k : Nat} {f C : Addr} {fd : FuncData} {ps ks : List Str} {sp : Sp} {E : XK} {x m : Str} {p pos apos kpos : Pos} {e o : Expr} {es : List Expr} {kws : List Keyword} {te ta : TE} {t tk : TA} {nm : Option Str}
variable {g : List Value → List Value → List Value} {gV : List V → List V → List V}
end

/-! ### a def's body keeps its promise -/
/-- names: the parameters first -/
structure FnScope (N P : List Str) (sc : Scope) : Prop where
  kind : sc.kind = .function
  co : sc.isCoroutine = false
  gen : sc.isGenerator = false
  nd : N.Nodup
  pre : N.take P.length = P
  par : ∀ x ∈ P, sc.names.lookup x = some .local ∨ sc.names.lookup x = some .cell
  nofree : ∀ y ∈ sc.names, y.2 ≠ .free

theorem bindL_out {kindOf : Str → Option NameKind} {x : Str} : ∀ {binds : List (Str × Value)} {m : Str → Option Value}, (∀ v, (x, v) ∉ binds) → bindL kindOf binds m x = m x
  | [], _, _ => rfl
  | (n, v) :: r, m, h => by
    unfold bindL
    rw [bindL_out fun w hw => h w (List.mem_cons_of_mem _ hw)]
    split
    · have : x ≠ n := by rintro rfl; exact h v List.mem_cons_self
      simp [this]
    · rfl
theorem bindC_out {kindOf : Str → Option NameKind} {x : Str} : ∀ {binds : List (Str × Value)} {m : Str → Option Value}, (∀ v, (x, v) ∉ binds) → bindC kindOf binds m x = m x
  | [], _, _ => rfl
  | (n, v) :: r, m, h => by
    unfold bindC
    rw [bindC_out fun w hw => h w (List.mem_cons_of_mem _ hw)]
    split
    · rfl
    · have : x ≠ n := by rintro rfl; exact h v List.mem_cons_self
      simp [this]
theorem bindL_get {kindOf : Str → Option NameKind} {x : Str} {v : Value} : ∀ {P : List Str} {vs : List Value} {i : Nat} {m : Str → Option Value}, P.Nodup → P[i]? = some x → vs[i]? = some v → kindOf x = some .local →
    bindL kindOf (P.zip vs) m x = some v
  | [], _, _, _, _, h, _, _ => by simp at h
  | _ :: _, [], _, _, _, _, h, _ => by simp at h
  | p :: P, w :: vs, 0, m, nd, h1, h2, hk => by
    simp at h1 h2; subst h1; subst h2
    show bindL kindOf ((p, w) :: P.zip vs) m p = _
    unfold bindL
    rw [bindL_out fun v hv => (List.nodup_cons.mp nd).1 (List.of_mem_zip hv).1, if_pos hk]
    simp
  | p :: P, w :: vs, i + 1, m, nd, h1, h2, hk => by
    show bindL kindOf ((p, w) :: P.zip vs) m x = _
    unfold bindL
    exact bindL_get (i := i) (List.nodup_cons.mp nd).2 (by simpa using h1) (by simpa using h2) hk
theorem bindC_get {kindOf : Str → Option NameKind} {x : Str} {v : Value} : ∀ {P : List Str} {vs : List Value} {i : Nat} {m : Str → Option Value}, P.Nodup → P[i]? = some x → vs[i]? = some v → kindOf x ≠ some .local →
    bindC kindOf (P.zip vs) m x = some v
  | [], _, _, _, _, h, _, _ => by simp at h
  | _ :: _, [], _, _, _, _, h, _ => by simp at h
  | p :: P, w :: vs, 0, m, nd, h1, h2, hk => by
    simp at h1 h2; subst h1; subst h2
    show bindC kindOf ((p, w) :: P.zip vs) m p = _
    unfold bindC
    rw [bindC_out fun v hv => (List.nodup_cons.mp nd).1 (List.of_mem_zip hv).1, if_neg hk]
    simp
  | p :: P, w :: vs, i + 1, m, nd, h1, h2, hk => by
    show bindC kindOf ((p, w) :: P.zip vs) m x = _
    unfold bindC
    exact bindC_get (i := i) (List.nodup_cons.mp nd).2 (by simpa using h1) (by simpa using h2) hk

/-- the names' values at the entry -/
def start (N : List Str) (vs : List V) : St := vs.map some ++ List.replicate (N.length - vs.length) none

/-- the context of a def's body, at its entry; an exception leaves the frame, then lies as CX says -/
def cxOf (CX : CXT) (P : Program) (w : World) (K : PySem.W.Frag) (mg : Str → Option Value) (base : Heap) (N : List Str) (qual : Str) (scope : Scope) (f : Addr) (cd : Value) (A : Around) (outer : List Env) (s : Shared) (H : Hp) (E : XK) : Cx where
  prog := P
  w := w
  K := K
  mg := mg
  base := base
  A := A.deeper (envOfC qual scope s.heap.objs.size f cd)
  N := N
  s₀ := s
  H₀ := H
  env := envOfC qual scope s.heap.objs.size f cd
  outer := outer
  stack := envOfC qual scope s.heap.objs.size f cd :: outer
  ex := []
  calm := true
  fn := fun _ => true
  pn := []
  xe := fun e s' => wpAny (model P w) (A.deeper (envOfC qual scope s.heap.objs.size f cd)) (leaving (envOfC qual scope s.heap.objs.size f cd) e) (fun _ s'' => CX outer H s E e s'') (fun e' s'' => CX outer H s E e' s'') s'

theorem cell_has {sc : Scope} {n : Nat} {x : Str} (h : sc.names.lookup x = some .cell) : ∃ c, (cellsFrom n sc.names []).lookup x = some c := by
  have q := PySem.W.cellsFrom_some sc.names n [] (.inl h)
  exact Option.isSome_iff_exists.mp q

theorem inv_start {CX : CXT} {P : Program} {w : World} {K : PySem.W.Frag} {mg : Str → Option Value} {base : Heap} {N ps : List Str} {qual : Str} {scope : Scope} {f : Addr} {cd : Value} {A : Around} {outer : List Env} {s s1 : Shared} {H : Hp} {E : XK} {us : List Value} {vs : List V}
    (S : FnScope N ps scope) (hd : A.handled = none) (e0 : Env0 P w K mg base A outer s H) (hl : vs.length = ps.length) (r : Vals vs us)
    (x : InCallC s s.heap.objs.size (bindL (envOfC qual scope s.heap.objs.size f cd).kindOf (ps.zip us) fun _ => none) (cellsFrom (s.heap.objs.size + 1) scope.names []) (bindC (envOfC qual scope s.heap.objs.size f cd).kindOf (ps.zip us) fun _ => none) s1) :
    Inv (cxOf CX P w K mg base N qual scope f cd A outer s H E) [] (start N vs) H s1 := by
  have hpl : ps.length ≤ N.length := by have := congrArg List.length S.pre; rw [List.length_take] at this; omega
  obtain ⟨h1, tk, rfl, hk⟩ := x.done
  have noA : ∀ b : Addr, b ∉ (cxOf CX P w K mg base N qual scope f cd A outer s H E).ex := fun b z => absurd (show b ∈ ([] : List Addr) from z) (by simp)
  refine ⟨⟨e0.mod, S.kind, rfl, rfl, Nat.le_refl _, fun y z c h1 h2 => ?_, fun y hy => ?_, fun y c _ h => ?_, fun _ => hd, Around.frames_deeper e0.frames, .inr ⟨rfl, rfl⟩, fun b z => absurd z (noA b), e0.bs, e0.bsz, fun b _ _ => noA b, fun b z => absurd z (noA b), e0.funs, e0.frf⟩,
    rfl, e0.bare, Un.kept hk, ⟨_, x.toInCall.ns, fun i y v h1 h2 h3 => ?_⟩, fun y c h => ⟨_, x.cell y c h⟩, e0.hok.fresh (Nat.le_refl _), fun y c h => ?_, fun p hp => absurd (show p ∈ ([] : List (Addr × Obj)) from hp) (by simp), e0.hok.kept hk, ?_⟩
  · exact name_of_addr x.apart (PySem.mem_of_lookup h1) (PySem.mem_of_lookup h2)
  · have hy : scope.names.lookup y = some .cell ∨ scope.names.lookup y = some .free := hy
    rcases hy with hy | hy
    · exact cell_has hy
    · exact absurd rfl (S.nofree _ (PySem.mem_of_lookup hy))
  · exact Nat.le_of_lt (x.above y c (PySem.mem_of_lookup h))
  · have hi : i < vs.length := by
      unfold start at h2
      by_cases hi : i < vs.length
      · exact hi
      · rw [List.getElem?_append_right (by simpa using hi)] at h2
        rw [List.getElem?_replicate] at h2
        split at h2 <;> cases h2
    have ha : vs[i]? = some v := by
      unfold start at h2
      rw [List.getElem?_append_left (by simpa using hi), List.getElem?_map] at h2
      cases e : vs[i]? with
      | none => rw [e] at h2; cases h2
      | some a => rw [e] at h2; cases h2; rfl
    obtain ⟨u, hu, rv⟩ := r.get ha
    have hp : ps[i]? = some y := by
      rw [← S.pre, List.getElem?_take_of_lt (by omega)]; exact h1
    have ndP : ps.Nodup := by rw [← S.pre]; exact S.nd.sublist (List.take_sublist _ _)
    refine ⟨u, rv, ?_⟩
    rcases S.par y (List.mem_of_getElem? hp) with k | k
    · exact .inl ⟨k, bindL_get ndP hp hu k⟩
    · obtain ⟨c, e⟩ := cell_has (n := s.heap.objs.size + 1) k
      refine .inr ⟨.inl k, c, e, ?_⟩
      have q := x.cell y c e
      rw [bindC_get ndP hp hu (by show scope.names.lookup y ≠ _; rw [k]; decide)] at q
      exact q
  · exact e0.hok.fresh (Nat.le_of_lt (x.above y c (PySem.mem_of_lookup h)))
  · unfold start
    show _ = N.length
    rw [List.length_append, List.length_map, List.length_replicate]
    omega

/-- THE RULE: a def (or a method) of the text, by its body. The body's reading t is chosen for each entry; it is run at the parameters' values -/
theorem fn_of {CX : CXT} {P : Program} {w : World} {K : PySem.W.Frag} {mg : Str → Option Value} {base : Heap} {k : Nat} {f : Addr} {name qual : Str} {params : Arguments} {body : List Stmt} {scope : Scope} {dV kV doc pm cdv ct oc : Value} {an od : Option Addr}
    {osl : Array (Option Value)} {N ps : List Str} {sp : Sp} (lk : K.lookup f = some ⟨oc, od, .func (PySem.W.fnOf name qual params body scope dV kV doc pm an cdv ct), osl⟩) (hcd : PySem.W.codeIn K cdv qual = true) (S : FnScope N ps scope)
    (len : ∀ vs H Q E, sp vs H Q E → vs.length = ps.length)
    (hbody : ∀ (A : Around) (outer : List Env) (s : Shared) (H : Hp) (vs : List V) (Q : VK) (E : XK), Room k (A.deeper (envOfC qual scope s.heap.objs.size f cdv)) → sp vs H Q E →
      ∃ t, PSs (cxOf CX P w K mg base N qual scope f cdv A outer s H E) body t ∧ t { nx := fun _ H' => Q .non H', rt := Q } (start N vs) H) :
    FnOk P w K mg base CX (k + 1) f (PySem.W.fnOf name qual params body scope dV kV doc pm an cdv ct) ps sp := by
  refine ⟨len, fun A outer s H args us vs Q E hr e0 hb r hsp => ?_⟩
  have hl := len _ _ _ _ hsp
  have KX : K.In s.heap := e0.mod.kin.keeps fun b o e => (e0.bs b o e).1
  have lim : s.heap.NoLimit := e0.mod.nolimit.keeps fun b o e => (e0.bs b o e).1
  have hkind : ∀ y ∈ ps.zip us, scope.names.lookup y.1 = some .local ∨ (scope.names.lookup y.1 = some .cell ∧ ((cellsFrom (s.heap.objs.size + 1) scope.names []).lookup y.1).isSome = true) := fun ⟨n, v⟩ hy => by
    rcases S.par n (List.of_mem_zip hy).1 with q | q
    · exact .inl q
    · exact .inr ⟨q, PySem.W.cellsFrom_some _ _ _ (.inl q)⟩
  refine codeAny_call_function hr.depth (KX _ _ lk) rfl S.co S.gen rfl (PySem.W.codeRec_of KX hcd) (hb _ _ _ _ ?_)
  refine wpAny_newFunctionEnv_cells S.kind hkind fun env he s1 x => ?_
  subst he
  refine ⟨lim.keeps x.toInCall.keep, codeAny_func ?_⟩
  obtain ⟨t, ht, hq⟩ := hbody A outer s H vs Q E (hr.deeper _) hsp
  have I : Inv (cxOf CX P w K mg base N qual scope f cdv A outer s H E) [] (start N vs) H s1 := inv_start S hr.hd e0 hl r x
  refine wpAny_mono (ht [] s1 (start N vs) H _ I hq) (fun fl s' hs => ?_) fun e s' hs => hs
  have fin : ∀ {σ' : St} {H' : Hp} {v : V} {u : Value}, Inv (cxOf CX P w K mg base N qual scope f cdv A outer s H E) [] σ' H' s' → RelV v u → Q v H' → CE outer P w H s Q u s' :=
    fun {σ' H' v u} J rv q => ⟨v, H', J.os, J.bare, J.base, J.hok, rv, q⟩
  cases fl with
  | ret u =>
    obtain ⟨v, σ', H', J, rv, q⟩ := hs
    exact fin J rv q
  | next =>
    obtain ⟨σ', H', J, q⟩ := hs
    exact fin (v := V.non) (u := Value.none) J rfl q
  | brk =>
    obtain ⟨_, _, _, q⟩ := hs
    exact False.elim q
  | cont =>
    obtain ⟨_, _, _, q⟩ := hs
    exact False.elim q
end L2

namespace L2
open PySem PySem.Spec PyProof.Rows
section
variable {X : Cx} {x : Str} {p pos : Pos} {e : Expr} {es : List Expr} {t : TA} {id T : String} {r : List V → Hp → VK → Prop}

def tCB (r : List V → Hp → VK → Prop) (t : TA) : TE := fun σ H Q => t σ H fun vs H1 => r vs H1 Q
/-- f(e, ..), f a built-in function -/
theorem pe_callB (hc : CallR X (.builtin id) r) (hg : Gl X x) (hm : X.mg x = none) (hv : bootBuiltins x = some (.builtin id)) (ha : PA X (e :: es) t) (hn : x ≠ "__name__" := by decide) (hdb : (x == ("__debug__" : Str)) = false := by decide)
    (he : starEach (e :: es) X.env = (false, eval e X.env) :: starEach es X.env := by rfl) (hpl : (backTo pos (starEach es X.env)).any (·.1) = false := by rfl) : PE X (.Call (.Name x p) (e :: es) [] pos) (tCB r t) := by
  intro pins s σ H Q I h
  refine wpAny_Call_Name_kw (ld_blt I hg hm hv ?_ hn hdb)
  exact PyProof.Rows.callWith_builtin1 (thn (ha pos pins s σ H _ I h) fun us s1 ⟨vs, H1, I1, r1, q1⟩ => hc pins s1 σ H1 vs us Q I1 r1 q1) he hpl
/-- T(e, ..), T a built-in type -/
theorem pe_callTy (hc : CallR X (.type T) r) (hg : Gl X x) (hm : X.mg x = none) (hv : bootBuiltins x = some (.type T)) (ha : PA X (e :: es) t) (hn : x ≠ "__name__" := by decide) (hdb : (x == ("__debug__" : Str)) = false := by decide)
    (he : starEach (e :: es) X.env = (false, eval e X.env) :: starEach es X.env := by rfl) (hpl : (backTo pos (starEach es X.env)).any (·.1) = false := by rfl) : PE X (.Call (.Name x p) (e :: es) [] pos) (tCB r t) := by
  intro pins s σ H Q I h
  refine wpAny_Call_Name_kw (ld_blt I hg hm hv ?_ hn hdb)
  exact PyProof.Rows.callWith_type1 (thn (ha pos pins s σ H _ I h) fun us s1 ⟨vs, H1, I1, r1, q1⟩ => hc pins s1 σ H1 vs us Q I1 r1 q1) he hpl
end
end L2

namespace HT
open PySem PyProof.Rows

section
open PySem.SeqAt
open PySem.AutoSeq1 (wpAny_loadPart')
open PySem.MeetsSeq PySem.MeetsSeq2 PySem.MeetsSeq3

end

section
variable {prog : Program} {w : World} {A : Around} {E : Value → Shared → Prop} {s : Shared}

/-- t + u, t not empty -/
theorem cat_tup {t b : Addr} {vs ws : List Value} {Q : Value → Shared → Prop} (ht : IsTup s.heap t vs.toArray) (hb : IsTup s.heap b ws.toArray) (hv : vs ≠ [])
    (h1 : ws = [] → Q (.ref t) s) (h2 : ws ≠ [] → Q (.ref s.heap.objs.size) { s with heap := s.heap.push { cls := .type "tuple", data := .seq (vs ++ ws).toArray } })
    (hsz : vs.length + ws.length ≤ sizeLine) : wpAny (model prog w) A (binaryOp .Add (.ref t) (.ref b)) Q E s := by
  obtain ⟨⟨cls, dd, data, sl⟩, ho, hc, n, hd⟩ := id ht
  obtain ⟨⟨cls2, dd2, data2, sl2⟩, ho2, hc2, n2, hd2⟩ := id hb
  simp only at hc hd hc2 hd2
  subst hc hd hc2 hd2
  have e : vs.toArray ++ ws.toArray = (vs ++ ws).toArray := by simp
  by_cases hw : ws = []
  · exact concat_meets ⟨_, ho, rfl⟩ ⟨_, ho2, rfl⟩ noFill_tuple_add seq_tuple_add PySem.F.slot_tuple_add PySem.F.entry_tuple_add (PySem.F.args_tuple_add_2 _ _)
      (tuple_addW1 t b vs.toArray ws.toArray n n2 dd dd2 sl sl2 (by simpa using hv) (by simp [hw])) ⟨ho, ho2, h1 hw⟩
  · refine concat_meets ⟨_, ho, rfl⟩ ⟨_, ho2, rfl⟩ noFill_tuple_add seq_tuple_add PySem.F.slot_tuple_add PySem.F.entry_tuple_add (PySem.F.args_tuple_add_2 _ _)
      (tuple_addW2 t b vs.toArray ws.toArray n n2 dd dd2 sl sl2 (by simpa using hv) (by simpa using hw) (by rw [List.size_toArray, List.size_toArray]; exact hsz)) ⟨ho, ho2, ?_⟩
    rw [e]
    exact h2 hw

/-! ### t[a:b], not the whole -/
/-- a slice's bound as a place among n (d where it is left out) -/
def sIx (n d : Nat) : Option Int → Nat
  | none => d
  | some v => if v < 0 then (v + (n : Int)).toNat else min v.toNat n
theorem sIx_none (n d : Nat) : sIx n d none = d := rfl
theorem sIx_nat (n d k : Nat) : sIx n d (some (k : Int)) = min k n := by
  show (if (k : Int) < 0 then ((k : Int) + (n : Int)).toNat else min (k : Int).toNat n) = min k n
  rw [if_neg (by omega), Int.toNat_natCast]
theorem sIx_le (n d : Nat) (hd : d ≤ n) (o : Option Int) : sIx n d o ≤ n := by
  cases o with
  | none => exact hd
  | some v =>
    show (if v < 0 then (v + (n : Int)).toNat else min v.toNat n) ≤ n
    by_cases hv : v < 0
    · rw [if_pos hv]; omega
    · rw [if_neg hv]; exact Nat.min_le_right _ _
theorem clip_eq (v : Int) (n d : Nat) : (if v < 0 then max (v + (n : Int)) 0 else min v (n : Int)) = ((sIx n d (some v) : Nat) : Int) := by
  show (if v < 0 then max (v + (n : Int)) 0 else min v (n : Int)) = (((if v < 0 then (v + (n : Int)).toNat else min v.toNat n) : Nat) : Int)
  by_cases hv : v < 0
  · simp only [if_pos hv]; omega
  · simp only [if_neg hv]; omega
theorem adjust_gen (lo hi : Option Int) (n : Nat) : Builtin.Slice.sliceAdjust lo hi 1 (n : Int) = (((sIx n 0 lo : Nat) : Int), ((sIx n n hi : Nat) : Int)) := by
  have h1 : ¬ ((1 : Int) < 0) := by omega
  unfold Builtin.Slice.sliceAdjust
  simp only [h1, if_false]
  refine Prod.ext ?_ ?_
  · cases lo with
    | none => rfl
    | some v => exact clip_eq v n 0
  · cases hi with
    | none => rfl
    | some v => exact clip_eq v n n
theorem places_gen (i j : Nat) : Builtin.Slice.slicePlaces (i : Int) (j : Int) 1 = j - i := by
  unfold Builtin.Slice.slicePlaces
  have h1 : (1 : Int) > 0 := by omega
  simp only [h1, if_true, Int.ediv_one]
  split <;> omega
theorem slicePart_ {v : Value} {o : Option Int} {Q : Option Int → Shared → Prop} (p : IsPart v o) (h : Q o s) : wpAny (model prog w) A (Builtin.Slice.slicePartIndex v) Q E s := by
  cases p with
  | none => exact slicePart_none h
  | int i t => exact slicePart_int h
theorem sliceApplied_gen {sl : Addr} {vl vu : Value} {lo hi : Option Int} {n : Nat} {Q : Int × Int × Nat → Shared → Prop} (hs : s.heap.IsSliceOf sl vl vu .none) (pl : IsPart vl lo) (pu : IsPart vu hi)
    (h : Q (((sIx n 0 lo : Nat) : Int), 1, sIx n n hi - sIx n 0 lo) s) : wpAny (model prog w) A (Builtin.Slice.sliceApplied (.ref sl) (pure (n : Int))) Q E s := by
  obtain ⟨os, hos, hcs, hds⟩ := id hs
  unfold Builtin.Slice.sliceApplied Builtin.Slice.sliceFields
  refine wpAny_bind (wpAny_bind (wpAny_field hos hds (x := vl) rfl (wpAny_bind (wpAny_field hos hds (x := vu) rfl (wpAny_bind (wpAny_field hos hds (x := .none) rfl (wpAny_pure ?_)))))))
  refine wpAny_bind (slicePart_none ?_)
  show wpAny _ _ (if ((1 : Int) == 0) = true then _ else _) _ _ s
  rw [if_neg (by decide)]
  refine wpAny_bind (slicePart_ pl (wpAny_bind (slicePart_ pu (wpAny_bind (wpAny_pure ?_)))))
  show wpAny _ _ (match Builtin.Slice.sliceAdjust lo hi 1 (n : Int) with | (lo, hi) => pure (lo, (1 : Int), Builtin.Slice.slicePlaces lo hi 1)) _ _ s
  rw [adjust_gen lo hi n]
  show wpAny _ _ (pure (((sIx n 0 lo : Nat) : Int), (1 : Int), Builtin.Slice.slicePlaces ((sIx n 0 lo : Nat) : Int) ((sIx n n hi : Nat) : Int) 1)) _ _ s
  rw [places_gen]
  exact wpAny_pure h
theorem pick_gen (xs : Array Value) (i k : Nat) : ((List.range k).filterMap fun (m : Nat) => xs[((i : Int) + (m : Int) * 1).toNat]?).toArray = ((xs.toList.drop i).take k).toArray := by
  have e : (fun (m : Nat) => xs[((i : Int) + (m : Int) * 1).toNat]?) = fun m => xs[i + m]? := by
    funext m
    have : ((i : Int) + (m : Int) * 1).toNat = i + m := by omega
    rw [this]
  rw [e]
  have := pick_run xs i k
  rw [List.filterMap_map] at this
  have e2 : ((fun x => xs[x]?) ∘ fun x => i + x) = fun m => xs[i + m]? := rfl
  rw [e2] at this
  rw [this]

theorem getItem_tuple_cut {t sl : Addr} {items : Array Value} {vl vu : Value} {lo hi : Option Int} {Q : Value → Shared → Prop} (ht : IsTup s.heap t items) (hs : s.heap.IsSliceOf sl vl vu .none) (pl : IsPart vl lo) (pu : IsPart vu hi)
    (hw : ¬ (sIx items.size 0 lo = 0 ∧ sIx items.size items.size hi = items.size))
    (h : Q (.ref s.heap.objs.size) { s with heap := s.heap.push { cls := .type "tuple", data := .seq ((items.toList.drop (sIx items.size 0 lo)).take (sIx items.size items.size hi - sIx items.size 0 lo)).toArray } })
    (hsz : items.size ≤ sizeLine) : wpAny (model prog w) A (getItem (.ref t) (.ref sl)) Q E s := by
  have htake : sizeOk (.seq ((items.toList.drop (sIx items.size 0 lo)).take (sIx items.size items.size hi - sIx items.size 0 lo)).toArray) := by
    show ((items.toList.drop (sIx items.size 0 lo)).take (sIx items.size items.size hi - sIx items.size 0 lo)).toArray.size ≤ sizeLine
    rw [List.size_toArray, List.length_take, List.length_drop, Array.length_toList]
    omega
  have hj : sIx items.size items.size hi ≤ items.size := sIx_le _ _ (Nat.le_refl _) hi
  obtain ⟨os, hos, hcs, hds⟩ := id hs
  have hTs : s.TypeIs (.ref sl) "slice" := ⟨os, hos, hcs⟩
  unfold getItem
  try with_reducible refine wpAny_holding ?_
  first | refine wpAny_bind (wpAny_pure ?_) | skip
  refine wpAny_bind (wpAny_sequenceKey ht.typeIs (by decide) ?_)
  refine wpAny_bind (wpAny_callSpecial?_slot (name := Str.ofString "__getitem__") ht.typeIs PyProof.Rows.slot_tuple_getitem
    (wpAny_call_entry PyProof.Rows.slot_tuple_getitem ht.typeIs entry_tuple_getitem ?_ (args_tuple_getitem _ _)))
  show wpAny _ _ (Builtin.Tuple.tupleItemsOf (.ref t) >>= _) _ _ s
  refine wpAny_bind (tupleItemsOf_ ht ?_)
  refine wpAny_bind (wpAny_typeOf hTs ?_)
  rw [if_pos (by decide)]
  refine wpAny_bind (sliceApplied_gen hs pl pu ?_)
  have hno : ¬ ((((sIx items.size 0 lo : Nat) : Int) == 0 && (1 : Int) == 1 && (sIx items.size items.size hi - sIx items.size 0 lo) == items.size) = true) := by
    intro q
    rw [Bool.and_eq_true, Bool.and_eq_true] at q
    have q1 : ((sIx items.size 0 lo : Nat) : Int) = 0 := eq_of_beq q.1.1
    have q2 : sIx items.size items.size hi - sIx items.size 0 lo = items.size := eq_of_beq q.2
    exact hw ⟨by omega, by omega⟩
  show wpAny _ _ (if (((sIx items.size 0 lo : Nat) : Int) == 0 && (1 : Int) == 1 && (sIx items.size items.size hi - sIx items.size 0 lo) == items.size) = true then _ else _) _ _ s
  rw [if_neg hno, pick_gen]
  first
    | exact wpAny_bind (m := Builtin.Tuple.tupleExact _) (wpAny_newObj_type (wpAny_pure ⟨_, rfl, wpAny_pure h⟩) htake)
    | exact wpAny_bind (m := Builtin.Tuple.tupleExact _) (wpAny_newObj_type (wpAny_bind (wpAny_pure (wpAny_pure ⟨_, rfl, wpAny_pure h⟩))) htake)
    | exact wpAny_bind (wpAny_bind (m := Builtin.Tuple.tupleExact _) (wpAny_newObj_type (wpAny_pure (wpAny_pure ⟨_, rfl, wpAny_pure h⟩)) htake))
    | exact wpAny_bind (wpAny_bind (m := Builtin.Tuple.tupleExact _) (wpAny_newObj_type (wpAny_pure ⟨_, rfl, wpAny_pure h⟩) htake))
end
end HT

namespace L2
open PySem PySem.Spec PyProof.Rows

/-! ### the parts of a slice -/
abbrev TO := St → Hp → (Option Int → Hp → Prop) → Prop
/-- a slice's part (left out, or an int) -/
def PO (X : Cx) (e : Option Expr) (t : TO) : Prop :=
  ∀ (pins : List (Addr × Obj)) (s : Shared) (σ : St) (H : Hp) (Q : Option Int → Hp → Prop), Inv X pins σ H s → t σ H Q →
    wpAny (model X.prog X.w) X.A (evalPart e X.env) (fun u s' => ∃ o H', Inv X pins σ H' s' ∧ IsPart u o ∧ Q o H') X.xe s
def tNoPart : TO := fun _ H Q => Q none H
def tPart (t : TE) : TO := fun σ H Q => t σ H fun x H1 => ∃ i, x = .int i ∧ Q (some i) H1

section
variable {X : Cx} {e : Expr} {te : TE} {lo hi : Option Expr} {tl th : TO} {pos p2 : Pos}

theorem po_none : PO X none tNoPart := by
  intro pins s σ H Q I h
  rw [evalPart_none]
  exact wpAny_pure ⟨none, H, I, .none, h⟩
theorem po_some (h : PE X e te) : PO X (some e) (tPart te) := by
  intro pins s σ H Q I hw
  rw [evalPart_some]
  refine thn (h pins s σ H _ I hw) fun u s1 ⟨x, H1, I1, r1, q1⟩ => ?_
  obtain ⟨i, rfl, q⟩ := q1
  obtain ⟨t, rfl⟩ := r1
  exact ⟨some i, H1, I1, .int i t, q⟩

/-- what a slice of a value is, by values: the slice object stands at sl -/
def SlR (X : Cx) (r : V → Option Int → Option Int → Hp → VK → Prop) : Prop :=
  ∀ (pins : List (Addr × Obj)) (s : Shared) (σ : St) (H : Hp) (x : V) (v vl vu : Value) (lo hi : Option Int) (sl : Addr) (Q : VK), Inv X pins σ H s → RelV x v → s.heap.IsSliceOf sl vl vu .none → IsPart vl lo → IsPart vu hi → r x lo hi H Q →
    ∃ T id, typeLookup (.type T) "__getitem__" = pure (some (.builtin id)) ∧ s.TypeIs v T ∧ wpAny (model X.prog X.w) X.A (getItem v (.ref sl)) (EP X pins σ Q) X.xe s
def tSl (r : V → Option Int → Option Int → Hp → VK → Prop) (te : TE) (tl th : TO) : TE := fun σ H Q => te σ H fun x H1 => tl σ H1 fun l H2 => th σ H2 fun u H3 => r x l u H3 Q
/-- a[lo:hi], any a -/
theorem pe_slice {r : V → Option Int → Option Int → Hp → VK → Prop} (hr : SlR X r) (he : PE X e te) (hl : PO X lo tl) (hu : PO X hi th) : PE X (.Subscript e (.Slice lo hi none p2) pos) (tSl r te tl th) := by
  intro pins s σ H Q I h
  refine Subscript_ (thn (he pins s σ H _ I h) fun v s1 ⟨x, H1, I1, r1, q1⟩ => ?_)
  refine wpAny_Slice (thn (hl pins s1 σ H1 _ I1 q1) fun vl s2 ⟨l, H2, I2, pl, q2⟩ => thn (hu pins s2 σ H2 _ I2 q2) fun vu s3 ⟨u, H3, I3, pu, q3⟩ => ?_)
  rw [evalPart_none]
  refine wpAny_pure ?_
  have I4 : Inv X pins σ H3 { s3 with heap := s3.heap.push { cls := .type "slice", data := .fields #[vl, vu, .none] } } := I3.kept (t' := s3.toks) fun b ob q => Heap.get?_push_of_some _ q
  obtain ⟨T, id, hT, ht, hg⟩ := hr pins { s3 with heap := s3.heap.push { cls := .type "slice", data := .fields #[vl, vu, .none] } } σ H3 x v vl vu l u s3.heap.objs.size Q I4 r1 (Heap.IsSliceOf.new ..) pl pu q3
  show wpAny (model X.prog X.w) X.A (subscriptTail e (.Slice lo hi none p2) v (.ref s3.heap.objs.size)) (EP X pins σ Q) X.xe { s3 with heap := s3.heap.push { cls := .type "slice", data := .fields #[vl, vu, .none] } }
  exact tail_any (ops := [.ref s3.heap.objs.size, v]) ht hT hg (by with_unfolding_all rfl)

/-- the items of xs[lo:hi] -/
def cutV (xs : List V) (lo hi : Option Int) : List V := (xs.drop (HT.sIx xs.length 0 lo)).take (HT.sIx xs.length xs.length hi - HT.sIx xs.length 0 lo)
theorem cutV_length (xs : List V) (lo hi : Option Int) : (cutV xs lo hi).length ≤ xs.length := by
  unfold cutV
  rw [List.length_take, List.length_drop]
  omega
/-- t[lo:hi], not the whole of it (the whole would be t itself) -/
def rSlT (K : PySem.W.Frag) : V → Option Int → Option Int → Hp → VK → Prop := fun x lo hi H Q => ∃ a xs, x = .ref a ∧ SqT K H a xs ∧
  ¬ (HT.sIx xs.length 0 lo = 0 ∧ HT.sIx xs.length xs.length hi = xs.length) ∧ ∀ p, H p = none → Q (.ref p) (upd H p (.tup (cutV xs lo hi)))
theorem sl_tup : SlR X (rSlT X.K) := by
  intro pins s σ H x v vl vu lo hi sl Q I rx hs pl pu h
  obtain ⟨a, xs, rfl, hx, hw, q⟩ := h
  cases rx
  obtain ⟨its, r, ht, hz⟩ := I.tuple hx
  have hlen : its.toArray.size = xs.length := by rw [List.size_toArray]; exact r.length.symm
  refine ⟨"tuple", _, PyProof.Rows.slot_tuple_getitem.lookup, ht.typeIs, ?_⟩
  refine HT.getItem_tuple_cut ht hs pl pu (by rw [hlen]; exact hw) ?_ (by rw [hlen]; exact hz)
  rw [hlen]
  refine ⟨.ref s.heap.objs.size, _, I.laid (t' := s.toks) (o := .tup (cutV xs lo hi)) (fun b ob q => Heap.get?_push_of_some _ q) (Nat.le_refl _) ?_, rfl, q _ (I.hok.fresh (Nat.le_refl _))⟩
  exact ⟨Nat.le_trans (cutV_length xs lo hi) hz, _, (r.drop (HT.sIx xs.length 0 lo)).take (HT.sIx xs.length xs.length hi - HT.sIx xs.length 0 lo), IsTupX.new _ _⟩

/-! ### t < u, t + u -/
/-- t + u, t not empty: u empty gives t itself -/
def rCatT (K : PySem.W.Frag) : R2 := fun x y H Q => ∃ a b xs ys, x = .ref a ∧ y = .ref b ∧ SqT K H a xs ∧ SqT K H b ys ∧ xs ≠ [] ∧ xs.length + ys.length ≤ sizeLine ∧
  (ys = [] → Q (.ref a) H) ∧ (ys ≠ [] → ∀ p, H p = none → Q (.ref p) (upd H p (.tup (xs ++ ys))))
theorem Vals.nil_iff {xs : List V} {us : List Value} (r : Vals xs us) : us = [] ↔ xs = [] := by
  cases r with
  | nil => simp
  | cons _ _ => simp
theorem op_catT : OpR X (binaryOp .Add) (rCatT X.K) := by
  intro pins s σ H x y v u Q I rx ry h
  obtain ⟨a, b, xs, ys, rfl, rfl, ha, hb, hx, hz, q1, q2⟩ := h
  cases rx
  cases ry
  obtain ⟨its, r1, p1, _⟩ := I.tuple ha
  obtain ⟨its2, r2, p2, _⟩ := I.tuple hb
  refine HT.cat_tup p1 p2 (fun z => hx (r1.nil_iff.mp z)) (fun z => ⟨.ref a, H, I, rfl, q1 (r2.nil_iff.mp z)⟩) (fun z => ?_) (by rw [← r1.length, ← r2.length]; exact hz)
  refine ⟨.ref s.heap.objs.size, _, I.laid (t' := s.toks) (o := .tup (xs ++ ys)) (fun b ob q => Heap.get?_push_of_some _ q) (Nat.le_refl _) ?_, rfl, q2 (fun w => z (r2.nil_iff.mpr w)) _ (I.hok.fresh (Nat.le_refl _))⟩
  exact ⟨by rw [List.length_append]; exact hz, _, r1.append r2, IsTupX.new _ _⟩
end
end L2

namespace L2
open PySem PySem.Spec PyProof.Rows

/-! ### places -/
/-- the place that an index of any sign means -/
def ixN (n : Nat) (i : Int) : Option Nat := if 0 ≤ i then (if i < n then some i.toNat else none) else if -(n : Int) ≤ i then some (i + n).toNat else none
def atI {α : Type} (xs : List α) (i : Int) : Option α := (ixN xs.length i).bind fun j => xs[j]?
theorem ixN_seq {n : Nat} {i : Int} {j : Nat} (h : ixN n i = some j) : seqIndex? i n = some j ∧ j < n ∧ -(n : Int) ≤ i ∧ i < n := by
  unfold ixN at h
  by_cases h0 : 0 ≤ i
  · rw [if_pos h0] at h
    by_cases h1 : i < n
    · rw [if_pos h1] at h
      have e : i.toNat = j := Option.some.inj h
      exact ⟨by rw [seqIndex_of h0 h1, e], by omega, by omega, h1⟩
    · rw [if_neg h1] at h; cases h
  · rw [if_neg h0] at h
    by_cases h1 : -(n : Int) ≤ i
    · rw [if_pos h1] at h
      have e : (i + n).toNat = j := Option.some.inj h
      exact ⟨by rw [seqIndex_neg (by omega) h1, e], by omega, h1, by omega⟩
    · rw [if_neg h1] at h; cases h
theorem atI_get {α : Type} {xs : List α} {i : Int} {v : α} (h : atI xs i = some v) : ∃ j, seqIndex? i xs.length = some j ∧ xs[j]? = some v ∧ j < xs.length ∧ -(xs.length : Int) ≤ i ∧ i < xs.length := by
  unfold atI at h
  cases e : ixN xs.length i with
  | none => rw [e] at h; cases h
  | some j =>
    rw [e] at h
    obtain ⟨h1, h2, h3, h4⟩ := ixN_seq e
    exact ⟨j, h1, h, h2, h3, h4⟩
theorem atI_nat {α : Type} {xs : List α} {j : Nat} {v : α} (h : xs[j]? = some v) : atI xs (j : Int) = some v := by
  have hj : j < xs.length := (List.getElem?_eq_some_iff.mp h).1
  have e : ixN xs.length (j : Int) = some j := by
    unfold ixN
    rw [if_pos (by omega), if_pos (by omega)]; simp
  unfold atI; rw [e]; exact h
theorem atI_last {α : Type} (xs : List α) (v : α) : atI (xs ++ [v]) (-1) = some v := by
  have hl : (xs ++ [v]).length = xs.length + 1 := by simp
  have e : ixN (xs ++ [v]).length (-1) = some xs.length := by
    unfold ixN
    rw [hl, if_neg (by decide), if_pos (by omega)]
    congr 1
    omega
  unfold atI
  rw [e]
  show (xs ++ [v])[xs.length]? = some v
  simp

/-! ### what may be subscripted -/
/-- what stands as an index of a plain subscript -/
def PlainIx (b : Expr) : Prop := ∀ o i, subscripted b false o i = operate [o, i] (getItem o i)
/-- a subscript by values -/
def IxR (X : Cx) (r : R2) : Prop :=
  ∀ (value slice : Expr) (pins : List (Addr × Obj)) (s : Shared) (σ : St) (H : Hp) (x y : V) (v u : Value) (Q : VK), Inv X pins σ H s → RelV x v → RelV y u → r x y H Q →
    subscripted slice false v u = operate [v, u] (getItem v u) → wpAny (model X.prog X.w) X.A (subscriptTail value slice v u) (EP X pins σ Q) X.xe s
/-- a call of a builtin's method by values: the receiver, the arguments -/
def MtR (X : Cx) (id : String) (r : V → List V → Hp → VK → Prop) : Prop :=
  ∀ (pins : List (Addr × Obj)) (s : Shared) (σ : St) (H : Hp) (x : V) (xs : List V) (v : Value) (us : List Value) (Q : VK), Inv X pins σ H s → RelV x v → Vals xs us → r x xs H Q →
    wpAny (model X.prog X.w) X.A (call (.builtin id) (v :: us)) (EP X pins σ Q) X.xe s
section
variable {X : Cx} {a b : Expr} {ta tb : TE} {pos : Pos}
/-- a[b] -/
theorem pe_ix {r : R2} (hr : IxR X r) (ha : PE X a ta) (hb : PE X b tb) (hs : PlainIx b) : PE X (.Subscript a b pos) (tOp r ta tb) := by
  intro pins s σ H Q I h
  exact Subscript_ (binT ha hb I h fun v u s2 x y H2 I2 rx ry q => hr a b pins s2 σ H2 x y v u Q I2 rx ry q (hs _ _))

def rIxL (K : PySem.W.Frag) : R2 := fun x y H Q => ∃ p xs i v, x = .ref p ∧ y = .int i ∧ SqL K H p xs ∧ atI xs i = some v ∧ Q v H
def rIxT (K : PySem.W.Frag) : R2 := fun x y H Q => ∃ p xs i v, x = .ref p ∧ y = .int i ∧ SqT K H p xs ∧ atI xs i = some v ∧ Q v H
theorem ix_list : IxR X (rIxL X.K) := by
  intro value slice pins s σ H x y v u Q I rx ry h hs
  obtain ⟨p, xs, i, z, rfl, rfl, hq, he, q⟩ := h
  cases rx
  obtain ⟨t, rfl⟩ := ry
  obtain ⟨its, r, pl, hz⟩ := I.list hq
  obtain ⟨j, h1, h2, h3, h4, h5⟩ := atI_get he
  obtain ⟨w, ew, rw'⟩ := r.get h2
  have hl := r.length
  have hn := line63
  have fin : EP X pins σ Q w s := ⟨z, H, I, rw', q⟩
  by_cases h0 : 0 ≤ i
  · have hj : i.toNat = j := by
      rw [seqIndex_of h0 h5] at h1
      exact Option.some.inj h1
    exact item_listR pl.isList h0 (by omega) (by rw [hj]; simpa using ew) fin hs
  · have hj : (i + (its.toArray.size : Int)).toNat = j := by
      rw [seqIndex_neg (by omega) h4] at h1
      rw [List.size_toArray, ← hl]
      exact Option.some.inj h1
    exact subscriptTail_builtinR (x := w) pl.isList.typeIs slot_list_getitem.lookup
      (wpAny_getItem_list_neg (Q := fun r s' => r = w ∧ EP X pins σ Q r s') pl.isList (by omega) (by rw [List.size_toArray] <;> omega) (by omega) (by rw [hj]; simpa using ew) ⟨rfl, fin⟩) hs
theorem ix_tup : IxR X (rIxT X.K) := by
  intro value slice pins s σ H x y v u Q I rx ry h hs
  obtain ⟨p, xs, i, z, rfl, rfl, hq, he, q⟩ := h
  cases rx
  obtain ⟨t, rfl⟩ := ry
  obtain ⟨its, r, pl, hz⟩ := I.tuple hq
  obtain ⟨j, h1, h2, h3, h4, h5⟩ := atI_get he
  obtain ⟨w, ew, rw'⟩ := r.get h2
  have hl := r.length
  have hn := line63
  have fin : EP X pins σ Q w s := ⟨z, H, I, rw', q⟩
  exact subscriptTail_builtinR (x := w) pl.typeIs slot_tuple_getitem.lookup
    (getItem_tuple (j := j) (Q := fun r s' => r = w ∧ EP X pins σ Q r s') pl (by omega) (by omega) (by rw [List.size_toArray, ← hl]; exact h1) (by simpa using ew) ⟨rfl, fin⟩) hs
/-! ### xs[i] = v, any sign -/
/-! ### slices -/
/-! ### in, not in: flat items -/
def flatV : V → Bool
  | .non => true
  | .bl _ => true
  | .int _ => true
  | .str _ => true
  | _ => false
/-- == of flat values -/
def eqV : V → V → Bool
  | .non, .non => true
  | .bl a, .bl b => a == b
  | .bl a, .int b => (if a then 1 else 0) == b
  | .int a, .bl b => a == (if b then 1 else 0)
  | .int a, .int b => a == b
  | .str a, .str b => a == b
  | _, _ => false
theorem eqAt_V {A : Around} {s : Shared} {y x : V} {u v : Value} (ry : RelV y u) (rx : RelV x v) (fy : flatV y = true) (fx : flatV x = true) : SeqAt.EqAt A s u v (eqV y x) := by
  cases y with
  | non =>
    cases ry
    cases x with
    | non => cases rx; exact SeqAt.EqAt.same _
    | bl b => cases rx; exact SeqAt.EqAt.none_bool b
    | int b => obtain ⟨t, rfl⟩ := rx; exact SeqAt.EqAt.none_int b t
    | str b => obtain ⟨t, rfl⟩ := rx; exact SeqAt.EqAt.none_str b t
    | _ => exact absurd (show false = true from fx) Bool.false_ne_true
  | bl a =>
    cases ry
    cases x with
    | non => cases rx; exact SeqAt.EqAt.bool_none a
    | bl b => cases rx; exact SeqAt.EqAt.bool_bool a b
    | int b => obtain ⟨t, rfl⟩ := rx; exact SeqAt.EqAt.bool_int a b t
    | str b => obtain ⟨t, rfl⟩ := rx; exact SeqAt.EqAt.bool_str a b t
    | _ => exact absurd (show false = true from fx) Bool.false_ne_true
  | int a =>
    obtain ⟨t', rfl⟩ := ry
    cases x with
    | non => cases rx; exact SeqAt.EqAt.int_none a t'
    | bl b => cases rx; exact SeqAt.EqAt.int_bool a t' b
    | int b => obtain ⟨t, rfl⟩ := rx; exact SeqAt.EqAt.int_int a t' b t
    | str b => obtain ⟨t, rfl⟩ := rx; exact SeqAt.EqAt.int_str a t' b t
    | _ => exact absurd (show false = true from fx) Bool.false_ne_true
  | str a =>
    obtain ⟨t', rfl⟩ := ry
    cases x with
    | non => cases rx; exact SeqAt.EqAt.str_none a t'
    | bl b => cases rx; exact SeqAt.EqAt.str_bool a t' b
    | int b => obtain ⟨t, rfl⟩ := rx; exact SeqAt.EqAt.str_int a t' b t
    | str b => obtain ⟨t, rfl⟩ := rx; exact SeqAt.EqAt.str_str a t' b t
    | _ => exact absurd (show false = true from fx) Bool.false_ne_true
  | _ => exact absurd (show false = true from fy) Bool.false_ne_true
/-- the items' answers, read off the values (a value's own answer does not lean on its token) -/
def eqU (x : V) (u : Value) : Bool := match u with
  | .none => eqV .non x
  | .bool b => eqV (.bl b) x
  | .int i _ => eqV (.int i) x
  | .str z _ => eqV (.str z) x
  | _ => false
theorem eqU_of {x y : V} {u : Value} (r : RelV y u) (f : flatV y = true) : eqU x u = eqV y x := by
  cases y with
  | non => cases r; rfl
  | bl b => cases r; rfl
  | int i => obtain ⟨t, rfl⟩ := r; rfl
  | str z => obtain ⟨t, rfl⟩ := r; rfl
  | _ => exact absurd (show false = true from f) Bool.false_ne_true
theorem any_eqU {x : V} : ∀ {xs : List V} {us : List Value}, Vals xs us → xs.all flatV = true → us.any (eqU x) = xs.any fun y => eqV y x
  | _, _, .nil, _ => rfl
  | y :: xs, u :: us, .cons r t, f => by
    rw [List.all_cons, Bool.and_eq_true] at f
    rw [List.any_cons, List.any_cons, eqU_of r f.1, any_eqU t f.2]
theorem mem_eqAt {A : Around} {s : Shared} {x : V} {v : Value} (rx : RelV x v) (fx : flatV x = true) : ∀ {xs : List V} {us : List Value}, Vals xs us → xs.all flatV = true → ∀ u ∈ us, SeqAt.EqAt A s u v (eqU x u)
  | _, _, .nil, _ => fun u hu => by cases hu
  | y :: xs, u :: us, .cons r t, f => fun u' hu => by
    rw [List.all_cons, Bool.and_eq_true] at f
    rcases List.mem_cons.mp hu with rfl | hu
    · rw [eqU_of r f.1]; exact eqAt_V r rx f.1 fx
    · exact mem_eqAt rx fx t f.2 u' hu
def inV (x : V) (xs : List V) : Bool := xs.any fun y => eqV y x
/-- x in a list or tuple of flat items -/
def rIn (K : PySem.W.Frag) (neg : Bool) : R2 := fun x y H Q => ∃ p xs, y = .ref p ∧ (SqL K H p xs ∨ SqT K H p xs) ∧ flatV x = true ∧ xs.all flatV = true ∧ Q (.bl (if neg then !inV x xs else inV x xs)) H
theorem op_in_seq : OpR X (compareOp .In) (rIn X.K false) := by
  intro pins s σ H x y v u Q I rx ry h
  obtain ⟨p, xs, rfl, hq, fx, fs, q⟩ := h
  cases ry
  rcases hq with hq | hq
  · obtain ⟨its, r, pl, hz⟩ := I.list hq
    refine SeqAt.in_listAt (eqU x) pl.isList (fun w hw => mem_eqAt rx fx r fs w (by simpa using hw)) ⟨.bl _, H, I, rfl, ?_⟩
    rw [show its.toArray.any (eqU x) = its.any (eqU x) by simp, any_eqU r fs]
    exact q
  · obtain ⟨its, r, pl, hz⟩ := I.tuple hq
    refine SeqAt.in_tupleAt (eqU x) pl (fun w hw => mem_eqAt rx fx r fs w (by simpa using hw)) ⟨.bl _, H, I, rfl, ?_⟩
    rw [show its.toArray.any (eqU x) = its.any (eqU x) by simp, any_eqU r fs]
    exact q
theorem op_notIn_seq : OpR X (compareOp .NotIn) (rIn X.K true) := by
  intro pins s σ H x y v u Q I rx ry h
  obtain ⟨p, xs, rfl, hq, fx, fs, q⟩ := h
  cases ry
  rcases hq with hq | hq
  · obtain ⟨its, r, pl, hz⟩ := I.list hq
    refine SeqAt.notIn_listAt (eqU x) pl.isList (fun w hw => mem_eqAt rx fx r fs w (by simpa using hw)) ⟨.bl _, H, I, rfl, ?_⟩
    rw [show its.toArray.any (eqU x) = its.any (eqU x) by simp, any_eqU r fs]
    exact q
  · obtain ⟨its, r, pl, hz⟩ := I.tuple hq
    refine SeqAt.notIn_tupleAt (eqU x) pl (fun w hw => mem_eqAt rx fx r fs w (by simpa using hw)) ⟨.bl _, H, I, rfl, ?_⟩
    rw [show its.toArray.any (eqU x) = its.any (eqU x) by simp, any_eqU r fs]
    exact q
/-! ### len, list(x), tuple(x) of any list or tuple that is read -/
theorem call_len_seq : CallR X (.builtin "len") (fun xs H Q => ∃ p ys, xs = [.ref p] ∧ (SqL X.K H p ys ∨ SqT X.K H p ys) ∧ Q (.int ys.length) H) := by
  intro pins s σ H xs us Q I r h
  obtain ⟨p, ys, rfl, hq, q⟩ := h
  obtain ⟨u, rfl, rx⟩ := vals1 r
  cases rx
  have hn := line63
  rcases hq with hq | hq
  · obtain ⟨its, r', pl, hz⟩ := I.list hq
    have hlen := r'.length
    exact Calls.call_len_list pl.isList (by simp only [List.size_toArray] <;> omega) ⟨.int ys.length, H, I.tok _, ⟨s.toks + 1, by rw [List.size_toArray, hlen]⟩, q⟩
  · obtain ⟨its, r', pl, hz⟩ := I.tuple hq
    have hlen := r'.length
    exact len_tuple pl (by simp only [List.size_toArray] <;> omega) ⟨.int ys.length, H, I.tok _, ⟨s.toks + 1, by rw [List.size_toArray, hlen]⟩, q⟩
theorem call_tuple_of : CallR X (.type "tuple") (fun xs H Q => ∃ p ys, xs = [.ref p] ∧ ((SqL X.K H p ys ∧ ∀ l, H l = none → Q (.ref l) (upd H l (.tup ys))) ∨ (SqT X.K H p ys ∧ Q (.ref p) H))) := by
  intro pins s σ H xs us Q I r h
  obtain ⟨p, ys, rfl, h⟩ := h
  obtain ⟨u, rfl, rx⟩ := vals1 r
  cases rx
  rcases h with ⟨hq, q⟩ | ⟨hq, q⟩
  · obtain ⟨its, r', pl, hz⟩ := I.list hq
    have hlen := r'.length
    refine call_tuple_list pl.isList (fun h' kp => ?_) (by simp only [List.size_toArray] <;> omega)
    have I1 : Inv X pins σ H { s with heap := h' } := I.kept (t' := s.toks) kp
    have I2 : Inv X pins σ (upd H h'.objs.size (.tup ys)) { s with heap := h'.push { cls := .type "tuple", data := .seq its.toArray } } :=
      I1.laid (t' := s.toks) (fun b o e => Heap.get?_push_of_some _ e) (Nat.le_refl _) (show ObjOk X.prog X.w _ _ _ (.tup ys) from ⟨hz, its, r', IsTupX.new _ _⟩)
    exact ⟨.ref h'.objs.size, _, I2, rfl, q _ (I1.hok.fresh (Nat.le_refl _))⟩
  · obtain ⟨its, r', pl, hz⟩ := I.tuple hq
    exact call_tuple_same pl ⟨.ref p, H, I, rfl, q⟩

/-! ### the call of a builtin's method: o.m(..) -/
/-- the value is of that builtin type -/
def tyV (K : PySem.W.Frag) (T : String) (x : V) (H : Hp) : Prop := match x with
  | .str _ => T = "str"
  | .int _ => T = "int"
  | .ref p => (T = "list" ∧ ∃ xs, SqL K H p xs) ∨ (T = "tuple" ∧ ∃ o, K.lookup p = some o ∧ o.cls = .type "tuple" ∧ o.dict = none) ∨
      (T = "dict" ∧ ((∃ kvs, H p = some (.dK kvs)) ∨ ∃ kvs, H p = some (.dT kvs))) ∨ (T = "set" ∧ ∃ S n, H p = some (.set S n)) ∨ (T = "tuple" ∧ ∃ xs, H p = some (.tup xs))
  | _ => False
theorem tyV_is {pins : List (Addr × Obj)} {σ : St} {H : Hp} {s : Shared} {T : String} {x : V} {v : Value} (I : Inv X pins σ H s) (r : RelV x v) (ty : tyV X.K T x H) :
    s.TypeIs v T ∧ ∀ a, v = .ref a → ∃ ob, s.heap.get? a = some ob ∧ ob.dict = none := by
  cases x with
  | str z =>
    obtain ⟨t, rfl⟩ := r
    cases (show T = "str" from ty)
    exact ⟨typeIs_str s z t, fun _ e => nomatch e⟩
  | int i =>
    obtain ⟨t, rfl⟩ := r
    cases (show T = "int" from ty)
    exact ⟨typeIs_int s i t, fun _ e => nomatch e⟩
  | ref p =>
    cases r
    rcases ty with ⟨rfl, xs, hq⟩ | ⟨rfl, o, hk, hc, hd⟩ | ⟨rfl, hk⟩ | ⟨rfl, S, n, hk⟩ | ⟨rfl, xs, hk⟩
    · obtain ⟨its, _, pl, _⟩ := I.list hq
      refine ⟨pl.isList.typeIs, fun a e => ?_⟩
      cases e
      obtain ⟨o, n, e, c, hd, _⟩ := pl
      exact ⟨o, e, hd⟩
    · refine ⟨⟨o, I.kIn p o hk, hc⟩, fun a e => ?_⟩
      cases e
      exact ⟨o, I.kIn _ o hk, hd⟩
    · have z : ∃ o, s.heap.get? p = some o ∧ o.ExactDict := by
        rcases hk with ⟨kvs, hk⟩ | ⟨kvs, hk⟩
        · obtain ⟨_, _, _, _, o, _, _, e, ex, _⟩ := I.hok p _ hk
          exact ⟨o, e, ex⟩
        · obtain ⟨_, _, _, _, o, _, _, e, ex, _⟩ := I.hok p _ hk
          exact ⟨o, e, ex⟩
      obtain ⟨o, e, ex⟩ := z
      refine ⟨⟨o, e, ex.1⟩, fun a e2 => ?_⟩
      cases e2
      exact ⟨o, e, ex.2.1⟩
    · obtain ⟨o, _, _, _, e, ex, _⟩ := I.hok p _ hk
      refine ⟨⟨o, e, ex.1⟩, fun a e2 => ?_⟩
      cases e2
      exact ⟨o, e, ex.2.1⟩
    · obtain ⟨_, its, _, o, h1, h2, n, h3, h4⟩ := (show ObjOk X.prog X.w H s.heap p (.tup xs) from I.hok p _ hk)
      exact ⟨⟨o, h1, h2⟩, fun a e => by cases e; exact ⟨o, h1, h4⟩⟩
  | _ => exact False.elim ty
def tBM (K : PySem.W.Frag) (T : String) (r : V → List V → Hp → VK → Prop) (to : TE) (t : TA) : TE := fun σ H Q => to σ H fun x H1 => tyV K T x H1 ∧ t σ H1 fun xs H2 => r x xs H2 Q
variable {o e : Expr} {es : List Expr} {to : TE} {t : TA} {name : Str} {apos cpos : Pos} {T id : String} {r : V → List V → Hp → VK → Prop}
theorem pe_bm (pa : PlainAttrs T) (slot : Slot T name id) (hty : typeOf (.builtin id) = pure (.type "method_descriptor")) (hm : MtR X id r) (ho : PE X o to) (ha : PA X (e :: es) t)
    (hbase : attributeBase o name X.env (eval o X.env) = eval o X.env := by rfl)
    (hfew : ((backTo cpos (starEach (e :: es) X.env)).all (fun x => !x.1) && (backToKw cpos (keywordEach [] X.env)).all (fun x => x.1.isSome)
      && decide ((e :: es).length + ([] : List Keyword).length + (if ([] : List Keyword).isEmpty then 0 else 1) < 30)) = true := by rfl)
    (hline : (apos.endLine == cpos.line) = true := by rfl) (hs : starEach (e :: es) X.env = (false, eval e X.env) :: starEach es X.env := by rfl) (hplain : (backTo cpos (starEach es X.env)).any (·.1) = false := by rfl) :
    PE X (.Call (.Attribute o name apos) (e :: es) [] cpos) (tBM X.K T r to t) := by
  intro pins s σ H Q I h
  refine wpAny_Call_method_late hbase hfew hline rfl (thn (ho pins s σ H _ I h) fun v s1 ⟨x, H1, I1, r1, ty, q1⟩ => ?_)
  obtain ⟨h1, h2⟩ := tyV_is I1 r1 ty
  refine ⟨T, id, pa, slot, hty, h1, h2, ?_⟩
  have hA := ha cpos pins s1 σ H1 _ I1 q1
  rw [hs] at hA ⊢
  refine Calls.callWith_builtin (by show (false || (backTo cpos (starEach es X.env)).any (·.1)) = false; rw [hplain] <;> rfl) (Calls.evalArgs_plain ?_)
  exact thn hA fun us s2 ⟨vs, H2, I2, r2, q2⟩ => hm pins s2 σ H2 x vs v us Q I2 r1 r2 q2
/- xs.append(e), list.index on a module's tuple .. are MtR facts of 06m -/
end
end L2

namespace L2
open PySem PySem.Spec PyProof.Rows

def MtM (X : Cx) (id : String) (r : V → List V → Hp → VK → Prop) : Prop :=
  ∀ (pins : List (Addr × Obj)) (s : Shared) (σ : St) (H : Hp) (x : V) (xs : List V) (v : Value) (us : List Value) (Q : VK), Inv X pins σ H s → RelV x v → Vals xs us → r x xs H Q →
    wpAny (model X.prog X.w) X.A (call (.builtin id) (v :: us)) (EP X pins σ Q) X.xe s

/-! ### lists of values -/
theorem Vals.one : ∀ {x : V} {us : List Value}, Vals [x] us → ∃ u, us = [u] ∧ RelV x u
  | _, _, .cons r .nil => ⟨_, rfl, r⟩
theorem Vals.rep {xs : List V} {us : List Value} (h : Vals xs us) : ∀ k : Nat, Vals (List.replicate k xs).flatten (List.replicate k us).flatten
  | 0 => .nil
  | k + 1 => by
    rw [List.replicate_succ, List.replicate_succ, List.flatten_cons, List.flatten_cons]
    exact Vals.append h (Vals.rep h k)
theorem foldl_rep (its : List Value) : ∀ (k : Nat) (acc : List Value),
    List.foldl (fun x1 x2 => x1 ++ x2) acc.toArray (List.replicate k its.toArray) = (acc ++ (List.replicate k its).flatten).toArray
  | 0, acc => by simp
  | k + 1, acc => by
    have e : acc.toArray ++ its.toArray = (acc ++ its).toArray := by simp
    have e2 : (acc ++ its) ++ (List.replicate k its).flatten = acc ++ (List.replicate (k + 1) its).flatten := by
      rw [List.replicate_succ, List.flatten_cons, List.append_assoc]
    rw [← e2, ← foldl_rep its k (acc ++ its), ← e, List.replicate_succ, List.foldl_cons]

section
variable {X : Cx} {pins : List (Addr × Obj)} {σ : St} {H : Hp} {s : Shared} {l b : Addr} {xs ys zs : List V}

/-! ### the two steps: a tracked list is rewritten, a new list is laid -/
theorem Inv.lset {its its' : List Value} {n : Nat} {f : Array Value → Array Value} {t' : Nat} (I : Inv X pins σ H s) (hH : H l = some (.lst xs))
    (e : s.heap.get? l = some { cls := .type "list", data := .seq its.toArray n }) (hf : f its.toArray = its'.toArray) (hv : Vals ys its') (hz : ys.length ≤ sizeLine) :
    Inv X pins σ (upd H l (.lst ys)) { s with heap := s.heap.update l (Obj.mapSeq f), toks := t' } := by
  have q := PySem.IsL.update e f
  rw [hf] at q
  refine I.write (x := l) (e := l) (by rw [hH]; exact trivial) (.inl rfl) (fun b' u hb hu => (Heap.get?_update_other s.heap (Obj.mapSeq f) (Ne.symm hb)).trans hu) ⟨_, q⟩ ?_
  exact ⟨hz, its', _, hv, q⟩
theorem Inv.lnew {its : List Value} {t' : Nat} (I : Inv X pins σ H s) (hv : Vals ys its) (hz : ys.length ≤ sizeLine) :
    Inv X pins σ (upd H s.heap.objs.size (.lst ys)) { s with heap := s.heap.push { cls := .type "list", data := .seq its.toArray }, toks := t' } :=
  I.laid (fun _ _ q => Heap.get?_push_of_some _ q) (Nat.le_refl _) ⟨hz, its, 0, hv, Heap.get?_push_size _ rfl⟩
theorem Inv.fresh (I : Inv X pins σ H s) : H s.heap.objs.size = none := I.hok.fresh (Nat.le_refl _)
theorem Inv.lstM (I : Inv X pins σ H s) (hH : H l = some (.lst xs)) : xs.length ≤ sizeLine ∧ ∃ (its : List Value) (n : Nat), Vals xs its ∧ xs.length = its.length ∧ s.heap.get? l = some { cls := .type "list", data := .seq its.toArray n } := by
  obtain ⟨z, its, n, r, e⟩ := I.hok l _ hH
  exact ⟨z, its, n, r, r.length, e⟩

theorem notLongL {n : Nat} (h : n ≤ sizeLine) : Builtin.List.listTooLong n = false := by
  unfold Builtin.List.listTooLong
  exact decide_eq_false (by omega)
end

section
variable {X : Cx}

/-! ### methods -/
def rAppend : V → List V → Hp → VK → Prop := fun x vs H Q => ∃ l xs y, x = .ref l ∧ vs = [y] ∧ H l = some (.lst xs) ∧ xs.length < sizeLine ∧ Q .non (upd H l (.lst (xs ++ [y])))
theorem mt_append : MtM X "list.append" rAppend := by
  intro pins s σ H x vs v us Q I rx rv h
  obtain ⟨l, xs, y, rfl, rfl, hH, hz, q⟩ := h
  cases rx
  obtain ⟨u, rfl, ru⟩ := rv.one
  obtain ⟨z, its, n, r, hl, e⟩ := I.lstM hH
  refine call_meets F.slot_list_append ⟨_, e, rfl⟩ F.entry_list_append (F.args_list_append_2 _ _) (PySem.list_append l its.toArray n u (by rw [List.size_toArray]; omega)) ⟨e, ?_⟩
  refine ⟨.non, _, I.lset (its' := its ++ [u]) hH e (by simp) (r.append (.cons ru .nil)) ?_, rfl, q⟩
  rw [List.length_append, List.length_singleton]
  omega

def rExtend : V → List V → Hp → VK → Prop := fun x vs H Q => ∃ l b xs zs, x = .ref l ∧ vs = [.ref b] ∧ H l = some (.lst xs) ∧ H b = some (.lst zs) ∧ xs.length + zs.length ≤ sizeLine ∧ Q .non (upd H l (.lst (xs ++ zs)))
theorem mt_extend : MtM X "list.extend" rExtend := by
  intro pins s σ H x vs v us Q I rx rv h
  obtain ⟨l, b, xs, zs, rfl, rfl, hH, hB, hz, q⟩ := h
  cases rx
  obtain ⟨u, rfl, ru⟩ := rv.one
  cases ru
  obtain ⟨z, its, n, r, hl, e⟩ := I.lstM hH
  obtain ⟨z2, its2, n2, r2, hl2, e2⟩ := I.lstM hB
  have hsz : its.toArray.size + its2.toArray.size ≤ sizeLine := by rw [List.size_toArray, List.size_toArray]; omega
  have hlong : ¬ (!its.toArray.isEmpty && Builtin.List.listTooLong (its.toArray.size + its2.toArray.size)) = true := by
    rw [notLongL hsz, Bool.and_false]
    exact Bool.false_ne_true
  refine call_meets F.slot_list_extend ⟨_, e, rfl⟩ F.entry_list_extend (F.args_list_extend_2 _ _)
    (AutoSeq1.list_extend_list_list_0 l its.toArray n b its2.toArray n2 hlong (by rw [List.size_toArray]; omega) (by omega)) ⟨e, e2, ?_⟩
  refine ⟨.non, _, I.lset (its' := its ++ its2) hH e (by simp) (r.append r2) ?_, rfl, q⟩
  rw [List.length_append]
  omega

/-! ### list + list, list += list, list * int -/
/-- a list times an int (a negative one is nothing) -/
def rRep : R2 := fun x y H Q => ∃ l k xs, x = .ref l ∧ y = .int k ∧ H l = some (.lst xs) ∧ -(2 ^ 63) ≤ k ∧ k < 2 ^ 63 ∧ xs.length * k.toNat ≤ sizeLine ∧
  ∀ p, H p = none → Q (.ref p) (upd H p (.lst (List.replicate k.toNat xs).flatten))
theorem len_rep {α : Type} (xs : List α) (k : Nat) : (List.replicate k xs).flatten.length = k * xs.length := by
  induction k with
  | zero => simp
  | succ k ih => rw [List.replicate_succ, List.flatten_cons, List.length_append, ih, Nat.succ_mul, Nat.add_comm]
theorem op_rep : OpR X (binaryOp .Mult) rRep := by
  intro pins s σ H x y v u Q I rx ry h
  obtain ⟨l, k, xs, rfl, rfl, hH, h1, h2, hz, q⟩ := h
  cases rx
  obtain ⟨t, rfl⟩ := ry
  obtain ⟨z, its, n, r, hl, e⟩ := I.lstM hH
  have hlen : its.toArray.size * k.toNat ≤ sizeLine := by rw [List.size_toArray, ← hl]; exact hz
  have hcap : ¬ its.toArray.size * k.toNat > (2 ^ 63 - 1) / 8 := by
    have : (sizeLine : Nat) ≤ (2 ^ 63 - 1) / 8 := by decide
    omega
  have hfit : ¬ (!Builtin.List.listFitsIndex k) = true := by
    rw [fitsIndex_both h1 h2]
    exact Bool.false_ne_true
  have hlong : ¬ Builtin.List.listTooLong (its.toArray.size * k.toNat) = true := by
    rw [notLongL hlen]
    exact Bool.false_ne_true
  have hnew : List.foldl (fun x1 x2 => x1 ++ x2) #[] (List.replicate (if its.toArray.isEmpty = true then 0 else k.toNat) its.toArray) = (List.replicate k.toNat its).flatten.toArray := by
    have f0 : ∀ m : Nat, List.foldl (fun x1 x2 => x1 ++ x2) #[] (List.replicate m its.toArray) = (List.replicate m its).flatten.toArray := fun m => by
      have := foldl_rep its m []
      rw [List.nil_append] at this
      exact this
    rw [f0]
    cases its with
    | nil => simp
    | cons a r' => rw [if_neg (by simp)]
  refine wpAny_binaryOp_repeat_ref (T := "list") (U := "int") (by decide) ⟨_, e, rfl⟩ (fun s' => typeIs_int s' k t) noFill_list_mul F.fills_int_mul F.slot_int_rmul repeat_list F.slot_int_index.lookup
    (call_meets F.slot_int_rmul (typeIs_int s k t) F.entry_int_rmul (F.args_int_rmul_2 _ _) (int___rmul___int_list k t l its.toArray n)
      ⟨e, rfl, ⟨_, e, rfl⟩, call_meets F.slot_list_mul ⟨_, e, rfl⟩ F.entry_list_mul (F.args_list_mul_2 _ _) (AutoListH.list___mul___list_int_3 l its.toArray n k t hfit hcap hlong) ⟨e, ?_⟩⟩)
  rw [hnew]
  exact ⟨.ref _, _, I.lnew (t' := s.toks) (r.rep k.toNat) (by rw [len_rep, Nat.mul_comm]; exact hz), rfl, q _ I.fresh⟩

/-! ### del xs[i] -/
end

/-! ### xs[a:b] = ys -/
section
variable {prog : Program} {w : World} {A : Around} {E : Value → Shared → Prop} {s : Shared}
theorem splice_eq (its its2 : List Value) (a c : Nat) : its.toArray.extract 0 a ++ its2.toArray ++ its.toArray.extract c its.toArray.size = (its.take a ++ its2 ++ its.drop c).toArray := by
  apply Array.toList_inj.mp
  first
    | (simp
       exact List.take_of_length_le (by simp))
    | simp [List.take_of_length_le]
    | simp
end

section
variable {X : Cx}
end
end L2

namespace L2
open PySem PySem.Spec PyProof.Rows

/-! ### lists of pairs as tables -/
section
variable {κ : Type} [DecidableEq κ]
def valV (kvs : List (κ × V)) (k : κ) : Option V := (kvs.find? fun kv => decide (kv.1 = k)).map (·.2)
/-- in its place, or at the end -/
def putK (kvs : List (κ × V)) (k : κ) (v : V) : List (κ × V) :=
  if (kvs.any fun kv => decide (kv.1 = k)) = true then kvs.map (fun kv => if kv.1 = k then (kv.1, v) else kv) else kvs ++ [(k, v)]
theorem valV_pos {p : κ × V} {r : List (κ × V)} {k : κ} (e : p.1 = k) : valV (p :: r) k = some p.2 := by simp [valV, List.find?_cons, e]
theorem valV_neg {p : κ × V} {r : List (κ × V)} {k : κ} (e : ¬ p.1 = k) : valV (p :: r) k = valV r k := by simp [valV, List.find?_cons, e]
theorem valV_any (k : κ) : ∀ kvs : List (κ × V), (kvs.any fun kv => decide (kv.1 = k)) = (valV kvs k).isSome
  | [] => rfl
  | p :: r => by
    rw [List.any_cons]
    by_cases e : p.1 = k
    · simp only [valV_pos e, decide_eq_true e, Bool.true_or, Option.isSome_some]
    · rw [valV_neg e, decide_eq_false e, Bool.false_or]; exact valV_any k r
theorem length_putK (kvs : List (κ × V)) (k : κ) (v : V) : (putK kvs k v).length ≤ kvs.length + 1 := by
  unfold putK
  split
  · rw [List.length_map]; omega
  · rw [List.length_append, List.length_cons, List.length_nil]; omega
theorem RelO.isSome_eq {o : Option V} {u : Option Value} (r : RelO o u) : o.isSome = u.isSome := by
  cases o with
  | none => cases u with
    | none => rfl
    | some _ => exact (show False from r).elim
  | some _ => cases u with
    | none => exact (show False from r).elim
    | some _ => rfl
theorem RelO.getD {o : Option V} {u : Option Value} {d : V} {d' : Value} (r : RelO o u) (rd : RelV d d') : RelV (o.getD d) (u.getD d') := by
  cases o with
  | none => cases u with
    | none => exact rd
    | some _ => exact (show False from r).elim
  | some _ => cases u with
    | none => exact (show False from r).elim
    | some _ => exact r

/-- raw tables of the same keys -/
theorem KV.val {kvs : List (κ × V)} {vs : List (κ × Value)} (r : KV kvs vs) (k : κ) : RelO (valV kvs k) (valueAt vs k) := by
  unfold KV at r
  induction r with
  | nil => exact True.intro
  | @cons p q ps qs h t ih =>
    obtain ⟨h1, h2⟩ := h
    by_cases e : p.1 = k
    · have e' : q.1 = k := h1.symm.trans e
      have b : valueAt (q :: qs) k = some q.2 := by simp [valueAt, List.find?_cons, e']
      rw [valV_pos e, b]; exact h2
    · have e' : ¬ q.1 = k := fun z => e (h1.trans z)
      have b : valueAt (q :: qs) k = valueAt qs k := by simp [valueAt, List.find?_cons, e']
      rw [valV_neg e, b]; exact ih
theorem KV.any {kvs : List (κ × V)} {vs : List (κ × Value)} (r : KV kvs vs) (k : κ) : (kvs.any fun kv => decide (kv.1 = k)) = vs.any fun kv => decide (kv.1 = k) := by
  unfold KV at r
  induction r with
  | nil => rfl
  | cons h t ih => rw [List.any_cons, List.any_cons, ih, h.1]
theorem KV.repl {kvs : List (κ × V)} {vs : List (κ × Value)} (r : KV kvs vs) (k : κ) {y : V} {u : Value} (ry : RelV y u) :
    KV (kvs.map fun kv => if kv.1 = k then (kv.1, y) else kv) (vs.map fun kv => if kv.1 = k then (kv.1, u) else kv) := by
  unfold KV at r ⊢
  induction r with
  | nil => exact .nil
  | @cons p q ps qs h t ih =>
    rw [List.map_cons, List.map_cons]
    refine .cons ?_ ih
    obtain ⟨h1, h2⟩ := h
    by_cases e : p.1 = k
    · rw [if_pos e, if_pos (h1.symm.trans e)]; exact ⟨h1, ry⟩
    · rw [if_neg e, if_neg (fun z => e (h1.trans z))]; exact ⟨h1, h2⟩
theorem KV.put {kvs : List (κ × V)} {vs : List (κ × Value)} (r : KV kvs vs) (k : κ) {y : V} {u : Value} (ry : RelV y u) : KV (putK kvs k y) (stored vs k u) := by
  unfold putK stored
  rw [r.any k]
  by_cases e : (vs.any fun kv => decide (kv.1 = k)) = true
  · rw [if_pos e, if_pos e]; exact r.repl k ry
  · rw [if_neg e, if_neg e]; exact Paired.snoc r ⟨rfl, ry⟩
theorem KV.length {kvs : List (κ × V)} {vs : List (κ × Value)} (r : KV kvs vs) : kvs.length = vs.length := Paired.length r
end


/-! ### a tracked dict, its keys ints and texts or tuples of these -/
theorem kV_is {P : Program} {w : World} {k : Key} {u : Value} (r : RelV (kV k) u) : (mixKind P w).is k u = true := by
  cases k with
  | inl i => obtain ⟨t, e⟩ := (show ∃ t, u = Value.int i t from r); subst e; exact mixKind_int P w i t
  | inr x => obtain ⟨t, e⟩ := (show ∃ t, u = Value.str x t from r); subst e; exact mixKind_str P w x t
theorem items_are {P : Program} {w : World} : ∀ {ks : List Key} {us : List Value}, Vals (ks.map kV) us → ItemsAre (mixKind P w) ks us
  | [], _, r => by rw [List.map_nil] at r; cases r; exact .nil
  | k :: ks, _, r => by
    rw [List.map_cons] at r
    cases r with
    | cons h t => exact .cons (kV_is h) (items_are t)

/-- raw entries of a dict with tuple keys -/
abbrev KT (H : Hp) : List (List Key × V) → List (List Key × Addr × Value) → Prop := Paired fun p q => p.1 = q.1 ∧ H q.2.1 = some (.tup (p.1.map kV)) ∧ RelV p.2 q.2.2
theorem KT.val {H : Hp} {kvs : List (List Key × V)} {xs : List (List Key × Addr × Value)} (r : KT H kvs xs) (k : List Key) : RelO (valV kvs k) ((atKey xs k).map (·.2)) := by
  induction r with
  | nil => exact True.intro
  | @cons p q ps qs h t ih =>
    obtain ⟨h1, _, h2⟩ := h
    by_cases e : p.1 = k
    · have e' : q.1 = k := h1.symm.trans e
      have b : atKey (q :: qs) k = some q.2 := by simp [atKey, List.find?_cons, e']
      rw [valV_pos e, b]; exact h2
    · have e' : ¬ q.1 = k := fun z => e (h1.trans z)
      have b : atKey (q :: qs) k = atKey qs k := by simp [atKey, List.find?_cons, e']
      rw [valV_neg e, b]; exact ih
theorem KT.repl {H : Hp} {kvs : List (List Key × V)} {xs : List (List Key × Addr × Value)} (r : KT H kvs xs) (k : List Key) {y : V} {u : Value} (ry : RelV y u) :
    KT H (kvs.map fun kv => if kv.1 = k then (kv.1, y) else kv) (xs.map (putAt k u)) := by
  induction r with
  | nil => exact .nil
  | @cons p q ps qs h t ih =>
    rw [List.map_cons, List.map_cons]
    refine .cons ?_ ih
    obtain ⟨h1, h2, h3⟩ := h
    unfold putAt
    by_cases e : p.1 = k
    · rw [if_pos e, if_pos (h1.symm.trans e)]; exact ⟨h1, h2, ry⟩
    · rw [if_neg e, if_neg (fun z => e (h1.trans z))]; exact ⟨h1, h2, h3⟩
theorem KT.put {H : Hp} {kvs : List (List Key × V)} {xs : List (List Key × Addr × Value)} (r : KT H kvs xs) (k : List Key) {b : Addr} {y : V} {u : Value} (hb : H b = some (.tup (k.map kV))) (ry : RelV y u) :
    KT H (putK kvs k y) (storedH xs k b u) := by
  have e : (kvs.any fun kv => decide (kv.1 = k)) = (atKey xs k).isSome := by
    rw [valV_any, (r.val k).isSome_eq, Option.isSome_map]
  unfold putK storedH
  rw [e]
  by_cases q : (atKey xs k).isSome = true
  · rw [if_pos q, if_pos q]; exact r.repl k ry
  · rw [if_neg q, if_neg q]; exact Paired.snoc r ⟨rfl, hb, ry⟩
theorem KT.keeps {H H' : Hp} {kvs : List (List Key × V)} {xs : List (List Key × Addr × Value)} (r : KT H kvs xs) (ht : ∀ b ys, H b = some (.tup ys) → H' b = some (.tup ys)) : KT H' kvs xs :=
  Paired.mapP r fun _ _ z => ⟨z.1, ht _ _ z.2.1, z.2.2⟩

section
variable {P : Program} {w : World} {H : Hp} {h : Heap} {a : Addr}
theorem rd_of {u : HO} (ok : HOk P w H h) (e : Rd H a u) : ObjOk P w H h a u := e.ok ok
theorem dk_rd {kvs : List (Key × V)} (ok : HOk P w H h) (e : Rd H a (.dK kvs)) : kvs.length ≤ sizeLine ∧ (a == sysModules) = false ∧ ∃ vs, KV kvs vs ∧ h.DictOf (mixKind P w) a vs :=
  show ObjOk P w H h a (.dK kvs) from rd_of ok e
theorem dk_of {kvs : List (Key × V)} (ok : HOk P w H h) (e : H a = some (.dK kvs)) : kvs.length ≤ sizeLine ∧ (a == sysModules) = false ∧ ∃ vs, KV kvs vs ∧ h.DictOf (mixKind P w) a vs := dk_rd ok (.inl e)
/-- a tracked tuple of ints and texts is a key -/
theorem key_of {ks : List Key} (ok : HOk P w H h) (e : H a = some (.tup (ks.map kV))) : (tupleKind (mixKind P w)).is h ks a := by
  obtain ⟨_, its, r, o, h1, h2, n, h3, _⟩ := (show ObjOk P w H h a (.tup (ks.map kV)) from ok a _ e)
  exact ⟨o, its.toArray, n, h1, h2, h3, by simpa using items_are r⟩
theorem dt_rd {kvs : List (List Key × V)} (ok : HOk P w H h) (e : Rd H a (.dT kvs)) : kvs.length ≤ sizeLine ∧ (a == sysModules) = false ∧
    ∃ xs, KT H kvs xs ∧ h.DictOfH (tupleKind (mixKind P w)) a xs := by
  obtain ⟨z, y, xs, r, o, es, ep, h1, h2, h3, h4, h5⟩ := (show ObjOk P w H h a (.dT kvs) from rd_of ok e)
  refine ⟨z, y, xs, r, o, es, ep, h1, h2, h3, h4, fun x hx => ?_, h5⟩
  have all : ∀ {l : List (List Key × V)} {m : List (List Key × Addr × Value)}, KT H l m → ∀ x ∈ m, (tupleKind (mixKind P w)).is h x.1 x.2.1 := by
    intro l m q
    induction q with
    | nil => intro x hx; exact nomatch hx
    | @cons p q ps qs hq t ih =>
      intro x hx
      rcases List.mem_cons.mp hx with e | hx
      · subst e
        exact key_of ok (by rw [← hq.1]; exact hq.2.1)
      · exact ih x hx
  exact all r x hx
theorem dt_of {kvs : List (List Key × V)} (ok : HOk P w H h) (e : H a = some (.dT kvs)) : kvs.length ≤ sizeLine ∧ (a == sysModules) = false ∧
    ∃ xs, KT H kvs xs ∧ h.DictOfH (tupleKind (mixKind P w)) a xs := dt_rd ok (.inl e)
end

/-- what the dict at a holds at the key y -/
def DGet (H : Hp) (a : Addr) (y : V) (r : Option V) : Prop :=
  (∃ kvs k, Rd H a (.dK kvs) ∧ y = kV k ∧ r = valV kvs k) ∨ ∃ kvs k b, Rd H a (.dT kvs) ∧ y = .ref b ∧ H b = some (.tup (k.map kV)) ∧ r = valV kvs k
/-- the heap behind a[y] = v -/
def DPut (H : Hp) (a : Addr) (y v : V) (H' : Hp) : Prop :=
  (∃ kvs k, H a = some (.dK kvs) ∧ y = kV k ∧ kvs.length < sizeLine ∧ H' = upd H a (.dK (putK kvs k v))) ∨
  ∃ kvs k b, H a = some (.dT kvs) ∧ y = .ref b ∧ H b = some (.tup (k.map kV)) ∧ kvs.length < sizeLine ∧ H' = upd H a (.dT (putK kvs k v))
theorem DGet.k {H : Hp} {a : Addr} {kvs : List (Key × V)} {k : Key} (e : H a = some (.dK kvs)) : DGet H a (kV k) (valV kvs k) := .inl ⟨kvs, k, .inl e, rfl, rfl⟩
theorem DPut.k {H : Hp} {a : Addr} {kvs : List (Key × V)} {k : Key} {v : V} (e : H a = some (.dK kvs)) (hl : kvs.length < sizeLine) : DPut H a (kV k) v (upd H a (.dK (putK kvs k v))) := .inl ⟨kvs, k, e, rfl, hl, rfl⟩
section
variable {X : Cx} {pins : List (Addr × Obj)} {σ : St} {H : Hp} {s : Shared} {a : Addr} {y v : V} {u r : Value} {o : Option V} {A : Around} {E : Value → Shared → Prop}

theorem Inv.big (I : Inv X pins σ H s) : sysModules < s.heap.objs.size := by
  have h : mainGlobals < s.heap.objs.size := (I.mod.glob.keeps I.bk).lt
  exact Nat.lt_trans (by decide) h

/-- d[y], there -/
theorem d_getItem {Q : Value → Shared → Prop} (hu : A.units + 1 < cLine) (I : Inv X pins σ H s) (g : DGet H a y (some v)) (ry : RelV y u) (h : ∀ w' s', Inv X pins σ H s' → RelV v w' → Q w' s') :
    wpAny (model X.prog X.w) A (getItem (.ref a) u) Q E s := by
  rcases g with ⟨kvs, k, e, ey, l⟩ | ⟨kvs, k, b, e, ey, eb, l⟩
  · subst ey
    obtain ⟨z, hd, vs, rel, dd⟩ := dk_rd I.hok e
    obtain ⟨w', hw, rw'⟩ := RelO.some_of (v := v) (o := valueAt vs k) (by rw [l]; exact rel.val k)
    exact wpAny_getItem_of (kV_is ry) dd.mapOf hw (h w' _ (I.tok _) rw')
  · subst ey
    cases (show u = Value.ref b from ry)
    obtain ⟨z, hd, xs, rel, dd⟩ := dt_rd I.hok e
    obtain ⟨w', hw, rw'⟩ := RelO.some_of (v := v) (o := (atKey xs k).map (·.2)) (by rw [l]; exact rel.val k)
    obtain ⟨p, hp, hp2⟩ := Option.map_eq_some_iff.mp hw
    refine wpAny_getItem_heap (tupleKind_room_in1 hu) (key_of I.hok eb) dd hp ?_
    rw [hp2]
    exact h w' _ (I.tok _) rw'
/-- a dict's object is replaced -/
theorem d_write {h' : Heap} {t' : Nat} {ob : HO} (I : Inv X pins σ H s) (mu : Mut (H a)) (hs : Heap.SameBut a s.heap h') (he : ∃ q, h'.get? a = some q) (new : ObjOk X.prog X.w (upd H a ob) h' a ob) :
    Inv X pins σ (upd H a ob) { s with heap := h', toks := t' } :=
  I.write (x := a) (e := a) mu (.inl rfl) (fun b q hb z => (hs.2 b hb).trans z) he new
theorem dk_new {P : Program} {w : World} {H' : Hp} {h' : Heap} {kvs : List (Key × V)} {vs : List (Key × Value)} (z : kvs.length ≤ sizeLine) (hd : (a == sysModules) = false) (rel : KV kvs vs) (dd : h'.DictOf (mixKind P w) a vs) :
    ObjOk P w H' h' a (.dK kvs) := ⟨z, hd, vs, rel, dd⟩
/-- d[y] = v -/
theorem d_setItem {H' : Hp} {Q : Unit → Shared → Prop} (hu : A.units + 1 < cLine) (I : Inv X pins σ H s) (g : DPut H a y v H') (ry : RelV y u) (rv : RelV v r) (h : ∀ s', Inv X pins σ H' s' → Q () s') :
    wpAny (model X.prog X.w) A (setItem (.ref a) u r) Q E s := by
  rcases g with ⟨kvs, k, e, ey, l, eH⟩ | ⟨kvs, k, b, e, ey, eb, l, eH⟩
  · subst ey eH
    obtain ⟨z, hd, vs, rel, dd⟩ := dk_of I.hok e
    have hz : vs.length ≤ sizeLine := by rw [← rel.length]; exact z
    have hl : (putK kvs k v).length ≤ sizeLine := by have := length_putK kvs k v; omega
    refine wpAny_setItem_pairs (hsz := hz) (kV_is ry) dd fun h' dd' hs => h _ ?_
    have he : ∃ q, h'.get? a = some q := let ⟨q, _, _, hq, _⟩ := dd'; ⟨q, hq⟩
    exact d_write I (by rw [e]; exact True.intro) hs he (dk_new hl hd (rel.put k rv) dd')
  · subst ey eH
    cases (show u = Value.ref b from ry)
    obtain ⟨z, hd, xs, rel, dd⟩ := dt_of I.hok e
    have hz : xs.length ≤ sizeLine := by rw [← Paired.length rel]; exact z
    have hl : (putK kvs k v).length ≤ sizeLine := by have := length_putK kvs k v; omega
    refine wpAny_setItem_heap (hsz := hz) (tupleKind_room_in1 hu) (key_of I.hok eb) dd fun h' dd' hs => h _ ?_
    obtain ⟨q, es, ep, hq, h2, h3, h4, _, h5⟩ := dd'
    refine d_write I (by rw [e]; exact True.intro) hs ⟨q, hq⟩ ⟨hl, hd, _, (rel.put k eb rv).keeps fun c ys ec => ?_, q, es, ep, hq, h2, h3, h4, h5⟩
    rw [upd_ne (ne_of ec e (fun z => nomatch z))]
    exact ec
end

section
variable {X : Cx} {pins : List (Addr × Obj)} {σ : St} {H : Hp} {s : Shared} {a : Addr} {kvs : List (Key × V)} {k : Key} {u : Value} {A : Around} {E : Value → Shared → Prop}
end


/-! ### readings and rules -/
/-- the element of a subscription, not a slice -/
def NoSl (i : Expr) : Prop := ∀ ov iv, subscripted i false ov iv = operate [ov, iv] (getItem ov iv)
theorem subD_of {prog : Program} {w : World} {A : Around} {E : Value → Shared → Prop} {s : Shared} {env : Env} {value slice : Expr} {pos : Pos} {T id : String} {Q : Value → Shared → Prop}
    (hl : typeLookup (.type T) "__getitem__" = pure (some (.builtin id))) (hs : NoSl slice)
    (h : wpAny (model prog w) A (eval value env) (fun o s₁ => wpAny (model prog w) A (eval slice env) (fun i s₂ => s₂.TypeIs o T ∧ wpAny (model prog w) A (getItem o i) Q E s₂) E s₁) E s) :
    wpAny (model prog w) A (eval (.Subscript value slice pos) env) Q E s := by
  refine Subscript_ (wpAny_mono h (fun o s₁ h₁ => wpAny_mono h₁ (fun i s₂ h₂ => ?_) fun _ _ x => x) fun _ _ x => x)
  obtain ⟨hT, h₂⟩ := h₂
  unfold subscriptTail
  refine wpAny_bind ?_
  rw [getitemInPython_of_ne hT.not_modules]
  refine wpAny_bind (wpAny_specialOf hT hl ?_)
  have fin : wpAny (model prog w) A (subscripted slice false o i) (fun r s₃ => wpAny (model prog w) A (letTemporaryGo value o r >>= fun _ => pure r) Q E s₃) E s₂ := by
    rw [hs o i]
    exact wpAny_operating (wpAny_mono h₂ (fun r s₃ h₃ => wpAny_bind (wpAny_letTemporaryGo (wpAny_pure h₃))) fun _ _ x => x)
  first
    | exact wpAny_pure (wpAny_bind fin)
    | exact wpAny_bind (wpAny_pure (wpAny_bind fin))
    | exact wpAny_bind fin

theorem dict_typeIs {X : Cx} {pins : List (Addr × Obj)} {σ : St} {H : Hp} {s : Shared} {a : Addr} {y : V} {o : Option V} (I : Inv X pins σ H s) (g : DGet H a y o) : s.TypeIs (.ref a) "dict" := by
  rcases g with ⟨kvs, k, e, _, _⟩ | ⟨kvs, k, b, e, _, _, _⟩
  · obtain ⟨_, _, vs, _, dd⟩ := dk_rd I.hok e
    exact dd.typeIs
  · obtain ⟨_, _, xs, _, dd⟩ := dt_rd I.hok e
    exact dd.typeIs
/-- d[y] -/
def tDGet (td ty : TE) : TE := fun σ H Q => td σ H fun x H1 => ty σ H1 fun y H2 => ∃ a v, x = .ref a ∧ DGet H2 a y (some v) ∧ Q v H2
/-- d[y] = v -/
def sDPut (td ty tv : TE) : TS := fun D σ H => tv σ H fun v H1 => td σ H1 fun x H2 => ty σ H2 fun y H3 => ∃ a H4, x = .ref a ∧ DPut H3 a y v H4 ∧ D.nx σ H4
section
variable {X : Cx} {o i e value : Expr} {pos pos' tpos : Pos} {td ty tv : TE}
theorem pe_dget (hu : X.A.units + 1 < cLine) (ho : PE X o td) (hi : PE X i ty) (hs : NoSl i) : PE X (.Subscript o i pos) (tDGet td ty) := by
  intro pins s σ H Q I h
  refine subD_of PySem.F.slot_dict_getitem.lookup hs (thn (ho pins s σ H _ I h) fun u s1 ⟨x, H1, I1, rx, q1⟩ => thn (hi pins s1 σ H1 _ I1 q1) fun iv s2 ⟨y, H2, I2, ry, a, v, ex, g, q2⟩ => ?_)
  subst ex
  obtain rfl : u = Value.ref a := rx
  exact ⟨dict_typeIs I2 g, d_getItem hu I2 g ry fun w' s3 I3 rw' => ⟨v, H2, I3, rw', q2⟩⟩
theorem ps_dput (hu : X.A.units + 1 < cLine) (ho : PE X o td) (hi : PE X i ty) (hv : PE X value tv) (hs : swapsWith value (some (.Subscript o i pos')) pos.line X.env = pure false) :
    PS X (.Assign [.Subscript o i pos'] value pos) (sDPut td ty tv) := by
  intro pins s σ H D I h
  refine wpAny_Assign_Subscript (thn (hv pins s σ H _ I h) fun r s1 ⟨v, H1, I1, rv, q1⟩ => thn (ho pins s1 σ H1 _ I1 q1) fun u s2 ⟨x, H2, I2, rx, q2⟩ => thn (hi pins s2 σ H2 _ I2 q2) fun iv s3 ⟨y, H3, I3, ry, a, H4, ex, g, q3⟩ => ?_) hs
  subst ex
  obtain rfl : u = Value.ref a := rx
  exact d_setItem hu I3 g ry rv fun s4 I4 => ⟨σ, H4, I4, q3⟩
end


/-! ### displays -/
theorem dk_empty {P : Program} {w : World} {H : Hp} (h : Heap) (hb : sysModules < h.objs.size) : ObjOk P w H (h.push { cls := .type "dict", data := .dict #[] }) h.objs.size (.dK []) :=
  ⟨Nat.zero_le _, beq_eq_false_iff_ne.mpr (Ne.symm (Nat.ne_of_lt hb)), [], .nil, Heap.DictOf.new h⟩
/-- {}, to be a dict of the kind that is wanted -/
def tDNewK : TE := fun _ H Q => ∀ p, H p = none → Q (.ref p) (upd H p (.dK []))
section
variable {X : Cx} {pos : Pos}
theorem pe_dnewK : PE X (.Dict [] [] pos) tDNewK := fun pins s σ H Q I h =>
  wpAny_Dict_empty ⟨.ref s.heap.objs.size, _, I.laid (a := s.heap.objs.size) (o := .dK []) (t' := s.toks) (fun _ _ q => Heap.get?_push_of_some _ q) (Nat.le_refl _) (dk_empty s.heap I.big), rfl, h _ (I.hok.fresh (Nat.le_refl _))⟩
end

/-- the pairs of a display, from the left -/
def tPairs : List (TE × TE) → St → Hp → (List (V × V) → Hp → Prop) → Prop
  | [], _, H, Q => Q [] H
  | (tk, tv) :: r, σ, H, Q => tk σ H fun x H1 => tv σ H1 fun y H2 => tPairs r σ H2 fun ps H3 => Q ((x, y) :: ps) H3
abbrev VV : List (V × V) → List (Value × Value) → Prop := Paired fun p q => RelV p.1 q.1 ∧ RelV p.2 q.2
def PPs (X : Cx) (pos : Pos) (keys : List (Option Expr)) (values : List Expr) (trs : List (TE × TE)) : Prop :=
  ∀ (pins : List (Addr × Obj)) (s : Shared) (σ : St) (H : Hp) (Q : List (V × V) → Hp → Prop), Inv X pins σ H s → tPairs trs σ H Q →
    wpAny (model X.prog X.w) X.A (evalPairs (pairTrees keys values X.env pos)) (fun vs s' => ∃ ps H', Inv X pins σ H' s' ∧ VV ps vs ∧ Q ps H') X.xe s
theorem pps_nil {X : Cx} {pos : Pos} : PPs X pos [] [] [] := fun pins s σ H Q I h => pairTrees_nil_walk ⟨[], H, I, .nil, h⟩
theorem pps_cons {X : Cx} {pos : Pos} {k v : Expr} {ks : List (Option Expr)} {vs : List Expr} {tk tv : TE} {trs : List (TE × TE)} (hk : PE X k tk) (hv : PE X v tv) (hr : PPs X pos ks vs trs) :
    PPs X pos (some k :: ks) (v :: vs) ((tk, tv) :: trs) := fun pins s σ H Q I h =>
  pairTrees_cons_walk (thn (hk pins s σ H _ I h) fun u s1 ⟨x, H1, I1, rx, q1⟩ => thn (hv pins s1 σ H1 _ I1 q1) fun w2 s2 ⟨y, H2, I2, ry, q2⟩ =>
    thn (hr pins s2 σ H2 _ I2 q2) fun ws s3 ⟨ps, H3, I3, rel, q3⟩ => ⟨(x, y) :: ps, H3, I3, .cons ⟨rx, ry⟩ rel, q3⟩)

def mergeK (kvs more : List (Key × V)) : List (Key × V) := more.foldl (fun acc kv => putK acc kv.1 kv.2) kvs
theorem KV.merge : ∀ {more : List (Key × V)} {rs : List (Key × Value)} {kvs : List (Key × V)} {vs : List (Key × Value)}, KV more rs → KV kvs vs → KV (mergeK kvs more) (merged vs rs) := by
  intro more rs kvs vs r
  unfold KV at r
  induction r generalizing kvs vs with
  | nil => intro q; exact q
  | @cons p q ps qs h t ih =>
    intro r0
    have e : KV (putK kvs p.1 p.2) (stored vs q.1 q.2) := by
      have := r0.put p.1 h.2
      rw [← h.1]; exact this
    exact ih e
theorem length_mergeK : ∀ (more kvs : List (Key × V)), (mergeK kvs more).length ≤ kvs.length + more.length
  | [], kvs => by show kvs.length ≤ kvs.length + 0; omega
  | p :: r, kvs => by
    have h1 := length_mergeK r (putK kvs p.1 p.2)
    have h2 := length_putK kvs p.1 p.2
    show (mergeK (putK kvs p.1 p.2) r).length ≤ _
    rw [List.length_cons]; omega
theorem carries_of {P : Program} {w : World} : ∀ {kvs : List (Key × V)} {ws : List (Value × Value)}, VV (kvs.map fun kv => (kV kv.1, kv.2)) ws → ∃ rs, Carries (mixKind P w) ws rs ∧ KV kvs rs
  | [], _, r => by rw [List.map_nil] at r; cases r; exact ⟨[], True.intro, .nil⟩
  | p :: kvs, _, r => by
    rw [List.map_cons] at r
    cases r with
    | @cons a b as bs h t =>
      obtain ⟨rs, c, q⟩ := carries_of (P := P) (w := w) t
      obtain ⟨b1, b2⟩ := b
      exact ⟨(p.1, b2) :: rs, ⟨kV_is h.1, rfl, c⟩, .cons ⟨rfl, h.2⟩ q⟩
/-- {k: v, ..} with keys ints and texts; the new dict stands empty while the pairs are made -/
def tDisp (trs : List (TE × TE)) : TE := fun σ H Q => ∀ p, H p = none → tPairs trs σ (upd H p (.dK [])) fun ps H2 => H2 p = some (.dK []) ∧ ∃ kvs : List (Key × V), ps = kvs.map (fun kv => (kV kv.1, kv.2)) ∧ kvs.length ≤ 15 ∧ Q (.ref p) (upd H2 p (.dK (mergeK [] kvs)))
theorem pe_disp {X : Cx} {pos : Pos} {keys : List (Option Expr)} {values : List Expr} {trs : List (TE × TE)} (h : PPs X pos keys values trs) (hall : keys.all (·.isSome) = true) (hl : keys.length = values.length) (h0 : keys ≠ [])
    (h15 : keys.length ≤ 15) : PE X (.Dict keys values pos) (tDisp trs) := by
  intro pins s σ H Q I q
  have hn := I.hok.fresh (Nat.le_refl s.heap.objs.size)
  have I1 := I.laid (a := s.heap.objs.size) (o := .dK []) (h' := s.heap.push { cls := .type "dict", data := .dict #[] }) (t' := s.toks) (fun _ _ q => Heap.get?_push_of_some _ q) (Nat.le_refl _) (dk_empty s.heap I.big)
  refine wpAny_Dict_walk (knd := mixKind X.prog X.w) hall hl h0 h15 (thn (h pins _ σ _ _ I1 (q _ hn)) fun ws s2 ⟨ps, H2, I2, rel, e, kvs, ep, lk, q2⟩ => ?_)
  subst ep
  obtain ⟨rs, c, rk⟩ := carries_of (P := X.prog) (w := X.w) rel
  obtain ⟨z, hd, vs0, r0, dd⟩ := dk_of I2.hok e
  cases r0
  refine ⟨rs, c, dd, fun h' dd' hs => ⟨.ref s.heap.objs.size, _, ?_, rfl, q2⟩⟩
  have hz : (mergeK [] kvs).length ≤ sizeLine := by
    have h1 := length_mergeK kvs []
    rw [List.length_nil] at h1
    rw [sizeLine_eq]; omega
  have he : ∃ q, h'.get? s.heap.objs.size = some q := let ⟨q, _, _, hq, _⟩ := dd'; ⟨q, hq⟩
  exact d_write I2 (by rw [e]; exact True.intro) hs he (dk_new hz hd (rk.merge .nil) dd')


/-! ### methods -/
structure M2 (X : Cx) (o : Expr) (m : Str) (apos : Pos) (e f : Expr) (cpos : Pos) : Prop where
  base : attributeBase o m X.env (eval o X.env) = eval o X.env
  few : ((backTo cpos (starEach [e, f] X.env)).all (fun x => !x.1) && (backToKw cpos (keywordEach [] X.env)).all (fun x => x.1.isSome)
    && decide (([e, f] : List Expr).length + ([] : List Keyword).length + (if ([] : List Keyword).isEmpty then 0 else 1) < 30)) = true
  line : (apos.endLine == cpos.line) = true
  trees : backTo cpos (starEach [e, f] X.env) = [(false, eval e X.env), (false, eval f X.env)]

/-- a is a dict, whatever its keys -/
def IsD (H : Hp) (a : Addr) : Prop := (∃ kvs, Rd H a (.dK kvs)) ∨ ∃ kvs, Rd H a (.dT kvs)
theorem isD_at {X : Cx} {pins : List (Addr × Obj)} {σ : St} {H : Hp} {s : Shared} {a : Addr} (I : Inv X pins σ H s) (d : IsD H a) :
    s.TypeIs (.ref a) "dict" ∧ (∀ b, Value.ref a = .ref b → ∃ ob, s.heap.get? b = some ob ∧ ob.dict = none) ∧ (a == sysModules) = false := by
  rcases d with ⟨kvs, e⟩ | ⟨kvs, e⟩
  · obtain ⟨_, hd, vs, _, dd⟩ := dk_rd I.hok e
    refine ⟨dd.typeIs, fun b q => ?_, hd⟩
    cases q
    obtain ⟨ob, _, _, h1, h2, _⟩ := dd
    exact ⟨ob, h1, h2.2.1⟩
  · obtain ⟨_, hd, xs, _, dd⟩ := dt_rd I.hok e
    refine ⟨dd.typeIs, fun b q => ?_, hd⟩
    cases q
    obtain ⟨ob, _, _, h1, h2, _⟩ := dd
    exact ⟨ob, h1, h2.2.1⟩

section
variable {X : Cx} {pins : List (Addr × Obj)} {σ : St} {H : Hp} {s : Shared} {a : Addr} {y d : V} {u r : Value} {o : Option V} {A : Around} {E : Value → Shared → Prop}
/-- d.get(y, x) -/
theorem d_get2 {Q : Value → Shared → Prop} (hu : A.units + 1 < cLine) (I : Inv X pins σ H s) (g : DGet H a y o) (ry : RelV y u) (rd : RelV d r) (h : ∀ w' s', Inv X pins σ H s' → RelV (o.getD d) w' → Q w' s') :
    wpAny (model X.prog X.w) A (call (.builtin "dict.get") [.ref a, u, r]) Q E s := by
  rcases g with ⟨kvs, k, e, ey, l⟩ | ⟨kvs, k, b, e, ey, eb, l⟩
  · subst ey
    obtain ⟨z, hd, vs, rel, dd⟩ := dk_rd I.hok e
    refine call_meetsIn PySem.F.slot_dict_get dd.typeIs PySem.F.entry_dict_get (PySem.F.args_dict_get_3 _ _ _) (meets_dict_get_default (mixKind X.prog X.w) a (kV_is ry) hd r) ⟨_, dd.mapOf, h _ _ (I.tok _) ?_⟩
    rw [l]
    exact (rel.val k).getD rd
  · subst ey
    cases (show u = Value.ref b from ry)
    obtain ⟨z, hd, xs, rel, dd⟩ := dt_rd I.hok e
    refine call_meetsIn PySem.F.slot_dict_get dd.typeIs PySem.F.entry_dict_get (PySem.F.args_dict_get_3 _ _ _) (meetsH_dict_get_default (tupleKind (mixKind X.prog X.w)) a b hd r) ⟨tupleKind_room_in1 hu, k, xs, key_of I.hok eb, dd, h _ _ (I.tok _) ?_⟩
    rw [l]
    exact (rel.val k).getD rd
end

def tDGet2 (td ty tx : TE) : TE := fun σ H Q => td σ H fun x H1 => ∃ a, x = .ref a ∧ IsD H1 a ∧ ty σ H1 fun y H2 => tx σ H2 fun z H3 => ∃ o, DGet H3 a y o ∧ Q (o.getD z) H3
section
variable {X : Cx} {o e f : Expr} {apos cpos : Pos} {td ty tx : TE}
theorem pe_dget2 (hu : X.A.units + 1 < cLine) (ho : PE X o td) (he : PE X e ty) (hf : PE X f tx) (m : M2 X o "get" apos e f cpos) : PE X (.Call (.Attribute o "get" apos) [e, f] [] cpos) (tDGet2 td ty tx) := by
  intro pins s σ H Q I h
  refine wpAny_Call_method m.base m.few m.line PySem.F.plainAttrs_dict PySem.F.slot_dict_get PySem.F.type_dict_get (thn (ho pins s σ H _ I h) fun u s1 ⟨x, H1, I1, rx, a, ex, d, q1⟩ => ?_)
  subst ex
  obtain rfl : u = Value.ref a := rx
  obtain ⟨t1, t2, _⟩ := isD_at I1 d
  refine ⟨t1, t2, ?_⟩
  rw [m.trees]
  refine Calls.callWith_builtin rfl (Calls.evalArgs_plain (Calls.spliced_cons (thn (he pins s1 σ H1 _ I1 q1) fun iv s2 ⟨y, H2, I2, ry, q2⟩ =>
    Calls.spliced_cons (thn (hf pins s2 σ H2 _ I2 q2) fun fv s3 ⟨z, H3, I3, rz, ov, g, q3⟩ => Calls.spliced_nil ?_))))
  exact d_get2 hu I3 g ry rz fun w' s4 I4 rw' => ⟨_, H3, I4, rw', q3⟩
end

/-! ### dict(d): a copy -/
section
variable {X : Cx} {pins : List (Addr × Obj)} {σ : St} {H : Hp} {s : Shared} {a : Addr} {kvs : List (Key × V)} {A : Around} {E : Value → Shared → Prop}
end


section
variable {X : Cx} {pins : List (Addr × Obj)} {σ : St} {H : Hp} {s : Shared} {a : Addr} {y : V} {u : Value} {A : Around} {E : Value → Shared → Prop}
end
end L2

namespace Att
open PySem PySem.W PySem.Calls PyProof.Rows

/-! ### the script -/
theorem ints_of_wellAll {P : Params} {h : Heap} : ∀ (ns : List Int) (vs : List Value), WellAll P h vs (ns.map WData.int) → IntsAre vs ns := by
  intro ns
  induction ns with
  | nil =>
    intro vs w
    rw [List.map_nil] at w
    cases w
    exact .nil
  | cons n ns ih =>
    intro vs w
    rw [List.map_cons] at w
    cases w with
    | cons a b =>
      cases a
      exact .cons _ _ (ih _ b)

theorem script_of {l : OpenLaw} {n : Nat} (hn : l.most = some n) {P : Params} {h : Heap} {args : List WData} {vals : List Value}
    (hpre : l.row.toRowW.claim.pre args = true) (hwl : WellAll P h vals args) :
    ∃ a vs ns, vals = [Value.ref a] ∧ args = [WData.list (ns.map WData.int)] ∧ h.get? a = some { cls := .type "list", data := .seq vs.toArray } ∧ IntsAre vs ns ∧ ns.length ≤ n := by
  have hsh : WShape.hasAll [] args [.list .int] = true := (pre_splitW hpre).1
  have hc : l.pre.holds [] { args := args } = true := (pre_splitW hpre).2
  obtain ⟨d, r, rfl, h1, h2⟩ := hasAllW_cons hsh
  obtain rfl := hasAllW_nil h2
  obtain ⟨xs, rfl, h3⟩ := hasW_list h1
  obtain ⟨ns, rfl⟩ := items_int h3
  have hlen : ns.length ≤ n := by
    unfold OpenLaw.pre at hc
    have h4 : (WTm.not (.lt (.lit (.int (n : Int))) (.len (.arg 0)))).holds [] { args := [.list (ns.map .int)] } = true := by
      have h4 := (holds_andW hc).1
      rw [hn] at h4
      exact h4
    have h5 := condW_of h4 (w_not (w_lt w_lit (w_len_list (w_arg rfl))))
    rw [List.length_map] at h5
    refine Nat.le_of_not_lt fun q => ?_
    have q' : (n : Int) < ((ns.length : Nat) : Int) := by omega
    first
      | (rw [decide_eq_true q'] at h5; exact absurd h5 (by decide))
      | (simp at h5; omega)
  cases hwl with
  | cons w1 w2 =>
    cases w2
    cases w1 with
    | list ho hall => exact ⟨_, _, ns, rfl, rfl, ho, ints_of_wellAll ns _ hall, hlen⟩

theorem post_true (l : OpenLaw) (args : List WData) : l.row.toRowW.claim.post args (.bool true) args = true :=
  postW_of (r := l.row.toRowW) (X := (true == true))
    (show WShape.has [] (.bool true) .bool = true by first | rfl | decide | simp [WShape.has, WShape.arms, WShape.armsAll])
    (show (WTm.eq .res (.lit (.bool true))).value [] { args := args, res := some (.bool true), after := args } = some (.bool (true == true)) from w_eq_bool (w_res rfl) w_lit) rfl

/-! ### the attachment: holds_open's last premise (the goal 'hc' behind k_head) from a wpAny of the law's body -/
/-- the same from a codeAny of the CALL (for a layer whose function contracts speak of calls) -/
theorem attach_call {l : OpenLaw} {n : Nat} {q : Program} {loose : List Str} {XP : (Str → Option Value) → Heap → Prop} {YP : World → Heap → Prop} {d : DefRec}
    (hn : l.most = some n) (hdf : d.params.defaults = [])
    (call : ∀ (w : World) (s₀ s₁ : Shared) (mg mb : Str → Option Value) (fa : Addr) (o : Obj) (pm cd doc : Value) (a : Addr) (vs : List Value) (ns : List Int),
      Ground q loose [] XP w s₀ mg mb s₁.heap → YP w s₁.heap →
      s₁.heap.get? fa = some o → o.data = .func (docDef d.name d.params d.body d.scope pm cd doc) → s₁.heap.CodeRec cd d.name → mg d.name = some (.ref fa) →
      s₁.heap.get? a = some { cls := .type "list", data := .seq vs.toArray } → IntsAre vs ns → ns.length ≤ n → s₁.gens = #[] →
      codeAny (model l.prog w) callerA (.call (.ref fa) ⟨[.ref a], []⟩) (fun r s' => r = .ok (.ret (.bool true)) ∧ OldK s₁.heap s'.heap ∧ s'.os = s₁.os ∧ AllBare s'.gens) s₁) :
    WalkO q loose XP YP l.row.toRowW d [] (fun f vs => PySem.call f vs) := by
  intro w s₀ s₁ mg mb G Y fa o pm cd doc dV kV ho hd hcd hD hmg hg args vals as hpre hlay hrd hwl hlo
  obtain rfl : dV = .none := Dflts.none hD hdf
  obtain rfl : kV = .none := Dflts.noKw hD
  obtain ⟨a, vs, ns, rfl, rfl, hobj, hints, hlen⟩ := script_of hn hpre hwl
  refine enter_call (codeAny_mono (call w s₀ s₁ mg mb fa o pm cd doc a vs ns G Y ho (fd_plain hd) hcd hmg hobj hints hlen hg) fun r s' hq => ?_)
  obtain ⟨rfl, h2, h3, h4⟩ := hq
  exact ⟨.inl ⟨.bool true, .bool true, [], rfl, fun _ => rfl, .bool true, post_true l _, fun _ => ⟨List.Pairwise.nil, fun _ hm => (nomatch hm)⟩⟩, h2, h3, h4⟩

/-! ### rules over ANY heap (no ledger) from facts about the written part K: the library's own take a ledger (News) for what they write -/
section
variable {prog : Program} {w : World} {A : Around} {E : Value → Shared → Prop} {s : Shared} {K : Frag}

/-! the whole heap as the ledger: makes every rule that writes through a ledger a rule over any heap -/
end
end Att

namespace L2
open PySem PySem.Spec PyProof.Rows

theorem vals_ints : ∀ {vs : List Value} {ns : List Int}, IntsAre vs ns → Vals (ns.map V.int) vs
  | _, _, .nil => .nil
  | _, _, .cons n t h => .cons ⟨t, rfl⟩ (vals_ints h)

/-- nothing is tracked but the script, known to the object (or it is an object of the module) -/
def Only (H : Hp) : Prop := ∀ b, H b = none ∨ ∃ o xs, H b = some (.frz o (.lst xs))

/-- THE HEAD: the law's promise, at the heap behind the top. F, the promise of the law's def, may use that base is part of the heap (so K.In base, base.Ns mainGlobals mg stand in Mod) -/
theorem law_call {P : Program} {w : World} {K : PySem.W.Frag} {mg mb : Str → Option Value} {CX : CXT} {k : Nat} {fa a : Addr} {fd : FuncData} {x : Str} {sp : Sp} {s₁ : Shared} {vs : List Value} {ns : List Int}
    (KX : K.In s₁.heap) (hns : s₁.heap.Ns mainGlobals mg) (hb : s₁.heap.Ns builtinsNs mb) (hbb : ∀ x : Str, x ≠ "__name__" → mb x = bootBuiltins x) (hlim : s₁.heap.NoLimit) (hg : s₁.gens = #[])
    (ha : s₁.heap.get? a = some { cls := .type "list", data := .seq vs.toArray }) (hi : IntsAre vs ns) (hl : ns.length ≤ sizeLine) (hr : Room k callerA)
    (F : ∀ base : Heap, K.In base → base.Ns mainGlobals mg → FnOk P w K mg base CX k fa fd [x] sp) (hbind : ∀ (s : Shared) (u : Value), BindsTo s fd ⟨[u], []⟩ [(x, u)])
    (hsp : ∀ H : Hp, Only H → SqL K H a (ns.map V.int) → sp [.ref a] H (fun v _ => v = .bl true) fun _ _ _ => False)
    (hCX : ∀ H e s', CX [] H s₁ (fun _ _ _ => False) e s' → False) :
    codeAny (model P w) callerA (.call (.ref fa) ⟨[.ref a], []⟩) (fun r s' => r = .ok (.ret (.bool true)) ∧ OldK s₁.heap s'.heap ∧ s'.os = s₁.os ∧ AllBare s'.gens) s₁ := by
  have rv := vals_ints hi
  have lenV := hi.length
  -- from an abstract heap in which nothing but the script may be tracked
  have core : ∀ H : Hp, Only H → SqL K H a (ns.map V.int) → HOk P w H s₁.heap → (∀ b, H b ≠ none → b = a) → (H a ≠ none → K.lookup a = none) →
      codeAny (model P w) callerA (.call (.ref fa) ⟨[.ref a], []⟩) (fun r s' => r = .ok (.ret (.bool true)) ∧ OldK s₁.heap s'.heap ∧ s'.os = s₁.os ∧ AllBare s'.gens) s₁ := by
    intro H hO hS hok hA hK
    have base_of : ∀ {b : Addr} {o : Obj}, s₁.heap.get? b = some o → H b = none → (hidT s₁.heap H).get? b = some o := fun e n => hidT_get e n
    have noA : ∀ {b : Addr} {o : Obj} {es : Array DictEntry} {ep : Nat}, s₁.heap.get? b = some o → o.data = .dict es ep → H b = none := fun {b o es ep} e d => by
      cases q : H b with
      | none => rfl
      | some u =>
        have e' : b = a := hA b (by rw [q]; simp)
        subst e'
        rw [ha] at e; cases e
        have d' : Data.seq vs.toArray _ = Data.dict es ep := d
        cases d'
    have nsK : ∀ {b : Addr} {m : Str → Option Value}, s₁.heap.Ns b m → (hidT s₁.heap H).Ns b m := fun {b m} ⟨o, es, ep, e, d, r⟩ => ⟨o, es, ep, base_of e (noA e d), d, r⟩
    have hKb : K.In (hidT s₁.heap H) := fun b o e => base_of (KX b o e) (by
      cases q : H b with
      | none => rfl
      | some u =>
        have e' : b = a := hA b (by rw [q]; simp)
        subst e'
        rw [hK (by rw [q]; simp)] at e; cases e)
    have hM : Mod K mg (hidT s₁.heap H) := ⟨hKb, nsK hns, ⟨mb, nsK hb, hbb⟩, let ⟨mc, h1, h2⟩ := hlim; ⟨mc, nsK h1, h2⟩⟩
    have e0 : Env0 P w K mg (hidT s₁.heap H) callerA [] s₁ H := ⟨rfl, hM, fun b o e => of_hidT e, Nat.le_of_eq (hidT_size _ _), trivial, fun b hb => absurd (show b ∈ ([] : List Addr) from hb) (by simp), hok, .of_eq hg⟩
    refine codeAny_mono ((F _ hKb (nsK hns)).run callerA [] s₁ H ⟨[.ref a], []⟩ [.ref a] [.ref a] _ _ hr e0 (hbind s₁ (.ref a)) (.cons rfl .nil) (hsp H hO hS)) fun r s' h => ?_
    cases r with
    | error e => exact (hCX H e s' h).elim
    | ok fl =>
      cases fl with
      | next => exact False.elim h
      | brk => exact False.elim h
      | cont => exact False.elim h
      | ret u =>
        obtain ⟨v, H', os, bare, un, hok', r', q⟩ := h
        have q' : v = .bl true := q
        subst q'
        obtain rfl : u = Value.bool true := r'
        refine ⟨rfl, OldK.of_keep fun b o e => ?_, os, bare⟩
        cases q : H b with
        | none => exact un.keep b o e q (by intro z; exact absurd (show b ∈ ([] : List Addr) from z) (by simp)) (by simp)
        | some u =>
          rcases hO b with z | ⟨ob, xs, z⟩
          · rw [q] at z; cases z
          · have z2 := un.frzs b ob _ z
            obtain ⟨e1, _⟩ := hok b _ z
            obtain ⟨e2, _⟩ := hok' b _ z2
            rw [e] at e1; cases e1
            exact e2
  cases hk : K.lookup a with
  | some o =>
    -- the script is one of the module's own objects
    have e := KX a o hk
    rw [ha] at e
    cases e
    refine core (fun _ => none) (fun _ => .inl rfl) (.inr ⟨_, vs.toArray, _, hk, rfl, rfl, rfl, by rw [List.size_toArray, lenV]; exact hl, by simpa using rv⟩) (fun b u z => by have z' : (none : Option HO) = some u := z; cases z') (fun b z => absurd rfl z) fun z => absurd rfl z
  | none =>
    refine core (fun b => if b = a then some (.frz { cls := .type "list", data := .seq vs.toArray } (.lst (ns.map V.int))) else none) (fun b => ?_) (.inl (.inr ⟨{ cls := .type "list", data := .seq vs.toArray }, if_pos rfl⟩)) (fun b u z => ?_) (fun b z => ?_) fun _ => hk
    · by_cases hb : b = a
      · exact .inr ⟨_, _, if_pos hb⟩
      · exact .inl (if_neg hb)
    · by_cases hb : b = a
      · have z' := (if_pos hb).symm.trans z
        cases z'
        subst hb
        exact ⟨ha, by rw [List.length_map]; exact hl, vs, _, rv, ha⟩
      · have z' := (if_neg hb).symm.trans z
        cases z'
    · by_cases hb : b = a
      · exact hb
      · exact absurd (if_neg hb) z
end L2

namespace L2
open PySem PySem.Spec PyProof.Rows

/-- the goal that k_head leaves (case hc), from the law's promise. F gives the function object fd (K's own) once, then the promise over every base -/
theorem walk_of {l : PySem.W.OpenLaw} {n k : Nat} {q : Program} {loose : List Str} {XP : (Str → Option Value) → Heap → Prop} {YP : World → Heap → Prop} {d : DefRec} {K : Params → PySem.W.Frag} {CX : World → CXT} {sp : World → Sp} {x : Str}
    (hn : l.most = some n) (hn2 : n ≤ sizeLine) (hdf : d.params.defaults = []) (hr : Room k callerA)
    (hY : ∀ (w : World) (h : Heap), YP w h → (K w.params).In h)
    (F : ∀ (w : World) (mg : Str → Option Value) (fa : Addr) (h : Heap), (K w.params).In h → h.Ns mainGlobals mg → mg d.name = some (.ref fa) →
      ∃ fd : FuncData, (∀ (s : Shared) (u : Value), BindsTo s fd ⟨[u], []⟩ [(x, u)]) ∧
        ∀ base : Heap, (K w.params).In base → base.Ns mainGlobals mg → FnOk l.prog w (K w.params) mg base (CX w) k fa fd [x] (sp w))
    (hsp : ∀ (w : World) (H : Hp) (a : Addr) (ns : List Int), ns.length ≤ n → Only H → SqL (K w.params) H a (ns.map V.int) → sp w [.ref a] H (fun v _ => v = .bl true) fun _ _ _ => False)
    (hCX : ∀ (w : World) (H : Hp) (s : Shared) (e : Value) (s' : Shared), CX w [] H s (fun _ _ _ => False) e s' → False) :
    PySem.W.WalkO q loose XP YP l.row.toRowW d [] (fun f vs => PySem.call f vs) := by
  refine Att.attach_call hn hdf fun w s₀ s₁ mg mb fa o pm cd doc a vs ns G Y ho hd hcd hmg hobj hints hlen hg => ?_
  have KX := hY w _ Y
  obtain ⟨fd, hb, hF⟩ := F w mg fa _ KX G.T.g hmg
  exact law_call KX G.T.g G.T.b G.T.builtins G.T.nolimit hg hobj hints (Nat.le_trans hlen hn2) hr hF hb (fun H hO hS => hsp w H a ns hlen hO hS) fun H e s' => hCX w H s₁ e s'
end L2

/- THE LAST THEOREM (shape; LID, My.* are yours):
   My.Adr: a structure of the addresses that your layer names (classes, functions); My.Txt K t: a structure (Prop) of the equations over K;
   My.txt_mk : {K} {implicit addresses ..} (e1 : nsIn K mainGlobals "law" = some (some (.ref f))) (e2 : K.lookup f = some ⟨oc, od, .func (fnOf "law" "law" params body scope dV kV doc pm an cdv ct), sl⟩) (e3 : codeIn K cdv "law" = true) .. : ∃ t, My.Txt K t

set_option maxRecDepth 100000 in
set_option maxHeartbeats 0 in
theorem PySem.Challenge.cw_LID_holds : PySem.Challenge.rw_LID.Holds := by
  w_on; o_law; k_head; (case hw => w_witness2)
  k_fill
  refine L2.walk_of (l := PySem.Challenge.rw_LID) (n := 63) (k := 40) (x := "script") (CX := fun w => ..) (sp := fun _ => My.sp_law) rfl (by decide) rfl ⟨rfl, by decide, by decide⟩ (fun w h Y => PySem.W.kIn_of Y) ?F ?S ?C
  case F =>
    intro w mg fa h KX G hmg
    have T : ∃ t, My.Txt (L2.KOf KX) t := by
      dsimp only [L2.KOf]                          -- K must stand as «<heap const> w.params» for k_is
      refine' My.txt_mk ?e1 ?e2 ?e3 ..
      (case e1 => PySem.W.k_is)                    -- in the order: a name -> its address -> its object -> its parts
      (case e2 => PySem.W.k_is)
      ..
    obtain ⟨t, T⟩ := T
    have e0 := hmg.symm.trans (PySem.W.mg_of KX G T.law)
    cases e0                                       -- fa is the law's own address
    exact ⟨_, fun s u => .of_eq rfl, fun base kb nb => My.law_fn T kb nb⟩     -- if «.of_eq rfl» comes too early: refine' ⟨_, ?b, fun base kb nb => My.law_fn T kb nb⟩; exact fun s u => .of_eq rfl
  case S => exact fun w H a ns hl hO hS => ..
  case C => exact ..
(the tactic k_is has no namespace: write k_is) -/

/-! SHORT WORDS over the layer: a def of the text, its body, what a loop and a test want. -/
namespace L2
open PySem PySem.Spec PyProof.Rows

/-! ### the text by places -/
def defArgs (s : Stmt) : Arguments := match s with
  | .FunctionDef _ a _ _ _ _ _ _ _ _ => a
  | _ => { posonlyargs := [], args := [], vararg := none, kwonlyargs := [], kw_defaults := [], kwarg := none, defaults := [] }
def defBody (s : Stmt) : List Stmt := match s with
  | .FunctionDef _ _ b _ _ _ _ _ _ _ => b
  | _ => []
def defScope (s : Stmt) : Scope := match s with
  | .FunctionDef _ _ _ _ _ _ sc _ _ _ => sc
  | _ => { kind := .function, names := [], isGenerator := false, isCoroutine := false }

/-! ### no exception leaves a def -/
abbrev E0 : XK := fun _ _ _ => False
/-! ### a def (or method) of the text as it stands behind the top -/
structure Fun (K : PySem.W.Frag) (x qual : Str) (st : Stmt) (f : Addr) (fd : FuncData) : Prop where
  ex : ∃ (oc : Value) (od : Option Addr) (kV doc pm : Value) (an : Option Addr) (cdv ct : Value) (osl : Array (Option Value)),
    fd = PySem.W.fnOf x qual (defArgs st) (defBody st) (defScope st) .none kV doc pm an cdv ct ∧ K.lookup f = some ⟨oc, od, .func fd, osl⟩ ∧ PySem.W.codeIn K cdv qual = true
  kp : PySem.W.keepIn K (.ref f) = true
section
variable {P : Program} {w : World} {K : PySem.W.Frag} {mg : Str → Option Value} {base : Heap}
/-- how its arguments bind (no defaults): h is «fun _ _ _ _ _ _ us hl => match us, hl with | [_, _], _ => rfl», one _ a parameter -/
theorem Fun.binds {x qual : Str} {st : Stmt} {f : Addr} {fd : FuncData} {ps : List Str} (F : Fun K x qual st f fd)
    (h : ∀ (kV doc pm : Value) (an : Option Addr) (cdv ct : Value) (us : List Value), us.length = ps.length → bindArgs (PySem.W.fnOf x qual (defArgs st) (defBody st) (defScope st) .none kV doc pm an cdv ct) ⟨us, []⟩ = pure (ps.zip us)) : Binds K fd ps [] := by
  obtain ⟨oc, od, kV, doc, pm, an, cdv, ct, osl, rfl, lk, hcd⟩ := F.ex
  exact .all (h kV doc pm an cdv ct)
end
theorem hu_of {A : Around} {k : Nat} (hr : Room k A) : A.units + 1 < cLine := Nat.lt_of_le_of_lt (Nat.add_le_add_left (by decide : 1 ≤ 64) _) hr.units
/-! ### expressions in short: the name that stands in the i-th slot -/
section
variable {X : Cx}
theorem pv (i : Nat) {x : Str} {pos : Pos} (hN : X.N[i]? = some x := by rfl) (hv : Vis X.env.scope x := by first | exact Or.inl rfl | exact Or.inr (Or.inl rfl) | exact Or.inr (Or.inr rfl)) (hd : (x == ("__debug__" : Str)) = false := by decide)
    (hcd : (x == ("__classdict__" : Str)) = false := by decide) : PE X (.Name x pos) (tVar i) := pe_var hN hv hd hcd
end

/-! ### tests -/
theorem iteF {A B : Prop} (h : B) : if false = true then A else B := by
  rw [if_neg Bool.false_ne_true]
  exact h
theorem iteT {A B : Prop} (h : A) : if true = true then A else B := by
  rw [if_pos rfl]
  exact h
/-! ### heaps -/
/-- all that was tracked is as it was -/
def Same (H H' : Hp) : Prop := ∀ b o, H b = some o → H' b = some o
theorem Same.refl (H : Hp) : Same H H := fun _ _ h => h
theorem Same.trans {H H1 H2 : Hp} (a : Same H H1) (b : Same H1 H2) : Same H H2 := fun c o h => b c o (a c o h)
theorem Same.free {H H' : Hp} (e : Same H H') {l : Addr} (h : H' l = Option.none) : H l = Option.none := by
  cases q : H l with
  | none => rfl
  | some o =>
    rw [e l o q] at h
    cases h
end L2
namespace L2
open PySem PySem.Spec PyProof.Rows
section
variable {X : Cx}
end
/-! ### a dict's pairs: keys that differ -/
section
variable {κ : Type} [DecidableEq κ]
end
end L2

set_option Elab.async false
set_option linter.all false
set_option maxRecDepth 100000
/-! own errors: raised, passed on, caught -/
namespace L2
open PySem PySem.Spec PyProof.Rows

/-- an error of the class cls flies at e, its trace at T -/
def FlyAt (h : Heap) (e T : Addr) (cls : Value) : Prop :=
  ∃ oe vs oT ts a0, h.get? e = some oe ∧ oe.cls = cls ∧ oe.data = .fields vs ∧ vs[0]? = some a0 ∧ vs[1]? = some (.ref T) ∧ T ≠ e ∧ h.get? T = some oT ∧ oT.data = .fields ts ∧ ts[3]? = some .none

/-- what lies behind a call that raises -/
def CXE (P : Program) (w : World) : CXT := fun outer H s E e s' =>
  ∃ a T cls H', e = .ref a ∧ FlyAt s'.heap a T cls ∧ s.heap.get? a = none ∧ s.heap.get? T = none ∧ H' a = none ∧ H' T = none ∧ s'.os = s.os ∧ AllBare s'.gens ∧
    Un (frs outer) [] H H' s.heap s'.heap ∧ HOk P w H' s'.heap ∧ E cls none H'

theorem passE0 {P : Program} {w : World} {X : Cx} : Passes (CXE P w) X E0 := fun _ _ _ _ _ _ _ ⟨_, _, _, _, _, _, _, _, _, _, _, _, _, _, h⟩ => h.elim

section
variable {X : Cx} {pins : List (Addr × Obj)} {σ : St} {H : Hp} {s : Shared}

end

section
variable {X : Cx} {E : XK}
end

section
variable {X : Cx}
/-- the error class at C, right below others of the program's own and ValueError -/
structure Err (K : PySem.W.Frag) (C : Addr) : Prop where
  ex : PySem.W.excIn K C [.type "ValueError", .type "Exception", .type "BaseException", .type "object"] "ValueError.__new__" = true

end
end L2

set_option Elab.async false
set_option linter.all false
set_option maxRecDepth 100000
/-! try .. except C as n -/
namespace L2
open PySem PySem.Spec PyProof.Rows
section
variable {X : Cx} {pins : List (Addr × Obj)} {σ : St} {H H' : Hp} {s : Shared} {h' : Heap}

/-- an error as an object of the abstract heap: its class -/
def excO (a : Addr) (cls : Value) : HO := .ext fun h => ∃ o vs, h.get? a = some o ∧ o.cls = cls ∧ o.data = .fields vs
/-- an untracked record of ours becomes tracked -/
theorem Inv.track {a : Addr} {o : HO} (I : Inv X pins σ H s) (hn : H a = none) (h0 : X.s₀.heap.get? a = none) (hL : a ≠ X.env.locals) (hc : ∀ x c, X.env.cells.lookup x = some c → c ≠ a) (hp : ∀ p ∈ X.pn ++ pins, p.1 ≠ a)
    (new : ObjOk X.prog X.w (upd H a o) s.heap a o) : Inv X pins σ (upd H a o) s := by
  refine ⟨I.ok, I.os, I.bare, ⟨I.base.keep, I.base.slot, fun b u e n hx => ?_, I.base.there, fun b xs e => ?_, fun b u xs e => ?_, fun b ps e => ?_⟩, I.loc, I.cell, ?_, fun x c e => ?_, fun p q => ?_, fun b u e => ?_, I.len⟩
  · rw [upd_ne fun z => by rw [z, h0] at e; cases e]
    exact I.base.free b u e n hx
  · have q := I.base.tups b xs e
    rw [upd_ne (ne_of_none q hn)]
    exact q
  · have q := I.base.frzs b u xs e
    rw [upd_ne (ne_of_none q hn)]
    exact q
  · obtain ⟨m, q⟩ := I.base.tbls b ps e
    exact ⟨m, by rw [upd_ne (ne_of_none q hn)]; exact q⟩
  · rw [upd_ne hL.symm]
    exact I.free
  · rw [upd_ne (hc x c e)]
    exact I.freeC x c e
  · obtain ⟨e, n, r⟩ := I.pin p q
    exact ⟨e, by rw [upd_ne (hp p q)]; exact n, r⟩
  · by_cases hb : b = a
    · subst hb
      rw [upd_same] at e
      cases e
      exact new
    · rw [upd_ne hb] at e
      exact (I.hok b u e).stay (fun c v _ q => q) (fun c q => by rw [upd_ne (ne_of_none q hn)]; exact q) fun c xs q => by rw [upd_ne (ne_of_none q hn)]; exact q
end

section
variable {X : Cx} {pins : List (Addr × Obj)} {σ : St} {H H' : Hp} {s : Shared}
end
end L2

set_option Elab.async false
set_option linter.all false
set_option maxRecDepth 100000
/-! lambdas without parameters, that read names of the frame around them -/
namespace L2
open PySem PySem.Spec PyProof.Rows

section
variable {X : Cx} {pins : List (Addr × Obj)} {σ : St} {H : Hp} {s : Shared}
end

section
variable {X : Cx} {pins : List (Addr × Obj)} {σ1 : St} {H : Hp} {s : Shared}
end
end L2

set_option Elab.async false
set_option linter.all false
set_option maxRecDepth 100000
/-! the law's own hearing of a deed: heard(lambda: ..) -/
namespace L2
open PySem PySem.Spec PyProof.Rows

section
variable {X : Cx}
end
end L2

set_option Elab.async false
set_option linter.all false
set_option maxRecDepth 100000
/-! more rules: numbers of many bits, texts, tuples compared, isinstance, count, index -/
namespace L2
open PySem PySem.Spec PyProof.Rows
section
variable {X : Cx}
theorem big_bits {i : Int} (h : i.natAbs < 2 ^ 2000) : Builtin.Int.intBits i ≤ 2 ^ 20 := Nat.le_trans (intBits_le h) (by decide)
def CBig (i j : Int) : Prop := i.natAbs < 2 ^ 2000 ∧ j.natAbs < 2 ^ 2000
theorem op_mulB : OpR X (binaryOp .Mult) (rI CBig fun i j => .int (i * j)) := opI fun _ _ _ _ _ _ _ hc q => mul_int q (IntMulOk.of_bits (big_bits hc.1) (big_bits hc.2))
def CDivB (i j : Int) : Prop := 0 < j ∧ j.natAbs < 2 ^ 2000
theorem op_fdivB : OpR X (binaryOp .FloorDiv) (rI CDivB fun i j => .int (i / j)) := opI fun i j _ _ _ _ _ hc q => by
  have hp : Builtin.divisionGoesByPylong i j = false := PyProof.noPylong_of_log2 (by
    by_cases h0 : j.natAbs = 0
    · rw [h0]; decide
    · have := (Nat.log2_lt h0).mpr hc.2
      omega)
  refine floordiv_int (Int.ne_of_gt hc.1) ?_ (.inl hp)
  rw [Int.fdiv_eq_ediv_of_nonneg _ (Int.le_of_lt hc.1)]
  exact q

/-- a text so many times -/
def repS (x : Str) (n : Nat) : Str := ⟨(List.replicate n x.cps).foldl (· ++ ·) #[]⟩
theorem op_mul_str : OpR X (binaryOp .Mult) (fun x y H Q => ∃ z n, x = .str z ∧ y = .int n ∧ 0 ≤ n ∧ z.length * n.toNat ≤ sizeLine ∧ n < 2 ^ 40 ∧ Q (.str (repS z n.toNat)) H) := by
  intro pins s σ H x y v u Q I rx ry h
  obtain ⟨z, n, rfl, rfl, h0, hl, hn, q⟩ := h
  obtain ⟨t, rfl⟩ := rx
  obtain ⟨t', rfl⟩ := ry
  have hlen : ∀ k : Nat, (repS z k).cps.toList = (List.replicate k z.cps.toList).flatten := fun k => by
    unfold repS
    have : ∀ (l : List (Array Nat)) (acc : Array Nat), (l.foldl (· ++ ·) acc).toList = acc.toList ++ (l.map (·.toList)).flatten := by
      intro l
      induction l with
      | nil => intro acc; simp
      | cons a r ih => intro acc; rw [List.foldl_cons, ih]; simp
    rw [this]
    simp
  refine PySem.P.mul_str ?_ ?_ ?_ ?_
  · rw [decide_eq_false (by omega), decide_eq_false (by omega)]; rfl
  · intro h1 h2 h3
    have : (z.length : Int) * n ≤ 2 ^ 63 - 1 := by
      have e : ((z.length * n.toNat : Nat) : Int) = (z.length : Int) * n := by push_cast; rw [Int.toNat_of_nonneg h0]
      have := line63
      omega
    have := (Int.le_ediv_iff_mul_le (by omega : 0 < n)).mpr this
    omega
  · intro h1 h2
    have := hl
    exact decide_eq_false (Nat.not_lt.mpr hl)
  · by_cases h1 : n < 1
    · rw [if_pos h1]
      have e : repS z n.toNat = Str.empty := by rw [show n = 0 by omega]; rfl
      exact ⟨by decide, .str (repS z n.toNat), H, I.tok _, ⟨_, by rw [e]⟩, q⟩
    · rw [if_neg h1]
      by_cases h2 : (n == 1 || z.length == 0) = true
      · rw [if_pos h2]
        have e : repS z n.toNat = z := by
          have : (repS z n.toNat).cps.toList = z.cps.toList := by
            rw [hlen]
            simp only [Bool.or_eq_true, beq_iff_eq] at h2
            rcases h2 with h2 | h2
            · rw [h2]; simp
            · have : z.cps.toList = [] := by
                have h3 : z.cps.size = 0 := h2
                rw [Array.eq_empty_of_size_eq_zero h3]
              rw [this]; simp
          have : (repS z n.toNat).cps = z.cps := by rw [← Array.toList_inj]; exact this
          cases z
          cases hh : repS _ n.toNat
          rw [hh] at this
          simp only at this
          rw [this]
        exact ⟨.str (repS z n.toNat), H, I, ⟨t, by rw [e]⟩, q⟩
      · rw [if_neg h2]
        refine ⟨?_, .str (repS z n.toNat), H, I.tok _, ⟨_, rfl⟩, q⟩
        show (repS z n.toNat).cps.size ≤ sizeLine
        rw [← Array.length_toList, hlen, List.length_flatten, List.map_replicate, List.sum_replicate_nat]
        have e : z.cps.toList.length = z.length := by rw [Array.length_toList]; rfl
        rw [e, Nat.mul_comm]
        exact hl
theorem call_int_text : CallR X (.type "int") (fun xs H Q => ∃ x n, xs = [.str x] ∧ PySem.intText? x = some n ∧ x.length ≤ 640 ∧ Q (.int n) H) := by
  intro pins s σ H xs us Q I r h
  obtain ⟨x, n, rfl, hn, hl, q⟩ := h
  obtain ⟨u, rfl, t, rfl⟩ := vals1 r
  exact PySem.W.KIN.call_text hn hl ⟨.int n, H, I.tok _, ⟨_, rfl⟩, q⟩

/-! ### tuples compared -/
theorem tup_items {pins : List (Addr × Obj)} {σ : St} {H : Hp} {s : Shared} {A : Around} {xs ys : List V} {its its2 : List Value} {e : Nat → Bool} {n : Nat} (r1 : Vals xs its) (r2 : Vals ys its2)
    (he : ∀ j x y u v, xs[j]? = some x → ys[j]? = some y → RelV x u → RelV y v → SeqAt.EqAt A s u v (e j)) : ∀ j (h1 : j < its.toArray.size) (h2 : j < its2.toArray.size), SeqAt.EqAt A s its.toArray[j] its2.toArray[j] (e j) := by
  intro j h1 h2
  have l1 := r1.length
  have l2 := r2.length
  rw [List.size_toArray] at h1 h2
  have k1 : xs[j]? = some xs[j] := List.getElem?_eq_getElem (by omega)
  have k2 : ys[j]? = some ys[j] := List.getElem?_eq_getElem (by omega)
  obtain ⟨u, e1, q1⟩ := r1.get k1
  obtain ⟨v, e2, q2⟩ := r2.get k2
  have z1 : its.toArray[j] = u := by
    rw [List.getElem?_eq_getElem h1] at e1
    simpa using Option.some.inj e1
  have z2 : its2.toArray[j] = v := by
    rw [List.getElem?_eq_getElem h2] at e2
    simpa using Option.some.inj e2
  rw [z1, z2]
  exact he j _ _ u v k1 k2 q1 q2
/-! ### list.count, list.index over flat items -/
end
end L2

set_option Elab.async false
set_option linter.all false
set_option maxRecDepth 100000
/-! isinstance of an own error -/
namespace L2
open PySem PySem.Spec PyProof.Rows

/-- what the written part says of an error class -/
structure ErrK (K : PySem.W.Frag) (C : Addr) : Prop where
  ex : PySem.W.excIn K C [.type "ValueError", .type "Exception", .type "BaseException", .type "object"] "ValueError.__new__" = true
  ga : PySem.W.findIn K (.ref C) "__getattribute__" = some (some (.builtin "BaseException.__getattribute__"))
  gn : PySem.W.findIn K (.ref C) "__getattr__" = some none
  cl : PySem.W.findIn K (.ref C) "__class__" = some (some (.builtin "object.__class__"))
theorem ErrK.err {K : PySem.W.Frag} {C : Addr} (e : ErrK K C) : Err K C := ⟨e.ex⟩
theorem err_obj {K : PySem.W.Frag} {C : Addr} {h : Heap} (KX : K.In h) (e : Err K C) : ∃ bm N nm q bs hdct sn sub ab col dd k0 k1 k2 k3 k5, h.get? C = some (excClassObj nm q C N bs bm hdct sn sub ab col dd k0 k1 k2 k3 k5 "ValueError.__new__") ∧
    OwnTail h [.type "ValueError", .type "Exception", .type "BaseException", .type "object"] bm := by
  have q := e.ex
  unfold PySem.W.excIn at q
  split at q
  · rename_i dd cd sl ho
    split at q
    · rename_i C' bm k0 k1 k2 k3 n k5 hm hs
      simp only [Bool.and_eq_true, beq_iff_eq, Bool.not_eq_true'] at q
      obtain ⟨⟨⟨⟨⟨rfl, rfl⟩, hdel⟩, ht⟩, hok⟩, hni⟩ := q
      obtain ⟨nm, bs, mro, ns, qn, hd, sn, sub, ab, col, del⟩ := cd
      dsimp only at hm hdel hok hni
      subst hm hdel
      have hsl : sl = #[k0, k1, k2, k3, some (.builtin "ValueError.__new__"), k5] := by
        obtain ⟨l⟩ := sl
        simp only at hs
        rw [hs]
      subst hsl
      exact ⟨bm, ns, nm, qn, bs, hd, sn, sub, ab, col, dd, k0, k1, k2, k3, k5, KX _ _ ho, PySem.W.tail_of_in KX ht⟩
    · cases q
  · cases q
section
variable {prog : Program} {w : World} {A : Around} {E : Value → Shared → Prop} {h : Heap} {g : Array GenState} {d : Drawn} {t : Nat} {os : OsState} {K : PySem.W.Frag} {a C : Addr} {o : Obj}
theorem exc_class_get {R : Result → Shared → Prop} (KX : K.In h) (e : ErrK K C) (hx : h.get? a = some o) (hc : o.cls = .ref C) (hq : R (.ok (.ret (.ref C))) ⟨h, g, d, t, os⟩) :
    codeAny (model prog w) A (.call (.builtin "getset_descriptor.__get__") ⟨[.builtin "object.__class__", .ref a, .ref C], []⟩) R ⟨h, g, d, t, os⟩ := by
  obtain ⟨bm, N, nm, q, bs, hdct, sn, sub, ab, col, dd, k0, k1, k2, k3, k5, hC, T⟩ := err_obj KX e.err
  have hT5 : (⟨h, g, d, t, os⟩ : Shared).TypeIs (.builtin "object.__class__") "getset_descriptor" := F.typeOf_object_class
  have hcB : (Value.ref C :: bm).contains (.type (".".intercalate ("object.__class__".cutAt '.').dropLast)) = true := by
    rw [F.owner_object_class, List.contains_cons, T.hasType (X := "object") (b := true) (by decide)]; rfl
  refine codeAny_call_builtin F.slot_gs_get.plain F.entry_gs_get (F.slot_gs_get.check _ _ _ _ _ _ _ _ hT5 (F.args_gs_get _ _ _) ?_)
  repeat (any_goals (first | assumption | (with_reducible refine wpAny_loadPart_at hx ?_; rw [hc]) | (with_reducible refine wpAny_isSubtype_exc hC ?_; rw [hcB]) | wp_step))
  refine ⟨Code.quiet_builtin _ (by decide +kernel), codeAny_builtin F.entry_object_class ?_⟩
  repeat (any_goals (first | assumption | (with_reducible refine wpAny_loadPart_at hx ?_; rw [hc]) | wp_step))
theorem exc_class_entry {tk : Tok} {Q : Fin → Shared → Prop} (KX : K.In h) (e : ErrK K C) (hx : h.get? a = some o) (hc : o.cls = .ref C) (hq : Q (.done (.ret (.ref C))) ⟨h, g, d, t, os⟩) :
    wpAny (model prog w) A (Builtin.«object.__getattribute__» ⟨[.ref a, .str "__class__" tk], []⟩) Q E ⟨h, g, d, t, os⟩ := by
  have L := PySem.W.looks_findIn (M := model prog w) KX e.cl
  have hT5 : (⟨h, g, d, t, os⟩ : Shared).TypeIs (.builtin "object.__class__") "getset_descriptor" := F.typeOf_object_class
  have f5 := F.typeOf_object_class
  have f6 := F.slot_gs_get.lookup
  have f7 := F.slot_gs_set.lookup
  repeat (any_goals (first | assumption | (with_reducible refine wpAny_loadPart_at hx ?_; rw [hc]) | with_reducible refine PySem.W.Looks.at L ?_ | wp_step))
  refine exc_class_get KX e hx hc ?_
  repeat (any_goals (first | assumption | wp_step))
theorem exc_class_check {M : Model} {nameV : Value} {Q : Unit → Shared → Prop} (KX : K.In h) (e : ErrK K C) (hx : h.get? a = some o) (hc : o.cls = .ref C) (hq : Q () ⟨h, g, d, t, os⟩) :
    wpAny M A (checkBuiltinCall "BaseException.__getattribute__" ⟨[.ref a, nameV], []⟩) Q E ⟨h, g, d, t, os⟩ := by
  obtain ⟨bm, N, nm, q, bs, hdct, sn, sub, ab, col, dd, k0, k1, k2, k3, k5, hC, T⟩ := err_obj KX e.err
  have hk : builtinKind "BaseException.__getattribute__" = some .slot := by decide +kernel
  have hsplit : splitId "BaseException.__getattribute__" = some ("BaseException", "__getattribute__") := by decide +kernel
  have hcB : (Value.ref C :: bm).contains (.type "BaseException") = true := by rw [List.contains_cons, T.hasType (X := "BaseException") (b := true) (by decide)]; rfl
  have ha := F.args_bexc_ga (.ref a) nameV
  simp only [checkBuiltinCall, hk, hsplit]
  refine wpAny_bind ?_
  · unfold isInstance
    repeat (first | (with_reducible refine wpAny_loadPart_at hx ?_; rw [hc]) | (with_reducible refine wpAny_isSubtype_exc hC ?_; rw [hcB]) | wp_step)
    exact hq
theorem exc_class_call {tk : Tok} {R : Result → Shared → Prop} (KX : K.In h) (e : ErrK K C) (hx : h.get? a = some o) (hc : o.cls = .ref C) (hq : R (.ok (.ret (.ref C))) ⟨h, g, d, t, os⟩) :
    codeAny (model prog w) A (.call (.builtin "BaseException.__getattribute__") ⟨[.ref a, .str "__class__" tk], []⟩) R ⟨h, g, d, t, os⟩ :=
  codeAny_call_builtin F.excAttr_ValueError.ga.plain F.entry_bexc_ga (exc_class_check KX e hx hc (exc_class_entry KX e hx hc hq))
theorem exc_class_by {tk : Tok} {Q : Value → Shared → Prop} (KX : K.In h) (e : ErrK K C) (hx : h.get? a = some o) (hc : o.cls = .ref C) (hq : Q (.ref C) ⟨h, g, d, t, os⟩) :
    wpAny (model prog w) A (getAttrBy (.ref a) (.str "__class__" tk) false) Q E ⟨h, g, d, t, os⟩ := by
  have L1 := PySem.W.looks_findIn (M := model prog w) KX e.ga
  have L2 := PySem.W.looks_findIn (M := model prog w) KX e.gn
  have f3 := F.excAttr_ValueError.ga.bind (.ref a)
  have hx2 : (Value.builtin "BaseException.__getattribute__" == Value.builtin "object.__getattribute__") = false := by decide +kernel
  have hx1 : (onTheHeap (Value.ref C) && Value.builtin "BaseException.__getattribute__" == Value.builtin "object.__getattribute__") = false := by rw [hx2]; rfl
  repeat (any_goals (first | assumption | (with_reducible refine wpAny_loadPart_at hx ?_; rw [hc]) | with_reducible refine PySem.W.Looks.at L1 ?_ | with_reducible refine PySem.W.Looks.at L2 ?_ | wp_step))
  refine exc_class_call KX e hx hc ?_
  repeat (any_goals (first | assumption | wp_step))
theorem exc_class_attr {Q : Option Value → Shared → Prop} (KX : K.In h) (e : ErrK K C) (hx : h.get? a = some o) (hc : o.cls = .ref C) (hq : Q (some (.ref C)) ⟨h, g, d, t + 1, os⟩) :
    wpAny (model prog w) A (getAttr? (.ref a) "__class__") Q E ⟨h, g, d, t, os⟩ := by
  unfold getAttr? getAttrBy?
  repeat (any_goals (first | assumption | with_reducible apply exc_class_by KX e hx hc | wp_step))
end
theorem kitx_exc {K : PySem.W.Frag} {a C : Addr} (e : ErrK K C) : PySem.W.KitX K (.ref a) (.ref C) (fun h => ∃ o, h.get? a = some o ∧ o.cls = .ref C) where
  ty := fun M h X ⟨o, e1, e2⟩ => by
    rw [← e2]
    exact (PySem.W.Looks.ld e1).andThen .now
  it := fun M h X _ => by
    obtain ⟨bm, N, nm, q, bs, hdct, sn, sub, ab, col, dd, k0, k1, k2, k3, k5, hC, T⟩ := err_obj X e.err
    intro A' Q' E' s' k q
    unfold isType loadHead
    exact wpAny_bind (wpAny_loadPart (k _ _ hC) (wpAny_pure q))
  ne := fun h tp dd its n sl X htp => by
    obtain ⟨bm, N, nm, q, bs, hdct, sn, sub, ab, col, dd, k0, k1, k2, k3, k5, hC, T⟩ := err_obj X e.err
    refine Bool.eq_false_iff.mpr fun q => ?_
    have e : C = tp := Value.ref.inj (beq_iff_eq.mp q)
    subst e
    rw [hC] at htp
    exact absurd (Value.type.inj (congrArg Obj.cls (Option.some.inj htp))) (by decide)
  ca := fun {prog w A E Q s} X ⟨o, e1, e2⟩ k => by
    obtain ⟨h, g, d, t, os⟩ := s
    exact exc_class_attr X e e1 e2 k

section
variable {X : Cx}
/-- a class as a value -/
def isCls : V → Bool
  | .ref _ => true
  | .ty _ => true
  | _ => false
def clsV : V → Value
  | .ref C => .ref C
  | .ty n => .type n
  | _ => .none
theorem clsV_of {c : V} {u : Value} (h : isCls c = true) (r : RelV c u) : u = clsV c := by
  cases c <;> first | exact r | cases h
/-- isinstance(x, c): c a class as a value -/
def rIsi (K : PySem.W.Frag) : List V → Hp → VK → Prop := fun xs H Q => ∃ x c b, xs = [x, c] ∧ isCls c = true ∧ ((∃ t, TyOf K H x t ∧ PySem.W.kitOne K t (clsV c) = some b) ∨ ∃ a C, x = .ref a ∧ H a = some (excO a (.ref C)) ∧ ErrK K C ∧ PySem.W.kitOne K (.ref C) (clsV c) = some b) ∧ Q (.bl b) H
theorem call_isi : CallR X (.builtin "isinstance") (rIsi X.K) := by
  intro pins s σ H xs us Q I r h
  obtain ⟨x, c, b, rfl, hc, hx, q⟩ := h
  obtain ⟨u, u2, rfl, ru, ru2⟩ := vals2 r
  obtain rfl := clsV_of hc ru2
  rcases hx with ⟨t, ty, k⟩ | ⟨a, C, rfl, hH, e, k⟩
  · exact isinst_ok I ru ty k fun tk => ⟨.bl b, H, I.tok tk, rfl, q⟩
  · obtain rfl : u = Value.ref a := ru
    obtain ⟨⟨o, vs, e1, e2, _⟩, _⟩ := (show ObjOk X.prog X.w H s.heap a (excO a (.ref C)) from I.hok a _ hH)
    exact PySem.W.kia_one (kitx_exc e) I.kIn ⟨o, e1, e2⟩ k (fun z => nomatch z) fun tk => ⟨.bl b, H, I.tok tk, rfl, q⟩
end
end L2

set_option Elab.async false
set_option linter.all false
set_option maxRecDepth 100000
/-! the head, where the law's own code has lambdas: the table of its code is tracked -/
namespace L2
open PySem PySem.Spec PyProof.Rows

/-- no list of the written part -/
def noLists (K : PySem.W.Frag) : Bool := K.all fun p => match p.2.cls with
  | .type n => !(n == "list")
  | _ => true
theorem noLists_at {K : PySem.W.Frag} {a : Addr} {o : Obj} (h : noLists K = true) (e : K.lookup a = some o) : o.cls ≠ .type "list" := fun z => by
  have q := List.all_eq_true.mp h (a, o) (PySem.W.mem_of_lookupK e)
  dsimp only at q
  rw [z] at q
  exact absurd q (by decide)
end L2

set_option Elab.async false
set_option linter.all false
set_option maxRecDepth 100000
namespace L2
open PySem PySem.Spec PyProof.Rows
section
variable {X : Cx}
/-- a, b, c = x, y, z with plain local names -/
def tPar3 (i j k : Nat) (ta : TA) : TS := fun D σ H => ta σ H fun vs H1 => ∃ v w z, vs = [v, w, z] ∧ D.nx (((σ.set i (some v)).set j (some w)).set k (some z)) H1
theorem ps_par3 {i j k : Nat} {x y z : Str} {a b c : Expr} {ta : TA} {px py pz pt pos : Pos} {kt k2 pt2} (hc : X.calm = true) (hN : X.N.Nodup) (hi : X.N[i]? = some x) (hj : X.N[j]? = some y) (hk : X.N[k]? = some z) (hij : i ≠ j) (hik : i ≠ k) (hjk : j ≠ k)
    (hx : X.env.scope.names.lookup x = some .local) (hy : X.env.scope.names.lookup y = some .local) (hz : X.env.scope.names.lookup z = some .local) (ha : PA X [a, b, c] ta)
    (hw : swappedStores [.Tuple [.Name x px, .Name y py, .Name z pz] kt pt] (.Tuple [a, b, c] k2 pt2) X.env = pure (some [x, y, z]))
    (hs : swapsWithSole [.Tuple [.Name x px, .Name y py, .Name z pz] kt pt] (.Tuple [a, b, c] k2 pt2) pos.line X.env = pure false := by rfl) :
    PS X (.Assign [.Tuple [.Name x px, .Name y py, .Name z pz] kt pt] (.Tuple [a, b, c] k2 pt2) pos) (tPar3 i j k ta) := by
  intro pins s σ H D I h
  rw [exec_Assign_arm]
  refine wpAny_bind (wpAny_standAt ?_)
  rw [hs]
  refine wpAny_bind (wpAny_pure ?_)
  rw [if_neg (by decide)]
  refine wpAny_bind (Tuple_ (thn (ha _ pins s σ H _ I h) fun us s1 ⟨vs, H1, I1, r1, q1⟩ => ?_))
  obtain ⟨v, w, u, e1, q1⟩ := q1
  subst e1
  obtain ⟨u1, u2, u3, rfl, rv, rw', ru⟩ : ∃ u1 u2 u3, us = [u1, u2, u3] ∧ RelV v u1 ∧ RelV w u2 ∧ RelV u u3 := by
    cases r1 with
    | cons p q =>
      cases q with
      | cons p' q' =>
        cases q' with
        | cons p'' q'' =>
          cases q''
          exact ⟨_, _, _, rfl, p, p', p''⟩
  refine wpAny_newObj_type ?_ (by show 3 ≤ sizeLine; decide)
  have I2 : Inv X pins σ H1 { s1 with heap := s1.heap.push { cls := .type "tuple", data := .seq [u1, u2, u3].toArray } } := I1.kept (t' := s1.toks) fun b o e => Heap.get?_push_of_some _ e
  rw [hw]
  refine wpAny_bind (wpAny_pure ?_)
  show wpAny (model X.prog X.w) X.A (do rule "assign.swapped-stores"; let items ← unpackItems (.ref s1.heap.objs.size) 3 none; assignInOrder [fun v => bindName X.env z v, fun v => bindName X.env y v, fun v => bindName X.env x v] items.reverse; pure Flow.next) _ _ _
  refine wpAny_bind (wpAny_rule (wpAny_bind (unpackItems_tuple (items := #[u1, u2, u3]) (I.ok.hd hc) (IsTup.new s1.heap _) fun h' hx' => ?_)))
  have I3 := I2.kept (h' := h') (t' := s1.toks) fun b o e => hx' b o (Nat.ne_of_lt (Heap.lt_size e)) e
  show wpAny _ _ (assignInOrder [fun v => bindName X.env z v, fun v => bindName X.env y v, fun v => bindName X.env x v] [u3, u2, u1] >>= fun _ => pure Flow.next) _ _ _
  refine wpAny_bind (assignInOrder_cons (wpAny_bindName (store_ok I3 hN hk (.inl hz) ru (fun s2 I4 => ?_) (.inr hz))))
  refine assignInOrder_cons (wpAny_bindName (store_ok I4 hN hj (.inl hy) rw' (fun s3 I5 => ?_) (.inr hy)))
  refine assignInOrder_cons (wpAny_bindName (store_ok I5 hN hi (.inl hx) rv (fun s4 I6 => assignInOrder_nil (wpAny_pure ?_)) (.inr hx)))
  have e : ((σ.set k (some u)).set j (some w)).set i (some v) = ((σ.set i (some v)).set j (some w)).set k (some u) := by
    rw [List.set_comm _ _ (Ne.symm hjk), List.set_comm _ _ (Ne.symm hik), List.set_comm (i := j) (j := i) _ _ (Ne.symm hij)]
  rw [e] at I6
  exact ⟨_, H1, I6, q1⟩
end

/-- the cells that a lambda takes along -/
def closOf (cells : List (Str × Addr)) : List (Str × NameKind) → List (Str × Addr) → List (Str × Addr)
  | [], acc => acc
  | (n, k) :: r, acc => closOf cells r (if k == .free then (n, (cells.lookup n).getD 0) :: acc else acc)
theorem clos_go {env : Env} : ∀ (names : List (Str × NameKind)) (acc : List (Str × Addr)), (∀ y ∈ names, y.2 = .free → ∃ c, env.cells.lookup y.1 = some c) →
    (forIn names acc fun x (cs : List (Str × Addr)) => (do
      let (name, kind) := x
      if kind == .free then
        let c ← cellOf env name
        pure (ForInStep.yield ((name, c) :: cs))
      else pure (ForInStep.yield cs) : Sem (ForInStep (List (Str × Addr))))) = pure (closOf env.cells names acc)
  | [], acc, _ => rfl
  | (n, k) :: r, acc, h => by
    rw [List.forIn_cons]
    have ih := fun acc' => clos_go (env := env) r acc' fun y hy => h y (List.mem_cons_of_mem _ hy)
    by_cases hk : k = .free
    · subst hk
      obtain ⟨c, hc⟩ := h (n, .free) List.mem_cons_self rfl
      have hc' : env.cells.lookup n = some c := hc
      show _ = pure (closOf env.cells r (if NameKind.free == NameKind.free then _ else _))
      have e : cellOf env n = pure c := by unfold cellOf; rw [hc']
      simp only [beq_self_eq_true, if_true, e, pure_bind, hc', Option.getD_some]
      exact ih _
    · have hb : (k == NameKind.free) = false := beq_eq_false_iff_ne.mpr hk
      show _ = pure (closOf env.cells r (if k == NameKind.free then _ else _))
      simp only [hb, Bool.false_eq_true, if_false, pure_bind]
      exact ih _
theorem closureFor_eq {scope : Scope} {env : Env} (h : ∀ y ∈ scope.names, y.2 = .free → ∃ c, env.cells.lookup y.1 = some c) : closureFor scope env = pure (closOf env.cells scope.names []) := by
  unfold closureFor
  have := clos_go (env := env) scope.names [] h
  simp only [bind_pure] at this ⊢
  exact this
theorem clos_look {cells : List (Str × Addr)} {x : Str} {c : Addr} : ∀ (names : List (Str × NameKind)) (acc : List (Str × Addr)), (∀ y ∈ names, y.2 = .free → ∃ c, cells.lookup y.1 = some c) → (acc.lookup x = some c → cells.lookup x = some c) →
    (closOf cells names acc).lookup x = some c → cells.lookup x = some c
  | [], _, _, h, e => h e
  | (n, k) :: r, acc, h0, h, e => by
    unfold closOf at e
    refine clos_look r _ (fun y hy => h0 y (List.mem_cons_of_mem _ hy)) (fun e' => ?_) e
    split at e'
    · rename_i hk
      rw [List.lookup_cons] at e'
      split at e'
      · rename_i hx
        have hx' : x = n := eq_of_beq hx
        subst hx'
        obtain ⟨d, hd⟩ := h0 (x, k) List.mem_cons_self (eq_of_beq hk)
        have hd' : cells.lookup x = some d := hd
        rw [hd'] at e' ⊢
        exact e'
      · exact h e'
    · exact h e'
theorem clos_has {cells : List (Str × Addr)} {x : Str} : ∀ (names : List (Str × NameKind)) (acc : List (Str × Addr)), ((∃ c, acc.lookup x = some c) ∨ (x, NameKind.free) ∈ names) → ∃ c, (closOf cells names acc).lookup x = some c
  | [], acc, h => by
    rcases h with h | h
    · exact h
    · cases h
  | (n, k) :: r, acc, h => by
    unfold closOf
    refine clos_has r _ ?_
    rcases h with ⟨c, h⟩ | h
    · refine .inl ?_
      split
      · rw [List.lookup_cons]
        split
        · exact ⟨_, rfl⟩
        · exact ⟨c, h⟩
      · exact ⟨c, h⟩
    · rcases List.mem_cons.mp h with e | h
      · cases e
        refine .inl ?_
        rw [if_pos (by rfl), List.lookup_cons, beq_self_eq_true]
        exact ⟨_, rfl⟩
      · exact .inr h
end L2

set_option Elab.async false
set_option linter.all false
set_option maxRecDepth 100000
namespace L2
open PySem PySem.Spec PyProof.Rows
section
variable {P : Program} {w : World} {K : PySem.W.Frag} {mg : Str → Option Value} {base : Heap}
/-- a def whose errors are told -/
theorem okE {x qual : Str} {st : Stmt} {f : Addr} {fd : FuncData} {N ps : List Str} {k : Nat} {sp : Sp} (F : Fun K x qual st f fd) (S : FnScope N ps (defScope st)) (len : ∀ vs H Q E, sp vs H Q E → vs.length = ps.length)
    (hbody : ∀ (cdv : Value) (A : Around) (outer : List Env) (s : Shared) (H : Hp) (vs : List V) (Q : VK) (E : XK), Room k (A.deeper (envOfC qual (defScope st) s.heap.objs.size f cdv)) → sp vs H Q E →
      ∃ t, PSs (cxOf (CXE P w) P w K mg base N qual (defScope st) f cdv A outer s H E) (defBody st) t ∧ t { nx := fun _ H' => Q .non H', rt := Q } (start N vs) H) : FnOk P w K mg base (CXE P w) (k + 1) f fd ps sp := by
  obtain ⟨oc, od, kV, doc, pm, an, cdv, ct, osl, rfl, lk, hcd⟩ := F.ex
  exact fn_of lk hcd S len fun A outer s H vs Q E hr hsp => hbody cdv A outer s H vs Q E hr hsp
/-- a def that raises nothing -/
theorem okN {x qual : Str} {st : Stmt} {f : Addr} {fd : FuncData} {N ps : List Str} {k : Nat} {sp : Sp} (F : Fun K x qual st f fd) (S : FnScope N ps (defScope st)) (len : ∀ vs H Q E, sp vs H Q E → vs.length = ps.length)
    (hbody : ∀ (cdv : Value) (A : Around) (outer : List Env) (s : Shared) (H : Hp) (vs : List V) (Q : VK) (E : XK), Room k (A.deeper (envOfC qual (defScope st) s.heap.objs.size f cdv)) → sp vs H Q E →
      ∃ t, PSs (cxOf (CXE P w) P w K mg base N qual (defScope st) f cdv A outer s H E).nox (defBody st) t ∧ t { nx := fun _ H' => Q .non H', rt := Q } (start N vs) H) : FnOk P w K mg base (CXE P w) (k + 1) f fd ps sp :=
  okE F S len fun cdv A outer s H vs Q E hr hsp => by
    obtain ⟨t, h, q⟩ := hbody cdv A outer s H vs Q E hr hsp
    exact ⟨t, h.nox, q⟩
end
/-! a display of pairs: behind a veil, else the reading itself is reckoned out -/
structure PEx (X : Cx) (e : Expr) (t : TE) : Prop where
  pe : PE X e t
structure PSx (X : Cx) (e : List Stmt) (t : TS) : Prop where
  ps : PSs X e t
theorem disp2 {X : Cx} {k1 k2 v1 v2 : Expr} {pos pos' : Pos} {t1 t2 u1 u2 : TE} (h1 : PEx X k1 t1) (h2 : PEx X v1 u1) (h3 : PEx X k2 t2) (h4 : PEx X v2 u2) : PSx X [.Return (some (.Dict [some k1, some k2] [v1, v2] pos)) pos'] (tRet (tDisp [(t1, u1), (t2, u2)])) :=
  ⟨pss_one (ps_ret (pe_disp (pps_cons h1.pe h2.pe (pps_cons h3.pe h4.pe pps_nil)) rfl rfl (List.cons_ne_nil _ _) (Nat.le_of_ble_eq_true rfl)))⟩
theorem begun_body {X : Cx} {x y : Str} {i : Int} {p1 p2 p3 p4 p5 p6 : Pos} {j1 j2 j3 : Nat} : PSx X [.Return (some (.Dict [some (.Constant (.str x) j1 p1), some (.Constant (.str y) j2 p2)] [.Constant (.int i) j3 p3, .Dict [] [] p4] p5)) p6] (tRet (tDisp [(tC (.str x), tC (.int i)), (tC (.str y), tDNewK)])) :=
  disp2 ⟨pe_str⟩ ⟨pe_int⟩ ⟨pe_str⟩ ⟨pe_dnewK⟩
theorem okNx {P : Program} {w : World} {K : PySem.W.Frag} {mg : Str → Option Value} {base : Heap} {x qual : Str} {st : Stmt} {f : Addr} {fd : FuncData} {N ps : List Str} {k : Nat} {sp : Sp} (F : Fun K x qual st f fd) (S : FnScope N ps (defScope st)) (len : ∀ vs H Q E, sp vs H Q E → vs.length = ps.length)
    (hbody : ∀ (cdv : Value) (A : Around) (outer : List Env) (s : Shared) (H : Hp) (vs : List V) (Q : VK) (E : XK), Room k (A.deeper (envOfC qual (defScope st) s.heap.objs.size f cdv)) → sp vs H Q E →
      ∃ t, PSx (cxOf (CXE P w) P w K mg base N qual (defScope st) f cdv A outer s H E).nox (defBody st) t ∧ t { nx := fun _ H' => Q .non H', rt := Q } (start N vs) H) : FnOk P w K mg base (CXE P w) (k + 1) f fd ps sp :=
  okN F S len fun cdv A outer s H vs Q E hr hsp => by
    obtain ⟨t, h, q⟩ := hbody cdv A outer s H vs Q E hr hsp
    exact ⟨t, h.ps, q⟩
/-- a def of the text, with its promise -/
structure Def (P : Program) (w : World) (K : PySem.W.Frag) (mg : Str → Option Value) (base : Heap) (k : Nat) (x : Str) (ps : List Str) (sp : Sp) : Prop where
  ex : ∃ f fd, mg x = some (.ref f) ∧ PySem.W.keepIn K (.ref f) = true ∧ Binds K fd ps [] ∧ FnOk P w K mg base (CXE P w) k f fd ps sp
section
variable {X : Cx} {k k' : Nat} {x : Str} {ps : List Str} {sp : Sp} {E : XK} {p pos : Pos} {e : Expr} {es : List Expr} {t : TA}
theorem Def.pe (D : Def X.prog X.w X.K X.mg X.base k x ps sp) (hr : Room k' X.A) (hk : k ≤ k') (hg : Gl X x) (hx : Passes (CXE X.prog X.w) X E) (ha : PA X (e :: es) t) (hdb : (x == ("__debug__" : Str)) = false := by decide)
    (he : starEach (e :: es) X.env = (false, eval e X.env) :: starEach es X.env := by rfl) (hpl : (backTo pos (starEach es X.env)).any (·.1) = false := by rfl) : PE X (.Call (.Name x p) (e :: es) [] pos) (tCall sp [] E t) := by
  obtain ⟨f, fd, h1, h2, h3, h4⟩ := D.ex
  exact pe_call h4 (hr.mono hk) hg h1 h2 h3 .nil hx ha hdb he hpl
theorem Def.pe0 (D : Def X.prog X.w X.K X.mg X.base k x ps sp) (hr : Room k' X.A) (hk : k ≤ k') (hg : Gl X x) (hx : Passes (CXE X.prog X.w) X E) (hdb : (x == ("__debug__" : Str)) = false := by decide) :
    PE X (.Call (.Name x p) [] [] pos) (tCall sp [] E tNil) := by
  obtain ⟨f, fd, h1, h2, h3, h4⟩ := D.ex
  exact pe_call0 h4 (hr.mono hk) hg h1 h2 h3 .nil hx hdb
end
section
variable {X : Cx} {k k' : Nat} {x : Str} {ps ks : List Str} {sp : Sp} {E : XK} {p pos : Pos} {e : Expr} {es : List Expr} {t tk : TA} {kws : List Keyword}
end
theorem ifB {c : Bool} {A B : Prop} (hT : c = true → A) (hF : c = false → B) : if c = true then A else B := by
  cases c with
  | true => rw [if_pos rfl]; exact hT rfl
  | false => rw [if_neg (by decide)]; exact hF rfl
theorem ne_bl (x y : Bool) : (!decide (V.bl x = V.bl y)) = (x != y) := by cases x <;> cases y <;> rfl
theorem eq_int' (x y : Int) : decide (V.int x = V.int y) = decide (x = y) := by
  by_cases h : x = y
  · subst h; simp
  · rw [decide_eq_false (fun e => h (V.int.inj e)), decide_eq_false h]
theorem SqL.upd {K : PySem.W.Frag} {H : Hp} {a b : Addr} {o : HO} {xs : List V} (h : SqL K H a xs) (n : a ≠ b) : SqL K (upd H b o) a xs := by
  rcases h with (h | ⟨o', h⟩) | h
  · exact .inl (.inl (by rw [upd_ne n]; exact h))
  · exact .inl (.inr ⟨o', by rw [upd_ne n]; exact h⟩)
  · exact .inr h
theorem SqT.same {K : PySem.W.Frag} {H H' : Hp} {a : Addr} {xs : List V} (e : Same H H') (h : SqT K H a xs) : SqT K H' a xs := by
  rcases h with (h | ⟨o, h⟩) | h
  · exact .inl (.inl (e _ _ h))
  · exact .inl (.inr ⟨o, e _ _ h⟩)
  · exact .inr h
theorem Same.new {H : Hp} {p : Addr} {o : HO} (h : H p = none) : Same H (upd H p o) := fun b u e => by rw [upd_ne (ne_of_none e h)]; exact e

/-! ### the draws -/
structure TownAt (H : Hp) (t r : Addr) (c : Int) (rs : List (Key × V)) : Prop where
  tw : H t = some (.dK [(Sum.inr "count", .int c), (Sum.inr "rests", .ref r)])
  rt : H r = some (.dK rs)
  vs : ∀ kv ∈ rs, ∃ k z, kv = (Sum.inl k, V.int z)
  c0 : 0 ≤ c
  ln : (rs.length : Int) ≤ c
  ne : t ≠ r
theorem TownAt.same {H H' : Hp} {t r : Addr} {c : Int} {rs : List (Key × V)} (T : TownAt H t r c rs) (e : Same H H') : TownAt H' t r c rs := ⟨e _ _ T.tw, e _ _ T.rt, T.vs, T.c0, T.ln, T.ne⟩
def Apart (t r : Addr) (H H' : Hp) : Prop := ∀ b o, H b = some o → b ≠ t → b ≠ r → H' b = some o
theorem Apart.trans {t r : Addr} {H H1 H2 : Hp} (a : Apart t r H H1) (b : Apart t r H1 H2) : Apart t r H H2 := fun c o e n1 n2 => b c o (a c o e n1 n2) n1 n2
theorem Apart.of {t r : Addr} {H H1 : Hp} (a : Same H H1) : Apart t r H H1 := fun c o e _ _ => a c o e
theorem Apart.seq {K : PySem.W.Frag} {t r a : Addr} {H H' : Hp} {xs : List V} (e : Apart t r H H') (h : SqL K H a xs) (n1 : a ≠ t) (n2 : a ≠ r) : SqL K H' a xs := by
  rcases h with (h | ⟨o, h⟩) | h
  · exact .inl (.inl (e _ _ h n1 n2))
  · exact .inl (.inr ⟨o, e _ _ h n1 n2⟩)
  · exact .inr h
theorem rests_val {rs : List (Key × V)} (h : ∀ kv ∈ rs, ∃ k z, kv = (Sum.inl k, V.int z)) (k : Int) (d : Int) : ∃ z, (valV rs (Sum.inl k : Key)).getD (.int d) = .int z := by
  cases e : rs.find? fun kv => decide (kv.1 = (Sum.inl k : Key)) with
  | none => exact ⟨d, by unfold valV; rw [e]; rfl⟩
  | some p =>
    obtain ⟨k', z, rfl⟩ := h p (List.mem_of_find?_eq_some e)
    exact ⟨z, by unfold valV; rw [e]; rfl⟩
theorem rests_put {rs : List (Key × V)} (h : ∀ kv ∈ rs, ∃ k z, kv = (Sum.inl k, V.int z)) (k z : Int) : (∀ kv ∈ putK rs (Sum.inl k : Key) (.int z), ∃ k z, kv = (Sum.inl k, V.int z)) ∧ (putK rs (Sum.inl k : Key) (.int z)).length ≤ rs.length + 1 := by
  unfold putK
  split
  · refine ⟨fun kv hm => ?_, by rw [List.length_map]; omega⟩
    obtain ⟨p, hp, rfl⟩ := List.mem_map.mp hm
    obtain ⟨k', z', rfl⟩ := h p hp
    split
    · exact ⟨k', z, rfl⟩
    · exact ⟨k', z', rfl⟩
  · refine ⟨fun kv hm => ?_, by rw [List.length_append]; exact Nat.le_refl _⟩
    rcases List.mem_append.mp hm with hm | hm
    · exact h kv hm
    · exact ⟨k, z, List.mem_singleton.mp hm⟩
theorem cnt_ne : ¬ ((Sum.inr "count" : Key) = (Sum.inr "rests" : Key)) := by
  have h : ¬ ("count" : Str) = "rests" := by decide +kernel
  exact fun e => h (Sum.inr.inj e)
theorem town_put (c d : Int) (r : Addr) : putK [((Sum.inr "count" : Key), V.int c), (Sum.inr "rests", V.ref r)] (Sum.inr "count") (.int d) = [((Sum.inr "count" : Key), V.int d), ((Sum.inr "rests" : Key), V.ref r)] := by
  have h : ¬ ((Sum.inr "rests" : Key) = (Sum.inr "count" : Key)) := fun e => cnt_ne e.symm
  unfold putK
  rw [if_pos (by simp)]
  simp only [List.map_cons, List.map_nil, if_true, if_neg h]
theorem dget_count {H : Hp} {t r : Addr} {c : Int} (h : H t = some (.dK [(Sum.inr "count", .int c), (Sum.inr "rests", .ref r)])) : DGet H t (.str "count") (some (.int c)) := by
  have e := DGet.k (k := (Sum.inr "count" : Key)) h
  rw [valV_pos rfl] at e
  exact e
theorem dget_rests {H : Hp} {t r : Addr} {c : Int} (h : H t = some (.dK [(Sum.inr "count", .int c), (Sum.inr "rests", .ref r)])) : DGet H t (.str "rests") (some (.ref r)) := by
  have e := DGet.k (k := (Sum.inr "rests" : Key)) h
  rw [valV_neg cnt_ne, valV_pos rfl] at e
  exact e
theorem dput_count {H : Hp} {t r : Addr} {c : Int} (d : Int) (h : H t = some (.dK [(Sum.inr "count", .int c), (Sum.inr "rests", .ref r)])) : DPut H t (.str "count") (.int d) (upd H t (.dK [(Sum.inr "count", .int d), (Sum.inr "rests", .ref r)])) := by
  have e := DPut.k (k := (Sum.inr "count" : Key)) (v := .int d) h (by show 2 < sizeLine; decide)
  rw [town_put] at e
  exact e
/-- a draw: some number below many, and the town has counted it -/
def spDraw (K : PySem.W.Frag) : Sp := fun vs H Q _ => ∃ (a t r : Addr) (ns : List Int) (c many : Int) (rs : List (Key × V)), vs = [.ref a, .ref t, .int many] ∧ SqL K H a (ns.map V.int) ∧ TownAt H t r c rs ∧ a ≠ t ∧ a ≠ r ∧ ns.length ≤ 63 ∧ c < 100000 ∧ 0 < many ∧ many < 1000000 ∧
  ∀ (v : Int) (rs' : List (Key × V)) (H' : Hp), 0 ≤ v → v < many → TownAt H' t r (c + 1) rs' → Apart t r H H' → Q (.int v) H'
/-- a new town -/
def spBegun : Sp := fun vs H Q _ => vs = [] ∧ ∀ (t r : Addr) (H' : Hp), H t = none → H r = none → TownAt H' t r 0 [] → Same H H' → Q (.ref t) H'
/-- Python's own names that the text leaves -/
structure Own (mg : Str → Option Value) : Prop where
  len : mg "len" = none
  range : mg "range" = none
  abs : mg "abs" = none
  max : mg "max" = none
  int : mg "int" = none
  isi : mg "isinstance" = none
  bool : mg "bool" = none
  val : mg "ValueError" = none
  reversed : mg "reversed" = none
  divmod : mg "divmod" = none
  str : mg "str" = none
  sum : mg "sum" = none
end L2

set_option Elab.async false
set_option linter.all false
set_option maxRecDepth 100000
namespace L2
open PySem PySem.Spec PyProof.Rows
section
variable {X : Cx} {k : Nat} {x qual : Str} {st : Stmt} {fa : Addr} {fd : FuncData} {N : List Str} {p1 : Str} {E : XK} {c P : Addr} {q : Str} {params : Arguments} {body : Expr} {scope : Scope} {p lpos cpos : Pos} {th : St → Addr → Addr → Hp → VK → Prop}
end

/-- the free names of a lambda are cells around it -/
def freeIn (sc outer : Scope) : Bool := sc.names.all fun y => !(y.2 == .free) || outer.names.lookup y.1 == some .cell
theorem freeIn_at {sc outer : Scope} (h : freeIn sc outer = true) : ∀ y ∈ sc.names, y.2 = .free → outer.names.lookup y.1 = some .cell := fun y hy e => by
  have q := List.all_eq_true.mp h y hy
  rw [e] at q
  simpa using q
/-- a def and its code -/
structure FunC (K : PySem.W.Frag) (x qual : Str) (st : Stmt) (f : Addr) (fd : FuncData) (cdv : Value) : Prop where
  ex : ∃ (oc : Value) (od : Option Addr) (kV doc pm : Value) (an : Option Addr) (ct : Value) (osl : Array (Option Value)),
    fd = PySem.W.fnOf x qual (defArgs st) (defBody st) (defScope st) .none kV doc pm an cdv ct ∧ K.lookup f = some ⟨oc, od, .func fd, osl⟩ ∧ PySem.W.codeIn K cdv qual = true
theorem okNC {P : Program} {w : World} {K : PySem.W.Frag} {mg : Str → Option Value} {base : Heap} {x qual : Str} {st : Stmt} {f : Addr} {fd : FuncData} {cdv : Value} {N ps : List Str} {k : Nat} {sp : Sp} (F : FunC K x qual st f fd cdv) (S : FnScope N ps (defScope st)) (len : ∀ vs H Q E, sp vs H Q E → vs.length = ps.length)
    (hbody : ∀ (A : Around) (outer : List Env) (s : Shared) (H : Hp) (vs : List V) (Q : VK) (E : XK), Room k (A.deeper (envOfC qual (defScope st) s.heap.objs.size f cdv)) → sp vs H Q E →
      ∃ t, PSs (cxOf (CXE P w) P w K mg base N qual (defScope st) f cdv A outer s H E).nox (defBody st) t ∧ t { nx := fun _ H' => Q .non H', rt := Q } (start N vs) H) : FnOk P w K mg base (CXE P w) (k + 1) f fd ps sp := by
  obtain ⟨oc, od, kV, doc, pm, an, ct, osl, rfl, lk, hcd⟩ := F.ex
  exact fn_of lk hcd S len fun A outer s H vs Q E hr hsp => by
    obtain ⟨t, h, q⟩ := hbody A outer s H vs Q E hr hsp
    exact ⟨t, h.nox, q⟩
/-- a def at the top: its name, its object -/
structure DefAt (K : PySem.W.Frag) (x : Str) (st : Stmt) : Prop where
  ex : ∃ f fd, PySem.W.nsIn K mainGlobals x = some (some (.ref f)) ∧ Fun K x x st f fd
theorem defAt_mk {K : PySem.W.Frag} {x : Str} {st : Stmt} {f : Addr} {oc : Value} {od an : Option Addr} {osl : Array (Option Value)} {kV doc pm cdv ct : Value} (a : PySem.W.nsIn K mainGlobals x = some (some (.ref f)))
    (l : K.lookup f = some ⟨oc, od, .func (PySem.W.fnOf x x (defArgs st) (defBody st) (defScope st) .none kV doc pm an cdv ct), osl⟩) (c : PySem.W.codeIn K cdv x = true) (k : PySem.W.keepIn K (.ref f) = true) : DefAt K x st :=
  ⟨f, _, a, ⟨⟨oc, od, kV, doc, pm, an, cdv, ct, osl, rfl, l, c⟩, k⟩⟩
section
variable {P : Program} {w : World} {K : PySem.W.Frag} {mg : Str → Option Value} {base h : Heap} {x : Str} {st : Stmt} {k : Nat} {ps : List Str} {sp : Sp}
theorem DefAt.def (D : DefAt K x st) (X : K.In h) (G : h.Ns mainGlobals mg) (hok : ∀ f fd, Fun K x x st f fd → FnOk P w K mg base (CXE P w) k f fd ps sp)
    (hb : ∀ (kV doc pm : Value) (an : Option Addr) (cdv ct : Value) (us : List Value), us.length = ps.length → bindArgs (PySem.W.fnOf x x (defArgs st) (defBody st) (defScope st) .none kV doc pm an cdv ct) ⟨us, []⟩ = pure (ps.zip us)) : Def P w K mg base k x ps sp := by
  obtain ⟨f, fd, a, F⟩ := D.ex
  exact ⟨f, fd, PySem.W.mg_of X G a, F.kp, F.binds hb, hok f fd F⟩
end
/-! two ways that meet again -/
/-! like tuples -/
section
variable {H H' : Hp} {a t r Pa : Addr} {q : Str} {ns : List Int} {c c' : Int} {K : PySem.W.Frag}
end
end L2

set_option Elab.async false
set_option linter.all false
set_option maxRecDepth 100000
/-! comprehensions: one clause, over what a loop can walk; the block's own names only -/
namespace L2
open PySem PySem.Spec PyProof.Rows
def blkEnv (scope : Scope) (env : Env) (C : Addr) : Env :=
  { scope := scope, locals := C, globals := env.globals, cells := cellsFrom (C + 1) scope.names [], qual := env.qual, func := none, code := env.code, frame := env.frame, builtins := env.builtins }
/-- the context of a comprehension's block -/
abbrev cxBlk (X : Cx) (NB : List Str) (scope : Scope) (s : Shared) (H : Hp) (ex : List Addr) : Cx :=
  { X with N := NB, s₀ := s, H₀ := H, env := blkEnv scope X.env s.heap.objs.size, outer := X.stack, ex := ex, fn := fun _ => true, pn := [], xe := fun _ _ => False }
structure BlkScope (NB : List Str) (scope : Scope) : Prop where
  kind : scope.kind = .function
  nd : NB.Nodup
  nofree : ∀ y ∈ scope.names, y.2 ≠ .free
  loc : ∀ y ∈ scope.names, y.2 = .local → scope.names.lookup y.1 = some .local
theorem relabel_same {scope : Scope} {env : Env} (h : ∀ y ∈ scope.names, y.2 ≠ .free) : relabel scope env = scope := by
  obtain ⟨k, names, g, c, m⟩ := scope
  have e : ∀ l : List (Str × NameKind), (∀ y ∈ l, y.2 ≠ .free) → (l.map fun (n, k) => if (k == NameKind.free && env.scope.kind == .function && env.kindOf n == some .cell) then (n, NameKind.cell) else (n, k)) = l := by
    intro l
    induction l with
    | nil => intro _; rfl
    | cons y r ih =>
      intro hl
      obtain ⟨n, k⟩ := y
      have hk : (k == NameKind.free) = false := beq_eq_false_iff_ne.mpr (hl (n, k) List.mem_cons_self)
      rw [List.map_cons, ih fun y hy => hl y (List.mem_cons_of_mem _ hy)]
      simp only [hk, Bool.false_and, Bool.false_eq_true, if_false]
  unfold relabel
  simp only [e names h]
theorem clos_none {scope : Scope} {env : Env} (h : ∀ y ∈ scope.names, y.2 ≠ .free) : closureFor scope env = pure [] := by
  rw [closureFor_eq fun y hy e => absurd e (h y hy)]
  have e : ∀ (l : List (Str × NameKind)) (acc : List (Str × Addr)), (∀ y ∈ l, y.2 ≠ .free) → closOf env.cells l acc = acc := by
    intro l
    induction l with
    | nil => intro acc _; rfl
    | cons y r ih =>
      intro acc hl
      obtain ⟨n, k⟩ := y
      have hk : (k == NameKind.free) = false := beq_eq_false_iff_ne.mpr (hl (n, k) List.mem_cons_self)
      unfold closOf
      rw [hk]
      exact ih acc fun y hy => hl y (List.mem_cons_of_mem _ hy)
  rw [e _ _ h]
theorem wpAny_newBlock {M : Model} {A : Around} {E : Value → Shared → Prop} {s : Shared} {scope : Scope} {globals : Addr} {qual : Str} {env : Env} {Q : Env → Shared → Prop} (hk : scope.kind = .function)
    (hQ : ∀ cenv s', cenv = { scope := scope, locals := s.heap.objs.size, globals := globals, cells := cellsFrom (s.heap.objs.size + 1) scope.names [], qual := qual, func := none, code := env.code, frame := env.frame, builtins := env.builtins } →
      InCallC s s.heap.objs.size (fun _ => none) (cellsFrom (s.heap.objs.size + 1) scope.names []) (fun _ => none) s' → Q cenv s') :
    wpAny M A (newFunctionEnv scope globals [] [] qual none .none (some env)) Q E s := by
  simp only [newFunctionEnv, Option.isSome_some, if_true]
  refine wpAny_bind (wpAny_alloc ?_)
  refine wpAny_bind (wpAny_layCells _ (fun name kind cells => by cases hkc : kind == NameKind.cell <;> simp [hkc]) _ _ _ _ ?_)
  have ok := cellsFrom_ok scope.names (s.heap.push { cls := .type "dict", data := .dict #[] }) (s.heap.objs.size + 1) [] ⟨fun _ _ hm => (nomatch hm), List.Pairwise.nil⟩ (by rw [Heap.size_push]; exact Nat.le_refl _)
  rw [Heap.size_push] at ok
  rw [show ({ s with heap := s.heap.push { cls := .type "dict", data := .dict #[] } } : Shared).heap.objs.size = s.heap.objs.size + 1 from Heap.size_push ..]
  refine wpAny_bind (wpAny_pure (wpAny_pure (hQ _ _ rfl ?_)))
  exact ⟨⟨⟨_, _, rfl⟩, (Heap.Ns.new s.heap (.type "dict")).keeps (pushCells_keeps _ _), fun b o e => pushCells_keeps _ _ b o (Heap.get?_push_of_some _ e), Nat.le_refl _⟩,
      fun n c hc => (ok.empty n c (mem_of_lookup hc)).1, ok.apart, fun n c hm => (ok.empty n c hm).2⟩
section
variable {prog : Program} {w : World} {A : Around} {E : Value → Shared → Prop} {R : Result → Shared → Prop} {s : Shared}
theorem comp_loop {elt target iter : Expr} {ifs : List Expr} {scope : Scope} {pos : Pos} {it acc : Value} {env : Env} (I : Nat → Shared → Prop)
    (turn : ∀ n s, I n s → wpAny (model prog w) A (pyNext it) (fun r s₁ => match r with
      | none => R (.ok .next) s₁
      | some v => wpAny (model prog w) A (letOwnedTupleGo target it v) (fun _ s₁' => wpAny (model prog w) A (assign target env v) (fun _ s₂ =>
          wpAny (model prog w) A (forIn ifs true fun c r => if r = true then do let ok ← isTrue c env (eval c env); pure (ForInStep.yield ok) else pure (ForInStep.yield r)) (fun ok s₃ =>
            if ok = true then wpAny (model prog w) A (eval elt env) (fun x s₄ =>
              wpAny (model prog w) A (call (.builtin "list.append") [acc, x]) (fun _ s₅ => ∃ m, m < n ∧ I m s₅) (notedBy (model prog w) A env fun e s' => R (.error e) s') s₄) (notedBy (model prog w) A env fun e s' => R (.error e) s') s₃
            else ∃ m, m < n ∧ I m s₃) (notedBy (model prog w) A env fun e s' => R (.error e) s') s₂) (notedBy (model prog w) A env fun e s' => R (.error e) s') s₁') (notedBy (model prog w) A env fun e s' => R (.error e) s') s₁) (notedBy (model prog w) A env fun e s' => R (.error e) s') s)
    (n : Nat) (h : I n s) :
    codeAny (model prog w) A (.compLoop (.ListComp elt [⟨target, iter, ifs, 0⟩] scope pos) 0 it acc env) R s := by
  refine codeAny_loop rfl I (fun n s hI => ?_) n h
  show wpAny _ A ((compTurn (.ListComp elt [⟨target, iter, ifs, 0⟩] scope pos) 0 it acc env).onRaise (fun x => do noteFrame x env; theTreesLotGoes x)) _ _ s
  refine wpAny_noted ?_
  rw [compTurn_list]
  refine wpAny_bind (wpAny_standAt (wpAny_bind (wpAny_mono (turn n s hI) (fun r s₁ h₁ => ?_) fun _ _ h' => h')))
  cases r with
  | none => exact wpAny_pure h₁
  | some v =>
    refine wpAny_bind (wpAny_mono h₁ (fun _ s₁' h₁' => ?_) fun _ _ h' => h')
    refine wpAny_bind (wpAny_mono h₁' (fun _ s₂ h₂ => wpAny_bind (wpAny_mono h₂ (fun ok s₃ h₃ => ?_) fun _ _ h' => h')) fun _ _ h' => h')
    cases ok with
    | false => exact wpAny_pure ⟨rfl, h₃⟩
    | true =>
      exact wpAny_bind (wpAny_bind (wpAny_mono h₃ (fun x s₄ h₄ => wpAny_bind (wpAny_mono h₄ (fun _ s₅ h₅ => wpAny_pure (wpAny_pure ⟨rfl, h₅⟩)) fun _ _ h' => h')) fun _ _ h' => h'))
end
/-- the tests of a clause -/
def PTs (X : Cx) (ifs : List Expr) (t : TT) : Prop :=
  ∀ (pins : List (Addr × Obj)) (s : Shared) (σ : St) (H : Hp) (Q : Bool → Hp → Prop), Inv X pins σ H s → t σ H Q →
    wpAny (model X.prog X.w) X.A (forIn ifs true fun c r => if r = true then do let ok ← isTrue c X.env (eval c X.env); pure (ForInStep.yield ok) else pure (ForInStep.yield r)) (TP X pins σ Q) X.xe s
def tAll : TT := fun _ H Q => Q true H
theorem pts_nil {X : Cx} : PTs X [] tAll := fun pins s σ H Q I h => wpAny_tests_nil ⟨H, I, h⟩
/-- [elt for tg in iter if ..] -/
def tComp (NB : List Str) (wi : TI) (g : TG) (tt : TT) (te : TE) : TE := fun σ H Q => wi σ H fun J H1 => ∃ W : Nat → Nat → List V → Hp → Prop, (∃ m, W 0 m [] H1) ∧ ∀ i m vs H, W i m vs H →
  (J.stop i H ∧ ∀ p, H p = none → Q (.ref p) (upd H p (.lst vs))) ∨ (J.go i H ∧ vs.length < sizeLine ∧ ∃ N : List V → Hp → Prop, (∀ vs' H', N vs' H' → ∃ m', m' < m ∧ W (i + 1) m' vs' H') ∧
    ∀ x H', J.yld i H x H' → g x (List.replicate NB.length none) H' fun σ2 H2 => tt σ2 H2 fun b H3 => if b = true then te σ2 H3 fun v H4 => N (vs ++ [v]) H4 else N vs H3)
abbrev lstO (ys : List Value) : Obj := { cls := .type "list", data := .seq ys.toArray ys.length }
section
variable {X : Cx}
theorem pe_lcomp {elt tg iter : Expr} {ifs : List Expr} {scope : Scope} {pos : Pos} {NB : List Str} {wi : TI} {g : TG} {tt : TT} {te : TE} (hc : X.calm = true) (S : BlkScope NB scope) (hi : PI X tg iter wi)
    (hg : ∀ s H ex, PG (cxBlk X NB scope s H ex) tg g) (ht : ∀ s H ex, PTs (cxBlk X NB scope s H ex) ifs tt) (he : ∀ s H ex, PE (cxBlk X NB scope s H ex) elt te)
    (hs : ∀ x, foldedSetIterable iter X.env x = pure x := by intro _; rfl) : PE X (.ListComp elt [⟨tg, iter, ifs, 0⟩] scope pos) (tComp NB wi g tt te) := by
  intro pins s σ H Q I h
  rw [eval_ListComp]
  refine wpAny_comprehension_free (use := none) (cl := []) rfl hs (clos_none S.nofree) S.kind S.loc (thn (hi pins s σ H _ I h) fun v s1 h1 => thn h1 fun itv s2 h2 => ?_)
  obtain ⟨it, fp, tn, J, H2, e, I2, T, st2, f2, W, ⟨m0, w0⟩, turn⟩ := h2
  subst e
  refine wpAny_newObj_type ?_
  have up2 : ∀ b o, s2.heap.get? b = some o → (s2.heap.push { cls := .type "list", data := .seq ([] : List Value).toArray }).get? b = some o := fun b o e => Heap.get?_push_of_some _ e
  have I3 : Inv X pins σ H2 { s2 with heap := s2.heap.push { cls := .type "list", data := .seq ([] : List Value).toArray } } := I2.kept (t' := s2.toks) up2
  have st3 : tn 0 (s2.heap.push { cls := .type "list", data := .seq ([] : List Value).toArray }) := T.keep _ _ _ st2 fun b _ o e => up2 b o e
  have hD3 : (s2.heap.push { cls := .type "list", data := .seq ([] : List Value).toArray }).get? s2.heap.objs.size = some (lstO []) := Heap.get?_push_size _ rfl
  have hD2 : H2 s2.heap.objs.size = none := I2.hok.fresh (Nat.le_refl _)
  have lt2 : ∀ b o, s2.heap.get? b = some o → b ≠ s2.heap.objs.size := fun b o e => Nat.ne_of_lt (Heap.lt_size e)
  have fpO : ∀ b ∈ fp, ∃ o, s2.heap.get? b = some o := fun b hb => let ⟨o, e, _⟩ := T.obj _ _ st2 b hb; ⟨o, e⟩
  have hDs0 : X.s₀.heap.objs.size ≤ s2.heap.objs.size := I2.sz
  have hDL : s2.heap.objs.size ≠ X.env.locals := Nat.ne_of_gt I2.lt
  have hDC : ∀ x c, X.env.cells.lookup x = some c → c ≠ s2.heap.objs.size := fun x c e => let ⟨v, o, e1, _⟩ := I2.cell x c e; lt2 c o e1
  have hDp : ∀ p ∈ X.pn ++ pins, p.1 ≠ s2.heap.objs.size := fun p hp => lt2 p.1 _ (I2.pin p hp).1
  have hDf : s2.heap.objs.size ∉ frs X.stack := fun z => let ⟨o, e, _⟩ := (I2.stack.mem z).2; lt2 _ o e rfl
  generalize hS3 : ({ s2 with heap := s2.heap.push { cls := .type "list", data := .seq ([] : List Value).toArray } } : Shared) = s3 at I3 ⊢
  have hh3 : s3.heap = s2.heap.push { cls := .type "list", data := .seq ([] : List Value).toArray } := by rw [← hS3]
  rw [← hh3] at st3 hD3 up2
  generalize s2.heap.objs.size = D at hD3 hD2 lt2 hDs0 hDL hDC hDp hDf ⊢
  refine wpAny_newBlock S.kind fun cenv s4 hce x4 => ?_
  subst hce
  rw [relabel_same S.nofree]
  have lt3 : ∀ b o, s3.heap.get? b = some o → b < s3.heap.objs.size := fun b o e => Heap.lt_size e
  have fp3 : ∀ b ∈ fp, b < s3.heap.objs.size := fun b hb => let ⟨o, e⟩ := fpO b hb; lt3 b o (up2 b o e)
  have dl3 : D < s3.heap.objs.size := lt3 D _ hD3
  have DfpN : ∀ b ∈ fp, b ≠ D := fun b hb => let ⟨o, e⟩ := fpO b hb; lt2 b o e
  obtain ⟨h4, tk4, rfl, hk4⟩ := x4.done
  have bsN : ∀ b o, X.base.get? b = some o → b ∉ D :: fp := fun b o e hb => by
    rcases List.mem_cons.mp hb with rfl | hb
    · exact absurd (Nat.lt_of_lt_of_le (Heap.lt_size (I2.ok.bs b o e).1) hDs0) (Nat.lt_irrefl _)
    · obtain ⟨_, _, _, f3, _⟩ := f2 b hb
      rcases f3 with z | z
      · exact I2.ok.noex b o e z
      · exact absurd (Nat.lt_of_lt_of_le (Heap.lt_size (I2.ok.bs b o e).1) z) (Nat.lt_irrefl _)
  have exF : ∀ b ∈ D :: fp, b ∉ frs X.stack := fun b hb hf => by
    rcases List.mem_cons.mp hb with rfl | hb
    · exact hDf hf
    · obtain ⟨_, f1, f2', _⟩ := f2 b hb
      rcases List.mem_cons.mp (I2.stkSub b hf) with z | z
      · exact f1 z
      · exact f2' z
  have cge : ∀ y c, (cellsFrom (s3.heap.objs.size + 1) scope.names []).lookup y = some c → s3.heap.objs.size < c := fun y c e => x4.above y c (PySem.mem_of_lookup e)
  have exLt : ∀ b ∈ D :: fp, b < s3.heap.objs.size := fun b hb => by
    rcases List.mem_cons.mp hb with rfl | hb
    · exact dl3
    · exact fp3 b hb
  have okB : (cxBlk X NB scope s3 H2 (D :: fp)).Ok := by
    refine ⟨I3.ok.mod, S.kind, I3.ok.glob, I3.ok.blt, Nat.le_refl _, fun y z c h1 h2 => ?_, fun y hy => ?_, fun y c _ h => Nat.le_of_lt (cge y c h), I3.ok.hd, I3.ok.frames, .inl rfl, fun b hb => ⟨Nat.ne_of_lt (exLt b hb), fun y c e z => ?_⟩, I3.bs, Nat.le_trans I3.ok.bsz I3.sz, bsN, exF, I3.stack, I3.stkFree⟩
    · exact name_of_addr x4.apart (PySem.mem_of_lookup h1) (PySem.mem_of_lookup h2)
    · have hy : scope.names.lookup y = some .cell ∨ scope.names.lookup y = some .free := hy
      rcases hy with hy | hy
      · exact cell_has hy
      · exact absurd rfl (S.nofree _ (PySem.mem_of_lookup hy))
    · have := cge y c e
      rw [z] at this
      exact absurd (Nat.lt_trans this (exLt b hb)) (Nat.lt_irrefl _)
  have rep : ∀ (j : Nat) (v : V), (List.replicate NB.length (none : Option V))[j]? ≠ some (some v) := fun j v z => by
    rw [List.getElem?_replicate] at z
    split at z <;> cases z
  have IB : Inv (cxBlk X NB scope s3 H2 (D :: fp)) [(D, lstO [])] (List.replicate NB.length none) H2 { s3 with heap := h4, toks := tk4 } := by
    refine ⟨okB, rfl, I3.bare, Un.kept hk4, ⟨_, x4.toInCall.ns, fun i y v h1 h2 h3 => absurd h2 (rep i v)⟩, fun y c h => ⟨_, x4.cell y c h⟩, I3.hok.fresh (Nat.le_refl _), fun y c h => I3.hok.fresh (Nat.le_of_lt (cge y c h)), fun p hp => ?_, I3.hok.kept hk4, by rw [List.length_replicate]⟩
    obtain rfl : p = (D, lstO []) := by simpa using hp
    exact ⟨hk4 _ _ hD3, hD2, Nat.ne_of_lt dl3, hDf, fun v z => nomatch z⟩
  -- what stays true of the iterator's objects
  have stat : ∀ {H' : Hp} {ys : List Value}, (∀ b ∈ fp, H' b = none) → ∀ b ∈ fp, FpOk (cxBlk X NB scope s3 H2 (D :: fp)) [(D, lstO ys)] H' b := fun hn b hb =>
    ⟨hn b hb, Nat.ne_of_lt (fp3 b hb), exF b (List.mem_cons_of_mem _ hb), .inl (List.mem_cons_of_mem _ hb), fun y c e z => by
      have := cge y c e
      rw [z] at this
      exact absurd (Nat.lt_trans this (fp3 b hb)) (Nat.lt_irrefl _), fun p hp => by
        obtain rfl : p = (D, _) := by simpa using hp
        exact (DfpN b hb).symm⟩
  have st4 : tn 0 h4 := T.keep _ _ _ st3 fun b _ o e => hk4 b o e
  have fr4 : ∀ b ∈ fp, H2 b = none := fun b hb => (f2 b hb).1
  have hcB : (cxBlk X NB scope s3 H2 (D :: fp)).calm = true := hc
  have loop : codeAny (model X.prog X.w) X.A (.compLoop (.ListComp elt [⟨tg, iter, ifs, 0⟩] scope pos) 0 (.ref it) (.ref D) (blkEnv scope X.env s3.heap.objs.size))
      (compPost (model X.prog X.w) X.A X.xe none (EP X pins σ Q) (.ref D) s3.heap.objs.size) { s3 with heap := h4, toks := tk4 } := by
    refine comp_loop (fun n s' => ∃ i vs ys H', Inv (cxBlk X NB scope s3 H2 (D :: fp)) [(D, lstO ys)] (List.replicate NB.length none) H' s' ∧ Vals vs ys ∧ vs.length ≤ sizeLine ∧ tn i s'.heap ∧ (∀ b ∈ fp, H' b = none) ∧ W i n vs H') ?_ m0 ⟨0, [], [], H2, IB, .nil, Nat.zero_le _, st4, fr4, w0⟩
    rintro n s5 ⟨i, vs, ys, H5, I5, rv, hvl, st5, fr5, w5⟩
    rcases turn i n vs H5 w5 with ⟨stop, qn⟩ | ⟨go, hlt, N, hN, step⟩
    · refine wpAny_mono (T.done (cxBlk X NB scope s3 H2 (D :: fp)) rfl rfl rfl hcB i _ s5 _ H5 (fun _ _ => False) I5 (stat fr5) st5 stop) (fun r s6 ⟨hr, I6⟩ => ?_) (fun _ _ z => z.elim)
      subst hr
      obtain ⟨m6, hn6, _⟩ := id I6.loc
      refine ⟨m6, hn6, fun h7 sb7 => ?_⟩
      have kp7 : ∀ b o, b ≠ s3.heap.objs.size → s6.heap.get? b = some o → h7.get? b = some o := fun b o hb e => (sb7.2 b hb).trans e
      have hC6 : H5 s3.heap.objs.size = none := I6.free
      have un7 : Un (frs X.stack) (D :: fp) H2 H5 s3.heap h7 := by
        have u := I6.base
        refine ⟨fun b o e n hb hx => kp7 b o (Nat.ne_of_lt (Heap.lt_size e)) (u.keep b o e n hb hx), fun b o e n hb hx => ?_, u.free, fun b o e hx => ?_, u.tups, u.frzs, u.tbls⟩
        · obtain ⟨sl, q⟩ := u.slot b o e n hb hx
          exact ⟨sl, kp7 b _ (Nat.ne_of_lt (Heap.lt_size e)) q⟩
        · obtain ⟨o', q⟩ := u.there b o e hx
          exact ⟨o', kp7 b _ (Nat.ne_of_lt (Heap.lt_size e)) q⟩
      have hok7 : HOk X.prog X.w H5 h7 := fun b u e => (I6.hok b u e).stay (fun c w' hcc q => kp7 c w' (by
        rintro rfl
        rcases hcc with rfl | hcc
        · rw [hC6] at e; cases e
        · rw [hC6] at hcc; cases hcc) q) (fun _ q => q) fun _ _ q => q
      have I7 : Inv X pins σ H5 { s6 with heap := h7 } := I3.call' (s' := { s6 with heap := h7 }) I6.os un7 hok7 I6.bare fun b hb => by
        rcases List.mem_cons.mp hb with rfl | hb
        · exact ⟨.inr hDs0, hDL, hDC, hDp⟩
        · obtain ⟨_, f1, _, f3, f4, f5⟩ := f2 b hb
          exact ⟨f3, f1, f4, f5⟩
      obtain ⟨eD, nD, _⟩ := I6.pin (D, lstO ys) (by simp)
      have nD' : H5 D = none := nD
      have eD' : h7.get? D = some (lstO ys) := kp7 D _ (Nat.ne_of_lt dl3) eD
      have hD0 : X.s₀.heap.get? D = none := by
        cases q : X.s₀.heap.get? D with
        | none => rfl
        | some o => exact absurd (Nat.lt_of_lt_of_le (Heap.lt_size q) hDs0) (Nat.lt_irrefl _)
      exact ⟨.ref D, upd H5 D (.lst vs), I7.track nD' hD0 hDL hDC hDp ⟨hvl, ys, ys.length, rv, eD'⟩, rfl, qn D nD'⟩
    · refine wpAny_mono (T.item (cxBlk X NB scope s3 H2 (D :: fp)) rfl rfl rfl hcB i _ s5 _ H5 (fun _ _ => False) I5 (stat fr5) st5 go) (fun r s6 ⟨u, hr, h6⟩ => ?_) (fun _ _ z => z.elim)
      subst hr
      refine wpAny_mono h6 (fun _ s7 ⟨x, H7, I7, r7, y7, st7, fr7⟩ => ?_) (fun _ _ z => z.elim)
      have I7' := I7.pinned (stat fr7) (T.obj _ _ st7)
      refine wpAny_mono (hg s3 H2 (D :: fp) _ s7 _ H7 x u _ I7' r7 (step x H7 y7)) (fun _ s8 ⟨σ8, H8, I8, q8⟩ => ?_) (fun _ _ z => z.elim)
      refine wpAny_mono (ht s3 H2 (D :: fp) _ s8 σ8 H8 _ I8 q8) (fun ok s9 ⟨H9, I9, q9⟩ => ?_) (fun _ _ z => z.elim)
      have fpK : ∀ {σ' : St} {H' : Hp} {s' : Shared}, Inv (cxBlk X NB scope s3 H2 (D :: fp)) ([(D, lstO ys)] ++ pinsAt fp s7.heap) σ' H' s' → tn (i + 1) s'.heap ∧ ∀ b ∈ fp, H' b = none := fun J =>
        ⟨T.keep _ _ _ st7 fun b hb o e => (J.pin (b, o) (List.mem_append_right _ (List.mem_append_right _ (mem_pinsAt hb e)))).1, fun b hb => by
          obtain ⟨o, e, d⟩ := T.obj _ _ st7 b hb
          exact (J.pin (b, o) (List.mem_append_right _ (List.mem_append_right _ (mem_pinsAt hb e)))).2.1⟩
      have wk : ∀ {σ' : St} {H' : Hp} {s' : Shared} {pl : List (Addr × Obj)}, Inv (cxBlk X NB scope s3 H2 (D :: fp)) pl σ' H' s' → Inv (cxBlk X NB scope s3 H2 (D :: fp)) pl (List.replicate NB.length none) H' s' := fun J =>
        J.weak (by rw [List.length_replicate]; exact J.len.symm) fun j v z => absurd z (rep j v)
      cases ok with
      | false =>
        rw [if_neg (by decide)] at q9
        rw [if_neg (by decide)]
        obtain ⟨m', hm, w9⟩ := hN vs H9 q9
        obtain ⟨t9, f9⟩ := fpK I9
        exact ⟨m', hm, i + 1, vs, ys, H9, wk I9.unpinned, rv, hvl, t9, f9, w9⟩
      | true =>
        rw [if_pos rfl] at q9
        rw [if_pos rfl]
        refine wpAny_mono (he s3 H2 (D :: fp) _ s9 σ8 H9 _ I9 q9) (fun y s10 ⟨v, H10, I10, rv10, q10⟩ => ?_) (fun _ _ z => z.elim)
        obtain ⟨eD, nD, _, nf, _⟩ := I10.pin (D, lstO ys) (by simp)
        have hyl := rv.length
        refine append_at (hsz := by show ys.toArray.size ≤ sizeLine; rw [List.size_toArray, ← hyl]; exact hvl) eD fun h11 sb11 hD11 => ?_
        obtain ⟨m', hm, w11⟩ := hN (vs ++ [v]) H10 q10
        obtain ⟨t10, f10⟩ := fpK I10
        have I10u := I10.unpinned
        have k11 : ∀ b o, b ≠ D → s10.heap.get? b = some o → h11.get? b = some o := fun b o hb e => (sb11.2 b hb).trans e
        have IE : Inv (cxBlk X NB scope s3 H2 (D :: fp)) [] σ8 H10 s10 := I10u.pins_of fun p hp => nomatch hp
        have I11 : Inv (cxBlk X NB scope s3 H2 (D :: fp)) [] σ8 H10 { s10 with heap := h11 } := IE.turned (t' := s10.toks) k11 nD (Nat.ne_of_lt dl3) (.inl List.mem_cons_self) (fun y' c e z => by
          have := cge y' c e
          rw [z] at this
          exact absurd (Nat.lt_trans this dl3) (Nat.lt_irrefl _)) (fun p hp => absurd (show p ∈ ([] : List (Addr × Obj)) from hp) (by simp))
        have eL : ({ cls := .type "list", data := .seq (ys.toArray.push y) (ys.length + 1) } : Obj) = lstO (ys ++ [y]) := by
          show ({ cls := .type "list", data := .seq (ys.toArray.push y) (ys.length + 1) } : Obj) = { cls := .type "list", data := .seq (ys ++ [y]).toArray (ys ++ [y]).length }
          rw [List.length_append, List.length_singleton, List.push_toArray]
        refine ⟨m', hm, i + 1, vs ++ [v], ys ++ [y], H10, wk (I11.pins_of fun p hp => ?_), rv.append (.cons rv10 .nil), by rw [List.length_append, List.length_singleton]; exact hlt, T.keep _ _ _ t10 fun b hb o e => k11 b o (DfpN b hb) e, f10, w11⟩
        obtain rfl : p = (D, lstO (ys ++ [y])) := by simpa using hp
        exact ⟨by rw [← eL]; exact hD11, nD, Nat.ne_of_lt dl3, nf, fun v z => nomatch z⟩
  exact codeAny_compStart_list loop (T.self _ 0 _ _ _ st4 loop)
end
end L2

set_option Elab.async false
set_option linter.all false
set_option maxRecDepth 100000
/-! texts: methods, slices, join of a list turned round -/
namespace L2
open PySem PySem.Spec PyProof.Rows
open Builtin Builtin.Str
section
variable {prog : Program} {w : World} {A : Around} {E : Value → Shared → Prop} {s : Shared}
end
section
variable {X : Cx}
end
end L2

set_option Elab.async false
set_option linter.all false
set_option maxRecDepth 100000
/-! join of a list turned round; lists compared; more of texts and calls -/
namespace L2
open PySem PySem.Spec PyProof.Rows
open Builtin Builtin.Str
section
variable {prog : Program} {w : World} {A : Around} {E : Value → Shared → Prop} {s : Shared}
variable {I : Addr} {fp wr : List Addr} {G : Array GenState → Array GenState → Prop} {n : Nat} {P : Nat → Value → Prop} {St : Nat → Shared → Prop}
end
end L2

set_option Elab.async false
set_option linter.all false
set_option maxRecDepth 100000
namespace L2
open PySem PySem.Spec PyProof.Rows
open Builtin Builtin.Str
theorem boot_reversed : bootBuiltins "reversed" = some (.type "reversed") := by boot_by_name
section
variable {X : Cx}
end
end L2

set_option Elab.async false
set_option linter.all false
set_option maxRecDepth 100000
namespace L2
open PySem PySem.Spec PyProof.Rows
open Builtin Builtin.Str
section
variable {X : Cx}
/-- a text so many times, none below 1 -/
theorem op_mul_strN : OpR X (binaryOp .Mult) (fun x y H Q => ∃ z n, x = .str z ∧ y = .int n ∧ -(2 ^ 40) < n ∧ z.length * n.toNat ≤ sizeLine ∧ n < 2 ^ 40 ∧ Q (.str (repS z n.toNat)) H) := by
  intro pins s σ H x y v u Q I rx ry h
  obtain ⟨z, n, ex, ey, h0, hl, hn, q⟩ := h
  by_cases hz : 0 ≤ n
  · exact op_mul_str pins s σ H x y v u Q I rx ry ⟨z, n, ex, ey, hz, hl, hn, q⟩
  · subst ex ey
    obtain ⟨t, rfl⟩ := rx
    obtain ⟨t', rfl⟩ := ry
    refine PySem.P.mul_str ?_ ?_ ?_ ?_
    · rw [decide_eq_false (by omega), decide_eq_false (by omega)]; rfl
    · intro h1 h2 h3
      omega
    · intro h1 h2
      omega
    · rw [if_pos (by omega)]
      have e : repS z n.toNat = Str.empty := by rw [show n.toNat = 0 by omega]; rfl
      exact ⟨by decide, .str (repS z n.toNat), H, I.tok _, ⟨_, by rw [e]⟩, q⟩
end
section
variable {X : Cx} {k k' : Nat} {x p1 : Str} {sp : Sp} {E : XK} {p pos kpos : Pos} {e : Expr} {te : TE}
end
end L2

set_option Elab.async false
set_option linter.all false
set_option maxRecDepth 100000
namespace L2
open PySem PySem.Spec PyProof.Rows
/-- lo, lo + c, .. (n of them) -/
def Itr3 (lo c : Int) (n : Nat) : It := ⟨fun i _ => i < n, fun i H x H' => H' = H ∧ x = .int (lo + i * c), fun i _ => n ≤ i⟩
theorem turn_range3 {P : Program} {w : World} {K : PySem.W.Frag} {tg : Expr} (it : Addr) (lo c : Int) (n : Nat) : Turn P w K tg (Itr3 lo c n) [it] it (fun i h => IsRangeIter h it (lo + (i : Nat) * c) ((n : Int) - (i : Nat)) c) where
  mem := by simp
  obj := fun i h st b hb => by
    have e : b = it := by simpa using hb
    subst e
    exact ⟨_, st, fun v z => by
      have z' : Data.fields _ = Data.cell v := z
      cases z'⟩
  keep := fun i h h' st k => k it (by simp) _ st
  item := by
    intro X hP hw hK hc i pins s σ H E I hf st hg
    subst hP hw hK
    obtain ⟨f0, f1, f2, f3, f4, f5⟩ := hf it (by simp)
    have W := Walks.range (prog := X.prog) (w := X.w) (I.ok.hd hc) it lo c n
    refine W.item i s _ _ hg st fun v h' tk hv st' kk => ?_
    obtain ⟨t, rfl⟩ := hv
    have I1 : Inv X pins σ H { s with heap := h', toks := tk } := I.turned (fun b o hb e => kk b o (by simpa using hb) e) f0 f1 f3 f4 f5
    exact ⟨_, rfl, go_of (s := { s with heap := h', toks := tk }) (n := "range_iterator") st' rfl rfl (by decide) ⟨.int (lo + i * c), H, I1, ⟨t, rfl⟩, ⟨rfl, rfl⟩, st', fun b hb => (hf b hb).1⟩⟩
  done := by
    intro X hP hw hK hc i pins s σ H E I hf st hg
    subst hP hw hK
    obtain ⟨f0, f1, f2, f3, f4, f5⟩ := hf it (by simp)
    exact wpAny_pyNext_range_end (I.ok.hd hc) st (by have : n ≤ i := hg; omega) fun h' eb => ⟨rfl, I.turned (t' := s.toks) (fun b o hb e => eb b o hb e) f0 f1 f3 f4 f5⟩
  self := fun _ _ _ _ _ st h => wpAny_pyIter_rangeiter st h
section
variable {X : Cx} {tg : Expr}
end
end L2
namespace L2
open PySem PySem.Spec PyProof.Rows
/-! long displays of texts, and the statements around them: behind a veil -/
structure PAx (X : Cx) (es : List Expr) (t : TA) : Prop where
  pa : PA X es t
structure PSy (X : Cx) (st : Stmt) (t : TS) : Prop where
  ps : PS X st t
section
variable {X : Cx}
theorem pax_nil : PAx X [] tNil := ⟨pa_nil⟩
theorem pax_str {x : Str} {j : Nat} {p : Pos} {es : List Expr} {t : TA} (hr : PAx X es t) : PAx X (.Constant (.str x) j p :: es) (tCons (tC (.str x)) t) := ⟨pa_cons pe_str hr.pa rfl⟩
theorem psx_cons {st : Stmt} {rest : List Stmt} {t1 t2 : TS} (h : PSy X st t1) (hr : PSx X rest t2) : PSx X (st :: rest) (tSeq t1 t2) := ⟨pss_cons h.ps hr.ps⟩
theorem psx_one {st : Stmt} {t : TS} (h : PSy X st t) : PSx X [st] t := ⟨pss_one h.ps⟩
end
theorem okNCx {P : Program} {w : World} {K : PySem.W.Frag} {mg : Str → Option Value} {base : Heap} {x qual : Str} {st : Stmt} {f : Addr} {fd : FuncData} {cdv : Value} {N ps : List Str} {k : Nat} {sp : Sp} (F : FunC K x qual st f fd cdv) (S : FnScope N ps (defScope st)) (len : ∀ vs H Q E, sp vs H Q E → vs.length = ps.length)
    (hbody : ∀ (A : Around) (outer : List Env) (s : Shared) (H : Hp) (vs : List V) (Q : VK) (E : XK), Room k (A.deeper (envOfC qual (defScope st) s.heap.objs.size f cdv)) → sp vs H Q E →
      ∃ t, PSx (cxOf (CXE P w) P w K mg base N qual (defScope st) f cdv A outer s H E).nox (defBody st) t ∧ t { nx := fun _ H' => Q .non H', rt := Q } (start N vs) H) : FnOk P w K mg base (CXE P w) (k + 1) f fd ps sp :=
  okNC F S len fun A outer s H vs Q E hr hsp => by
    obtain ⟨t, h, q⟩ := hbody A outer s H vs Q E hr hsp
    exact ⟨t, h.ps, q⟩
end L2

set_option Elab.async false
set_option linter.all false
set_option maxRecDepth 100000
/-! more of lists and texts: join, sum, the largest, find from a place -/
namespace L2
open PySem PySem.Spec PyProof.Rows
open Builtin Builtin.Str
section
variable {X : Cx}
end
section
variable {X : Cx}
end
end L2

set_option Elab.async false
set_option linter.all false
set_option maxRecDepth 100000
/-! a dict of the written part: read alone -/
namespace L2
open PySem PySem.Spec PyProof.Rows
section
variable {X : Cx} {o i : Expr} {td ty : TE} {pos : Pos} {a : Addr} {kvs : List (Key × V)}
end
section
variable {X : Cx}
end
end L2

set_option Elab.async false
set_option linter.all false
set_option maxRecDepth 100000
/-! a name set to a comprehension itself: stored ahead of the block's end -/
namespace L2
open PySem PySem.Spec PyProof.Rows
section
variable {X : Cx}
end
end L2

set_option Elab.async false
set_option linter.all false
set_option maxRecDepth 100000
/-! text.count; an item of a written list, drawn -/
namespace L2
open PySem PySem.Spec PyProof.Rows
open Builtin Builtin.Str
section
variable {X : Cx}
end
/-- the script and the town, as every draw asks for them -/
structure Bag (K : PySem.W.Frag) (H : Hp) (a t r : Addr) (ns : List Int) (c : Int) : Prop where
  sq : SqL K H a (ns.map V.int)
  tw : ∃ rs, TownAt H t r c rs
  nat : a ≠ t
  nar : a ≠ r
  ln : ns.length ≤ 63
section
variable {K : PySem.W.Frag} {H H' : Hp} {a t r : Addr} {ns : List Int} {c c' : Int}
theorem Bag.drawn (B : Bag K H a t r ns c) (A : Apart t r H H') {rs : List (Key × V)} (T : TownAt H' t r c' rs) : Bag K H' a t r ns c' :=
  ⟨A.seq B.sq B.nat B.nar, ⟨rs, T⟩, B.nat, B.nar, B.ln⟩
theorem Bag.same (B : Bag K H a t r ns c) (e : Same H H') : Bag K H' a t r ns c := by
  obtain ⟨rs, T⟩ := B.tw
  exact ⟨(Apart.of e).seq B.sq B.nat B.nar, ⟨rs, T.same e⟩, B.nat, B.nar, B.ln⟩
/-- a draw by names -/
theorem Bag.draw {σ : St} {i j : Nat} {n : Int} {tn : TE} {Q : VK} {E : XK} (B : Bag K H a t r ns c) (hi : σ[i]? = some (some (.ref a))) (hj : σ[j]? = some (some (.ref t))) (hn : ∀ R : VK, R (.int n) H → tn σ H R) (h0 : 0 < n) (h1 : n < 1000000) (hc : c < 100000)
    (k : ∀ (d : Nat) (H' : Hp), (d : Int) < n → Bag K H' a t r ns (c + 1) → Apart t r H H' → Q (.int d) H') : tCall (spDraw K) [] E (tCons (tVar i) (tCons (tVar j) (tCons tn tNil))) σ H Q := by
  obtain ⟨rs, T⟩ := B.tw
  refine ⟨_, hi, _, hj, hn _ ⟨a, t, r, ns, c, n, rs, rfl, B.sq, T, B.nat, B.nar, B.ln, hc, h0, h1, fun v rs' H' v0 v1 T' A' => ?_⟩⟩
  obtain ⟨d, rfl⟩ := Int.eq_ofNat_of_zero_le v0
  exact k d H' v1 (B.drawn A' T') A'
/-- what is at hand stays so over a draw -/
theorem Bag.keep (B : Bag K H a t r ns c) (A : Apart t r H H') {b : Addr} {o : HO} (e : H b = some o) (n : ∀ kvs, o ≠ .dK kvs) : H' b = some o := by
  obtain ⟨rs, T⟩ := B.tw
  refine A b o e (fun z => ?_) fun z => ?_
  · rw [z, T.tw] at e; cases e; exact n _ rfl
  · rw [z, T.rt] at e; cases e; exact n _ rfl
end
end L2

set_option Elab.async false
set_option linter.all false
set_option maxRecDepth 100000
/-! more of long displays: a text so many times in it, a list and a display -/
namespace L2
open PySem PySem.Spec PyProof.Rows
section
variable {X : Cx}
end
end L2

set_option Elab.async false
set_option linter.all false
set_option maxRecDepth 100000
/-! texts walked sign by sign, text.index, lists of other lengths, texts in braces -/
namespace L2
open PySem PySem.Spec PyProof.Rows
open Builtin Builtin.Str
section
variable {X : Cx} {tg : Expr}
end
section
variable {X : Cx}
/-! texts in braces -/
end
end L2

set_option Elab.async false
set_option linter.all false
set_option maxRecDepth 100000
/-! text.replace(a, b) of written a and b: behind a test that made a written text -/
namespace L2
open PySem PySem.Spec PyProof.Rows
open Builtin Builtin.Str
section
variable {X : Cx}
variable {o e : Expr} {es : List Expr} {to : TE} {t : TA} {name : Str} {apos cpos : Pos} {T id : String} {r : V → List V → Hp → VK → Prop}
end
end L2

set_option Elab.async false
set_option linter.all false
set_option maxRecDepth 100000
/-! comprehensions whose block reads names of the def around it -/
namespace L2
open PySem PySem.Spec PyProof.Rows
def blkEnvF (scope : Scope) (env : Env) (C : Addr) : Env :=
  { scope := relabel scope env, locals := C, globals := env.globals, cells := closOf env.cells scope.names [], qual := env.qual, func := none, code := env.code, frame := env.frame, builtins := env.builtins }
abbrev cxBlkF (X : Cx) (NB : List Str) (scope : Scope) (s : Shared) (H : Hp) (ex : List Addr) : Cx :=
  { X with N := NB, s₀ := s, H₀ := H, env := blkEnvF scope X.env s.heap.objs.size, outer := X.stack, ex := ex, fn := fun _ => false, pn := [], xe := fun _ _ => False }
/-- the block's own names, then those that it reads of the def around it -/
structure BlkScopeF (NB FR : List Str) (scope : Scope) : Prop where
  kind : scope.kind = .function
  nd : (NB ++ FR).Nodup
  nocell : ∀ y ∈ scope.names, y.2 ≠ .cell
  loc : ∀ y ∈ scope.names, y.2 = .local → scope.names.lookup y.1 = some .local
  nd2 : (scope.names.map (·.1)).Nodup
  fr : ∀ y ∈ FR, (y, NameKind.free) ∈ scope.names
def tCompF (n : Nat) (fi : List Nat) (wi : TI) (g : TG) (tt : TT) (te : TE) : TE := fun σ H Q => wi σ H fun J H1 => ∃ fv : List V, fi.map (fun i => σ[i]?) = fv.map (fun v => some (some v)) ∧ ∃ W : Nat → Nat → List V → Hp → Prop, (∃ m, W 0 m [] H1) ∧ ∀ i m vs H, W i m vs H →
  (J.stop i H ∧ ∀ p, H p = none → Q (.ref p) (upd H p (.lst vs))) ∨ (J.go i H ∧ vs.length < sizeLine ∧ ∃ N : List V → Hp → Prop, (∀ vs' H', N vs' H' → ∃ m', m' < m ∧ W (i + 1) m' vs' H') ∧
    ∀ x H', J.yld i H x H' → g x (List.replicate n none ++ fv.map some) H' fun σ2 H2 => σ2.drop n = fv.map some ∧ tt σ2 H2 fun b H3 => if b = true then te σ2 H3 fun v H4 => N (vs ++ [v]) H4 else N vs H3)
def reF (env : Env) (x : Str × NameKind) : Str × NameKind := if (x.2 == NameKind.free && env.scope.kind == .function && env.kindOf x.1 == some .cell) then (x.1, NameKind.cell) else (x.1, x.2)
theorem reF_look (env : Env) {x : Str × NameKind} {y : Str} (h : y ≠ x.1) (l : List (Str × NameKind)) : (reF env x :: l).lookup y = l.lookup y := by
  have hb : (y == x.1) = false := beq_eq_false_iff_ne.mpr h
  unfold reF
  split <;> rw [List.lookup_cons, hb]
theorem relabel_cell {env : Env} {scope : Scope} {y : Str} (nd : (scope.names.map (·.1)).Nodup) (h : (y, NameKind.free) ∈ scope.names) (hk : (env.scope.kind == .function) = true) (hc : env.scope.names.lookup y = some .cell) : (relabel scope env).names.lookup y = some .cell := by
  have key : ∀ l : List (Str × NameKind), (l.map (·.1)).Nodup → (y, NameKind.free) ∈ l → (l.map (reF env)).lookup y = some .cell := by
    intro l
    induction l with
    | nil => intro _ h; cases h
    | cons z r ih =>
      intro nd h
      rw [List.map_cons, List.nodup_cons] at nd
      rw [List.map_cons]
      rcases List.mem_cons.mp h with h | h
      · subst h
        have e : (env.kindOf y == some NameKind.cell) = true := by rw [show env.kindOf y = env.scope.names.lookup y from rfl, hc]; rfl
        have e2 : reF env (y, NameKind.free) = (y, NameKind.cell) := by unfold reF; rw [if_pos (by rw [hk, e]; rfl)]
        rw [e2, List.lookup_cons, beq_self_eq_true]
      · have hne : y ≠ z.1 := fun q => nd.1 (by rw [← q]; exact List.mem_map.mpr ⟨_, h, rfl⟩)
        rw [reF_look env hne]
        exact ih nd.2 h
  exact key scope.names nd h
theorem relabel_free {env : Env} {scope : Scope} {y : Str} (nc : ∀ y ∈ scope.names, y.2 ≠ .cell) (h : (relabel scope env).names.lookup y = some .cell ∨ (relabel scope env).names.lookup y = some .free) : (y, NameKind.free) ∈ scope.names := by
  have key : ∀ l : List (Str × NameKind), (∀ y ∈ l, y.2 ≠ .cell) → ((l.map (reF env)).lookup y = some .cell ∨ (l.map (reF env)).lookup y = some .free) → (y, NameKind.free) ∈ l := by
    intro l
    induction l with
    | nil => intro _ h; rcases h with h | h <;> simp at h
    | cons z r ih =>
      intro nc h
      have hk : z.2 ≠ .cell := nc z List.mem_cons_self
      rw [List.map_cons] at h
      by_cases hn : y = z.1
      · obtain ⟨n, k⟩ := z
        have hn : y = n := hn
        subst hn
        have hf : k = .free := by
          cases k with
          | cell => exact absurd rfl hk
          | free => rfl
          | _ =>
            have e2 : ∀ q : NameKind, (q == NameKind.free) = false → reF env (y, q) = (y, q) := fun q hq => by unfold reF; rw [if_neg (by rw [show ((y, q).2 == NameKind.free) = false from hq]; simp)]
            rw [e2 _ rfl, List.lookup_cons, beq_self_eq_true] at h
            rcases h with h | h <;> cases h
        rw [hf]
        exact List.mem_cons_self
      · rw [reF_look env hn] at h
        exact List.mem_cons_of_mem _ (ih (fun y hy => nc y (List.mem_cons_of_mem _ hy)) h)
  exact key scope.names nc h
theorem cellsFrom_none : ∀ (l : List (Str × NameKind)) (n : Nat) (acc : List (Str × Addr)), (∀ y ∈ l, y.2 ≠ .cell) → cellsFrom n l acc = acc
  | [], _, _, _ => rfl
  | (x, k) :: r, n, acc, h => by
    have hk : (k == NameKind.cell) = false := beq_eq_false_iff_ne.mpr (h (x, k) List.mem_cons_self)
    unfold cellsFrom
    rw [hk]
    exact cellsFrom_none r n acc fun y hy => h y (List.mem_cons_of_mem _ hy)
theorem pushCells_none : ∀ (l : List (Str × NameKind)) (h : Heap), (∀ y ∈ l, y.2 ≠ .cell) → pushCells h l = h
  | [], _, _ => rfl
  | (x, k) :: r, h, hn => by
    have hk : (k == NameKind.cell) = false := beq_eq_false_iff_ne.mpr (hn (x, k) List.mem_cons_self)
    unfold pushCells
    rw [hk]
    exact pushCells_none r h fun y hy => hn y (List.mem_cons_of_mem _ hy)
theorem wpAny_newBlockF {M : Model} {A : Around} {E : Value → Shared → Prop} {s : Shared} {scope : Scope} {globals : Addr} {qual : Str} {env : Env} {cl : List (Str × Addr)} {Q : Env → Shared → Prop} (hk : scope.kind = .function) (hn : ∀ y ∈ scope.names, y.2 ≠ .cell)
    (hQ : ∀ cenv s', cenv = { scope := scope, locals := s.heap.objs.size, globals := globals, cells := cl, qual := qual, func := none, code := env.code, frame := env.frame, builtins := env.builtins } →
      InCall s s.heap.objs.size (fun _ => none) s' → Q cenv s') :
    wpAny M A (newFunctionEnv scope globals cl [] qual none .none (some env)) Q E s := by
  simp only [newFunctionEnv, Option.isSome_some, if_true]
  refine wpAny_bind (wpAny_alloc ?_)
  refine wpAny_bind (wpAny_layCells _ (fun name kind cells => by cases hkc : kind == NameKind.cell <;> simp [hkc]) _ _ _ _ ?_)
  rw [cellsFrom_none _ _ _ hn, pushCells_none _ _ hn]
  refine wpAny_bind (wpAny_pure (wpAny_pure (hQ _ _ rfl ?_)))
  exact ⟨⟨_, _, rfl⟩, Heap.Ns.new s.heap (.type "dict"), fun b o e => Heap.get?_push_of_some _ e, Nat.le_refl _⟩
section
variable {X : Cx}
theorem pe_lcompF {elt tg iter : Expr} {ifs : List Expr} {scope : Scope} {pos : Pos} {NB FR : List Str} {fi : List Nat} {wi : TI} {g : TG} {tt : TT} {te : TE} (hc : X.calm = true) (S : BlkScopeF NB FR scope) (hfree : freeIn scope X.env.scope = true) (hfi : fi.map (fun i => X.N[i]?) = FR.map some) (hi : PI X tg iter wi)
    (hg : ∀ s H ex, PG (cxBlkF X (NB ++ FR) scope s H ex) tg g) (ht : ∀ s H ex, PTs (cxBlkF X (NB ++ FR) scope s H ex) ifs tt) (he : ∀ s H ex, PE (cxBlkF X (NB ++ FR) scope s H ex) elt te)
    (hs : ∀ x, foldedSetIterable iter X.env x = pure x := by intro _; rfl) : PE X (.ListComp elt [⟨tg, iter, ifs, 0⟩] scope pos) (tCompF NB.length fi wi g tt te) := by
  intro pins s σ H Q I h
  have hfc : ∀ y ∈ scope.names, y.2 = .free → X.env.scope.names.lookup y.1 = some .cell := freeIn_at hfree
  have hasF : ∀ y ∈ scope.names, y.2 = .free → ∃ c, X.env.cells.lookup y.1 = some c := fun y hy e => I.ok.has y.1 (.inl (hfc y hy e))
  have clook : ∀ y c, (closOf X.env.cells scope.names []).lookup y = some c → X.env.cells.lookup y = some c := fun y c e => clos_look scope.names [] hasF (fun z => nomatch z) e
  rw [eval_ListComp]
  refine wpAny_comprehension_free (use := none) (cl := closOf X.env.cells scope.names []) rfl hs (closureFor_eq hasF) S.kind S.loc (thn (hi pins s σ H _ I h) fun v s1 h1 => thn h1 fun itv s2 h2 => ?_)
  obtain ⟨it, fp, tn, J, H2, e, I2, T, st2, f2, fv, hfv, W, ⟨m0, w0⟩, turn⟩ := h2
  subst e
  refine wpAny_newObj_type ?_
  have up2 : ∀ b o, s2.heap.get? b = some o → (s2.heap.push { cls := .type "list", data := .seq ([] : List Value).toArray }).get? b = some o := fun b o e => Heap.get?_push_of_some _ e
  have I3 : Inv X pins σ H2 { s2 with heap := s2.heap.push { cls := .type "list", data := .seq ([] : List Value).toArray } } := I2.kept (t' := s2.toks) up2
  have st3 : tn 0 (s2.heap.push { cls := .type "list", data := .seq ([] : List Value).toArray }) := T.keep _ _ _ st2 fun b _ o e => up2 b o e
  have hD3 : (s2.heap.push { cls := .type "list", data := .seq ([] : List Value).toArray }).get? s2.heap.objs.size = some (lstO []) := Heap.get?_push_size _ rfl
  have hD2 : H2 s2.heap.objs.size = none := I2.hok.fresh (Nat.le_refl _)
  have lt2 : ∀ b o, s2.heap.get? b = some o → b ≠ s2.heap.objs.size := fun b o e => Nat.ne_of_lt (Heap.lt_size e)
  have fpO : ∀ b ∈ fp, ∃ o, s2.heap.get? b = some o := fun b hb => let ⟨o, e, _⟩ := T.obj _ _ st2 b hb; ⟨o, e⟩
  have hDs0 : X.s₀.heap.objs.size ≤ s2.heap.objs.size := I2.sz
  have hDL : s2.heap.objs.size ≠ X.env.locals := Nat.ne_of_gt I2.lt
  have hDC : ∀ x c, X.env.cells.lookup x = some c → c ≠ s2.heap.objs.size := fun x c e => let ⟨v, o, e1, _⟩ := I2.cell x c e; lt2 c o e1
  have hDp : ∀ p ∈ X.pn ++ pins, p.1 ≠ s2.heap.objs.size := fun p hp => lt2 p.1 _ (I2.pin p hp).1
  have hDf : s2.heap.objs.size ∉ frs X.stack := fun z => let ⟨o, e, _⟩ := (I2.stack.mem z).2; lt2 _ o e rfl
  generalize hS3 : ({ s2 with heap := s2.heap.push { cls := .type "list", data := .seq ([] : List Value).toArray } } : Shared) = s3 at I3 ⊢
  have hh3 : s3.heap = s2.heap.push { cls := .type "list", data := .seq ([] : List Value).toArray } := by rw [← hS3]
  rw [← hh3] at st3 hD3 up2
  generalize s2.heap.objs.size = D at hD3 hD2 lt2 hDs0 hDL hDC hDp hDf ⊢
  refine wpAny_newBlockF S.kind S.nocell fun cenv s4 hce x4 => ?_
  subst hce
  have lt3 : ∀ b o, s3.heap.get? b = some o → b < s3.heap.objs.size := fun b o e => Heap.lt_size e
  have fp3 : ∀ b ∈ fp, b < s3.heap.objs.size := fun b hb => let ⟨o, e⟩ := fpO b hb; lt3 b o (up2 b o e)
  have dl3 : D < s3.heap.objs.size := lt3 D _ hD3
  have DfpN : ∀ b ∈ fp, b ≠ D := fun b hb => let ⟨o, e⟩ := fpO b hb; lt2 b o e
  obtain ⟨h4, tk4, rfl, hk4⟩ := x4.done
  have bsN : ∀ b o, X.base.get? b = some o → b ∉ D :: fp := fun b o e hb => by
    rcases List.mem_cons.mp hb with rfl | hb
    · exact absurd (Nat.lt_of_lt_of_le (Heap.lt_size (I2.ok.bs b o e).1) hDs0) (Nat.lt_irrefl _)
    · obtain ⟨_, _, _, f3, _⟩ := f2 b hb
      rcases f3 with z | z
      · exact I2.ok.noex b o e z
      · exact absurd (Nat.lt_of_lt_of_le (Heap.lt_size (I2.ok.bs b o e).1) z) (Nat.lt_irrefl _)
  have exF : ∀ b ∈ D :: fp, b ∉ frs X.stack := fun b hb hf => by
    rcases List.mem_cons.mp hb with rfl | hb
    · exact hDf hf
    · obtain ⟨_, f1, f2', _⟩ := f2 b hb
      rcases List.mem_cons.mp (I2.stkSub b hf) with z | z
      · exact f1 z
      · exact f2' z
  have ccl : ∀ y c, (closOf X.env.cells scope.names []).lookup y = some c → (∃ v, s3.heap.IsCell c v) ∧ H2 c = none ∧ c ≠ D ∧ ∀ b ∈ fp, c ≠ b := fun y c e => by
    have e' := clook y c e
    exact ⟨I3.cell y c e', I3.freeC y c e', hDC y c e', fun b hb => (f2 b hb).2.2.2.2.1 y c e'⟩
  have clt : ∀ y c, (closOf X.env.cells scope.names []).lookup y = some c → c < s3.heap.objs.size := fun y c e => let ⟨⟨v, o, ho, _⟩, _⟩ := ccl y c e; lt3 c o ho
  have exLt : ∀ b ∈ D :: fp, b < s3.heap.objs.size := fun b hb => by
    rcases List.mem_cons.mp hb with rfl | hb
    · exact dl3
    · exact fp3 b hb
  have okB : (cxBlkF X (NB ++ FR) scope s3 H2 (D :: fp)).Ok := by
    refine ⟨I3.ok.mod, S.kind, I3.ok.glob, I3.ok.blt, Nat.le_refl _, fun y z c h1 h2 => ?_, fun y hy => ?_, (fun y c z _ => nomatch z), I3.ok.hd, I3.ok.frames, .inl rfl, fun b hb => ⟨Nat.ne_of_lt (exLt b hb), fun y c e z => ?_⟩, I3.bs, Nat.le_trans I3.ok.bsz I3.sz, bsN, exF, I3.stack, I3.stkFree⟩
    · exact I3.ok.inj y z c (clook y c h1) (clook z c h2)
    · exact clos_has scope.names [] (.inr (relabel_free S.nocell hy))
    · obtain ⟨_, _, n1, n2⟩ := ccl y c e
      rcases List.mem_cons.mp hb with q | q
      · exact n1 (z.trans q)
      · exact n2 b q z
  have hlen0 : (List.replicate NB.length (none : Option V) ++ fv.map some).length = (NB ++ FR).length := by
    have h1 := congrArg List.length hfv
    have h2 := congrArg List.length hfi
    simp only [List.length_map] at h1 h2
    rw [List.length_append, List.length_append, List.length_replicate, List.length_map]
    omega
  have rep : ∀ (j : Nat) (v : V), (List.replicate NB.length (none : Option V) ++ fv.map some)[j]? = some (some v) → ∃ k, j = NB.length + k ∧ fv[k]? = some v := fun j v z => by
    rw [List.getElem?_append] at z
    split at z
    · rw [List.getElem?_replicate] at z
      split at z <;> cases z
    · rename_i hj
      rw [List.length_replicate] at hj z
      refine ⟨j - NB.length, by omega, ?_⟩
      rw [List.getElem?_map] at z
      cases e : fv[j - NB.length]? with
      | none => rw [e] at z; cases z
      | some y => rw [e] at z; exact congrArg some (Option.some.inj (Option.some.inj z))
  have fvAt : ∀ (k : Nat) (v : V) (y : Str), fv[k]? = some v → FR[k]? = some y → ∃ i, X.N[i]? = some y ∧ σ[i]? = some (some v) := fun k v y h1 h2 => by
    have a1 := congrArg (fun l => l[k]?) hfv
    have a2 := congrArg (fun l => l[k]?) hfi
    simp only [List.getElem?_map, h1, h2] at a1 a2
    cases e : fi[k]? with
    | none => rw [e] at a1; cases a1
    | some i =>
      rw [e] at a1 a2
      exact ⟨i, Option.some.inj a2, Option.some.inj a1⟩
  have IB : Inv (cxBlkF X (NB ++ FR) scope s3 H2 (D :: fp)) [(D, lstO [])] (List.replicate NB.length none ++ fv.map some) H2 { s3 with heap := h4, toks := tk4 } := by
    refine ⟨okB, rfl, I3.bare, Un.kept hk4, ⟨_, x4.ns, fun i y v h1 h2 h3 => ?_⟩, fun y c h => let ⟨⟨v, o, ho, hd⟩, _⟩ := ccl y c h; ⟨v, o, hk4 _ _ ho, hd⟩, I3.hok.fresh (Nat.le_refl _), fun y c h => (ccl y c h).2.1, fun p hp => ?_, I3.hok.kept hk4, hlen0⟩
    · obtain ⟨k, rfl, hk⟩ := rep i v h2
      have hy : FR[k]? = some y := by
        have h1 : (NB ++ FR)[NB.length + k]? = some y := h1
        rw [List.getElem?_append_right (Nat.le_add_right _ _), Nat.add_sub_cancel_left] at h1
        exact h1
      obtain ⟨io, hN, hσ⟩ := fvAt k v y hk hy
      have hfr : (y, NameKind.free) ∈ scope.names := S.fr y (List.mem_of_getElem? hy)
      obtain ⟨m, _, hl⟩ := I3.loc
      obtain ⟨u, r, l⟩ := hl io y v hN hσ (.inr (.inl (hfc _ hfr rfl)))
      refine ⟨u, r, .inr ⟨.inl ?_, ?_⟩⟩
      · exact relabel_cell S.nd2 hfr (by show (X.env.scope.kind == .function) = true; rw [I3.ok.kind]; rfl) (hfc _ hfr rfl)
      · obtain ⟨c, hc1⟩ := clos_has (cells := X.env.cells) (x := y) scope.names [] (.inr hfr)
        refine ⟨c, hc1, ?_⟩
        have hc2 := clook y c hc1
        rcases l with ⟨hk, _⟩ | ⟨_, c', hc', o, ho, hd⟩
        · have e1 := hfc _ hfr rfl
          rw [show X.env.kindOf y = X.env.scope.names.lookup y from rfl] at hk
          rw [hk] at e1
          cases e1
        · rw [hc2] at hc'
          cases hc'
          exact ⟨o, hk4 _ _ ho, hd⟩
    obtain rfl : p = (D, lstO []) := by simpa using hp
    exact ⟨hk4 _ _ hD3, hD2, Nat.ne_of_lt dl3, hDf, fun v z => nomatch z⟩
  -- what stays true of the iterator's objects
  have stat : ∀ {H' : Hp} {ys : List Value}, (∀ b ∈ fp, H' b = none) → ∀ b ∈ fp, FpOk (cxBlkF X (NB ++ FR) scope s3 H2 (D :: fp)) [(D, lstO ys)] H' b := fun hn b hb =>
    ⟨hn b hb, Nat.ne_of_lt (fp3 b hb), exF b (List.mem_cons_of_mem _ hb), .inl (List.mem_cons_of_mem _ hb), fun y c e z => (ccl y c e).2.2.2 b hb z, fun p hp => by
        obtain rfl : p = (D, _) := by simpa using hp
        exact (DfpN b hb).symm⟩
  have st4 : tn 0 h4 := T.keep _ _ _ st3 fun b _ o e => hk4 b o e
  have fr4 : ∀ b ∈ fp, H2 b = none := fun b hb => (f2 b hb).1
  have hcB : (cxBlkF X (NB ++ FR) scope s3 H2 (D :: fp)).calm = true := hc
  have loop : codeAny (model X.prog X.w) X.A (.compLoop (.ListComp elt [⟨tg, iter, ifs, 0⟩] scope pos) 0 (.ref it) (.ref D) (blkEnvF scope X.env s3.heap.objs.size))
      (compPost (model X.prog X.w) X.A X.xe none (EP X pins σ Q) (.ref D) s3.heap.objs.size) { s3 with heap := h4, toks := tk4 } := by
    refine comp_loop (fun n s' => ∃ i vs ys H', Inv (cxBlkF X (NB ++ FR) scope s3 H2 (D :: fp)) [(D, lstO ys)] (List.replicate NB.length none ++ fv.map some) H' s' ∧ Vals vs ys ∧ vs.length ≤ sizeLine ∧ tn i s'.heap ∧ (∀ b ∈ fp, H' b = none) ∧ W i n vs H') ?_ m0 ⟨0, [], [], H2, IB, .nil, Nat.zero_le _, st4, fr4, w0⟩
    rintro n s5 ⟨i, vs, ys, H5, I5, rv, hvl, st5, fr5, w5⟩
    rcases turn i n vs H5 w5 with ⟨stop, qn⟩ | ⟨go, hlt, N, hN, step⟩
    · refine wpAny_mono (T.done (cxBlkF X (NB ++ FR) scope s3 H2 (D :: fp)) rfl rfl rfl hcB i _ s5 _ H5 (fun _ _ => False) I5 (stat fr5) st5 stop) (fun r s6 ⟨hr, I6⟩ => ?_) (fun _ _ z => z.elim)
      subst hr
      obtain ⟨m6, hn6, _⟩ := id I6.loc
      refine ⟨m6, hn6, fun h7 sb7 => ?_⟩
      have kp7 : ∀ b o, b ≠ s3.heap.objs.size → s6.heap.get? b = some o → h7.get? b = some o := fun b o hb e => (sb7.2 b hb).trans e
      have hC6 : H5 s3.heap.objs.size = none := I6.free
      have un7 : Un (frs X.stack) (D :: fp) H2 H5 s3.heap h7 := by
        have u := I6.base
        refine ⟨fun b o e n hb hx => kp7 b o (Nat.ne_of_lt (Heap.lt_size e)) (u.keep b o e n hb hx), fun b o e n hb hx => ?_, u.free, fun b o e hx => ?_, u.tups, u.frzs, u.tbls⟩
        · obtain ⟨sl, q⟩ := u.slot b o e n hb hx
          exact ⟨sl, kp7 b _ (Nat.ne_of_lt (Heap.lt_size e)) q⟩
        · obtain ⟨o', q⟩ := u.there b o e hx
          exact ⟨o', kp7 b _ (Nat.ne_of_lt (Heap.lt_size e)) q⟩
      have hok7 : HOk X.prog X.w H5 h7 := fun b u e => (I6.hok b u e).stay (fun c w' hcc q => kp7 c w' (by
        rintro rfl
        rcases hcc with rfl | hcc
        · rw [hC6] at e; cases e
        · rw [hC6] at hcc; cases hcc) q) (fun _ q => q) fun _ _ q => q
      have I7 : Inv X pins σ H5 { s6 with heap := h7 } := I3.call' (s' := { s6 with heap := h7 }) I6.os un7 hok7 I6.bare fun b hb => by
        rcases List.mem_cons.mp hb with rfl | hb
        · exact ⟨.inr hDs0, hDL, hDC, hDp⟩
        · obtain ⟨_, f1, _, f3, f4, f5⟩ := f2 b hb
          exact ⟨f3, f1, f4, f5⟩
      obtain ⟨eD, nD, _⟩ := I6.pin (D, lstO ys) (by simp)
      have nD' : H5 D = none := nD
      have eD' : h7.get? D = some (lstO ys) := kp7 D _ (Nat.ne_of_lt dl3) eD
      have hD0 : X.s₀.heap.get? D = none := by
        cases q : X.s₀.heap.get? D with
        | none => rfl
        | some o => exact absurd (Nat.lt_of_lt_of_le (Heap.lt_size q) hDs0) (Nat.lt_irrefl _)
      exact ⟨.ref D, upd H5 D (.lst vs), I7.track nD' hD0 hDL hDC hDp ⟨hvl, ys, ys.length, rv, eD'⟩, rfl, qn D nD'⟩
    · refine wpAny_mono (T.item (cxBlkF X (NB ++ FR) scope s3 H2 (D :: fp)) rfl rfl rfl hcB i _ s5 _ H5 (fun _ _ => False) I5 (stat fr5) st5 go) (fun r s6 ⟨u, hr, h6⟩ => ?_) (fun _ _ z => z.elim)
      subst hr
      refine wpAny_mono h6 (fun _ s7 ⟨x, H7, I7, r7, y7, st7, fr7⟩ => ?_) (fun _ _ z => z.elim)
      have I7' := I7.pinned (stat fr7) (T.obj _ _ st7)
      refine wpAny_mono (hg s3 H2 (D :: fp) _ s7 _ H7 x u _ I7' r7 (step x H7 y7)) (fun _ s8 ⟨σ8, H8, I8, hk8, q8⟩ => ?_) (fun _ _ z => z.elim)
      refine wpAny_mono (ht s3 H2 (D :: fp) _ s8 σ8 H8 _ I8 q8) (fun ok s9 ⟨H9, I9, q9⟩ => ?_) (fun _ _ z => z.elim)
      have fpK : ∀ {σ' : St} {H' : Hp} {s' : Shared}, Inv (cxBlkF X (NB ++ FR) scope s3 H2 (D :: fp)) ([(D, lstO ys)] ++ pinsAt fp s7.heap) σ' H' s' → tn (i + 1) s'.heap ∧ ∀ b ∈ fp, H' b = none := fun J =>
        ⟨T.keep _ _ _ st7 fun b hb o e => (J.pin (b, o) (List.mem_append_right _ (List.mem_append_right _ (mem_pinsAt hb e)))).1, fun b hb => by
          obtain ⟨o, e, d⟩ := T.obj _ _ st7 b hb
          exact (J.pin (b, o) (List.mem_append_right _ (List.mem_append_right _ (mem_pinsAt hb e)))).2.1⟩
      have wk : ∀ {H' : Hp} {s' : Shared} {pl : List (Addr × Obj)}, Inv (cxBlkF X (NB ++ FR) scope s3 H2 (D :: fp)) pl σ8 H' s' → Inv (cxBlkF X (NB ++ FR) scope s3 H2 (D :: fp)) pl (List.replicate NB.length none ++ fv.map some) H' s' := fun J =>
        J.weak (hlen0.trans J.len.symm) fun j v z => by
          obtain ⟨k, rfl, hk⟩ := rep j v z
          have := congrArg (fun l => l[k]?) hk8
          simp only [List.getElem?_drop, List.getElem?_map, hk] at this
          exact this
      cases ok with
      | false =>
        rw [if_neg (by decide)] at q9
        rw [if_neg (by decide)]
        obtain ⟨m', hm, w9⟩ := hN vs H9 q9
        obtain ⟨t9, f9⟩ := fpK I9
        exact ⟨m', hm, i + 1, vs, ys, H9, wk I9.unpinned, rv, hvl, t9, f9, w9⟩
      | true =>
        rw [if_pos rfl] at q9
        rw [if_pos rfl]
        refine wpAny_mono (he s3 H2 (D :: fp) _ s9 σ8 H9 _ I9 q9) (fun y s10 ⟨v, H10, I10, rv10, q10⟩ => ?_) (fun _ _ z => z.elim)
        obtain ⟨eD, nD, _, nf, _⟩ := I10.pin (D, lstO ys) (by simp)
        have hyl := rv.length
        refine append_at (hsz := by show ys.toArray.size ≤ sizeLine; rw [List.size_toArray, ← hyl]; exact hvl) eD fun h11 sb11 hD11 => ?_
        obtain ⟨m', hm, w11⟩ := hN (vs ++ [v]) H10 q10
        obtain ⟨t10, f10⟩ := fpK I10
        have I10u := I10.unpinned
        have k11 : ∀ b o, b ≠ D → s10.heap.get? b = some o → h11.get? b = some o := fun b o hb e => (sb11.2 b hb).trans e
        have IE : Inv (cxBlkF X (NB ++ FR) scope s3 H2 (D :: fp)) [] σ8 H10 s10 := I10u.pins_of fun p hp => nomatch hp
        have I11 : Inv (cxBlkF X (NB ++ FR) scope s3 H2 (D :: fp)) [] σ8 H10 { s10 with heap := h11 } := IE.turned (t' := s10.toks) k11 nD (Nat.ne_of_lt dl3) (.inl List.mem_cons_self) (fun y' c e z => (ccl y' c e).2.2.1 z) (fun p hp => absurd (show p ∈ ([] : List (Addr × Obj)) from hp) (by simp))
        have eL : ({ cls := .type "list", data := .seq (ys.toArray.push y) (ys.length + 1) } : Obj) = lstO (ys ++ [y]) := by
          show ({ cls := .type "list", data := .seq (ys.toArray.push y) (ys.length + 1) } : Obj) = { cls := .type "list", data := .seq (ys ++ [y]).toArray (ys ++ [y]).length }
          rw [List.length_append, List.length_singleton, List.push_toArray]
        refine ⟨m', hm, i + 1, vs ++ [v], ys ++ [y], H10, wk (I11.pins_of fun p hp => ?_), rv.append (.cons rv10 .nil), by rw [List.length_append, List.length_singleton]; exact hlt, T.keep _ _ _ t10 fun b hb o e => k11 b o (DfpN b hb) e, f10, w11⟩
        obtain rfl : p = (D, lstO (ys ++ [y])) := by simpa using hp
        exact ⟨by rw [← eL]; exact hD11, nD, Nat.ne_of_lt dl3, nf, fun v z => nomatch z⟩
  exact codeAny_compStart_list loop (T.self _ 0 _ _ _ st4 loop)
end
end L2

set_option Elab.async false
set_option linter.all false
set_option maxRecDepth 100000
/-! enumerate(text), list(text) -/
namespace L2
open PySem PySem.Spec PyProof.Rows
open Builtin Builtin.Str
section
variable {X : Cx} {pins : List (Addr × Obj)} {σ : List (Option V)} {H : Hp} {s : Shared} {h' : Heap}
/-- several records have turned -/
theorem Inv.turnedL {t' : Nat} {ch : List Addr} (I : Inv X pins σ H s) (hf : ∀ b ∈ ch, FpOk X pins H b) (k : ∀ b o, b ∉ ch → s.heap.get? b = some o → h'.get? b = some o) : Inv X pins σ H { s with heap := h', toks := t' } := by
  have nit : ∀ b u, H b = some u → b ∉ ch := fun b u e z => by rw [(hf b z).1] at e; cases e
  refine I.step (g' := s.gens) (d' := s.drawn) (ch := ch) (fun b hb => ?_) (fun b o _ _ hc e _ => k b o hc e) (fun b o _ _ hc e _ => ⟨o.slots, k b o hc e⟩) (fun _ _ _ _ n => n) (fun b o hc e => ⟨o, k b o hc e⟩) (fun _ _ e => e) (fun _ _ _ e => e) (fun b ps e => ⟨#[], by rw [e]; simp⟩) (fun m hm => ?_) (fun b u e => ?_) I.bare
  · obtain ⟨_, f1, _, f3, f4, f5⟩ := hf b hb
    exact ⟨f3, f1, f4, f5⟩
  · obtain ⟨o, es, ep, ho, r⟩ := hm
    exact ⟨o, es, ep, k _ o (fun z => (hf _ z).2.1 rfl) ho, r⟩
  · refine (I.hok b u e).stay (fun c v hc q => k c v ?_ q) (fun _ q => q) fun _ _ q => q
    rcases hc with z | z
    · rw [z]; exact nit b u e
    · exact nit c _ z
/-- .. and a new tuple is laid -/
theorem Inv.turnedT {t' : Nat} {ch : List Addr} {T : Addr} {xs : List V} (I : Inv X pins σ H s) (hf : ∀ b ∈ ch, FpOk X pins H b) (k : ∀ b o, b ∉ ch → s.heap.get? b = some o → h'.get? b = some o) (hT : s.heap.objs.size ≤ T)
    (new : ObjOk X.prog X.w (upd H T (.tup xs)) h' T (.tup xs)) : Inv X pins σ (upd H T (.tup xs)) { s with heap := h', toks := t' } := by
  have hn := I.hok.fresh hT
  have nit : ∀ b u, H b = some u → b ∉ ch := fun b u e z => by rw [(hf b z).1] at e; cases e
  have nT : ∀ b o, H b = some o → upd H T (.tup xs) b = some o := fun b o e => by rw [upd_ne (ne_of_none e hn)]; exact e
  refine I.step (g' := s.gens) (d' := s.drawn) (ch := ch) (fun b hb => ?_) (fun b o _ _ hc e _ => k b o hc e) (fun b o _ _ hc e _ => ⟨o.slots, k b o hc e⟩) (fun b o _ e n => ?_) (fun b o hc e => ⟨o, k b o hc e⟩) (fun b ys e => nT b _ e) (fun b o u e => nT b _ e) (fun b ps e => ⟨#[], by rw [nT b _ e]; simp⟩) (fun m hm => ?_) (fun b u e => ?_) I.bare
  · obtain ⟨_, f1, _, f3, f4, f5⟩ := hf b hb
    exact ⟨f3, f1, f4, f5⟩
  · rw [upd_ne (fun z => absurd (Heap.lt_size e) (by rw [z]; exact Nat.not_lt.mpr hT))]
    exact n
  · obtain ⟨o, es, ep, ho, r⟩ := hm
    exact ⟨o, es, ep, k _ o (fun z => (hf _ z).2.1 rfl) ho, r⟩
  · by_cases hb : b = T
    · subst hb; rw [upd_same] at e; cases e; exact new
    · rw [upd_ne hb] at e
      refine (I.hok b u e).stay (fun c v hc q => k c v ?_ q) (fun c q => nT c _ q) fun c ys q => nT c _ q
      rcases hc with z | z
      · rw [z]; exact nit b u e
      · exact nit c _ z
end
section
variable {X : Cx}
end
end L2

set_option Elab.async false
set_option linter.all false
set_option maxRecDepth 100000
/-! list(text) -/
namespace L2
open PySem PySem.Spec PyProof.Rows
open Builtin Builtin.Str
section
variable {prog : Program} {w : World} {A : Around} {E : Value → Shared → Prop} {s : Shared}
end
section
variable {X : Cx}
end
/-! written dicts of texts, of any number -/
section
variable {X : Cx} {o i : Expr} {td ty : TE} {a : Addr} {kvs : List (Key × V)}
end
end L2

set_option Elab.async false
set_option linter.all false
set_option maxRecDepth 100000
/-! loops over texts, their signs numbered; comprehensions over texts with names of the def around -/
namespace L2
open PySem PySem.Spec PyProof.Rows
end L2

set_option Elab.async false
set_option linter.all false
set_option maxRecDepth 100000
/-! zip(text, text) -/
namespace L2
open PySem PySem.Spec PyProof.Rows
open Builtin Builtin.Str
/-- the addresses of a zip's five objects are five -/
abbrev Ap5 (z TI TO i1 i2 : Addr) : Prop := ZipApart z TI TO i1 i2 TI TI
section
variable {prog : Program} {w : World} {A : Around} {E : Value → Shared → Prop} {s : Shared} {z TI TO i1 i2 : Addr} {k n1 n2 : Nat} {P1 P2 : Nat → Value → Prop} {S1 S2 : Nat → Heap → Prop} {a b : Value}
end
section
variable {prog : Program} {w : World} {A : Around} {E : Value → Shared → Prop} {s : Shared} {z TI TO i1 i2 : Addr} {k n1 n2 : Nat} {P1 P2 : Nat → Value → Prop} {S1 S2 : Nat → Heap → Prop} {a b : Value}
end
section
variable {X : Cx}
end
end L2

set_option Elab.async false
set_option linter.all false
namespace L2
open PySem PySem.Spec PyProof.Rows
/-! ### things within things: tuples of tuples -/
inductive Dv where
  | non | bl (b : Bool) | int (i : Int) | str (x : Str) | tup (ds : List Dv)
mutual
def Dv.depth : Dv → Nat
  | .tup ds => Dv.depthL ds + 1
  | _ => 0
def Dv.depthL : List Dv → Nat
  | [] => 0
  | d :: ds => max (Dv.depth d) (Dv.depthL ds)
end
mutual
def Dv.eqb : Dv → Dv → Bool
  | .non, .non => true
  | .bl a, .bl b => a == b
  | .bl a, .int b => (if a then 1 else 0) == b
  | .int a, .bl b => a == (if b then 1 else 0)
  | .int a, .int b => a == b
  | .str a, .str b => a == b
  | .tup xs, .tup ys => Dv.eqbL xs ys
  | _, _ => false
def Dv.eqbL : List Dv → List Dv → Bool
  | [], [] => true
  | x :: xs, y :: ys => Dv.eqb x y && Dv.eqbL xs ys
  | _, _ => false
end
mutual
/-- what a value is, all the way down -/
inductive Deep (H : Hp) : V → Dv → Prop where
  | non : Deep H .non .non
  | bl {b : Bool} : Deep H (.bl b) (.bl b)
  | int {i : Int} : Deep H (.int i) (.int i)
  | str {x : Str} : Deep H (.str x) (.str x)
  | tup {a : Addr} {xs : List V} {ds : List Dv} (h : H a = some (.tup xs)) (t : Deeps H xs ds) : Deep H (.ref a) (.tup ds)
inductive Deeps (H : Hp) : List V → List Dv → Prop where
  | nil : Deeps H [] []
  | cons {x : V} {d : Dv} {xs : List V} {ds : List Dv} (h : Deep H x d) (t : Deeps H xs ds) : Deeps H (x :: xs) (d :: ds)
end
theorem Deeps.length {H : Hp} : ∀ {xs : List V} {ds : List Dv}, Deeps H xs ds → xs.length = ds.length
  | _, _, .nil => rfl
  | _, _, .cons _ t => congrArg (· + 1) t.length
theorem Deeps.get {H : Hp} : ∀ {xs : List V} {ds : List Dv} {i : Nat} {d : Dv}, Deeps H xs ds → ds[i]? = some d → ∃ x, xs[i]? = some x ∧ Deep H x d
  | _, _, _, _, .nil, e => by simp at e
  | _, _, 0, _, .cons h _, e => by
    simp at e
    subst e
    exact ⟨_, rfl, h⟩
  | _, _, i + 1, d, .cons _ t, e => by
    obtain ⟨x, h1, h2⟩ := Deeps.get (i := i) (d := d) t (by simpa using e)
    exact ⟨x, by simpa using h1, h2⟩
theorem Deeps.getX {H : Hp} : ∀ {xs : List V} {ds : List Dv} {i : Nat} {x : V}, Deeps H xs ds → xs[i]? = some x → ∃ d, ds[i]? = some d ∧ Deep H x d
  | _, _, _, _, .nil, e => by simp at e
  | _, _, 0, _, .cons h _, e => by
    simp at e
    subst e
    exact ⟨_, rfl, h⟩
  | _, _, i + 1, x, .cons _ t, e => by
    obtain ⟨d, h1, h2⟩ := Deeps.getX (i := i) (x := x) t (by simpa using e)
    exact ⟨d, by simpa using h1, h2⟩
theorem Deeps.append {H : Hp} : ∀ {xs ys : List V} {ds es : List Dv}, Deeps H xs ds → Deeps H ys es → Deeps H (xs ++ ys) (ds ++ es)
  | _, _, _, _, .nil, q => q
  | _, _, _, _, .cons h t, q => .cons h (Deeps.append t q)
theorem Deeps.take {H : Hp} : ∀ {xs : List V} {ds : List Dv} (n : Nat), Deeps H xs ds → Deeps H (xs.take n) (ds.take n)
  | _, _, 0, _ => .nil
  | _, _, _ + 1, .nil => .nil
  | _, _, n + 1, .cons h t => .cons h (Deeps.take n t)
theorem Deeps.drop {H : Hp} : ∀ {xs : List V} {ds : List Dv} (n : Nat), Deeps H xs ds → Deeps H (xs.drop n) (ds.drop n)
  | _, _, 0, t => t
  | _, _, _ + 1, .nil => .nil
  | _, _, n + 1, .cons _ t => Deeps.drop n t
mutual
/-- tuples never change -/
theorem Deep.keep {H H' : Hp} (k : ∀ b ys, H b = some (.tup ys) → H' b = some (.tup ys)) : ∀ {x : V} {d : Dv}, Deep H x d → Deep H' x d
  | _, _, .non => .non
  | _, _, .bl => .bl
  | _, _, .int => .int
  | _, _, .str => .str
  | _, _, .tup h t => .tup (k _ _ h) (Deeps.keep k t)
theorem Deeps.keep {H H' : Hp} (k : ∀ b ys, H b = some (.tup ys) → H' b = some (.tup ys)) : ∀ {xs : List V} {ds : List Dv}, Deeps H xs ds → Deeps H' xs ds
  | _, _, .nil => .nil
  | _, _, .cons h t => .cons (Deep.keep k h) (Deeps.keep k t)
end
theorem Deep.same {H H' : Hp} {x : V} {d : Dv} (h : Deep H x d) (S : Same H H') : Deep H' x d := h.keep (fun b ys e => S _ _ e)
theorem Deeps.same {H H' : Hp} {xs : List V} {ds : List Dv} (h : Deeps H xs ds) (S : Same H H') : Deeps H' xs ds := h.keep (fun b ys e => S _ _ e)
section
variable {X : Cx} {pins : List (Addr × Obj)} {σ : St} {H : Hp} {s : Shared}
mutual
theorem Deep.inj (I : Inv X pins σ H s) : ∀ {x : V} {d e : Dv}, Deep H x d → Deep H x e → d = e
  | _, _, _, .non, .non => rfl
  | _, _, _, .bl, .bl => rfl
  | _, _, _, .int, .int => rfl
  | _, _, _, .str, .str => rfl
  | _, _, _, .tup h t, .tup h2 t2 => by
    have e := I.tuple_inj (.inl (.inl h)) (.inl (.inl h2))
    subst e
    rw [Deeps.inj I t t2]
theorem Deeps.inj (I : Inv X pins σ H s) : ∀ {xs : List V} {ds es : List Dv}, Deeps H xs ds → Deeps H xs es → ds = es
  | _, _, _, .nil, .nil => rfl
  | _, _, _, .cons h t, .cons h2 t2 => by rw [Deep.inj I h h2, Deeps.inj I t t2]
end
end
mutual
theorem Dv.eqb_self : ∀ d : Dv, d.eqb d = true
  | .non => rfl
  | .bl b => by cases b <;> rfl
  | .int i => by unfold Dv.eqb; exact beq_self_eq_true i
  | .str x => by unfold Dv.eqb; exact beq_self_eq_true x
  | .tup ds => by unfold Dv.eqb; exact Dv.eqbL_self ds
theorem Dv.eqbL_self : ∀ ds : List Dv, Dv.eqbL ds ds = true
  | [] => rfl
  | d :: ds => by unfold Dv.eqbL; rw [Dv.eqb_self d, Dv.eqbL_self ds]; rfl
end
theorem Dv.eqbL_range : ∀ (ds es : List Dv), Dv.eqbL ds es = ((List.range (min ds.length es.length)).all (fun j => ((ds[j]?).getD .non).eqb ((es[j]?).getD .non)) && ds.length == es.length)
  | [], [] => rfl
  | [], e :: es => rfl
  | d :: ds, [] => rfl
  | d :: ds, e :: es => by
    unfold Dv.eqbL
    rw [Dv.eqbL_range ds es, List.length_cons, List.length_cons, show min (ds.length + 1) (es.length + 1) = min ds.length es.length + 1 by omega, List.range_succ_eq_map, List.all_cons, List.all_map, Bool.and_assoc]
    congr 1
    congr 1
    exact Bool.eq_iff_iff.mpr (by simp)
theorem Dv.depth_le : ∀ {ds : List Dv} {i : Nat} {d : Dv}, ds[i]? = some d → d.depth ≤ Dv.depthL ds
  | [], _, _, e => by simp at e
  | x :: xs, 0, d, e => by
    simp at e
    subst e
    unfold Dv.depthL
    omega
  | x :: xs, i + 1, d, e => by
    have := Dv.depth_le (ds := xs) (i := i) (d := d) (by simpa using e)
    unfold Dv.depthL
    omega
section
variable {X : Cx} {pins : List (Addr × Obj)} {σ : St} {H : Hp} {s : Shared}
/-- two things compared, the tuples among them by what is known of their parts -/
theorem Deep.at1 (I : Inv X pins σ H s) {N : Nat} {x y : V} {d e : Dv} (hd : d.depth ≤ N) (hx : Deep H x d) (hy : Deep H y e) {A : Around} {u v : Value} (hu : A.units + N < cLine) (rx : RelV x u) (ry : RelV y v)
    (ih : ∀ n, N = n + 1 → ∀ (d e : Dv) (x y : V), d.depth ≤ n → Deep H x d → Deep H y e → ∀ {A : Around} {u v : Value}, A.units + n < cLine → RelV x u → RelV y v → SeqAt.EqAt A s u v (d.eqb e)) : SeqAt.EqAt A s u v (d.eqb e) := by
  cases hx with
  | non =>
    cases rx
    cases hy with
    | non =>
      cases ry
      exact .same _
    | @bl b2 =>
      cases ry
      exact SeqAt.EqAt.none_bool b2
    | @int i2 =>
      obtain ⟨ty, rfl⟩ := ry
      exact SeqAt.EqAt.none_int i2 ty
    | @str z2 =>
      obtain ⟨ty, rfl⟩ := ry
      exact SeqAt.EqAt.none_str z2 ty
    | @tup a2 ys es h2 t2 =>
      obtain rfl : v = Value.ref a2 := ry
      obtain ⟨its2, r2, p2, _⟩ := I.tuple (.inl (.inl h2))
      exact SeqAt.EqAt.none_tuple p2 (by omega)
  | @bl b =>
    cases rx
    cases hy with
    | non =>
      cases ry
      exact SeqAt.EqAt.bool_none b
    | @bl b2 =>
      cases ry
      exact SeqAt.EqAt.bool_bool b b2
    | @int i2 =>
      obtain ⟨ty, rfl⟩ := ry
      exact SeqAt.EqAt.bool_int b i2 ty
    | @str z2 =>
      obtain ⟨ty, rfl⟩ := ry
      exact SeqAt.EqAt.bool_str b z2 ty
    | @tup a2 ys es h2 t2 =>
      obtain rfl : v = Value.ref a2 := ry
      obtain ⟨its2, r2, p2, _⟩ := I.tuple (.inl (.inl h2))
      exact SeqAt.EqAt.bool_tuple b p2 (by omega)
  | @int i =>
    obtain ⟨tx, rfl⟩ := rx
    cases hy with
    | non =>
      cases ry
      exact SeqAt.EqAt.int_none i tx
    | @bl b2 =>
      cases ry
      exact SeqAt.EqAt.int_bool i tx b2
    | @int i2 =>
      obtain ⟨ty, rfl⟩ := ry
      exact SeqAt.EqAt.int_int i tx i2 ty
    | @str z2 =>
      obtain ⟨ty, rfl⟩ := ry
      exact SeqAt.EqAt.int_str i tx z2 ty
    | @tup a2 ys es h2 t2 =>
      obtain rfl : v = Value.ref a2 := ry
      obtain ⟨its2, r2, p2, _⟩ := I.tuple (.inl (.inl h2))
      exact SeqAt.EqAt.int_tuple i tx p2 (by omega)
  | @str z =>
    obtain ⟨tx, rfl⟩ := rx
    cases hy with
    | non =>
      cases ry
      exact SeqAt.EqAt.str_none z tx
    | @bl b2 =>
      cases ry
      exact SeqAt.EqAt.str_bool z tx b2
    | @int i2 =>
      obtain ⟨ty, rfl⟩ := ry
      exact SeqAt.EqAt.str_int z tx i2 ty
    | @str z2 =>
      obtain ⟨ty, rfl⟩ := ry
      exact SeqAt.EqAt.str_str z tx z2 ty
    | @tup a2 ys es h2 t2 =>
      obtain rfl : v = Value.ref a2 := ry
      obtain ⟨its2, r2, p2, _⟩ := I.tuple (.inl (.inl h2))
      exact SeqAt.EqAt.str_tuple z tx p2 (by omega)
  | @tup a xs ds h t =>
    obtain rfl : u = Value.ref a := rx
    obtain ⟨its, r1, p1, _⟩ := I.tuple (.inl (.inl h))
    cases hy with
    | non =>
      cases ry
      exact SeqAt.EqAt.tuple_none p1 (by omega)
    | @bl b2 =>
      cases ry
      exact SeqAt.EqAt.tuple_bool b2 p1 (by omega)
    | @int i2 =>
      obtain ⟨ty, rfl⟩ := ry
      exact SeqAt.EqAt.tuple_int i2 ty p1 (by omega)
    | @str z2 =>
      obtain ⟨ty, rfl⟩ := ry
      exact SeqAt.EqAt.tuple_str z2 ty p1 (by omega)
    | @tup a2 ys es h2 t2 =>
      obtain rfl : v = Value.ref a2 := ry
      obtain ⟨its2, r2, p2, _⟩ := I.tuple (.inl (.inl h2))
      obtain ⟨n, rfl⟩ : ∃ n, N = n + 1 := ⟨N - 1, by have := hd; unfold Dv.depth at this; omega⟩
      have hl1 := t.length
      have hl2 := t2.length
      have q1 := r1.length
      have q2 := r2.length
      have z := SeqAt.RcAt.tuples (A := A) (s := s) (e := fun j => ((ds[j]?).getD .non).eqb ((es[j]?).getD .non)) p1 p2 (by omega) (tup_items (pins := pins) (σ := σ) (H := H) (n := n) r1 r2 fun j x y u v g1 g2 w1 w2 => ?_)
      · rw [List.size_toArray, List.size_toArray, ← q1, ← q2, hl1, hl2, ← Dv.eqbL_range] at z
        by_cases ne : a = a2
        · subst ne
          rw [Deep.inj I (.tup h t) (.tup h2 t2), Dv.eqb_self]
          exact .same _
        · unfold Dv.eqb
          exact .of_refs ne z
      · obtain ⟨d1, k1, k2⟩ := t.getX g1
        obtain ⟨e1, m1, m2⟩ := t2.getX g2
        show SeqAt.EqAt A.in1 s u v (((ds[j]?).getD .non).eqb ((es[j]?).getD .non))
        rw [k1, m1]
        exact ih n rfl d1 e1 x y (Nat.le_trans (Dv.depth_le k1) (by have := hd; unfold Dv.depth at this; omega)) k2 m2 (by show A.units + 1 + n < cLine; omega) w1 w2
theorem Deep.at (I : Inv X pins σ H s) : ∀ (n : Nat) (d e : Dv) (x y : V), d.depth ≤ n → Deep H x d → Deep H y e → ∀ {A : Around} {u v : Value}, A.units + n < cLine → RelV x u → RelV y v → SeqAt.EqAt A s u v (d.eqb e) := by
  intro n
  induction n with
  | zero =>
    intro d e x y hd hx hy A u v hu rx ry
    exact Deep.at1 I hd hx hy hu rx ry fun n hn => absurd hn (by omega)
  | succ n ih =>
    intro d e x y hd hx hy A u v hu rx ry
    refine Deep.at1 I hd hx hy hu rx ry fun m hm => ?_
    obtain rfl : n = m := by omega
    exact ih
theorem Deep.rc (I : Inv X pins σ H s) {n : Nat} {x y : V} {d e : Dv} (hd : d.depth ≤ n) (hx : Deep H x d) (hy : Deep H y e) {u v : Value} (hu : X.A.units + n < cLine) (rx : RelV x u) (ry : RelV y v) : SeqAt.RcAt X.A s u v (d.eqb e) := by
  cases hx with
  | non =>
    cases rx
    cases hy with
    | non =>
      cases ry
      exact SeqAt.RcAt.none_none
    | @bl b2 =>
      cases ry
      exact SeqAt.RcAt.none_bool b2
    | @int i2 =>
      obtain ⟨ty, rfl⟩ := ry
      exact SeqAt.RcAt.none_int i2 ty
    | @str z2 =>
      obtain ⟨ty, rfl⟩ := ry
      exact SeqAt.RcAt.none_str z2 ty
    | @tup a2 ys es h2 t2 =>
      obtain rfl : v = Value.ref a2 := ry
      obtain ⟨its2, r2, p2, _⟩ := I.tuple (.inl (.inl h2))
      exact SeqAt.RcAt.none_tuple p2 (by omega)
  | @bl b =>
    cases rx
    cases hy with
    | non =>
      cases ry
      exact SeqAt.RcAt.bool_none b
    | @bl b2 =>
      cases ry
      exact SeqAt.RcAt.bool_bool b b2
    | @int i2 =>
      obtain ⟨ty, rfl⟩ := ry
      exact SeqAt.RcAt.bool_int b i2 ty
    | @str z2 =>
      obtain ⟨ty, rfl⟩ := ry
      exact SeqAt.RcAt.bool_str b z2 ty
    | @tup a2 ys es h2 t2 =>
      obtain rfl : v = Value.ref a2 := ry
      obtain ⟨its2, r2, p2, _⟩ := I.tuple (.inl (.inl h2))
      exact SeqAt.RcAt.bool_tuple b p2 (by omega)
  | @int i =>
    obtain ⟨tx, rfl⟩ := rx
    cases hy with
    | non =>
      cases ry
      exact SeqAt.RcAt.int_none i tx
    | @bl b2 =>
      cases ry
      exact SeqAt.RcAt.int_bool i tx b2
    | @int i2 =>
      obtain ⟨ty, rfl⟩ := ry
      exact SeqAt.RcAt.int_int i tx i2 ty
    | @str z2 =>
      obtain ⟨ty, rfl⟩ := ry
      exact SeqAt.RcAt.int_str i tx z2 ty
    | @tup a2 ys es h2 t2 =>
      obtain rfl : v = Value.ref a2 := ry
      obtain ⟨its2, r2, p2, _⟩ := I.tuple (.inl (.inl h2))
      exact SeqAt.RcAt.int_tuple i tx p2 (by omega)
  | @str z =>
    obtain ⟨tx, rfl⟩ := rx
    cases hy with
    | non =>
      cases ry
      exact SeqAt.RcAt.str_none z tx
    | @bl b2 =>
      cases ry
      exact SeqAt.RcAt.str_bool z tx b2
    | @int i2 =>
      obtain ⟨ty, rfl⟩ := ry
      exact SeqAt.RcAt.str_int z tx i2 ty
    | @str z2 =>
      obtain ⟨ty, rfl⟩ := ry
      exact SeqAt.RcAt.str_str z tx z2 ty
    | @tup a2 ys es h2 t2 =>
      obtain rfl : v = Value.ref a2 := ry
      obtain ⟨its2, r2, p2, _⟩ := I.tuple (.inl (.inl h2))
      exact SeqAt.RcAt.str_tuple z tx p2 (by omega)
  | @tup a xs ds h t =>
    obtain rfl : u = Value.ref a := rx
    obtain ⟨its, r1, p1, _⟩ := I.tuple (.inl (.inl h))
    cases hy with
    | non =>
      cases ry
      exact SeqAt.RcAt.tuple_none p1 (by omega)
    | @bl b2 =>
      cases ry
      exact SeqAt.RcAt.tuple_bool b2 p1 (by omega)
    | @int i2 =>
      obtain ⟨ty, rfl⟩ := ry
      exact SeqAt.RcAt.tuple_int i2 ty p1 (by omega)
    | @str z2 =>
      obtain ⟨ty, rfl⟩ := ry
      exact SeqAt.RcAt.tuple_str z2 ty p1 (by omega)
    | @tup a2 ys es h2 t2 =>
      obtain rfl : v = Value.ref a2 := ry
      obtain ⟨its2, r2, p2, _⟩ := I.tuple (.inl (.inl h2))
      have hl1 := t.length
      have hl2 := t2.length
      have q1 := r1.length
      have q2 := r2.length
      have hd' : Dv.depthL ds + 1 ≤ n := by have := hd; unfold Dv.depth at this; exact this
      have z := SeqAt.RcAt.tuples (A := X.A) (s := s) (e := fun j => ((ds[j]?).getD .non).eqb ((es[j]?).getD .non)) p1 p2 (by omega) (tup_items (pins := pins) (σ := σ) (H := H) (n := n) r1 r2 fun j x y u v g1 g2 w1 w2 => ?_)
      · rw [List.size_toArray, List.size_toArray, ← q1, ← q2, hl1, hl2, ← Dv.eqbL_range] at z
        unfold Dv.eqb
        exact z
      · obtain ⟨d1, k1, k2⟩ := t.getX g1
        obtain ⟨e1, m1, m2⟩ := t2.getX g2
        show SeqAt.EqAt X.A.in1 s u v (((ds[j]?).getD .non).eqb ((es[j]?).getD .non))
        rw [k1, m1]
        exact Deep.at I (n - 1) d1 e1 x y (Nat.le_trans (Dv.depth_le k1) (by omega)) k2 m2 (by show X.A.units + 1 + (n - 1) < cLine; omega) w1 w2
theorem Deep.rcNe (I : Inv X pins σ H s) {n : Nat} {x y : V} {d e : Dv} (hd : d.depth ≤ n) (hx : Deep H x d) (hy : Deep H y e) {u v : Value} (hu : X.A.units + n < cLine) (rx : RelV x u) (ry : RelV y v) : SeqAt.RcNeAt X.A s u v (!(d.eqb e)) := by
  cases hx with
  | non =>
    cases rx
    cases hy with
    | non =>
      cases ry
      exact SeqAt.RcNeAt.none_none
    | @bl b2 =>
      cases ry
      exact SeqAt.RcNeAt.none_bool b2
    | @int i2 =>
      obtain ⟨ty, rfl⟩ := ry
      exact SeqAt.RcNeAt.none_int i2 ty
    | @str z2 =>
      obtain ⟨ty, rfl⟩ := ry
      exact SeqAt.RcNeAt.none_str z2 ty
    | @tup a2 ys es h2 t2 =>
      obtain rfl : v = Value.ref a2 := ry
      obtain ⟨its2, r2, p2, _⟩ := I.tuple (.inl (.inl h2))
      exact SeqAt.RcNeAt.none_tuple p2 (by omega)
  | @bl b =>
    cases rx
    cases hy with
    | non =>
      cases ry
      exact SeqAt.RcNeAt.bool_none b
    | @bl b2 =>
      cases ry
      exact SeqAt.RcNeAt.bool_bool b b2
    | @int i2 =>
      obtain ⟨ty, rfl⟩ := ry
      exact SeqAt.RcNeAt.bool_int b i2 ty
    | @str z2 =>
      obtain ⟨ty, rfl⟩ := ry
      exact SeqAt.RcNeAt.bool_str b z2 ty
    | @tup a2 ys es h2 t2 =>
      obtain rfl : v = Value.ref a2 := ry
      obtain ⟨its2, r2, p2, _⟩ := I.tuple (.inl (.inl h2))
      exact SeqAt.RcNeAt.bool_tuple b p2 (by omega)
  | @int i =>
    obtain ⟨tx, rfl⟩ := rx
    cases hy with
    | non =>
      cases ry
      exact SeqAt.RcNeAt.int_none i tx
    | @bl b2 =>
      cases ry
      exact SeqAt.RcNeAt.int_bool i tx b2
    | @int i2 =>
      obtain ⟨ty, rfl⟩ := ry
      exact SeqAt.RcNeAt.int_int i tx i2 ty
    | @str z2 =>
      obtain ⟨ty, rfl⟩ := ry
      exact SeqAt.RcNeAt.int_str i tx z2 ty
    | @tup a2 ys es h2 t2 =>
      obtain rfl : v = Value.ref a2 := ry
      obtain ⟨its2, r2, p2, _⟩ := I.tuple (.inl (.inl h2))
      exact SeqAt.RcNeAt.int_tuple i tx p2 (by omega)
  | @str z =>
    obtain ⟨tx, rfl⟩ := rx
    cases hy with
    | non =>
      cases ry
      exact SeqAt.RcNeAt.str_none z tx
    | @bl b2 =>
      cases ry
      exact SeqAt.RcNeAt.str_bool z tx b2
    | @int i2 =>
      obtain ⟨ty, rfl⟩ := ry
      exact SeqAt.RcNeAt.str_int z tx i2 ty
    | @str z2 =>
      obtain ⟨ty, rfl⟩ := ry
      exact SeqAt.RcNeAt.str_str z tx z2 ty
    | @tup a2 ys es h2 t2 =>
      obtain rfl : v = Value.ref a2 := ry
      obtain ⟨its2, r2, p2, _⟩ := I.tuple (.inl (.inl h2))
      exact SeqAt.RcNeAt.str_tuple z tx p2 (by omega)
  | @tup a xs ds h t =>
    obtain rfl : u = Value.ref a := rx
    obtain ⟨its, r1, p1, _⟩ := I.tuple (.inl (.inl h))
    cases hy with
    | non =>
      cases ry
      exact SeqAt.RcNeAt.tuple_none p1 (by omega)
    | @bl b2 =>
      cases ry
      exact SeqAt.RcNeAt.tuple_bool b2 p1 (by omega)
    | @int i2 =>
      obtain ⟨ty, rfl⟩ := ry
      exact SeqAt.RcNeAt.tuple_int i2 ty p1 (by omega)
    | @str z2 =>
      obtain ⟨ty, rfl⟩ := ry
      exact SeqAt.RcNeAt.tuple_str z2 ty p1 (by omega)
    | @tup a2 ys es h2 t2 =>
      obtain rfl : v = Value.ref a2 := ry
      obtain ⟨its2, r2, p2, _⟩ := I.tuple (.inl (.inl h2))
      have hl1 := t.length
      have hl2 := t2.length
      have q1 := r1.length
      have q2 := r2.length
      have hd' : Dv.depthL ds + 1 ≤ n := by have := hd; unfold Dv.depth at this; exact this
      have z := SeqAt.RcNeAt.tuples (A := X.A) (s := s) (e := fun j => ((ds[j]?).getD .non).eqb ((es[j]?).getD .non)) p1 p2 (by omega) (tup_items (pins := pins) (σ := σ) (H := H) (n := n) r1 r2 fun j x y u v g1 g2 w1 w2 => ?_)
      · rw [List.size_toArray, List.size_toArray, ← q1, ← q2, hl1, hl2, ← Dv.eqbL_range] at z
        unfold Dv.eqb
        exact z
      · obtain ⟨d1, k1, k2⟩ := t.getX g1
        obtain ⟨e1, m1, m2⟩ := t2.getX g2
        show SeqAt.EqAt X.A.in1 s u v (((ds[j]?).getD .non).eqb ((es[j]?).getD .non))
        rw [k1, m1]
        exact Deep.at I (n - 1) d1 e1 x y (Nat.le_trans (Dv.depth_le k1) (by omega)) k2 m2 (by show X.A.units + 1 + (n - 1) < cLine; omega) w1 w2
def rEqDp (n : Nat) (neg : Bool) : R2 := fun x y H Q => ∃ d e, Deep H x d ∧ Deep H y e ∧ d.depth ≤ n ∧ Q (.bl (if neg then !(d.eqb e) else d.eqb e)) H
theorem op_eqDp {n : Nat} (hu : X.A.units + n < cLine) : OpR X (compareOp .Eq) (rEqDp n false) := by
  intro pins s σ H x y v u Q I rx ry h
  obtain ⟨d, e, hx, hy, hd, q⟩ := h
  exact Deep.rc I hd hx hy hu rx ry X.prog X.w X.xe _ ⟨.bl _, H, I, rfl, q⟩
theorem op_neDp {n : Nat} (hu : X.A.units + n < cLine) : OpR X (compareOp .NotEq) (rEqDp n true) := by
  intro pins s σ H x y v u Q I rx ry h
  obtain ⟨d, e, hx, hy, hd, q⟩ := h
  exact Deep.rcNe I hd hx hy hu rx ry X.prog X.w X.xe _ ⟨.bl _, H, I, rfl, q⟩
end
end L2

set_option Elab.async false
set_option linter.all false
set_option maxRecDepth 100000
/-! tuples and lists walked side by side, or with their numbers -/
namespace L2
open PySem PySem.Spec PyProof.Rows
open Builtin Builtin.Str
section
variable {prog : Program} {w : World} {A : Around} {E : Value → Shared → Prop} {s : Shared} {j tt : Addr} {n : Nat} {its : Array Value}
theorem nx_tup {v : Value} {Q : Value → Shared → Prop} (g : s.heap.IsTupleIter j tt n) (gt : s.heap.IsTuple tt its) (gv : its[n]? = some v)
    (k : ∀ h', h'.IsTupleIter j tt (n + 1) → Heap.SameBut j s.heap h' → Q v { s with heap := h' }) : wpAny (model prog w) A (Builtin.SmallTypes.nextOf (.ref j)) Q E s := by
  obtain ⟨o, ho, hc, hd⟩ := id g; obtain ⟨ol, hol, _, nl, hdl⟩ := gt
  unfold Builtin.SmallTypes.nextOf; refine wpAny_bind (wpAny_callSpecial?_slot (name := Str.ofString "__next__") g.typeIs F.slot_tuple_iterator_next (wpAny_call_entry F.slot_tuple_iterator_next g.typeIs F.entry_tuple_iterator_next ?_ (F.args_tuple_iterator_next_1 _)))
  show wpAny _ _ (field (.ref j) 0 >>= _) _ _ s; refine wpAny_bind (wpAny_field ho hd (x := .ref tt) rfl ?_)
  show wpAny _ _ (if (Value.ref tt == Value.none) = true then _ else _) _ _ s; rw [if_neg (show ¬ ((Value.ref tt == Value.none) = true) from Bool.false_ne_true)]
  show wpAny _ _ (field (.ref j) 1 >>= _) _ _ s; refine wpAny_bind (wpAny_field ho hd (x := .int n 0) rfl ?_)
  show wpAny _ _ (seqItems? (.ref tt) >>= _) _ _ s; refine wpAny_bind (wpAny_seqItems hol hdl ?_)
  simp only [Int.toNat_natCast, gv]; refine wpAny_bind (wpAny_setField ho hd (by simp) (wpAny_pure ⟨v, rfl, wpAny_pure (k _ ?_ (Heap.SameBut.update ..))⟩))
  exact ⟨_, Heap.get?_update_self _ ho (Obj.isFreed_of_fields (Obj.data_mapFields hd _)), (Obj.cls_mapFields ..).trans hc, by rw [Obj.data_mapFields hd]; simp [rawInt]⟩
theorem nx_tupE {Q : Value → Shared → Prop} (hh : A.handled = none) (g : s.heap.IsTupleIter j tt n) (gt : s.heap.IsTuple tt its) (gv : its[n]? = none)
    (k : ∀ h' e, Heap.ExtBut j s.heap h' → (∃ o, h'.get? e = some o ∧ o.cls = .type "StopIteration") → E (.ref e) { s with heap := h' }) : wpAny (model prog w) A (Builtin.SmallTypes.nextOf (.ref j)) Q E s := by
  obtain ⟨o, ho, hc, hd⟩ := id g; obtain ⟨ol, hol, _, nl, hdl⟩ := gt
  unfold Builtin.SmallTypes.nextOf; refine wpAny_bind (wpAny_callSpecial?_slot (name := Str.ofString "__next__") g.typeIs F.slot_tuple_iterator_next (wpAny_call_entry F.slot_tuple_iterator_next g.typeIs F.entry_tuple_iterator_next ?_ (F.args_tuple_iterator_next_1 _)))
  show wpAny _ _ (field (.ref j) 0 >>= _) _ _ s; refine wpAny_bind (wpAny_field ho hd (x := .ref tt) rfl ?_)
  show wpAny _ _ (if (Value.ref tt == Value.none) = true then _ else _) _ _ s; rw [if_neg (show ¬ ((Value.ref tt == Value.none) = true) from Bool.false_ne_true)]
  show wpAny _ _ (field (.ref j) 1 >>= _) _ _ s; refine wpAny_bind (wpAny_field ho hd (x := .int n 0) rfl ?_)
  show wpAny _ _ (seqItems? (.ref tt) >>= _) _ _ s; refine wpAny_bind (wpAny_seqItems hol hdl ?_)
  simp only [Int.toNat_natCast, gv]; refine wpAny_bind (wpAny_rule (wpAny_bind (wpAny_setField ho hd (by simp) ?_)))
  show wpAny _ _ (newExc (.type "StopIteration") [] >>= _) _ _ _; refine wpAny_bind ?_
  simp only [newExc, newTuple]; refine wpAny_bind (wpAny_newObj_type ?_ (by size_fits))
  refine wpAny_bind (m := firstArgMember _ _) (wpAny_of_eq (a := Value.none) (by first | rfl | (simp only [firstArgMember]; rfl)) ?_); refine wpAny_newObj_type ?_ (by size_fits)
  simp only [raiseNew]; refine wpAny_bind (wpAny_handled ?_)
  first | rw [show A.in1.handled = none from hh] | rw [hh]
  refine wpAny_bind (wpAny_pure (wpAny_throw ?_)); exact k _ _ (((Heap.SameBut.update ..).extBut.push _).push _) ⟨_, Heap.get?_push_size _ rfl, rfl⟩
end
/-- a list or a tuple as it is walked: its record, and what lies there -/
inductive Sk where | tp | ls
def SkIt (k : Sk) (h : Heap) (it a : Addr) (i : Nat) : Prop := match k with | .tp => h.IsTupleIter it a i | .ls => h.IsListIter it a i
def SkOk (k : Sk) (h : Heap) (a : Addr) (its : Array Value) : Prop := match k with | .tp => h.IsTuple a its | .ls => h.IsList a its
theorem dr_sk {prog : Program} {w : World} {A : Around} (k : Sk) (hh : A.handled = none) (it a : Addr) (ne : a ≠ it) (its : Array Value) : Draws prog w A it [it, a] its.size (fun i v => its[i]? = some v) (fun i h => SkIt k h it a i ∧ SkOk k h a its) := by
  cases k with
  | ls => exact Draws.list hh it a ne its
  | tp =>
    exact { live := fun _ _ st => let ⟨o, ho, _⟩ := st.1; ⟨o, ho⟩, frame := fun _ _ _ st hk => ⟨let ⟨o, ho, r⟩ := st.1; ⟨o, hk it (by simp) o ho, r⟩, let ⟨o, ho, r⟩ := st.2; ⟨o, hk a (by simp) o ho, r⟩⟩, item := fun i s Q E hi st hQ => by
              refine nx_tup st.1 st.2 (v := its[i]) (by simp [hi]) fun h' g hs => ?_
              exact hQ _ h' s.toks (by simp [hi]) ⟨g, let ⟨o, ho, r⟩ := st.2; ⟨o, (hs.2 a ne).trans ho, r⟩⟩ hs
            , done := fun s Q E st hE => nx_tupE hh st.1 st.2 (by simp) hE }
def SkQ (k : Sk) (K : PySem.W.Frag) (H : Hp) (a : Addr) (xs : List V) : Prop := match k with | .tp => SqT K H a xs | .ls => SqL K H a xs
theorem Inv.sk {X : Cx} {pins : List (Addr × Obj)} {σ : St} {H : Hp} {s : Shared} {k : Sk} {a : Addr} {xs : List V} (I : Inv X pins σ H s) (h : SkQ k X.K H a xs) : ∃ its : List Value, Vals xs its ∧ SkOk k s.heap a its.toArray ∧ xs.length ≤ sizeLine := by
  cases k with
  | tp =>
    obtain ⟨its, r, p, z⟩ := I.tuple h
    exact ⟨its, r, p, z⟩
  | ls =>
    obtain ⟨its, r, p, z⟩ := I.list h
    exact ⟨its, r, p.isList, z⟩
theorem Inv.sk_inj {X : Cx} {pins : List (Addr × Obj)} {σ : St} {H : Hp} {s : Shared} {k : Sk} {a : Addr} {xs ys : List V} (I : Inv X pins σ H s) (h : SkQ k X.K H a xs) (h' : SkQ k X.K H a ys) : xs = ys := by
  obtain ⟨its, r, p, _⟩ := I.sk h
  obtain ⟨its2, r2, p2, _⟩ := I.sk h'
  have e : its = its2 := by
    cases k with
    | tp =>
      obtain ⟨o, ho, _, n, hd⟩ := p
      obtain ⟨o2, ho2, _, n2, hd2⟩ := p2
      obtain rfl := Option.some.inj (ho.symm.trans ho2)
      have := hd.symm.trans hd2
      injection this with q
      simpa using q
    | ls =>
      obtain ⟨o, ho, _, n, hd⟩ := p
      obtain ⟨o2, ho2, _, n2, hd2⟩ := p2
      obtain rfl := Option.some.inj (ho.symm.trans ho2)
      have := hd.symm.trans hd2
      injection this with q
      simpa using q
  subst e
  exact Vals.inj r r2
theorem ty_ne {a b : String} (h : a ≠ b) : Value.type a ≠ Value.type b := fun z => h (by injection z)
theorem sk_ne {k : Sk} {h : Heap} {it a : Addr} {i : Nat} {its : Array Value} (g : SkIt k h it a i) (p : SkOk k h a its) : a ≠ it := by
  cases k with
  | tp =>
    obtain ⟨o, ho, hc, _⟩ := g
    obtain ⟨o2, ho2, hc2, _⟩ := p
    rintro rfl
    obtain rfl := Option.some.inj (ho.symm.trans ho2)
    exact ty_ne (by decide) (hc.symm.trans hc2)
  | ls =>
    obtain ⟨o, ho, hc, _⟩ := g
    obtain ⟨o2, ho2, hc2, _⟩ := p
    rintro rfl
    obtain rfl := Option.some.inj (ho.symm.trans ho2)
    exact ty_ne (by decide) (hc.symm.trans hc2)
theorem sk_obj {k : Sk} {h : Heap} {it a : Addr} {i : Nat} (g : SkIt k h it a i) : ∃ o, h.get? it = some o ∧ ∀ v, o.data ≠ .cell v := by
  cases k with
  | tp => obtain ⟨o, ho, hc, hd⟩ := g; exact ⟨o, ho, fun v q => by rw [hd] at q; cases q⟩
  | ls => obtain ⟨o, ho, hc, hd⟩ := g; exact ⟨o, ho, fun v q => by rw [hd] at q; cases q⟩
theorem sk_keep {k : Sk} {h h' : Heap} {it a : Addr} {i : Nat} (g : SkIt k h it a i) (kk : ∀ o, h.get? it = some o → h'.get? it = some o) : SkIt k h' it a i := by
  cases k with
  | tp => obtain ⟨o, ho, r⟩ := g; exact ⟨o, kk o ho, r⟩
  | ls => obtain ⟨o, ho, r⟩ := g; exact ⟨o, kk o ho, r⟩
theorem sk_cls {k : Sk} {h : Heap} {a : Addr} {its : Array Value} {o : Obj} (p : SkOk k h a its) (e : h.get? a = some o) : o.cls = .type "tuple" ∨ o.cls = .type "list" := by
  cases k with
  | tp => obtain ⟨o2, ho, hc, _⟩ := p; obtain rfl := Option.some.inj (e.symm.trans ho); exact .inl hc
  | ls => obtain ⟨o2, ho, hc, _⟩ := p; obtain rfl := Option.some.inj (e.symm.trans ho); exact .inr hc
/-- each thing with its number -/
def ItN (k : Sk) (K : PySem.W.Frag) (a : Addr) : It := ⟨fun i H => ∃ xs x, SkQ k K H a xs ∧ xs[i]? = some x, fun i H v H' => ∃ p, H p = none ∧ v = .ref p ∧ ∀ xs, SkQ k K H a xs → ∃ x, xs[i]? = some x ∧ H' = upd H p (.tup [.int (i : Nat), x]), fun i H => ∃ xs, SkQ k K H a xs ∧ xs.length = i⟩
theorem turn_enumK {P : Program} {w : World} {K : PySem.W.Frag} {es : List Expr} {n : Nat} {pos : Pos} (k : Sk) (e it a : Addr) (hei : e ≠ it) :
    Turn P w K (.Tuple es n pos) (ItN k K a) [e, it] e (fun i h => (∃ old, IsEnum h e it (i : Nat) old) ∧ SkIt k h it a i) where
  mem := by simp
  obj := fun i h st b hb => by
    obtain ⟨⟨old, he⟩, g⟩ := st
    rcases List.mem_cons.mp hb with rfl | hb
    · exact ⟨_, he, fun v q => nomatch (show Data.fields _ = Data.cell v from q)⟩
    · obtain rfl : b = it := by simpa using hb
      exact sk_obj g
  keep := fun i h h' st kk => by
    obtain ⟨⟨old, he⟩, g⟩ := st
    exact ⟨⟨old, kk e (by simp) _ he⟩, sk_keep g fun o => kk it (by simp) o⟩
  item := by
    intro X hP hw hK hc i pins s σ H E I hf st hg
    subst hP hw hK
    obtain ⟨⟨old, he⟩, g⟩ := st
    obtain ⟨xs, x, hq, hx⟩ := hg
    obtain ⟨its, rv, p, hz⟩ := I.sk hq
    obtain ⟨u, hu, ru⟩ := rv.get hx
    have hlt : i < its.toArray.size := by
      rw [List.size_toArray]
      exact (List.getElem?_eq_some_iff.mp hu).1
    have hea : e ≠ a := fun q => by
      rcases sk_cls p (q ▸ he) with z | z
      · exact ty_ne (by decide) z
      · exact ty_ne (by decide) z
    have D := dr_sk (prog := X.prog) (w := X.w) (A := X.A.in1) k (I.ok.hd hc) it a (sk_ne g p) its.toArray
    refine wpAny_pyNext_enum_itemD D he ⟨g, p⟩ hlt hei (by simp [hei, hea]) fun v h1 tk hv ho st1 hT hsz hk => ⟨_, rfl, ?_⟩
    obtain rfl : v = u := by
      have : its.toArray[i]? = some u := by simpa using hu
      exact Option.some.inj (hv.symm.trans this)
    refine wpAny_letOwnedTupleGo_enum ho fun h2 he2 hs2 => ?_
    have hTe : s.heap.objs.size ≠ e := fun q => absurd (Heap.lt_size he) (by rw [← q]; exact Nat.lt_irrefl _)
    refine ⟨.ref s.heap.objs.size, upd H s.heap.objs.size (.tup [.int (i : Nat), x]), I.turnedT (ch := [e, it]) hf (fun b o hb q => ?_) (Nat.le_refl _) ?_, rfl, ⟨_, I.hok.fresh (Nat.le_refl _), rfl, fun ys hy => ⟨x, by rw [I.sk_inj hy hq]; exact hx, rfl⟩⟩, ⟨⟨_, he2⟩, ?_⟩, fun b hb => ?_⟩
    · simp only [List.mem_cons, List.not_mem_nil, or_false, not_or] at hb
      exact (hs2.2 b hb.1).trans (hk b o hb.1 hb.2 q)
    · exact ⟨by show 2 ≤ sizeLine; decide, [.int (i : Nat) tk, v], .cons ⟨_, rfl⟩ (.cons ru .nil), ⟨_, (hs2.2 _ hTe).trans hT, rfl, _, rfl, rfl⟩⟩
    · exact sk_keep st1.1 fun o q => (hs2.2 it hei.symm).trans q
    · have hlt : b < s.heap.objs.size := by
        rcases List.mem_cons.mp hb with q | q
        · rw [q]; exact Heap.lt_size he
        · obtain ⟨o, ho1, _⟩ := sk_obj g
          rw [show b = it by simpa using q]; exact Heap.lt_size ho1
      rw [upd_ne (Nat.ne_of_lt hlt)]
      exact (hf b hb).1
  done := by
    intro X hP hw hK hc i pins s σ H E I hf st hg
    subst hP hw hK
    obtain ⟨⟨old, he⟩, g⟩ := st
    obtain ⟨xs, hq, hx⟩ := hg
    obtain ⟨its, rv, p, hz⟩ := I.sk hq
    have hl := rv.length
    have D := dr_sk (prog := X.prog) (w := X.w) (A := X.A.in1) k (I.ok.hd hc) it a (sk_ne g p) its.toArray
    have hst : SkIt k s.heap it a its.toArray.size ∧ SkOk k s.heap a its.toArray := ⟨by rw [List.size_toArray, ← hl, hx]; exact g, p⟩
    exact wpAny_pyNext_enum_endD D he hst fun h1 eb => ⟨rfl, I.turnedL (t' := s.toks) (ch := [e, it]) hf fun b o hb q => eb b o (fun r => hb (by simp [r])) q⟩
  self := fun _ _ _ _ _ st h => let ⟨⟨_, he⟩, _⟩ := st; wpAny_pyIter_enum he h
abbrev eT1 (h : Heap) (a : Addr) : Heap := h.push { cls := .type "tuple_iterator", data := .fields #[.ref a, .int 0 0] }
abbrev eT2 (h : Heap) (a : Addr) : Heap := (eT1 h a).push { cls := .type "enumerate", data := .fields #[.none, .bool false, .ref h.objs.size, rawInt 0, .none, .none] }
open AutoSeq1 (wpAny_loadPart') in
set_option maxHeartbeats 1000000 in
theorem meets_enT (a : Addr) (its : Array Value) (n : Nat) (dd : Option Addr) (sl : Array (Option Value)) :
    Meets (Builtin.«enumerate.__new__» ⟨[.type "enumerate", .ref a], []⟩) (fun _ R s => s.heap.get? a = some ⟨.type "tuple", dd, .seq its n, sl⟩ ∧ R (.ok (.ret (.ref (eT1 s.heap a).objs.size))) { s with heap := eT2 s.heap a }) :=
  .of_wp fun prog w A R s h => by
    obtain ⟨hp, g, d, tk, os⟩ := s; obtain ⟨hl, h⟩ := h
    have hsub := sub_enumerate
    have hT : Heap.IsTuple (Shared.heap ⟨hp, g, d, tk, os⟩) a its := ⟨_, hl, rfl, n, rfl⟩
    wp_walk using wpAny_loadPart' hl
    refine wpAny_stack_any fun st => wpAny_pure ?_
    split
    · rename_i c _ _ _ _ _
      cases (c == Value.type "enumerate") <;> (wp_walk using wpAny_loadPart' hl, wpAny_pyIter_tuple hT; exact ⟨_, rfl, h⟩)
    · wp_walk using wpAny_loadPart' hl, wpAny_pyIter_tuple hT
      exact ⟨_, rfl, h⟩
theorem call_enT {prog : Program} {w : World} {A : Around} {E : Value → Shared → Prop} {s : Shared} {a : Addr} {its : Array Value} {Q : Value → Shared → Prop} (hT : s.heap.IsTuple a its)
    (h : ∀ h', IsEnum h' (s.heap.objs.size + 1) s.heap.objs.size 0 .none → h'.IsTupleIter s.heap.objs.size a 0 → h'.objs.size = s.heap.objs.size + 2 → (∀ b o, s.heap.get? b = some o → h'.get? b = some o) → Q (.ref (s.heap.objs.size + 1)) { s with heap := h' }) :
    wpAny (model prog w) A (call (.type "enumerate") [.ref a]) Q E s := by
  obtain ⟨⟨c, dd, dt, sl⟩, hl, hc, n, hd⟩ := hT
  replace hc : c = .type "tuple" := hc
  replace hd : dt = .seq its n := hd
  subst hc hd
  refine callType_new F.called_enumerate (by decide) (F.typeCall_enumerate_1 _) (F.newCall_enumerate_1 _) (fun obj => F.args_object_init_2 obj _) F.entry_enumerate_new (meets_enT a its n dd sl) ⟨hl, ?_⟩
  have hz : (eT1 s.heap a).objs.size = s.heap.objs.size + 1 := Heap.size_push ..
  have he : IsEnum (eT2 s.heap a) (eT1 s.heap a).objs.size s.heap.objs.size 0 .none := Heap.get?_push_size _ rfl
  rw [hz] at he
  show _ ∧ _
  rw [hz]
  exact ⟨⟨_, he, rfl⟩, h _ he ⟨_, Heap.get?_push_of_some _ (Heap.get?_push_size _ rfl), rfl, rfl⟩ (by rw [Heap.size_push, hz]) fun b o x => Heap.get?_push_of_some _ (Heap.get?_push_of_some _ x)⟩
theorem call_enK {prog : Program} {w : World} {A : Around} {E : Value → Shared → Prop} {s : Shared} (k : Sk) {a : Addr} {its : Array Value} {Q : Value → Shared → Prop} (p : SkOk k s.heap a its)
    (h : ∀ h', IsEnum h' (s.heap.objs.size + 1) s.heap.objs.size 0 .none → SkIt k h' s.heap.objs.size a 0 → (∀ b o, s.heap.get? b = some o → h'.get? b = some o) → Q (.ref (s.heap.objs.size + 1)) { s with heap := h' }) :
    wpAny (model prog w) A (call (.type "enumerate") [.ref a]) Q E s := by
  cases k with
  | tp => exact call_enT p fun h' h1 h2 _ h4 => h h' h1 h2 h4
  | ls => exact call_enumerate_list p fun h' h1 h2 _ h4 => h h' h1 h2 h4
section
variable {X : Cx}
def iEnumK (k : Sk) (K : PySem.W.Frag) (ta : TA) : TI := fun σ H R => ta σ H fun vs H1 => ∃ a, vs = [.ref a] ∧ (∃ xs, SkQ k K H1 a xs) ∧ R (ItN k K a) H1
theorem pi_enumK (k : Sk) {es : List Expr} {n : Nat} {tp : Pos} {a : Expr} {ta : TA} {p pos : Pos} (hg : Gl X "enumerate") (hm : X.mg "enumerate" = none) (ha : PA X [a] ta) (hs : starEach [a] X.env = [(false, eval a X.env)] := by rfl) :
    PI X (.Tuple es n tp) (.Call (.Name "enumerate" p) [a] [] pos) (iEnumK k X.K ta) := by
  intro pins s σ H R I h
  refine Call_ (ld_blt I hg hm boot_enumerate (PyProof.Rows.callWith_type1 (thn (ha pos pins s σ H _ I h) fun us s1 ⟨vs, H1, I1, r1, aa, e, ⟨xs, hq⟩, q⟩ => ?_) hs rfl))
  subst e
  obtain ⟨u, rfl, rfl⟩ := vals1 r1
  obtain ⟨its, rv, po, hz⟩ := I1.sk hq
  refine call_enK k po fun h1 he hst hk => ?_
  refine wpAny_pyIter_enum (s := { s1 with heap := h1 }) he ?_
  refine ⟨_, [s1.heap.objs.size + 1, s1.heap.objs.size], _, _, H1, rfl, I1.kept (t' := s1.toks) hk, turn_enumK k _ _ aa (Nat.succ_ne_self _), ⟨⟨_, he⟩, hst⟩, fun b hb => ?_, q⟩
  have hb2 : s1.heap.objs.size ≤ b := by
    simp only [List.mem_cons, List.not_mem_nil, or_false] at hb
    rcases hb with rfl | rfl
    · exact Nat.le_succ _
    · exact Nat.le_refl _
  exact I1.fpOk hb2 (I1.hok.fresh hb2)
end
end L2

set_option Elab.async false
set_option linter.all false
set_option maxRecDepth 100000
/-! lists and tuples side by side -/
namespace L2
open PySem PySem.Spec PyProof.Rows
open Builtin Builtin.Str
structure Off (fp : List Addr) (z TO i : Addr) : Prop where
  z : ∀ b ∈ fp, b ≠ z
  o : ∀ b ∈ fp, b ≠ TO
  i : ∀ b ∈ fp, b ≠ i
section
variable {prog : Program} {w : World} {A : Around} {E : Value → Shared → Prop} {s : Shared} {z TI TO i1 i2 : Addr} {k n1 n2 : Nat} {f1 f2 : List Addr} {P1 P2 : Nat → Value → Prop} {S1 S2 : Nat → Heap → Prop} {a b : Value}
theorem dr_frK {i c : Addr} {fp : List Addr} {n : Nat} {P : Nat → Value → Prop} {S : Nat → Heap → Prop} {h h' : Heap} (D : Draws prog w A i fp n P S) (st : S k h) (e : Heap.ExtBut c h h') (ne : ∀ b ∈ fp, b ≠ c) : S k h' :=
  D.frame _ _ _ st fun b hb o q => e _ _ (ne b hb) q
theorem zipK_item {Q : Value → Shared → Prop} (D : Ap5 z TI TO i1 i2) (D1 : Draws prog w A i1 f1 n1 P1 S1) (C1 : Off f1 z TO i2) (D2 : Draws prog w A i2 f2 n2 P2 S2) (C2 : Off f2 z TO i1)
    (hz : IsZip s.heap z TI TO .none) (hTI : IsPair s.heap TI (.ref i1) (.ref i2)) (hTO : IsPair s.heap TO a b) (h1 : S1 k s.heap) (h2 : S2 k s.heap) (hx : k < n1) (hy : k < n2)
    (hQ : ∀ x y h' tk, P1 k x → P2 k y → IsZip h' z TI TO (rawInt s.heap.objs.size) → IsPair h' TO x y → S1 (k + 1) h' → S2 (k + 1) h' → IsPair h' s.heap.objs.size x y → (∀ c o, c ≠ z → c ≠ TO → c ≠ i1 → c ≠ i2 → s.heap.get? c = some o → h'.get? c = some o) → Q (.ref s.heap.objs.size) { s with heap := h', toks := tk }) :
    wpAny (model prog w) A (Builtin.«zip.__next__» ⟨[.ref z], []⟩) (fun fin s' => ∃ v, fin = .done (.ret v) ∧ Q v s') E s := by
  show wpAny _ _ (field (.ref z) 2 >>= _) _ _ _; refine wpAny_bind (wpAny_field hz rfl (x := .bool false) rfl ?_)
  show wpAny _ _ (field (.ref z) 3 >>= _) _ _ _; refine wpAny_bind (wpAny_field hz rfl (x := .ref TI) rfl (wpAny_bind (wpAny_seqItems hTI rfl ?_)))
  show wpAny _ _ (Builtin.SmallTypes.ownedTupleIsFree (.ref z) >>= _) _ _ _; refine wpAny_bind ?_
  unfold Builtin.SmallTypes.ownedTupleIsFree; refine wpAny_bind (wpAny_field hz rfl (x := .none) rfl (wpAny_pure ?_))
  simp only [if_true]; refine wpAny_bind (wpAny_rule (wpAny_bind (wpAny_field hz rfl (x := .ref TO) rfl (wpAny_bind (wpAny_setField_rec hz (by simp) fun h₁ hz₁ hs₁ => ?_)))))
  replace hz₁ : IsZip h₁ z TI TO .ellipsis := hz₁; refine wpAny_bind ?_
  simp only [List.zipIdx_cons, List.zipIdx_nil, List.forIn_cons, List.forIn_nil]; refine wpAny_bind (wpAny_bind (wpAny_onRaise ?_))
  show wpAny _ _ (Builtin.SmallTypes.nextOf (.ref i1) >>= _) _ _ _; refine wpAny_bind (D1.item k _ _ _ hx (dr_frK D1 h1 hs₁.extBut C1.z) fun x h₂ tk2 px h1₂ hs₂ => wpAny_pure ?_)
  have hTO₂ : IsPair h₂ TO a b := hs₂.extBut _ _ D.TOi1 (hs₁.extBut _ _ D.TOz hTO)
  refine wpAny_bind (wpAny_seqItems hTO₂ rfl (wpAny_bind (wpAny_updateSeq_pair hTO₂ fun h₃ hTO₃ hs₃ => ?_)))
  replace hTO₃ : IsPair h₃ TO x b := hTO₃; refine wpAny_bind (wpAny_letGo (wpAny_pure (wpAny_bind (wpAny_bind (wpAny_onRaise ?_)))))
  show wpAny _ _ (Builtin.SmallTypes.nextOf (.ref i2) >>= _) _ _ _
  have e2 : S2 k h₃ := dr_frK D2 (dr_frK D2 (dr_frK D2 h2 hs₁.extBut C2.z) hs₂.extBut C2.i) hs₃.extBut C2.o
  refine wpAny_bind (D2.item k _ _ _ hy e2 fun y h₄ tk4 py h2₄ hs₄ => wpAny_pure ?_)
  have hTO₄ : IsPair h₄ TO x b := hs₄.extBut _ _ D.TOi2 hTO₃
  refine wpAny_bind (wpAny_seqItems hTO₄ rfl (wpAny_bind (wpAny_updateSeq_pair hTO₄ fun h₅ hTO₅ hs₅ => ?_)))
  replace hTO₅ : IsPair h₅ TO x y := hTO₅; refine wpAny_bind (wpAny_letGo (wpAny_pure (wpAny_pure (wpAny_bind (wpAny_seqItems hTO₅ rfl (wpAny_bind (wpAny_newTuple ?_)))))))
  have hs1 := hs₁.1; have hs2 := hs₂.1; have hs3 := hs₃.1; have hs4 := hs₄.1; have hs5 := hs₅.1
  have hsz : h₅.objs.size = s.heap.objs.size := hs5.trans (hs4.trans (hs3.trans (hs2.trans hs1)))
  have hz₅ : IsZip h₅ z TI TO .ellipsis := hs₅.extBut _ _ D.TOz.symm (hs₄.extBut _ _ D.i2z.symm (hs₃.extBut _ _ D.TOz.symm (hs₂.extBut _ _ D.i1z.symm hz₁)))
  have hk₅ : ∀ c o, c ≠ z → c ≠ TO → c ≠ i1 → c ≠ i2 → s.heap.get? c = some o → h₅.get? c = some o := fun c o c1 c2 c3 c4 e => hs₅.extBut _ _ c2 (hs₄.extBut _ _ c4 (hs₃.extBut _ _ c2 (hs₂.extBut _ _ c3 (hs₁.extBut _ _ c1 e))))
  have g1 : S1 (k + 1) h₅ := dr_frK D1 (dr_frK D1 (dr_frK D1 h1₂ hs₃.extBut C1.o) hs₄.extBut C1.i) hs₅.extBut C1.o
  have g2 : S2 (k + 1) h₅ := dr_frK D2 h2₄ hs₅.extBut C2.o
  have hzlt : z < h₅.objs.size := Heap.lt_size hz₅
  show wpAny _ _ (Builtin.SmallTypes.ownedTupleHandOut (.ref z) (.ref h₅.objs.size) >>= _) _ _ _; refine wpAny_bind ?_
  unfold Builtin.SmallTypes.ownedTupleHandOut
  have hz₆ : IsZip (h₅.push { cls := .type "tuple", data := .seq #[x, y] }) z TI TO .ellipsis := Heap.get?_push_of_some _ hz₅
  refine wpAny_bind (wpAny_setField_rec hz₆ (by simp) fun h₇ hz₇ hs₇ => ?_); replace hz₇ : IsZip h₇ z TI TO (rawInt h₅.objs.size) := hz₇
  refine wpAny_setField_rec hz₇ (by simp) fun h₈ hz₈ hs₈ => ?_; replace hz₈ : IsZip h₈ z TI TO (rawInt h₅.objs.size) := hz₈
  have up : ∀ c o, c ≠ z → h₅.get? c = some o → h₈.get? c = some o := fun c o c1 e => hs₈.extBut _ _ c1 (hs₇.extBut _ _ c1 (Heap.get?_push_of_some _ e))
  have hT₈ : IsPair h₈ h₅.objs.size x y := hs₈.extBut _ _ (Nat.ne_of_gt hzlt) (hs₇.extBut _ _ (Nat.ne_of_gt hzlt) (Heap.get?_push_size _ rfl))
  rw [hsz] at hz₈ hT₈; refine wpAny_pure ⟨_, rfl, ?_⟩
  show Q (.ref h₅.objs.size) _; rw [hsz]
  exact hQ x y h₈ _ px py hz₈ (up _ _ D.TOz hTO₅) (D1.frame _ _ _ g1 fun b hb o q => up _ _ (C1.z b hb) q) (D2.frame _ _ _ g2 fun b hb o q => up _ _ (C2.z b hb) q) hT₈ fun c o c1 c2 c3 c4 e => up c o c1 (hk₅ c o c1 c2 c3 c4 e)
theorem zipK_end {Q : Fin → Shared → Prop} (D : Ap5 z TI TO i1 i2) (D1 : Draws prog w A i1 f1 n1 P1 S1) (C1 : Off f1 z TO i2) (D2 : Draws prog w A i2 f2 n2 P2 S2) (C2 : Off f2 z TO i1)
    (hz : IsZip s.heap z TI TO .none) (hTI : IsPair s.heap TI (.ref i1) (.ref i2)) (hTO : IsPair s.heap TO a b) (h1 : S1 k s.heap) (h2 : S2 k s.heap) (hx : k = n1 ∨ (k < n1 ∧ k = n2))
    (hE : ∀ h' e tk, (∀ c o, c ≠ z → c ≠ TO → c ≠ i1 → c ≠ i2 → s.heap.get? c = some o → h'.get? c = some o) → (∃ o, h'.get? e = some o ∧ o.cls = .type "StopIteration") → E (.ref e) { s with heap := h', toks := tk }) :
    wpAny (model prog w) A (Builtin.«zip.__next__» ⟨[.ref z], []⟩) Q E s := by
  show wpAny _ _ (field (.ref z) 2 >>= _) _ _ _; refine wpAny_bind (wpAny_field hz rfl (x := .bool false) rfl ?_)
  show wpAny _ _ (field (.ref z) 3 >>= _) _ _ _; refine wpAny_bind (wpAny_field hz rfl (x := .ref TI) rfl (wpAny_bind (wpAny_seqItems hTI rfl ?_)))
  show wpAny _ _ (Builtin.SmallTypes.ownedTupleIsFree (.ref z) >>= _) _ _ _; refine wpAny_bind ?_
  unfold Builtin.SmallTypes.ownedTupleIsFree; refine wpAny_bind (wpAny_field hz rfl (x := .none) rfl (wpAny_pure ?_))
  simp only [if_true]; refine wpAny_bind (wpAny_rule (wpAny_bind (wpAny_field hz rfl (x := .ref TO) rfl (wpAny_bind (wpAny_setField_rec hz (by simp) fun h₁ hz₁ hs₁ => ?_)))))
  replace hz₁ : IsZip h₁ z TI TO .ellipsis := hz₁; refine wpAny_bind ?_
  simp only [List.zipIdx_cons, List.zipIdx_nil, List.forIn_cons, List.forIn_nil]; refine wpAny_bind (wpAny_bind (wpAny_onRaise ?_))
  show wpAny _ _ (Builtin.SmallTypes.nextOf (.ref i1) >>= _) _ _ _
  rcases hx with e | ⟨hx, e⟩
  · refine wpAny_bind (D1.done _ _ _ (by rw [← e]; exact dr_frK D1 h1 hs₁.extBut C1.z) fun h₂ e hs₂ he => ?_); obtain ⟨oe, hoe, hce⟩ := he
    have hz₂ : IsZip h₂ z TI TO .ellipsis := hs₂ _ _ D.i1z.symm hz₁
    have hez : e ≠ z := fun x => by subst x; rw [hz₂] at hoe; cases hoe; simp at hce
    exact wpAny_setField_rec hz₂ (by simp) fun h₃ _ hs₃ => hE h₃ e _ (fun c o c1 _ c3 _ x => hs₃.extBut _ _ c1 (hs₂ _ _ c3 (hs₁.extBut _ _ c1 x))) ⟨oe, hs₃.extBut _ _ hez hoe, hce⟩
  · refine wpAny_bind (D1.item k _ _ _ hx (dr_frK D1 h1 hs₁.extBut C1.z) fun x h₂ tk2 px h1₂ hs₂ => wpAny_pure ?_)
    have hTO₂ : IsPair h₂ TO a b := hs₂.extBut _ _ D.TOi1 (hs₁.extBut _ _ D.TOz hTO)
    refine wpAny_bind (wpAny_seqItems hTO₂ rfl (wpAny_bind (wpAny_updateSeq_pair hTO₂ fun h₃ hTO₃ hs₃ => wpAny_bind (wpAny_letGo (wpAny_pure (wpAny_bind (wpAny_bind (wpAny_onRaise ?_))))))))
    show wpAny _ _ (Builtin.SmallTypes.nextOf (.ref i2) >>= _) _ _ _
    have e2 : S2 k h₃ := dr_frK D2 (dr_frK D2 (dr_frK D2 h2 hs₁.extBut C2.z) hs₂.extBut C2.i) hs₃.extBut C2.o
    refine wpAny_bind (D2.done _ _ _ (by rw [← e]; exact e2) fun h₄ e hs₄ he => ?_); obtain ⟨oe, hoe, hce⟩ := he
    have hz₄ : IsZip h₄ z TI TO .ellipsis := hs₄ _ _ D.i2z.symm (hs₃.extBut _ _ D.TOz.symm (hs₂.extBut _ _ D.i1z.symm hz₁))
    have hez : e ≠ z := fun x => by subst x; rw [hz₄] at hoe; cases hoe; simp at hce
    exact wpAny_setField_rec hz₄ (by simp) fun h₅ _ hs₅ => hE h₅ e _ (fun c o c1 c2 c3 c4 x => hs₅.extBut _ _ c1 (hs₄ _ _ c4 (hs₃.extBut _ _ c2 (hs₂.extBut _ _ c3 (hs₁.extBut _ _ c1 x))))) ⟨oe, hs₅.extBut _ _ hez hoe, hce⟩
theorem next_zipK {Q : Option Value → Shared → Prop} (D : Ap5 z TI TO i1 i2) (D1 : Draws prog w A.in1 i1 f1 n1 P1 S1) (C1 : Off f1 z TO i2) (D2 : Draws prog w A.in1 i2 f2 n2 P2 S2) (C2 : Off f2 z TO i1)
    (hz : IsZip s.heap z TI TO .none) (hTI : IsPair s.heap TI (.ref i1) (.ref i2)) (hTO : IsPair s.heap TO a b) (h1 : S1 k s.heap) (h2 : S2 k s.heap) (hx : k < n1) (hy : k < n2)
    (hQ : ∀ x y h' tk, P1 k x → P2 k y → IsZip h' z TI TO (rawInt s.heap.objs.size) → IsPair h' TO x y → S1 (k + 1) h' → S2 (k + 1) h' → IsPair h' s.heap.objs.size x y → (∀ c o, c ≠ z → c ≠ TO → c ≠ i1 → c ≠ i2 → s.heap.get? c = some o → h'.get? c = some o) → Q (some (.ref s.heap.objs.size)) { s with heap := h', toks := tk }) :
    wpAny (model prog w) A (pyNext (.ref z)) Q E s := by
  have hT : s.TypeIs (.ref z) "zip" := ⟨_, hz, rfl⟩
  unfold pyNext; exact wpAny_bind (wpAny_attempt (wpAny_callSpecial?_slot (name := Str.ofString "__next__") hT F.slot_zip_next (wpAny_call_entry F.slot_zip_next hT F.entry_zip_next (zipK_item D D1 C1 D2 C2 hz hTI hTO h1 h2 hx hy fun x y h' tk a1 a2 a3 a4 a5 a6 a7 a8 => wpAny_pure (hQ x y h' tk a1 a2 a3 a4 a5 a6 a7 a8)) (F.args_zip_next_1 _))))
theorem end_zipK {Q : Option Value → Shared → Prop} (D : Ap5 z TI TO i1 i2) (D1 : Draws prog w A.in1 i1 f1 n1 P1 S1) (C1 : Off f1 z TO i2) (D2 : Draws prog w A.in1 i2 f2 n2 P2 S2) (C2 : Off f2 z TO i1)
    (hz : IsZip s.heap z TI TO .none) (hTI : IsPair s.heap TI (.ref i1) (.ref i2)) (hTO : IsPair s.heap TO a b) (h1 : S1 k s.heap) (h2 : S2 k s.heap) (hx : k = n1 ∨ (k < n1 ∧ k = n2))
    (hQ : ∀ h' tk, (∀ c o, c ≠ z → c ≠ TO → c ≠ i1 → c ≠ i2 → s.heap.get? c = some o → h'.get? c = some o) → Q none { s with heap := h', toks := tk }) :
    wpAny (model prog w) A (pyNext (.ref z)) Q E s := by
  have hT : s.TypeIs (.ref z) "zip" := ⟨_, hz, rfl⟩
  unfold pyNext; refine wpAny_bind (wpAny_attempt (wpAny_callSpecial?_slot (name := Str.ofString "__next__") hT F.slot_zip_next (wpAny_call_entry F.slot_zip_next hT F.entry_zip_next (zipK_end D D1 C1 D2 C2 hz hTI hTO h1 h2 hx fun h' e tk hk he => ?_) (F.args_zip_next_1 _))))
  obtain ⟨o, ho, hc⟩ := he
  refine wpAny_bind (wpAny_isInstance (T := "StopIteration") (b := true) ⟨o, ho, hc⟩ isSubtype_stop ?_); exact wpAny_pure (hQ _ _ hk)
end
def skT : Sk → String | .tp => "tuple_iterator" | .ls => "list_iterator"
abbrev skO (k : Sk) (a : Addr) : Obj := { cls := .type (skT k), data := .fields #[.ref a, .int 0 0] }
theorem skO_it {k : Sk} {h : Heap} {it a : Addr} (e : h.get? it = some (skO k a)) : SkIt k h it a 0 := by
  cases k with
  | tp => exact ⟨_, e, rfl, rfl⟩
  | ls => exact ⟨_, e, rfl, rfl⟩
theorem SkOk.push {k : Sk} {h : Heap} {a : Addr} {its : Array Value} (p : SkOk k h a its) (o : Obj) : SkOk k (h.push o) a its := by
  cases k with
  | tp => exact Heap.IsTuple.push p o
  | ls => exact Heap.IsList.push p o
theorem iter_sk {prog : Program} {w : World} {A : Around} {E : Value → Shared → Prop} {s : Shared} (k : Sk) {a : Addr} {its : Array Value} {Q : Value → Shared → Prop} (p : SkOk k s.heap a its) (q : Q (.ref s.heap.objs.size) { s with heap := s.heap.push (skO k a) }) : wpAny (model prog w) A (pyIter (.ref a)) Q E s := by
  cases k with
  | tp => exact wpAny_pyIter_tuple p q
  | ls => exact wpAny_pyIter_list p q
abbrev zK1 (h : Heap) (k : Sk) (a : Addr) : Heap := h.push (skO k a)
abbrev zK3 (h : Heap) (k1 k2 : Sk) (a1 a2 : Addr) : Heap := (zK1 (zK1 h k1 a1) k2 a2).push { cls := .type "tuple", data := .seq #[.ref h.objs.size, .ref (zK1 h k1 a1).objs.size] }
abbrev zK4 (h : Heap) (k1 k2 : Sk) (a1 a2 : Addr) : Heap := (zK3 h k1 k2 a1 a2).push { cls := .type "tuple", data := .seq #[.none, .none] }
abbrev zK5 (h : Heap) (k1 k2 : Sk) (a1 a2 : Addr) : Heap := (zK4 h k1 k2 a1 a2).push { cls := .type "zip", data := .fields #[.none, .bool false, .bool false, .ref (zK1 (zK1 h k1 a1) k2 a2).objs.size, .ref (zK3 h k1 k2 a1 a2).objs.size] }
set_option maxHeartbeats 4000000 in
theorem meets_zipK (k1 k2 : Sk) (a1 a2 : Addr) (xs ys : Array Value) : Meets (Builtin.«zip.__new__» ⟨[.type "zip", .ref a1, .ref a2], []⟩) (fun _ R s => SkOk k1 s.heap a1 xs ∧ SkOk k2 s.heap a2 ys ∧ R (.ok (.ret (.ref (zK4 s.heap k1 k2 a1 a2).objs.size))) { s with heap := zK5 s.heap k1 k2 a1 a2 }) :=
  .of_wp fun prog w A R s h => by
    obtain ⟨hp, g, d, tk, os⟩ := s; obtain ⟨h1, h2, h⟩ := h
    have hsub := sub_zip
    have p1 : SkOk k1 (Shared.heap ⟨hp, g, d, tk, os⟩) a1 xs := h1
    have p2 : SkOk k2 (Shared.heap ⟨hp.push (skO k1 a1), g, d, tk, os⟩) a2 ys := SkOk.push h2 _
    wp_walk using iter_sk k1 p1, iter_sk k2 p2
    exact ⟨_, rfl, h⟩
/-- tracked: a list or a tuple of the law's or the program's own -/
def SkR (k : Sk) (H : Hp) (a : Addr) (xs : List V) : Prop := match k with | .tp => Rd H a (.tup xs) | .ls => Rd H a (.lst xs)
theorem SkR.q {k : Sk} {K : PySem.W.Frag} {H : Hp} {a : Addr} {xs : List V} (h : SkR k H a xs) : SkQ k K H a xs := by
  cases k with
  | tp => exact .inl h
  | ls => exact .inl h
theorem SkR.some {k : Sk} {H : Hp} {a : Addr} {xs : List V} (h : SkR k H a xs) : H a ≠ none := by
  cases k with
  | tp => rcases h with h | ⟨o, h⟩ <;> rw [h] <;> exact fun z => nomatch z
  | ls => rcases h with h | ⟨o, h⟩ <;> rw [h] <;> exact fun z => nomatch z
def ItZ (k1 k2 : Sk) (a1 a2 : Addr) : It := ⟨fun i H => ∃ xs ys x y, SkR k1 H a1 xs ∧ SkR k2 H a2 ys ∧ xs[i]? = some x ∧ ys[i]? = some y,
  fun i H v H' => ∃ p, H p = none ∧ v = .ref p ∧ ∀ xs ys, SkR k1 H a1 xs → SkR k2 H a2 ys → ∃ x y, xs[i]? = some x ∧ ys[i]? = some y ∧ H' = upd H p (.tup [x, y]), fun i H => ∃ xs ys, SkR k1 H a1 xs ∧ SkR k2 H a2 ys ∧ i = min xs.length ys.length⟩
def tnK (k1 k2 : Sk) (z TI TO i1 i2 a1 a2 : Addr) (i : Nat) (h : Heap) : Prop := IsZip h z TI TO .none ∧ IsPair h TI (.ref i1) (.ref i2) ∧ (∃ a b, IsPair h TO a b) ∧ SkIt k1 h i1 a1 i ∧ SkIt k2 h i2 a2 i
theorem off_mk {z TI TO i1 i2 a : Addr} {H : Hp} (n1 : H a ≠ none) (hz : H z = none) (hO : H TO = none) (hi : H i2 = none) (e1 : i1 ≠ z) (e2 : i1 ≠ TO) (e3 : i1 ≠ i2) : Off [i1, a] z TO i2 := by
  constructor <;> (intro b hb; simp only [List.mem_cons, List.not_mem_nil, or_false] at hb; rcases hb with rfl | rfl)
  · exact e1
  · exact fun q => n1 (q ▸ hz)
  · exact e2
  · exact fun q => n1 (q ▸ hO)
  · exact e3
  · exact fun q => n1 (q ▸ hi)
theorem turn_zipK {P : Program} {w : World} {K : PySem.W.Frag} {es : List Expr} {n : Nat} {pos : Pos} {z TI TO i1 i2 : Addr} (D : Ap5 z TI TO i1 i2) (k1 k2 : Sk) (a1 a2 : Addr) :
    Turn P w K (.Tuple es n pos) (ItZ k1 k2 a1 a2) [z, TI, TO, i1, i2] z (tnK k1 k2 z TI TO i1 i2 a1 a2) where
  mem := by simp
  obj := fun i h st b hb => by
    obtain ⟨hz, hI, ⟨a, c, hO⟩, g1, g2⟩ := st
    simp only [List.mem_cons, List.not_mem_nil, or_false] at hb
    rcases hb with rfl | rfl | rfl | rfl | rfl
    · exact ⟨_, hz, fun v q => nomatch (show Data.fields _ = Data.cell v from q)⟩
    · exact ⟨_, hI, fun v q => nomatch (show Data.seq _ _ = Data.cell v from q)⟩
    · exact ⟨_, hO, fun v q => nomatch (show Data.seq _ _ = Data.cell v from q)⟩
    · exact sk_obj g1
    · exact sk_obj g2
  keep := fun i h h' st kk => by
    obtain ⟨hz, hI, ⟨a, c, hO⟩, g1, g2⟩ := st
    exact ⟨kk _ (by simp) _ hz, kk _ (by simp) _ hI, ⟨a, c, kk _ (by simp) _ hO⟩, sk_keep g1 fun o => kk _ (by simp) o, sk_keep g2 fun o => kk _ (by simp) o⟩
  item := by
    intro X hP hw hK hc i pins s σ H E I hf st hg
    subst hP hw hK
    obtain ⟨hz, hI, ⟨a, c, hO⟩, g1, g2⟩ := st
    obtain ⟨xs, ys, x, y, hq1, hq2, hx, hy⟩ := hg
    obtain ⟨its1, rv1, o1, _⟩ := I.sk (hq1.q (K := X.K))
    obtain ⟨its2, rv2, o2, _⟩ := I.sk (hq2.q (K := X.K))
    obtain ⟨u1, hu1, ru1⟩ := rv1.get hx
    obtain ⟨u2, hu2, ru2⟩ := rv2.get hy
    have l1 : i < its1.toArray.size := by rw [List.size_toArray]; exact (List.getElem?_eq_some_iff.mp hu1).1
    have l2 : i < its2.toArray.size := by rw [List.size_toArray]; exact (List.getElem?_eq_some_iff.mp hu2).1
    have Hz := (hf z (by simp)).1
    have HO := (hf TO (by simp)).1
    have H1 := (hf i1 (by simp)).1
    have H2 := (hf i2 (by simp)).1
    have D1 := dr_sk (prog := X.prog) (w := X.w) (A := X.A.in1) k1 (I.ok.hd hc) i1 a1 (sk_ne g1 o1) its1.toArray
    have D2 := dr_sk (prog := X.prog) (w := X.w) (A := X.A.in1) k2 (I.ok.hd hc) i2 a2 (sk_ne g2 o2) its2.toArray
    refine next_zipK D D1 (off_mk (TI := TI) hq1.some Hz HO H2 D.i1z D.TOi1.symm D.i12) D2 (off_mk (TI := TI) hq2.some Hz HO H1 D.i2z D.TOi2.symm D.i12.symm) hz hI hO ⟨g1, o1⟩ ⟨g2, o2⟩ l1 l2 fun v1 v2 h1 tk p1 p2 hz1 hO1 q1 q2 hT hk => ⟨_, rfl, ?_⟩
    obtain rfl : v1 = u1 := Option.some.inj (p1.symm.trans (by simpa using hu1))
    obtain rfl : v2 = u2 := Option.some.inj (p2.symm.trans (by simpa using hu2))
    refine wpAny_letOwnedTupleGo_zip hz1 fun h2 hz2 hs2 => ?_
    have up : ∀ b o, b ≠ z → h1.get? b = some o → h2.get? b = some o := fun b o hb q => (hs2.2 b hb).trans q
    have hlt : ∀ b ∈ [z, TI, TO, i1, i2], b < s.heap.objs.size := fun b hb => by
      simp only [List.mem_cons, List.not_mem_nil, or_false] at hb
      rcases hb with rfl | rfl | rfl | rfl | rfl
      · exact Heap.lt_size hz
      · exact Heap.lt_size hI
      · exact Heap.lt_size hO
      · obtain ⟨o, g, _⟩ := sk_obj g1; exact Heap.lt_size g
      · obtain ⟨o, g, _⟩ := sk_obj g2; exact Heap.lt_size g
    refine ⟨.ref s.heap.objs.size, upd H s.heap.objs.size (.tup [x, y]), I.turnedT (ch := [z, TI, TO, i1, i2]) hf (fun b o hb q => ?_) (Nat.le_refl _) ?_, rfl, ⟨_, I.hok.fresh (Nat.le_refl _), rfl, fun xs' ys' e1 e2 => ⟨x, y, by rw [I.sk_inj (e1.q (K := X.K)) hq1.q]; exact hx, by rw [I.sk_inj (e2.q (K := X.K)) hq2.q]; exact hy, rfl⟩⟩, ⟨hz2, up _ _ D.TIz (hk _ _ D.TIz D.TITO D.TIi1 D.TIi2 hI), ⟨_, _, up _ _ D.TOz hO1⟩, sk_keep q1.1 fun o g => up _ _ D.i1z g, sk_keep q2.1 fun o g => up _ _ D.i2z g⟩, fun b hb => ?_⟩
    · simp only [List.mem_cons, List.not_mem_nil, or_false, not_or] at hb
      exact up b o hb.1 (hk b o hb.1 hb.2.2.1 hb.2.2.2.1 hb.2.2.2.2 q)
    · exact ⟨by show 2 ≤ sizeLine; decide, [v1, v2], .cons ru1 (.cons ru2 .nil), ⟨_, up _ _ (Nat.ne_of_gt (hlt z (by simp))) hT, rfl, _, rfl, rfl⟩⟩
    · rw [upd_ne (Nat.ne_of_lt (hlt b hb))]; exact (hf b hb).1
  done := by
    intro X hP hw hK hc i pins s σ H E I hf st hg
    subst hP hw hK
    obtain ⟨hz, hI, ⟨a, c, hO⟩, g1, g2⟩ := st
    obtain ⟨xs, ys, hq1, hq2, hi⟩ := hg
    obtain ⟨its1, rv1, o1, _⟩ := I.sk (hq1.q (K := X.K))
    obtain ⟨its2, rv2, o2, _⟩ := I.sk (hq2.q (K := X.K))
    have e1 := rv1.length
    have e2 := rv2.length
    have Hz := (hf z (by simp)).1
    have HO := (hf TO (by simp)).1
    have H1 := (hf i1 (by simp)).1
    have H2 := (hf i2 (by simp)).1
    have D1 := dr_sk (prog := X.prog) (w := X.w) (A := X.A.in1) k1 (I.ok.hd hc) i1 a1 (sk_ne g1 o1) its1.toArray
    have D2 := dr_sk (prog := X.prog) (w := X.w) (A := X.A.in1) k2 (I.ok.hd hc) i2 a2 (sk_ne g2 o2) its2.toArray
    refine end_zipK D D1 (off_mk (TI := TI) hq1.some Hz HO H2 D.i1z D.TOi1.symm D.i12) D2 (off_mk (TI := TI) hq2.some Hz HO H1 D.i2z D.TOi2.symm D.i12.symm) hz hI hO (k := i) ⟨g1, o1⟩ ⟨g2, o2⟩ (by rw [List.size_toArray, List.size_toArray]; omega) fun h' tk hk => ⟨rfl, I.turnedL (ch := [z, TI, TO, i1, i2]) hf fun b o hb q => ?_⟩
    simp only [List.mem_cons, List.not_mem_nil, or_false, not_or] at hb
    exact hk b o hb.1 hb.2.2.1 hb.2.2.2.1 hb.2.2.2.2 q
  self := fun _ _ _ _ _ st h => wpAny_pyIter_zip st.1 h
theorem call_zipK {prog : Program} {w : World} {A : Around} {E : Value → Shared → Prop} {s : Shared} {k1 k2 : Sk} {a1 a2 : Addr} {xs ys : Array Value} {Q : Value → Shared → Prop} (h1 : SkOk k1 s.heap a1 xs) (h2 : SkOk k2 s.heap a2 ys)
    (h : ∀ h' z TI TO i1 i2, Ap5 z TI TO i1 i2 → tnK k1 k2 z TI TO i1 i2 a1 a2 0 h' → (∀ b ∈ [z, TI, TO, i1, i2], s.heap.objs.size ≤ b) → (∀ c o, s.heap.get? c = some o → h'.get? c = some o) → Q (.ref z) { s with heap := h' }) :
    wpAny (model prog w) A (call (.type "zip") [.ref a1, .ref a2]) Q E s := by
  refine callType_new F.called_zip (by decide) (F.typeCall_zip_2 _ _) (F.newCall_zip_2 _ _) (fun obj => F.args_object_init_3 obj _ _) F.entry_zip_new (meets_zipK k1 k2 a1 a2 xs ys) ⟨h1, h2, ?_⟩
  have z1 : (zK1 s.heap k1 a1).objs.size = s.heap.objs.size + 1 := Heap.size_push ..
  have z2 : (zK1 (zK1 s.heap k1 a1) k2 a2).objs.size = s.heap.objs.size + 2 := (Heap.size_push ..).trans (by rw [z1])
  have z3 : (zK3 s.heap k1 k2 a1 a2).objs.size = s.heap.objs.size + 3 := (Heap.size_push ..).trans (by rw [z2])
  have z4 : (zK4 s.heap k1 k2 a1 a2).objs.size = s.heap.objs.size + 4 := (Heap.size_push ..).trans (by rw [z3])
  have g5 : (zK5 s.heap k1 k2 a1 a2).get? (zK4 s.heap k1 k2 a1 a2).objs.size = some _ := Heap.get?_push_size _ rfl
  have g4 : (zK5 s.heap k1 k2 a1 a2).get? (zK3 s.heap k1 k2 a1 a2).objs.size = some _ := Heap.get?_push_of_some _ (Heap.get?_push_size _ rfl)
  have g3 : (zK5 s.heap k1 k2 a1 a2).get? (zK1 (zK1 s.heap k1 a1) k2 a2).objs.size = some _ := Heap.get?_push_of_some _ (Heap.get?_push_of_some _ (Heap.get?_push_size _ rfl))
  have g2 : (zK5 s.heap k1 k2 a1 a2).get? (zK1 s.heap k1 a1).objs.size = some _ := Heap.get?_push_of_some _ (Heap.get?_push_of_some _ (Heap.get?_push_of_some _ (Heap.get?_push_size _ rfl)))
  have g1 : (zK5 s.heap k1 k2 a1 a2).get? s.heap.objs.size = some _ := Heap.get?_push_of_some _ (Heap.get?_push_of_some _ (Heap.get?_push_of_some _ (Heap.get?_push_of_some _ (Heap.get?_push_size _ rfl))))
  have D : Ap5 (zK4 s.heap k1 k2 a1 a2).objs.size (zK1 (zK1 s.heap k1 a1) k2 a2).objs.size (zK3 s.heap k1 k2 a1 a2).objs.size s.heap.objs.size (zK1 s.heap k1 a1).objs.size := by
    generalize (zK4 s.heap k1 k2 a1 a2).objs.size = e4 at z4 ⊢; generalize (zK3 s.heap k1 k2 a1 a2).objs.size = e3 at z3 ⊢; generalize (zK1 (zK1 s.heap k1 a1) k2 a2).objs.size = e2 at z2 ⊢; generalize (zK1 s.heap k1 a1).objs.size = e1 at z1 ⊢; generalize s.heap.objs.size = e0 at *
    constructor <;> (intro q; replace q : @Eq Nat _ _ := q; omega)
  refine ⟨⟨_, g5, rfl⟩, h _ _ _ _ _ _ D ⟨g5, g3, ⟨_, _, g4⟩, ?_, ?_⟩ ?_ fun c o q => Heap.get?_push_of_some _ (Heap.get?_push_of_some _ (Heap.get?_push_of_some _ (Heap.get?_push_of_some _ (Heap.get?_push_of_some _ q))))⟩
  · exact skO_it g1
  · exact skO_it g2
  · intro b hb
    simp only [List.mem_cons, List.not_mem_nil, or_false] at hb
    rcases hb with q | q | q | q | q
    · exact Nat.le_trans (Nat.le_add_right _ 4) (Nat.le_of_eq (z4.symm.trans q.symm))
    · exact Nat.le_trans (Nat.le_add_right _ 2) (Nat.le_of_eq (z2.symm.trans q.symm))
    · exact Nat.le_trans (Nat.le_add_right _ 3) (Nat.le_of_eq (z3.symm.trans q.symm))
    · exact Nat.le_of_eq q.symm
    · exact Nat.le_trans (Nat.le_add_right _ 1) (Nat.le_of_eq (z1.symm.trans q.symm))
section
variable {X : Cx}
def iZipK (k1 k2 : Sk) (ta : TA) : TI := fun σ H R => ta σ H fun vs H1 => ∃ a1 a2, vs = [.ref a1, .ref a2] ∧ (∃ xs, SkR k1 H1 a1 xs) ∧ (∃ ys, SkR k2 H1 a2 ys) ∧ R (ItZ k1 k2 a1 a2) H1
theorem pi_zipK (k1 k2 : Sk) {es : List Expr} {n : Nat} {tp : Pos} {a b : Expr} {ta : TA} {p pos : Pos} (hg : Gl X "zip") (hm : X.mg "zip" = none) (ha : PA X [a, b] ta) (hs : starEach [a, b] X.env = [(false, eval a X.env), (false, eval b X.env)] := by rfl) (hs2 : starEach [b] X.env = [(false, eval b X.env)] := by rfl) :
    PI X (.Tuple es n tp) (.Call (.Name "zip" p) [a, b] [] pos) (iZipK k1 k2 ta) := by
  intro pins s σ H R I h
  refine Call_ (ld_blt I hg hm boot_zip (PyProof.Rows.callWith_type1 (thn (ha pos pins s σ H _ I h) fun us s1 ⟨vs, H1, I1, r1, a1, a2, e, ⟨xs, hq1⟩, ⟨ys, hq2⟩, q⟩ => ?_) (by rw [hs, hs2]) (by rw [hs2]; rfl)))
  subst e
  obtain ⟨v, w, rfl, rfl, rfl⟩ := vals2 r1
  obtain ⟨its1, rv1, o1, _⟩ := I1.sk (hq1.q (K := X.K))
  obtain ⟨its2, rv2, o2, _⟩ := I1.sk (hq2.q (K := X.K))
  refine call_zipK o1 o2 fun h1 z TI TO i1 i2 D st nw hk => ?_
  refine wpAny_pyIter_zip (s := { s1 with heap := h1 }) st.1 ?_
  exact ⟨_, [z, TI, TO, i1, i2], _, _, H1, rfl, I1.kept (t' := s1.toks) hk, turn_zipK D k1 k2 a1 a2, st, fun b hb => I1.fpOk (nw b hb) (I1.hok.fresh (nw b hb)), q⟩
end
end L2

set_option Elab.async false
set_option linter.all false
set_option maxRecDepth 100000
/-! a comprehension over two texts side by side -/
namespace L2
open PySem PySem.Spec PyProof.Rows
end L2

set_option Elab.async false
set_option linter.all false
set_option maxRecDepth 100000
/-! walks of a known length, told once for all of them -/
namespace L2
open PySem PySem.Spec PyProof.Rows
structure Fix (J : It) (n : Nat) (Ok : Hp → Prop) (item : Nat → Hp → V → Hp → Prop) : Prop where
  go : ∀ i H, Ok H → i < n → J.go i H
  stop : ∀ H, Ok H → J.stop n H
  yld : ∀ i H v H', Ok H → i < n → J.yld i H v H' → item i H v H'
section
variable {J : It} {n : Nat} {Ok : Hp → Prop} {item : Nat → Hp → V → Hp → Prop}
theorem for_fix {g : TG} {tb : TS} {D : Ends} {σ : St} {H : Hp} (F : Fix J n Ok item) (Pv : Nat → St → Hp → Prop) (h0 : Pv 0 σ H) (ho : ∀ i σ H, i ≤ n → Pv i σ H → Ok H)
    (hs : ∀ i v σ H H', i < n → Pv i σ H → item i H v H' → g v σ H' fun σ2 H2 => tb { D with nx := Pv (i + 1), ct := Pv (i + 1), bk := D.nx } σ2 H2) (hd : ∀ σ H, Pv n σ H → D.nx σ H) :
    ∃ W : Nat → Nat → St → Hp → Prop, (∃ m, W 0 m σ H) ∧ ∀ i m σ H, W i m σ H →
      (J.stop i H ∧ D.nx σ H) ∨ (J.go i H ∧ ∃ N : St → Hp → Prop, (∀ σ' H', N σ' H' → ∃ m', m' < m ∧ W (i + 1) m' σ' H') ∧ ∀ x H', J.yld i H x H' → g x σ H' fun σ2 H2 => tb { D with nx := N, ct := N, bk := D.nx } σ2 H2) := by
  refine ⟨fun i m σ H => m = n - i ∧ i ≤ n ∧ Pv i σ H, ⟨n, by simp, Nat.zero_le _, h0⟩, ?_⟩
  rintro i m σ H ⟨rfl, hi, p⟩
  have ok := ho i σ H hi p
  by_cases hlt : i < n
  · exact .inr ⟨F.go i H ok hlt, Pv (i + 1), fun σ' H' p' => ⟨n - (i + 1), by omega, rfl, hlt, p'⟩, fun x H' y => hs i x σ H H' hlt p (F.yld i H x H' ok hlt y)⟩
  · have e : i = n := by omega
    subst e
    exact .inl ⟨F.stop H ok, hd σ H p⟩
theorem comp_fix {NB : List Str} {wi : TI} {g : TG} {tt : TT} {te : TE} {Q : VK} {σ : St} {H : Hp} (F : Fix J n Ok item) (Pv : Nat → List V → Hp → Prop) (h : ∀ R : It → Hp → Prop, (∀ H1, Pv 0 [] H1 → R J H1) → wi σ H R) (ho : ∀ i vs H, i ≤ n → Pv i vs H → Ok H ∧ vs.length ≤ i)
    (hs : ∀ i v vs H H', i < n → Pv i vs H → item i H v H' → g v (List.replicate NB.length none) H' fun σ2 H2 => tt σ2 H2 fun b H3 => if b = true then te σ2 H3 fun v H4 => Pv (i + 1) (vs ++ [v]) H4 else Pv (i + 1) vs H3)
    (hd : ∀ vs H, Pv n vs H → ∀ p, H p = none → Q (.ref p) (upd H p (.lst vs))) (hz : n < sizeLine) : tComp NB wi g tt te σ H Q := by
  refine h _ fun H1 h0 => ⟨fun i m vs H => m = n - i ∧ i ≤ n ∧ Pv i vs H, ⟨n, by simp, Nat.zero_le _, h0⟩, ?_⟩
  rintro i m vs H ⟨rfl, hi, p⟩
  obtain ⟨ok, hv⟩ := ho i vs H hi p
  by_cases hlt : i < n
  · exact .inr ⟨F.go i H ok hlt, by omega, Pv (i + 1), fun vs' H' p' => ⟨n - (i + 1), by omega, rfl, hlt, p'⟩, fun x H' y => hs i x vs H H' hlt p (F.yld i H x H' ok hlt y)⟩
  · have e : i = n := by omega
    subst e
    exact .inl ⟨F.stop H ok, hd vs H p⟩
theorem compF_fix {nn : Nat} {fi : List Nat} {fv : List V} {wi : TI} {g : TG} {tt : TT} {te : TE} {Q : VK} {σ : St} {H : Hp} (F : Fix J n Ok item) (Pv : Nat → List V → Hp → Prop) (h : ∀ R : It → Hp → Prop, (∀ H1, Pv 0 [] H1 → R J H1) → wi σ H R) (hfv : fi.map (fun i => σ[i]?) = fv.map (fun v => some (some v))) (ho : ∀ i vs H, i ≤ n → Pv i vs H → Ok H ∧ vs.length ≤ i)
    (hs : ∀ i v vs H H', i < n → Pv i vs H → item i H v H' → g v (List.replicate nn none ++ fv.map some) H' fun σ2 H2 => σ2.drop nn = fv.map some ∧ tt σ2 H2 fun b H3 => if b = true then te σ2 H3 fun v H4 => Pv (i + 1) (vs ++ [v]) H4 else Pv (i + 1) vs H3)
    (hd : ∀ vs H, Pv n vs H → ∀ p, H p = none → Q (.ref p) (upd H p (.lst vs))) (hz : n < sizeLine) : tCompF nn fi wi g tt te σ H Q := by
  refine h _ fun H1 h0 => ⟨fv, hfv, fun i m vs H => m = n - i ∧ i ≤ n ∧ Pv i vs H, ⟨n, by simp, Nat.zero_le _, h0⟩, ?_⟩
  rintro i m vs H ⟨rfl, hi, p⟩
  obtain ⟨ok, hv⟩ := ho i vs H hi p
  by_cases hlt : i < n
  · exact .inr ⟨F.go i H ok hlt, by omega, Pv (i + 1), fun vs' H' p' => ⟨n - (i + 1), by omega, rfl, hlt, p'⟩, fun x H' y => hs i x vs H H' hlt p (F.yld i H x H' ok hlt y)⟩
  · have e : i = n := by omega
    subst e
    exact .inl ⟨F.stop H ok, hd vs H p⟩
end
theorem at_lt {xs : List V} {i : Nat} (h : i < xs.length) : ∃ x, xs[i]? = some x := ⟨_, List.getElem?_eq_getElem h⟩
theorem fixT {K : PySem.W.Frag} {a : Addr} {xs : List V} : Fix (Itt K a) xs.length (fun H => SqT K H a xs) (fun i H v H' => H' = H ∧ xs[i]? = some v) :=
  ⟨fun i H ok h => let ⟨x, e⟩ := at_lt h; ⟨xs, x, ok, e⟩, fun H ok => ⟨xs, ok, Nat.le_refl _⟩, fun i H v H' ok _ y => ⟨y.1, y.2 _ ok⟩⟩
theorem fixL {K : PySem.W.Frag} {a : Addr} {xs : List V} : Fix (Itl K a) xs.length (fun H => SqL K H a xs) (fun i H v H' => H' = H ∧ xs[i]? = some v) :=
  ⟨fun i H ok h => let ⟨x, e⟩ := at_lt h; ⟨xs, x, ok, e⟩, fun H ok => ⟨xs, ok, Nat.le_refl _⟩, fun i H v H' ok _ y => ⟨y.1, y.2 _ ok⟩⟩
theorem fixR {lo : Int} {n : Nat} : Fix (Itr lo n) n (fun _ => True) (fun i H v H' => H' = H ∧ v = .int (lo + i)) := ⟨fun i H _ h => h, fun H _ => Nat.le_refl _, fun i H v H' _ _ y => y⟩
theorem fixN {k : Sk} {K : PySem.W.Frag} {a : Addr} {xs : List V} : Fix (ItN k K a) xs.length (fun H => SkQ k K H a xs) (fun i H v H' => ∃ p x, H p = none ∧ v = .ref p ∧ xs[i]? = some x ∧ H' = upd H p (.tup [.int (i : Nat), x])) :=
  ⟨fun i H ok h => let ⟨x, e⟩ := at_lt h; ⟨xs, x, ok, e⟩, fun H ok => ⟨xs, ok, rfl⟩, fun i H v H' ok _ ⟨p, hp, e, y⟩ => let ⟨x, h1, h2⟩ := y xs ok; ⟨p, x, hp, e, h1, h2⟩⟩
theorem fixZ {k1 k2 : Sk} {a1 a2 : Addr} {xs ys : List V} : Fix (ItZ k1 k2 a1 a2) (min xs.length ys.length) (fun H => SkR k1 H a1 xs ∧ SkR k2 H a2 ys) (fun i H v H' => ∃ p x y, H p = none ∧ v = .ref p ∧ xs[i]? = some x ∧ ys[i]? = some y ∧ H' = upd H p (.tup [x, y])) :=
  ⟨fun i H ok h => let ⟨x, e⟩ := at_lt (xs := xs) (by omega); let ⟨y, e2⟩ := at_lt (xs := ys) (by omega); ⟨xs, ys, x, y, ok.1, ok.2, e, e2⟩, fun H ok => ⟨xs, ys, ok.1, ok.2, rfl⟩, fun i H v H' ok _ ⟨p, hp, e, q⟩ => let ⟨x, y, h1, h2, h3⟩ := q xs ys ok.1 ok.2; ⟨p, x, y, hp, e, h1, h2, h3⟩⟩
end L2

set_option Elab.async false
set_option linter.all false
set_option maxRecDepth 100000
/-! all(list), set(texts), tuple.index -/
namespace L2
open PySem PySem.Spec PyProof.Rows
section
variable {X : Cx}
end
/-- each text once, as they come -/
def put1 (l : List Str) (x : Str) : List Str := if l.any (· == x) then l else l ++ [x]
def met (f : Nat → Str) : Nat → List Str
  | 0 => []
  | i + 1 => put1 (met f i) (f i)
section
variable {prog : Program} {w : World} {A : Around} {R : Result → Shared → Prop} {J : Addr} {fp wr : List Addr} {G : Array GenState → Array GenState → Prop} {n : Nat} {P : Nat → Value → Prop} {St : Nat → Shared → Prop}
end
end L2

set_option Elab.async false
set_option linter.all false
set_option maxRecDepth 100000
namespace L2
open PySem PySem.Spec PyProof.Rows
section
variable {X : Cx} {pins : List (Addr × Obj)} {σ : List (Option V)} {H : Hp} {s : Shared} {h' : Heap}
end
/-- how many texts there are, each counted once -/
def many (ys : List Str) : Nat := (met (fun i => ys.getD i "") ys.length).length
section
variable {X : Cx}
end
end L2

set_option Elab.async false
set_option linter.all false
set_option maxRecDepth 100000
namespace L2
open PySem PySem.Spec PyProof.Rows
open AutoSeq1 (wpAny_loadPart')
theorem tup_indexAt (l : Addr) (its : Array Value) (n : Nat) (dd : Option Addr) (sl : Array (Option Value)) (x : Value) (e : Value → Bool) (j : Nat) (hj : j < its.size) (hit : e its[j] = true) (hno : ∀ m (hm : m < its.size), m < j → e its[m] = false) :
    Meets (Builtin.«tuple.index» ⟨[.ref l, x], []⟩) (fun A R s => s.heap.get? l = some ⟨.type "tuple", dd, .seq its n, sl⟩ ∧ (∀ y, y ∈ its → SeqAt.EqAt A.in1 s y x (e y)) ∧ R (.ok (.ret (.int j s.toks))) { s with toks := s.toks + 1 }) :=
  .of_wp fun prog w A R s h => by
    obtain ⟨hp, g, d, tk, os⟩ := s; obtain ⟨hl, he, h⟩ := h
    unfold Builtin.«tuple.index»
    simp only [Std.Legacy.Range.forIn_eq_forIn_range']
    wp_walk using wpAny_loadPart' hl, wpAny_forIn_list _ (fun rest b s' => b = (none, ()) ∧ s' = ⟨hp, g, d, tk, os⟩ ∧ ∃ i, i ≤ j ∧ rest = (List.range' 0 its.size).drop i) _
    case turn =>
      rintro y rest b s' ⟨rfl, rfl, i, hij, hz⟩
      have hlt : i < (List.range' 0 its.size).length := by rw [List.length_range']; omega
      rw [List.drop_eq_getElem_cons hlt] at hz
      injection hz with hy hrest
      obtain rfl : y = i := by rw [hy, List.getElem_range']; omega
      have hy2 : y < its.size := by omega
      rw [Array.getElem?_eq_getElem hy2]
      refine wpAny_bind (he its[y] (Array.getElem_mem hy2) prog w _ _ ?_)
      by_cases hyj : y = j
      · subst hyj
        rw [hit]
        wp_walk
        exact ⟨_, rfl, h⟩
      · rw [hno y hy2 (by omega)]
        wp_walk
        exact ⟨rfl, rfl, y + 1, by omega, hrest⟩
    case fin =>
      rintro b s' ⟨rfl, rfl, i, hij, hz⟩
      have hlt : i < (List.range' 0 its.size).length := by rw [List.length_range']; omega
      rw [List.drop_eq_getElem_cons hlt] at hz
      cases hz
    case h =>
      refine ⟨rfl, rfl, 0, Nat.zero_le _, ?_⟩
      rw [List.drop_zero]
      congr 1
      simp
theorem flat_strs (ys : List Str) : (ys.map V.str).all flatV = true := by
  rw [List.all_eq_true]
  intro x hx
  obtain ⟨y, _, rfl⟩ := List.mem_map.mp hx
  rfl
section
variable {X : Cx}
theorem mt_tindex : MtR X "tuple.index" (fun x vs H Q => ∃ (l : Addr) (ys : List Str) (y : Str) (j : Nat), x = .ref l ∧ vs = [.str y] ∧ SqT X.K H l (ys.map V.str) ∧ ys[j]? = some y ∧ (∀ i, i < j → ys[i]? ≠ some y) ∧ Q (.int (j : Nat)) H) := by
  intro pins s σ H x vs v us Q I rx rv h
  obtain ⟨l, ys, y, j, rfl, rfl, hq, hj, hno, q⟩ := h
  obtain rfl : v = Value.ref l := rx
  obtain ⟨u, rfl, ru⟩ := vals1 rv
  obtain ⟨its, r, p, hl⟩ := I.tuple hq
  obtain ⟨⟨c, dd, dt, sl⟩, e, hc, n, hd⟩ := p
  replace hc : c = .type "tuple" := hc
  replace hd : dt = .seq its.toArray n := hd
  subst hc hd
  have fs := flat_strs ys
  have hlen := r.length
  rw [List.length_map] at hlen
  have hj2 : j < ys.length := (List.getElem?_eq_some_iff.mp hj).1
  have at_ : ∀ (i : Nat) (hi : i < its.toArray.size) (w : Str), ys[i]? = some w → eqU (.str y) its.toArray[i] = eqV (.str w) (.str y) := fun i hi w hw => by
    obtain ⟨w', e1, q1⟩ := r.get (i := i) (x := .str w) (by rw [List.getElem?_map, hw]; rfl)
    have hi' : i < its.length := by simpa using hi
    rw [List.getElem?_eq_getElem hi'] at e1
    have z1 : its.toArray[i] = w' := by simpa using Option.some.inj e1
    rw [z1]
    exact eqU_of q1 rfl
  have hsz : its.toArray.size = ys.length := by rw [List.size_toArray]; exact hlen.symm
  refine call_meets PySem.F.slot_tuple_index ⟨_, e, rfl⟩ PySem.F.entry_tuple_index (PySem.F.args_tuple_index_2 _ _) (tup_indexAt l its.toArray n dd sl u (eqU (.str y)) j (by omega) ?_ ?_) ⟨e, fun w hw => mem_eqAt ru rfl r fs w (by simpa using hw), ⟨.int _, H, I.tok _, ⟨_, rfl⟩, q⟩⟩
  · rw [at_ j (by omega) y hj]
    show eqV (.str y) (.str y) = true
    simp [eqV]
  · intro m hm hlt
    have h1 : ys[m]? = some ys[m] := List.getElem?_eq_getElem (by omega)
    rw [at_ m hm _ h1]
    have : ys[m] ≠ y := fun z => hno m hlt (by rw [h1, z])
    show eqV (.str ys[m]) (.str y) = false
    simp [eqV, this]
end
end L2

set_option Elab.async false
set_option linter.all false
set_option maxRecDepth 100000
/-! ranges that go down: range(i, j, -1), reversed(range(i, j)) -/
namespace L2
open PySem PySem.Spec PyProof.Rows
theorem fixR3 {lo c : Int} {n : Nat} : Fix (Itr3 lo c n) n (fun _ => True) (fun i H v H' => H' = H ∧ v = .int (lo + i * c)) := ⟨fun i H _ h => h, fun H _ => Nat.le_refl _, fun i H v H' _ _ y => y⟩
section
variable {X : Cx} {tg : Expr}
end
section
variable {prog : Program} {w : World} {A : Around} {E : Value → Shared → Prop} {s : Shared}
theorem sub_ri_reversed : isSubtype (.type "range_iterator") (.type "reversed") = pure false := by rw [isSubtype_type]; kernel_rfl
abbrev rvO (i j : Int) : Obj := { cls := .type "range_iterator", data := .fields #[rawInt (i + (Builtin.Range.rangeSize i j 1 - 1) * 1), rawInt (Builtin.Range.rangeSize i j 1), rawInt (-1)] }
theorem rng_rev {r : Addr} {i j : Int} {t u v : Tok} {Q : Value → Shared → Prop} (hr : IsRange s.heap r i j 1 t u v) (b : -(2 ^ 40) ≤ i ∧ i < 2 ^ 40 ∧ -(2 ^ 40) ≤ j ∧ j < 2 ^ 40)
    (q : Q (.ref s.heap.objs.size) { s with heap := s.heap.push (rvO i j) }) : wpAny (model prog w) A (call (.builtin "range.__reversed__") [.ref r]) Q E s := by
  have hT : s.TypeIs (.ref r) "range" := ⟨_, hr, rfl⟩
  refine wpAny_call_entry F.slot_range_reversed hT F.entry_range_reversed ?_ (F.args_range_reversed_1 _)
  have hf : ∀ x : Int, -(2 ^ 41) ≤ x → x ≤ 2 ^ 41 → Builtin.Range.rangeFitsLong x = true := fun x h1 h2 => by
    unfold Builtin.Range.rangeFitsLong
    rw [decide_eq_true (show -(2 ^ 63) ≤ x by omega), decide_eq_true (show x < 2 ^ 63 by omega)]
    rfl
  have hn : 0 ≤ Builtin.Range.rangeSize i j 1 ∧ Builtin.Range.rangeSize i j 1 ≤ 2 ^ 41 := by
    unfold Builtin.Range.rangeSize
    rw [if_pos (by decide)]
    split
    · rw [Int.ediv_one]; omega
    · omega
  unfold Builtin.«range.__reversed__»
  refine wpAny_bind (wpAny_of_eq (a := Value.ref r) rfl ?_)
  unfold Builtin.Range.rangeFields
  refine wpAny_bind (wpAny_bind (wpAny_field hr rfl (x := .int i t) rfl ?_)); refine wpAny_bind (wpAny_of_eq (a := some i) rfl ?_)
  refine wpAny_bind (wpAny_field hr rfl (x := .int j u) rfl ?_); refine wpAny_bind (wpAny_of_eq (a := some j) rfl ?_)
  refine wpAny_bind (wpAny_field hr rfl (x := .int 1 v) rfl ?_); refine wpAny_bind (wpAny_of_eq (a := some 1) rfl (wpAny_pure ?_))
  dsimp only
  rw [hf i (by omega) (by omega), hf j (by omega) (by omega), hf 1 (by decide) (by decide), hf (-1) (by decide) (by decide), hf (i - 1) (by omega) (by omega), hf (Builtin.Range.rangeSize i j 1) (by omega) (by omega)]
  exact wpAny_bind (wpAny_newObj_type (wpAny_pure ⟨_, rfl, q⟩))
theorem code_rev_rng {r : Addr} {i j : Int} {t u v : Tok} {Q₁ : Value → Shared → Prop} (hr : IsRange s.heap r i j 1 t u v) (b : -(2 ^ 40) ≤ i ∧ i < 2 ^ 40 ∧ -(2 ^ 40) ≤ j ∧ j < 2 ^ 40)
    (q : Q₁ (.ref s.heap.objs.size) { s with heap := s.heap.push (rvO i j) }) : codeAny (model prog w) A (.call (.builtin "reversed.__new__") ⟨[.type "reversed", .ref r], []⟩) (wants Q₁ E) s := by
  have hT : s.TypeIs (.ref r) "range" := ⟨_, hr, rfl⟩
  refine codeAny_of_tree ?_
  show wpAny _ A.in1 (do checkBuiltinCall "reversed.__new__" ⟨[.type "reversed", .ref r], []⟩; again (.builtin "reversed.__new__" ⟨[.type "reversed", .ref r], []⟩)) _ _ s
  refine wpAny_bind (wpAny_of_eq (F.newCall_reversed_1 _) (wpAny_pure ⟨plainId_quiet F.plain_reversed_new _, codeAny_builtin F.entry_reversed_new ?_⟩)); rw [Around.under_plainId F.plain_reversed_new _]
  unfold Builtin.«reversed.__new__»; refine wpAny_bind (wpAny_of_eq (newClass_reversed _) ?_)
  try dsimp only
  refine wpAny_bind (wpAny_of_eq (a := ()) (by first | rfl | kernel_rfl) ?_); refine wpAny_bind (wpAny_of_eq (a := ()) (by first | rfl | kernel_rfl) ?_)
  try dsimp only
  refine wpAny_bind (wpAny_specialOf hT F.slot_range_reversed.lookup ?_)
  try dsimp only
  refine wpAny_bind (wpAny_of_eq (F.slot_range_reversed.bind _) ?_)
  try dsimp only
  first
  | rw [if_neg (show ¬ ((Value.builtin "range.__reversed__" == Value.none) = true) from Bool.false_ne_true)]
  | (show wpAny _ _ (if (Value.builtin "range.__reversed__" == Value.none) = true then _ else _) _ _ _; rw [if_neg (show ¬ ((Value.builtin "range.__reversed__" == Value.none) = true) from Bool.false_ne_true)])
  refine wpAny_bind (wpAny_rule ?_)
  refine wpAny_bind (m := runValue (.call (.builtin "range.__reversed__") ⟨[.ref r], []⟩)) (show wpAny _ _ (call (.builtin "range.__reversed__") [.ref r]) _ _ _ from rng_rev hr b ?_)
  first
  | exact wpAny_pure q
  | exact wpAny_bind (wpAny_pure (wpAny_pure q))
theorem call_rev_rng {r : Addr} {i j : Int} {t u v : Tok} {Q : Value → Shared → Prop} (hr : IsRange s.heap r i j 1 t u v) (b : -(2 ^ 40) ≤ i ∧ i < 2 ^ 40 ∧ -(2 ^ 40) ≤ j ∧ j < 2 ^ 40)
    (q : Q (.ref s.heap.objs.size) { s with heap := s.heap.push (rvO i j) }) : wpAny (model prog w) A (call (.type "reversed") [.ref r]) Q E s := by
  refine callType_other (U := "range_iterator") (Q₁ := fun obj s₁ => obj = .ref s.heap.objs.size ∧ s₁ = { s with heap := s.heap.push (rvO i j) }) (by decide +kernel) F.create_reversed ⟨_, _, F.mro_reversed⟩ F.made_reversed sub_ri_reversed (F.typeCall_reversed_1 _) (code_rev_rng hr b ⟨rfl, rfl⟩) ?_
  rintro obj s₁ ⟨rfl, rfl⟩
  exact ⟨⟨_, Heap.get?_push_size _ rfl, rfl⟩, q⟩
end
section
variable {X : Cx} {tg : Expr}
def iRev (ta : TA) : TI := fun σ H R => ta σ H fun vs H1 => ∃ i j : Int, vs = [.int i, .int j] ∧ (-(2 ^ 40) ≤ i ∧ i < 2 ^ 40 ∧ -(2 ^ 40) ≤ j ∧ j < 2 ^ 40) ∧ R (Itr3 (i + ((j - i).toNat : Nat) - 1) (-1) (j - i).toNat) H1
theorem size_up (i j : Int) : Builtin.Range.rangeSize i j 1 = (((j - i).toNat : Nat) : Int) := by
  unfold Builtin.Range.rangeSize
  rw [if_pos (by decide)]
  split <;> simp <;> omega
theorem pi_rev {a b : Expr} {ta : TA} {p p2 pos pos2 : Pos} (hc : X.calm = true) (hg : Gl X "reversed") (hm : X.mg "reversed" = none) (hg2 : Gl X "range") (hm2 : X.mg "range" = none) (ha : PA X [a, b] ta) (hs : starEach [a, b] X.env = [(false, eval a X.env), (false, eval b X.env)] := by rfl) (hs2 : starEach [b] X.env = [(false, eval b X.env)] := by rfl)
    (hs3 : starEach [.Call (.Name "range" p2) [a, b] [] pos2] X.env = [(false, eval (.Call (.Name "range" p2) [a, b] [] pos2) X.env)] := by rfl) : PI X tg (.Call (.Name "reversed" p) [.Call (.Name "range" p2) [a, b] [] pos2] [] pos) (iRev ta) := by
  intro pins s σ H R I h
  refine Call_ (ld_blt I hg hm boot_reversed (PyProof.Rows.callWith_type1 ?_ hs3 rfl))
  rw [hs3]
  show wpAny _ _ (spliced ((false, eval (.Call (.Name "range" p2) [a, b] [] pos2) X.env) :: [])) _ _ s
  refine Calls.spliced_cons ?_
  refine Call_ (ld_blt I hg2 hm2 boot_range (PyProof.Rows.callWith_type1 (thn (ha pos2 pins s σ H _ I h) fun us s1 ⟨vs, H1, I1, r1, i, j, e, bd, q⟩ => ?_) (by rw [hs, hs2]) (by rw [hs2]; rfl)))
  subst e
  obtain ⟨v1, v2, rfl, ⟨t, rfl⟩, u, rfl⟩ := vals2 r1
  refine call_range_2 (Calls.spliced_nil ?_)
  have I2 : Inv X pins σ H1 { s1 with heap := s1.heap.push { cls := .type "range", data := .fields #[.int i t, .int j u, .int 1 s1.toks] }, toks := s1.toks + 1 } := I1.kept fun b o e => Heap.get?_push_of_some _ e
  refine call_rev_rng (s := { s1 with heap := s1.heap.push { cls := .type "range", data := .fields #[.int i t, .int j u, .int 1 s1.toks] }, toks := s1.toks + 1 }) (IsRange.new ..) bd ?_
  generalize hS2 : ({ s1 with heap := s1.heap.push { cls := .type "range", data := .fields #[.int i t, .int j u, .int 1 s1.toks] }, toks := s1.toks + 1 } : Shared) = s2 at I2
  have hit : IsRangeIter (s2.heap.push (rvO i j)) s2.heap.objs.size (i + ((j - i).toNat : Nat) - 1 + ((0 : Nat) : Int) * (-1)) ((((j - i).toNat : Nat) : Int) - ((0 : Nat) : Int)) (-1) := by
    have e1 : i + ((j - i).toNat : Nat) - 1 + ((0 : Nat) : Int) * (-1) = i + (Builtin.Range.rangeSize i j 1 - 1) * 1 := by rw [size_up]; simp; omega
    have e2 : (((j - i).toNat : Nat) : Int) - ((0 : Nat) : Int) = Builtin.Range.rangeSize i j 1 := by rw [size_up]; simp
    rw [e1, e2]
    exact Heap.get?_push_size _ rfl
  refine wpAny_pyIter_rangeiter (s := { s2 with heap := s2.heap.push (rvO i j) }) hit ?_
  refine ⟨s2.heap.objs.size, [s2.heap.objs.size], _, _, H1, rfl, I2.kept (t' := s2.toks) fun b o e => Heap.get?_push_of_some _ e, turn_range3 _ _ (-1) _, hit, fun b hb => ?_, q⟩
  obtain rfl : b = s2.heap.objs.size := by simpa using hb
  exact I2.fpOk (Nat.le_refl _) (I2.hok.fresh (Nat.le_refl _))
end
end L2

set_option Elab.async false
set_option linter.all false
set_option maxRecDepth 100000
/-! xs[a:] = ys, texts compared, d[..] as a target, things within things that stay -/
namespace L2
open PySem PySem.Spec PyProof.Rows
section
variable {prog : Program} {w : World} {A : Around} {E : Value → Shared → Prop} {s : Shared}
theorem bounds_open {a c n : Nat} (hac : a ≤ c) (hc : c = n) : sliceBounds (some (a : Int)) none none n = ((a : Int), (c : Int), 1) := by
  subst hc
  simp only [sliceBounds, Option.getD_none]
  have h1 : ¬ ((a : Int) < 0) := by omega
  simp only [h1, if_false, show (1 : Int) > 0 by decide, if_true]
  congr 1
  omega
set_option maxRecDepth 100000 in
/-- list.__setitem__ with a slice that has no end, and another list -/
theorem setItem_open {l b sl : Addr} {items new : Array Value} {n n2 : Nat} {vl vu : Value} {a c : Nat} {Q : Unit → Shared → Prop}
    (e : s.heap.get? l = some { cls := .type "list", data := .seq items n }) (e2 : s.heap.get? b = some { cls := .type "list", data := .seq new n2 }) (hne : l ≠ b)
    (hs : s.heap.IsSliceOf sl vl vu .none) (pl : IsPart vl (some (a : Int))) (pu : IsPart vu none) (hac : a ≤ c) (hc : c = items.size)
    (hsz : items.size + new.size ≤ sizeLine) (h : Q () { s with heap := s.heap.update l (Obj.mapSeq fun xs => xs.extract 0 a ++ new ++ xs.extract c xs.size) }) :
    wpAny (model prog w) A (setItem (.ref l) (.ref sl) (.ref b)) Q E s := by
  have hl : s.heap.IsList l items := PySem.IsL.isList e
  have hb : s.heap.IsList b new := PySem.IsL.isList e2
  obtain ⟨os, hos, hcs, hds⟩ := id hs
  have hTs : s.TypeIs (.ref sl) "slice" := ⟨os, hos, hcs⟩
  have hstep : ¬ ((rawPart none == rawInt 0) = true) := Bool.false_ne_true
  have hsame : Builtin.List.listSameRef (.ref l) (.ref b) = false := by
    unfold Builtin.List.listSameRef
    exact beq_eq_false_iff_ne.mpr hne
  have hmax : (max (a : Int) (c : Int)).toNat = c := by omega
  have hz' : ((fun xs : Array Value => xs.extract 0 a ++ new ++ xs.extract c xs.size) items).size ≤ sizeLine + 1 := by
    simp only [Array.size_append, Array.size_extract]
    omega
  unfold setItem
  try with_reducible refine wpAny_holding ?_
  first | refine wpAny_bind (wpAny_pure ?_) | skip
  refine wpAny_bind (wpAny_sequenceKey hl.typeIs (by decide) ?_)
  refine wpAny_bind (wpAny_callSpecial?_slot (name := Str.ofString "__setitem__") hl.typeIs slot_list_setitem
    (wpAny_call_entry slot_list_setitem hl.typeIs entry_list_setitem ?_ (args_list_setitem _ _ _)))
  show wpAny _ _ (Builtin.List.listSubscript? (.ref sl) >>= _) _ _ s
  refine wpAny_bind ?_
  unfold Builtin.List.listSubscript?
  refine wpAny_bind (wpAny_specialOf hTs slice_no_index ?_)
  simp only [Option.isNone_none, if_true]
  refine wpAny_pure ?_
  show wpAny _ _ (typeOf (.ref sl) >>= _) _ _ s
  refine wpAny_bind (wpAny_typeOf hTs ?_)
  first
    | rw [if_neg (by decide)]
    | refine PySem.W.KFB.if_not (by decide) ?_
  rw [listSliceParts_eq]
  refine wpAny_bind (wpAny_bind (wpAny_field hos hds (x := .none) rfl (wpAny_bind (wpAny_listPart .none ?_))))
  rw [if_neg hstep]
  refine wpAny_bind (wpAny_field hos hds (x := vl) rfl (wpAny_bind (wpAny_listPart pl ?_)))
  refine wpAny_bind (wpAny_field hos hds (x := vu) rfl (wpAny_bind (wpAny_listPart pu (wpAny_pure ?_))))
  first
    | simp only [hsame, Bool.false_eq_true, if_false]
    | refine PySem.W.KFB.if_not hsame ?_
    | (dsimp only
       rw [if_neg (by rw [hsame]; exact Bool.false_ne_true)])
  refine wpAny_bind (m := Builtin.List.listAllItems (.ref b) "must assign iterable to extended slice") ?_
  unfold Builtin.List.listAllItems
  refine wpAny_bind (wpAny_typeOf hb.typeIs ?_)
  first
    | refine PySem.W.KFB.if_so (by decide) ?_
    | rw [if_pos (by decide)]
    | simp only [beq_self_eq_true, Bool.true_or, if_true]
  unfold Builtin.List.listItems
  refine wpAny_bind (wpAny_seqItems e2 rfl (wpAny_pure ?_))
  refine wpAny_bind (wpAny_bind (wpAny_seqItems e rfl (wpAny_pure ?_)))
  refine wpAny_bind (wpAny_of_eq ((sliceIndices_raw (some (a : Int)) none none items.size (by simp)).trans (congrArg (pure : Int × Int × Int → Sem (Int × Int × Int)) (bounds_open hac hc))) ?_)
  show wpAny _ _ (if ((1 : Int) == 1) = true then _ else _) _ _ s
  rw [if_pos (by decide)]
  refine wpAny_bind (wpAny_rule ?_)
  first
    | simp only [notLongL hsz, Bool.false_eq_true, if_false]
    | refine PySem.W.KFB.if_not (notLongL hsz) ?_
  first | refine wpAny_bind (wpAny_pure ?_) | skip
  show wpAny _ _ (updateSeq l (fun xs => xs.extract 0 ((a : Int)).toNat ++ new ++ xs.extract (max (a : Int) (c : Int)).toNat xs.size) >>= _) _ _ s
  rw [hmax, Int.toNat_natCast]
  refine wpAny_bind (wpAny_updateSeq (hz := Nat.le_trans (Nat.le_add_right _ _) hsz) (_hz' := hz') e rfl ?_)
  refine wpAny_bind (wpAny_letGo ?_)
  first
    | exact wpAny_bind (wpAny_pure (wpAny_pure ⟨.none, rfl, wpAny_pure h⟩))
    | exact wpAny_pure ⟨.none, rfl, wpAny_pure h⟩
end
section
variable {X : Cx}
theorem set_open {pins : List (Addr × Obj)} {s : Shared} {σ : St} {H : Hp} {l b sl : Addr} {xs ys : List V} {a : Nat} {vl vu : Value} {Q : Unit → Shared → Prop} (I : Inv X pins σ H s)
    (hH : H l = some (.lst xs)) (hB : H b = some (.lst ys)) (hne : l ≠ b) (hs : s.heap.IsSliceOf sl vl vu .none) (pl : IsPart vl (some (a : Int))) (pu : IsPart vu none) (hac : a ≤ xs.length) (hz : xs.length + ys.length ≤ sizeLine) (h : ∀ s', Inv X pins σ (upd H l (.lst (xs.take a ++ ys))) s' → Q () s') :
    wpAny (model X.prog X.w) X.A (setItem (.ref l) (.ref sl) (.ref b)) Q X.xe s := by
  obtain ⟨z, its, n, r, hl, e⟩ := I.lstM hH
  obtain ⟨z2, its2, n2, r2, hl2, e2⟩ := I.lstM hB
  refine setItem_open (a := a) (c := its.length) e e2 hne hs pl pu (by omega) (by rw [List.size_toArray]) (by rw [List.size_toArray, List.size_toArray]; omega) (h _ ?_)
  refine I.lset (its' := its.take a ++ its2 ++ its.drop its.length) (t' := s.toks) hH e ?_ ?_ ?_
  · exact splice_eq its its2 a its.length
  · rw [List.drop_length, List.append_nil]
    exact Vals.append (r.take _) r2
  · rw [List.length_append, List.length_take]
    omega
/-- xs[a:] = value -/
def sOpen (to : TE) (tl : TO) (tv : TE) : TS := fun D σ H => tv σ H fun v H1 => to σ H1 fun x H2 => tl σ H2 fun y H3 => ∃ (l b : Addr) (xs ys : List V) (a : Nat), x = .ref l ∧ v = .ref b ∧ y = some ((a : Nat) : Int) ∧ H3 l = some (.lst xs) ∧ H3 b = some (.lst ys) ∧ l ≠ b ∧ a ≤ xs.length ∧ xs.length + ys.length ≤ sizeLine ∧ D.nx σ (upd H3 l (.lst (xs.take a ++ ys)))
theorem ps_open {o value : Expr} {lo : Option Expr} {to tv : TE} {tl : TO} {p2 pos' pos : Pos} (ho : PE X o to) (hl : PO X lo tl) (hv : PE X value tv) (hs : swapsWith value (some (.Subscript o (.Slice lo none none p2) pos')) pos.line X.env = pure false) :
    PS X (.Assign [.Subscript o (.Slice lo none none p2) pos'] value pos) (sOpen to tl tv) := by
  intro pins s σ H D I h
  refine wpAny_Assign_Subscript (thn (hv pins s σ H _ I h) fun r s1 ⟨v, H1, I1, rv, q1⟩ => thn (ho pins s1 σ H1 _ I1 q1) fun u s2 ⟨x, H2, I2, rx, q2⟩ => ?_) hs
  refine wpAny_Slice (thn (hl pins s2 σ H2 _ I2 q2) fun vl s3 ⟨lo, H3, I3, pl, l, b, xs, ys, a, ex, ev, elo, hL, hB, ne, hac, hz, q3⟩ => ?_)
  subst ex ev elo
  obtain rfl : u = Value.ref l := rx
  obtain rfl : r = Value.ref b := rv
  rw [evalPart_none]
  refine wpAny_pure (wpAny_pure ?_)
  have I4 : Inv X pins σ H3 { s3 with heap := s3.heap.push { cls := .type "slice", data := .fields #[vl, .none, .none] } } := I3.kept (t' := s3.toks) fun b ob q => Heap.get?_push_of_some _ q
  exact set_open I4 hL hB ne (Heap.IsSliceOf.new ..) pl .none hac hz fun s5 I5 => ⟨σ, _, I5, q3⟩
def rSetD : TSet := fun o i v H Q => ∃ a H4, o = .ref a ∧ DPut H a i v H4 ∧ Q H4
theorem set_dict (hu : X.A.units + 1 < cLine) : PSet X rSetD := by
  intro pins s σ H o i v ov iv u Q I ro ri rv h
  obtain ⟨a, H4, rfl, g, q⟩ := h
  cases ro
  exact d_setItem hu I g ri rv fun s4 I4 => ⟨H4, I4, q⟩
end
/-! what is deep stays while lists and dicts change -/
theorem Deep.updL {H : Hp} {l : Addr} {o o' : HO} {v : V} {d : Dv} (h : Deep H v d) (e : H l = some o) (n1 : ∀ ys, o ≠ .tup ys) : Deep (upd H l o') v d :=
  h.keep (fun b ys q => by rw [upd_ne (ne_of q e fun z => n1 ys z.symm)]; exact q)
theorem Deeps.updL {H : Hp} {l : Addr} {o o' : HO} {v : List V} {d : List Dv} (h : Deeps H v d) (e : H l = some o) (n1 : ∀ ys, o ≠ .tup ys) : Deeps (upd H l o') v d :=
  h.keep (fun b ys q => by rw [upd_ne (ne_of q e fun z => n1 ys z.symm)]; exact q)
theorem Deep.str' {H : Hp} {v : V} {x : Str} (h : Deep H v (.str x)) : v = .str x := by cases h; rfl
theorem Deep.int' {H : Hp} {v : V} {i : Int} (h : Deep H v (.int i)) : v = .int i := by cases h; rfl
theorem Deep.tup' {H : Hp} {v : V} {ds : List Dv} (h : Deep H v (.tup ds)) : ∃ a xs, v = .ref a ∧ H a = some (.tup xs) ∧ Deeps H xs ds := by cases h with | tup h t => exact ⟨_, _, rfl, h, t⟩
/-- texts in a tuple -/
def txD (ys : List Str) : List Dv := ys.map Dv.str
theorem Deeps.strs {H : Hp} : ∀ {xs : List V} {ys : List Str}, Deeps H xs (txD ys) → xs = ys.map V.str
  | _, [], .nil => rfl
  | _, y :: ys, .cons h t => by
    obtain rfl := h.str'
    rw [Deeps.strs (ys := ys) t]
    rfl
theorem Deeps.of_strs {H : Hp} : ∀ (ys : List Str), Deeps H (ys.map V.str) (txD ys)
  | [] => .nil
  | y :: ys => .cons .str (Deeps.of_strs ys)
theorem hd_of {A : Around} {k : Nat} (hr : Room k A) : A.units + 8 < cLine := Nat.lt_of_le_of_lt (by omega : A.units + 8 ≤ A.units + 64) hr.units
/-! rules in a block: the written part by hand -/
section
variable {X : Cx} {K0 : PySem.W.Frag}
end
end L2

set_option Elab.async false
set_option linter.all false
set_option maxRecDepth 100000
/-! tuples: the whole cut out, the empty one ahead; rules that do not name the written part -/
namespace L2
open PySem PySem.Spec PyProof.Rows
open AutoSeq1 (wpAny_loadPart')
section
variable {prog : Program} {w : World} {A : Around} {E : Value → Shared → Prop} {s : Shared}
theorem tup_add0 (t b : Addr) (ys : Array Value) (n n2 : Nat) (dd dd2 : Option Addr) (sl sl2 : Array (Option Value)) :
    Meets (Builtin.«tuple.__add__» ⟨[.ref t, .ref b], []⟩) (fun _ R s => s.heap.get? t = some ⟨.type "tuple", dd, .seq #[] n, sl⟩ ∧ s.heap.get? b = some ⟨.type "tuple", dd2, .seq ys n2, sl2⟩ ∧ R (.ok (.ret (.ref b))) s) :=
  .of_wp fun prog w A R s h => by
    obtain ⟨hp, g, d, tk, os⟩ := s; obtain ⟨hl, hb, h⟩ := h
    have f2 := AutoSeq1.sub_tuple_tuple
    wp_walk using wpAny_loadPart' hl, wpAny_loadPart' hb
    exact ⟨_, rfl, h⟩
theorem cat_tup0 {t b : Addr} {ws : List Value} {Q : Value → Shared → Prop} (ht : IsTup s.heap t #[]) (hb : IsTup s.heap b ws.toArray) (q : Q (.ref b) s) : wpAny (model prog w) A (binaryOp .Add (.ref t) (.ref b)) Q E s := by
  obtain ⟨⟨cls, dd, data, sl⟩, ho, hc, n, hd⟩ := id ht
  obtain ⟨⟨cls2, dd2, data2, sl2⟩, ho2, hc2, n2, hd2⟩ := id hb
  simp only at hc hd hc2 hd2
  subst hc hd hc2 hd2
  exact concat_meets ⟨_, ho, rfl⟩ ⟨_, ho2, rfl⟩ noFill_tuple_add seq_tuple_add PySem.F.slot_tuple_add PySem.F.entry_tuple_add (PySem.F.args_tuple_add_2 _ _) (tup_add0 t b ws.toArray n n2 dd dd2 sl sl2) ⟨ho, ho2, q⟩
open HT in
theorem tup_whole {t sl : Addr} {its : Array Value} {vl vu : Value} {lo hi : Option Int} {Q : Value → Shared → Prop} (ht : IsTup s.heap t its) (hs : s.heap.IsSliceOf sl vl vu .none) (pl : IsPart vl lo) (pu : IsPart vu hi) (hw : sIx its.size 0 lo = 0 ∧ sIx its.size its.size hi = its.size) (q : Q (.ref t) s) :
    wpAny (model prog w) A (getItem (.ref t) (.ref sl)) Q E s := by
  obtain ⟨os, hos, hcs, hds⟩ := id hs
  have hTs : s.TypeIs (.ref sl) "slice" := ⟨os, hos, hcs⟩
  unfold getItem
  try with_reducible refine wpAny_holding ?_
  first | refine wpAny_bind (wpAny_pure ?_) | skip
  refine wpAny_bind (wpAny_sequenceKey ht.typeIs (by decide) ?_)
  refine wpAny_bind (wpAny_callSpecial?_slot (name := Str.ofString "__getitem__") ht.typeIs PyProof.Rows.slot_tuple_getitem (wpAny_call_entry PyProof.Rows.slot_tuple_getitem ht.typeIs entry_tuple_getitem ?_ (args_tuple_getitem _ _)))
  show wpAny _ _ (Builtin.Tuple.tupleItemsOf (.ref t) >>= _) _ _ s; refine wpAny_bind (tupleItemsOf_ ht ?_)
  refine wpAny_bind (wpAny_typeOf hTs ?_); rw [if_pos (by decide)]; refine wpAny_bind (sliceApplied_gen hs pl pu ?_)
  rw [hw.1, hw.2]
  show wpAny _ _ (if (((0 : Nat) : Int) == 0 && (1 : Int) == 1 && (its.size - 0) == its.size) = true then _ else _) _ _ s; rw [if_pos (by simp)]
  obtain ⟨⟨cls, dd, data, sl'⟩, ho, hc, n, hd⟩ := id ht
  simp only at hc hd
  subst hc hd
  wp_walk using wpAny_loadPart' ho
  exact ⟨_, rfl, wpAny_pure q⟩
end
section
variable {X : Cx}
theorem op_catT0 : OpR X (binaryOp .Add) (fun x y H Q => ∃ a b ys, x = .ref a ∧ y = .ref b ∧ Rd H a (.tup []) ∧ Rd H b (.tup ys) ∧ Q (.ref b) H) := by
  intro pins s σ H x y v u Q I rx ry h
  obtain ⟨a, b, ys, rfl, rfl, ha, hb, q⟩ := h
  cases rx
  cases ry
  obtain ⟨its, r1, p1, _⟩ := I.tuple (.inl ha)
  obtain ⟨its2, r2, p2, _⟩ := I.tuple (.inl hb)
  obtain rfl : its = [] := r1.nil_iff.mpr rfl
  exact cat_tup0 p1 p2 ⟨.ref b, H, I, rfl, q⟩
/-- t + u, whatever they hold -/
def rCatR : R2 := fun x y H Q => ∃ a b xs ys, x = .ref a ∧ y = .ref b ∧ Rd H a (.tup xs) ∧ Rd H b (.tup ys) ∧ xs.length + ys.length ≤ sizeLine ∧ (xs = [] → Q (.ref b) H) ∧ (xs ≠ [] → ys = [] → Q (.ref a) H) ∧ (xs ≠ [] → ys ≠ [] → ∀ p, H p = none → Q (.ref p) (upd H p (.tup (xs ++ ys))))
theorem op_catR : OpR X (binaryOp .Add) rCatR := by
  intro pins s σ H x y v u Q I rx ry h
  obtain ⟨a, b, xs, ys, rfl, rfl, ha, hb, hz, q0, q1, q2⟩ := h
  by_cases hx : xs = []
  · subst hx
    exact op_catT0 pins s σ H _ _ v u Q I rx ry ⟨a, b, ys, rfl, rfl, ha, hb, q0 rfl⟩
  · exact op_catT pins s σ H _ _ v u Q I rx ry ⟨a, b, xs, ys, rfl, rfl, .inl ha, .inl hb, hx, hz, q1 hx, q2 hx⟩
/-- so it is told deep -/
theorem rCatR.deep {x y : V} {H : Hp} {Q : VK} {ds es : List Dv} (hx : Deep H x (.tup ds)) (hy : Deep H y (.tup es)) (hz : ds.length + es.length ≤ sizeLine) (k : ∀ v H', Same H H' → Deep H' v (.tup (ds ++ es)) → Q v H') : rCatR x y H Q := by
  obtain ⟨a, xs, rfl, h1, t1⟩ := hx.tup'
  obtain ⟨b, ys, rfl, h2, t2⟩ := hy.tup'
  have l1 := t1.length
  have l2 := t2.length
  refine ⟨a, b, xs, ys, rfl, rfl, .inl h1, .inl h2, by omega, fun z => ?_, fun _ z => ?_, fun _ _ p hp => ?_⟩
  · subst z
    obtain rfl : ds = [] := List.length_eq_zero_iff.mp l1.symm
    exact k _ _ (Same.refl _) hy
  · subst z
    obtain rfl : es = [] := List.length_eq_zero_iff.mp l2.symm
    rw [List.append_nil] at k
    exact k _ _ (Same.refl _) hx
  · have S := Same.new (o := .tup (xs ++ ys)) hp
    exact k _ _ S (.tup upd_same ((t1.same S).append (t2.same S)))
theorem ix_tupR : IxR X (fun x y H Q => ∃ p xs i v, x = .ref p ∧ y = .int i ∧ Rd H p (.tup xs) ∧ atI xs i = some v ∧ Q v H) := fun value slice pins s σ H x y v u Q I rx ry ⟨p, xs, i, z, e1, e2, hq, he, q⟩ hs => ix_tup value slice pins s σ H x y v u Q I rx ry ⟨p, xs, i, z, e1, e2, .inl hq, he, q⟩ hs
theorem ix_listR : IxR X (fun x y H Q => ∃ p xs i v, x = .ref p ∧ y = .int i ∧ Rd H p (.lst xs) ∧ atI xs i = some v ∧ Q v H) := fun value slice pins s σ H x y v u Q I rx ry ⟨p, xs, i, z, e1, e2, hq, he, q⟩ hs => ix_list value slice pins s σ H x y v u Q I rx ry ⟨p, xs, i, z, e1, e2, .inl hq, he, q⟩ hs
/-- t[lo:hi] -/
def rSlR : V → Option Int → Option Int → Hp → VK → Prop := fun x lo hi H Q => ∃ a xs, x = .ref a ∧ Rd H a (.tup xs) ∧ ((HT.sIx xs.length 0 lo = 0 ∧ HT.sIx xs.length xs.length hi = xs.length) → Q (.ref a) H) ∧ (¬ (HT.sIx xs.length 0 lo = 0 ∧ HT.sIx xs.length xs.length hi = xs.length) → ∀ p, H p = none → Q (.ref p) (upd H p (.tup (cutV xs lo hi))))
theorem sl_tupR : SlR X rSlR := by
  intro pins s σ H x v vl vu lo hi sl Q I rx hs pl pu h
  obtain ⟨a, xs, rfl, hx, q1, q2⟩ := h
  by_cases hw : HT.sIx xs.length 0 lo = 0 ∧ HT.sIx xs.length xs.length hi = xs.length
  · cases rx
    obtain ⟨its, r, ht, hz⟩ := I.tuple (.inl hx)
    have hlen : its.toArray.size = xs.length := by rw [List.size_toArray]; exact r.length.symm
    exact ⟨"tuple", _, PyProof.Rows.slot_tuple_getitem.lookup, ht.typeIs, tup_whole ht hs pl pu (by rw [hlen]; exact hw) ⟨.ref a, H, I, rfl, q1 hw⟩⟩
  · exact sl_tup pins s σ H (.ref a) v vl vu lo hi sl Q I rx hs pl pu ⟨a, xs, rfl, .inl hx, hw, q2 hw⟩
theorem cutV_nat (xs : List V) (a c : Nat) : cutV xs (some (a : Int)) (some (c : Int)) = (xs.take c).drop a := by
  unfold cutV
  rw [HT.sIx_nat, HT.sIx_nat, List.drop_take]
  by_cases h : a ≤ xs.length
  · rw [show min a xs.length = a by omega]
    apply List.ext_getElem?
    intro i
    rw [List.getElem?_take, List.getElem?_take]
    by_cases h1 : i < min c xs.length - a
    · rw [if_pos h1, if_pos (by omega)]
    · rw [if_neg h1]
      by_cases h2 : i < c - a
      · rw [if_pos h2, List.getElem?_drop, List.getElem?_eq_none (by omega)]
      · rw [if_neg h2]
  · rw [show min a xs.length = xs.length by omega, List.drop_length, List.take_nil, List.drop_of_length_le (by omega), List.take_nil]
theorem rSlR.deep {x : V} {lo : Nat} {hi : Nat} {H : Hp} {Q : VK} {ds : List Dv} (hx : Deep H x (.tup ds)) (k : ∀ v H', Same H H' → Deep H' v (.tup ((ds.take hi).drop lo)) → Q v H') : rSlR x (some (lo : Int)) (some (hi : Int)) H Q := by
  obtain ⟨a, xs, rfl, h1, t1⟩ := hx.tup'
  have l1 := t1.length
  refine ⟨a, xs, rfl, .inl h1, fun z => ?_, fun _ p hp => ?_⟩
  · rw [HT.sIx_nat, HT.sIx_nat] at z
    refine k _ _ (Same.refl _) ?_
    have e : (ds.take hi).drop lo = ds := by
      by_cases h0 : ds = []
      · rw [h0]; simp
      · have : 0 < ds.length := List.length_pos_iff.mpr h0
        rw [List.take_of_length_le (by omega), show lo = 0 by omega, List.drop_zero]
    rw [e]
    exact hx
  · have S := Same.new (o := .tup (cutV xs (some (lo : Int)) (some (hi : Int)))) hp
    have t2 : Deeps H (cutV xs (some (lo : Int)) (some (hi : Int))) ((ds.take hi).drop lo) := by
      rw [cutV_nat]
      exact (t1.take hi).drop lo
    exact k _ _ S (.tup upd_same (t2.same S))
theorem inV_strs (z : Str) (ys : List Str) : inV (.str z) (ys.map V.str) = ys.contains z := by
  unfold inV
  rw [List.any_map, List.contains_eq_any_beq]
  congr 1
  funext y
  show (y == z) = (z == y)
  by_cases e : y = z
  · subst e; rfl
  · rw [beq_eq_false_iff_ne.mpr e, beq_eq_false_iff_ne.mpr (fun q => e q.symm)]
theorem op_inR : OpR X (compareOp .In) (fun x y H Q => ∃ (p : Addr) (ys : List Str) (z : Str), x = .str z ∧ y = .ref p ∧ Rd H p (.tup (ys.map V.str)) ∧ Q (.bl (ys.contains z)) H) := fun pins s σ H x y v u Q I rx ry ⟨p, ys, z, e1, e2, hq, q⟩ => op_in_seq pins s σ H x y v u Q I rx ry ⟨p, _, e2, .inr (.inl hq), by rw [e1]; rfl, flat_strs ys, by rw [e1, if_neg (by decide), inV_strs]; exact q⟩
theorem op_notInR : OpR X (compareOp .NotIn) (fun x y H Q => ∃ (p : Addr) (ys : List Str) (z : Str), x = .str z ∧ y = .ref p ∧ Rd H p (.tup (ys.map V.str)) ∧ Q (.bl (!ys.contains z)) H) := fun pins s σ H x y v u Q I rx ry ⟨p, ys, z, e1, e2, hq, q⟩ => op_notIn_seq pins s σ H x y v u Q I rx ry ⟨p, _, e2, .inr (.inl hq), by rw [e1]; rfl, flat_strs ys, by rw [e1, if_pos rfl, inV_strs]; exact q⟩
theorem mt_tindexR : MtR X "tuple.index" (fun x vs H Q => ∃ (l : Addr) (ys : List Str) (y : Str) (j : Nat), x = .ref l ∧ vs = [.str y] ∧ Rd H l (.tup (ys.map V.str)) ∧ ys[j]? = some y ∧ (∀ i, i < j → ys[i]? ≠ some y) ∧ Q (.int (j : Nat)) H) := fun pins s σ H x vs v us Q I rx rv ⟨l, ys, y, j, e1, e2, hq, hj, hno, q⟩ => mt_tindex pins s σ H x vs v us Q I rx rv ⟨l, ys, y, j, e1, e2, .inl hq, hj, hno, q⟩
/-- isinstance of what is deep: the name of its type -/
def tyD : Dv → String
  | .non => "NoneType"
  | .bl _ => "bool"
  | .int _ => "int"
  | .str _ => "str"
  | .tup _ => "tuple"
end
theorem Deep.ty {K : PySem.W.Frag} {H : Hp} {v : V} {d : Dv} (h : Deep H v d) : TyOf K H v (.type (tyD d)) := by
  cases h with
  | non => exact .non
  | bl => exact .bl _
  | int => exact .int _
  | str => exact .str _
  | tup h t => exact .tup h
end L2

set_option linter.all false
namespace K01
/-- ten to the power, 1 below 0 -/
def ten (m : Int) : Int := 10 ^ m.toNat
def absI (i : Int) : Int := if i < 0 then -i else i
def qcut (a b : Int) : Int := if decide (a < 0) != decide (b < 0) then -(absI a / absI b) else absI a / absI b
def cutU (u o p : Int) : Int := qcut (u * ten (p - o)) (ten (o - p))
theorem ten_pos (m : Int) : 0 < ten m := Int.pow_pos (by decide)
theorem ten_neg {m : Int} (h : m ≤ 0) : ten m = 1 := by
  unfold ten
  rw [Int.toNat_of_nonpos h]
  rfl
theorem ten_add {a b : Int} (ha : 0 ≤ a) (hb : 0 ≤ b) : ten (a + b) = ten a * ten b := by
  unfold ten
  rw [Int.toNat_add ha hb, Int.pow_add]
theorem absI_mul {i t : Int} (ht : 0 < t) : absI (i * t) = absI i * t := by
  unfold absI
  by_cases h : i < 0
  · rw [if_pos h, if_pos (Int.mul_neg_of_neg_of_pos h ht), Int.neg_mul]
  · rw [if_neg h, if_neg (Int.not_lt.mpr (Int.mul_nonneg (Int.not_lt.mp h) (Int.le_of_lt ht)))]
theorem absI_of_pos {t : Int} (ht : 0 < t) : absI t = t := by unfold absI; rw [if_neg (by omega)]
theorem lt_mul {i t : Int} (ht : 0 < t) : decide (i * t < 0) = decide (i < 0) := by
  by_cases h : i < 0
  · rw [decide_eq_true h, decide_eq_true (Int.mul_neg_of_neg_of_pos h ht)]
  · rw [decide_eq_false h, decide_eq_false (Int.not_lt.mpr (Int.mul_nonneg (Int.not_lt.mp h) (Int.le_of_lt ht)))]
/-- the sign of a quotient, and both of its parts -/
theorem qcut_pos {u t b : Int} (ht : 0 < t) (hb : 0 < b) : qcut (u * t) b = if u < 0 then -(absI u * t / b) else absI u * t / b := by
  unfold qcut
  rw [lt_mul ht, absI_mul ht, absI_of_pos hb, decide_eq_false (Int.not_lt.mpr (Int.le_of_lt hb))]
  by_cases h : u < 0
  · rw [decide_eq_true h, if_pos h]; rfl
  · rw [decide_eq_false h, if_neg h]; rfl
/-- cut to at least as many places -/
theorem cut_up {u o p : Int} (h : o ≤ p) : cutU u o p = u * ten (p - o) := by
  unfold cutU
  rw [ten_neg (show o - p ≤ 0 by omega), qcut_pos (ten_pos _) (by decide), Int.ediv_one]
  unfold absI
  split
  · rw [Int.neg_mul]; omega
  · rfl
theorem units_up {u o p : Int} (h1 : o ≤ p) (h2 : p ≤ 18) : u * ten (p - o) * ten (18 - p) = u * ten (18 - o) := by
  rw [Int.mul_assoc, ← ten_add (by omega) (by omega), show p - o + (18 - p) = 18 - o by omega]
/-- two units at one scale -/
theorem scale_eq {a b t : Int} (ht : 0 < t) : (a * t = b * t) ↔ a = b := ⟨fun h => Int.eq_of_mul_eq_mul_right (Int.ne_of_gt ht) h, fun h => by rw [h]⟩
theorem ten_le {a b : Int} (h : a ≤ b) (hb : 0 ≤ b) : ten a ≤ ten b := by
  by_cases ha : 0 ≤ a
  · rw [show b = a + (b - a) by omega, ten_add ha (by omega)]
    have := ten_pos (b - a)
    have h2 := ten_pos a
    calc ten a = ten a * 1 := (Int.mul_one _).symm
      _ ≤ ten a * ten (b - a) := Int.mul_le_mul_of_nonneg_left (by omega) (Int.le_of_lt h2)
  · rw [ten_neg (by omega)]
    have := ten_pos b
    omega
end K01

set_option Elab.async false
set_option linter.all false
set_option maxRecDepth 100000
namespace Lw
open PySem PySem.Spec PyProof.Rows L2
def top (i : Nat) : Stmt := PySem.Challenge.pw_boxmoves_k37_whole_pages.main.body.getD i (.Pass ⟨0, 0, 0, 0⟩)
abbrev s_ten_to : Stmt := top 1
theorem sc_ten_to : FnScope ["many", "power", "turn"] ["many"] (defScope s_ten_to) := ⟨rfl, rfl, rfl, by decide +kernel, rfl, by decide +kernel, by decide +kernel⟩
abbrev s_same : Stmt := top 3
theorem sc_same : FnScope ["one", "other", "first", "second", "places"] ["one", "other"] (defScope s_same) := ⟨rfl, rfl, rfl, by decide +kernel, rfl, by decide +kernel, by decide +kernel⟩
abbrev s_added : Stmt := top 4
theorem sc_added : FnScope ["one", "other", "first", "second", "places"] ["one", "other"] (defScope s_added) := ⟨rfl, rfl, rfl, by decide +kernel, rfl, by decide +kernel, by decide +kernel⟩
abbrev s_cut : Stmt := top 5
theorem sc_cut : FnScope ["amount", "places", "units", "own"] ["amount", "places"] (defScope s_cut) := ⟨rfl, rfl, rfl, by decide +kernel, rfl, by decide +kernel, by decide +kernel⟩
abbrev s_lined_up : Stmt := top 6
theorem sc_lined_up : FnScope ["one", "other", "places"] ["one", "other"] (defScope s_lined_up) := ⟨rfl, rfl, rfl, by decide +kernel, rfl, by decide +kernel, by decide +kernel⟩
abbrev s_quotient_cut : Stmt := top 7
theorem sc_quotient_cut : FnScope ["number", "by", "quotient"] ["number", "by"] (defScope s_quotient_cut) := ⟨rfl, rfl, rfl, by decide +kernel, rfl, by decide +kernel, by decide +kernel⟩
abbrev s_breaks : Stmt := top 9
theorem sc_breaks : FnScope ["plan", "rows", "keys", "lines", "since", "at", "row", "first"] ["plan", "rows"] (defScope s_breaks) := ⟨rfl, rfl, rfl, by decide +kernel, rfl, by decide +kernel, by decide +kernel⟩
abbrev s_report : Stmt := top 10
theorem sc_report : FnScope ["plan", "rows", "lines", "pages", "amounts", "start", "top", "end", "body", "line"] ["plan", "rows"] (defScope s_report) := ⟨rfl, rfl, rfl, by decide +kernel, rfl, by decide +kernel, by decide +kernel⟩
abbrev s_is_pair : Stmt := top 11
theorem sc_is_pair : FnScope ["value"] ["value"] (defScope s_is_pair) := ⟨rfl, rfl, rfl, by decide +kernel, rfl, by decide +kernel, by decide +kernel⟩
abbrev s_spots_of : Stmt := top 12
theorem sc_spots_of : FnScope ["plan", "names", "columns"] ["plan", "names"] (defScope s_spots_of) := ⟨rfl, rfl, rfl, by decide +kernel, rfl, by decide +kernel, by decide +kernel⟩
abbrev s_no_sums : Stmt := top 13
theorem sc_no_sums : FnScope ["plan"] ["plan"] (defScope s_no_sums) := ⟨rfl, rfl, rfl, by decide +kernel, rfl, by decide +kernel, by decide +kernel⟩
abbrev s_with_row : Stmt := top 14
theorem sc_with_row : FnScope ["plan", "amounts", "row"] ["plan", "amounts", "row"] (defScope s_with_row) := ⟨rfl, rfl, rfl, by decide +kernel, rfl, by decide +kernel, by decide +kernel⟩
abbrev s_sums_of : Stmt := top 15
theorem sc_sums_of : FnScope ["plan", "rows", "amounts", "row"] ["plan", "rows"] (defScope s_sums_of) := ⟨rfl, rfl, rfl, by decide +kernel, rfl, by decide +kernel, by decide +kernel⟩
abbrev s_unlike_from : Stmt := top 16
theorem sc_unlike_from : FnScope ["plan", "one", "other", "level", "at"] ["plan", "one", "other"] (defScope s_unlike_from) := ⟨rfl, rfl, rfl, by decide +kernel, rfl, by decide +kernel, by decide +kernel⟩
abbrev s_is_alike : Stmt := top 17
theorem sc_is_alike : FnScope ["one", "other"] ["one", "other"] (defScope s_is_alike) := ⟨rfl, rfl, rfl, by decide +kernel, rfl, by decide +kernel, by decide +kernel⟩
abbrev s_feet : Stmt := top 18
theorem sc_feet : FnScope ["plan", "row", "since", "first", "keys", "values"] ["plan", "row", "since", "first"] (defScope s_feet) := ⟨rfl, rfl, rfl, by decide +kernel, rfl, by decide +kernel, by decide +kernel⟩
abbrev s_page_top : Stmt := top 19
theorem sc_page_top : FnScope ["plan", "page", "amounts", "head"] ["plan", "page", "amounts"] (defScope s_page_top) := ⟨rfl, rfl, rfl, by decide +kernel, rfl, by decide +kernel, by decide +kernel⟩
abbrev s_page_bottom : Stmt := top 20
theorem sc_page_bottom : FnScope ["plan", "is_last", "amounts"] ["plan", "is_last", "amounts"] (defScope s_page_bottom) := ⟨rfl, rfl, rfl, by decide +kernel, rfl, by decide +kernel, by decide +kernel⟩
abbrev s_lines_on_page : Stmt := top 21
theorem sc_lines_on_page : FnScope ["plan", "ahead", "left", "columns", "keys", "sums", "long"] ["plan", "ahead", "left"] (defScope s_lines_on_page) := ⟨rfl, rfl, rfl, by decide +kernel, rfl, by decide +kernel, by decide +kernel⟩
abbrev s_shown : Stmt := top 22
theorem sc_shown : FnScope ["plan", "lines", "told", "at", "line"] ["plan", "lines"] (defScope s_shown) := ⟨rfl, rfl, rfl, by decide +kernel, rfl, by decide +kernel, by decide +kernel⟩
abbrev s_without_keys : Stmt := top 23
theorem sc_without_keys : FnScope ["plan", "row"] ["plan", "row"] (defScope s_without_keys) := ⟨rfl, rfl, rfl, by decide +kernel, rfl, by decide +kernel, by decide +kernel⟩
abbrev s__law_draw : Stmt := top 25
theorem sc__law_draw : FnScope ["_law_script", "_law_town", "_law_many", "_law_at", "_law_rest", "_law_number"] ["_law_script", "_law_town", "_law_many"] (defScope s__law_draw) := ⟨rfl, rfl, rfl, by decide +kernel, rfl, by decide +kernel, by decide +kernel⟩
abbrev s__law_begun : Stmt := top 26
theorem sc__law_begun : FnScope [] [] (defScope s__law_begun) := ⟨rfl, rfl, rfl, by decide +kernel, rfl, by decide +kernel, by decide +kernel⟩
abbrev s__law_a_plan : Stmt := top 27
theorem sc__law_a_plan : FnScope ["_law_script", "_law_town", "_law_keys", "_law_sums", "_law_columns", "_law_rows", "_law_k", "_law_row"] ["_law_script", "_law_town"] (defScope s__law_a_plan) := ⟨rfl, rfl, rfl, by decide +kernel, rfl, by decide +kernel, by decide +kernel⟩
abbrev s__law_plus : Stmt := top 28
theorem sc__law_plus : FnScope ["_law_one", "_law_two", "_law_found", "_law_first", "_law_second", "_law_far", "_law_units"] ["_law_one", "_law_two"] (defScope s__law_plus) := ⟨rfl, rfl, rfl, by decide +kernel, rfl, by decide +kernel, by decide +kernel⟩
abbrev s_law : Stmt := top 29
theorem sc_law : FnScope ["_law_script", "_law_town", "_law_plan", "_law_rows", "_law_columns", "_law_keys", "_law_sums", "_law_size", "_law_name", "_law_pages", "_law_found", "_law_total", "_law_seen", "_law_at", "_law_page", "_law_begun_here", "_law_last", "_law_line", "_law_lines", "_law_due", "_law_one", "_law_two"] ["_law_script"] (defScope s_law) := ⟨rfl, rfl, rfl, by decide +kernel, rfl, by decide +kernel, by decide +kernel⟩
section
variable {P : Program} {w : World} {K : PySem.W.Frag} {mg : Str → Option Value} {base : Heap} {f : Addr} {fd : FuncData}
/-! ### the program -/
def spTen : Sp := fun vs H Q _ => ∃ m : Int, vs = [.int m] ∧ -(2 ^ 62) ≤ m ∧ m < 2 ^ 62 ∧ Q (.int (K01.ten m)) H
theorem ok_ten_to (F : Fun K "ten_to" "ten_to" s_ten_to f fd) (O : Own mg) : FnOk P w K mg base (CXE P w) 1 f fd ["many"] spTen := by
  refine okN F sc_ten_to (fun vs H Q E h => ?_) (fun cdv A outer s H vs Q E hr h => ?_)
  · obtain ⟨m, rfl, _⟩ := h
    rfl
  · obtain ⟨m, rfl, h1, h2, k⟩ := h
    refine ⟨_, (pss_cons (ps_set (i := 1) sc_ten_to.nd rfl (Or.inl rfl) pe_int)
      (pss_cons (ps_for PassesOwn.never rfl (pi_range1 rfl O.range (pa_cons (pv 0) pa_nil)) (pg_name (i := 2) sc_ten_to.nd rfl (Or.inl rfl)) (pss_one (ps_set (i := 1) sc_ten_to.nd rfl (Or.inl rfl) (pe_op op_mul (pv 1) pe_int))))
      (pss_one (ps_ret (pv 1))))), ?_⟩
    refine ⟨_, rfl, m, rfl, h1, h2, for_range (n := m.toNat) (fun i σ H2 => ∃ v, σ = [some (.int m), some (.int (10 ^ i)), v] ∧ H2 = H) ⟨none, rfl, rfl⟩ ?_ ?_⟩
    · rintro i σ H2 hi ⟨v, rfl, rfl⟩
      refine ⟨_, rfl, _, _, rfl, rfl, .inr ⟨by decide, by decide⟩, ?_⟩
      exact ⟨_, by rw [Int.pow_succ]; rfl, rfl⟩
    · rintro σ H2 ⟨v, rfl, rfl⟩
      exact ⟨_, rfl, k⟩
def spQcut : Sp := fun vs H Q _ => ∃ a b : Int, vs = [.int a, .int b] ∧ b ≠ 0 ∧ b.natAbs < 2 ^ 2000 ∧ Q (.int (K01.qcut a b)) H
theorem abs_bound {b : Int} {n : Nat} (h : b.natAbs < n) : (if b < 0 then -b else b).natAbs < n := by split <;> omega
theorem abs_pos {b : Int} (h : b ≠ 0) : 0 < (if b < 0 then -b else b) := by split <;> omega
theorem ok_quotient_cut (F : Fun K "quotient_cut" "quotient_cut" s_quotient_cut f fd) (O : Own mg) : FnOk P w K mg base (CXE P w) 1 f fd ["number", "by"] spQcut := by
  refine okN F sc_quotient_cut (fun vs H Q E h => ?_) (fun cdv A outer s H vs Q E hr h => ?_)
  · obtain ⟨a, b, rfl, _⟩ := h
    rfl
  · obtain ⟨a, b, rfl, h1, h2, k⟩ := h
    refine ⟨_, (pss_cons (ps_set (i := 2) sc_quotient_cut.nd rfl (Or.inl rfl) (pe_op op_fdivB (pe_callB call_abs rfl O.abs PyProof.Rows.boot_abs (pa_cons (pv 0) pa_nil)) (pe_callB call_abs rfl O.abs PyProof.Rows.boot_abs (pa_cons (pv 1) pa_nil))))
      (pss_one (ps_ret (pe_ifExp (pt_cmpR op_ne (pe_cmpR op_lt (pv 0) pe_int (nomark _)) (pe_cmpR op_lt (pv 1) pe_int (nomark _)) (nomark _)) (pe_un un_neg (pv 2)) (pv 2))))), ?_⟩
    refine ⟨_, rfl, a, rfl, _, rfl, b, rfl, _, _, rfl, rfl, ⟨abs_pos h1, abs_bound h2⟩, ?_⟩
    refine ⟨_, rfl, _, _, rfl, rfl, _, rfl, _, _, rfl, rfl, rfl, _, rfl, ?_⟩
    refine ifB (fun z => ?_) (fun z => ?_)
    · refine ⟨_, rfl, _, rfl, ?_⟩
      have e : K01.qcut a b = -(K01.absI a / K01.absI b) := by unfold K01.qcut; rw [if_pos (by rw [← ne_bl]; exact z)]
      rw [e] at k
      exact k
    · refine ⟨_, rfl, ?_⟩
      have e : K01.qcut a b = K01.absI a / K01.absI b := by unfold K01.qcut; rw [if_neg (by rw [← ne_bl]; exact fun q => Bool.noConfusion (z.symm.trans q))]
      rw [e] at k
      exact k
/-- an amount at hand: its units and places -/
structure Amt (K : PySem.W.Frag) (H : Hp) (a : Addr) (u o : Int) : Prop where
  sq : SqT K H a [.int u, .int o]
  bd : u.natAbs < 2 ^ 200
  lo : 0 ≤ o
  hi : o ≤ 18
theorem Amt.same {H H' : Hp} {a : Addr} {u o : Int} (A : Amt K H a u o) (e : Same H H') : Amt K H' a u o := ⟨A.sq.same e, A.bd, A.lo, A.hi⟩
theorem ten_bound {m : Int} (h : m ≤ 40) : (K01.ten m).natAbs < 2 ^ 200 := by
  have h1 := K01.ten_le (a := m) (b := 40) h (by decide)
  have h2 := K01.ten_pos m
  have h3 : K01.ten 40 < 2 ^ 200 := by decide
  omega
theorem big {a : Int} (h : a.natAbs < 2 ^ 200) : a.natAbs < 2 ^ 2000 := Nat.lt_of_lt_of_le h (by decide)
def spCut (K : PySem.W.Frag) : Sp := fun vs H Q _ => ∃ (a : Addr) (u o p : Int), vs = [.ref a, .int p] ∧ Amt K H a u o ∧ 0 ≤ p ∧ p ≤ 18 ∧ ∀ q, H q = none → Q (.ref q) (upd H q (.tup [.int (K01.cutU u o p), .int p]))
theorem ok_cut (F : Fun K "cut" "cut" s_cut f fd) (O : Own mg) (D_ten_to : Def P w K mg base 1 "ten_to" ["many"] spTen) (D_quotient_cut : Def P w K mg base 1 "quotient_cut" ["number", "by"] spQcut) : FnOk P w K mg base (CXE P w) 2 f fd ["amount", "places"] (spCut K) := by
  refine okN F sc_cut (fun vs H Q E h => ?_) (fun cdv A outer s H vs Q E hr h => ?_)
  · obtain ⟨a, u, o, p, rfl, _⟩ := h
    rfl
  · obtain ⟨a, u, o, p, rfl, M, h1, h2, k⟩ := h
    have b1 := M.lo
    have b2 := M.hi
    refine ⟨_, (pss_cons (ps_asg (pv 0) (pg_tup rfl (pgs_cons (pg_name (i := 2) sc_cut.nd rfl (Or.inl rfl)) (pgs_cons (pg_name (i := 3) sc_cut.nd rfl (Or.inl rfl)) pgs_nil))))
      (pss_one (ps_ret (pe_tup (pa_cons (D_quotient_cut.pe hr (by decide) rfl passE0 (pa_cons (pe_op op_mulB (pv 2) (D_ten_to.pe hr (by decide) rfl passE0 (pa_cons (pe_op op_sub (pv 1) (pv 3)) pa_nil))) (pa_cons (D_ten_to.pe hr (by decide) rfl passE0 (pa_cons (pe_op op_sub (pv 3) (pv 1)) pa_nil)) pa_nil))) (pa_cons (pv 1) pa_nil)))))), ?_⟩
    refine ⟨_, rfl, a, _, rfl, M.sq, rfl, _, _, rfl, _, _, rfl, rfl, ?_⟩
    refine ⟨_, rfl, _, rfl, _, rfl, _, _, rfl, rfl, _, rfl, by omega, by omega, _, _, rfl, rfl, ⟨big M.bd, big (ten_bound (by omega))⟩, ?_⟩
    refine ⟨_, rfl, _, rfl, _, _, rfl, rfl, _, rfl, by omega, by omega, ?_⟩
    refine ⟨_, _, rfl, Int.ne_of_gt (K01.ten_pos _), big (ten_bound (by omega)), ?_⟩
    exact ⟨_, rfl, by show 2 ≤ sizeLine; decide, k⟩
def mx (o o' : Int) : Int := if o' > o then o' else o
theorem mx_l (o o' : Int) : o ≤ mx o o' := by unfold mx; split <;> omega
theorem mx_r (o o' : Int) : o' ≤ mx o o' := by unfold mx; split <;> omega
theorem mx_le {o o' n : Int} (h1 : o ≤ n) (h2 : o' ≤ n) : mx o o' ≤ n := by unfold mx; split <;> omega
def spLined (K : PySem.W.Frag) : Sp := fun vs H Q _ => ∃ (a b : Addr) (u o v o' : Int), vs = [.ref a, .ref b] ∧ Amt K H a u o ∧ Amt K H b v o' ∧
  ∀ q H', Same H H' → H q = none → H' q = some (.tup [.int (u * K01.ten (mx o o' - o)), .int (v * K01.ten (mx o o' - o')), .int (mx o o')]) → Q (.ref q) H'
theorem ok_lined_up (F : Fun K "lined_up" "lined_up" s_lined_up f fd) (O : Own mg) (D_cut : Def P w K mg base 2 "cut" ["amount", "places"] (spCut K)) : FnOk P w K mg base (CXE P w) 3 f fd ["one", "other"] (spLined K) := by
  refine okN F sc_lined_up (fun vs H Q E h => ?_) (fun cdv A outer s H vs Q E hr h => ?_)
  · obtain ⟨a, b, u, o, v, o', rfl, _⟩ := h
    rfl
  · obtain ⟨a, b, u, o, v, o', rfl, M1, M2, k⟩ := h
    have b1 := M1.lo
    have b2 := mx_l o o'
    have b3 := mx_le M1.hi M2.hi
    refine ⟨_, (pss_cons (ps_set (i := 2) sc_lined_up.nd rfl (Or.inl rfl) (pe_callB (call_max2 rfl) rfl O.max PyProof.Rows.boot_max (pa_cons (pe_ix ix_tup (pv 0) pe_int (fun _ _ => rfl)) (pa_cons (pe_ix ix_tup (pv 1) pe_int (fun _ _ => rfl)) pa_nil))))
      (pss_one (ps_ret (pe_tup (pa_cons (pe_ix ix_tup (D_cut.pe hr (by decide) rfl passE0 (pa_cons (pv 0) (pa_cons (pv 2) pa_nil))) pe_int (fun _ _ => rfl)) (pa_cons (pe_ix ix_tup (D_cut.pe hr (by decide) rfl passE0 (pa_cons (pv 1) (pa_cons (pv 2) pa_nil))) pe_int (fun _ _ => rfl)) (pa_cons (pv 2) pa_nil))))))), ?_⟩
    refine ⟨_, rfl, a, _, _, _, rfl, rfl, M1.sq, rfl, _, rfl, b, _, _, _, rfl, rfl, M2.sq, rfl, o, o', rfl, ?_⟩
    refine ⟨_, rfl, _, rfl, a, u, o, mx o o', rfl, M1, by omega, b3, fun q1 h1 => ⟨q1, _, _, _, rfl, rfl, SqT.of upd_same, rfl, ?_⟩⟩
    refine ⟨_, rfl, _, rfl, b, v, o', mx o o', rfl, M2.same (Same.new h1), by omega, b3, fun q2 h2 => ⟨q2, _, _, _, rfl, rfl, SqT.of upd_same, rfl, ?_⟩⟩
    refine ⟨_, rfl, by show 3 ≤ sizeLine; decide, fun q3 h3 => ?_⟩
    have s12 : Same H (upd (upd H q1 (.tup [.int (K01.cutU u o (mx o o')), .int (mx o o')])) q2 (.tup [.int (K01.cutU v o' (mx o o')), .int (mx o o')])) := (Same.new h1).trans (Same.new h2)
    refine k q3 _ (s12.trans (Same.new h3)) (s12.free h3) ?_
    rw [upd_same, K01.cut_up (mx_l o o'), K01.cut_up (mx_r o o')]
    rfl
def spSame (K : PySem.W.Frag) : Sp := fun vs H Q _ => ∃ (a b : Addr) (u o v o' : Int), vs = [.ref a, .ref b] ∧ Amt K H a u o ∧ Amt K H b v o' ∧
  ∀ H', Same H H' → Q (.bl (decide (u * K01.ten (18 - o) = v * K01.ten (18 - o')))) H'
/-- a sum or a difference: the places, and the units of the eighteenth part -/
def spSum (K : PySem.W.Frag) (g : Int → Int → Int) : Sp := fun vs H Q _ => ∃ (a b : Addr) (u o v o' : Int), vs = [.ref a, .ref b] ∧ Amt K H a u o ∧ Amt K H b v o' ∧
  ∀ q H' z, Same H H' → H q = none → H' q = some (.tup [.int z, .int (mx o o')]) → z = g (u * K01.ten (mx o o' - o)) (v * K01.ten (mx o o' - o')) → Q (.ref q) H'
theorem up_eq {u o v o' : Int} (h1 : o ≤ 18) (h2 : o' ≤ 18) : (u * K01.ten (mx o o' - o) = v * K01.ten (mx o o' - o')) ↔ u * K01.ten (18 - o) = v * K01.ten (18 - o') := by
  rw [← K01.units_up (u := u) (mx_l o o') (mx_le h1 h2), ← K01.units_up (u := v) (mx_r o o') (mx_le h1 h2)]
  exact (K01.scale_eq (K01.ten_pos _)).symm
theorem ok_same (F : Fun K "same" "same" s_same f fd) (D_lined_up : Def P w K mg base 3 "lined_up" ["one", "other"] (spLined K)) : FnOk P w K mg base (CXE P w) 4 f fd ["one", "other"] (spSame K) := by
  refine okN F sc_same (fun vs H Q E h => ?_) (fun cdv A outer s H vs Q E hr h => ?_)
  · obtain ⟨a, b, u, o, v, o', rfl, _⟩ := h
    rfl
  · obtain ⟨a, b, u, o, v, o', rfl, M1, M2, k⟩ := h
    refine ⟨_, (pss_cons (ps_asg (D_lined_up.pe hr (by decide) rfl passE0 (pa_cons (pv 0) (pa_cons (pv 1) pa_nil))) (pg_tup rfl (pgs_cons (pg_name (i := 2) sc_same.nd rfl (Or.inl rfl)) (pgs_cons (pg_name (i := 3) sc_same.nd rfl (Or.inl rfl)) (pgs_cons (pg_name (i := 4) sc_same.nd rfl (Or.inl rfl)) pgs_nil)))))
      (pss_one (ps_ret (pe_cmpR op_eq (pv 2) (pv 3) (nomark _))))), ?_⟩
    refine ⟨_, rfl, _, rfl, a, b, u, o, v, o', rfl, M1, M2, fun q H' e hq ht => ⟨q, _, rfl, SqT.of ht, rfl, _, _, rfl, _, _, rfl, _, _, rfl, rfl, ?_⟩⟩
    refine ⟨_, rfl, _, rfl, rfl, ?_⟩
    have z := k H' e
    rw [← decide_eq_decide.mpr (up_eq M1.hi M2.hi), ← eq_int'] at z
    exact z
theorem ok_added (F : Fun K "added" "added" s_added f fd) (D_lined_up : Def P w K mg base 3 "lined_up" ["one", "other"] (spLined K)) : FnOk P w K mg base (CXE P w) 4 f fd ["one", "other"] (spSum K fun x y => x + y) := by
  refine okN F sc_added (fun vs H Q E h => ?_) (fun cdv A outer s H vs Q E hr h => ?_)
  · obtain ⟨a, b, u, o, v, o', rfl, _⟩ := h
    rfl
  · obtain ⟨a, b, u, o, v, o', rfl, M1, M2, k⟩ := h
    refine ⟨_, (pss_cons (ps_asg (D_lined_up.pe hr (by decide) rfl passE0 (pa_cons (pv 0) (pa_cons (pv 1) pa_nil))) (pg_tup rfl (pgs_cons (pg_name (i := 2) sc_added.nd rfl (Or.inl rfl)) (pgs_cons (pg_name (i := 3) sc_added.nd rfl (Or.inl rfl)) (pgs_cons (pg_name (i := 4) sc_added.nd rfl (Or.inl rfl)) pgs_nil)))))
      (pss_one (ps_ret (pe_tup (pa_cons (pe_op op_add (pv 2) (pv 3)) (pa_cons (pv 4) pa_nil)))))), ?_⟩
    refine ⟨_, rfl, _, rfl, a, b, u, o, v, o', rfl, M1, M2, fun q H' e hq ht => ⟨q, _, rfl, SqT.of ht, rfl, _, _, rfl, _, _, rfl, _, _, rfl, rfl, ?_⟩⟩
    refine ⟨_, rfl, _, rfl, _, _, rfl, rfl, _, rfl, by show 2 ≤ sizeLine; decide, fun q2 h2 => ?_⟩
    exact k q2 _ _ (e.trans (Same.new h2)) (e.free h2) upd_same rfl
end
end Lw

set_option Elab.async false
set_option linter.all false
set_option maxRecDepth 100000
/-! all([.. for ..]) where all are so; [.. for ..] of known things -/
namespace L2
open PySem PySem.Spec PyProof.Rows
section
variable {J : It} {n : Nat} {Ok : Hp → Prop} {item : Nat → Hp → V → Hp → Prop} {wi : TI} {g : TG} {te : TE} {Q : VK} {σ : St} {H : Hp} {K : PySem.W.Frag}
end
end L2

set_option Elab.async false
set_option linter.all false
set_option maxRecDepth 100000
namespace Lw
open PySem PySem.Spec PyProof.Rows L2
open Builtin Builtin.Str StrLaws
/-- a cell of a row: a text, or an amount -/
inductive Cell where
  | txt (x : Str) | amt (u o : Int)
def Cell.dv : Cell → Dv
  | .txt x => .str x
  | .amt u o => .tup [.int u, .int o]
/-- the types that are asked for -/
structure Kit (K : PySem.W.Frag) : Prop where
  st : PySem.W.kitOne K (.type "str") (.type "tuple") = some false
  tt : PySem.W.kitOne K (.type "tuple") (.type "tuple") = some true
def nameOk (x : Str) : Bool := decide (1 ≤ x.length) && decide (x.length ≤ 12) && decide (V.str (Txt.stripChars x "abcdefghijklmnopqrstuvwxyz") = V.str "")
section
variable {P : Program} {w : World} {K : PySem.W.Frag} {mg : Str → Option Value} {base : Heap} {f : Addr} {fd : FuncData} {tk : Nat → Tok}
def Cell.isAmt : Cell → Bool
  | .txt _ => false
  | .amt _ _ => true
theorem dp_amt {H : Hp} {v : V} {u o : Int} (h : Deep H v (Cell.amt u o).dv) : ∃ a, v = .ref a ∧ H a = some (.tup [.int u, .int o]) := by
  obtain ⟨a, xs, rfl, h1, t⟩ := Deep.tup' h
  cases t with
  | cons p t =>
    cases t with
    | cons q t =>
      cases t
      obtain rfl := p.int'
      obtain rfl := q.int'
      exact ⟨a, rfl, h1⟩
def spIsPair : Sp := fun vs H Q _ => ∃ (v : V) (c : Cell), vs = [v] ∧ Deep H v c.dv ∧ Q (.bl c.isAmt) H
theorem ok_is_pair (F : Fun K "is_pair" "is_pair" s_is_pair f fd) (O : Own mg) (OT : mg "tuple" = none) (KT : Kit K) : FnOk P w K mg base (CXE P w) 1 f fd ["value"] spIsPair := by
  refine okN F sc_is_pair (fun vs H Q E h => ?_) (fun cdv A outer s H vs Q E hr h => ?_)
  · obtain ⟨v, c, rfl, _⟩ := h
    rfl
  · obtain ⟨v, c, rfl, D, k⟩ := h
    refine ⟨_, (pss_one (ps_ret (pe_callB call_isi rfl O.isi PyProof.Rows.boot_isinstance (pa_cons (pv 0) (pa_cons (pe_bltn (v := V.ty "tuple") rfl OT PyProof.Rows.boot_tuple rfl) pa_nil))))), ?_⟩
    cases c with
    | txt x => exact ⟨_, rfl, _, _, false, rfl, rfl, .inl ⟨_, D.ty, KT.st⟩, k⟩
    | amt u o => exact ⟨_, rfl, _, _, true, rfl, rfl, .inl ⟨_, D.ty, KT.tt⟩, k⟩
/-- a sign that may stand in a text -/
def sgOk (c : Nat) : Bool := decide (c < 128) && !decide (([c] : List Nat) < [32]) && !decide (([126] : List Nat) < [c])
def textOk (x : Str) : Bool := x.cps.toList.all sgOk && decide (x.length ≤ 100)
structure Plan where
  cols : List Str
  keys : List Str
  sums : List Str
  size : Int
def planD (π : Plan) : Dv := .tup [.tup (txD π.cols), .tup (txD π.keys), .tup (txD π.sums), .int π.size]
/-- a plan as it should be -/
structure PlanOk (π : Plan) : Prop where
  nc : π.cols.all nameOk = true
  nk : π.keys.all nameOk = true
  ns : π.sums.all nameOk = true
  mc : many π.cols = π.cols.length
  my : many π.keys = π.keys.length
  ms : many π.sums = π.sums.length
  mu : many (π.keys ++ π.sums) = (π.keys ++ π.sums).length
  sub : (π.keys ++ π.sums).all (fun x => π.cols.contains x) = true
  pos : π.cols ≠ []
  sz : 6 ≤ π.size
  lc : π.cols.length ≤ 100
  lu : (π.keys ++ π.sums).length ≤ 100
/-- where a plan lies -/
structure PlanAt (H : Hp) (v : V) (π : Plan) (a ac ak as : Addr) : Prop where
  v : v = .ref a
  a : H a = some (.tup [.ref ac, .ref ak, .ref as, .int π.size])
  c : H ac = some (.tup (π.cols.map V.str))
  k : H ak = some (.tup (π.keys.map V.str))
  s : H as = some (.tup (π.sums.map V.str))
theorem PlanAt.same {H H' : Hp} {v : V} {π : Plan} {a ac ak as : Addr} (h : PlanAt H v π a ac ak as) (S : Same H H') : PlanAt H' v π a ac ak as := ⟨h.v, S _ _ h.a, S _ _ h.c, S _ _ h.k, S _ _ h.s⟩
theorem tx_at {H : Hp} {v : V} {ys : List Str} (h : Deep H v (.tup (txD ys))) : ∃ a, v = .ref a ∧ H a = some (.tup (ys.map V.str)) := by
  obtain ⟨a, xs, rfl, g, t⟩ := h.tup'
  rw [t.strs] at g
  exact ⟨a, rfl, g⟩
theorem plan_at {H : Hp} {v : V} {π : Plan} (h : Deep H v (planD π)) : ∃ a ac ak as, PlanAt H v π a ac ak as := by
  obtain ⟨a, xs, rfl, g, t⟩ := Deep.tup' h
  cases t with
  | cons p1 t =>
    cases t with
    | cons p2 t =>
      cases t with
      | cons p3 t =>
        cases t with
        | cons p4 t =>
          cases t
          obtain ⟨ac, rfl, g1⟩ := tx_at p1
          obtain ⟨ak, rfl, g2⟩ := tx_at p2
          obtain ⟨as, rfl, g3⟩ := tx_at p3
          obtain rfl := p4.int'
          exact ⟨a, ac, ak, as, rfl, g, g1, g2, g3⟩
theorem PlanAt.dk {H : Hp} {v : V} {π : Plan} {a ac ak as : Addr} (h : PlanAt H v π a ac ak as) : Deep H (.ref ak) (.tup (txD π.keys)) := .tup h.k (Deeps.of_strs _)
theorem PlanAt.ds {H : Hp} {v : V} {π : Plan} {a ac ak as : Addr} (h : PlanAt H v π a ac ak as) : Deep H (.ref as) (.tup (txD π.sums)) := .tup h.s (Deeps.of_strs _)
theorem str_at {ys : List Str} {i : Nat} {v : V} (hv : (ys.map V.str)[i]? = some v) : ∃ y, ys[i]? = some y ∧ v = .str y := by
  rw [List.getElem?_map] at hv
  cases e : ys[i]? with
  | none => rw [e] at hv; cases hv
  | some y => rw [e] at hv; exact ⟨y, rfl, (Option.some.inj hv).symm⟩
end
end Lw

set_option Elab.async false
set_option linter.all false
set_option maxRecDepth 100000
namespace Lw
open PySem PySem.Spec PyProof.Rows L2
open Builtin Builtin.Str StrLaws
theorem pg_tupK {X : Cx} {K0 : PySem.W.Frag} {es : List Expr} {k : Nat} {t : TGs} {n : Nat} {pos : Pos} (hK : X.K = K0) (hc : X.calm = true) (h : PGs X es t)
    (hn : (assignEach es X.env).length = n := by rfl) (hst : (assignEach es X.env).findIdx? (·.1) = none := by rfl) : PG X (.Tuple es k pos) (gTup K0 n t) := by
  subst hK
  exact pg_tup hc h hn hst
theorem ret_cb {r : List V → Hp → VK → Prop} {t : TA} {D : Ends} {σ : L2.St} {H : Hp} (h : tCB r t σ H D.rt) : tRet (tCB r t) D σ H := h
def rowD (row : List Cell) : Dv := .tup (row.map Cell.dv)
def CellOk : Cell → Prop
  | .txt x => textOk x = true
  | .amt u o => 0 ≤ o ∧ o ≤ 2 ∧ (u * K01.ten (2 - o)).natAbs ≤ 10 ^ 4
structure RowOk (π : Plan) (row : List Cell) : Prop where
  len : row.length = π.cols.length
  ok : ∀ c ∈ row, CellOk c
  sm : ∀ (i : Nat) (x : Str), π.cols[i]? = some x → π.sums.contains x = true → ∃ u o : Int, row[i]? = some (Cell.amt u o)
theorem dv_at {row : List Cell} {i : Nat} {d : Dv} (h : (row.map Cell.dv)[i]? = some d) : ∃ c, row[i]? = some c ∧ d = c.dv := by
  rw [List.getElem?_map] at h
  cases e : row[i]? with
  | none => rw [e] at h; cases h
  | some c => rw [e] at h; exact ⟨c, rfl, (Option.some.inj h).symm⟩
section
variable {P : Program} {w : World} {K : PySem.W.Frag} {mg : Str → Option Value} {base : Heap} {f : Addr} {fd : FuncData} {tk : Nat → Tok}
end
end Lw

set_option Elab.async false
set_option linter.all false
set_option maxRecDepth 100000
/-! [.. for ..] that tells deep things one by one, laying new things only -/
namespace L2
open PySem PySem.Spec PyProof.Rows
section
variable {J : It} {n : Nat} {Ok : Hp → Prop} {item : Nat → Hp → V → Hp → Prop} {wi : TI} {g : TG} {te : TE} {Q : VK} {σ : St} {H : Hp}
theorem deeps_snoc {H H' : Hp} {vs : List V} {u : V} {ds : List Dv} {i : Nat} {d : Dv} (h : Deeps H vs (ds.take i)) (S : Same H H') (e : ds[i]? = some d) (hu : Deep H' u d) : Deeps H' (vs ++ [u]) (ds.take (i + 1)) := by
  rw [List.take_add_one, e]
  exact (h.same S).append (.cons hu .nil)
theorem comp_deep {NB : List Str} (F : Fix J n Ok item) (ds : List Dv) (hn : ds.length = n) (h : ∀ R : It → Hp → Prop, (∀ H1, Same H H1 → R J H1) → wi σ H R) (ho : ∀ H1, Same H H1 → Ok H1)
    (hs : ∀ i v H1 H2 d (R : V → Hp → Prop), ds[i]? = some d → Same H H1 → item i H1 v H2 → (∀ u H4, Same H1 H4 → Deep H4 u d → R u H4) → g v (List.replicate NB.length none) H2 fun σ2 H3 => te σ2 H3 R)
    (hd : ∀ xs H1 p, Same H H1 → Deeps H1 xs ds → H1 p = none → Q (.ref p) (upd H1 p (.lst xs))) (hz : n < sizeLine) : tComp NB wi g tAll te σ H Q := by
  refine comp_fix F (fun i vs H1 => Same H H1 ∧ Deeps H1 vs (ds.take i)) (fun R k => h R fun H1 S => k H1 ⟨S, .nil⟩) (fun i vs H1 hi ⟨S, t⟩ => ⟨ho H1 S, by rw [t.length, List.length_take]; omega⟩) ?_ ?_ hz
  · rintro i v vs H1 H2 hi ⟨S, t⟩ it
    have e : ds[i]? = some ds[i] := List.getElem?_eq_getElem (by omega)
    exact hs i v H1 H2 _ (fun u H4 => Same H H4 ∧ Deeps H4 (vs ++ [u]) (ds.take (i + 1))) e S it fun u H4 S4 du => ⟨S.trans S4, deeps_snoc t S4 e du⟩
  · rintro vs H1 ⟨S, t⟩ p hp
    rw [List.take_of_length_le (by omega)] at t
    exact hd vs H1 p S t hp
theorem compF_deep {nn : Nat} {fi : List Nat} {fv : List V} (F : Fix J n Ok item) (ds : List Dv) (hn : ds.length = n) (h : ∀ R : It → Hp → Prop, (∀ H1, Same H H1 → R J H1) → wi σ H R) (hfv : fi.map (fun i => σ[i]?) = fv.map (fun v => some (some v))) (ho : ∀ H1, Same H H1 → Ok H1)
    (hs : ∀ i v H1 H2 d (R : V → Hp → Prop), ds[i]? = some d → Same H H1 → item i H1 v H2 → (∀ u H4, Same H1 H4 → Deep H4 u d → R u H4) → g v (List.replicate nn none ++ fv.map some) H2 fun σ2 H3 => σ2.drop nn = fv.map some ∧ te σ2 H3 R)
    (hd : ∀ xs H1 p, Same H H1 → Deeps H1 xs ds → H1 p = none → Q (.ref p) (upd H1 p (.lst xs))) (hz : n < sizeLine) : tCompF nn fi wi g tAll te σ H Q := by
  refine compF_fix F (fun i vs H1 => Same H H1 ∧ Deeps H1 vs (ds.take i)) (fun R k => h R fun H1 S => k H1 ⟨S, .nil⟩) hfv (fun i vs H1 hi ⟨S, t⟩ => ⟨ho H1 S, by rw [t.length, List.length_take]; omega⟩) ?_ ?_ hz
  · rintro i v vs H1 H2 hi ⟨S, t⟩ it
    have e : ds[i]? = some ds[i] := List.getElem?_eq_getElem (by omega)
    exact hs i v H1 H2 _ (fun u H4 => Same H H4 ∧ Deeps H4 (vs ++ [u]) (ds.take (i + 1))) e S it fun u H4 S4 du => ⟨S.trans S4, deeps_snoc t S4 e du⟩
  · rintro vs H1 ⟨S, t⟩ p hp
    rw [List.take_of_length_le (by omega)] at t
    exact hd vs H1 p S t hp
theorem deep_tup {H : Hp} {xs : List V} {ds : List Dv} (t : Deeps H xs ds) {p : Addr} (hp : H p = none) : Deep (upd H p (.tup xs)) (.ref p) (.tup ds) := .tup upd_same (t.same (Same.new hp))
theorem deeps_ints {H : Hp} : ∀ {xs : List V} {ns : List Int}, Deeps H xs (ns.map Dv.int) → xs = ns.map V.int
  | _, [], .nil => rfl
  | _, n :: ns, .cons h t => by
    obtain rfl := h.int'
    rw [deeps_ints (ns := ns) t]
    rfl
end
section
variable {X : Cx} {K0 : PySem.W.Frag} {o e : Expr} {es : List Expr} {to : TE} {t : TA} {name : Str} {apos cpos : Pos} {T id : String} {r : V → List V → Hp → VK → Prop}
theorem pe_bmK (hK : X.K = K0) (pa : PlainAttrs T) (slot : Slot T name id) (hty : typeOf (.builtin id) = pure (.type "method_descriptor")) (hm : MtR X id r) (ho : PE X o to) (ha : PA X (e :: es) t)
    (hbase : attributeBase o name X.env (eval o X.env) = eval o X.env := by rfl)
    (hfew : ((backTo cpos (starEach (e :: es) X.env)).all (fun x => !x.1) && (backToKw cpos (keywordEach [] X.env)).all (fun x => x.1.isSome) && decide ((e :: es).length + ([] : List Keyword).length + (if ([] : List Keyword).isEmpty then 0 else 1) < 30)) = true := by rfl)
    (hline : (apos.endLine == cpos.line) = true := by rfl) (hs : starEach (e :: es) X.env = (false, eval e X.env) :: starEach es X.env := by rfl) (hplain : (backTo cpos (starEach es X.env)).any (·.1) = false := by rfl) :
    PE X (.Call (.Attribute o name apos) (e :: es) [] cpos) (tBM K0 T r to t) := by
  subst hK
  exact pe_bm pa slot hty hm ho ha hbase hfew hline hs hplain
end
theorem cb1 {r : List V → Hp → VK → Prop} {te : TE} {σ : St} {H : Hp} {Q : VK} (h : te σ H fun v H1 => r [v] H1 Q) : tCB r (tCons te tNil) σ H Q := h
theorem ret_te {te : TE} {D : Ends} {σ : St} {H : Hp} (h : te σ H D.rt) : tRet te D σ H := h
theorem rSlR.deep0 {x : V} {hi : Nat} {H : Hp} {Q : VK} {ds : List Dv} (hx : Deep H x (.tup ds)) (k : ∀ v H', Same H H' → Deep H' v (.tup (ds.take hi)) → Q v H') : rSlR x none (some (hi : Int)) H Q := by
  have h := rSlR.deep (lo := 0) (hi := hi) (Q := Q) hx (by simpa using k)
  obtain ⟨a, xs, e, h1, h2, h3⟩ := h
  refine ⟨a, xs, e, h1, fun z => h2 ?_, fun z p hp => ?_⟩
  · rw [HT.sIx_nat, Nat.zero_min]; exact ⟨rfl, z.2⟩
  · have e2 : cutV xs none (some (hi : Int)) = cutV xs (some ((0 : Nat) : Int)) (some (hi : Int)) := by unfold cutV; rw [HT.sIx_none, show HT.sIx xs.length 0 (some ((0 : Nat) : Int)) = 0 by rw [HT.sIx_nat, Nat.zero_min]]
    rw [e2]
    exact h3 (fun y => z ⟨rfl, y.2⟩) p hp
end L2

set_option Elab.async false
set_option linter.all false
set_option maxRecDepth 100000
/-! a comprehension whose walk is known only behind its iterable -/
namespace L2
open PySem PySem.Spec PyProof.Rows
theorem tCompF_of {n : Nat} {fi : List Nat} {wi : TI} {g : TG} {tt : TT} {te : TE} {Q : VK} {σ : St} {H : Hp} (h : wi σ H fun J H1 => tCompF n fi (fun _ H R => R J H) g tt te σ H1 Q) : tCompF n fi wi g tt te σ H Q := h
end L2

set_option Elab.async false
set_option linter.all false
set_option maxRecDepth 100000
namespace K34
open L2 PySem
/-- the place of a name -/
def spot (cols : List Str) (x : Str) : Nat := cols.findIdx (· == x)
def spots (cols names : List Str) : List Nat := names.map (spot cols)
theorem spot_at {cols : List Str} {x : Str} (h : cols.contains x = true) : cols[spot cols x]? = some x ∧ ∀ i, i < spot cols x → cols[i]? ≠ some x := by
  have hm : x ∈ cols := List.contains_iff_mem.mp h
  have hlt : spot cols x < cols.length := List.findIdx_lt_length_of_exists ⟨x, hm, by simp⟩
  have hg : (cols[spot cols x] == x) = true := List.findIdx_getElem (p := (· == x)) (w := hlt)
  refine ⟨by rw [List.getElem?_eq_getElem hlt, eq_of_beq hg], fun i hi e => ?_⟩
  have hi2 : i < cols.length := by omega
  rw [List.getElem?_eq_getElem hi2] at e
  have := List.not_of_lt_findIdx (p := (· == x)) hi
  rw [Option.some.inj e] at this
  simp at this
end K34
namespace Lw
open PySem PySem.Spec PyProof.Rows L2 K34
open Builtin Builtin.Str StrLaws
def amtD (p : Int × Int) : Dv := .tup [.int p.1, .int p.2]
def amtsD (l : List (Int × Int)) : Dv := .tup (l.map amtD)
section
variable {P : Program} {w : World} {K : PySem.W.Frag} {mg : Str → Option Value} {base : Heap} {f : Addr} {fd : FuncData} {tk : Nat → Tok}
def spSpots : Sp := fun vs H Q _ => ∃ (v n : V) (π : Plan) (ys : List Str), vs = [v, n] ∧ Deep H v (planD π) ∧ Deep H n (.tup (txD ys)) ∧ (∀ y ∈ ys, π.cols.contains y = true) ∧ ys.length ≤ 100 ∧ ∀ q H', Same H H' → H' q = some (.lst ((spots π.cols ys).map fun i => V.int (i : Nat))) → Q (.ref q) H'
theorem ok_spots_of (F : Fun K "spots_of" "spots_of" s_spots_of f fd) : FnOk P w K mg base (CXE P w) 1 f fd ["plan", "names"] spSpots := by
  refine okN F sc_spots_of (fun vs H Q E h => ?_) (fun cdv A outer s H vs Q E hr h => ?_)
  · obtain ⟨v, n, π, ys, rfl, _⟩ := h
    rfl
  · obtain ⟨v, n, π, ys, rfl, D, DN, hc, hl, k⟩ := h
    have hz : 1000 ≤ sizeLine := by decide
    refine ⟨_, (pss_cons (ps_set (i := 2) sc_spots_of.nd rfl (Or.inr rfl) (pe_ix ix_tupR (pv 0) pe_int (fun _ _ => rfl)))
      (pss_one (ps_ret (pe_lcompF (NB := [".0", "name"]) (FR := ["columns"]) (fi := [2]) rfl ⟨rfl, by decide +kernel, by decide +kernel, by decide +kernel, by decide +kernel, by decide +kernel⟩ rfl rfl (pi_tup (pv 1)) (fun _ _ _ => (pg_name (i := 1) (show ([".0", "name", "columns"] : List Str).Nodup by decide +kernel) rfl (Or.inl rfl))) (fun _ _ _ => pts_nil) (fun _ _ _ => (pe_bmK (K0 := K) rfl PySem.F.plainAttrs_tuple PySem.F.slot_tuple_index PySem.F.type_tuple_index mt_tindexR (pv 2) (pa_cons (pv 1) pa_nil))))))), ?_⟩
    obtain ⟨a, ac, ak, as, L⟩ := plan_at D
    obtain rfl := L.v
    obtain ⟨an, rfl, gn⟩ := tx_at DN
    have hlm : (ys.map V.str).length = ys.length := List.length_map ..
    refine ⟨_, rfl, a, _, 0, _, rfl, rfl, .inl L.a, rfl, ?_⟩
    dsimp only [gName, tAsg, tSeq, tNext]
    refine ret_te ?_
    refine compF_deep (fv := [.ref ac]) (fixT (K := K) (a := an) (xs := ys.map V.str)) ((spots π.cols ys).map fun i => Dv.int (i : Nat)) (by unfold spots; simp) (fun R h => ⟨_, rfl, an, rfl, ⟨_, .inl (.inl gn)⟩, h H (Same.refl _)⟩) rfl (fun H1 S => .inl (.inl (S _ _ gn))) ?_ ?_ (by omega)
    · rintro i v H1 H2 d R hd S ⟨rfl, hv⟩ kk
      obtain ⟨y, hy, rfl⟩ := str_at hv
      obtain ⟨e1, e2⟩ := spot_at (hc y (List.mem_of_getElem? hy))
      refine ⟨rfl, _, rfl, (.inr (.inr (.inr (.inr ⟨rfl, _, S _ _ L.c⟩)))), _, rfl, ac, π.cols, y, _, rfl, rfl, .inl (S _ _ L.c), e1, e2, ?_⟩
      refine kk _ _ (Same.refl _) ?_
      have : d = .int ((spot π.cols y : Nat) : Int) := by
        unfold spots at hd
        rw [List.getElem?_map, List.getElem?_map, hy] at hd
        exact (Option.some.inj hd).symm
      rw [this]
      exact .int
    · rintro xs H1 p S t hp
      have e : xs = (spots π.cols ys).map fun i => V.int (i : Nat) := by
        have := deeps_ints (ns := (spots π.cols ys).map fun i => ((i : Nat) : Int)) (by rw [List.map_map]; exact t)
        rw [this, List.map_map]
        rfl
      subst e
      exact k _ _ (S.trans (Same.new hp)) upd_same
def spNoS : Sp := fun vs H Q _ => ∃ (v : V) (π : Plan), vs = [v] ∧ Deep H v (planD π) ∧ π.sums.length ≤ 100 ∧ ∀ u H', Same H H' → Deep H' u (amtsD (π.sums.map fun _ => (0, 0))) → Q u H'
theorem ok_no_sums (F : Fun K "no_sums" "no_sums" s_no_sums f fd) (OT : mg "tuple" = none) : FnOk P w K mg base (CXE P w) 1 f fd ["plan"] spNoS := by
  refine okN F sc_no_sums (fun vs H Q E h => ?_) (fun cdv A outer s H vs Q E hr h => ?_)
  · obtain ⟨v, π, rfl, _⟩ := h
    rfl
  · obtain ⟨v, π, rfl, D, hl, k⟩ := h
    have hz : 1000 ≤ sizeLine := by decide
    refine ⟨_, (pss_one (ps_ret (pe_callTy call_tuple_of rfl OT PyProof.Rows.boot_tuple (pa_cons (pe_lcomp (NB := [".0", "name"]) rfl ⟨rfl, by decide +kernel, by decide +kernel, by decide +kernel⟩ (pi_tup (pe_ix ix_tupR (pv 0) pe_int (fun _ _ => rfl))) (fun _ _ _ => (pg_name (i := 1) (show ([".0", "name"] : List Str).Nodup by decide +kernel) rfl (Or.inl rfl))) (fun _ _ _ => pts_nil) (fun _ _ _ => (pe_tup (pa_cons pe_int (pa_cons pe_int pa_nil))))) pa_nil)))), ?_⟩
    obtain ⟨a, ac, ak, as, L⟩ := plan_at D
    obtain rfl := L.v
    have hlm : (π.sums.map V.str).length = π.sums.length := List.length_map ..
    refine ret_cb (cb1 ?_)
    refine comp_deep (fixT (K := K) (a := as) (xs := π.sums.map V.str)) ((π.sums.map fun _ => ((0 : Int), (0 : Int))).map amtD) (by simp) (fun R h => ⟨_, rfl, a, _, 2, _, rfl, rfl, .inl L.a, rfl, as, rfl, ⟨_, .inl (.inl L.s)⟩, h H (Same.refl _)⟩) (fun H1 S => .inl (.inl (S _ _ L.s))) ?_ ?_ (by omega)
    · rintro i v H1 H2 d R hd S ⟨rfl, hv⟩ kk
      refine ⟨by show 2 ≤ sizeLine; omega, fun p hp => kk _ _ (Same.new hp) ?_⟩
      have : d = amtD (0, 0) := by
        rw [List.getElem?_map, List.getElem?_map] at hd
        cases e : π.sums[i]? with
        | none => rw [e] at hd; cases hd
        | some y => rw [e] at hd; exact (Option.some.inj hd).symm
      rw [this]
      exact .tup upd_same (.cons .int (.cons .int .nil))
    · rintro xs H1 p S t hp
      have S2 := Same.new (o := .lst xs) hp
      refine ⟨p, xs, rfl, .inl ⟨.inl (.inl upd_same), fun l hl => ?_⟩⟩
      exact k _ _ ((S.trans S2).trans (Same.new hl)) (deep_tup (t.same S2) hl)
theorem amts_at {H : Hp} {v : V} {l : List (Int × Int)} (h : Deep H v (amtsD l)) : ∃ a xs, v = .ref a ∧ H a = some (.tup xs) ∧ Deeps H xs (l.map amtD) := Deep.tup' h
theorem amt_at {H : Hp} {v : V} {p : Int × Int} (h : Deep H v (amtD p)) : ∃ a, v = .ref a ∧ H a = some (.tup [.int p.1, .int p.2]) := dp_amt (u := p.1) (o := p.2) h
/-- the amount in a cell -/
def cellA (row : List Cell) (i : Nat) : Int × Int := match row[i]? with
  | some (.amt u o) => (u, o)
  | _ => (0, 0)
def addA (p q : Int × Int) : Int × Int := (p.1 * K01.ten (mx p.2 q.2 - p.2) + q.1 * K01.ten (mx p.2 q.2 - q.2), mx p.2 q.2)
def wRow (sp : List Nat) (row : List Cell) (l : List (Int × Int)) : List (Int × Int) := List.zipWith (fun p i => addA p (cellA row i)) l sp
/-- small: at two places no more than so many -/
def AOk (n : Nat) (p : Int × Int) : Prop := 0 ≤ p.2 ∧ p.2 ≤ 2 ∧ (p.1 * K01.ten (2 - p.2)).natAbs ≤ n * 10 ^ 4
theorem AOk.amt {n : Nat} {p : Int × Int} (h : AOk n p) (hn : n ≤ 100) {H : Hp} {a : Addr} (g : H a = some (.tup [.int p.1, .int p.2])) : Amt K H a p.1 p.2 := by
  obtain ⟨h1, h2, h3⟩ := h
  refine ⟨.inl (.inl g), ?_, h1, by omega⟩
  have ht := K01.ten_pos (2 - p.2)
  have h4 : p.1.natAbs ≤ (p.1 * K01.ten (2 - p.2)).natAbs := by
    rw [Int.natAbs_mul]
    exact Nat.le_mul_of_pos_right _ (by omega)
  have h5 : n * 10 ^ 4 ≤ 100 * 10 ^ 4 := Nat.mul_le_mul_right _ hn
  have h6 : (100 * 10 ^ 4 : Nat) < 2 ^ 200 := by decide
  omega
theorem ten_mul {a b : Int} (ha : 0 ≤ a) (hb : 0 ≤ b) : K01.ten a * K01.ten b = K01.ten (a + b) := by
  unfold K01.ten
  rw [← Int.pow_add, ← Int.toNat_add ha hb]
theorem addA_ok {n : Nat} {p q : Int × Int} (hp : AOk n p) (hq : AOk 1 q) : AOk (n + 1) (addA p q) := by
  obtain ⟨a1, a2, a3⟩ := hp
  obtain ⟨b1, b2, b3⟩ := hq
  have m1 := mx_l p.2 q.2
  have m2 := mx_r p.2 q.2
  have m3 := mx_le a2 b2
  refine ⟨by show 0 ≤ mx p.2 q.2; omega, m3, ?_⟩
  show ((p.1 * K01.ten (mx p.2 q.2 - p.2) + q.1 * K01.ten (mx p.2 q.2 - q.2)) * K01.ten (2 - mx p.2 q.2)).natAbs ≤ _
  rw [Int.add_mul, Int.mul_assoc, Int.mul_assoc, ten_mul (by omega) (by omega), ten_mul (by omega) (by omega), show mx p.2 q.2 - p.2 + (2 - mx p.2 q.2) = 2 - p.2 by omega, show mx p.2 q.2 - q.2 + (2 - mx p.2 q.2) = 2 - q.2 by omega]
  omega
def spWith (K : PySem.W.Frag) : Sp := fun vs H Q _ => ∃ (v av rv : V) (π : Plan) (l : List (Int × Int)) (row : List Cell) (n : Nat), vs = [v, av, rv] ∧ Deep H v (planD π) ∧ PlanOk π ∧ Deep H av (amtsD l) ∧ l.length = π.sums.length ∧ (∀ p ∈ l, AOk n p) ∧ n ≤ 50 ∧ Deep H rv (rowD row) ∧ RowOk π row ∧ ∀ u H', Same H H' → Deep H' u (amtsD (wRow (spots π.cols π.sums) row l)) → Q u H'
theorem sum_in {π : Plan} (Z : PlanOk π) {x : Str} (h : x ∈ π.sums) : π.cols.contains x = true := List.all_eq_true.mp Z.sub x (List.mem_append_right _ h)
theorem key_in {π : Plan} (Z : PlanOk π) {x : Str} (h : x ∈ π.keys) : π.cols.contains x = true := List.all_eq_true.mp Z.sub x (List.mem_append_left _ h)
set_option maxHeartbeats 1000000 in
theorem ok_with_row (F : Fun K "with_row" "with_row" s_with_row f fd) (OT : mg "tuple" = none) (OZ : mg "zip" = none) (D_spots_of : Def P w K mg base 1 "spots_of" ["plan", "names"] spSpots) (D_added : Def P w K mg base 4 "added" ["one", "other"] (spSum K fun x y => x + y)) : FnOk P w K mg base (CXE P w) 5 f fd ["plan", "amounts", "row"] (spWith K) := by
  refine okN F sc_with_row (fun vs H Q E h => ?_) (fun cdv A outer s H vs Q E hr h => ?_)
  · obtain ⟨v, av, rv, π, l, row, n, rfl, _⟩ := h
    rfl
  · obtain ⟨v, av, rv, π, l, row, n, rfl, D, Z, DA, hl, ha, hn, DR, Y, k⟩ := h
    have hz : 1000 ≤ sizeLine := by decide
    have z2 := Z.lu
    have z3 : π.keys.length + π.sums.length = (π.keys ++ π.sums).length := (List.length_append ..).symm
    refine ⟨_, (pss_one (ps_ret (pe_callTy call_tuple_of rfl OT PyProof.Rows.boot_tuple (pa_cons (pe_lcompF (NB := [".0", "amount", "at"]) (FR := ["row"]) (fi := [2]) rfl ⟨rfl, by decide +kernel, by decide +kernel, by decide +kernel, by decide +kernel, by decide +kernel⟩ rfl rfl (pi_zipK .tp .ls rfl OZ (pa_cons (pv 1) (pa_cons (D_spots_of.pe hr (by decide) rfl passE0 (pa_cons (pv 0) (pa_cons (pe_ix ix_tupR (pv 0) pe_int (fun _ _ => rfl)) pa_nil))) pa_nil))) (fun _ _ _ => (pg_tupK (K0 := K) (n := 2) rfl rfl (pgs_cons (pg_name (i := 1) (show ([".0", "amount", "at", "row"] : List Str).Nodup by decide +kernel) rfl (Or.inl rfl) (Or.inr rfl)) (pgs_cons (pg_name (i := 2) (show ([".0", "amount", "at", "row"] : List Str).Nodup by decide +kernel) rfl (Or.inl rfl) (Or.inr rfl)) pgs_nil)))) (fun _ _ _ => pts_nil) (fun _ _ _ => (D_added.pe hr (by decide) rfl passE0 (pa_cons (pv 1) (pa_cons (pe_ix ix_tupR (pv 3) (pv 2) (fun _ _ => rfl)) pa_nil))))) pa_nil)))), ?_⟩
    obtain ⟨a, ac, ak, as, L⟩ := plan_at D
    obtain rfl := L.v
    obtain ⟨aa, xa, rfl, ga, ta⟩ := amts_at DA
    obtain ⟨rr, xs, rfl, gr, tr⟩ := Deep.tup' DR
    have la := ta.length
    rw [List.length_map] at la
    refine ret_cb (cb1 ?_)
    have lsp : (spots π.cols π.sums).length = π.sums.length := by unfold spots; rw [List.length_map]
    refine tCompF_of ?_
    refine ⟨_, rfl, _, rfl, _, rfl, a, _, 2, _, rfl, rfl, .inl L.a, rfl, .ref a, .ref as, π, π.sums, rfl, D, L.ds, (fun y hy => sum_in Z hy), by omega, fun q H1 S1 gq => ⟨aa, q, rfl, ⟨_, .inl (S1 _ _ ga)⟩, ⟨_, .inl gq⟩, ?_⟩⟩
    have hmin : min xa.length ((spots π.cols π.sums).map fun i => V.int (i : Nat)).length = (wRow (spots π.cols π.sums) row l).length := by
      unfold wRow
      rw [List.length_map, List.length_zipWith]
      omega
    have hwl : (wRow (spots π.cols π.sums) row l).length = π.sums.length := by
      unfold wRow
      rw [List.length_zipWith]
      omega
    refine compF_deep (fv := [.ref rr]) (fixZ (k1 := .tp) (k2 := .ls) (a1 := aa) (a2 := q) (xs := xa) (ys := (spots π.cols π.sums).map fun i => V.int (i : Nat))) ((wRow (spots π.cols π.sums) row l).map amtD) (by rw [List.length_map, hmin]) (fun R h => h H1 (Same.refl _)) rfl (fun H2 S2 => ⟨.inl (S2 _ _ (S1 _ _ ga)), .inl (S2 _ _ gq)⟩) ?_ ?_ (by omega)
    · rintro i v H2 H3 d R hd S2 ⟨p, x, y, hp, rfl, hx, hy, rfl⟩ kk
      have Sp := Same.new (o := .tup [x, y]) hp
      obtain ⟨dx, hdx, ddx⟩ := ta.getX hx
      rw [List.getElem?_map] at hdx
      cases el : l[i]? with
      | none => rw [el] at hdx; cases hdx
      | some pp =>
        rw [el] at hdx
        obtain rfl := Option.some.inj hdx
        rw [List.getElem?_map] at hy
        cases es : (spots π.cols π.sums)[i]? with
        | none => rw [es] at hy; cases hy
        | some at_ =>
          rw [es] at hy
          obtain rfl := Option.some.inj hy
          obtain ⟨nm, hnm, rfl⟩ : ∃ nm, π.sums[i]? = some nm ∧ at_ = spot π.cols nm := by
            unfold spots at es
            rw [List.getElem?_map] at es
            cases e : π.sums[i]? with
            | none => rw [e] at es; cases es
            | some nm => rw [e] at es; exact ⟨nm, rfl, (Option.some.inj es).symm⟩
          obtain ⟨c1, _⟩ := spot_at (sum_in Z (List.mem_of_getElem? hnm))
          obtain ⟨u, o, hrow⟩ := Y.sm _ nm c1 (List.contains_iff_mem.mpr (List.mem_of_getElem? hnm))
          have okc := Y.ok _ (List.mem_of_getElem? hrow)
          obtain ⟨cv, hcv, dcv⟩ := tr.get (i := spot π.cols nm) (d := (Cell.amt u o).dv) (by rw [List.getElem?_map, hrow]; rfl)
          have S13 := (S1.trans S2).trans Sp
          obtain ⟨a1, rfl, g1⟩ := amt_at (ddx.same S13)
          obtain ⟨a2, rfl, g2⟩ := dp_amt (dcv.same S13)
          have A1 := (ha pp (List.mem_of_getElem? el)).amt (K := K) (by omega) g1
          have A2 : Amt K (upd H2 p (.tup [.ref a1, .int ((spot π.cols nm : Nat) : Int)])) a2 u o := AOk.amt (K := K) (n := 1) (p := (u, o)) ⟨okc.1, okc.2.1, by simpa using okc.2.2⟩ (by omega) g2
          refine ⟨p, _, rfl, .inl (.inl upd_same), rfl, _, _, rfl, _, _, rfl, rfl, rfl, ?_⟩
          refine ⟨_, rfl, _, rfl, _, rfl, rr, xs, ((spot π.cols nm : Nat) : Int), _, rfl, rfl, .inl (S13 _ _ gr), atI_nat hcv, a1, a2, pp.1, pp.2, u, o, rfl, A1, A2, fun qq H4 z S4 _ gz hzz => kk _ _ (Sp.trans S4) ?_⟩
          have ed : d = amtD (addA pp (u, o)) := by
            have e3 : (wRow (spots π.cols π.sums) row l)[i]? = some (addA pp (cellA row (spot π.cols nm))) := by
              unfold wRow
              rw [List.getElem?_zipWith, el, es]
            have e4 : cellA row (spot π.cols nm) = (u, o) := by unfold cellA; rw [hrow]
            rw [List.getElem?_map, e3, e4] at hd
            exact (Option.some.inj hd).symm
          rw [ed]
          refine .tup gz ?_
          rw [hzz]
          exact .cons .int (.cons .int .nil)
    · rintro ys H2 p S2 t hp
      have S3 := Same.new (o := .lst ys) hp
      refine ⟨p, ys, rfl, .inl ⟨.inl (.inl upd_same), fun l2 hl2 => ?_⟩⟩
      exact k _ _ (((S1.trans S2).trans S3).trans (Same.new hl2)) (deep_tup (t.same S3) hl2)
end
end Lw

set_option Elab.async false
set_option linter.all false
set_option maxRecDepth 100000
namespace Lw
open PySem PySem.Spec PyProof.Rows L2 K34
open Builtin Builtin.Str StrLaws
def zeros (π : Plan) : List (Int × Int) := π.sums.map fun _ => (0, 0)
/-- the sums of rows -/
def total (π : Plan) (rows : List (List Cell)) : List (Int × Int) := rows.foldl (fun l r => wRow (spots π.cols π.sums) r l) (zeros π)
theorem wRow_len {π : Plan} {row : List Cell} {l : List (Int × Int)} (h : l.length = π.sums.length) : (wRow (spots π.cols π.sums) row l).length = π.sums.length := by
  unfold wRow spots
  rw [List.length_zipWith, List.length_map]
  omega
theorem cell_ok {π : Plan} (Z : PlanOk π) {row : List Cell} (Y : RowOk π row) {i : Nat} (h : i ∈ spots π.cols π.sums) : AOk 1 (cellA row i) := by
  unfold spots at h
  obtain ⟨nm, hnm, rfl⟩ := List.mem_map.mp h
  obtain ⟨c1, _⟩ := spot_at (sum_in Z hnm)
  obtain ⟨u, o, hrow⟩ := Y.sm _ nm c1 (List.contains_iff_mem.mpr hnm)
  have okc := Y.ok _ (List.mem_of_getElem? hrow)
  unfold cellA
  rw [hrow]
  exact ⟨okc.1, okc.2.1, by simpa using okc.2.2⟩
theorem mem_zip {α β γ : Type} {f : α → β → γ} : ∀ {l : List α} {m : List β} {z : γ}, z ∈ List.zipWith f l m → ∃ x ∈ l, ∃ y ∈ m, z = f x y
  | [], _, _, h => by simp at h
  | _ :: _, [], _, h => by simp at h
  | x :: l, y :: m, z, h => by
    rw [List.zipWith_cons_cons] at h
    rcases List.mem_cons.mp h with rfl | h
    · exact ⟨x, List.mem_cons_self, y, List.mem_cons_self, rfl⟩
    · obtain ⟨a, ha, b, hb, e⟩ := mem_zip h
      exact ⟨a, List.mem_cons_of_mem _ ha, b, List.mem_cons_of_mem _ hb, e⟩
theorem wRow_ok {π : Plan} (Z : PlanOk π) {row : List Cell} (Y : RowOk π row) {l : List (Int × Int)} {n : Nat} (h : ∀ p ∈ l, AOk n p) : ∀ p ∈ wRow (spots π.cols π.sums) row l, AOk (n + 1) p := by
  intro p hp
  obtain ⟨x, hx, i, hi, rfl⟩ := mem_zip hp
  exact addA_ok (h x hx) (cell_ok Z Y hi)
theorem zeros_ok (π : Plan) : ∀ p ∈ zeros π, AOk 0 p := by
  intro p hp
  obtain ⟨_, _, rfl⟩ := List.mem_map.mp hp
  exact ⟨by decide, by decide, by decide⟩
theorem zeros_len (π : Plan) : (zeros π).length = π.sums.length := List.length_map ..
theorem total_len (π : Plan) (rows : List (List Cell)) : (total π rows).length = π.sums.length := by
  have : ∀ (rows : List (List Cell)) (l : List (Int × Int)), l.length = π.sums.length → (rows.foldl (fun l r => wRow (spots π.cols π.sums) r l) l).length = π.sums.length := by
    intro rows
    induction rows with
    | nil => intro l h; exact h
    | cons r rs ih => intro l h; exact ih _ (wRow_len h)
  exact this rows _ (zeros_len π)
theorem total_ok {π : Plan} (Z : PlanOk π) : ∀ (rows : List (List Cell)), (∀ r ∈ rows, RowOk π r) → ∀ p ∈ total π rows, AOk rows.length p := by
  have : ∀ (rows : List (List Cell)) (l : List (Int × Int)) (n : Nat), (∀ p ∈ l, AOk n p) → (∀ r ∈ rows, RowOk π r) → ∀ p ∈ rows.foldl (fun l r => wRow (spots π.cols π.sums) r l) l, AOk (n + rows.length) p := by
    intro rows
    induction rows with
    | nil => intro l n h _; exact h
    | cons r rs ih =>
      intro l n h hr p hp
      have := ih (wRow (spots π.cols π.sums) r l) (n + 1) (wRow_ok Z (hr r List.mem_cons_self) h) (fun q hq => hr q (List.mem_cons_of_mem _ hq)) p hp
      rw [List.length_cons, show n + (rs.length + 1) = n + 1 + rs.length by omega]
      exact this
  intro rows hr p hp
  have := this rows (zeros π) 0 (zeros_ok π) hr p hp
  rwa [Nat.zero_add] at this
theorem total_snoc (π : Plan) (rows : List (List Cell)) (r : List Cell) : total π (rows ++ [r]) = wRow (spots π.cols π.sums) r (total π rows) := by unfold total; rw [List.foldl_append]; rfl
def rowsD (rows : List (List Cell)) : Dv := .tup (rows.map rowD)
section
variable {P : Program} {w : World} {K : PySem.W.Frag} {mg : Str → Option Value} {base : Heap} {f : Addr} {fd : FuncData} {tk : Nat → Tok}
theorem rows_get {H : Hp} {xs : List V} {rows : List (List Cell)} (t : Deeps H xs (rows.map rowD)) {i : Nat} {x : V} (h : xs[i]? = some x) : ∃ r, rows[i]? = some r ∧ Deep H x (rowD r) := by
  obtain ⟨d, hd, dd⟩ := t.getX h
  rw [List.getElem?_map] at hd
  cases e : rows[i]? with
  | none => rw [e] at hd; cases hd
  | some r => rw [e] at hd; obtain rfl := Option.some.inj hd; exact ⟨r, rfl, dd⟩
def spSums : Sp := fun vs H Q _ => ∃ (v rv : V) (π : Plan) (rows : List (List Cell)), vs = [v, rv] ∧ Deep H v (planD π) ∧ PlanOk π ∧ Deep H rv (rowsD rows) ∧ (∀ r ∈ rows, RowOk π r) ∧ rows.length ≤ 40 ∧ ∀ u H', Same H H' → Deep H' u (amtsD (total π rows)) → Q u H'
theorem ok_sums_of (F : Fun K "sums_of" "sums_of" s_sums_of f fd) (D_no_sums : Def P w K mg base 1 "no_sums" ["plan"] spNoS) (D_with_row : Def P w K mg base 5 "with_row" ["plan", "amounts", "row"] (spWith K)) : FnOk P w K mg base (CXE P w) 6 f fd ["plan", "rows"] spSums := by
  refine okN F sc_sums_of (fun vs H Q E h => ?_) (fun cdv A outer s H vs Q E hr h => ?_)
  · obtain ⟨v, rv, π, rows, rfl, _⟩ := h
    rfl
  · obtain ⟨v, rv, π, rows, rfl, D, Z, DR, Y, hl, k⟩ := h
    have z2 := Z.lu
    have z3 : π.keys.length + π.sums.length = (π.keys ++ π.sums).length := (List.length_append ..).symm
    refine ⟨_, (pss_cons (ps_set (i := 2) sc_sums_of.nd rfl (Or.inl rfl) (D_no_sums.pe hr (by decide) rfl passE0 (pa_cons (pv 0) pa_nil)))
      (pss_cons (ps_for PassesOwn.never rfl (pi_tup (pv 1)) (pg_name (i := 3) sc_sums_of.nd rfl (Or.inl rfl)) (pss_one (ps_set (i := 2) sc_sums_of.nd rfl (Or.inl rfl) (D_with_row.pe hr (by decide) rfl passE0 (pa_cons (pv 0) (pa_cons (pv 2) (pa_cons (pv 3) pa_nil)))))))
      (pss_one (ps_ret (pv 2))))), ?_⟩
    obtain ⟨R, xs, rfl, gr, tr⟩ := Deep.tup' DR
    have lx := tr.length
    rw [List.length_map] at lx
    refine ⟨_, rfl, v, π, rfl, D, by omega, fun u0 H1 S1 D1 => ?_⟩
    dsimp only [gName, tAsg, tSeq, tNext]
    refine ⟨_, rfl, R, rfl, ⟨_, .inl (.inl (S1 _ _ gr))⟩, ?_⟩
    refine for_fix (fixT (K := K) (a := R) (xs := xs)) (fun i σ H2 => ∃ u x, σ = [some v, some (.ref R), some u, x] ∧ Same H H2 ∧ Deep H2 u (amtsD (total π (rows.take i)))) ⟨u0, none, rfl, S1, D1⟩ ?_ ?_ ?_
    · rintro i σ H2 _ ⟨u, x, rfl, S, _⟩
      exact .inl (.inl (S _ _ gr))
    · rintro i x σ H2 H3 hi ⟨u, x0, rfl, S, DU⟩ ⟨rfl, hx⟩
      obtain ⟨r, hr2, dr⟩ := rows_get tr hx
      have hrm := List.mem_of_getElem? hr2
      refine ⟨_, rfl, _, rfl, _, rfl, v, u, x, π, total π (rows.take i), r, (rows.take i).length, rfl, D.same S, Z, DU, total_len _ _, total_ok Z _ (fun q hq => Y q (List.mem_of_mem_take hq)), by rw [List.length_take]; omega, dr.same S, Y r hrm, fun u2 H4 S4 D4 => ?_⟩
      refine ⟨u2, _, rfl, S.trans S4, ?_⟩
      rw [List.take_add_one, hr2]
      show Deep H4 u2 (amtsD (total π (rows.take i ++ [r])))
      rw [total_snoc]
      exact D4
    · rintro σ H2 ⟨u, x, rfl, S, DU⟩
      rw [List.take_of_length_le (by omega)] at DU
      exact ⟨_, rfl, k _ _ S DU⟩
/-- alike: amounts by what they are worth -/
def alikeC : Cell → Cell → Bool
  | .amt u o, .amt v p => decide (u * K01.ten (18 - o) = v * K01.ten (18 - p))
  | .txt x, .txt y => x == y
  | _, _ => false
theorem CellOk.aok {u o : Int} (h : CellOk (.amt u o)) : AOk 1 (u, o) := ⟨h.1, h.2.1, by simpa using h.2.2⟩
def spAlike : Sp := fun vs H Q _ => ∃ (v1 v2 : V) (c1 c2 : Cell), vs = [v1, v2] ∧ Deep H v1 c1.dv ∧ Deep H v2 c2.dv ∧ CellOk c1 ∧ CellOk c2 ∧ ∀ H', Same H H' → Q (.bl (alikeC c1 c2)) H'
theorem ok_is_alike (F : Fun K "is_alike" "is_alike" s_is_alike f fd) (D_is_pair : Def P w K mg base 1 "is_pair" ["value"] spIsPair) (D_same : Def P w K mg base 4 "same" ["one", "other"] (spSame K)) : FnOk P w K mg base (CXE P w) 5 f fd ["one", "other"] spAlike := by
  refine okN F sc_is_alike (fun vs H Q E h => ?_) (fun cdv A outer s H vs Q E hr h => ?_)
  · obtain ⟨v1, v2, c1, c2, rfl, _⟩ := h
    rfl
  · obtain ⟨v1, v2, c1, c2, rfl, D1, D2, o1, o2, k⟩ := h
    refine ⟨_, (pss_cons (ps_if (PW.pt (pw_and (pt_val (D_is_pair.pe hr (by decide) rfl passE0 (pa_cons (pv 0) pa_nil))) (pw_and1 (pt_val (D_is_pair.pe hr (by decide) rfl passE0 (pa_cons (pv 1) pa_nil)))))) (pss_one (ps_ret (D_same.pe hr (by decide) rfl passE0 (pa_cons (pv 0) (pa_cons (pv 1) pa_nil))))) pss_nil)
      (pss_one (ps_ret (pe_cmpR (op_eqDp (n := 8) (hd_of hr)) (pv 0) (pv 1) (nomark _))))), ?_⟩
    have dd : ∀ c : Cell, c.dv.depth ≤ 8 := fun c => by cases c <;> simp [Cell.dv, Dv.depth, Dv.depthL]
    refine ⟨_, rfl, v1, c1, rfl, D1, _, rfl, ?_⟩
    cases c1 with
    | txt x =>
      refine iteF (iteF ⟨_, rfl, _, rfl, _, _, D1, D2, dd _, ?_⟩)
      have := k H (Same.refl _)
      cases c2 with
      | txt y => exact this
      | amt u o => exact this
    | amt u o =>
      refine iteT ⟨_, rfl, v2, c2, rfl, D2, _, rfl, ?_⟩
      cases c2 with
      | txt y => exact iteF ⟨_, rfl, _, rfl, _, _, D1, D2, dd _, k H (Same.refl _)⟩
      | amt v p =>
        obtain ⟨a1, rfl, g1⟩ := dp_amt D1
        obtain ⟨a2, rfl, g2⟩ := dp_amt D2
        exact iteT ⟨_, rfl, _, rfl, a1, a2, u, o, v, p, rfl, o1.aok.amt (K := K) (by decide) g1, o2.aok.amt (K := K) (by decide) g2, fun H' S => k H' S⟩
end
end Lw

set_option Elab.async false
set_option linter.all false
set_option maxRecDepth 100000
namespace Lw
open PySem PySem.Spec PyProof.Rows L2 K34
open Builtin Builtin.Str StrLaws
def alikeAt (r1 r2 : List Cell) (i : Nat) : Bool := match r1[i]?, r2[i]? with
  | some a, some b => alikeC a b
  | _, _ => true
/-- from which level on two rows are unlike -/
def unlike (sk : List Nat) (r1 r2 : List Cell) : Nat := sk.findIdx fun i => !alikeAt r1 r2 i
theorem unlike_at {sk : List Nat} {r1 r2 : List Cell} {i j : Nat} (hi : sk[i]? = some j) (hb : ∀ m x, m < i → sk[m]? = some x → alikeAt r1 r2 x = true) (hn : alikeAt r1 r2 j = false) : unlike sk r1 r2 = i := by
  have hlt : i < sk.length := (List.getElem?_eq_some_iff.mp hi).1
  have e : sk[i] = j := (List.getElem?_eq_some_iff.mp hi).2
  unfold unlike
  rw [List.findIdx_eq hlt]
  refine ⟨by rw [e, hn]; rfl, fun m hm => ?_⟩
  have := hb m sk[m] hm (List.getElem?_eq_getElem (by omega))
  rw [this]
  rfl
theorem unlike_none {sk : List Nat} {r1 r2 : List Cell} (hb : ∀ m x, m < sk.length → sk[m]? = some x → alikeAt r1 r2 x = true) : unlike sk r1 r2 = sk.length := by
  unfold unlike
  refine List.findIdx_eq_length.mpr fun x hx => ?_
  obtain ⟨m, hm, e⟩ := List.getElem_of_mem hx
  rw [hb m x hm (by rw [List.getElem?_eq_getElem hm, e])]
  rfl
theorem unlike_le (sk : List Nat) (r1 r2 : List Cell) : unlike sk r1 r2 ≤ sk.length := List.findIdx_le_length
theorem spot_row {π : Plan} (Z : PlanOk π) {row : List Cell} (Y : RowOk π row) {i at_ : Nat} (h : (spots π.cols π.keys)[i]? = some at_) : ∃ c, row[at_]? = some c ∧ CellOk c := by
  unfold spots at h
  rw [List.getElem?_map] at h
  cases e : π.keys[i]? with
  | none => rw [e] at h; cases h
  | some nm =>
    rw [e] at h
    obtain rfl := Option.some.inj h
    obtain ⟨c1, _⟩ := spot_at (key_in Z (List.mem_of_getElem? e))
    have hlt := (List.getElem?_eq_some_iff.mp c1).1
    have hy := Y.len
    have e2 : row[spot π.cols nm]? = some (row[spot π.cols nm]'(by omega)) := List.getElem?_eq_getElem (by omega)
    exact ⟨_, e2, Y.ok _ (List.mem_of_getElem? e2)⟩
section
variable {P : Program} {w : World} {K : PySem.W.Frag} {mg : Str → Option Value} {base : Heap} {f : Addr} {fd : FuncData} {tk : Nat → Tok}
def spUnlike : Sp := fun vs H Q _ => ∃ (v x1 x2 : V) (π : Plan) (r1 r2 : List Cell), vs = [v, x1, x2] ∧ Deep H v (planD π) ∧ PlanOk π ∧ Deep H x1 (rowD r1) ∧ RowOk π r1 ∧ Deep H x2 (rowD r2) ∧ RowOk π r2 ∧ ∀ H', Same H H' → Q (.int ((unlike (spots π.cols π.keys) r1 r2 : Nat) : Int)) H'
set_option maxHeartbeats 1000000 in
theorem ok_unlike_from (F : Fun K "unlike_from" "unlike_from" s_unlike_from f fd) (O : Own mg) (OE : mg "enumerate" = none) (D_spots_of : Def P w K mg base 1 "spots_of" ["plan", "names"] spSpots) (D_is_alike : Def P w K mg base 5 "is_alike" ["one", "other"] spAlike) : FnOk P w K mg base (CXE P w) 6 f fd ["plan", "one", "other"] spUnlike := by
  refine okN F sc_unlike_from (fun vs H Q E h => ?_) (fun cdv A outer s H vs Q E hr h => ?_)
  · obtain ⟨v, x1, x2, π, r1, r2, rfl, _⟩ := h
    rfl
  · obtain ⟨v, x1, x2, π, r1, r2, rfl, D, Z, D1, Y1, D2, Y2, k⟩ := h
    have z2 := Z.lu
    have z3 : π.keys.length + π.sums.length = (π.keys ++ π.sums).length := (List.length_append ..).symm
    refine ⟨_, (pss_cons (ps_for PassesOwn.never rfl (pi_enumK .ls rfl OE (pa_cons (D_spots_of.pe hr (by decide) rfl passE0 (pa_cons (pv 0) (pa_cons (pe_ix ix_tupR (pv 0) pe_int (fun _ _ => rfl)) pa_nil))) pa_nil)) (pg_tup rfl (pgs_cons (pg_name (i := 3) sc_unlike_from.nd rfl (Or.inl rfl)) (pgs_cons (pg_name (i := 4) sc_unlike_from.nd rfl (Or.inl rfl)) pgs_nil))) (pss_one (ps_if (pt_not (pt_val (D_is_alike.pe hr (by decide) rfl passE0 (pa_cons (pe_ix ix_tupR (pv 1) (pv 4) (fun _ _ => rfl)) (pa_cons (pe_ix ix_tupR (pv 2) (pv 4) (fun _ _ => rfl)) pa_nil))))) (pss_one (ps_ret (pv 3))) pss_nil)))
      (pss_one (ps_ret (pe_callB call_len_seq rfl O.len PySem.boot_len (pa_cons (pe_ix ix_tupR (pv 0) pe_int (fun _ _ => rfl)) pa_nil))))), ?_⟩
    obtain ⟨a, ac, ak, as, L⟩ := plan_at D
    obtain rfl := L.v
    obtain ⟨q1, xs1, rfl, g1, t1⟩ := Deep.tup' D1
    obtain ⟨q2, xs2, rfl, g2, t2⟩ := Deep.tup' D2
    have lsk : (spots π.cols π.keys).length = π.keys.length := by unfold spots; rw [List.length_map]
    refine ⟨_, rfl, _, rfl, a, _, 1, _, rfl, rfl, .inl L.a, rfl, .ref a, .ref ak, π, π.keys, rfl, D, L.dk, (fun y hy => key_in Z hy), by omega, fun q H1 S1 gq => ⟨q, rfl, ⟨_, .inl (.inl gq)⟩, ?_⟩⟩
    refine for_fix (fixN (k := .ls) (K := K) (a := q) (xs := (spots π.cols π.keys).map fun i => V.int (i : Nat))) (fun i σ H2 => ∃ y3 y4, σ = [some (.ref a), some (.ref q1), some (.ref q2), y3, y4] ∧ Same H1 H2 ∧ ∀ m x, m < i → (spots π.cols π.keys)[m]? = some x → alikeAt r1 r2 x = true) ⟨none, none, rfl, Same.refl _, fun m x hm => absurd hm (by omega)⟩ ?_ ?_ ?_
    · rintro i σ H2 _ ⟨y3, y4, rfl, S, _⟩
      exact .inl (.inl (S _ _ gq))
    · rintro i x σ H2 H3 hi ⟨y3, y4, rfl, S, hb⟩ ⟨p, x, hp, rfl, hx, rfl⟩
      rw [List.getElem?_map] at hx
      cases es : (spots π.cols π.keys)[i]? with
      | none => rw [es] at hx; cases hx
      | some at_ =>
        rw [es] at hx
        obtain rfl := Option.some.inj hx
        have Sp := Same.new (o := .tup [.int ((i : Nat) : Int), .int ((at_ : Nat) : Int)]) hp
        have S03 := (S1.trans S).trans Sp
        obtain ⟨c1, hc1, ok1⟩ := spot_row Z Y1 es
        obtain ⟨c2, hc2, ok2⟩ := spot_row Z Y2 es
        obtain ⟨w1, hw1, dw1⟩ := t1.get (i := at_) (d := c1.dv) (by rw [List.getElem?_map, hc1]; rfl)
        obtain ⟨w2, hw2, dw2⟩ := t2.get (i := at_) (d := c2.dv) (by rw [List.getElem?_map, hc2]; rfl)
        refine ⟨p, _, rfl, .inl (.inl upd_same), rfl, _, _, rfl, _, _, rfl, rfl, ?_⟩
        refine ⟨_, rfl, _, rfl, q1, xs1, _, _, rfl, rfl, .inl (S03 _ _ g1), atI_nat hw1, _, rfl, _, rfl, q2, xs2, _, _, rfl, rfl, .inl (S03 _ _ g2), atI_nat hw2, w1, w2, c1, c2, rfl, dw1.same S03, dw2.same S03, ok1, ok2, fun H4 S4 => ⟨_, rfl, ?_⟩⟩
        have ea : alikeAt r1 r2 at_ = alikeC c1 c2 := by unfold alikeAt; rw [hc1, hc2]
        cases hal : alikeC c1 c2 with
        | false =>
          refine iteT ⟨_, rfl, ?_⟩
          have := k H4 (S03.trans S4)
          rw [unlike_at es hb (by rw [ea, hal])] at this
          exact this
        | true =>
          refine iteF ⟨_, _, rfl, (S.trans Sp).trans S4, fun m x hm hx => ?_⟩
          rcases Nat.lt_or_ge m i with h | h
          · exact hb m x h hx
          · obtain rfl : m = i := by omega
            rw [es] at hx
            obtain rfl := Option.some.inj hx
            rw [ea, hal]
    · rintro σ H2 ⟨y3, y4, rfl, S, hb⟩
      rw [List.length_map] at hb
      refine ⟨_, rfl, a, _, 1, _, rfl, rfl, .inl ((S1.trans S) _ _ L.a), rfl, ak, _, rfl, .inr (.inl (.inl ((S1.trans S) _ _ L.k))), ?_⟩
      have := k H2 (S1.trans S)
      rw [unlike_none hb, lsk, ← List.length_map (as := π.keys) V.str] at this
      exact this
end
end Lw

set_option Elab.async false
set_option linter.all false
set_option maxRecDepth 100000
namespace Lw
open PySem PySem.Spec PyProof.Rows L2 K34
open Builtin Builtin.Str StrLaws
def cellD (row : List Cell) (i : Nat) : Dv := match row[i]? with
  | some c => c.dv
  | none => .non
/-- what the keys of a row are -/
def valsD (π : Plan) (row : List Cell) : List Dv := (spots π.cols π.keys).map (cellD row)
def footD (π : Plan) (row : List Cell) (since : List (List (Int × Int))) (level : Nat) : Dv := .tup [.str "foot", .str (π.keys.getD level ""), .tup ((valsD π row).take (level + 1)), amtsD (since.getD level [])]
def feetOf (π : Plan) (row : List Cell) (since : List (List (Int × Int))) (first : Nat) : List Dv := (List.range (π.keys.length - first)).map fun i => footD π row since (π.keys.length - 1 - i)
section
variable {P : Program} {w : World} {K : PySem.W.Frag} {mg : Str → Option Value} {base : Heap} {f : Addr} {fd : FuncData} {tk : Nat → Tok}
def spFeet : Sp := fun vs H Q _ => ∃ (v rv : V) (sl : Addr) (xs : List V) (π : Plan) (row : List Cell) (since : List (List (Int × Int))) (first : Nat), vs = [v, rv, .ref sl, .int (first : Nat)] ∧ Deep H v (planD π) ∧ PlanOk π ∧ Deep H rv (rowD row) ∧ RowOk π row ∧ H sl = some (.lst xs) ∧ Deeps H xs (since.map amtsD) ∧ since.length = π.keys.length ∧ first ≤ π.keys.length ∧
  ∀ q H' ys, Same H H' → H q = none → H' q = some (.lst ys) → Deeps H' ys (feetOf π row since first) → Q (.ref q) H'
set_option maxHeartbeats 1000000 in
theorem ok_feet (F : Fun K "feet" "feet" s_feet f fd) (O : Own mg) (OT : mg "tuple" = none) (D_spots_of : Def P w K mg base 1 "spots_of" ["plan", "names"] spSpots) : FnOk P w K mg base (CXE P w) 2 f fd ["plan", "row", "since", "first"] spFeet := by
  refine okN F sc_feet (fun vs H Q E h => ?_) (fun cdv A outer s H vs Q E hr h => ?_)
  · obtain ⟨v, rv, sl, xs, π, row, since, first, rfl, _⟩ := h
    rfl
  · obtain ⟨v, rv, sl, xs, π, row, since, first, rfl, D, Z, DR, Y, gs, ts, hsl, hf, k⟩ := h
    have hz : 1000 ≤ sizeLine := by decide
    have z2 := Z.lu
    have z3 : π.keys.length + π.sums.length = (π.keys ++ π.sums).length := (List.length_append ..).symm
    refine ⟨_, (pss_cons (ps_set (i := 4) sc_feet.nd rfl (Or.inr rfl) (pe_ix ix_tupR (pv 0) pe_int (fun _ _ => rfl)))
      (pss_cons (ps_set (i := 5) sc_feet.nd rfl (Or.inr rfl) (pe_callTy call_tuple_of rfl OT PyProof.Rows.boot_tuple (pa_cons (pe_lcompF (NB := [".0", "at"]) (FR := ["row"]) (fi := [1]) rfl ⟨rfl, by decide +kernel, by decide +kernel, by decide +kernel, by decide +kernel, by decide +kernel⟩ rfl rfl (pi_list (D_spots_of.pe hr (by decide) rfl passE0 (pa_cons (pv 0) (pa_cons (pv 4) pa_nil)))) (fun _ _ _ => (pg_name (i := 1) (show ([".0", "at", "row"] : List Str).Nodup by decide +kernel) rfl (Or.inl rfl))) (fun _ _ _ => pts_nil) (fun _ _ _ => (pe_ix ix_tupR (pv 2) (pv 1) (fun _ _ => rfl)))) pa_nil)))
      (pss_one (ps_ret (pe_lcompF (NB := [".0", "level"]) (FR := ["keys", "since", "values"]) (fi := [4, 2, 5]) rfl ⟨rfl, by decide +kernel, by decide +kernel, by decide +kernel, by decide +kernel, by decide +kernel⟩ rfl rfl (pi_rev rfl rfl O.reversed rfl O.range (pa_cons (pv 3) (pa_cons (pe_callB call_len_seq rfl O.len PySem.boot_len (pa_cons (pv 4) pa_nil)) pa_nil))) (fun _ _ _ => (pg_name (i := 1) (show ([".0", "level", "keys", "since", "values"] : List Str).Nodup by decide +kernel) rfl (Or.inl rfl))) (fun _ _ _ => pts_nil) (fun _ _ _ => (pe_tup (pa_cons pe_str (pa_cons (pe_ix ix_tupR (pv 2) (pv 1) (fun _ _ => rfl)) (pa_cons (pe_slice sl_tupR (pv 4) po_none (po_some (pe_op op_add (pv 1) pe_int))) (pa_cons (pe_ix ix_listR (pv 3) (pv 1) (fun _ _ => rfl)) pa_nil))))))))))), ?_⟩
    obtain ⟨a, ac, ak, as, L⟩ := plan_at D
    obtain rfl := L.v
    obtain ⟨rr, rx, rfl, gr, tr⟩ := Deep.tup' DR
    have lsk : (spots π.cols π.keys).length = π.keys.length := by unfold spots; rw [List.length_map]
    have lxs := ts.length
    rw [List.length_map] at lxs
    refine ⟨_, rfl, a, _, 1, _, rfl, rfl, .inl L.a, rfl, ?_⟩
    dsimp only [gName, tAsg, tSeq, tNext]
    refine cb1 (tCompF_of ?_)
    refine ⟨_, rfl, _, rfl, .ref a, .ref ak, π, π.keys, rfl, D, L.dk, (fun y hy => key_in Z hy), by omega, fun q H1 S1 gq => ⟨q, rfl, ⟨_, .inl (.inl gq)⟩, ?_⟩⟩
    refine compF_deep (fv := [.ref rr]) (fixL (K := K) (a := q) (xs := (spots π.cols π.keys).map fun i => V.int (i : Nat))) (valsD π row) (by unfold valsD; rw [List.length_map, List.length_map]) (fun R h => h H1 (Same.refl _)) rfl (fun H2 S2 => .inl (.inl (S2 _ _ gq))) ?_ ?_ (by rw [List.length_map]; omega)
    · rintro i v H2 H3 d R hd S2 ⟨rfl, hv⟩ kk
      rw [List.getElem?_map] at hv
      unfold valsD at hd
      rw [List.getElem?_map] at hd
      cases es : (spots π.cols π.keys)[i]? with
      | none => rw [es] at hv; cases hv
      | some at_ =>
        rw [es] at hv hd
        obtain rfl := Option.some.inj hv
        obtain ⟨c1, hc1, ok1⟩ := spot_row Z Y es
        obtain ⟨w1, hw1, dw1⟩ := tr.get (i := at_) (d := c1.dv) (by rw [List.getElem?_map, hc1]; rfl)
        refine ⟨rfl, _, rfl, _, rfl, rr, rx, _, _, rfl, rfl, .inl ((S1.trans S2) _ _ gr), atI_nat hw1, kk _ _ (Same.refl _) ?_⟩
        have : d = c1.dv := by
          have e2 := Option.some.inj hd
          rw [← e2]
          show cellD row at_ = _
          unfold cellD
          rw [hc1]
        rw [this]
        exact dw1.same (S1.trans S2)
    · rintro vx H2 p S2 tv hp
      have S3 := Same.new (o := .lst vx) hp
      refine ⟨p, vx, rfl, .inl ⟨.inl (.inl upd_same), fun l2 hl2 => ?_⟩⟩
      have S4 := Same.new (o := .tup vx) hl2
      have DV : Deep (upd (upd H2 p (.lst vx)) l2 (.tup vx)) (.ref l2) (.tup (valsD π row)) := deep_tup (tv.same S3) hl2
      have S04 := ((S1.trans S2).trans S3).trans S4
      generalize upd (upd H2 p (.lst vx)) l2 (.tup vx) = H4 at DV S04 S4
      dsimp only [gName, tAsg, tSeq, tNext]
      refine ret_te (tCompF_of ?_)
      have L4 := L.same S04
      have hkl : (π.keys.map V.str).length = π.keys.length := List.length_map ..
      refine ⟨_, rfl, _, rfl, ak, _, rfl, .inr (.inl (.inl L4.k)), ((first : Nat) : Int), (((π.keys.map V.str).length : Nat) : Int), rfl, ⟨by omega, by omega, by omega, by omega⟩, ?_⟩
      have en : ((((π.keys.map V.str).length : Nat) : Int) - ((first : Nat) : Int)).toNat = π.keys.length - first := by omega
      rw [en]
      refine compF_deep (fv := [.ref ak, .ref sl, .ref l2]) (fixR3 (lo := ((first : Nat) : Int) + ((π.keys.length - first : Nat) : Int) - 1) (c := -1) (n := π.keys.length - first)) (feetOf π row since first) (by unfold feetOf; rw [List.length_map, List.length_range]) (fun R h => h H4 (Same.refl _)) rfl (fun H5 S5 => trivial) ?_ ?_ (by omega)
      · rintro i v H5 H6 d R hd S5 ⟨rfl, rfl⟩ kk
        unfold feetOf at hd
        rw [List.getElem?_map] at hd
        have hi : i < π.keys.length - first := by
          rcases Nat.lt_or_ge i (π.keys.length - first) with h | h
          · exact h
          · rw [List.getElem?_eq_none (by rw [List.length_range]; exact h)] at hd
            cases hd
        rw [List.getElem?_range hi] at hd
        obtain rfl : d = footD π row since (π.keys.length - 1 - i) := (Option.some.inj hd).symm
        have elv : ((first : Nat) : Int) + ((π.keys.length - first : Nat) : Int) - 1 + ((i : Nat) : Int) * (-1) = ((π.keys.length - 1 - i : Nat) : Int) := by omega
        rw [elv]
        generalize hlv : π.keys.length - 1 - i = lv at kk ⊢
        have hlt : lv < π.keys.length := by omega
        have ek : π.keys[lv]? = some (π.keys.getD lv "") := by
          rw [List.getD_eq_getElem?_getD, List.getElem?_eq_getElem hlt]
          rfl
        have esn : since[lv]? = some (since.getD lv []) := by
          rw [List.getD_eq_getElem?_getD, List.getElem?_eq_getElem (by omega)]
          rfl
        obtain ⟨sv, hsv, dsv⟩ := ts.get (i := lv) (d := amtsD (since.getD lv [])) (by rw [List.getElem?_map, esn]; rfl)
        have S06 := S04.trans S5
        refine ⟨rfl, ?_⟩
        refine ⟨_, rfl, _, rfl, ak, _, _, _, rfl, rfl, .inl (S06 _ _ L.k), atI_nat (v := .str (π.keys.getD lv "")) (by rw [List.getElem?_map, ek]; rfl), ?_⟩
        refine ⟨_, rfl, _, rfl, _, _, rfl, rfl, _, rfl, ?_⟩
        have e1 : ((lv : Nat) : Int) + 1 = ((lv + 1 : Nat) : Int) := by omega
        rw [e1]
        refine rSlR.deep0 (DV.same S5) fun u H7 S7 DU => ?_
        refine ⟨_, rfl, _, rfl, sl, xs, _, sv, rfl, rfl, .inl (S7 _ _ (S06 _ _ gs)), atI_nat hsv, ?_⟩
        refine ⟨by show 4 ≤ sizeLine; omega, fun p8 hp8 => kk _ _ (S7.trans (Same.new hp8)) ?_⟩
        have S8 := Same.new (o := .tup [.str "foot", .str (π.keys.getD lv ""), u, sv]) hp8
        exact .tup upd_same (.cons .str (.cons .str (.cons (DU.same S8) (.cons (dsv.same ((S06.trans S7).trans S8)) .nil))))
      · rintro ys H5 p8 S5 t8 hp8
        have S8 := Same.new (o := .lst ys) hp8
        refine k p8 _ ys ((S04.trans S5).trans S8) ?_ upd_same (t8.same S8)
        cases e : H p8 with
        | none => rfl
        | some o => rw [(S04.trans S5) _ _ e] at hp8; cases hp8
end
end Lw

set_option Elab.async false
set_option linter.all false
set_option maxRecDepth 100000
/-! a name set to a comprehension whose block reads names of the def -/
namespace L2
open PySem PySem.Spec PyProof.Rows
section
variable {X : Cx}
theorem ps_lcompF {elt tg iter : Expr} {ifs : List Expr} {scope : Scope} {pos spos py : Pos} {NB FR : List Str} {fi : List Nat} {wi : TI} {g : TG} {tt : TT} {te : TE} {iy : Nat} {y : Str} (hc : X.calm = true) (S : BlkScopeF NB FR scope) (hfree : freeIn scope X.env.scope = true) (hfi : fi.map (fun i => X.N[i]?) = FR.map some) (hi : PI X tg iter wi)
    (hg : ∀ s H ex, PG (cxBlkF X (NB ++ FR) scope s H ex) tg g) (ht : ∀ s H ex, PTs (cxBlkF X (NB ++ FR) scope s H ex) ifs tt) (he : ∀ s H ex, PE (cxBlkF X (NB ++ FR) scope s H ex) elt te)
    (hN : X.N.Nodup) (hiy : X.N[iy]? = some y) (hy : Loc X.env.scope y) (hsw : swapsWith (.ListComp elt [⟨tg, iter, ifs, 0⟩] scope pos) (some (.Name y py)) spos.line X.env = pure true)
    (hs : ∀ x, foldedSetIterable iter X.env x = pure x := by intro _; rfl) (hf : X.fn y = true ∨ X.env.scope.names.lookup y = some .local := by first | exact .inl rfl | exact .inr rfl | assumption) :
    PS X (.Assign [.Name y py] (.ListComp elt [⟨tg, iter, ifs, 0⟩] scope pos) spos) (tAsg (tCompF NB.length fi wi g tt te) (gName iy)) := by
  intro pins s σ H Dn I h
  have hfc : ∀ y ∈ scope.names, y.2 = .free → X.env.scope.names.lookup y.1 = some .cell := freeIn_at hfree
  have hasF : ∀ y ∈ scope.names, y.2 = .free → ∃ c, X.env.cells.lookup y.1 = some c := fun y hy e => I.ok.has y.1 (.inl (hfc y hy e))
  have clook : ∀ y c, (closOf X.env.cells scope.names []).lookup y = some c → X.env.cells.lookup y = some c := fun y c e => clos_look scope.names [] hasF (fun z => nomatch z) e
  rw [exec_Assign_Name_used _ _ _ _ hsw]
  refine wpAny_bind (wpAny_standAt (wpAny_bind ?_))
  show wpAny _ X.A (do let _ ← comprehension (.ListComp elt [⟨tg, iter, ifs, 0⟩] scope pos) scope X.env _ (newList []) false (eval iter X.env) (some (assign (.Name y py) X.env))) _ _ s
  refine wpAny_bind (wpAny_mono (wpAny_comprehension_free (use := some (assign (.Name y py) X.env)) (Q := fun _ s' => SP X pins Dn .next s') (cl := closOf X.env.cells scope.names []) rfl hs (closureFor_eq hasF) S.kind S.loc (thn (hi pins s σ H _ I h) fun v s1 h1 => thn h1 fun itv s2 h2 => ?_)) (fun _ s' hq => wpAny_pure (wpAny_pure hq)) fun _ _ e => e)
  obtain ⟨it, fp, tn, J, H2, e, I2, T, st2, f2, fv, hfv, W, ⟨m0, w0⟩, turn⟩ := h2
  subst e
  refine wpAny_newObj_type ?_
  have up2 : ∀ b o, s2.heap.get? b = some o → (s2.heap.push { cls := .type "list", data := .seq ([] : List Value).toArray }).get? b = some o := fun b o e => Heap.get?_push_of_some _ e
  have I3 : Inv X pins σ H2 { s2 with heap := s2.heap.push { cls := .type "list", data := .seq ([] : List Value).toArray } } := I2.kept (t' := s2.toks) up2
  have st3 : tn 0 (s2.heap.push { cls := .type "list", data := .seq ([] : List Value).toArray }) := T.keep _ _ _ st2 fun b _ o e => up2 b o e
  have hD3 : (s2.heap.push { cls := .type "list", data := .seq ([] : List Value).toArray }).get? s2.heap.objs.size = some (lstO []) := Heap.get?_push_size _ rfl
  have hD2 : H2 s2.heap.objs.size = none := I2.hok.fresh (Nat.le_refl _)
  have lt2 : ∀ b o, s2.heap.get? b = some o → b ≠ s2.heap.objs.size := fun b o e => Nat.ne_of_lt (Heap.lt_size e)
  have fpO : ∀ b ∈ fp, ∃ o, s2.heap.get? b = some o := fun b hb => let ⟨o, e, _⟩ := T.obj _ _ st2 b hb; ⟨o, e⟩
  have hDs0 : X.s₀.heap.objs.size ≤ s2.heap.objs.size := I2.sz
  have hDL : s2.heap.objs.size ≠ X.env.locals := Nat.ne_of_gt I2.lt
  have hDC : ∀ x c, X.env.cells.lookup x = some c → c ≠ s2.heap.objs.size := fun x c e => let ⟨v, o, e1, _⟩ := I2.cell x c e; lt2 c o e1
  have hDp : ∀ p ∈ X.pn ++ pins, p.1 ≠ s2.heap.objs.size := fun p hp => lt2 p.1 _ (I2.pin p hp).1
  have hDf : s2.heap.objs.size ∉ frs X.stack := fun z => let ⟨o, e, _⟩ := (I2.stack.mem z).2; lt2 _ o e rfl
  generalize hS3 : ({ s2 with heap := s2.heap.push { cls := .type "list", data := .seq ([] : List Value).toArray } } : Shared) = s3 at I3 ⊢
  have hh3 : s3.heap = s2.heap.push { cls := .type "list", data := .seq ([] : List Value).toArray } := by rw [← hS3]
  rw [← hh3] at st3 hD3 up2
  generalize s2.heap.objs.size = D at hD3 hD2 lt2 hDs0 hDL hDC hDp hDf ⊢
  refine wpAny_newBlockF S.kind S.nocell fun cenv s4 hce x4 => ?_
  subst hce
  have lt3 : ∀ b o, s3.heap.get? b = some o → b < s3.heap.objs.size := fun b o e => Heap.lt_size e
  have fp3 : ∀ b ∈ fp, b < s3.heap.objs.size := fun b hb => let ⟨o, e⟩ := fpO b hb; lt3 b o (up2 b o e)
  have dl3 : D < s3.heap.objs.size := lt3 D _ hD3
  have DfpN : ∀ b ∈ fp, b ≠ D := fun b hb => let ⟨o, e⟩ := fpO b hb; lt2 b o e
  obtain ⟨h4, tk4, rfl, hk4⟩ := x4.done
  have bsN : ∀ b o, X.base.get? b = some o → b ∉ D :: fp := fun b o e hb => by
    rcases List.mem_cons.mp hb with rfl | hb
    · exact absurd (Nat.lt_of_lt_of_le (Heap.lt_size (I2.ok.bs b o e).1) hDs0) (Nat.lt_irrefl _)
    · obtain ⟨_, _, _, f3, _⟩ := f2 b hb
      rcases f3 with z | z
      · exact I2.ok.noex b o e z
      · exact absurd (Nat.lt_of_lt_of_le (Heap.lt_size (I2.ok.bs b o e).1) z) (Nat.lt_irrefl _)
  have exF : ∀ b ∈ D :: fp, b ∉ frs X.stack := fun b hb hf => by
    rcases List.mem_cons.mp hb with rfl | hb
    · exact hDf hf
    · obtain ⟨_, f1, f2', _⟩ := f2 b hb
      rcases List.mem_cons.mp (I2.stkSub b hf) with z | z
      · exact f1 z
      · exact f2' z
  have ccl : ∀ y c, (closOf X.env.cells scope.names []).lookup y = some c → (∃ v, s3.heap.IsCell c v) ∧ H2 c = none ∧ c ≠ D ∧ ∀ b ∈ fp, c ≠ b := fun y c e => by
    have e' := clook y c e
    exact ⟨I3.cell y c e', I3.freeC y c e', hDC y c e', fun b hb => (f2 b hb).2.2.2.2.1 y c e'⟩
  have clt : ∀ y c, (closOf X.env.cells scope.names []).lookup y = some c → c < s3.heap.objs.size := fun y c e => let ⟨⟨v, o, ho, _⟩, _⟩ := ccl y c e; lt3 c o ho
  have exLt : ∀ b ∈ D :: fp, b < s3.heap.objs.size := fun b hb => by
    rcases List.mem_cons.mp hb with rfl | hb
    · exact dl3
    · exact fp3 b hb
  have okB : (cxBlkF X (NB ++ FR) scope s3 H2 (D :: fp)).Ok := by
    refine ⟨I3.ok.mod, S.kind, I3.ok.glob, I3.ok.blt, Nat.le_refl _, fun y z c h1 h2 => ?_, fun y hy => ?_, (fun y c z _ => nomatch z), I3.ok.hd, I3.ok.frames, .inl rfl, fun b hb => ⟨Nat.ne_of_lt (exLt b hb), fun y c e z => ?_⟩, I3.bs, Nat.le_trans I3.ok.bsz I3.sz, bsN, exF, I3.stack, I3.stkFree⟩
    · exact I3.ok.inj y z c (clook y c h1) (clook z c h2)
    · exact clos_has scope.names [] (.inr (relabel_free S.nocell hy))
    · obtain ⟨_, _, n1, n2⟩ := ccl y c e
      rcases List.mem_cons.mp hb with q | q
      · exact n1 (z.trans q)
      · exact n2 b q z
  have hlen0 : (List.replicate NB.length (none : Option V) ++ fv.map some).length = (NB ++ FR).length := by
    have h1 := congrArg List.length hfv
    have h2 := congrArg List.length hfi
    simp only [List.length_map] at h1 h2
    rw [List.length_append, List.length_append, List.length_replicate, List.length_map]
    omega
  have rep : ∀ (j : Nat) (v : V), (List.replicate NB.length (none : Option V) ++ fv.map some)[j]? = some (some v) → ∃ k, j = NB.length + k ∧ fv[k]? = some v := fun j v z => by
    rw [List.getElem?_append] at z
    split at z
    · rw [List.getElem?_replicate] at z
      split at z <;> cases z
    · rename_i hj
      rw [List.length_replicate] at hj z
      refine ⟨j - NB.length, by omega, ?_⟩
      rw [List.getElem?_map] at z
      cases e : fv[j - NB.length]? with
      | none => rw [e] at z; cases z
      | some y => rw [e] at z; exact congrArg some (Option.some.inj (Option.some.inj z))
  have fvAt : ∀ (k : Nat) (v : V) (y : Str), fv[k]? = some v → FR[k]? = some y → ∃ i, X.N[i]? = some y ∧ σ[i]? = some (some v) := fun k v y h1 h2 => by
    have a1 := congrArg (fun l => l[k]?) hfv
    have a2 := congrArg (fun l => l[k]?) hfi
    simp only [List.getElem?_map, h1, h2] at a1 a2
    cases e : fi[k]? with
    | none => rw [e] at a1; cases a1
    | some i =>
      rw [e] at a1 a2
      exact ⟨i, Option.some.inj a2, Option.some.inj a1⟩
  have IB : Inv (cxBlkF X (NB ++ FR) scope s3 H2 (D :: fp)) [(D, lstO [])] (List.replicate NB.length none ++ fv.map some) H2 { s3 with heap := h4, toks := tk4 } := by
    refine ⟨okB, rfl, I3.bare, Un.kept hk4, ⟨_, x4.ns, fun i y v h1 h2 h3 => ?_⟩, fun y c h => let ⟨⟨v, o, ho, hd⟩, _⟩ := ccl y c h; ⟨v, o, hk4 _ _ ho, hd⟩, I3.hok.fresh (Nat.le_refl _), fun y c h => (ccl y c h).2.1, fun p hp => ?_, I3.hok.kept hk4, hlen0⟩
    · obtain ⟨k, rfl, hk⟩ := rep i v h2
      have hy : FR[k]? = some y := by
        have h1 : (NB ++ FR)[NB.length + k]? = some y := h1
        rw [List.getElem?_append_right (Nat.le_add_right _ _), Nat.add_sub_cancel_left] at h1
        exact h1
      obtain ⟨io, hN, hσ⟩ := fvAt k v y hk hy
      have hfr : (y, NameKind.free) ∈ scope.names := S.fr y (List.mem_of_getElem? hy)
      obtain ⟨m, _, hl⟩ := I3.loc
      obtain ⟨u, r, l⟩ := hl io y v hN hσ (.inr (.inl (hfc _ hfr rfl)))
      refine ⟨u, r, .inr ⟨.inl ?_, ?_⟩⟩
      · exact relabel_cell S.nd2 hfr (by show (X.env.scope.kind == .function) = true; rw [I3.ok.kind]; rfl) (hfc _ hfr rfl)
      · obtain ⟨c, hc1⟩ := clos_has (cells := X.env.cells) (x := y) scope.names [] (.inr hfr)
        refine ⟨c, hc1, ?_⟩
        have hc2 := clook y c hc1
        rcases l with ⟨hk, _⟩ | ⟨_, c', hc', o, ho, hd⟩
        · have e1 := hfc _ hfr rfl
          rw [show X.env.kindOf y = X.env.scope.names.lookup y from rfl] at hk
          rw [hk] at e1
          cases e1
        · rw [hc2] at hc'
          cases hc'
          exact ⟨o, hk4 _ _ ho, hd⟩
    obtain rfl : p = (D, lstO []) := by simpa using hp
    exact ⟨hk4 _ _ hD3, hD2, Nat.ne_of_lt dl3, hDf, fun v z => nomatch z⟩
  -- what stays true of the iterator's objects
  have stat : ∀ {H' : Hp} {ys : List Value}, (∀ b ∈ fp, H' b = none) → ∀ b ∈ fp, FpOk (cxBlkF X (NB ++ FR) scope s3 H2 (D :: fp)) [(D, lstO ys)] H' b := fun hn b hb =>
    ⟨hn b hb, Nat.ne_of_lt (fp3 b hb), exF b (List.mem_cons_of_mem _ hb), .inl (List.mem_cons_of_mem _ hb), fun y c e z => (ccl y c e).2.2.2 b hb z, fun p hp => by
        obtain rfl : p = (D, _) := by simpa using hp
        exact (DfpN b hb).symm⟩
  have st4 : tn 0 h4 := T.keep _ _ _ st3 fun b _ o e => hk4 b o e
  have fr4 : ∀ b ∈ fp, H2 b = none := fun b hb => (f2 b hb).1
  have hcB : (cxBlkF X (NB ++ FR) scope s3 H2 (D :: fp)).calm = true := hc
  have loop : codeAny (model X.prog X.w) X.A (.compLoop (.ListComp elt [⟨tg, iter, ifs, 0⟩] scope pos) 0 (.ref it) (.ref D) (blkEnvF scope X.env s3.heap.objs.size))
      (compPost (model X.prog X.w) X.A X.xe (some (assign (.Name y py) X.env)) (fun _ s' => SP X pins Dn .next s') (.ref D) s3.heap.objs.size) { s3 with heap := h4, toks := tk4 } := by
    refine comp_loop (fun n s' => ∃ i vs ys H', Inv (cxBlkF X (NB ++ FR) scope s3 H2 (D :: fp)) [(D, lstO ys)] (List.replicate NB.length none ++ fv.map some) H' s' ∧ Vals vs ys ∧ vs.length ≤ sizeLine ∧ tn i s'.heap ∧ (∀ b ∈ fp, H' b = none) ∧ W i n vs H') ?_ m0 ⟨0, [], [], H2, IB, .nil, Nat.zero_le _, st4, fr4, w0⟩
    rintro n s5 ⟨i, vs, ys, H5, I5, rv, hvl, st5, fr5, w5⟩
    rcases turn i n vs H5 w5 with ⟨stop, qn⟩ | ⟨go, hlt, N, hN, step⟩
    · refine wpAny_mono (T.done (cxBlkF X (NB ++ FR) scope s3 H2 (D :: fp)) rfl rfl rfl hcB i _ s5 _ H5 (fun _ _ => False) I5 (stat fr5) st5 stop) (fun r s6 ⟨hr, I6⟩ => ?_) (fun _ _ z => z.elim)
      subst hr
      obtain ⟨m6, hn6, _⟩ := id I6.loc
      have hC6 : H5 s3.heap.objs.size = none := I6.free
      have un7 : Un (frs X.stack) (D :: fp) H2 H5 s3.heap s6.heap := I6.base
      have I7 : Inv X pins σ H5 s6 := I3.call' (s' := s6) I6.os un7 I6.hok I6.bare fun b hb => by
        rcases List.mem_cons.mp hb with rfl | hb
        · exact ⟨.inr hDs0, hDL, hDC, hDp⟩
        · obtain ⟨_, f1, _, f3, f4, f5⟩ := f2 b hb
          exact ⟨f3, f1, f4, f5⟩
      obtain ⟨eD, nD, _⟩ := I6.pin (D, lstO ys) (by simp)
      have nD' : H5 D = none := nD
      have eD' : s6.heap.get? D = some (lstO ys) := eD
      have hD0 : X.s₀.heap.get? D = none := by
        cases q : X.s₀.heap.get? D with
        | none => rfl
        | some o => exact absurd (Nat.lt_of_lt_of_le (Heap.lt_size q) hDs0) (Nat.lt_irrefl _)
      have I8 : Inv X pins σ (upd H5 D (.lst vs)) s6 := I7.track nD' hD0 hDL hDC hDp ⟨hvl, ys, ys.length, rv, eD'⟩
      have hq := qn D nD'
      have s03 : X.s₀.heap.objs.size ≤ s3.heap.objs.size := I3.sz
      have cL : s3.heap.objs.size ≠ X.env.locals := Nat.ne_of_gt I3.lt
      have cC : ∀ x c, X.env.cells.lookup x = some c → c ≠ s3.heap.objs.size := fun x c e => let ⟨v, o, e1, _⟩ := I3.cell x c e; Nat.ne_of_lt (lt3 c o e1)
      have cP : ∀ p ∈ X.pn ++ pins, p.1 ≠ s3.heap.objs.size := fun p hp => Nat.ne_of_lt (lt3 p.1 _ (I3.pin p hp).1)
      show wpAny (model X.prog X.w) X.A (assign (.Name y py) X.env (.ref D)) _ X.xe s6
      refine wpAny_assign_Name (store_ok2 (v := .ref D) I8 hN hiy hy rfl (fun s9 I9 ⟨a9, sb9, ha9⟩ => ?_) hf)
      have na : s3.heap.objs.size ≠ a9 := by
        rcases ha9 with rfl | z
        · exact cL
        · exact (cC y a9 z).symm
      refine ⟨m6, hn6.sameBut sb9 na, fun h10 sb10 => ⟨_, _, ?_, hq⟩⟩
      have hD3' : upd H5 D (.lst vs) s3.heap.objs.size = none := by rw [upd_ne (Nat.ne_of_gt dl3)]; exact hC6
      exact (I9.turned (h' := h10) (t' := s9.toks) (it := s3.heap.objs.size) (fun b o hb e => (sb10.2 b hb).trans e) hD3' cL (.inr s03) cC cP :)
    · refine wpAny_mono (T.item (cxBlkF X (NB ++ FR) scope s3 H2 (D :: fp)) rfl rfl rfl hcB i _ s5 _ H5 (fun _ _ => False) I5 (stat fr5) st5 go) (fun r s6 ⟨u, hr, h6⟩ => ?_) (fun _ _ z => z.elim)
      subst hr
      refine wpAny_mono h6 (fun _ s7 ⟨x, H7, I7, r7, y7, st7, fr7⟩ => ?_) (fun _ _ z => z.elim)
      have I7' := I7.pinned (stat fr7) (T.obj _ _ st7)
      refine wpAny_mono (hg s3 H2 (D :: fp) _ s7 _ H7 x u _ I7' r7 (step x H7 y7)) (fun _ s8 ⟨σ8, H8, I8, hk8, q8⟩ => ?_) (fun _ _ z => z.elim)
      refine wpAny_mono (ht s3 H2 (D :: fp) _ s8 σ8 H8 _ I8 q8) (fun ok s9 ⟨H9, I9, q9⟩ => ?_) (fun _ _ z => z.elim)
      have fpK : ∀ {σ' : St} {H' : Hp} {s' : Shared}, Inv (cxBlkF X (NB ++ FR) scope s3 H2 (D :: fp)) ([(D, lstO ys)] ++ pinsAt fp s7.heap) σ' H' s' → tn (i + 1) s'.heap ∧ ∀ b ∈ fp, H' b = none := fun J =>
        ⟨T.keep _ _ _ st7 fun b hb o e => (J.pin (b, o) (List.mem_append_right _ (List.mem_append_right _ (mem_pinsAt hb e)))).1, fun b hb => by
          obtain ⟨o, e, d⟩ := T.obj _ _ st7 b hb
          exact (J.pin (b, o) (List.mem_append_right _ (List.mem_append_right _ (mem_pinsAt hb e)))).2.1⟩
      have wk : ∀ {H' : Hp} {s' : Shared} {pl : List (Addr × Obj)}, Inv (cxBlkF X (NB ++ FR) scope s3 H2 (D :: fp)) pl σ8 H' s' → Inv (cxBlkF X (NB ++ FR) scope s3 H2 (D :: fp)) pl (List.replicate NB.length none ++ fv.map some) H' s' := fun J =>
        J.weak (hlen0.trans J.len.symm) fun j v z => by
          obtain ⟨k, rfl, hk⟩ := rep j v z
          have := congrArg (fun l => l[k]?) hk8
          simp only [List.getElem?_drop, List.getElem?_map, hk] at this
          exact this
      cases ok with
      | false =>
        rw [if_neg (by decide)] at q9
        rw [if_neg (by decide)]
        obtain ⟨m', hm, w9⟩ := hN vs H9 q9
        obtain ⟨t9, f9⟩ := fpK I9
        exact ⟨m', hm, i + 1, vs, ys, H9, wk I9.unpinned, rv, hvl, t9, f9, w9⟩
      | true =>
        rw [if_pos rfl] at q9
        rw [if_pos rfl]
        refine wpAny_mono (he s3 H2 (D :: fp) _ s9 σ8 H9 _ I9 q9) (fun y s10 ⟨v, H10, I10, rv10, q10⟩ => ?_) (fun _ _ z => z.elim)
        obtain ⟨eD, nD, _, nf, _⟩ := I10.pin (D, lstO ys) (by simp)
        have hyl := rv.length
        refine append_at (hsz := by show ys.toArray.size ≤ sizeLine; rw [List.size_toArray, ← hyl]; exact hvl) eD fun h11 sb11 hD11 => ?_
        obtain ⟨m', hm, w11⟩ := hN (vs ++ [v]) H10 q10
        obtain ⟨t10, f10⟩ := fpK I10
        have I10u := I10.unpinned
        have k11 : ∀ b o, b ≠ D → s10.heap.get? b = some o → h11.get? b = some o := fun b o hb e => (sb11.2 b hb).trans e
        have IE : Inv (cxBlkF X (NB ++ FR) scope s3 H2 (D :: fp)) [] σ8 H10 s10 := I10u.pins_of fun p hp => nomatch hp
        have I11 : Inv (cxBlkF X (NB ++ FR) scope s3 H2 (D :: fp)) [] σ8 H10 { s10 with heap := h11 } := IE.turned (t' := s10.toks) k11 nD (Nat.ne_of_lt dl3) (.inl List.mem_cons_self) (fun y' c e z => (ccl y' c e).2.2.1 z) (fun p hp => absurd (show p ∈ ([] : List (Addr × Obj)) from hp) (by simp))
        have eL : ({ cls := .type "list", data := .seq (ys.toArray.push y) (ys.length + 1) } : Obj) = lstO (ys ++ [y]) := by
          show ({ cls := .type "list", data := .seq (ys.toArray.push y) (ys.length + 1) } : Obj) = { cls := .type "list", data := .seq (ys ++ [y]).toArray (ys ++ [y]).length }
          rw [List.length_append, List.length_singleton, List.push_toArray]
        refine ⟨m', hm, i + 1, vs ++ [v], ys ++ [y], H10, wk (I11.pins_of fun p hp => ?_), rv.append (.cons rv10 .nil), by rw [List.length_append, List.length_singleton]; exact hlt, T.keep _ _ _ t10 fun b hb o e => k11 b o (DfpN b hb) e, f10, w11⟩
        obtain rfl : p = (D, lstO (ys ++ [y])) := by simpa using hp
        exact ⟨by rw [← eL]; exact hD11, nD, Nat.ne_of_lt dl3, nf, fun v z => nomatch z⟩
  exact codeAny_compStart_list loop (T.self _ 0 _ _ _ st4 loop)
end
end L2

set_option Elab.async false
set_option linter.all false
set_option maxRecDepth 100000
namespace Lw
open PySem PySem.Spec PyProof.Rows L2 K34
open Builtin Builtin.Str StrLaws
theorem seq_join {c : TT} {t u : TS} {D : Ends} {σ : L2.St} {H : Hp} (Good : L2.St → Hp → Prop) (rest : ∀ σ' H', Good σ' H' → u D σ' H') (h : (∀ σ' H', Good σ' H' → u D σ' H') → c σ H fun b H1 => if b = true then t { D with nx := u D } σ H1 else u D σ H1) : tSeq (tIfS c t tNext) u D σ H := h rest
def rowL (r : List Cell) : Dv := .tup [.str "row", rowD r]
def finL (l : List (Int × Int)) : Dv := .tup [.str "final", amtsD l]
abbrev sks (π : Plan) : List Nat := spots π.cols π.keys
abbrev sps (π : Plan) : List Nat := spots π.cols π.sums
/-- the lines, told row by row -/
def prog (π : Plan) : List (List Cell) → Option (List Cell) → List (List (Int × Int)) → List Dv
  | [], none, _ => []
  | [], some p, since => feetOf π p since 0
  | r :: rs, none, since => rowL r :: prog π rs (some r) (since.map (wRow (sps π) r))
  | r :: rs, some p, since => feetOf π p since (unlike (sks π) p r) ++ rowL r :: prog π rs (some r) ((since.take (unlike (sks π) p r) ++ List.replicate (π.keys.length - unlike (sks π) p r) (zeros π)).map (wRow (sps π) r))
def since0 (π : Plan) : List (List (Int × Int)) := List.replicate π.keys.length (zeros π)
def progB (π : Plan) (rows : List (List Cell)) : List Dv := prog π rows none (since0 π) ++ [finL (total π rows)]
theorem same_off {H H2 : Hp} {l : Addr} {o : HO} (S : Same H H2) (h : H l = none) : Same H (upd H2 l o) := fun b o' e => by rw [upd_ne (ne_of_none e h)]; exact S _ _ e
theorem deeps_rep {H : Hp} {v : V} {d : Dv} (h : Deep H v d) : ∀ n : Nat, Deeps H (List.replicate n v) (List.replicate n d)
  | 0 => .nil
  | n + 1 => .cons h (deeps_rep h n)
theorem flat_rep {α : Type} (x : α) (n : Nat) : (List.replicate n [x]).flatten = List.replicate n x := by
  induction n with
  | zero => rfl
  | succ n ih => rw [List.replicate_succ, List.flatten_cons, ih]; rfl
theorem atI_m1 {α : Type} {xs : List α} {n : Nat} {v : α} (h : xs[n]? = some v) (e : xs.length = n + 1) : atI xs (-1) = some v := by
  rcases List.eq_nil_or_concat xs with rfl | ⟨ys, y, rfl⟩
  · cases e
  · rw [List.concat_eq_append] at h e ⊢
    rw [List.length_append, List.length_singleton] at e
    rw [List.getElem?_append_right (by omega), show n - ys.length = 0 by omega] at h
    obtain rfl := Option.some.inj h
    exact atI_last ys _
theorem feet_len (π : Plan) (r : List Cell) (s : List (List (Int × Int))) (first : Nat) : (feetOf π r s first).length = π.keys.length - first := by unfold feetOf; rw [List.length_map, List.length_range]
theorem prog_len (π : Plan) : ∀ (rows : List (List Cell)) (p : Option (List Cell)) (since : List (List (Int × Int))), (prog π rows p since).length ≤ π.keys.length + rows.length * (π.keys.length + 1)
  | [], none, _ => by simp [prog]
  | [], some p, since => by rw [prog, feet_len]; omega
  | r :: rs, none, since => by
    have := prog_len π rs (some r) (since.map (wRow (sps π) r))
    rw [prog, List.length_cons, List.length_cons, Nat.add_mul]
    omega
  | r :: rs, some p, since => by
    have := prog_len π rs (some r) ((since.take (unlike (sks π) p r) ++ List.replicate (π.keys.length - unlike (sks π) p r) (zeros π)).map (wRow (sps π) r))
    rw [prog, List.length_append, List.length_cons, feet_len, List.length_cons, Nat.add_mul]
    omega
section
variable {P : Program} {w : World} {K : PySem.W.Frag} {mg : Str → Option Value} {base : Heap} {f : Addr} {fd : FuncData} {tk : Nat → Tok}
/-- what the loop keeps -/
structure BrSt (π : Plan) (rows : List (List Cell)) (H0 H : Hp) (ln sl : Addr) (xl xs : List V) (acc : List Dv) (since : List (List (Int × Int))) (i m : Nat) : Prop where
  S : Same H0 H
  gl : H ln = some (.lst xl)
  gs : H sl = some (.lst xs)
  ne : ln ≠ sl
  fl : H0 ln = none
  fs : H0 sl = none
  tl : Deeps H xl acc
  ts : Deeps H xs (since.map amtsD)
  ls : since.length = π.keys.length
  lz : ∀ l ∈ since, l.length = π.sums.length
  ok : ∀ l ∈ since, ∀ p ∈ l, AOk i p
  la : acc.length ≤ m
theorem BrSt.same {π : Plan} {rows : List (List Cell)} {H0 H H' : Hp} {ln sl : Addr} {xl xs : List V} {acc : List Dv} {since : List (List (Int × Int))} {i m : Nat} (B : BrSt π rows H0 H ln sl xl xs acc since i m) (S : Same H H') : BrSt π rows H0 H' ln sl xl xs acc since i m :=
  ⟨B.S.trans S, S _ _ B.gl, S _ _ B.gs, B.ne, B.fl, B.fs, B.tl.same S, B.ts.same S, B.ls, B.lz, B.ok, B.la⟩
def spBreaks : Sp := fun vs H Q _ => ∃ (v rv : V) (π : Plan) (rows : List (List Cell)), vs = [v, rv] ∧ Deep H v (planD π) ∧ PlanOk π ∧ π.keys.length ≤ 10 ∧ Deep H rv (rowsD rows) ∧ (∀ r ∈ rows, RowOk π r) ∧ rows.length ≤ 20 ∧ ∀ u H', Same H H' → Deep H' u (.tup (progB π rows)) → Q u H'
def prevR (rows : List (List Cell)) : Nat → Option (List Cell)
  | 0 => none
  | i + 1 => rows[i]?
set_option maxHeartbeats 2000000 in
theorem ok_breaks (F : Fun K "breaks" "breaks" s_breaks f fd) (O : Own mg) (OT : mg "tuple" = none) (OE : mg "enumerate" = none) (D_no_sums : Def P w K mg base 1 "no_sums" ["plan"] spNoS) (D_with_row : Def P w K mg base 5 "with_row" ["plan", "amounts", "row"] (spWith K)) (D_sums_of : Def P w K mg base 6 "sums_of" ["plan", "rows"] spSums)
    (D_unlike_from : Def P w K mg base 6 "unlike_from" ["plan", "one", "other"] spUnlike) (D_feet : Def P w K mg base 2 "feet" ["plan", "row", "since", "first"] spFeet) : FnOk P w K mg base (CXE P w) 7 f fd ["plan", "rows"] spBreaks := by
  refine okN F sc_breaks (fun vs H Q E h => ?_) (fun cdv A outer s H vs Q E hr h => ?_)
  · obtain ⟨v, rv, π, rows, rfl, _⟩ := h
    rfl
  · obtain ⟨v, rv, π, rows, rfl, D, Z, hk10, DR, Y, hl, k⟩ := h
    have hz : 100000 ≤ sizeLine := by rw [sizeLine_eq]; decide
    have z2 := Z.lu
    have z3 : π.keys.length + π.sums.length = (π.keys ++ π.sums).length := (List.length_append ..).symm
    refine ⟨_, (pss_cons (ps_set (i := 2) sc_breaks.nd rfl (Or.inl rfl) (pe_ix ix_tupR (pv 0) pe_int (fun _ _ => rfl)))
      (pss_cons (ps_set (i := 3) sc_breaks.nd rfl (Or.inl rfl) (pe_lst pa_nil))
      (pss_cons (ps_set (i := 4) sc_breaks.nd rfl (Or.inl rfl) (pe_op op_rep (pe_lst (pa_cons (D_no_sums.pe hr (by decide) rfl passE0 (pa_cons (pv 0) pa_nil)) pa_nil)) (pe_callB call_len_seq rfl O.len PySem.boot_len (pa_cons (pv 2) pa_nil))))
      (pss_cons (ps_for PassesOwn.never rfl (pi_enumK .tp rfl OE (pa_cons (pv 1) pa_nil)) (pg_tup rfl (pgs_cons (pg_name (i := 5) sc_breaks.nd rfl (Or.inl rfl)) (pgs_cons (pg_name (i := 6) sc_breaks.nd rfl (Or.inr rfl)) pgs_nil))) (pss_cons (ps_if (pt_cmpR op_gt (pv 5) pe_int (nomark _)) (pss_cons (ps_set (i := 7) sc_breaks.nd rfl (Or.inl rfl) (D_unlike_from.pe hr (by decide) rfl passE0 (pa_cons (pv 0) (pa_cons (pe_ix ix_tupR (pv 1) (pe_op op_sub (pv 5) pe_int) (fun _ _ => rfl)) (pa_cons (pv 6) pa_nil)))))
      (pss_cons (ps_expr (pe_bm PySem.F.plainAttrs_list PySem.F.slot_list_extend PySem.F.type_list_extend mt_extend (pv 3) (pa_cons (D_feet.pe hr (by decide) rfl passE0 (pa_cons (pv 0) (pa_cons (pe_ix ix_tupR (pv 1) (pe_op op_sub (pv 5) pe_int) (fun _ _ => rfl)) (pa_cons (pv 4) (pa_cons (pv 7) pa_nil))))) pa_nil)))
      (pss_one (ps_open (pv 4) (po_some (pv 7)) (pe_op op_rep (pe_lst (pa_cons (D_no_sums.pe hr (by decide) rfl passE0 (pa_cons (pv 0) pa_nil)) pa_nil)) (pe_op op_sub (pe_callB call_len_seq rfl O.len PySem.boot_len (pa_cons (pv 2) pa_nil)) (pv 7))) rfl)))) pss_nil)
      (pss_cons (ps_expr (pe_bm PySem.F.plainAttrs_list PySem.F.slot_list_append PySem.F.type_list_append mt_append (pv 3) (pa_cons (pe_tup (pa_cons pe_str (pa_cons (pv 6) pa_nil))) pa_nil)))
      (pss_one (ps_lcompF (NB := [".0", "amounts"]) (FR := ["plan", "row"]) (fi := [0, 6]) (iy := 4) rfl ⟨rfl, by decide +kernel, by decide +kernel, by decide +kernel, by decide +kernel, by decide +kernel⟩ rfl rfl (pi_list (pv 4)) (fun _ _ _ => (pg_name (i := 1) (show ([".0", "amounts", "plan", "row"] : List Str).Nodup by decide +kernel) rfl (Or.inl rfl))) (fun _ _ _ => pts_nil) (fun _ _ _ => (D_with_row.pe hr (by decide) rfl passE0 (pa_cons (pv 2) (pa_cons (pv 1) (pa_cons (pv 3) pa_nil))))) sc_breaks.nd rfl (Or.inl rfl) rfl)))))
      (pss_cons (ps_if (pt_cmpR op_gt (pe_callB call_len_seq rfl O.len PySem.boot_len (pa_cons (pv 1) pa_nil)) pe_int (nomark _)) (pss_one (ps_expr (pe_bm PySem.F.plainAttrs_list PySem.F.slot_list_extend PySem.F.type_list_extend mt_extend (pv 3) (pa_cons (D_feet.pe hr (by decide) rfl passE0 (pa_cons (pv 0) (pa_cons (pe_ix ix_tupR (pv 1) (pe_un un_neg pe_int) (fun _ _ => rfl)) (pa_cons (pv 4) (pa_cons pe_int pa_nil))))) pa_nil)))) pss_nil)
      (pss_cons (ps_expr (pe_bm PySem.F.plainAttrs_list PySem.F.slot_list_append PySem.F.type_list_append mt_append (pv 3) (pa_cons (pe_tup (pa_cons pe_str (pa_cons (D_sums_of.pe hr (by decide) rfl passE0 (pa_cons (pv 0) (pa_cons (pv 1) pa_nil))) pa_nil))) pa_nil)))
      (pss_one (ps_ret (pe_callTy call_tuple_of rfl OT PyProof.Rows.boot_tuple (pa_cons (pv 3) pa_nil)))))))))), ?_⟩
    obtain ⟨a, ac, ak, as, L⟩ := plan_at D
    obtain rfl := L.v
    obtain ⟨R, xr, rfl, gr, tr⟩ := Deep.tup' DR
    have lx := tr.length
    rw [List.length_map] at lx
    have hkl : (π.keys.map V.str).length = π.keys.length := List.length_map ..
    refine ⟨_, rfl, a, _, 1, _, rfl, rfl, .inl L.a, rfl, ?_⟩
    dsimp only [gName, tAsg, tSeq, tNext]
    refine ⟨by show 0 ≤ sizeLine; omega, fun ln hln => ?_⟩
    have S1 := Same.new (o := .lst []) hln
    have g1 : upd H ln (.lst []) ln = some (.lst []) := upd_same
    generalize upd H ln (.lst []) = H1 at S1 g1
    refine ⟨_, rfl, .ref a, π, rfl, D.same S1, by omega, fun u0 H2 S2 D2 => ?_⟩
    refine ⟨by show 1 ≤ sizeLine; omega, fun l1 hl1 => ?_⟩
    have S3 := Same.new (o := .lst [u0]) hl1
    refine ⟨_, rfl, ak, _, rfl, .inr (.inl (.inl (S3 _ _ (S2 _ _ (S1 _ _ L.k))))), l1, (((π.keys.map V.str).length : Nat) : Int), [u0], rfl, rfl, upd_same, by omega, by omega, by rw [Int.toNat_natCast]; simp; omega, fun sl hsl => ?_⟩
    rw [Int.toNat_natCast, flat_rep, hkl]
    have S4 := Same.new (o := .lst (List.replicate π.keys.length u0)) hsl
    have gs4 : upd (upd H2 l1 (.lst [u0])) sl (.lst (List.replicate π.keys.length u0)) sl = some (.lst (List.replicate π.keys.length u0)) := upd_same
    have S02 := (S1.trans S2).trans S3
    have fsl : H sl = none := by
      cases e : H sl with
      | none => rfl
      | some o => rw [S02 _ _ e] at hsl; cases hsl
    have ne0 : ln ≠ sl := fun z => by
      rw [← z, S3 _ _ (S2 _ _ g1)] at hsl
      cases hsl
    have D0 : Deep H2 u0 (amtsD (zeros π)) := D2
    dsimp only
    generalize upd (upd H2 l1 (.lst [u0])) sl (.lst (List.replicate π.keys.length u0)) = H4 at S4 gs4
    have B0 : BrSt π rows H H4 ln sl [] (List.replicate π.keys.length u0) [] (since0 π) 0 0 := by
      refine ⟨S02.trans S4, S4 _ _ (S3 _ _ (S2 _ _ g1)), gs4, ne0, hln, fsl, .nil, ?_, List.length_replicate .., fun l hl => ?_, fun l hl p hp => ?_, Nat.le_refl _⟩
      · unfold since0
        rw [List.map_replicate]
        exact deeps_rep (D0.same (S3.trans S4)) _
      · rw [List.eq_of_mem_replicate hl]; exact zeros_len π
      · rw [List.eq_of_mem_replicate hl] at hp; exact zeros_ok π p hp
    clear S1 S2 S3 S4 S02 gs4 fsl ne0 D0 D2 g1 hsl hl1 hln
    refine ⟨_, rfl, R, rfl, ⟨_, .inl (.inl (B0.S _ _ gr))⟩, ?_⟩
    refine for_fix (fixN (k := .tp) (K := K) (a := R) (xs := xr)) (fun i σ H5 => ∃ ln sl xl xs acc since y5 y6 y7, σ = [some (.ref a), some (.ref R), some (.ref ak), some (.ref ln), some (.ref sl), y5, y6, y7] ∧ BrSt π rows H H5 ln sl xl xs acc since i (i * 20) ∧ acc ++ prog π (rows.drop i) (prevR rows i) since = prog π rows none (since0 π)) ⟨ln, sl, _, _, _, _, none, none, none, rfl, B0, rfl⟩ ?_ ?_ ?_
    · rintro i σ H5 _ ⟨ln, sl, xl, xs, acc, since, y5, y6, y7, rfl, B, _⟩
      exact .inl (.inl (B.S _ _ gr))
    · rintro i x σ H5 H6 hi ⟨ln, sl, xl, xs, acc, since, y5, y6, y7, rfl, B, hacc⟩ ⟨p, x, hp, rfl, hx, rfl⟩
      obtain ⟨r, hr2, dr⟩ := rows_get tr hx
      have hrm := List.mem_of_getElem? hr2
      have hri : i < rows.length := (List.getElem?_eq_some_iff.mp hr2).1
      have Sp := Same.new (o := .tup [.int ((i : Nat) : Int), x]) hp
      have B6 := B.same Sp
      refine ⟨p, _, rfl, .inl (.inl upd_same), rfl, _, _, rfl, _, _, rfl, rfl, ?_⟩
      generalize upd H5 p (.tup [.int ((i : Nat) : Int), x]) = H6 at B6
      clear B Sp hp
      have hdr : rows.drop i = r :: rows.drop (i + 1) := by
        rw [List.drop_eq_getElem_cons hri]
        congr 1
        exact (List.getElem?_eq_some_iff.mp hr2).2
      rw [hdr] at hacc
      dsimp only [gName, tAsg, tNext]
      refine seq_join (fun σ' H7 => ∃ xl' xs' acc' since' y7', σ' = [some (.ref a), some (.ref R), some (.ref ak), some (.ref ln), some (.ref sl), some (.int ((i : Nat) : Int)), some x, y7'] ∧ BrSt π rows H H7 ln sl xl' xs' acc' since' i (i * 20 + 10) ∧ acc' ++ rowL r :: prog π (rows.drop (i + 1)) (some r) (since'.map (wRow (sps π) r)) = prog π rows none (since0 π)) ?_ (fun rest => ?_)
      rotate_left
      · refine ⟨_, rfl, _, _, rfl, rfl, _, rfl, ?_⟩
        refine ifB (fun z => ?_) (fun z => ?_)
        · have z := of_decide_eq_true z
          obtain ⟨i', rfl⟩ : ∃ i', i = i' + 1 := ⟨i - 1, by omega⟩
          obtain ⟨x0, hx0⟩ : ∃ x0, xr[i']? = some x0 := ⟨_, List.getElem?_eq_getElem (by omega)⟩
          obtain ⟨r0, hr0, dr0⟩ := rows_get tr hx0
          have hrm0 := List.mem_of_getElem? hr0
          have eix : (((i' + 1 : Nat) : Nat) : Int) - 1 = ((i' : Nat) : Int) := by omega
          have hat : atI xr ((((i' + 1 : Nat) : Nat) : Int) - 1) = some x0 := by rw [eix]; exact atI_nat hx0
          have hacc2 : acc ++ (feetOf π r0 since (unlike (sks π) r0 r) ++ rowL r :: prog π (rows.drop (i' + 1 + 1)) (some r) ((since.take (unlike (sks π) r0 r) ++ List.replicate (π.keys.length - unlike (sks π) r0 r) (zeros π)).map (wRow (sps π) r))) = prog π rows none (since0 π) := by
            have e1 : prevR rows (i' + 1) = some r0 := hr0
            rw [e1] at hacc
            exact hacc
          refine ⟨_, rfl, _, rfl, _, rfl, _, _, rfl, rfl, R, xr, _, x0, rfl, rfl, .inl (B6.S _ _ gr), hat, _, rfl, .ref a, x0, x, π, r0, r, rfl, D.same B6.S, Z, dr0.same B6.S, Y r0 hrm0, dr.same B6.S, Y r hrm, fun H8 S8 => ?_⟩
          have B8 := B6.same S8
          have hun := unlike_le (sks π) r0 r
          have lsk : (sks π).length = π.keys.length := by unfold sks spots; rw [List.length_map]
          generalize unlike (sks π) r0 r = u at hacc2 hun ⊢
          dsimp only [gName, tAsg, tSeq, tNext]
          refine ⟨_, rfl, .inl ⟨rfl, _, .inl (.inl B8.gl)⟩, ?_⟩
          refine ⟨_, rfl, _, rfl, _, rfl, _, _, rfl, rfl, R, xr, _, x0, rfl, rfl, .inl (B8.S _ _ gr), hat, _, rfl, _, rfl, .ref a, x0, sl, xs, π, r0, since, u, rfl, D.same B8.S, Z, dr0.same B8.S, Y r0 hrm0, B8.gs, B8.ts, B8.ls, by omega, fun q H9 ys S9 hq gq ty => ?_⟩
          have B9 := B8.same S9
          have lty := ty.length
          rw [feet_len] at lty
          have ltl := B9.tl.length
          have hla := B9.la
          have nq : ln ≠ q := fun z => by rw [← z, B8.gl] at hq; cases hq
          have nsq : sl ≠ q := fun z => by rw [← z, B8.gs] at hq; cases hq
          refine ⟨ln, q, xl, ys, rfl, rfl, B9.gl, gq, by omega, ?_⟩
          have e1 : ∀ zs : List V, (HO.lst xl) ≠ .tup zs := fun zs z => nomatch z
          have B10 : BrSt π rows H (upd H9 ln (.lst (xl ++ ys))) ln sl (xl ++ ys) xs (acc ++ feetOf π r0 since u) since (i' + 1) ((i' + 1) * 20 + 10) := by
            refine ⟨same_off B9.S B9.fl, upd_same, by rw [upd_ne B9.ne.symm]; exact B9.gs, B9.ne, B9.fl, B9.fs, (B9.tl.append ty).updL B9.gl e1, B9.ts.updL B9.gl e1, B9.ls, B9.lz, B9.ok, ?_⟩
            rw [List.length_append, feet_len]
            omega
          generalize upd H9 ln (.lst (xl ++ ys)) = H10 at B10
          dsimp only [gName, tAsg, tSeq, tNext]
          refine ⟨_, rfl, .ref a, π, rfl, D.same B10.S, by omega, fun u1 H11 S11 D11 => ⟨by show 1 ≤ sizeLine; omega, fun l1 hl1 => ?_⟩⟩
          have S12 := Same.new (o := .lst [u1]) hl1
          have S112 := S11.trans S12
          have B12 := B10.same S112
          have hrl : ([u1] : List V).length * ((((π.keys.map V.str).length : Nat) : Int) - ((u : Nat) : Int)).toNat ≤ sizeLine := by
            have : ((((π.keys.map V.str).length : Nat) : Int) - ((u : Nat) : Int)).toNat ≤ 10 := by omega
            rw [List.length_singleton]
            omega
          refine ⟨_, rfl, ak, _, rfl, .inr (.inl (.inl (B12.S _ _ L.k))), _, rfl, _, _, rfl, rfl, l1, (((π.keys.map V.str).length : Nat) : Int) - ((u : Nat) : Int), [u1], rfl, rfl, upd_same, by omega, by omega, hrl, fun b hb => ?_⟩
          have en : ((((π.keys.map V.str).length : Nat) : Int) - ((u : Nat) : Int)).toNat = π.keys.length - u := by omega
          rw [en, flat_rep]
          have S13 := Same.new (o := .lst (List.replicate (π.keys.length - u) u1)) hb
          have B13 := B12.same S13
          have D13 : Deep (upd (upd H11 l1 (.lst [u1])) b (.lst (List.replicate (π.keys.length - u) u1))) u1 (amtsD (zeros π)) := D11.same (S12.trans S13)
          have gb : upd (upd H11 l1 (.lst [u1])) b (.lst (List.replicate (π.keys.length - u) u1)) b = some (.lst (List.replicate (π.keys.length - u) u1)) := upd_same
          have nb : sl ≠ b := fun z => by rw [← z, B12.gs] at hb; cases hb
          generalize upd (upd H11 l1 (.lst [u1])) b (.lst (List.replicate (π.keys.length - u) u1)) = H13 at B13 D13 gb
          have lts := B13.ts.length
          rw [List.length_map] at lts
          have hls := B13.ls
          refine ⟨_, rfl, _, rfl, _, rfl, sl, b, xs, List.replicate (π.keys.length - u) u1, u, rfl, rfl, rfl, B13.gs, gb, nb, by omega, by rw [List.length_replicate]; omega, ?_⟩
          have e2 : ∀ zs : List V, (HO.lst xs) ≠ .tup zs := fun zs z => nomatch z
          refine rest _ _ ⟨xl ++ ys, xs.take u ++ List.replicate (π.keys.length - u) u1, acc ++ feetOf π r0 since u, since.take u ++ List.replicate (π.keys.length - u) (zeros π), _, rfl, ?_, by rw [List.append_assoc]; exact hacc2⟩
          refine ⟨same_off B13.S B13.fs, by rw [upd_ne B13.ne]; exact B13.gl, upd_same, B13.ne, B13.fl, B13.fs, B13.tl.updL B13.gs e2, ?_, ?_, ?_, ?_, B13.la⟩
          · rw [List.map_append, List.map_take, List.map_replicate]
            exact ((B13.ts.take u).append (deeps_rep D13 _)).updL B13.gs e2
          · rw [List.length_append, List.length_take, List.length_replicate]; omega
          · intro l hl
            rcases List.mem_append.mp hl with hl | hl
            · exact B13.lz l (List.mem_of_mem_take hl)
            · rw [List.eq_of_mem_replicate hl]; exact zeros_len π
          · intro l hl p hp
            rcases List.mem_append.mp hl with hl | hl
            · exact B13.ok l (List.mem_of_mem_take hl) p hp
            · rw [List.eq_of_mem_replicate hl] at hp
              obtain ⟨q1, q2, q3⟩ := zeros_ok π p hp
              exact ⟨q1, q2, by omega⟩
        · have z := of_decide_eq_false z
          obtain rfl : i = 0 := by omega
          have hla := B6.la
          exact rest _ _ ⟨xl, xs, acc, since, _, rfl, ⟨B6.S, B6.gl, B6.gs, B6.ne, B6.fl, B6.fs, B6.tl, B6.ts, B6.ls, B6.lz, B6.ok, by omega⟩, hacc⟩
      rintro σ' H7 ⟨xl, xs, acc, since, y7, rfl, B7, hacc7⟩
      clear hacc B6
      have ltl := B7.tl.length
      have hla := B7.la
      dsimp only [gName, tAsg, tSeq, tNext]
      refine ⟨_, rfl, .inl ⟨rfl, _, .inl (.inl B7.gl)⟩, ?_⟩
      refine ⟨_, rfl, by show 2 ≤ sizeLine; omega, fun p8 hp8 => ?_⟩
      have S8 := Same.new (o := .tup [.str "row", x]) hp8
      have B8 := B7.same S8
      have DL : Deep (upd H7 p8 (.tup [.str "row", x])) (.ref p8) (rowL r) := .tup upd_same (.cons .str (.cons (dr.same B8.S) .nil))
      generalize upd H7 p8 (.tup [.str "row", x]) = H8 at B8 DL
      refine ⟨ln, xl, .ref p8, rfl, rfl, B8.gl, by omega, ?_⟩
      have e1 : ∀ zs : List V, (HO.lst xl) ≠ .tup zs := fun zs z => nomatch z
      have B9 : BrSt π rows H (upd H8 ln (.lst (xl ++ [.ref p8]))) ln sl (xl ++ [.ref p8]) xs (acc ++ [rowL r]) since i ((i + 1) * 20) := by
        refine ⟨same_off B8.S B8.fl, upd_same, by rw [upd_ne B8.ne.symm]; exact B8.gs, B8.ne, B8.fl, B8.fs, (B8.tl.append (.cons DL .nil)).updL B8.gl e1, B8.ts.updL B8.gl e1, B8.ls, B8.lz, B8.ok, ?_⟩
        rw [List.length_append]
        simp
        omega
      generalize upd H8 ln (.lst (xl ++ [.ref p8])) = H9 at B9
      dsimp only [gName, tAsg, tSeq, tNext]
      refine tCompF_of ?_
      refine ⟨_, rfl, sl, rfl, ⟨_, .inl (.inl B9.gs)⟩, ?_⟩
      have lts := B9.ts.length
      rw [List.length_map] at lts
      have hls := B9.ls
      refine compF_deep (fv := [.ref a, x]) (fixL (K := K) (a := sl) (xs := xs)) ((since.map (wRow (sps π) r)).map amtsD) (by rw [List.length_map, List.length_map]; omega) (fun R h => h H9 (Same.refl _)) rfl (fun H10 S10 => .inl (.inl (S10 _ _ B9.gs))) ?_ ?_ (by omega)
      · rintro j v H10 H11 d R2 hd S10 ⟨rfl, hv⟩ kk
        obtain ⟨dv2, hdv, ddv⟩ := B9.ts.getX hv
        rw [List.getElem?_map] at hdv
        cases el : since[j]? with
        | none => rw [el] at hdv; cases hdv
        | some l =>
          rw [el] at hdv
          obtain rfl := Option.some.inj hdv
          rw [List.getElem?_map, List.getElem?_map, el] at hd
          have hlm := List.mem_of_getElem? el
          have S010 := B9.S.trans S10
          refine ⟨rfl, _, rfl, _, rfl, _, rfl, .ref a, v, x, π, l, r, i, rfl, D.same S010, Z, ddv.same S10, B9.lz l hlm, B9.ok l hlm, by omega, dr.same S010, Y r hrm, fun u2 H12 S12 D12 => kk _ _ S12 ?_⟩
          have : d = amtsD (wRow (sps π) r l) := (Option.some.inj hd).symm
          rw [this]
          exact D12
      · rintro ys H10 p10 S10 t10 hp10
        have S11 := Same.new (o := .lst ys) hp10
        have B11 := (B9.same S10).same S11
        have np : ln ≠ p10 := fun z => by rw [← z, S10 _ _ B9.gl] at hp10; cases hp10
        refine ⟨ln, p10, xl ++ [.ref p8], ys, acc ++ [rowL r], since.map (wRow (sps π) r), _, _, _, rfl, ⟨B11.S, B11.gl, upd_same, np, B11.fl, ?_, B11.tl, t10.same S11, by rw [List.length_map]; exact B11.ls, ?_, ?_, B11.la⟩, ?_⟩
        · cases e : H p10 with
          | none => rfl
          | some o => rw [(B9.S.trans S10) _ _ e] at hp10; cases hp10
        · intro l hl
          obtain ⟨l0, hl0, rfl⟩ := List.mem_map.mp hl
          exact wRow_len (B9.lz l0 hl0)
        · intro l hl
          obtain ⟨l0, hl0, rfl⟩ := List.mem_map.mp hl
          exact wRow_ok Z (Y r hrm) (B9.ok l0 hl0)
        · rw [List.append_assoc]
          have e2 : prevR rows (i + 1) = some r := hr2
          rw [e2]
          exact hacc7
    · rintro σ H5 ⟨ln, sl, xl, xs, acc, since, y5, y6, y7, rfl, B, hacc⟩
      have hla := B.la
      have lnl : xr.length = rows.length := lx
      have hdn : rows.drop xr.length = [] := List.drop_eq_nil_of_le (by omega)
      rw [hdn] at hacc
      have gr5 := B.S _ _ gr
      dsimp only [gName, tAsg, tSeq, tNext]
      refine seq_join (fun σ' H7 => ∃ xl', σ' = [some (.ref a), some (.ref R), some (.ref ak), some (.ref ln), some (.ref sl), y5, y6, y7] ∧ Same H H7 ∧ H7 ln = some (.lst xl') ∧ Deeps H7 xl' (prog π rows none (since0 π))) ?_ (fun rest => ?_)
      rotate_left
      · refine ⟨_, rfl, R, _, rfl, .inr (.inl (.inl gr5)), _, _, rfl, rfl, _, rfl, ?_⟩
        refine ifB (fun z => ?_) (fun z => ?_)
        · have z := of_decide_eq_true z
          obtain ⟨n, en⟩ : ∃ n, xr.length = n + 1 := ⟨xr.length - 1, by omega⟩
          obtain ⟨x0, hx0⟩ : ∃ x0, xr[n]? = some x0 := ⟨_, List.getElem?_eq_getElem (by omega)⟩
          obtain ⟨r0, hr0, dr0⟩ := rows_get tr hx0
          have hrm0 := List.mem_of_getElem? hr0
          rw [en] at hacc
          have e1 : prevR rows (n + 1) = some r0 := hr0
          rw [e1] at hacc
          have hacc2 : acc ++ feetOf π r0 since 0 = prog π rows none (since0 π) := hacc
          dsimp only [gName, tAsg, tSeq, tNext]
          refine ⟨_, rfl, .inl ⟨rfl, _, .inl (.inl B.gl)⟩, ?_⟩
          refine ⟨_, rfl, _, rfl, _, rfl, R, xr, _, x0, rfl, rfl, .inl gr5, atI_m1 hx0 en, _, rfl, .ref a, x0, sl, xs, π, r0, since, 0, rfl, D.same B.S, Z, dr0.same B.S, Y r0 hrm0, B.gs, B.ts, B.ls, by omega, fun q H9 ys S9 hq gq ty => ?_⟩
          have B9 := B.same S9
          have lty := ty.length
          rw [feet_len] at lty
          have ltl := B9.tl.length
          refine ⟨ln, q, xl, ys, rfl, rfl, B9.gl, gq, by omega, ?_⟩
          have e1 : ∀ zs : List V, (HO.lst xl) ≠ .tup zs := fun zs z => nomatch z
          refine rest _ _ ⟨xl ++ ys, rfl, same_off B9.S B9.fl, upd_same, ?_⟩
          rw [← hacc2]
          exact (B9.tl.append ty).updL B9.gl e1
        · have z := of_decide_eq_false z
          have en : xr.length = 0 := by omega
          rw [en] at hacc
          have hacc2 : acc ++ [] = prog π rows none (since0 π) := hacc
          rw [List.append_nil] at hacc2
          refine rest _ _ ⟨xl, rfl, B.S, B.gl, ?_⟩
          rw [← hacc2]
          exact B.tl
      rintro σ' H7 ⟨xl', rfl, S7, g7, t7⟩
      have fl := B.fl
      have lp : (prog π rows none (since0 π)).length ≤ 1000 := by
        have h2 := prog_len π rows none (since0 π)
        have h3 : rows.length * (π.keys.length + 1) ≤ 20 * 11 := Nat.mul_le_mul (by omega) (by omega)
        omega
      have ltl := t7.length
      dsimp only [gName, tAsg, tSeq, tNext]
      refine ⟨_, rfl, .inl ⟨rfl, _, .inl (.inl g7)⟩, ?_⟩
      refine ⟨_, rfl, _, rfl, .ref a, .ref R, π, rows, rfl, D.same S7, Z, DR.same S7, Y, by omega, fun u H8 S8 D8 => ?_⟩
      refine ⟨by show 2 ≤ sizeLine; omega, fun p9 hp9 => ?_⟩
      have S9 := Same.new (o := .tup [.str "final", u]) hp9
      have D9 : Deep (upd H8 p9 (.tup [.str "final", u])) (.ref p9) (finL (total π rows)) := .tup upd_same (.cons .str (.cons (D8.same S9) .nil))
      have S79 := S8.trans S9
      have g9 := S79 _ _ g7
      have t9 := (t7.same S79).append (.cons D9 .nil)
      have S09 := S7.trans S79
      generalize upd H8 p9 (.tup [.str "final", u]) = H9 at S79 g9 t9 S09
      refine ⟨ln, xl', .ref p9, rfl, rfl, g9, by omega, ?_⟩
      have e1 : ∀ zs : List V, (HO.lst xl') ≠ .tup zs := fun zs z => nomatch z
      have t10 := t9.updL (o' := .lst (xl' ++ [.ref p9])) g9 e1
      have S10 : Same H (upd H9 ln (.lst (xl' ++ [.ref p9]))) := same_off S09 fl
      have g10 : upd H9 ln (.lst (xl' ++ [.ref p9])) ln = some (.lst (xl' ++ [.ref p9])) := upd_same
      generalize upd H9 ln (.lst (xl' ++ [.ref p9])) = H10 at t10 S10 g10
      refine ⟨_, rfl, ln, _, rfl, .inl ⟨.inl (.inl g10), fun l hl => ?_⟩⟩
      have S11 := Same.new (o := .tup (xl' ++ [.ref p9])) hl
      exact k _ _ (S10.trans S11) (.tup upd_same (t10.same S11))
end
end Lw

set_option Elab.async false
set_option linter.all false
set_option maxRecDepth 100000
namespace Lw
open PySem PySem.Spec PyProof.Rows L2 K34
open Builtin Builtin.Str StrLaws
section
variable {P : Program} {w : World} {K : PySem.W.Frag} {mg : Str → Option Value} {base : Heap} {f : Addr} {fd : FuncData} {tk : Nat → Tok}
/-! ### the law's own defs -/
theorem tru_list {H : Hp} {a : Addr} {ns : List Int} (h : SqL K H a (ns.map V.int)) : TruV K (.ref a) H (!ns.isEmpty) := .inl ⟨_, h, by cases ns <;> rfl⟩
theorem ok__law_draw (F : Fun K "_law_draw" "_law_draw" s__law_draw f fd) (O : Own mg) : FnOk P w K mg base (CXE P w) 1 f fd ["_law_script", "_law_town", "_law_many"] (spDraw K) := by
  refine okN F sc__law_draw (fun vs H Q E h => ?_) (fun cdv A outer s H vs Q E hr h => ?_)
  · obtain ⟨a, t, r, ns, c, many, rs, rfl, _⟩ := h
    rfl
  · obtain ⟨a, t, r, ns, c, many, rs, rfl, hS, T, nat, nar, hl, hc, hm0, hm1, k⟩ := h
    have hu := hu_of hr
    have T1 : TownAt (upd H t (.dK [(Sum.inr "count", .int (c + 1)), (Sum.inr "rests", .ref r)])) t r (c + 1) rs := ⟨upd_same, by rw [upd_ne T.ne.symm]; exact T.rt, T.vs, by have := T.c0; omega, by have := T.ln; omega, T.ne⟩
    have hS1 := hS.upd (o := .dK [(Sum.inr "count", .int (c + 1)), (Sum.inr "rests", .ref r)]) nat
    have A1 : Apart t r H (upd H t (.dK [(Sum.inr "count", .int (c + 1)), (Sum.inr "rests", .ref r)])) := fun b o e n1 n2 => by rw [upd_ne n1]; exact e
    refine ⟨_, (pss_cons (ps_dput hu (pv 1) pe_str (pe_op op_add (pe_dget hu (pv 1) pe_str (fun _ _ => rfl)) pe_int) rfl)
      (pss_cons (ps_set (i := 3) sc__law_draw.nd rfl (Or.inl rfl) (pe_ifExp (pt_truth (pv 0) (fun _ => rfl)) (pe_op op_mod (pe_dget hu (pv 1) pe_str (fun _ _ => rfl)) (pe_callB call_len_seq rfl O.len PySem.boot_len (pa_cons (pv 0) pa_nil))) pe_int))
      (pss_cons (ps_set (i := 4) sc__law_draw.nd rfl (Or.inl rfl) (pe_dget2 hu (pe_dget hu (pv 1) pe_str (fun _ _ => rfl)) (pv 3) (pe_ifExp (pt_truth (pv 0) (fun _ => rfl)) (pe_ix ix_list (pv 0) (pv 3) (fun _ _ => rfl)) pe_int) ⟨rfl, rfl, rfl, rfl⟩))
      (pss_cons (ps_if (pt_cmpR op_ge (pv 4) (pe_op op_pow pe_int pe_int) (nomark _)) (pss_cons (ps_dput hu (pe_dget hu (pv 1) pe_str (fun _ _ => rfl)) (pv 3) (pe_op op_fdiv (pv 4) (pv 2)) rfl)
      (pss_one (ps_ret (pe_op op_mod (pv 4) (pv 2))))) pss_nil)
      (pss_cons (ps_set (i := 5) sc__law_draw.nd rfl (Or.inl rfl) (pe_op op_mod (pe_op op_add (pv 4) (pe_op op_mul pe_int (pe_dget hu (pv 1) pe_str (fun _ _ => rfl)))) pe_int))
      (pss_cons (ps_set (i := 5) sc__law_draw.nd rfl (Or.inl rfl) (pe_op op_mod (pe_op op_pow (pv 5) pe_int) pe_int))
      (pss_one (ps_ret (pe_op op_mod (pe_op op_fdiv (pe_op op_mod (pe_op op_add (pe_op op_mul (pe_op op_fdiv (pv 5) pe_int) pe_int) (pv 5)) pe_int) pe_int) (pv 2)))))))))), ?_⟩
    refine ⟨_, rfl, t, _, rfl, dget_count T.tw, _, _, rfl, rfl, _, rfl, t, _, rfl, dput_count _ T.tw, ?_⟩
    refine ⟨_, rfl, _, tru_list hS1, ?_⟩
    refine ifB (fun hz => ?_) (fun hz => ?_)
    · have hp : 0 < ns.length := by cases ns with | nil => cases hz | cons a r => exact Nat.succ_pos _
      have hp' : (0 : Int) < ((ns.map V.int).length : Int) := by rw [List.length_map]; omega
      refine ⟨_, rfl, t, _, rfl, dget_count T1.tw, _, rfl, a, _, rfl, .inl hS1, _, _, rfl, rfl, hp', ?_⟩
      have m1 := Int.emod_nonneg (c + 1) (Int.ne_of_gt hp')
      have m2 := Int.emod_lt_of_pos (c + 1) hp'
      obtain ⟨j, hj⟩ := Int.eq_ofNat_of_zero_le m1
      have hjl : j < ns.length := by rw [hj, List.length_map] at m2; omega
      refine ⟨_, rfl, t, _, rfl, dget_rests T1.tw, r, rfl, .inl ⟨rs, .inl T1.rt⟩, _, rfl, _, rfl, _, tru_list hS1, ?_⟩
      rw [hz]
      refine iteT ⟨_, rfl, _, rfl, a, _, _, V.int ns[j], rfl, rfl, hS1, ?_, _, DGet.k (k := Sum.inl ((c + 1) % ((ns.map V.int).length : Int))) T1.rt, ?_⟩
      · show atI (ns.map V.int) ((c + 1) % ((ns.map V.int).length : Int)) = _
        rw [hj]
        refine atI_nat ?_
        rw [List.getElem?_map, List.getElem?_eq_getElem hjl]
        rfl
      obtain ⟨z, hz⟩ := rests_val T1.vs ((c + 1) % ((ns.map V.int).length : Int)) (ns[j])
      rw [hz]
      refine ⟨_, rfl, _, _, rfl, rfl, ⟨by decide, by decide, by decide⟩, _, _, rfl, rfl, _, rfl, ?_⟩
      refine ifB (fun g => ?_) (fun g => ?_)
      · have P2 := rests_put T1.vs ((c + 1) % ((ns.map V.int).length : Int)) (z / many)
        refine ⟨_, rfl, _, rfl, _, _, rfl, rfl, ⟨hm0, by omega⟩, _, rfl, t, _, rfl, dget_rests T1.tw, _, rfl, r, _, rfl, DPut.k (k := Sum.inl ((c + 1) % ((ns.map V.int).length : Int))) T1.rt (Nat.lt_of_lt_of_le (m := 100001) (by have := T.ln; omega) (by decide)), ?_⟩
        refine ⟨_, rfl, _, rfl, _, _, rfl, rfl, hm0, ?_⟩
        refine k _ (putK rs (Sum.inl ((c + 1) % ((ns.map V.int).length : Int))) (.int (z / many))) _ (Int.emod_nonneg _ (Int.ne_of_gt hm0)) (Int.emod_lt_of_pos _ hm0) ⟨?_, upd_same, P2.1, T1.c0, ?_, T.ne⟩ (A1.trans fun b o e n1 n2 => by rw [upd_ne n2]; exact e)
        · rw [upd_ne T.ne]; exact T1.tw
        · have := P2.2
          have := T.ln
          omega
      · refine ⟨_, rfl, _, rfl, t, _, rfl, dget_count T1.tw, _, _, rfl, rfl, .inl ⟨by decide, by decide⟩, _, _, rfl, rfl, _, _, rfl, rfl, (show (0 : Int) < 4294967291 by decide), ?_⟩
        have n1 := Int.emod_nonneg (z + 104729 * (c + 1)) (show (4294967291 : Int) ≠ 0 by decide)
        have n2 := Int.emod_lt_of_pos (z + 104729 * (c + 1)) (show (0 : Int) < 4294967291 by decide)
        refine ⟨_, rfl, _, _, rfl, rfl, ⟨by decide, by decide, by show Int.natAbs _ < 2 ^ 64; omega⟩, _, _, rfl, rfl, (show (0 : Int) < 4294967279 by decide), ?_⟩
        refine ⟨_, rfl, _, _, rfl, rfl, ⟨by decide, by decide⟩, _, _, rfl, rfl, .inr ⟨by decide, by decide⟩, _, rfl, _, _, rfl, rfl, _, _, rfl, rfl, (show (0 : Int) < 4294967231 by decide), _, _, rfl, rfl, ⟨by decide, by decide⟩, _, rfl, _, _, rfl, rfl, hm0, ?_⟩
        exact k _ rs _ (Int.emod_nonneg _ (Int.ne_of_gt hm0)) (Int.emod_lt_of_pos _ hm0) T1 A1
    · refine ⟨_, rfl, t, _, rfl, dget_rests T1.tw, r, rfl, .inl ⟨rs, .inl T1.rt⟩, _, rfl, _, rfl, _, tru_list hS1, ?_⟩
      rw [hz]
      refine iteF ⟨_, DGet.k (k := Sum.inl (0 : Int)) T1.rt, ?_⟩
      obtain ⟨z, hz⟩ := rests_val T1.vs ((0 : Int)) (0)
      rw [hz]
      refine ⟨_, rfl, _, _, rfl, rfl, ⟨by decide, by decide, by decide⟩, _, _, rfl, rfl, _, rfl, ?_⟩
      refine ifB (fun g => ?_) (fun g => ?_)
      · have P2 := rests_put T1.vs ((0 : Int)) (z / many)
        refine ⟨_, rfl, _, rfl, _, _, rfl, rfl, ⟨hm0, by omega⟩, _, rfl, t, _, rfl, dget_rests T1.tw, _, rfl, r, _, rfl, DPut.k (k := Sum.inl ((0 : Int))) T1.rt (Nat.lt_of_lt_of_le (m := 100001) (by have := T.ln; omega) (by decide)), ?_⟩
        refine ⟨_, rfl, _, rfl, _, _, rfl, rfl, hm0, ?_⟩
        refine k _ (putK rs (Sum.inl ((0 : Int))) (.int (z / many))) _ (Int.emod_nonneg _ (Int.ne_of_gt hm0)) (Int.emod_lt_of_pos _ hm0) ⟨?_, upd_same, P2.1, T1.c0, ?_, T.ne⟩ (A1.trans fun b o e n1 n2 => by rw [upd_ne n2]; exact e)
        · rw [upd_ne T.ne]; exact T1.tw
        · have := P2.2
          have := T.ln
          omega
      · refine ⟨_, rfl, _, rfl, t, _, rfl, dget_count T1.tw, _, _, rfl, rfl, .inl ⟨by decide, by decide⟩, _, _, rfl, rfl, _, _, rfl, rfl, (show (0 : Int) < 4294967291 by decide), ?_⟩
        have n1 := Int.emod_nonneg (z + 104729 * (c + 1)) (show (4294967291 : Int) ≠ 0 by decide)
        have n2 := Int.emod_lt_of_pos (z + 104729 * (c + 1)) (show (0 : Int) < 4294967291 by decide)
        refine ⟨_, rfl, _, _, rfl, rfl, ⟨by decide, by decide, by show Int.natAbs _ < 2 ^ 64; omega⟩, _, _, rfl, rfl, (show (0 : Int) < 4294967279 by decide), ?_⟩
        refine ⟨_, rfl, _, _, rfl, rfl, ⟨by decide, by decide⟩, _, _, rfl, rfl, .inr ⟨by decide, by decide⟩, _, rfl, _, _, rfl, rfl, _, _, rfl, rfl, (show (0 : Int) < 4294967231 by decide), _, _, rfl, rfl, ⟨by decide, by decide⟩, _, rfl, _, _, rfl, rfl, hm0, ?_⟩
        exact k _ rs _ (Int.emod_nonneg _ (Int.ne_of_gt hm0)) (Int.emod_lt_of_pos _ hm0) T1 A1
theorem ok__law_begun (F : Fun K "_law_begun" "_law_begun" s__law_begun f fd) : FnOk P w K mg base (CXE P w) 1 f fd [] spBegun := by
  refine okNx F sc__law_begun (fun vs H Q E h => ?_) (fun cdv A outer s H vs Q E hr h => ?_)
  · obtain ⟨rfl, _⟩ := h
    rfl
  · obtain ⟨rfl, k⟩ := h
    refine ⟨_, begun_body, ?_⟩
    intro p hp d hd
    have npd : d ≠ p := fun z => by rw [z, upd_same] at hd; cases hd
    have hd0 : H d = none := by rw [upd_ne npd] at hd; exact hd
    refine ⟨by rw [upd_ne npd.symm, upd_same], [(Sum.inr "count", .int 0), (Sum.inr "rests", .ref d)], rfl, Nat.le_of_ble_eq_true rfl, ?_⟩
    have e : mergeK [] [((Sum.inr "count" : Key), V.int 0), ((Sum.inr "rests" : Key), V.ref d)] = [((Sum.inr "count" : Key), V.int 0), ((Sum.inr "rests" : Key), V.ref d)] := by
      have h : ¬ ((Sum.inr "count" : Key) = (Sum.inr "rests" : Key)) := cnt_ne
      unfold mergeK putK
      simp [h]
    rw [e]
    refine k p d _ hp hd0 ⟨upd_same, by rw [upd_ne npd, upd_same], (fun kv hm => nomatch hm), by decide, by decide, npd.symm⟩ fun b o z => ?_
    rw [upd_ne (ne_of_none z hp), upd_ne (ne_of_none z hd0), upd_ne (ne_of_none z hp)]
    exact z
theorem pow_text : ∀ k : Nat, k < 19 → PySem.intText? (("1" : Str) ++ repS "0" k) = some (10 ^ k) ∧ (("1" : Str) ++ repS "0" k).length ≤ 640 ∧ ("1" : Str).length + (repS "0" k).length ≤ sizeLine ∧ ("0" : Str).length * k ≤ sizeLine := by decide +kernel
def spPlus : Sp := fun vs H Q _ => ∃ (a b : Addr) (xs ys : List V) (l m : List (Int × Int)) (n : Nat), vs = [.ref a, .ref b] ∧ H a = some (.tup xs) ∧ Deeps H xs (l.map amtD) ∧ H b = some (.lst ys) ∧ Deeps H ys (m.map amtD) ∧ l.length = m.length ∧ (∀ p ∈ l, AOk n p) ∧ (∀ p ∈ m, AOk 1 p) ∧ n ≤ 50 ∧ l.length ≤ 100 ∧ ∀ u H', Same H H' → Deep H' u (amtsD (List.zipWith addA l m)) → Q u H'
theorem amts_get {H : Hp} {xs : List V} {l : List (Int × Int)} (t : Deeps H xs (l.map amtD)) {i : Nat} {x : V} (h : xs[i]? = some x) : ∃ p a, l[i]? = some p ∧ x = .ref a ∧ H a = some (.tup [.int p.1, .int p.2]) := by
  obtain ⟨d, hd, dd⟩ := t.getX h
  rw [List.getElem?_map] at hd
  cases e : l[i]? with
  | none => rw [e] at hd; cases hd
  | some p =>
    rw [e] at hd
    obtain rfl := Option.some.inj hd
    obtain ⟨a, rfl, g⟩ := amt_at dd
    exact ⟨p, a, rfl, rfl, g⟩
theorem AOk.bnd {n : Nat} {p : Int × Int} (h : AOk n p) (hn : n ≤ 100) : p.1.natAbs < 2 ^ 200 := (h.amt (K := default) hn (H := fun _ => some (.tup [.int p.1, .int p.2])) (a := default) rfl).bd
set_option maxHeartbeats 1000000 in
theorem ok__law_plus (F : Fun K "_law_plus" "_law_plus" s__law_plus f fd) (O : Own mg) (OT : mg "tuple" = none) (OZ : mg "zip" = none) : FnOk P w K mg base (CXE P w) 1 f fd ["_law_one", "_law_two"] spPlus := by
  refine okN F sc__law_plus (fun vs H Q E h => ?_) (fun cdv A outer s H vs Q E hr h => ?_)
  · obtain ⟨a, b, xs, ys, l, m, n, rfl, _⟩ := h
    rfl
  · obtain ⟨a, b, xs, ys, l, m, n, rfl, ga, ta, gb, tb, hlm, ol, om, hn, hl, k⟩ := h
    have hz : 1000 ≤ sizeLine := by decide
    have l1 := ta.length
    have l2 := tb.length
    rw [List.length_map] at l1 l2
    refine ⟨_, (pss_cons (ps_set (i := 2) sc__law_plus.nd rfl (Or.inl rfl) (pe_lst pa_nil))
      (pss_cons (ps_for PassesOwn.never rfl (pi_zipK .tp .ls rfl OZ (pa_cons (pv 0) (pa_cons (pv 1) pa_nil))) (pg_tup rfl (pgs_cons (pg_name (i := 3) sc__law_plus.nd rfl (Or.inl rfl)) (pgs_cons (pg_name (i := 4) sc__law_plus.nd rfl (Or.inl rfl)) pgs_nil))) (pss_cons (ps_set (i := 5) sc__law_plus.nd rfl (Or.inl rfl) (pe_callB (call_max2 rfl) rfl O.max PyProof.Rows.boot_max (pa_cons (pe_ix ix_tupR (pv 3) pe_int (fun _ _ => rfl)) (pa_cons (pe_ix ix_tupR (pv 4) pe_int (fun _ _ => rfl)) pa_nil))))
      (pss_cons (ps_set (i := 6) sc__law_plus.nd rfl (Or.inl rfl) (pe_op op_mulB (pe_ix ix_tupR (pv 3) pe_int (fun _ _ => rfl)) (pe_callTy call_int_text rfl O.int PyProof.Rows.boot_int (pa_cons (pe_op op_add_str pe_str (pe_op op_mul_strN pe_str (pe_op op_sub (pv 5) (pe_ix ix_tupR (pv 3) pe_int (fun _ _ => rfl))))) pa_nil))))
      (pss_cons (ps_set (i := 6) sc__law_plus.nd rfl (Or.inl rfl) (pe_op op_add (pv 6) (pe_op op_mulB (pe_ix ix_tupR (pv 4) pe_int (fun _ _ => rfl)) (pe_callTy call_int_text rfl O.int PyProof.Rows.boot_int (pa_cons (pe_op op_add_str pe_str (pe_op op_mul_strN pe_str (pe_op op_sub (pv 5) (pe_ix ix_tupR (pv 4) pe_int (fun _ _ => rfl))))) pa_nil)))))
      (pss_one (ps_expr (pe_bm PySem.F.plainAttrs_list PySem.F.slot_list_append PySem.F.type_list_append mt_append (pv 2) (pa_cons (pe_tup (pa_cons (pv 6) (pa_cons (pv 5) pa_nil))) pa_nil))))))))
      (pss_one (ps_ret (pe_callTy call_tuple_of rfl OT PyProof.Rows.boot_tuple (pa_cons (pv 2) pa_nil)))))), ?_⟩
    refine ⟨by show 0 ≤ sizeLine; omega, fun q hq => ?_⟩
    have S1 := Same.new (o := .lst []) hq
    have g1 : upd H q (.lst []) q = some (.lst []) := upd_same
    generalize upd H q (.lst []) = H1 at S1 g1
    dsimp only [gName, tAsg, tSeq, tNext]
    refine ⟨_, rfl, _, rfl, a, b, rfl, ⟨_, .inl (S1 _ _ ga)⟩, ⟨_, .inl (S1 _ _ gb)⟩, ?_⟩
    refine for_fix (fixZ (k1 := .tp) (k2 := .ls) (a1 := a) (a2 := b) (xs := xs) (ys := ys)) (fun i σ H2 => ∃ zs y3 y4 y5 y6, σ = [some (.ref a), some (.ref b), some (.ref q), y3, y4, y5, y6] ∧ Same H H2 ∧ H2 q = some (.lst zs) ∧ Deeps H2 zs (((List.zipWith addA l m).take i).map amtD)) ⟨[], none, none, none, none, rfl, S1, g1, .nil⟩ ?_ ?_ ?_
    · rintro i σ H2 _ ⟨zs, y3, y4, y5, y6, rfl, S, _⟩
      exact ⟨.inl (S _ _ ga), .inl (S _ _ gb)⟩
    · rintro i v σ H2 H3 hi ⟨zs, y3, y4, y5, y6, rfl, S, gq, tq⟩ ⟨p, x, y, hp, rfl, hx, hy, rfl⟩
      have Sp := Same.new (o := .tup [x, y]) hp
      obtain ⟨pp, a1, hpp, rfl, g1⟩ := amts_get ta hx
      obtain ⟨qq, a2, hqq, rfl, g2⟩ := amts_get tb hy
      have o1 := ol _ (List.mem_of_getElem? hpp)
      have o2 := om _ (List.mem_of_getElem? hqq)
      have b1 := o1.bnd (by omega)
      have b2 := o2.bnd (by omega)
      refine ⟨p, _, rfl, .inl (.inl upd_same), rfl, _, _, rfl, _, _, rfl, rfl, ?_⟩
      have S3 := S.trans Sp
      have gq3 := Sp _ _ gq
      have tq3 := tq.same Sp
      generalize upd H2 p (.tup [.ref a1, .ref a2]) = H3 at Sp S3 gq3 tq3
      have h1 := S3 _ _ g1
      have h2 := S3 _ _ g2
      obtain ⟨p1, p2⟩ := pp
      obtain ⟨q1, q2⟩ := qq
      obtain ⟨c1, c2, c3⟩ := o1
      obtain ⟨d1, d2, d3⟩ := o2
      have m1 := mx_l p2 q2
      have m2 := mx_r p2 q2
      have m3 := mx_le c2 d2
      dsimp only [gName, tAsg, tSeq, tNext]
      refine ⟨_, rfl, a1, _, 1, _, rfl, rfl, .inl h1, rfl, _, rfl, a2, _, 1, _, rfl, rfl, .inl h2, rfl, p2, q2, rfl, ?_⟩
      have em : (if q2 > p2 then q2 else p2) = mx p2 q2 := rfl
      rw [em]
      obtain ⟨e1, e2, e3, e4⟩ := pow_text (mx p2 q2 - p2).toNat (by omega)
      obtain ⟨f1, f2, f3, f4⟩ := pow_text (mx p2 q2 - q2).toNat (by omega)
      have t1 : ((10 : Int) ^ (mx p2 q2 - p2).toNat).natAbs < 2 ^ 2000 := big (ten_bound (m := mx p2 q2 - p2) (by omega))
      have t2 : ((10 : Int) ^ (mx p2 q2 - q2).toNat).natAbs < 2 ^ 2000 := big (ten_bound (m := mx p2 q2 - q2) (by omega))
      refine ⟨_, rfl, a1, _, 0, _, rfl, rfl, .inl h1, rfl, _, rfl, _, rfl, a1, _, 1, _, rfl, rfl, .inl h1, rfl, _, _, rfl, rfl, _, _, rfl, rfl, by omega, e4, by omega, _, _, rfl, rfl, e3, _, _, rfl, e1, e2, _, _, rfl, rfl, ⟨big b1, t1⟩, ?_⟩
      refine ⟨_, rfl, _, rfl, a2, _, 0, _, rfl, rfl, .inl h2, rfl, _, rfl, _, rfl, a2, _, 1, _, rfl, rfl, .inl h2, rfl, _, _, rfl, rfl, _, _, rfl, rfl, by omega, f4, by omega, _, _, rfl, rfl, f3, _, _, rfl, f1, f2, _, _, rfl, rfl, ⟨big b2, t2⟩, _, _, rfl, rfl, ?_⟩
      refine ⟨_, rfl, .inl ⟨rfl, _, .inl (.inl gq3)⟩, ?_⟩
      refine ⟨_, rfl, _, rfl, by show 2 ≤ sizeLine; omega, fun p8 hp8 => ?_⟩
      have S8 := Same.new (o := .tup [.int (p1 * 10 ^ (mx p2 q2 - p2).toNat + q1 * 10 ^ (mx p2 q2 - q2).toNat), .int (mx p2 q2)]) hp8
      have D8 : Deep (upd H3 p8 (.tup [.int (p1 * 10 ^ (mx p2 q2 - p2).toNat + q1 * 10 ^ (mx p2 q2 - q2).toNat), .int (mx p2 q2)])) (.ref p8) (amtD (addA (p1, p2) (q1, q2))) := .tup upd_same (.cons .int (.cons .int .nil))
      generalize upd H3 p8 (.tup [.int (p1 * 10 ^ (mx p2 q2 - p2).toNat + q1 * 10 ^ (mx p2 q2 - q2).toNat), .int (mx p2 q2)]) = H8 at S8 D8
      have lz := tq3.length
      rw [List.length_map, List.length_take, List.length_zipWith] at lz
      refine ⟨q, zs, .ref p8, rfl, rfl, S8 _ _ gq3, by omega, ?_⟩
      have e9 : ∀ zz : List V, (HO.lst zs) ≠ .tup zz := fun zz z => nomatch z
      refine ⟨zs ++ [.ref p8], _, _, _, _, rfl, same_off (S3.trans S8) hq, upd_same, ?_⟩
      have ez : (List.zipWith addA l m)[i]? = some (addA (p1, p2) (q1, q2)) := by rw [List.getElem?_zipWith, hpp, hqq]
      rw [List.take_add_one, ez, List.map_append]
      exact ((tq3.same S8).append (.cons D8 .nil)).updL (S8 _ _ gq3) e9
    · rintro σ H2 ⟨zs, y3, y4, y5, y6, rfl, S, gq, tq⟩
      rw [List.take_of_length_le (by rw [List.length_zipWith]; omega)] at tq
      refine ⟨_, rfl, q, _, rfl, .inl ⟨.inl (.inl gq), fun l9 hl9 => ?_⟩⟩
      exact k _ _ (S.trans (Same.new hl9)) (deep_tup tq hl9)
end
end Lw

set_option Elab.async false
set_option linter.all false
set_option maxRecDepth 100000
/-! one of a written list of things, drawn; written things behind a veil -/
namespace L2
open PySem PySem.Spec PyProof.Rows
section
variable {X : Cx}
theorem pax_int {i : Int} {j : Nat} {p : Pos} {es : List Expr} {t : TA} (hr : PAx X es t) : PAx X (.Constant (.int i) j p :: es) (tCons (tC (.int i)) t) := ⟨pa_cons pe_int hr.pa rfl⟩
theorem pax_tup {es' : List Expr} {t1 : TA} {k : Nat} {p : Pos} {es : List Expr} {t : TA} (h : PAx X es' t1) (hr : PAx X es t) : PAx X (.Tuple es' k p :: es) (tCons (tTup t1) t) := ⟨pa_cons (pe_tup h.pa) hr.pa rfl⟩
def rIxLR : R2 := fun x y H Q => ∃ p xs i v, x = .ref p ∧ y = .int i ∧ Rd H p (.lst xs) ∧ atI xs i = some v ∧ Q v H
theorem pex_pick {es : List Expr} {t : TA} {b : Expr} {tb : TE} {p pos : Pos} (h : PAx X es t) (hb : PEx X b tb) (hs : PlainIx b) : PEx X (.Subscript (.List es p) b pos) (tOp rIxLR (tLst t) tb) := ⟨pe_ix ix_listR (pe_lst h.pa) hb.pe hs⟩
theorem pex_disp1 {k v : Expr} {tk tv : TE} {pos : Pos} (hk : PEx X k tk) (hv : PEx X v tv) : PEx X (.Dict [some k] [v] pos) (tDisp [(tk, tv)]) := ⟨pe_disp (pps_cons hk.pe hv.pe pps_nil) rfl rfl (List.cons_ne_nil _ _) (Nat.le_of_ble_eq_true rfl)⟩
theorem psy_set {i : Nat} {x : Str} {e : Expr} {te : TE} {pos pos' : Pos} (hN : X.N.Nodup) (hi : X.N[i]? = some x) (hx : Loc X.env.scope x) (he : PEx X e te) (hs : swapsWith e (some (.Name x pos')) pos.line X.env = pure false) (hf : X.fn x = true) : PSy X (.Assign [.Name x pos'] e pos) (tAsg te (gName i)) := ⟨ps_set hN hi hx he.pe hs (.inl hf)⟩
theorem psy_dput {o i value : Expr} {td ty tv : TE} {pos pos' : Pos} (hu : X.A.units + 1 < cLine) (ho : PEx X o td) (hi : PEx X i ty) (hv : PEx X value tv) (hs : swapsWith value (some (.Subscript o i pos')) pos.line X.env = pure false) : PSy X (.Assign [.Subscript o i pos'] value pos) (sDPut td ty tv) := ⟨ps_dput hu ho.pe hi.pe hv.pe hs⟩
theorem psy_for {tg iter : Expr} {body : List Stmt} {wi : TI} {g : TG} {tb : TS} {pos : Pos} (hp : PassesOwn (model X.prog X.w) X.A X.env X.xe) (hc : X.calm = true) (hi : PI X tg iter wi) (hg : PG X tg g) (hb : PSx X body tb) (hs : ∀ x, foldedSetIterable iter X.env x = pure x) : PSy X (.For tg iter body [] pos) (tFor wi g tb) := ⟨ps_for hp hc hi hg hb.ps hs⟩
theorem psy_ret {e : Expr} {te : TE} {pos : Pos} (he : PEx X e te) : PSy X (.Return (some e) pos) (tRet te) := ⟨ps_ret he.pe⟩
end
/-- displays whose things are deep -/
def TaD (ta : TA) (ds : List Dv) : Prop := ∀ (σ : St) (H : Hp) (R : List V → Hp → Prop), (∀ xs H1, Same H H1 → Deeps H1 xs ds → R xs H1) → ta σ H R
theorem taD_nil : TaD tNil [] := fun σ H R h => h [] H (Same.refl _) .nil
theorem taD_str {x : Str} {t : TA} {ds : List Dv} (h : TaD t ds) : TaD (tCons (tC (.str x)) t) (.str x :: ds) := fun σ H R k => h σ H _ fun xs H1 S t => k _ _ S (.cons .str t)
theorem taD_int {i : Int} {t : TA} {ds : List Dv} (h : TaD t ds) : TaD (tCons (tC (.int i)) t) (.int i :: ds) := fun σ H R k => h σ H _ fun xs H1 S t => k _ _ S (.cons .int t)
theorem taD_tup {t1 t : TA} {es ds : List Dv} (h1 : TaD t1 es) (hl : es.length ≤ sizeLine) (h : TaD t ds) : TaD (tCons (tTup t1) t) (.tup es :: ds) := fun σ H R k => h1 σ H _ fun xs H1 S t1 => ⟨by rw [t1.length]; exact hl, fun p hp => h σ _ _ fun ys H2 S2 t2 => k _ _ ((S.trans (Same.new hp)).trans S2) (.cons ((deep_tup t1 hp).same S2) t2)⟩
section
variable {K : PySem.W.Frag}
section
variable {H H' : Hp} {a t r : Addr} {ns : List Int} {c c' : Int}
theorem Bag.tups (B : Bag K H a t r ns c) (A : Apart t r H H') : ∀ b ys, H b = some (.tup ys) → H' b = some (.tup ys) := fun b ys e => B.keep A e fun _ z => nomatch z
theorem Bag.pickD {σ : St} {i j : Nat} {n : Int} {ta : TA} {ds : List Dv} {Q : VK} {E : XK} (B : Bag K H a t r ns c) (hi : σ[i]? = some (some (.ref a))) (hj : σ[j]? = some (some (.ref t))) (hta : TaD ta ds) (hn : n = (ds.length : Int)) (h0 : 0 < n) (h1 : n < 1000) (hc : c < 100000)
    (k : ∀ (d : Nat) (x : V) (dv : Dv) (H' : Hp), ds[d]? = some dv → Deep H' x dv → Bag K H' a t r ns (c + 1) → Apart t r H H' → Q x H') : tOp rIxLR (tLst ta) (tCall (spDraw K) [] E (tCons (tVar i) (tCons (tVar j) (tCons (tC (.int n)) tNil)))) σ H Q := by
  have hz : 1000 ≤ sizeLine := by decide
  refine hta _ _ _ fun xs H1 S1 T1 => ⟨by have := T1.length; omega, fun p hp => ?_⟩
  have S := Same.new (o := .lst xs) hp
  have B1 := B.same (S1.trans S)
  refine B1.draw hi hj (fun R h => h) h0 (by omega) hc fun d H' hd B' A' => ?_
  have hl := T1.length
  obtain ⟨x, hx⟩ : ∃ x, xs[d]? = some x := ⟨_, List.getElem?_eq_getElem (by omega)⟩
  have hpp : H' p = some (.lst xs) := B1.keep A' upd_same fun _ z => nomatch z
  obtain ⟨dv, hdv, ddv⟩ := T1.getX hx
  exact ⟨p, xs, d, x, rfl, rfl, .inl hpp, atI_nat hx, k d x dv H' hdv ((ddv.same S).keep (B1.tups A')) B' (fun b o e n1 n2 => A' b o ((S1.trans S) _ _ e) n1 n2)⟩
theorem sqL_updD {p : Addr} {kvs : List (Key × V)} {o : HO} {xs : List V} (h : SqL K H a xs) (e : H p = some (.dK kvs)) : SqL K (upd H p o) a xs := by
  rcases h with (h | ⟨o', h⟩) | h
  · exact .inl (.inl (by rw [upd_ne (fun z => by rw [z, e] at h; cases h)]; exact h))
  · exact .inl (.inr ⟨o', by rw [upd_ne (fun z => by rw [z, e] at h; cases h)]; exact h⟩)
  · exact .inr h
theorem Bag.updD {p : Addr} {kvs : List (Key × V)} {o : HO} (B : Bag K H a t r ns c) (e : H p = some (.dK kvs)) (n1 : p ≠ t) (n2 : p ≠ r) : Bag K (upd H p o) a t r ns c := by
  obtain ⟨rs, T⟩ := B.tw
  exact ⟨sqL_updD B.sq e, ⟨rs, by rw [upd_ne n1.symm]; exact T.tw, by rw [upd_ne n2.symm]; exact T.rt, T.vs, T.c0, T.ln, T.ne⟩, B.nat, B.nar, B.ln⟩
end
end
end L2

set_option Elab.async false
set_option linter.all false
set_option maxRecDepth 100000
namespace Lw
open PySem PySem.Spec PyProof.Rows L2 K34
open Builtin Builtin.Str StrLaws
section
variable {P : Program} {w : World} {K : PySem.W.Frag} {mg : Str → Option Value} {base : Heap} {f : Addr} {fd : FuncData} {tk : Nat → Tok}
/-! ### the plans and rows that are drawn -/
def keysL : List (List Str) := [[], ["a"], ["a", "b"], ["b", "a"]]
def sumsL : List (List Str) := [[], ["x"], ["x", "y"], ["y"]]
def colsL : List (List Str) := [["a", "b", "x", "y", "z"], ["x", "a", "z", "b", "y"]]
theorem plan_ok {ks ss cs : List Str} {n : Int} (h1 : ks ∈ keysL) (h2 : ss ∈ sumsL) (h3 : cs ∈ colsL) (h4 : 6 ≤ n) : PlanOk ⟨cs, ks, ss, n⟩ := by
  have key : (keysL.all fun ks => sumsL.all fun ss => colsL.all fun cs => cs.all nameOk && ks.all nameOk && ss.all nameOk && decide (many cs = cs.length) && decide (many ks = ks.length) && decide (many ss = ss.length) && decide (many (ks ++ ss) = (ks ++ ss).length) && (ks ++ ss).all (fun x => cs.contains x) && !cs.isEmpty && decide (cs.length ≤ 100) && decide ((ks ++ ss).length ≤ 100)) = true := by decide +kernel
  have k1 := List.all_eq_true.mp key ks h1
  have k2 := List.all_eq_true.mp k1 ss h2
  have k3 := List.all_eq_true.mp k2 cs h3
  simp only [Bool.and_eq_true, decide_eq_true_eq] at k3
  obtain ⟨⟨⟨⟨⟨⟨⟨⟨⟨⟨a1, a2⟩, a3⟩, a4⟩, a5⟩, a6⟩, a7⟩, a8⟩, a9⟩, a10⟩, a11⟩ := k3
  exact ⟨a1, a2, a3, a4, a5, a6, a7, a8, (fun z => by simp only [] at z; rw [z] at a9; cases a9), h4, a10, a11⟩
def cellOf (A B X Y : Cell) (nm : Str) : Cell := if nm = "a" then A else if nm = "b" then B else if nm = "x" then X else if nm = "y" then Y else .txt "t"
def keyA : List Cell := [.txt "p", .txt "q", .amt 1 0]
def keyB : List Cell := [.amt 1 0, .amt 10 1, .txt "r", .amt 2 0]
theorem keyA_ok : ∀ c ∈ keyA, CellOk c := by
  intro c hc
  simp only [keyA, List.mem_cons, List.not_mem_nil, or_false] at hc
  rcases hc with rfl | rfl | rfl
  · show textOk "p" = true; decide +kernel
  · show textOk "q" = true; decide +kernel
  · exact ⟨by decide, by decide, by decide⟩
theorem keyB_ok : ∀ c ∈ keyB, CellOk c := by
  intro c hc
  simp only [keyB, List.mem_cons, List.not_mem_nil, or_false] at hc
  rcases hc with rfl | rfl | rfl | rfl
  · exact ⟨by decide, by decide, by decide⟩
  · exact ⟨by decide, by decide, by decide⟩
  · show textOk "r" = true; decide +kernel
  · exact ⟨by decide, by decide, by decide⟩
theorem amt_ok {u o : Int} (h0 : 0 ≤ o) (h2 : o ≤ 2) (hu : u.natAbs ≤ 100) : CellOk (.amt u o) := by
  refine ⟨h0, h2, ?_⟩
  rw [Int.natAbs_mul]
  have : (K01.ten (2 - o)).natAbs ≤ 100 := by
    obtain rfl | rfl | rfl : o = 0 ∨ o = 1 ∨ o = 2 := by omega
    · decide
    · decide
    · decide
  calc u.natAbs * (K01.ten (2 - o)).natAbs ≤ 100 * 100 := Nat.mul_le_mul hu this
    _ = 10 ^ 4 := by decide
theorem row_ok {ks ss cs : List Str} {n : Int} {A B : Cell} {xu xo yu yo : Int} (h2 : ss ∈ sumsL) (hA : CellOk A) (hB : CellOk B) (hX : CellOk (.amt xu xo)) (hY : CellOk (.amt yu yo)) : RowOk ⟨cs, ks, ss, n⟩ (cs.map (cellOf A B (.amt xu xo) (.amt yu yo))) := by
  refine ⟨List.length_map .., fun c hc => ?_, fun i x hx hs => ?_⟩
  · obtain ⟨nm, _, rfl⟩ := List.mem_map.mp hc
    unfold cellOf
    split
    · exact hA
    · split
      · exact hB
      · split
        · exact hX
        · split
          · exact hY
          · show textOk "t" = true; decide +kernel
  · have key : ∀ ss ∈ sumsL, ∀ x ∈ ss, x = "x" ∨ x = "y" := by
      intro ss hss x hx
      have h := List.all_eq_true.mp (show (sumsL.all fun ss => ss.all fun x => decide (x = ("x" : Str)) || decide (x = ("y" : Str))) = true by decide +kernel) ss hss
      have h := List.all_eq_true.mp h x hx
      simpa using h
    have hxs := key ss h2 x (List.contains_iff_mem.mp hs)
    have hx2 : cs[i]? = some x := hx
    rw [List.getElem?_map, hx2]
    have n1 : ¬ (("x" : Str) = "a") := by decide +kernel
    have n2 : ¬ (("x" : Str) = "b") := by decide +kernel
    have n3 : ¬ (("y" : Str) = "a") := by decide +kernel
    have n4 : ¬ (("y" : Str) = "b") := by decide +kernel
    have n5 : ¬ (("y" : Str) = "x") := by decide +kernel
    rcases hxs with rfl | rfl
    · refine ⟨xu, xo, ?_⟩
      show some (cellOf _ _ _ _ _) = _
      unfold cellOf
      rw [if_neg n1, if_neg n2, if_pos rfl]
    · refine ⟨yu, yo, ?_⟩
      show some (cellOf _ _ _ _ _) = _
      unfold cellOf
      rw [if_neg n3, if_neg n4, if_neg n5, if_pos rfl]
def spAPlan (K : PySem.W.Frag) : Sp := fun vs H Q _ => ∃ (a t r : Addr) (ns : List Int) (c : Int), vs = [.ref a, .ref t] ∧ Bag K H a t r ns c ∧ c < 90000 ∧ ∀ (v : V) (H' : Hp) (π : Plan) (rows : List (List Cell)) (c' : Int), Bag K H' a t r ns c' → c' ≤ c + 1000 → Apart t r H H' → Deep H' v (.tup [planD π, rowsD rows]) → PlanOk π → π.keys.length ≤ 10 → rows.length ≤ 12 → (∀ r ∈ rows, RowOk π r) → Q v H'
theorem cols_len : ∀ cs ∈ colsL, cs.length ≤ 10 := by decide +kernel
theorem keys_len : ∀ ks ∈ keysL, ks.length ≤ 10 := by decide +kernel
theorem tup_pick {L : List (List Str)} {d : Nat} {dv : Dv} (h : (L.map fun ys => Dv.tup (txD ys))[d]? = some dv) : ∃ ys ∈ L, dv = .tup (txD ys) := by
  rw [List.getElem?_map] at h
  cases e : L[d]? with
  | none => rw [e] at h; cases h
  | some ys => rw [e] at h; exact ⟨ys, List.mem_of_getElem? e, (Option.some.inj h).symm⟩
theorem tup_cb1 {r : List V → Hp → VK → Prop} {te : TE} {σ : L2.St} {H : Hp} {Q : VK} (h : te σ H fun v H1 => r [v] H1 fun x H2 => ([x] : List V).length ≤ sizeLine ∧ ∀ l, H2 l = none → Q (.ref l) (upd H2 l (.tup [x]))) : tTup (tCons (tCB r (tCons te tNil)) tNil) σ H Q := h
theorem putK_new {kvs : List (Key × V)} {k : Key} {v : V} (h : ∀ kv ∈ kvs, kv.1 ≠ k) : putK kvs k v = kvs ++ [(k, v)] := by
  unfold putK
  rw [if_neg]
  intro z
  obtain ⟨kv, h1, h2⟩ := List.any_eq_true.mp z
  exact h kv h1 (of_decide_eq_true h2)
def rowK (va vb vx vy : V) : List (Key × V) := [(Sum.inr "a", va), (Sum.inr "b", vb), (Sum.inr "x", vx), (Sum.inr "y", vy), (Sum.inr "z", .str "t")]
theorem ne_ab : ((Sum.inr ("a" : Str) : Key) ≠ Sum.inr ("b" : Str)) ∧ ((Sum.inr ("a" : Str) : Key) ≠ Sum.inr ("x" : Str)) ∧ ((Sum.inr ("a" : Str) : Key) ≠ Sum.inr ("y" : Str)) ∧ ((Sum.inr ("a" : Str) : Key) ≠ Sum.inr ("z" : Str)) ∧ ((Sum.inr ("b" : Str) : Key) ≠ Sum.inr ("x" : Str)) ∧ ((Sum.inr ("b" : Str) : Key) ≠ Sum.inr ("y" : Str)) ∧ ((Sum.inr ("b" : Str) : Key) ≠ Sum.inr ("z" : Str)) ∧ ((Sum.inr ("x" : Str) : Key) ≠ Sum.inr ("y" : Str)) ∧ ((Sum.inr ("x" : Str) : Key) ≠ Sum.inr ("z" : Str)) ∧ ((Sum.inr ("y" : Str) : Key) ≠ Sum.inr ("z" : Str)) := by decide +kernel
theorem row_val {H : Hp} {va vb vx vy : V} {A B X Y : Cell} {nm : Str} {cs : List Str} (hc : cs ∈ colsL) (hn : nm ∈ cs) (da : Deep H va A.dv) (db : Deep H vb B.dv) (dx : Deep H vx X.dv) (dy : Deep H vy Y.dv) : ∃ v, valV (rowK va vb vx vy) (Sum.inr nm : Key) = some v ∧ Deep H v (cellOf A B X Y nm).dv := by
  have key := List.all_eq_true.mp (List.all_eq_true.mp (show (colsL.all fun cs => cs.all fun x => decide (x = ("a" : Str)) || decide (x = ("b" : Str)) || decide (x = ("x" : Str)) || decide (x = ("y" : Str)) || decide (x = ("z" : Str))) = true by decide +kernel) cs hc) nm hn
  simp only [Bool.or_eq_true, decide_eq_true_eq] at key
  obtain ⟨e1, e2, e3, e4, e5, e6, e7, e8, e9, e10⟩ := ne_ab
  have f : ∀ {x y : Str}, (Sum.inr x : Key) ≠ Sum.inr y → x ≠ y := fun h z => h (by rw [z])
  unfold rowK cellOf
  rcases key with (((rfl | rfl) | rfl) | rfl) | rfl
  · exact ⟨va, valV_pos rfl, by rw [if_pos rfl]; exact da⟩
  · exact ⟨vb, by rw [valV_neg e1]; exact valV_pos rfl, by rw [if_neg (f e1).symm, if_pos rfl]; exact db⟩
  · exact ⟨vx, by rw [valV_neg e2, valV_neg e5]; exact valV_pos rfl, by rw [if_neg (f e2).symm, if_neg (f e5).symm, if_pos rfl]; exact dx⟩
  · exact ⟨vy, by rw [valV_neg e3, valV_neg e6, valV_neg e8]; exact valV_pos rfl, by rw [if_neg (f e3).symm, if_neg (f e6).symm, if_neg (f e8).symm, if_pos rfl]; exact dy⟩
  · exact ⟨.str "t", by rw [valV_neg e4, valV_neg e7, valV_neg e9, valV_neg e10]; exact valV_pos rfl, by rw [if_neg (f e4).symm, if_neg (f e7).symm, if_neg (f e9).symm, if_neg (f e10).symm]; exact .str⟩
/-- a dict that no draw touches -/
structure DAt (H : Hp) (t r p : Addr) (kvs : List (Key × V)) : Prop where
  h : H p = some (.dK kvs)
  nt : p ≠ t
  nr : p ≠ r
theorem DAt.same {H H' : Hp} {t r p : Addr} {kvs : List (Key × V)} (D : DAt H t r p kvs) (S : Same H H') : DAt H' t r p kvs := ⟨S _ _ D.h, D.nt, D.nr⟩
theorem DAt.apart {H H' : Hp} {t r p : Addr} {kvs : List (Key × V)} (D : DAt H t r p kvs) (A : L2.Apart t r H H') : DAt H' t r p kvs := ⟨A _ _ D.h D.nt D.nr, D.nt, D.nr⟩
theorem DAt.put {H : Hp} {t r p : Addr} {kvs : List (Key × V)} (D : DAt H t r p kvs) (more : List (Key × V)) : DAt (upd H p (.dK more)) t r p more := ⟨upd_same, D.nt, D.nr⟩
theorem DAt.tups {H : Hp} {t r p : Addr} {kvs : List (Key × V)} {o : HO} (D : DAt H t r p kvs) : ∀ b ys, H b = some (.tup ys) → upd H p o b = some (.tup ys) := fun b ys e => by rw [upd_ne (fun z => by rw [z, D.h] at e; cases e)]; exact e
theorem DAt.put1 {H : Hp} {t r p : Addr} {kvs : List (Key × V)} (D : DAt H t r p kvs) (x : Str) (v : V) (hl : kvs.length < 100) (h : ∀ kv ∈ kvs, kv.1 ≠ Sum.inr x) : DPut H p (.str x) v (upd H p (.dK (kvs ++ [(Sum.inr x, v)]))) := by
  have hz : 1000 ≤ sizeLine := by decide
  have e := DPut.k (k := (Sum.inr x : Key)) (v := v) D.h (by omega)
  rw [putK_new h] at e
  exact e
/-- all that is known between the draws -/
structure Mid (K : PySem.W.Frag) (H0 H : Hp) (a t r : Addr) (ns : List Int) (c : Int) (xk xs xc xr : V) (ks ss cs : List Str) (rows : List (List Cell)) : Prop where
  B : Bag K H a t r ns c
  A : L2.Apart t r H0 H
  dk : Deep H xk (.tup (txD ks))
  ds : Deep H xs (.tup (txD ss))
  dc : Deep H xc (.tup (txD cs))
  dr : Deep H xr (rowsD rows)
theorem Mid.same {H0 H H' : Hp} {a t r : Addr} {ns : List Int} {c : Int} {xk xs xc xr : V} {ks ss cs : List Str} {rows : List (List Cell)} (M : Mid K H0 H a t r ns c xk xs xc xr ks ss cs rows) (S : Same H H') : Mid K H0 H' a t r ns c xk xs xc xr ks ss cs rows := ⟨M.B.same S, M.A.trans (Apart.of S), M.dk.same S, M.ds.same S, M.dc.same S, M.dr.same S⟩
theorem Mid.drawn {H0 H H' : Hp} {a t r : Addr} {ns : List Int} {c c' : Int} {xk xs xc xr : V} {ks ss cs : List Str} {rows : List (List Cell)} (M : Mid K H0 H a t r ns c xk xs xc xr ks ss cs rows) (A : L2.Apart t r H H') (B' : Bag K H' a t r ns c') : Mid K H0 H' a t r ns c' xk xs xc xr ks ss cs rows := ⟨B', M.A.trans A, M.dk.keep (M.B.tups A), M.ds.keep (M.B.tups A), M.dc.keep (M.B.tups A), M.dr.keep (M.B.tups A)⟩
theorem Mid.put {H0 H : Hp} {a t r p : Addr} {ns : List Int} {c : Int} {xk xs xc xr : V} {ks ss cs : List Str} {rows : List (List Cell)} {kvs : List (Key × V)} (M : Mid K H0 H a t r ns c xk xs xc xr ks ss cs rows) (D : DAt H t r p kvs) (f : H0 p = none) (o : HO) : Mid K H0 (upd H p o) a t r ns c xk xs xc xr ks ss cs rows := ⟨M.B.updD D.h D.nt D.nr, fun b o' e n1 n2 => by rw [upd_ne (ne_of_none e f)]; exact M.A b o' e n1 n2, M.dk.keep D.tups, M.ds.keep D.tups, M.dc.keep D.tups, M.dr.keep D.tups⟩
theorem Mid.free {H0 H : Hp} {a t r p : Addr} {ns : List Int} {c : Int} {xk xs xc xr : V} {ks ss cs : List Str} {rows : List (List Cell)} (M : Mid K H0 H a t r ns c xk xs xc xr ks ss cs rows) (h : H p = none) : H0 p = none ∧ p ≠ t ∧ p ≠ r := by
  obtain ⟨rs, T⟩ := M.B.tw
  have n1 : p ≠ t := fun z => by rw [z, T.tw] at h; cases h
  have n2 : p ≠ r := fun z => by rw [z, T.rt] at h; cases h
  refine ⟨?_, n1, n2⟩
  cases e : H0 p with
  | none => rfl
  | some o => rw [M.A p o e n1 n2] at h; cases h
theorem cell_pick {L : List Cell} {d : Nat} {dv : Dv} (h : (L.map Cell.dv)[d]? = some dv) : ∃ c ∈ L, dv = c.dv := by
  rw [List.getElem?_map] at h
  cases e : L[d]? with
  | none => rw [e] at h; cases h
  | some c => rw [e] at h; exact ⟨c, List.mem_of_getElem? e, (Option.some.inj h).symm⟩
set_option maxHeartbeats 2000000 in
theorem ok__law_a_plan (F : Fun K "_law_a_plan" "_law_a_plan" s__law_a_plan f fd) (O : Own mg) (OT : mg "tuple" = none) (D__law_draw : Def P w K mg base 1 "_law_draw" ["_law_script", "_law_town", "_law_many"] (spDraw K)) : FnOk P w K mg base (CXE P w) 2 f fd ["_law_script", "_law_town"] (spAPlan K) := by
  refine okNx F sc__law_a_plan (fun vs H Q E h => ?_) (fun cdv A outer s H vs Q E hr h => ?_)
  · obtain ⟨a, t, r, ns, c, rfl, _⟩ := h
    rfl
  · obtain ⟨a, t, r, ns, c, rfl, B, hc, k⟩ := h
    have hu := hu_of hr
    have hz : 100000 ≤ sizeLine := by rw [sizeLine_eq]; decide
    refine ⟨_, (psx_cons (psy_set (i := 2) sc__law_a_plan.nd rfl (Or.inl rfl) (pex_pick (pax_tup pax_nil (pax_tup (pax_str pax_nil) (pax_tup (pax_str (pax_str pax_nil)) (pax_tup (pax_str (pax_str pax_nil)) pax_nil)))) (PEx.mk (D__law_draw.pe hr (by decide) rfl passE0 (pa_cons (pv 0) (pa_cons (pv 1) (pa_cons pe_int pa_nil))))) (fun _ _ => rfl)) rfl rfl)
      (psx_cons (psy_set (i := 3) sc__law_a_plan.nd rfl (Or.inl rfl) (pex_pick (pax_tup pax_nil (pax_tup (pax_str pax_nil) (pax_tup (pax_str (pax_str pax_nil)) (pax_tup (pax_str pax_nil) pax_nil)))) (PEx.mk (D__law_draw.pe hr (by decide) rfl passE0 (pa_cons (pv 0) (pa_cons (pv 1) (pa_cons pe_int pa_nil))))) (fun _ _ => rfl)) rfl rfl)
      (psx_cons (psy_set (i := 4) sc__law_a_plan.nd rfl (Or.inl rfl) (pex_pick (pax_tup (pax_str (pax_str (pax_str (pax_str (pax_str pax_nil))))) (pax_tup (pax_str (pax_str (pax_str (pax_str (pax_str pax_nil))))) pax_nil)) (PEx.mk (D__law_draw.pe hr (by decide) rfl passE0 (pa_cons (pv 0) (pa_cons (pv 1) (pa_cons pe_int pa_nil))))) (fun _ _ => rfl)) rfl rfl)
      (psx_cons (psy_set (i := 5) sc__law_a_plan.nd rfl (Or.inl rfl) (PEx.mk (pe_tup pa_nil)) rfl rfl)
      (psx_cons (psy_for PassesOwn.never rfl (pi_range1 rfl O.range (pa_cons (D__law_draw.pe hr (by decide) rfl passE0 (pa_cons (pv 0) (pa_cons (pv 1) (pa_cons pe_int pa_nil)))) pa_nil)) (pg_name (i := 6) sc__law_a_plan.nd rfl (Or.inl rfl)) (psx_cons (psy_set (i := 7) sc__law_a_plan.nd rfl (Or.inr rfl) (pex_disp1 (PEx.mk pe_str) (pex_pick (pax_str (pax_str (pax_tup (pax_int (pax_int pax_nil)) pax_nil))) (PEx.mk (D__law_draw.pe hr (by decide) rfl passE0 (pa_cons (pv 0) (pa_cons (pv 1) (pa_cons pe_int pa_nil))))) (fun _ _ => rfl))) rfl rfl)
      (psx_cons (psy_dput hu (PEx.mk (pv 7)) (PEx.mk pe_str) (pex_pick (pax_tup (pax_int (pax_int pax_nil)) (pax_tup (pax_int (pax_int pax_nil)) (pax_str (pax_tup (pax_int (pax_int pax_nil)) pax_nil)))) (PEx.mk (D__law_draw.pe hr (by decide) rfl passE0 (pa_cons (pv 0) (pa_cons (pv 1) (pa_cons pe_int pa_nil))))) (fun _ _ => rfl)) rfl)
      (psx_cons (psy_dput hu (PEx.mk (pv 7)) (PEx.mk pe_str) (PEx.mk (pe_tup (pa_cons (pe_op op_sub (D__law_draw.pe hr (by decide) rfl passE0 (pa_cons (pv 0) (pa_cons (pv 1) (pa_cons pe_int pa_nil)))) pe_int) (pa_cons (D__law_draw.pe hr (by decide) rfl passE0 (pa_cons (pv 0) (pa_cons (pv 1) (pa_cons pe_int pa_nil)))) pa_nil)))) rfl)
      (psx_cons (PSy.mk (ps_asg (pe_tup (pa_cons (pe_tup (pa_cons (D__law_draw.pe hr (by decide) rfl passE0 (pa_cons (pv 0) (pa_cons (pv 1) (pa_cons pe_int pa_nil)))) (pa_cons (D__law_draw.pe hr (by decide) rfl passE0 (pa_cons (pv 0) (pa_cons (pv 1) (pa_cons pe_int pa_nil)))) pa_nil))) (pa_cons pe_str pa_nil))) (pg_tup rfl (pgs_cons (pg_sub (pv 7) pe_str (set_dict hu)) (pgs_cons (pg_sub (pv 7) pe_str (set_dict hu)) pgs_nil)))))
      (psx_one (psy_set (i := 5) sc__law_a_plan.nd rfl (Or.inl rfl) (PEx.mk (pe_op op_catR (pv 5) (pe_tup (pa_cons (pe_callTy call_tuple_of rfl OT PyProof.Rows.boot_tuple (pa_cons (pe_lcompF (NB := [".0", "_law_name"]) (FR := ["_law_row"]) (fi := [7]) rfl ⟨rfl, by decide +kernel, by decide +kernel, by decide +kernel, by decide +kernel, by decide +kernel⟩ rfl rfl (pi_tup (pv 4)) (fun _ _ _ => (pg_name (i := 1) (show ([".0", "_law_name", "_law_row"] : List Str).Nodup by decide +kernel) rfl (Or.inl rfl))) (fun _ _ _ => pts_nil) (fun _ _ _ => (pe_dget hu (pv 2) (pv 1) (fun _ _ => rfl)))) pa_nil)) pa_nil)))) rfl rfl)))))) (fun _ => rfl))
      (psx_one (psy_ret (PEx.mk (pe_tup (pa_cons (pe_tup (pa_cons (pv 4) (pa_cons (pv 2) (pa_cons (pv 3) (pa_cons (pe_op op_add pe_int (D__law_draw.pe hr (by decide) rfl passE0 (pa_cons (pv 0) (pa_cons (pv 1) (pa_cons pe_int pa_nil))))) pa_nil))))) (pa_cons (pv 5) pa_nil))))))))))), ?_⟩
    refine B.pickD (ds := keysL.map fun ys => .tup (txD ys)) rfl rfl (taD_tup taD_nil (by decide) (taD_tup (taD_str taD_nil) (by decide) (taD_tup (taD_str (taD_str taD_nil)) (by decide) (taD_tup (taD_str (taD_str taD_nil)) (by decide) taD_nil)))) rfl (by decide) (by decide) (by omega) fun d1 xk dk H1 hd1 Dk B1 A1 => ?_
    obtain ⟨ks, hks, rfl⟩ := tup_pick hd1
    try dsimp only [gName, tAsg, tSeq, tNext]
    refine B1.pickD (ds := sumsL.map fun ys => .tup (txD ys)) rfl rfl (taD_tup taD_nil (by decide) (taD_tup (taD_str taD_nil) (by decide) (taD_tup (taD_str (taD_str taD_nil)) (by decide) (taD_tup (taD_str taD_nil) (by decide) taD_nil)))) rfl (by decide) (by decide) (by omega) fun d2 xs ds H2 hd2 Ds B2 A2 => ?_
    obtain ⟨ss, hss, rfl⟩ := tup_pick hd2
    try dsimp only [gName, tAsg, tSeq, tNext]
    refine B2.pickD (ds := colsL.map fun ys => .tup (txD ys)) rfl rfl (taD_tup (taD_str (taD_str (taD_str (taD_str (taD_str taD_nil))))) (by decide) (taD_tup (taD_str (taD_str (taD_str (taD_str (taD_str taD_nil))))) (by decide) taD_nil)) rfl (by decide) (by decide) (by omega) fun d3 xc dc H3 hd3 Dc B3 A3 => ?_
    obtain ⟨cs, hcs, rfl⟩ := tup_pick hd3
    try dsimp only [gName, tAsg, tSeq, tNext]
    have T12 := B1.tups A2
    have T23 := B2.tups A3
    have Dk3 := (Dk.keep T12).keep T23
    have Ds3 := Ds.keep T23
    have A03 := (A1.trans A2).trans A3
    clear T12 T23 A1 A2 A3 B1 B2 B Dk Ds hd1 hd2 hd3
    refine ⟨by show 0 ≤ sizeLine; omega, fun R0 hR0 => ?_⟩
    have S4 := Same.new (o := .tup []) hR0
    have B4 := B3.same S4
    have D4 : Deep (upd H3 R0 (.tup [])) (.ref R0) (rowsD []) := .tup upd_same .nil
    have Dk4 := Dk3.same S4
    have Ds4 := Ds3.same S4
    have Dc4 := Dc.same S4
    have A04 := A03.trans (Apart.of S4)
    generalize upd H3 R0 (.tup []) = H4 at S4 B4 D4 Dk4 Ds4 Dc4 A04
    clear S4 B3 Dk3 Ds3 Dc A03
    have M4 : Mid K H H4 a t r ns (c + 1 + 1 + 1) xk xs xc (.ref R0) ks ss cs [] := ⟨B4, A04, Dk4, Ds4, Dc4, D4⟩
    clear B4 D4 Dk4 Ds4 Dc4 A04
    refine M4.B.draw rfl rfl (fun R h => h) (by decide) (by decide) (by omega) fun n H5 hn B5 A5 => ?_
    have M5 := M4.drawn A5 B5
    clear M4 A5 B5
    refine ⟨_, rfl, by omega, by omega, ?_⟩
    rw [Int.toNat_natCast]
    refine for_fix (fixR (lo := 0) (n := n)) (fun i σ H6 => ∃ R y6 y7 rows c6, σ = [some (.ref a), some (.ref t), some xk, some xs, some xc, some (.ref R), y6, y7] ∧ Mid K H H6 a t r ns c6 xk xs xc (.ref R) ks ss cs rows ∧ c6 ≤ c + 4 + 6 * i ∧ rows.length = i ∧ ∀ π : Plan, π.cols = cs → π.sums = ss → ∀ r ∈ rows, RowOk π r) ⟨R0, none, none, [], _, rfl, M5, by omega, rfl, fun _ _ _ r hr => nomatch hr⟩ ?_ ?_ ?_
    · intro i σ H6 _ _
      trivial
    · rintro i v σ H6 H6' hi ⟨R, y6, y7, rows, c6, rfl, M6, hc6, hlr, hok⟩ ⟨rfl, rfl⟩
      dsimp only [gName, tAsg, tSeq, tNext]
      intro p hp
      obtain ⟨fp, npt, npr⟩ := M6.free hp
      have M7 := M6.same (Same.new (o := .dK []) hp)
      have D7 : DAt (upd H6' p (.dK [])) t r p [] := ⟨upd_same, npt, npr⟩
      generalize upd H6' p (.dK []) = H7 at M7 D7
      refine M7.B.pickD (ds := keyA.map Cell.dv) rfl rfl (taD_str (taD_str (taD_tup (taD_int (taD_int taD_nil)) (by decide) taD_nil))) rfl (by decide) (by decide) (by omega) fun d1 va da H8 hd1 Da B8 A8 => ?_
      have M8 := M7.drawn A8 B8
      have D8 := D7.apart A8
      obtain ⟨cA, hcA, rfl⟩ := cell_pick hd1
      refine ⟨D8.h, [(Sum.inr "a", va)], rfl, by show 1 ≤ 15; decide, ?_⟩
      have e8 : mergeK [] [((Sum.inr "a" : Key), va)] = [((Sum.inr "a" : Key), va)] := rfl
      rw [e8]
      have Da9 := Da.keep (D8.tups (o := .dK [((Sum.inr "a" : Key), va)]))
      have M9 := M8.put D8 fp (.dK [((Sum.inr "a" : Key), va)])
      have D9 := D8.put [((Sum.inr "a" : Key), va)]
      generalize upd H8 p (.dK [((Sum.inr "a" : Key), va)]) = H9 at M9 D9 Da9
      clear M6 M7 M8 D7 D8 A8 B8 Da e8 hd1 hp
      dsimp only [gName, tAsg, tSeq, tNext]
      refine M9.B.pickD (ds := keyB.map Cell.dv) rfl rfl (taD_tup (taD_int (taD_int taD_nil)) (by decide) (taD_tup (taD_int (taD_int taD_nil)) (by decide) (taD_str (taD_tup (taD_int (taD_int taD_nil)) (by decide) taD_nil)))) rfl (by decide) (by decide) (by omega) fun d2 vb db H10 hd2 Db B10 A10 => ?_
      have M10 := M9.drawn A10 B10
      have D10 := D9.apart A10
      have Da10 := Da9.keep (M9.B.tups A10)
      obtain ⟨cB, hcB, rfl⟩ := cell_pick hd2
      obtain ⟨e1, e2, e3, e4, e5, e6, e7, e8, e9, e10⟩ := ne_ab
      refine ⟨_, rfl, p, _, rfl, D10.put1 "b" vb (by show 1 < 100; decide) (List.forall_mem_cons.mpr ⟨e1, fun _ h => nomatch h⟩), ?_⟩
      have kp := D10.tups (o := .dK ([((Sum.inr "a" : Key), va)] ++ [((Sum.inr "b" : Key), vb)]))
      have Da11 := Da10.keep kp
      have Db11 := Db.keep kp
      have M11 := M10.put D10 fp (.dK ([((Sum.inr "a" : Key), va)] ++ [((Sum.inr "b" : Key), vb)]))
      have D11 := D10.put ([((Sum.inr "a" : Key), va)] ++ [((Sum.inr "b" : Key), vb)])
      generalize upd H10 p (.dK ([((Sum.inr "a" : Key), va)] ++ [((Sum.inr "b" : Key), vb)])) = H11 at M11 D11 Da11 Db11
      replace D11 : DAt H11 t r p [((Sum.inr "a" : Key), va), ((Sum.inr "b" : Key), vb)] := D11
      clear M9 M10 D9 D10 A10 B10 Da9 Da10 Db kp hd2
      refine M11.B.draw rfl rfl (fun R h => h) (by decide) (by decide) (by omega) fun x1 H12 hx1 B12 A12 => ?_
      have M12 := M11.drawn A12 B12
      have D12 := D11.apart A12
      have Da12 := Da11.keep (M11.B.tups A12)
      have Db12 := Db11.keep (M11.B.tups A12)
      clear M11 D11 Da11 Db11 A12 B12
      refine ⟨_, _, rfl, rfl, ?_⟩
      refine M12.B.draw rfl rfl (fun R h => h) (by decide) (by decide) (by omega) fun x2 H13 hx2 B13 A13 => ?_
      have M13 := M12.drawn A13 B13
      have D13 := D12.apart A13
      have Da13 := Da12.keep (M12.B.tups A13)
      have Db13 := Db12.keep (M12.B.tups A13)
      clear M12 D12 Da12 Db12 A13 B13
      refine ⟨by show 2 ≤ sizeLine; omega, fun px hpx => ?_⟩
      have Sx := Same.new (o := .tup [.int ((x1 : Nat) - 100), .int (x2 : Nat)]) hpx
      have Dx14 : Deep (upd H13 px (.tup [.int ((x1 : Nat) - 100), .int (x2 : Nat)])) (.ref px) (Cell.amt ((x1 : Nat) - 100) (x2 : Nat)).dv := .tup upd_same (.cons .int (.cons .int .nil))
      have M14 := M13.same Sx
      have D14 := D13.same Sx
      have Da14 := Da13.same Sx
      have Db14 := Db13.same Sx
      generalize upd H13 px (.tup [.int ((x1 : Nat) - 100), .int (x2 : Nat)]) = H14 at M14 D14 Da14 Db14 Dx14
      clear M13 D13 Da13 Db13 Sx hpx
      refine ⟨_, rfl, p, _, rfl, D14.put1 "x" (.ref px) (by show 2 < 100; decide) (List.forall_mem_cons.mpr ⟨e2, List.forall_mem_cons.mpr ⟨e5, fun _ h => nomatch h⟩⟩), ?_⟩
      have kp := D14.tups (o := .dK ([((Sum.inr "a" : Key), va), ((Sum.inr "b" : Key), vb)] ++ [((Sum.inr "x" : Key), .ref px)]))
      have Da15 := Da14.keep kp
      have Db15 := Db14.keep kp
      have Dx15 := Dx14.keep kp
      have M15 := M14.put D14 fp (.dK ([((Sum.inr "a" : Key), va), ((Sum.inr "b" : Key), vb)] ++ [((Sum.inr "x" : Key), .ref px)]))
      have D15 := D14.put ([((Sum.inr "a" : Key), va), ((Sum.inr "b" : Key), vb)] ++ [((Sum.inr "x" : Key), .ref px)])
      generalize upd H14 p (.dK ([((Sum.inr "a" : Key), va), ((Sum.inr "b" : Key), vb)] ++ [((Sum.inr "x" : Key), .ref px)])) = H15 at M15 D15 Da15 Db15 Dx15
      replace D15 : DAt H15 t r p [((Sum.inr "a" : Key), va), ((Sum.inr "b" : Key), vb), ((Sum.inr "x" : Key), V.ref px)] := D15
      clear M14 D14 Da14 Db14 Dx14 kp
      try dsimp only [gName, tAsg, tSeq, tNext]
      refine M15.B.draw rfl rfl (fun R h => h) (by decide) (by decide) (by omega) fun y1 H16 hy1 B16 A16 => ?_
      have M16 := M15.drawn A16 B16
      have D16 := D15.apart A16
      have kp := M15.B.tups A16
      have Da16 := Da15.keep kp
      have Db16 := Db15.keep kp
      have Dx16 := Dx15.keep kp
      clear M15 D15 Da15 Db15 Dx15 A16 B16 kp
      refine M16.B.draw rfl rfl (fun R h => h) (by decide) (by decide) (by omega) fun y2 H17 hy2 B17 A17 => ?_
      have M17 := M16.drawn A17 B17
      have D17 := D16.apart A17
      have kp := M16.B.tups A17
      have Da17 := Da16.keep kp
      have Db17 := Db16.keep kp
      have Dx17 := Dx16.keep kp
      clear M16 D16 Da16 Db16 Dx16 A17 B17 kp
      refine ⟨by show 2 ≤ sizeLine; omega, fun py hpy => ?_⟩
      have Sy := Same.new (o := .tup [.int (y1 : Nat), .int (y2 : Nat)]) hpy
      have Dy18 : Deep (upd H17 py (.tup [.int (y1 : Nat), .int (y2 : Nat)])) (.ref py) (Cell.amt (y1 : Nat) (y2 : Nat)).dv := .tup upd_same (.cons .int (.cons .int .nil))
      have M18 := M17.same Sy
      have D18 := D17.same Sy
      have Da18 := Da17.same Sy
      have Db18 := Db17.same Sy
      have Dx18 := Dx17.same Sy
      generalize upd H17 py (.tup [.int (y1 : Nat), .int (y2 : Nat)]) = H18 at M18 D18 Da18 Db18 Dx18 Dy18
      clear M17 D17 Da17 Db17 Dx17 Sy hpy
      refine ⟨by show 2 ≤ sizeLine; omega, fun pt hpt => ?_⟩
      have St := Same.new (o := .tup [.ref py, .str "t"]) hpt
      have g19 : upd H18 pt (.tup [.ref py, .str "t"]) pt = some (.tup [.ref py, .str "t"]) := upd_same
      have M19 := M18.same St
      have D19 := D18.same St
      have Da19 := Da18.same St
      have Db19 := Db18.same St
      have Dx19 := Dx18.same St
      have Dy19 := Dy18.same St
      generalize upd H18 pt (.tup [.ref py, .str "t"]) = H19 at M19 D19 Da19 Db19 Dx19 Dy19 g19
      clear M18 D18 Da18 Db18 Dx18 Dy18 St hpt
      refine ⟨pt, _, rfl, .inl (.inl g19), rfl, _, _, rfl, _, rfl, p, _, rfl, D19.put1 "y" (.ref py) (by show 3 < 100; decide) (List.forall_mem_cons.mpr ⟨e3, List.forall_mem_cons.mpr ⟨e6, List.forall_mem_cons.mpr ⟨e8, fun _ h => nomatch h⟩⟩⟩), ?_⟩
      have kp := D19.tups (o := .dK ([((Sum.inr "a" : Key), va), ((Sum.inr "b" : Key), vb), ((Sum.inr "x" : Key), .ref px)] ++ [((Sum.inr "y" : Key), .ref py)]))
      have Da20 := Da19.keep kp
      have Db20 := Db19.keep kp
      have Dx20 := Dx19.keep kp
      have Dy20 := Dy19.keep kp
      have M20 := M19.put D19 fp (.dK ([((Sum.inr "a" : Key), va), ((Sum.inr "b" : Key), vb), ((Sum.inr "x" : Key), .ref px)] ++ [((Sum.inr "y" : Key), .ref py)]))
      have D20 := D19.put ([((Sum.inr "a" : Key), va), ((Sum.inr "b" : Key), vb), ((Sum.inr "x" : Key), .ref px)] ++ [((Sum.inr "y" : Key), .ref py)])
      generalize upd H19 p (.dK ([((Sum.inr "a" : Key), va), ((Sum.inr "b" : Key), vb), ((Sum.inr "x" : Key), .ref px)] ++ [((Sum.inr "y" : Key), .ref py)])) = H20 at M20 D20 Da20 Db20 Dx20 Dy20
      replace D20 : DAt H20 t r p [((Sum.inr "a" : Key), va), ((Sum.inr "b" : Key), vb), ((Sum.inr "x" : Key), V.ref px), ((Sum.inr "y" : Key), V.ref py)] := D20
      clear M19 D19 Da19 Db19 Dx19 Dy19 kp g19
      refine ⟨_, _, rfl, _, rfl, p, _, rfl, D20.put1 "z" (.str "t") (by show 4 < 100; decide) (List.forall_mem_cons.mpr ⟨e4, List.forall_mem_cons.mpr ⟨e7, List.forall_mem_cons.mpr ⟨e9, List.forall_mem_cons.mpr ⟨e10, fun _ h => nomatch h⟩⟩⟩⟩), rfl, ?_⟩
      have kp := D20.tups (o := .dK (rowK va vb (.ref px) (.ref py)))
      have Da21 := Da20.keep kp
      have Db21 := Db20.keep kp
      have Dx21 := Dx20.keep kp
      have Dy21 := Dy20.keep kp
      have M21 := M20.put D20 fp (.dK (rowK va vb (.ref px) (.ref py)))
      have D21 := D20.put (rowK va vb (.ref px) (.ref py))
      have e21 : [((Sum.inr "a" : Key), va), ((Sum.inr "b" : Key), vb), ((Sum.inr "x" : Key), V.ref px), ((Sum.inr "y" : Key), V.ref py)] ++ [((Sum.inr "z" : Key), V.str "t")] = rowK va vb (.ref px) (.ref py) := rfl
      rw [e21]
      generalize upd H20 p (.dK (rowK va vb (.ref px) (.ref py))) = H21 at M21 D21 Da21 Db21 Dx21 Dy21
      clear M20 D20 Da20 Db20 Dx20 Dy20 kp e21
      obtain ⟨ac, rfl, gc⟩ := tx_at M21.dc
      refine ⟨_, rfl, ?_⟩
      refine tup_cb1 (tCompF_of ?_)
      refine ⟨_, rfl, ac, rfl, ⟨_, .inl (.inl gc)⟩, ?_⟩
      have hlc : (cs.map V.str).length = cs.length := List.length_map ..
      have lcs : cs.length ≤ 10 := cols_len cs hcs
      refine compF_deep (fv := [.ref p]) (fixT (K := K) (a := ac) (xs := cs.map V.str)) ((cs.map (cellOf cA cB (.amt ((x1 : Nat) - 100) (x2 : Nat)) (.amt (y1 : Nat) (y2 : Nat)))).map Cell.dv) (by rw [List.length_map, List.length_map, hlc]) (fun R h => h H21 (Same.refl _)) rfl (fun H1 S => .inl (.inl (S _ _ gc))) ?_ ?_ (by omega)
      · rintro i v H22 H23 d R2 hd S22 ⟨rfl, hv⟩ kk
        obtain ⟨nm, hnm, rfl⟩ := str_at hv
        obtain ⟨vv, hvv, dvv⟩ := row_val hcs (List.mem_of_getElem? hnm) Da21 Db21 Dx21 Dy21
        have hget := DGet.k (k := (Sum.inr nm : Key)) (S22 _ _ D21.h)
        rw [hvv] at hget
        refine ⟨rfl, _, rfl, _, rfl, p, vv, rfl, hget, kk _ _ (Same.refl _) ?_⟩
        rw [List.getElem?_map, List.getElem?_map, hnm] at hd
        obtain rfl := Option.some.inj hd
        exact dvv.same S22
      · rintro ys H22 q S22 tq hq
        have Sq := Same.new (o := .lst ys) hq
        refine ⟨q, ys, rfl, .inl ⟨.inl (.inl upd_same), fun l hl => ?_⟩⟩
        have D23 := deep_tup (tq.same Sq) hl
        have S23 := (S22.trans Sq).trans (Same.new (o := .tup ys) hl)
        generalize upd (upd H22 q (.lst ys)) l (.tup ys) = H23 at D23 S23
        refine ⟨by show 1 ≤ sizeLine; omega, fun l2 hl2 => ?_⟩
        have S24 := Same.new (o := .tup [.ref l]) hl2
        have D24 : Deep (upd H23 l2 (.tup [.ref l])) (.ref l2) (.tup [rowD (cs.map (cellOf cA cB (.amt ((x1 : Nat) - 100) (x2 : Nat)) (.amt (y1 : Nat) (y2 : Nat))))]) := .tup upd_same (.cons (D23.same S24) .nil)
        have M24 := M21.same (S23.trans S24)
        generalize upd H23 l2 (.tup [.ref l]) = H24 at M24 D24
        refine rCatR.deep (ds := rows.map rowD) M24.dr D24 (by rw [List.length_map]; show rows.length + 1 ≤ sizeLine; omega) fun v H25 S25 D25 => ?_
        have M25 := M24.same S25
        obtain ⟨R3, xr3, rfl, _, _⟩ := Deep.tup' D25
        refine ⟨R3, _, _, rows ++ [cs.map (cellOf cA cB (.amt ((x1 : Nat) - 100) (x2 : Nat)) (.amt (y1 : Nat) (y2 : Nat)))], _, rfl, ⟨M25.B, M25.A, M25.dk, M25.ds, M25.dc, ?_⟩, by omega, by rw [List.length_append]; show rows.length + 1 = i + 1; omega, fun π hc hs r hr => ?_⟩
        · unfold rowsD
          rw [List.map_append]
          exact D25
        · rcases List.mem_append.mp hr with hr | hr
          · exact hok π hc hs r hr
          · obtain rfl := List.mem_singleton.mp hr
            obtain ⟨pc, pk, ps, pz⟩ := π
            obtain rfl : pc = cs := hc
            obtain rfl : ps = ss := hs
            exact row_ok hss (keyA_ok _ hcA) (keyB_ok _ hcB) (amt_ok (by omega) (by omega) (by omega)) (amt_ok (by omega) (by omega) (by omega))
    · rintro σ H6 ⟨R, y6, y7, rows, c6, rfl, M6, hc6, hlr, hok⟩
      refine ⟨_, rfl, _, rfl, _, rfl, ?_⟩
      refine M6.B.draw rfl rfl (fun R h => h) (by decide) (by decide) (by omega) fun z H7 hz7 B7 A7 => ?_
      have M7 := M6.drawn A7 B7
      refine ⟨_, _, rfl, rfl, by show 4 ≤ sizeLine; omega, fun l hl => ?_⟩
      have S8 := Same.new (o := .tup [xc, xk, xs, .int (6 + (z : Nat))]) hl
      have M8 := M7.same S8
      have D8 : Deep (upd H7 l (.tup [xc, xk, xs, .int (6 + (z : Nat))])) (.ref l) (planD ⟨cs, ks, ss, 6 + (z : Nat)⟩) := .tup upd_same (.cons M8.dc (.cons M8.dk (.cons M8.ds (.cons .int .nil))))
      generalize upd H7 l (.tup [xc, xk, xs, .int (6 + (z : Nat))]) = H8 at M8 D8
      refine ⟨_, rfl, by show 2 ≤ sizeLine; omega, fun l2 hl2 => ?_⟩
      have S9 := Same.new (o := .tup [.ref l, .ref R]) hl2
      have M9 := M8.same S9
      exact k _ _ ⟨cs, ks, ss, 6 + (z : Nat)⟩ rows _ M9.B (by omega) M9.A (.tup upd_same (.cons (D8.same S9) (.cons M9.dr .nil))) (plan_ok hks hss hcs (by omega)) (keys_len ks hks) (by omega) (hok _ rfl rfl)
end
end Lw

set_option Elab.async false
set_option linter.all false
set_option maxRecDepth 100000
namespace Lw
open PySem PySem.Spec PyProof.Rows L2 K34
open Builtin Builtin.Str StrLaws
/-! ### lines, and the pages that they stand on -/
inductive Ln where
  | row (r : List Cell) | oth (k : Str) (ds : List Dv)
def Ln.dv : Ln → Dv
  | .row r => rowL r
  | .oth k ds => .tup (.str k :: ds)
def Ln.ok (π : Plan) : Ln → Prop
  | .row r => RowOk π r
  | .oth k _ => decide (V.str k = V.str "row") = false
def Ln.isRow : Ln → Bool
  | .row _ => true
  | .oth _ _ => false
def Ln.key : Ln → Str
  | .row _ => "row"
  | .oth k _ => k
def Ln.rest : Ln → List Dv
  | .row r => [rowD r]
  | .oth _ ds => ds
theorem Ln.dv_eq (x : Ln) : x.dv = .tup (.str x.key :: x.rest) := by cases x <;> rfl
theorem Ln.key_row {π : Plan} {x : Ln} (h : x.ok π) : decide (V.str x.key = V.str "row") = x.isRow := by
  cases x with
  | row r => exact decide_eq_true rfl
  | oth k ds => exact h
def dfl : Ln := .oth "" []
/-- a row of which the keys are not told again -/
def hideD (π : Plan) (r : List Cell) : List Dv := List.zipWith (fun nm c => if π.keys.contains nm = true then Dv.non else Cell.dv c) π.cols r
def hidL (π : Plan) (r : List Cell) : Dv := .tup [.str "row", .tup (hideD π r)]
def shown1 (π : Plan) (b : Bool) : Ln → Dv
  | .row r => if b = true then hidL π r else rowL r
  | .oth k ds => .tup (.str k :: ds)
def prevRow (ls : List Ln) : Nat → Bool
  | 0 => false
  | n + 1 => (ls.getD n dfl).isRow
def shN (π : Plan) (ls : List Ln) : Nat → List Dv
  | 0 => []
  | n + 1 => shN π ls n ++ [shown1 π (prevRow ls n) (ls.getD n dfl)]
def sum1 (π : Plan) (l : List (Int × Int)) : Ln → List (Int × Int)
  | .row r => wRow (sps π) r l
  | .oth _ _ => l
def smN (π : Plan) (ls : List Ln) (l : List (Int × Int)) : Nat → List (Int × Int)
  | 0 => l
  | n + 1 => sum1 π (smN π ls l n) (ls.getD n dfl)
def headD (n : Nat) : Dv := .tup [.str "head", .int (n : Nat)]
def broughtD (l : List (Int × Int)) : Dv := .tup [.str "brought", amtsD l]
def carriedD (l : List (Int × Int)) : Dv := .tup [.str "carried", amtsD l]
def topL (π : Plan) (n : Nat) (l : List (Int × Int)) : List Dv := headD n :: (if n = 1 ∨ π.sums = [] then [] else [broughtD l])
def botL (π : Plan) (last : Bool) (l : List (Int × Int)) : List Dv := if last = true ∨ π.sums = [] then [] else [carriedD l]
def oneIf (π : Plan) : Nat := if π.sums = [] then 0 else 1
def fitN (π : Plan) (t left : Nat) : Nat := if left + t ≤ π.size.toNat then left else π.size.toNat - t - oneIf π
def onPage (π : Plan) (n : Nat) (l : List (Int × Int)) (ls : List Ln) : Nat := fitN π (topL π n l).length ls.length
def pageD (π : Plan) (n : Nat) (l : List (Int × Int)) (ls : List Ln) : Dv := .tup (topL π n l ++ shN π ls (onPage π n l ls) ++ botL π (decide (onPage π n l ls = ls.length)) (smN π ls l (onPage π n l ls)))
def pagesF (π : Plan) : Nat → Nat → List (Int × Int) → List Ln → List Dv
  | 0, _, _, _ => []
  | f + 1, n, l, ls => if ls = [] then [] else pageD π n l ls :: pagesF π f (n + 1) (smN π ls l (onPage π n l ls)) (ls.drop (onPage π n l ls))
theorem pagesF_nil (π : Plan) (f n : Nat) (l : List (Int × Int)) : pagesF π f n l [] = [] := by cases f <;> simp [pagesF]
theorem topL_len (π : Plan) (n : Nat) (l : List (Int × Int)) : (topL π n l).length = 1 ∨ (topL π n l).length = 2 := by
  unfold topL
  split
  · exact .inl rfl
  · exact .inr rfl
theorem botL_len (π : Plan) (b : Bool) (l : List (Int × Int)) : (botL π b l).length ≤ 1 := by
  unfold botL
  split <;> simp
theorem oneIf_le (π : Plan) : oneIf π ≤ 1 := by unfold oneIf; split <;> omega
theorem onPage_pos {π : Plan} (Z : 6 ≤ π.size) {n : Nat} {l : List (Int × Int)} {ls : List Ln} (h : ls ≠ []) : 1 ≤ onPage π n l ls ∧ onPage π n l ls ≤ ls.length := by
  have h1 := topL_len π n l
  have h2 := oneIf_le π
  have h3 : 1 ≤ ls.length := by
    cases ls with
    | nil => exact absurd rfl h
    | cons x xs => simp
  unfold onPage fitN
  split <;> omega
theorem shN_len (π : Plan) (ls : List Ln) : ∀ n, (shN π ls n).length = n
  | 0 => rfl
  | n + 1 => by rw [shN, List.length_append, shN_len π ls n]; rfl
theorem getD_take {ls : List Ln} {m i : Nat} (h : i < m) : (ls.take m).getD i dfl = ls.getD i dfl := by
  rw [List.getD_eq_getElem?_getD, List.getD_eq_getElem?_getD, List.getElem?_take, if_pos h]
theorem shN_take (π : Plan) (ls : List Ln) (m : Nat) : ∀ n, n ≤ m → shN π (ls.take m) n = shN π ls n
  | 0, _ => rfl
  | n + 1, h => by
    have e : prevRow (ls.take m) n = prevRow ls n := by
      cases n with
      | zero => rfl
      | succ k =>
        show ((ls.take m).getD k dfl).isRow = (ls.getD k dfl).isRow
        rw [getD_take (by omega)]
    rw [shN, shN, shN_take π ls m n (by omega), getD_take (by omega), e]
def rowsIn : List Ln → Nat
  | [] => 0
  | x :: xs => (if x.isRow = true then 1 else 0) + rowsIn xs
theorem drop_getD {ls : List Ln} {n : Nat} (h : n < ls.length) : ls.drop n = ls.getD n dfl :: ls.drop (n + 1) := by
  rw [List.drop_eq_getElem_cons h, List.getD_eq_getElem?_getD, List.getElem?_eq_getElem h]
  rfl
theorem getD_mem {ls : List Ln} {n : Nat} (h : n < ls.length) : ls.getD n dfl ∈ ls := by
  rw [List.getD_eq_getElem?_getD, List.getElem?_eq_getElem h]
  exact List.getElem_mem h
/-- the sums stay small: so many rows have been added -/
structure SmOk (π : Plan) (ls : List Ln) (l : List (Int × Int)) (c : Nat) : Prop where
  ok : ∃ n, n + rowsIn ls ≤ c ∧ ∀ p ∈ l, AOk n p
  len : l.length = π.sums.length
theorem smN_ok {π : Plan} (Z : PlanOk π) {ls : List Ln} (Y : ∀ x ∈ ls, x.ok π) {l : List (Int × Int)} {c : Nat} (h : SmOk π ls l c) : ∀ n, n ≤ ls.length → SmOk π (ls.drop n) (smN π ls l n) c
  | 0, _ => h
  | n + 1, hn => by
    obtain ⟨⟨k, h1, h2⟩, h3⟩ := smN_ok Z Y h n (by omega)
    rw [drop_getD (by omega : n < ls.length)] at h1
    have hx := Y _ (getD_mem (by omega : n < ls.length))
    cases e : ls.getD n dfl with
    | row r =>
      rw [e] at h1 hx
      refine ⟨⟨k + 1, ?_, ?_⟩, ?_⟩
      · have : rowsIn (Ln.row r :: ls.drop (n + 1)) = 1 + rowsIn (ls.drop (n + 1)) := rfl
        omega
      · rw [smN, e]
        exact wRow_ok Z hx h2
      · rw [smN, e]
        exact wRow_len h3
    | oth k2 ds =>
      rw [e] at h1
      refine ⟨⟨k, ?_, ?_⟩, ?_⟩
      · have : rowsIn (Ln.oth k2 ds :: ls.drop (n + 1)) = 0 + rowsIn (ls.drop (n + 1)) := rfl
        omega
      · rw [smN, e]
        exact h2
      · rw [smN, e]
        exact h3
theorem lns_get {H : Hp} {xs : List V} {ls : List Ln} (t : Deeps H xs (ls.map Ln.dv)) {i : Nat} {x : V} (h : xs[i]? = some x) : i < ls.length ∧ Deep H x (ls.getD i dfl).dv := by
  obtain ⟨d, hd, dd⟩ := t.getX h
  rw [List.getElem?_map] at hd
  cases e : ls[i]? with
  | none => rw [e] at hd; cases hd
  | some r =>
    rw [e] at hd
    obtain rfl := Option.some.inj hd
    refine ⟨(List.getElem?_eq_some_iff.mp e).1, ?_⟩
    rw [List.getD_eq_getElem?_getD, e]
    exact dd
/-- a line, laid open -/
theorem ln_at {H : Hp} {v : V} {x : Ln} (h : Deep H v x.dv) : ∃ a xs, v = .ref a ∧ H a = some (.tup (.str x.key :: xs)) ∧ Deeps H xs x.rest := by
  rw [Ln.dv_eq] at h
  obtain ⟨a, xs, rfl, g, t⟩ := Deep.tup' h
  cases t with
  | cons p t =>
    obtain rfl := p.str'
    exact ⟨a, _, rfl, g, t⟩
theorem row_ln {H : Hp} {xs : List V} {r : List Cell} (t : Deeps H xs (Ln.row r).rest) : ∃ v, xs = [v] ∧ Deep H v (rowD r) := by
  cases t with
  | cons p t =>
    cases t
    exact ⟨_, rfl, p⟩
theorem seqJ {t u : TS} {D : Ends} {σ : L2.St} {H : Hp} (Good : L2.St → Hp → Prop) (rest : ∀ σ' H', Good σ' H' → u D σ' H') (h : (∀ σ' H', Good σ' H' → u D σ' H') → t { D with nx := u D } σ H) : tSeq t u D σ H := h rest
/-- two tuples put together -/
theorem cat_D {a b : Addr} {xs ys : List V} {ds es : List Dv} {H : Hp} {Q : VK} (ga : H a = some (.tup xs)) (gb : H b = some (.tup ys)) (ta : Deeps H xs ds) (tb : Deeps H ys es) (hl : xs.length + ys.length ≤ sizeLine) (k : ∀ u H', Same H H' → Deep H' u (.tup (ds ++ es)) → Q u H') : rCatR (.ref a) (.ref b) H Q := by
  refine ⟨a, b, xs, ys, rfl, rfl, .inl ga, .inl gb, hl, fun z => ?_, fun _ z => ?_, fun _ _ p hp => ?_⟩
  · subst z
    cases ta
    exact k _ _ (Same.refl _) (.tup gb tb)
  · subst z
    cases tb
    rw [List.append_nil] at k
    exact k _ _ (Same.refl _) (.tup ga ta)
  · exact k _ _ (Same.new hp) (deep_tup (ta.append tb) hp)
/-- a piece of a tuple -/
theorem cut_D {a : Addr} {xs : List V} {ds : List Dv} {H : Hp} {Q : VK} {i j : Nat} (ga : H a = some (.tup xs)) (ta : Deeps H xs ds) (hj : j ≤ xs.length) (k : ∀ u H', Same H H' → Deep H' u (.tup ((ds.take j).drop i)) → Q u H') : rSlR (.ref a) (some ((i : Nat) : Int)) (some ((j : Nat) : Int)) H Q := by
  refine ⟨a, xs, rfl, .inl ga, fun ⟨h1, h2⟩ => ?_, fun _ p hp => ?_⟩
  · rw [HT.sIx_nat] at h1 h2
    have hl := ta.length
    have e : (ds.take j).drop i = ds := by
      rw [List.take_of_length_le (by omega)]
      by_cases hi : i = 0
      · subst hi; rfl
      · have : xs.length = 0 := by omega
        rw [List.eq_nil_of_length_eq_zero (by omega : ds.length = 0)]
        simp
    rw [e] at k
    exact k _ _ (Same.refl _) (.tup ga ta)
  · rw [cutV_nat]
    exact k _ _ (Same.new hp) (deep_tup ((ta.take j).drop i) hp)
section
variable {P : Program} {w : World} {K : PySem.W.Frag} {mg : Str → Option Value} {base : Heap} {f : Addr} {fd : FuncData} {tk : Nat → Tok}
def spTop : Sp := fun vs H Q _ => ∃ (v av : V) (π : Plan) (n : Nat) (l : List (Int × Int)), vs = [v, .int (n : Nat), av] ∧ Deep H v (planD π) ∧ Deep H av (amtsD l) ∧ ∀ u H', Same H H' → Deep H' u (.tup (topL π n l)) → Q u H'
theorem ok_page_top (F : Fun K "page_top" "page_top" s_page_top f fd) (O : Own mg) : FnOk P w K mg base (CXE P w) 1 f fd ["plan", "page", "amounts"] spTop := by
  refine okN F sc_page_top (fun vs H Q E h => ?_) (fun cdv A outer s H vs Q E hr h => ?_)
  · obtain ⟨v, av, π, n, l, rfl, _⟩ := h
    rfl
  · obtain ⟨v, av, π, n, l, rfl, D, DA, k⟩ := h
    have hz : 1000 ≤ sizeLine := by decide
    refine ⟨_, (pss_cons (ps_set (i := 3) sc_page_top.nd rfl (Or.inl rfl) (pe_tup (pa_cons (pe_tup (pa_cons pe_str (pa_cons (pv 1) pa_nil))) pa_nil)))
      (pss_cons (ps_if (PW.pt (pw_or (pt_cmpR op_eq (pv 1) pe_int (nomark _)) (pw_or1 (pt_cmpR op_eq (pe_callB call_len_seq rfl O.len PySem.boot_len (pa_cons (pe_ix ix_tupR (pv 0) pe_int (fun _ _ => rfl)) pa_nil)) pe_int (nomark _))))) (pss_one (ps_ret (pv 3))) pss_nil)
      (pss_one (ps_ret (pe_op op_catR (pv 3) (pe_tup (pa_cons (pe_tup (pa_cons pe_str (pa_cons (pv 2) pa_nil))) pa_nil))))))), ?_⟩
    obtain ⟨a, ac, ak, as, L⟩ := plan_at D
    obtain rfl := L.v
    refine ⟨_, rfl, by show 2 ≤ sizeLine; omega, fun p hp => ⟨by show 1 ≤ sizeLine; omega, fun q hq => ?_⟩⟩
    have S1 := Same.new (o := .tup [.str "head", .int (n : Nat)]) hp
    have S2 := Same.new (o := .tup [.ref p]) hq
    have S := S1.trans S2
    have D1 : Deep (upd (upd H p (.tup [.str "head", .int (n : Nat)])) q (.tup [.ref p])) (.ref p) (headD n) := (Deep.tup upd_same (.cons .str (.cons .int .nil))).same S2
    have g : upd (upd H p (.tup [.str "head", .int (n : Nat)])) q (.tup [.ref p]) q = some (.tup [.ref p]) := upd_same
    generalize upd (upd H p (.tup [.str "head", .int (n : Nat)])) q (.tup [.ref p]) = H2 at S D1 g
    clear S1 S2
    have hlm : (π.sums.map V.str).length = π.sums.length := List.length_map ..
    have e1 : n = 1 ∨ π.sums = [] → topL π n l = [headD n] := fun h => by unfold topL; rw [if_pos h]
    have e2 : ¬ (n = 1 ∨ π.sums = []) → topL π n l = [headD n, broughtD l] := fun h => by unfold topL; rw [if_neg h]
    dsimp only [gName, tAsg, tSeq, tNext]
    refine ⟨_, rfl, rfl, _, rfl, ?_⟩
    refine ifB (fun z => ?_) (fun z => ?_)
    · refine ⟨_, rfl, k _ _ S ?_⟩
      rw [e1 (.inl (by have := of_decide_eq_true z; injection this; omega))]
      exact .tup g (.cons D1 .nil)
    · have z1 : n ≠ 1 := fun y => by subst y; exact absurd z (by decide)
      refine ⟨_, rfl, a, _, 2, _, rfl, rfl, .inl (S _ _ L.a), rfl, as, _, rfl, .inr (.inl (.inl (S _ _ L.s))), rfl, _, rfl, ?_⟩
      refine ifB (fun z => ?_) (fun z => ?_)
      · refine ⟨_, rfl, k _ _ S ?_⟩
        rw [e1 (.inr (by have := of_decide_eq_true z; injection this with this; exact List.eq_nil_of_length_eq_zero (by omega)))]
        exact .tup g (.cons D1 .nil)
      · have z2 : π.sums ≠ [] := fun y => by rw [y] at z; exact absurd z (by decide)
        refine ⟨_, rfl, _, rfl, by show 2 ≤ sizeLine; omega, fun p3 hp3 => ⟨by show 1 ≤ sizeLine; omega, fun q4 hq4 => ?_⟩⟩
        have S3 := Same.new (o := .tup [.str "brought", av]) hp3
        have S4 := Same.new (o := .tup [.ref p3]) hq4
        have S34 := S3.trans S4
        have D3 : Deep (upd (upd H2 p3 (.tup [.str "brought", av])) q4 (.tup [.ref p3])) (.ref p3) (broughtD l) := (Deep.tup upd_same (.cons .str (.cons (DA.same (S.trans S3)) .nil))).same S4
        have g4 : upd (upd H2 p3 (.tup [.str "brought", av])) q4 (.tup [.ref p3]) q4 = some (.tup [.ref p3]) := upd_same
        generalize upd (upd H2 p3 (.tup [.str "brought", av])) q4 (.tup [.ref p3]) = H4 at S34 D3 g4
        refine cat_D (S34 _ _ g) g4 (.cons (D1.same S34) .nil) (.cons D3 .nil) (by show 2 ≤ sizeLine; omega) fun u H5 S5 D5 => k _ _ ((S.trans S34).trans S5) ?_
        rw [e2 (fun y => y.elim z1 z2)]
        exact D5
def spBot : Sp := fun vs H Q _ => ∃ (v av : V) (π : Plan) (b : Bool) (l : List (Int × Int)), vs = [v, .bl b, av] ∧ Deep H v (planD π) ∧ Deep H av (amtsD l) ∧ ∀ u H', Same H H' → Deep H' u (.tup (botL π b l)) → Q u H'
theorem ok_page_bottom (F : Fun K "page_bottom" "page_bottom" s_page_bottom f fd) (O : Own mg) : FnOk P w K mg base (CXE P w) 1 f fd ["plan", "is_last", "amounts"] spBot := by
  refine okN F sc_page_bottom (fun vs H Q E h => ?_) (fun cdv A outer s H vs Q E hr h => ?_)
  · obtain ⟨v, av, π, b, l, rfl, _⟩ := h
    rfl
  · obtain ⟨v, av, π, b, l, rfl, D, DA, k⟩ := h
    have hz : 1000 ≤ sizeLine := by decide
    refine ⟨_, (pss_cons (ps_if (PW.pt (pw_or (pt_truth (pv 1) (fun _ => rfl)) (pw_or1 (pt_cmpR op_eq (pe_callB call_len_seq rfl O.len PySem.boot_len (pa_cons (pe_ix ix_tupR (pv 0) pe_int (fun _ _ => rfl)) pa_nil)) pe_int (nomark _))))) (pss_one (ps_ret (pe_tup pa_nil))) pss_nil)
      (pss_one (ps_ret (pe_tup (pa_cons (pe_tup (pa_cons pe_str (pa_cons (pv 2) pa_nil))) pa_nil))))), ?_⟩
    obtain ⟨a, ac, ak, as, L⟩ := plan_at D
    obtain rfl := L.v
    have hlm : (π.sums.map V.str).length = π.sums.length := List.length_map ..
    have e1 : b = true ∨ π.sums = [] → botL π b l = [] := fun h => by unfold botL; rw [if_pos h]
    have e2 : ¬ (b = true ∨ π.sums = []) → botL π b l = [carriedD l] := fun h => by unfold botL; rw [if_neg h]
    have nil : b = true ∨ π.sums = [] → ∀ p, H p = none → Q (.ref p) (upd H p (.tup [])) := fun h p hp => k _ _ (Same.new hp) (by rw [e1 h]; exact .tup upd_same .nil)
    refine ⟨_, rfl, b, rfl, ?_⟩
    refine ifB (fun z => ?_) (fun z => ?_)
    · exact ⟨by show 0 ≤ sizeLine; omega, fun p hp => nil (.inl z) p hp⟩
    · refine ⟨_, rfl, a, _, 2, _, rfl, rfl, .inl L.a, rfl, as, _, rfl, .inr (.inl (.inl L.s)), rfl, _, rfl, ?_⟩
      refine ifB (fun z => ?_) (fun z2 => ?_)
      · exact ⟨by show 0 ≤ sizeLine; omega, fun p hp => nil (.inr (by have := of_decide_eq_true z; injection this with this; exact List.eq_nil_of_length_eq_zero (by omega))) p hp⟩
      · have z2 : π.sums ≠ [] := fun y => by rw [y] at z2; exact absurd z2 (by decide)
        refine ⟨_, rfl, by show 2 ≤ sizeLine; omega, fun p3 hp3 => ⟨by show 1 ≤ sizeLine; omega, fun q4 hq4 => ?_⟩⟩
        have S3 := Same.new (o := .tup [.str "carried", av]) hp3
        have S4 := Same.new (o := .tup [.ref p3]) hq4
        refine k _ _ (S3.trans S4) ?_
        rw [e2 (fun y => y.elim (fun y => by rw [z] at y; cases y) z2)]
        exact .tup upd_same (.cons ((Deep.tup upd_same (.cons .str (.cons (DA.same S3) .nil))).same S4) .nil)
def spFit : Sp := fun vs H Q _ => ∃ (v : V) (π : Plan) (t left : Nat), vs = [v, .int (t : Nat), .int (left : Nat)] ∧ Deep H v (planD π) ∧ 6 ≤ π.size ∧ t ≤ 2 ∧ Q (.int (fitN π t left : Nat)) H
theorem ok_lines_on_page (F : Fun K "lines_on_page" "lines_on_page" s_lines_on_page f fd) (O : Own mg) : FnOk P w K mg base (CXE P w) 1 f fd ["plan", "ahead", "left"] spFit := by
  refine okN F sc_lines_on_page (fun vs H Q E h => ?_) (fun cdv A outer s H vs Q E hr h => ?_)
  · obtain ⟨v, π, t, left, rfl, _⟩ := h
    rfl
  · obtain ⟨v, π, t, left, rfl, D, z6, ht, k⟩ := h
    refine ⟨_, (pss_cons (ps_asg (pv 0) (pg_tup rfl (pgs_cons (pg_name (i := 3) sc_lines_on_page.nd rfl (Or.inl rfl)) (pgs_cons (pg_name (i := 4) sc_lines_on_page.nd rfl (Or.inl rfl)) (pgs_cons (pg_name (i := 5) sc_lines_on_page.nd rfl (Or.inl rfl)) (pgs_cons (pg_name (i := 6) sc_lines_on_page.nd rfl (Or.inl rfl)) pgs_nil))))))
      (pss_cons (ps_if (pt_cmpR op_le (pv 2) (pe_op op_sub (pv 6) (pv 1)) (nomark _)) (pss_one (ps_ret (pv 2))) pss_nil)
      (pss_one (ps_ret (pe_callB (call_max2 rfl) rfl O.max PyProof.Rows.boot_max (pa_cons (pe_op op_sub (pe_op op_sub (pv 6) (pv 1)) (pe_ifExp (pt_cmpR op_gt (pe_callB call_len_seq rfl O.len PySem.boot_len (pa_cons (pv 5) pa_nil)) pe_int (nomark _)) pe_int pe_int)) (pa_cons pe_int pa_nil))))))), ?_⟩
    obtain ⟨a, ac, ak, as, L⟩ := plan_at D
    obtain rfl := L.v
    have hlm : (π.sums.map V.str).length = π.sums.length := List.length_map ..
    refine ⟨_, rfl, a, _, rfl, .inl (.inl L.a), rfl, _, _, rfl, _, _, rfl, _, _, rfl, _, _, rfl, rfl, ?_⟩
    try dsimp only [gName, tAsg, tSeq, tNext]
    refine ⟨_, rfl, _, rfl, _, rfl, _, _, rfl, rfl, _, _, rfl, rfl, _, rfl, ?_⟩
    refine ifB (fun z => ?_) (fun z => ?_)
    · have z := of_decide_eq_true z
      have e : fitN π t left = left := by unfold fitN; rw [if_pos (by omega)]
      rw [e] at k
      exact ⟨_, rfl, k⟩
    · have z := of_decide_eq_false z
      have e : fitN π t left = π.size.toNat - t - oneIf π := by unfold fitN; rw [if_neg (by omega)]
      rw [e] at k
      have h1 := oneIf_le π
      refine ⟨_, rfl, _, rfl, _, _, rfl, rfl, _, rfl, as, _, rfl, .inr (.inl (.inl L.s)), _, _, rfl, rfl, _, rfl, ?_⟩
      refine ifB (fun y => ?_) (fun y => ?_)
      · have y := of_decide_eq_true y
        have e2 : oneIf π = 1 := by
          unfold oneIf
          rw [if_neg (fun z => by rw [z] at y; exact absurd y (by decide))]
        rw [e2] at k
        refine ⟨_, _, rfl, rfl, _, _, rfl, ?_⟩
        have e3 : (if (1 : Int) > π.size - (t : Int) - 1 then (1 : Int) else π.size - (t : Int) - 1) = ((π.size.toNat - t - 1 : Nat) : Int) := by rw [if_neg (by omega)]; omega
        rw [e3]
        exact k
      · have y := of_decide_eq_false y
        have e2 : oneIf π = 0 := by
          unfold oneIf
          rw [if_pos (List.eq_nil_of_length_eq_zero (by omega))]
        rw [e2] at k
        refine ⟨_, _, rfl, rfl, _, _, rfl, ?_⟩
        have e3 : (if (1 : Int) > π.size - (t : Int) - 0 then (1 : Int) else π.size - (t : Int) - 0) = ((π.size.toNat - t - 0 : Nat) : Int) := by rw [if_neg (by omega)]; omega
        rw [e3]
        exact k
def spHide : Sp := fun vs H Q _ => ∃ (v rv : V) (π : Plan) (r : List Cell), vs = [v, rv] ∧ Deep H v (planD π) ∧ PlanOk π ∧ Deep H rv (rowD r) ∧ RowOk π r ∧ ∀ u H', Same H H' → Deep H' u (.tup (hideD π r)) → Q u H'
theorem hide_len {π : Plan} {r : List Cell} (Y : RowOk π r) : (hideD π r).length = π.cols.length := by
  unfold hideD
  rw [List.length_zipWith, Y.len, Nat.min_self]
theorem hide_at {π : Plan} {r : List Cell} {i : Nat} {nm : Str} {c : Cell} {d : Dv} (h1 : π.cols[i]? = some nm) (h2 : r[i]? = some c) (h : (hideD π r)[i]? = some d) : d = if π.keys.contains nm = true then Dv.non else c.dv := by
  unfold hideD at h
  rw [List.getElem?_zipWith, h1, h2] at h
  exact (Option.some.inj h).symm
theorem ok_without_keys (F : Fun K "without_keys" "without_keys" s_without_keys f fd) (OT : mg "tuple" = none) (OZ : mg "zip" = none) : FnOk P w K mg base (CXE P w) 1 f fd ["plan", "row"] spHide := by
  refine okN F sc_without_keys (fun vs H Q E h => ?_) (fun cdv A outer s H vs Q E hr h => ?_)
  · obtain ⟨v, rv, π, r, rfl, _⟩ := h
    rfl
  · obtain ⟨v, rv, π, r, rfl, D, Z, DR, Y, k⟩ := h
    have hz : 1000 ≤ sizeLine := by decide
    refine ⟨_, (pss_one (ps_ret (pe_callTy call_tuple_of rfl OT PyProof.Rows.boot_tuple (pa_cons (pe_lcompF (NB := [".0", "name", "value"]) (FR := ["plan"]) (fi := [0]) rfl ⟨rfl, by decide +kernel, by decide +kernel, by decide +kernel, by decide +kernel, by decide +kernel⟩ rfl rfl (pi_zipK .tp .tp rfl OZ (pa_cons (pe_ix ix_tupR (pv 0) pe_int (fun _ _ => rfl)) (pa_cons (pv 1) pa_nil))) (fun _ _ _ => (pg_tupK (K0 := K) (n := 2) rfl rfl (pgs_cons (pg_name (i := 1) (show ([".0", "name", "value", "plan"] : List Str).Nodup by decide +kernel) rfl (Or.inl rfl) (Or.inr rfl)) (pgs_cons (pg_name (i := 2) (show ([".0", "name", "value", "plan"] : List Str).Nodup by decide +kernel) rfl (Or.inl rfl) (Or.inr rfl)) pgs_nil)))) (fun _ _ _ => pts_nil) (fun _ _ _ => (pe_ifExp (pt_cmpR op_inR (pv 1) (pe_ix ix_tupR (pv 3) pe_int (fun _ _ => rfl)) (by with_unfolding_all rfl)) pe_non (pv 2)))) pa_nil)))), ?_⟩
    obtain ⟨a, ac, ak, as, L⟩ := plan_at D
    obtain rfl := L.v
    obtain ⟨rr, xs, rfl, gr, tr⟩ := Deep.tup' DR
    have lx := tr.length
    rw [List.length_map] at lx
    have hlc : (π.cols.map V.str).length = π.cols.length := List.length_map ..
    have hy := Y.len
    have z1 := Z.lc
    refine ret_cb (cb1 ?_)
    refine tCompF_of ?_
    refine ⟨_, rfl, a, _, 0, _, rfl, rfl, .inl L.a, rfl, _, rfl, ac, rr, rfl, ⟨_, .inl L.c⟩, ⟨_, .inl gr⟩, ?_⟩
    refine compF_deep (fv := [.ref a]) (fixZ (k1 := .tp) (k2 := .tp) (a1 := ac) (a2 := rr) (xs := π.cols.map V.str) (ys := xs)) (hideD π r) (by rw [hide_len Y, hlc]; omega) (fun R h => h H (Same.refl _)) rfl (fun H1 S => ⟨.inl (S _ _ L.c), .inl (S _ _ gr)⟩) ?_ ?_ (by rw [hlc]; omega)
    · rintro i v H1 H2 d R hd S ⟨p, x, y, hp, rfl, hx, hy2, rfl⟩ kk
      obtain ⟨nm, hn, rfl⟩ := str_at hx
      obtain ⟨dd, hdd, ddd⟩ := tr.getX hy2
      obtain ⟨c, hc, rfl⟩ := dv_at hdd
      have e := hide_at hn hc hd
      have Sp := Same.new (o := .tup [.str nm, y]) hp
      refine ⟨p, _, rfl, .inl (.inl upd_same), rfl, _, _, rfl, _, _, rfl, rfl, rfl, ?_⟩
      refine ⟨_, rfl, _, rfl, a, _, 1, _, rfl, rfl, .inl ((S.trans Sp) _ _ L.a), rfl, ak, π.keys, nm, rfl, rfl, .inl ((S.trans Sp) _ _ L.k), _, rfl, ?_⟩
      refine ifB (fun z => ?_) (fun z => ?_)
      · refine kk _ _ Sp ?_
        rw [e, if_pos z]
        exact .non
      · refine ⟨_, rfl, kk _ _ Sp ?_⟩
        rw [e, if_neg (by rw [z]; decide)]
        exact ddd.same (S.trans Sp)
    · rintro xs H1 p S t hp
      have S2 := Same.new (o := .lst xs) hp
      refine ⟨p, xs, rfl, .inl ⟨.inl (.inl upd_same), fun l hl => ?_⟩⟩
      exact k _ _ ((S.trans S2).trans (Same.new hl)) (deep_tup (t.same S2) hl)
/-- a list that grows -/
structure LsSt (Hb H : Hp) (q : Addr) (xs : List V) (acc : List Dv) : Prop where
  S : Same Hb H
  f : Hb q = none
  g : H q = some (.lst xs)
  t : Deeps H xs acc
theorem LsSt.same {Hb H H' : Hp} {q : Addr} {xs : List V} {acc : List Dv} (B : LsSt Hb H q xs acc) (S : Same H H') : LsSt Hb H' q xs acc := ⟨B.S.trans S, B.f, S _ _ B.g, B.t.same S⟩
theorem LsSt.snoc {Hb H : Hp} {q : Addr} {xs : List V} {acc : List Dv} (B : LsSt Hb H q xs acc) {v : V} {d : Dv} (h : Deep H v d) : LsSt Hb (upd H q (.lst (xs ++ [v]))) q (xs ++ [v]) (acc ++ [d]) :=
  ⟨same_off B.S B.f, B.f, upd_same, (B.t.append (.cons h .nil)).updL B.g (fun zs z => nomatch z)⟩
def spShown : Sp := fun vs H Q _ => ∃ (v bv : V) (π : Plan) (ls : List Ln), vs = [v, bv] ∧ Deep H v (planD π) ∧ PlanOk π ∧ Deep H bv (.tup (ls.map Ln.dv)) ∧ (∀ x ∈ ls, x.ok π) ∧ ls.length ≤ 1000 ∧ ∀ u H', Same H H' → Deep H' u (.tup (shN π ls ls.length)) → Q u H'
set_option maxHeartbeats 1000000 in
theorem ok_shown (F : Fun K "shown" "shown" s_shown f fd) (OT : mg "tuple" = none) (OE : mg "enumerate" = none) (D_without_keys : Def P w K mg base 1 "without_keys" ["plan", "row"] spHide) : FnOk P w K mg base (CXE P w) 2 f fd ["plan", "lines"] spShown := by
  refine okN F sc_shown (fun vs H Q E h => ?_) (fun cdv A outer s H vs Q E hr h => ?_)
  · obtain ⟨v, bv, π, ls, rfl, _⟩ := h
    rfl
  · obtain ⟨v, bv, π, ls, rfl, D, Z, DB, Y, hl, k⟩ := h
    have hz : 100000 ≤ sizeLine := by rw [sizeLine_eq]; decide
    refine ⟨_, (pss_cons (ps_set (i := 2) sc_shown.nd rfl (Or.inl rfl) (pe_lst pa_nil))
      (pss_cons (ps_for PassesOwn.never rfl (pi_enumK .tp rfl OE (pa_cons (pv 1) pa_nil)) (pg_tup rfl (pgs_cons (pg_name (i := 3) sc_shown.nd rfl (Or.inl rfl)) (pgs_cons (pg_name (i := 4) sc_shown.nd rfl (Or.inl rfl)) pgs_nil))) (pss_one (ps_if (PW.pt (pw_and (pt_cmpR op_gt (pv 3) pe_int (nomark _)) (pw_and (pt_cmpR op_eq (pe_ix ix_tupR (pv 4) pe_int (fun _ _ => rfl)) pe_str (nomark _)) (pw_and1 (pt_cmpR op_eq (pe_ix ix_tupR (pe_ix ix_tupR (pv 1) (pe_op op_sub (pv 3) pe_int) (fun _ _ => rfl)) pe_int (fun _ _ => rfl)) pe_str (nomark _)))))) (pss_one (ps_expr (pe_bm PySem.F.plainAttrs_list PySem.F.slot_list_append PySem.F.type_list_append mt_append (pv 2) (pa_cons (pe_tup (pa_cons pe_str (pa_cons (D_without_keys.pe hr (by decide) rfl passE0 (pa_cons (pv 0) (pa_cons (pe_ix ix_tupR (pv 4) pe_int (fun _ _ => rfl)) pa_nil))) pa_nil))) pa_nil)))) (pss_one (ps_expr (pe_bm PySem.F.plainAttrs_list PySem.F.slot_list_append PySem.F.type_list_append mt_append (pv 2) (pa_cons (pv 4) pa_nil)))))))
      (pss_one (ps_ret (pe_callTy call_tuple_of rfl OT PyProof.Rows.boot_tuple (pa_cons (pv 2) pa_nil)))))), ?_⟩
    obtain ⟨a, ac, ak, as, L⟩ := plan_at D
    obtain rfl := L.v
    obtain ⟨R, xr, rfl, gr, tr⟩ := Deep.tup' DB
    have lx := tr.length
    rw [List.length_map] at lx
    refine ⟨by show 0 ≤ sizeLine; omega, fun q hq => ?_⟩
    have B0 : LsSt H (upd H q (.lst [])) q [] (shN π ls 0) := ⟨Same.new hq, hq, upd_same, .nil⟩
    generalize upd H q (.lst []) = H5 at B0
    dsimp only [gName, tAsg, tSeq, tNext]
    refine ⟨_, rfl, R, rfl, ⟨_, .inl (.inl (B0.S _ _ gr))⟩, ?_⟩
    refine for_fix (fixN (k := .tp) (K := K) (a := R) (xs := xr)) (fun i σ H6 => ∃ xs y3 y4, σ = [some (.ref a), some (.ref R), some (.ref q), y3, y4] ∧ LsSt H H6 q xs (shN π ls i)) ⟨[], none, none, rfl, B0⟩ ?_ ?_ ?_
    · rintro i σ H6 _ ⟨xs, y3, y4, rfl, B⟩
      exact .inl (.inl (B.S _ _ gr))
    · rintro i x σ H6 H7 hi ⟨xs, y3, y4, rfl, B⟩ ⟨p, x, hp, rfl, hx, rfl⟩
      obtain ⟨hil, Dx⟩ := lns_get tr hx
      have okx := Y _ (getD_mem hil)
      have B7 := B.same (Same.new (o := .tup [.int ((i : Nat) : Int), x]) hp)
      refine ⟨p, _, rfl, .inl (.inl upd_same), rfl, _, _, rfl, _, _, rfl, rfl, ?_⟩
      generalize upd H6 p (.tup [.int ((i : Nat) : Int), x]) = H7 at B7
      clear B hp
      obtain ⟨xa, ys, rfl, gx, tx⟩ := ln_at Dx
      have gx7 := B7.S _ _ gx
      have lxs := B7.t.length
      rw [shN_len] at lxs
      have put : ∀ (H8 : Hp) (u : V), Same H7 H8 → Deep H8 u (shown1 π (prevRow ls i) (ls.getD i dfl)) → ∃ l xs' y, V.ref q = .ref l ∧ [u] = [y] ∧ H8 l = some (.lst xs') ∧ xs'.length < sizeLine ∧ ∃ xs2 y3 y4, ([some (V.ref a), some (V.ref R), some (V.ref q), some (V.int ((i : Nat) : Int)), some (V.ref xa)] : L2.St) = [some (V.ref a), some (V.ref R), some (V.ref q), y3, y4] ∧ LsSt H (upd H8 l (.lst (xs' ++ [y]))) q xs2 (shN π ls (i + 1)) :=
        fun H8 u S8 D8 => ⟨q, xs, u, rfl, rfl, (B7.same S8).g, by omega, _, _, _, rfl, (B7.same S8).snoc D8⟩
      have plain : prevRow ls i = false ∨ (ls.getD i dfl).isRow = false → Deep H7 (.ref xa) (shown1 π (prevRow ls i) (ls.getD i dfl)) := by
        intro h
        have e : shown1 π (prevRow ls i) (ls.getD i dfl) = (ls.getD i dfl).dv := by
          cases e2 : ls.getD i dfl with
          | oth k2 ds => rfl
          | row r =>
            rw [e2] at h
            rcases h with h | h
            · rw [h]; rfl
            · cases h
        rw [e]
        exact Dx.same B7.S
      dsimp only [gName, tAsg, tSeq, tNext]
      refine ⟨_, rfl, _, _, rfl, rfl, _, rfl, ?_⟩
      refine ifB (fun z => ?_) (fun z => ?_)
      rotate_left
      · have z := of_decide_eq_false z
        obtain rfl : i = 0 := by omega
        refine ⟨_, rfl, .inl ⟨rfl, _, .inl (.inl B7.g)⟩, ?_⟩
        exact ⟨_, rfl, put H7 _ (Same.refl _) (plain (.inl rfl))⟩
      have z := of_decide_eq_true z
      obtain ⟨i', rfl⟩ : ∃ i', i = i' + 1 := ⟨i - 1, by omega⟩
      refine ⟨_, rfl, xa, _, 0, _, rfl, rfl, .inl gx7, atI_nat (j := 0) rfl, rfl, _, rfl, ?_⟩
      rw [Ln.key_row okx]
      refine ifB (fun z2 => ?_) (fun z2 => ?_)
      rotate_left
      · refine ⟨_, rfl, .inl ⟨rfl, _, .inl (.inl B7.g)⟩, ?_⟩
        exact ⟨_, rfl, put H7 _ (Same.refl _) (plain (.inr z2))⟩
      obtain ⟨x0, hx0⟩ : ∃ x0, xr[i']? = some x0 := ⟨_, List.getElem?_eq_getElem (by omega)⟩
      obtain ⟨hil0, Dx0⟩ := lns_get tr hx0
      have okx0 := Y _ (getD_mem hil0)
      obtain ⟨xa0, ys0, rfl, gx0, tx0⟩ := ln_at Dx0
      have hat : atI xr ((((i' + 1 : Nat) : Nat) : Int) - 1) = some (.ref xa0) := by
        rw [show (((i' + 1 : Nat) : Nat) : Int) - 1 = ((i' : Nat) : Int) by omega]
        exact atI_nat hx0
      refine ⟨_, rfl, _, rfl, _, _, rfl, rfl, R, xr, _, _, rfl, rfl, .inl (B7.S _ _ gr), hat, xa0, _, 0, _, rfl, rfl, .inl (B7.S _ _ gx0), atI_nat (j := 0) rfl, rfl, _, rfl, ?_⟩
      rw [Ln.key_row okx0]
      refine ifB (fun z3 => ?_) (fun z3 => ?_)
      rotate_left
      · refine ⟨_, rfl, .inl ⟨rfl, _, .inl (.inl B7.g)⟩, ?_⟩
        exact ⟨_, rfl, put H7 _ (Same.refl _) (plain (.inl z3))⟩
      cases er : ls.getD (i' + 1) dfl with
      | oth k2 ds => rw [er] at z2; cases z2
      | row r =>
        rw [er] at tx okx
        obtain ⟨rv, rfl, DR⟩ := row_ln tx
        have gx8 : H7 xa = some (.tup [.str "row", rv]) := by rw [gx7, er]; rfl
        refine ⟨_, rfl, .inl ⟨rfl, _, .inl (.inl B7.g)⟩, ?_⟩
        refine ⟨_, rfl, _, rfl, xa, _, 1, _, rfl, rfl, .inl gx8, rfl, .ref a, rv, π, r, rfl, D.same B7.S, Z, DR.same B7.S, okx, fun u H8 S8 D8 => ?_⟩
        refine ⟨by show 2 ≤ sizeLine; omega, fun p9 hp9 => ?_⟩
        have S9 := Same.new (o := .tup [.str "row", u]) hp9
        have D9 : Deep (upd H8 p9 (.tup [.str "row", u])) (.ref p9) (hidL π r) := .tup upd_same (.cons .str (.cons (D8.same S9) .nil))
        refine put _ _ (S8.trans S9) ?_
        rw [er]
        show Deep _ _ (if prevRow ls (i' + 1) = true then hidL π r else rowL r)
        rw [show prevRow ls (i' + 1) = true from z3]
        exact D9
    · rintro σ H6 ⟨xs, y3, y4, rfl, B⟩
      have lxr : xr.length = ls.length := lx
      rw [lxr] at B
      refine ⟨_, rfl, q, xs, rfl, .inl ⟨.inl (.inl B.g), fun l hl => ?_⟩⟩
      exact k _ _ (B.S.trans (Same.new hl)) (deep_tup B.t hl)
end
end Lw

set_option Elab.async false
set_option linter.all false
set_option maxRecDepth 100000
namespace Lw
open PySem PySem.Spec PyProof.Rows L2 K34
open Builtin Builtin.Str StrLaws
/-! ### the lines of a report, as lines -/
def footLn (π : Plan) (row : List Cell) (since : List (List (Int × Int))) (level : Nat) : Ln := .oth "foot" [.str (π.keys.getD level ""), .tup ((valsD π row).take (level + 1)), amtsD (since.getD level [])]
def feetLn (π : Plan) (row : List Cell) (since : List (List (Int × Int))) (first : Nat) : List Ln := (List.range (π.keys.length - first)).map fun i => footLn π row since (π.keys.length - 1 - i)
def progLn (π : Plan) : List (List Cell) → Option (List Cell) → List (List (Int × Int)) → List Ln
  | [], none, _ => []
  | [], some p, since => feetLn π p since 0
  | r :: rs, none, since => .row r :: progLn π rs (some r) (since.map (wRow (sps π) r))
  | r :: rs, some p, since => feetLn π p since (unlike (sks π) p r) ++ .row r :: progLn π rs (some r) ((since.take (unlike (sks π) p r) ++ List.replicate (π.keys.length - unlike (sks π) p r) (zeros π)).map (wRow (sps π) r))
def lnsOf (π : Plan) (rows : List (List Cell)) : List Ln := progLn π rows none (since0 π) ++ [.oth "final" [amtsD (total π rows)]]
theorem feetLn_dv (π : Plan) (row : List Cell) (since : List (List (Int × Int))) (first : Nat) : (feetLn π row since first).map Ln.dv = feetOf π row since first := by
  unfold feetLn feetOf
  rw [List.map_map]
  rfl
theorem progLn_dv (π : Plan) : ∀ (rows : List (List Cell)) (p : Option (List Cell)) (since : List (List (Int × Int))), (progLn π rows p since).map Ln.dv = prog π rows p since
  | [], none, _ => rfl
  | [], some p, since => by rw [progLn, prog, feetLn_dv]
  | r :: rs, none, since => by rw [progLn, prog, List.map_cons, progLn_dv π rs]; rfl
  | r :: rs, some p, since => by rw [progLn, prog, List.map_append, List.map_cons, progLn_dv π rs, feetLn_dv]; rfl
theorem lnsOf_dv (π : Plan) (rows : List (List Cell)) : (lnsOf π rows).map Ln.dv = progB π rows := by
  unfold lnsOf progB
  rw [List.map_append, progLn_dv]
  rfl
theorem foot_ok {π : Plan} {row : List Cell} {since : List (List (Int × Int))} {first : Nat} : ∀ x ∈ feetLn π row since first, x.ok π ∧ x.isRow = false := by
  intro x hx
  obtain ⟨i, _, rfl⟩ := List.mem_map.mp hx
  exact ⟨by show decide (V.str "foot" = V.str "row") = false; decide +kernel, rfl⟩
theorem progLn_ok {π : Plan} : ∀ (rows : List (List Cell)) (p : Option (List Cell)) (since : List (List (Int × Int))), (∀ r ∈ rows, RowOk π r) → ∀ x ∈ progLn π rows p since, x.ok π
  | [], none, _, _ => fun x hx => nomatch hx
  | [], some p, since, _ => fun x hx => (foot_ok x hx).1
  | r :: rs, none, since, Y => by
    intro x hx
    rw [progLn] at hx
    rcases List.mem_cons.mp hx with rfl | hx
    · exact Y r List.mem_cons_self
    · exact progLn_ok rs _ _ (fun r hr => Y r (List.mem_cons_of_mem _ hr)) x hx
  | r :: rs, some p, since, Y => by
    intro x hx
    rw [progLn] at hx
    rcases List.mem_append.mp hx with hx | hx
    · exact (foot_ok x hx).1
    rcases List.mem_cons.mp hx with rfl | hx
    · exact Y r List.mem_cons_self
    · exact progLn_ok rs _ _ (fun r hr => Y r (List.mem_cons_of_mem _ hr)) x hx
theorem lnsOf_ok {π : Plan} {rows : List (List Cell)} (Y : ∀ r ∈ rows, RowOk π r) : ∀ x ∈ lnsOf π rows, x.ok π := by
  intro x hx
  rcases List.mem_append.mp hx with hx | hx
  · exact progLn_ok _ _ _ Y x hx
  · obtain rfl := List.mem_singleton.mp hx
    show decide (V.str "final" = V.str "row") = false
    decide +kernel
theorem rowsIn_append (a b : List Ln) : rowsIn (a ++ b) = rowsIn a + rowsIn b := by
  induction a with
  | nil => simp [rowsIn]
  | cons x xs ih => rw [List.cons_append, rowsIn, rowsIn, ih]; omega
theorem rowsIn_none {a : List Ln} (h : ∀ x ∈ a, x.isRow = false) : rowsIn a = 0 := by
  induction a with
  | nil => rfl
  | cons x xs ih =>
    rw [rowsIn, h x List.mem_cons_self, ih fun y hy => h y (List.mem_cons_of_mem _ hy)]
    rfl
theorem rowsIn_prog (π : Plan) : ∀ (rows : List (List Cell)) (p : Option (List Cell)) (since : List (List (Int × Int))), rowsIn (progLn π rows p since) = rows.length
  | [], none, _ => rfl
  | [], some p, since => rowsIn_none fun x hx => (foot_ok x hx).2
  | r :: rs, none, since => by rw [progLn, rowsIn, rowsIn_prog π rs, List.length_cons, show (Ln.row r).isRow = true from rfl, if_pos rfl, Nat.add_comm]
  | r :: rs, some p, since => by rw [progLn, rowsIn_append, rowsIn_none fun x hx => (foot_ok x hx).2, rowsIn, rowsIn_prog π rs, List.length_cons, show (Ln.row r).isRow = true from rfl, if_pos rfl]; omega
theorem rowsIn_lns (π : Plan) (rows : List (List Cell)) : rowsIn (lnsOf π rows) = rows.length := by
  unfold lnsOf
  rw [rowsIn_append, rowsIn_prog]
  rfl
theorem lns_len {π : Plan} {rows : List (List Cell)} (h1 : π.keys.length ≤ 10) (h2 : rows.length ≤ 20) : (lnsOf π rows).length ≤ 300 := by
  have e : (lnsOf π rows).length = (progB π rows).length := by rw [← lnsOf_dv, List.length_map]
  rw [e]
  unfold progB
  rw [List.length_append]
  have := prog_len π rows none (since0 π)
  have h3 : rows.length * (π.keys.length + 1) ≤ 20 * 11 := Nat.mul_le_mul (by omega) (by omega)
  simp
  omega
def allPages (π : Plan) (ls : List Ln) : List Dv := pagesF π ls.length 1 (zeros π) ls
theorem pagesF_cons {π : Plan} {f n : Nat} {l : List (Int × Int)} {ls : List Ln} (h : ls ≠ []) : pagesF π (f + 1) n l ls = pageD π n l ls :: pagesF π f (n + 1) (smN π ls l (onPage π n l ls)) (ls.drop (onPage π n l ls)) := by rw [pagesF, if_neg h]
section
variable {P : Program} {w : World} {K : PySem.W.Frag} {mg : Str → Option Value} {base : Heap} {f : Addr} {fd : FuncData} {tk : Nat → Tok}
def spReport : Sp := fun vs H Q _ => ∃ (v rv : V) (π : Plan) (rows : List (List Cell)), vs = [v, rv] ∧ Deep H v (planD π) ∧ PlanOk π ∧ π.keys.length ≤ 10 ∧ Deep H rv (rowsD rows) ∧ (∀ r ∈ rows, RowOk π r) ∧ rows.length ≤ 20 ∧ ∀ u H', Same H H' → Deep H' u (.tup (allPages π (lnsOf π rows))) → Q u H'
set_option maxHeartbeats 2000000 in
theorem ok_report (F : Fun K "report" "report" s_report f fd) (O : Own mg) (OT : mg "tuple" = none) (D_breaks : Def P w K mg base 7 "breaks" ["plan", "rows"] spBreaks) (D_no_sums : Def P w K mg base 1 "no_sums" ["plan"] spNoS) (D_with_row : Def P w K mg base 5 "with_row" ["plan", "amounts", "row"] (spWith K)) (D_page_top : Def P w K mg base 1 "page_top" ["plan", "page", "amounts"] spTop) (D_page_bottom : Def P w K mg base 1 "page_bottom" ["plan", "is_last", "amounts"] spBot)
    (D_lines_on_page : Def P w K mg base 1 "lines_on_page" ["plan", "ahead", "left"] spFit) (D_shown : Def P w K mg base 2 "shown" ["plan", "lines"] spShown) : FnOk P w K mg base (CXE P w) 8 f fd ["plan", "rows"] spReport := by
  refine okN F sc_report (fun vs H Q E h => ?_) (fun cdv A outer s H vs Q E hr h => ?_)
  · obtain ⟨v, rv, π, rows, rfl, _⟩ := h
    rfl
  · obtain ⟨v, rv, π, rows, rfl, D, Z, hk, DR, Y, hl, k⟩ := h
    have hz : 100000 ≤ sizeLine := by rw [sizeLine_eq]; decide
    have z6 := Z.sz
    have z2 := Z.lu
    have z3 : π.keys.length + π.sums.length = (π.keys ++ π.sums).length := (List.length_append ..).symm
    have YL := lnsOf_ok Y
    have rl := rowsIn_lns π rows
    have ll := lns_len hk hl
    refine ⟨_, (pss_cons (ps_set (i := 2) sc_report.nd rfl (Or.inl rfl) (D_breaks.pe hr (by decide) rfl passE0 (pa_cons (pv 0) (pa_cons (pv 1) pa_nil))))
      (pss_cons (ps_set (i := 3) sc_report.nd rfl (Or.inl rfl) (pe_lst pa_nil))
      (pss_cons (ps_set (i := 4) sc_report.nd rfl (Or.inl rfl) (D_no_sums.pe hr (by decide) rfl passE0 (pa_cons (pv 0) pa_nil)))
      (pss_cons (ps_set (i := 5) sc_report.nd rfl (Or.inl rfl) pe_int)
      (pss_cons (ps_while PassesOwn.never (pt_cmpR op_lt (pv 5) (pe_callB call_len_seq rfl O.len PySem.boot_len (pa_cons (pv 2) pa_nil)) (nomark _)) (pss_cons (ps_set (i := 6) sc_report.nd rfl (Or.inl rfl) (D_page_top.pe hr (by decide) rfl passE0 (pa_cons (pv 0) (pa_cons (pe_op op_add (pe_callB call_len_seq rfl O.len PySem.boot_len (pa_cons (pv 3) pa_nil)) pe_int) (pa_cons (pv 4) pa_nil)))))
      (pss_cons (ps_set (i := 7) sc_report.nd rfl (Or.inl rfl) (pe_op op_add (pv 5) (D_lines_on_page.pe hr (by decide) rfl passE0 (pa_cons (pv 0) (pa_cons (pe_callB call_len_seq rfl O.len PySem.boot_len (pa_cons (pv 6) pa_nil)) (pa_cons (pe_op op_sub (pe_callB call_len_seq rfl O.len PySem.boot_len (pa_cons (pv 2) pa_nil)) (pv 5)) pa_nil))))))
      (pss_cons (ps_set (i := 8) sc_report.nd rfl (Or.inl rfl) (pe_slice sl_tupR (pv 2) (po_some (pv 5)) (po_some (pv 7))))
      (pss_cons (ps_for PassesOwn.never rfl (pi_tup (pv 8)) (pg_name (i := 9) sc_report.nd rfl (Or.inl rfl)) (pss_one (ps_if (pt_cmpR op_eq (pe_ix ix_tupR (pv 9) pe_int (fun _ _ => rfl)) pe_str (nomark _)) (pss_one (ps_set (i := 4) sc_report.nd rfl (Or.inl rfl) (D_with_row.pe hr (by decide) rfl passE0 (pa_cons (pv 0) (pa_cons (pv 4) (pa_cons (pe_ix ix_tupR (pv 9) pe_int (fun _ _ => rfl)) pa_nil)))))) pss_nil)))
      (pss_cons (ps_expr (pe_bm PySem.F.plainAttrs_list PySem.F.slot_list_append PySem.F.type_list_append mt_append (pv 3) (pa_cons (pe_op op_catR (pe_op op_catR (pv 6) (D_shown.pe hr (by decide) rfl passE0 (pa_cons (pv 0) (pa_cons (pv 8) pa_nil)))) (D_page_bottom.pe hr (by decide) rfl passE0 (pa_cons (pv 0) (pa_cons (pe_cmpR op_eq (pv 7) (pe_callB call_len_seq rfl O.len PySem.boot_len (pa_cons (pv 2) pa_nil)) (nomark _)) (pa_cons (pv 4) pa_nil))))) pa_nil)))
      (pss_one (ps_set (i := 5) sc_report.nd rfl (Or.inl rfl) (pv 7)))))))))
      (pss_one (ps_ret (pe_callTy call_tuple_of rfl OT PyProof.Rows.boot_tuple (pa_cons (pv 3) pa_nil))))))))), ?_⟩
    refine ⟨_, rfl, _, rfl, v, rv, π, rows, rfl, D, Z, hk, DR, Y, hl, fun u H1 S1 D1 => ?_⟩
    rw [← lnsOf_dv] at D1
    obtain ⟨R, xr, rfl, gr, tr⟩ := Deep.tup' D1
    have lx := tr.length
    rw [List.length_map] at lx
    clear D1
    dsimp only [gName, tAsg, tSeq, tNext]
    refine ⟨by show 0 ≤ sizeLine; omega, fun q hq => ?_⟩
    have B0 : LsSt H1 (upd H1 q (.lst [])) q [] [] := ⟨Same.new hq, hq, upd_same, .nil⟩
    generalize upd H1 q (.lst []) = H2 at B0
    refine ⟨_, rfl, v, π, rfl, D.same (S1.trans B0.S), by omega, fun av H3 S3 DA => ?_⟩
    have B3 := B0.same S3
    clear B0 S3
    have all : allPages π (lnsOf π rows) = pagesF π (lnsOf π rows).length 1 (zeros π) (lnsOf π rows) := rfl
    generalize eA : allPages π (lnsOf π rows) = A at k all
    clear eA
    have zok : SmOk π (lnsOf π rows) (zeros π) 20 := ⟨⟨0, by omega, zeros_ok π⟩, zeros_len π⟩
    generalize lnsOf π rows = ls at YL ll all zok tr lx
    clear rl
    refine while_by (fun σ H5 => ∃ (i : Nat) (av : V) (xs : List V) (acc : List Dv) (l : List (Int × Int)) (fu : Nat) (y6 y7 y8 y9 : Option V), σ = [some v, some rv, some (.ref R), some (.ref q), some av, some (.int (i : Nat)), y6, y7, y8, y9] ∧ i ≤ ls.length ∧ LsSt H1 H5 q xs acc ∧ Deep H5 av (amtsD l) ∧ SmOk π (ls.drop i) l 20 ∧ acc.length ≤ i ∧ (ls.drop i).length ≤ fu ∧ A = acc ++ pagesF π fu (acc.length + 1) l (ls.drop i))
      (fun σ _ => match (σ : List (Option V))[5]? with | some (some (V.int i)) => ls.length - i.toNat | _ => 0)
      ⟨0, av, [], [], zeros π, ls.length, none, none, none, none, rfl, Nat.zero_le _, B3, DA, zok, Nat.le_refl _, Nat.le_refl _, all⟩ ?_ (fun σ H Q Q' hQ ⟨x, e, y, e2, p, ys, e3, h, i, j, e4, e5, b, e6, q⟩ => ⟨x, e, y, e2, p, ys, e3, h, i, j, e4, e5, b, e6, hQ _ _ q⟩)
    rintro σ H5 ⟨i, av, xs, acc, l, fu, y6, y7, y8, y9, rfl, hi, B, DA, zok, hacc, hfu, hA⟩
    refine ⟨_, rfl, _, rfl, R, xr, rfl, .inr (.inl (.inl (B.S _ _ gr))), _, _, rfl, rfl, _, rfl, ?_⟩
    have ldr : (ls.drop i).length = ls.length - i := List.length_drop ..
    have lxs := B.t.length
    refine ifB (fun z => ?_) (fun z => ?_)
    rotate_left
    · have z := of_decide_eq_false z
      have e : ls.drop i = [] := List.drop_eq_nil_of_le (by omega)
      rw [e, pagesF_nil, List.append_nil] at hA
      refine ⟨_, rfl, q, xs, rfl, .inl ⟨.inl (.inl B.g), fun l hl => ?_⟩⟩
      rw [hA] at k
      exact k _ _ ((S1.trans B.S).trans (Same.new hl)) (deep_tup B.t hl)
    have z := of_decide_eq_true z
    have hne : ls.drop i ≠ [] := fun e => by rw [e] at ldr; simp at ldr; omega
    obtain ⟨fu', rfl⟩ : ∃ fu', fu = fu' + 1 := ⟨fu - 1, by omega⟩
    rw [pagesF_cons hne] at hA
    obtain ⟨m1, m2⟩ := onPage_pos z6 (n := acc.length + 1) (l := l) hne
    have em : onPage π (acc.length + 1) l (ls.drop i) = fitN π (topL π (acc.length + 1) l).length (ls.drop i).length := rfl
    have pg : pageD π (acc.length + 1) l (ls.drop i) = .tup (topL π (acc.length + 1) l ++ shN π (ls.drop i) (onPage π (acc.length + 1) l (ls.drop i)) ++ botL π (decide (onPage π (acc.length + 1) l (ls.drop i) = (ls.drop i).length)) (smN π (ls.drop i) l (onPage π (acc.length + 1) l (ls.drop i)))) := rfl
    have tl := topL_len π (acc.length + 1) l
    generalize onPage π (acc.length + 1) l (ls.drop i) = m at hA m1 m2 em pg
    dsimp only [gName, tAsg, tSeq, tNext]
    have DP5 := D.same (S1.trans B.S)
    refine ⟨_, rfl, _, rfl, q, xs, rfl, .inl (.inl (.inl B.g)), _, _, rfl, rfl, _, rfl, v, av, π, acc.length + 1, l, by rw [lxs]; rfl, DP5, DA, fun u6 H6 S6 D6 => ?_⟩
    obtain ⟨ta, tx, rfl, gt, tt⟩ := Deep.tup' D6
    have lt := tt.length
    have B6 := B.same S6
    have DP6 := DP5.same S6
    have DA6 := DA.same S6
    clear B DP5 DA D6
    refine ⟨_, rfl, _, rfl, _, rfl, ta, tx, rfl, .inr (.inl (.inl gt)), _, rfl, R, xr, rfl, .inr (.inl (.inl (B6.S _ _ gr))), _, rfl, _, _, rfl, rfl, v, π, tx.length, (ls.drop i).length, ?_, DP6, z6, by omega, _, _, rfl, rfl, ?_⟩
    · show [v, V.int ((tx.length : Nat) : Int), V.int ((xr.length : Nat) - (i : Nat) : Int)] = _
      rw [show ((xr.length : Nat) : Int) - ((i : Nat) : Int) = (((ls.drop i).length : Nat) : Int) by omega]
    rw [lt, ← em]
    have eim : ((i : Nat) : Int) + ((m : Nat) : Int) = (((i + m : Nat) : Nat) : Int) := by omega
    dsimp only
    rw [eim]
    refine ⟨_, rfl, _, rfl, _, rfl, _, rfl, _, rfl, ?_⟩
    refine cut_D (B6.S _ _ gr) (tr.same B6.S) (by omega) fun u7 H7 S7 D7 => ?_
    have eb : ((ls.map Ln.dv).take (i + m)).drop i = ((ls.drop i).take m).map Ln.dv := by
      rw [← List.map_take, ← List.map_drop, List.drop_take, Nat.add_sub_cancel_left]
    rw [eb] at D7
    obtain ⟨b, bx, rfl, gb, tb⟩ := Deep.tup' D7
    have B7 := B6.same S7
    have DP7 := DP6.same S7
    have DA7 := DA6.same S7
    have gt7 := S7 _ _ gt
    have tt7 := tt.same S7
    clear B6 DP6 DA6 gt tt
    have lbx := tb.length
    rw [List.length_map, List.length_take] at lbx
    refine ⟨_, rfl, b, rfl, ⟨_, .inl (.inl gb)⟩, ?_⟩
    have YD : ∀ x ∈ ls.drop i, x.ok π := fun x hx => YL x (List.mem_of_mem_drop hx)
    refine for_fix (fixT (K := K) (a := b) (xs := bx)) (fun j σ H8 => ∃ av y9, σ = [some v, some rv, some (.ref R), some (.ref q), some av, some (.int (i : Nat)), some (.ref ta), some (.int ((i + m : Nat) : Nat)), some (.ref b), y9] ∧ Same H7 H8 ∧ Deep H8 av (amtsD (smN π (ls.drop i) l j))) ⟨av, y9, rfl, Same.refl _, DA7⟩ ?_ ?_ ?_
    · rintro j σ H8 _ ⟨av, y9, rfl, S8, _⟩
      exact .inl (.inl (S8 _ _ gb))
    · rintro j x σ H80 H8 hj ⟨av, y9, rfl, S8, DA8⟩ ⟨rfl, hx⟩
      obtain ⟨hjl, Dx⟩ := lns_get tb hx
      rw [List.length_take] at hjl
      have hjm : j < m := by omega
      rw [getD_take hjm] at Dx
      have hjd : j < (ls.drop i).length := by omega
      have okx := YD _ (getD_mem hjd)
      obtain ⟨xa, ys, rfl, gx, tx2⟩ := ln_at Dx
      dsimp only [gName, tAsg, tSeq, tNext]
      refine ⟨_, rfl, xa, _, 0, _, rfl, rfl, .inl (S8 _ _ gx), atI_nat (j := 0) rfl, rfl, _, rfl, ?_⟩
      rw [Ln.key_row okx]
      obtain ⟨⟨cn, hc1, hc2⟩, hc3⟩ := smN_ok Z YD zok j (by omega)
      refine ifB (fun z2 => ?_) (fun z2 => ?_)
      · cases er : (ls.drop i).getD j dfl with
        | oth k2 ds => rw [er] at z2; cases z2
        | row r =>
          rw [er] at tx2 okx
          obtain ⟨rv2, rfl, DR2⟩ := row_ln tx2
          have gx8 : H8 xa = some (.tup [.str "row", rv2]) := by rw [S8 _ _ gx, er]; rfl
          refine ⟨_, rfl, _, rfl, _, rfl, xa, _, 1, _, rfl, rfl, .inl gx8, rfl, v, av, rv2, π, smN π (ls.drop i) l j, r, cn, rfl, DP7.same S8, Z, DA8, hc3, hc2, by omega, DR2.same S8, okx, fun u9 H9 S9 D9 => ?_⟩
          refine ⟨u9, _, rfl, S8.trans S9, ?_⟩
          rw [smN, er]
          exact D9
      · refine ⟨av, _, rfl, S8, ?_⟩
        cases er : (ls.drop i).getD j dfl with
        | row r => rw [er] at z2; cases z2
        | oth k2 ds =>
          rw [smN, er]
          exact DA8
    rintro σ H8 ⟨av, y9, rfl, S8, DA8⟩
    have ebx : bx.length = m := by omega
    rw [ebx] at DA8
    have B8 := B7.same S8
    have DP8 := DP7.same S8
    dsimp only [gName, tAsg, tSeq, tNext]
    refine ⟨_, rfl, .inl ⟨rfl, _, .inl (.inl B8.g)⟩, ?_⟩
    refine ⟨_, rfl, _, rfl, _, rfl, v, .ref b, π, (ls.drop i).take m, rfl, DP8, Z, (Deep.tup gb tb).same S8, (fun x hx => YD x (List.mem_of_mem_take hx)), by rw [List.length_take]; omega, fun u9 H9 S9 D9 => ?_⟩
    rw [show ((ls.drop i).take m).length = m by rw [List.length_take]; omega, shN_take π _ m m (Nat.le_refl _)] at D9
    obtain ⟨sa, sx, rfl, gs, ts⟩ := Deep.tup' D9
    have lsx := ts.length
    rw [shN_len] at lsx
    refine cat_D (S9 _ _ (S8 _ _ gt7)) gs (tt7.same (S8.trans S9)) ts (by omega) fun u10 H10 S10 D10 => ?_
    obtain ⟨ca, cx, rfl, gc, tc⟩ := Deep.tup' D10
    have lcx := tc.length
    rw [List.length_append, shN_len] at lcx
    have B10 := (B8.same S9).same S10
    refine ⟨_, rfl, _, rfl, _, rfl, R, xr, rfl, .inr (.inl (.inl (B10.S _ _ gr))), rfl, _, rfl, v, av, π, decide (m = (ls.drop i).length), _, ?_, DP8.same (S9.trans S10), DA8.same (S9.trans S10), fun u11 H11 S11 D11 => ?_⟩
    · have : decide (V.int (((i + m : Nat) : Nat) : Int) = V.int ((xr.length : Nat) : Int)) = decide (m = (ls.drop i).length) := by
        rw [decide_eq_decide]
        constructor
        · intro h; injection h; omega
        · intro h; congr 1; omega
      rw [this]
      all_goals rfl
    obtain ⟨ba, bx2, rfl, gb2, tb2⟩ := Deep.tup' D11
    have lb2 := tb2.length
    have lb3 := botL_len π (decide (m = (ls.drop i).length)) (smN π (ls.drop i) l m)
    refine cat_D (S11 _ _ gc) gb2 (tc.same S11) tb2 (by omega) fun u12 H12 S12 D12 => ?_
    have B12 := (B10.same S11).same S12
    refine ⟨q, xs, u12, rfl, rfl, B12.g, by omega, ?_⟩
    have D13 : Deep H12 u12 (pageD π (acc.length + 1) l (ls.drop i)) := by rw [pg]; exact D12
    have B13 := B12.snoc D13
    have DA13 : Deep (upd H12 q (.lst (xs ++ [u12]))) av (amtsD (smN π (ls.drop i) l m)) := (DA8.same (((S9.trans S10).trans S11).trans S12)).updL B12.g (fun zs z => nomatch z)
    generalize upd H12 q (.lst (xs ++ [u12])) = H13 at B13 DA13
    refine ⟨_, rfl, ⟨i + m, av, _, _, smN π (ls.drop i) l m, fu', _, _, _, _, rfl, by omega, B13, DA13, ?_, ?_, ?_, ?_⟩, ?_⟩
    · have := smN_ok Z YD zok m (by omega)
      rw [List.drop_drop] at this
      exact this
    · rw [List.length_append, List.length_singleton]; omega
    · rw [List.length_drop]; omega
    · rw [List.drop_drop] at hA
      rw [hA, List.append_assoc, List.length_append, List.length_singleton]
      rfl
    · show ls.length - ((((i + m : Nat) : Nat) : Int)).toNat < ls.length - (((i : Nat) : Int)).toNat
      omega
end
end Lw

set_option Elab.async false
set_option linter.all false
set_option maxRecDepth 100000
/-! arguments that are no stars, told by their shape alone: nothing of the code's meaning is reckoned out -/
namespace L2
open PySem PySem.Spec PyProof.Rows
def isStar : Expr → Bool
  | .Starred .. => true
  | _ => false
theorem star_of {e : Expr} {es : List Expr} {env : Env} (h : isStar e = false) : starEach (e :: es) env = (false, eval e env) :: starEach es env := by
  cases e <;> first | rfl | cases h
section
variable {X : Cx} {K0 : PySem.W.Frag} {o e e1 : Expr} {es : List Expr} {to te te1 : TE} {t : TA} {name : Str} {apos cpos : Pos} {T id : String} {r : V → List V → Hp → VK → Prop}
theorem pa_c (ha : PE X e te) (hr : PA X es t) (h : isStar e = false := by rfl) : PA X (e :: es) (tCons te t) := pa_cons ha hr (star_of h)
theorem pex_op {a b : Expr} {ta tb : TE} {pos : Pos} {op : Operator} {r : R2} (hr : OpR X (binaryOp op) r) (ha : PEx X a ta) (hb : PEx X b tb) : PEx X (.BinOp a op b pos) (tOp r ta tb) := ⟨pe_op hr ha.pe hb.pe⟩
theorem pex_if {c a b : Expr} {tA : TT} {ta tb : TE} {pos : Pos} (hc : PT X c tA) (ha : PEx X a ta) (hb : PEx X b tb) : PEx X (.IfExp c a b pos) (tIf tA ta tb) := ⟨pe_ifExp hc ha.pe hb.pe⟩
theorem psy_if {c : Expr} {a b : List Stmt} {tc : TT} {t1 u : TS} {pos : Pos} (hc : PT X c tc) (ha : PSx X a t1) (hb : PSx X b u) : PSy X (.If c a b pos) (tIfS tc t1 u) := ⟨ps_if hc ha.ps hb.ps⟩
theorem psx_nil : PSx X [] tNext := ⟨pss_nil⟩
end
end L2

set_option Elab.async false
set_option linter.all false
set_option maxRecDepth 100000
/-! three lists or tuples side by side -/
namespace L2
open PySem PySem.Spec PyProof.Rows
open Builtin Builtin.Str
theorem tc_zip3 (a b c : Value) : checkTypeCall "zip" { pos := [a, b, c] } = pure () := id (Eq.refl (checkTypeCall "zip" { pos := [a, b, c] }))
theorem nc_zip3 (a b c : Value) : checkBuiltinCall "zip.__new__" { pos := [Value.type "zip", a, b, c] } = pure () := by first | with_unfolding_all rfl | kernel_rfl
theorem ai_4 (a b c d : Value) : argsOk "object.__init__" { pos := [a, b, c, d] } := by first | with_unfolding_all rfl | kernel_rfl
abbrev IsTri (h : Heap) (T : Addr) (a b c : Value) : Prop := h.get? T = some { cls := Value.type "tuple", data := Data.seq #[a, b, c] }
structure Ap6 (z TI TO i1 i2 i3 : Addr) : Prop where
  D : Ap5 z TI TO i1 i2
  i3z : i3 ≠ z
  TIi3 : TI ≠ i3
  TOi3 : TO ≠ i3
  i13 : i1 ≠ i3
  i23 : i2 ≠ i3
theorem updSeq_tri {prog : Program} {w : World} {A : Around} {E : Value → Shared → Prop} {s : Shared} {T : Addr} {a b c x : Value} {k : Nat} {Q : Unit → Shared → Prop} (hT : IsTri s.heap T a b c)
    (hQ : ∀ h' : Heap, h'.get? T = some { cls := Value.type "tuple", data := Data.seq (#[a, b, c].setIfInBounds k x) } → Heap.SameBut T s.heap h' → Q () { s with heap := h' }) : wpAny (model prog w) A (updateSeq T fun y => y.setIfInBounds k x) Q E s := by
  have hz : 100 ≤ sizeLine := by decide
  refine wpAny_updateSeq hT rfl (hQ _ ?_ ⟨Heap.size_update .., fun b hb => Heap.get?_update_ne _ _ _ _ hb⟩) (by show 3 ≤ sizeLine; omega) (by rw [Array.size_setIfInBounds]; show 3 ≤ sizeLine + 1; omega)
  have h := Heap.get?_update_self (Obj.mapSeq fun y => y.setIfInBounds k x) hT (by simp [Obj.mapSeq, Obj.isFreed])
  rw [h]
  simp [Obj.mapSeq]
section
variable {prog : Program} {w : World} {A : Around} {E : Value → Shared → Prop} {s : Shared} {z TI TO i1 i2 i3 : Addr} {k n1 n2 n3 : Nat} {f1 f2 f3 : List Addr} {P1 P2 P3 : Nat → Value → Prop} {S1 S2 S3 : Nat → Heap → Prop} {a b c : Value}
theorem zip3_item {Q : Value → Shared → Prop} (D : Ap6 z TI TO i1 i2 i3) (D1 : Draws prog w A i1 f1 n1 P1 S1) (C1 : Off f1 z TO i2) (C1' : Off f1 z TO i3) (D2 : Draws prog w A i2 f2 n2 P2 S2) (C2 : Off f2 z TO i1) (C2' : Off f2 z TO i3) (D3 : Draws prog w A i3 f3 n3 P3 S3) (C3 : Off f3 z TO i1) (C3' : Off f3 z TO i2)
    (hz : IsZip s.heap z TI TO .none) (hTI : IsTri s.heap TI (.ref i1) (.ref i2) (.ref i3)) (hTO : IsTri s.heap TO a b c) (h1 : S1 k s.heap) (h2 : S2 k s.heap) (h3 : S3 k s.heap) (hx : k < n1) (hy : k < n2) (hw : k < n3)
    (hQ : ∀ x y v h' tk, P1 k x → P2 k y → P3 k v → IsZip h' z TI TO (rawInt s.heap.objs.size) → IsTri h' TO x y v → S1 (k + 1) h' → S2 (k + 1) h' → S3 (k + 1) h' → IsTri h' s.heap.objs.size x y v → (∀ c o, c ≠ z → c ≠ TO → c ≠ i1 → c ≠ i2 → c ≠ i3 → s.heap.get? c = some o → h'.get? c = some o) → Q (.ref s.heap.objs.size) { s with heap := h', toks := tk }) :
    wpAny (model prog w) A (Builtin.«zip.__next__» ⟨[.ref z], []⟩) (fun fin s' => ∃ v, fin = .done (.ret v) ∧ Q v s') E s := by
  show wpAny _ _ (field (.ref z) 2 >>= _) _ _ _; refine wpAny_bind (wpAny_field hz rfl (x := .bool false) rfl ?_)
  show wpAny _ _ (field (.ref z) 3 >>= _) _ _ _; refine wpAny_bind (wpAny_field hz rfl (x := .ref TI) rfl (wpAny_bind (wpAny_seqItems hTI rfl ?_)))
  show wpAny _ _ (Builtin.SmallTypes.ownedTupleIsFree (.ref z) >>= _) _ _ _; refine wpAny_bind ?_
  unfold Builtin.SmallTypes.ownedTupleIsFree; refine wpAny_bind (wpAny_field hz rfl (x := .none) rfl (wpAny_pure ?_))
  simp only [if_true]; refine wpAny_bind (wpAny_rule (wpAny_bind (wpAny_field hz rfl (x := .ref TO) rfl (wpAny_bind (wpAny_setField_rec hz (by simp) fun h₁ hz₁ hs₁ => ?_)))))
  replace hz₁ : IsZip h₁ z TI TO .ellipsis := hz₁; refine wpAny_bind ?_
  simp only [List.zipIdx_cons, List.zipIdx_nil, List.forIn_cons, List.forIn_nil]; refine wpAny_bind (wpAny_bind (wpAny_onRaise ?_))
  show wpAny _ _ (Builtin.SmallTypes.nextOf (.ref i1) >>= _) _ _ _; refine wpAny_bind (D1.item k _ _ _ hx (dr_frK D1 h1 hs₁.extBut C1.z) fun x h₂ tk2 px h1₂ hs₂ => wpAny_pure ?_)
  have hTO₂ : IsTri h₂ TO a b c := hs₂.extBut _ _ D.D.TOi1 (hs₁.extBut _ _ D.D.TOz hTO)
  refine wpAny_bind (wpAny_seqItems hTO₂ rfl (wpAny_bind (updSeq_tri hTO₂ fun h₃ hTO₃ hs₃ => ?_)))
  replace hTO₃ : IsTri h₃ TO x b c := hTO₃; refine wpAny_bind (wpAny_letGo (wpAny_pure (wpAny_bind (wpAny_bind (wpAny_onRaise ?_)))))
  show wpAny _ _ (Builtin.SmallTypes.nextOf (.ref i2) >>= _) _ _ _
  have e2 : S2 k h₃ := dr_frK D2 (dr_frK D2 (dr_frK D2 h2 hs₁.extBut C2.z) hs₂.extBut C2.i) hs₃.extBut C2.o
  refine wpAny_bind (D2.item k _ _ _ hy e2 fun y h₄ tk4 py h2₄ hs₄ => wpAny_pure ?_)
  have hTO₄ : IsTri h₄ TO x b c := hs₄.extBut _ _ D.D.TOi2 hTO₃
  refine wpAny_bind (wpAny_seqItems hTO₄ rfl (wpAny_bind (updSeq_tri hTO₄ fun h₅ hTO₅ hs₅ => ?_)))
  replace hTO₅ : IsTri h₅ TO x y c := hTO₅; refine wpAny_bind (wpAny_letGo (wpAny_pure (wpAny_bind (wpAny_bind (wpAny_onRaise ?_)))))
  show wpAny _ _ (Builtin.SmallTypes.nextOf (.ref i3) >>= _) _ _ _
  have e3 : S3 k h₅ := dr_frK D3 (dr_frK D3 (dr_frK D3 (dr_frK D3 (dr_frK D3 h3 hs₁.extBut C3.z) hs₂.extBut C3.i) hs₃.extBut C3.o) hs₄.extBut C3'.i) hs₅.extBut C3.o
  refine wpAny_bind (D3.item k _ _ _ hw e3 fun v h₆ tk6 pv h3₆ hs₆ => wpAny_pure ?_)
  have hTO₆ : IsTri h₆ TO x y c := hs₆.extBut _ _ D.TOi3 hTO₅
  refine wpAny_bind (wpAny_seqItems hTO₆ rfl (wpAny_bind (updSeq_tri hTO₆ fun h₇ hTO₇ hs₇ => ?_)))
  replace hTO₇ : IsTri h₇ TO x y v := hTO₇; refine wpAny_bind (wpAny_letGo (wpAny_pure (wpAny_pure (wpAny_bind (wpAny_seqItems hTO₇ rfl (wpAny_bind (wpAny_newTuple ?_)))))))
  have hs1 := hs₁.1; have hs2 := hs₂.1; have hs3 := hs₃.1; have hs4 := hs₄.1; have hs5 := hs₅.1; have hs6 := hs₆.1; have hs7 := hs₇.1
  have hsz : h₇.objs.size = s.heap.objs.size := hs7.trans (hs6.trans (hs5.trans (hs4.trans (hs3.trans (hs2.trans hs1)))))
  have hz₇ : IsZip h₇ z TI TO .ellipsis := hs₇.extBut _ _ D.D.TOz.symm (hs₆.extBut _ _ D.i3z.symm (hs₅.extBut _ _ D.D.TOz.symm (hs₄.extBut _ _ D.D.i2z.symm (hs₃.extBut _ _ D.D.TOz.symm (hs₂.extBut _ _ D.D.i1z.symm hz₁)))))
  have hk₇ : ∀ c o, c ≠ z → c ≠ TO → c ≠ i1 → c ≠ i2 → c ≠ i3 → s.heap.get? c = some o → h₇.get? c = some o := fun c o c1 c2 c3 c4 c5 e => hs₇.extBut _ _ c2 (hs₆.extBut _ _ c5 (hs₅.extBut _ _ c2 (hs₄.extBut _ _ c4 (hs₃.extBut _ _ c2 (hs₂.extBut _ _ c3 (hs₁.extBut _ _ c1 e))))))
  have g1 : S1 (k + 1) h₇ := dr_frK D1 (dr_frK D1 (dr_frK D1 (dr_frK D1 (dr_frK D1 h1₂ hs₃.extBut C1.o) hs₄.extBut C1.i) hs₅.extBut C1.o) hs₆.extBut C1'.i) hs₇.extBut C1.o
  have g2 : S2 (k + 1) h₇ := dr_frK D2 (dr_frK D2 (dr_frK D2 h2₄ hs₅.extBut C2.o) hs₆.extBut C2'.i) hs₇.extBut C2.o
  have g3 : S3 (k + 1) h₇ := dr_frK D3 h3₆ hs₇.extBut C3.o
  have hzlt : z < h₇.objs.size := Heap.lt_size hz₇
  show wpAny _ _ (Builtin.SmallTypes.ownedTupleHandOut (.ref z) (.ref h₇.objs.size) >>= _) _ _ _; refine wpAny_bind ?_
  unfold Builtin.SmallTypes.ownedTupleHandOut
  have hz₈ : IsZip (h₇.push { cls := .type "tuple", data := .seq #[x, y, v] }) z TI TO .ellipsis := Heap.get?_push_of_some _ hz₇
  refine wpAny_bind (wpAny_setField_rec hz₈ (by simp) fun h₉ hz₉ hs₉ => ?_); replace hz₉ : IsZip h₉ z TI TO (rawInt h₇.objs.size) := hz₉
  refine wpAny_setField_rec hz₉ (by simp) fun h₈ hz₈ hs₈ => ?_; replace hz₈ : IsZip h₈ z TI TO (rawInt h₇.objs.size) := hz₈
  have up : ∀ c o, c ≠ z → h₇.get? c = some o → h₈.get? c = some o := fun c o c1 e => hs₈.extBut _ _ c1 (hs₉.extBut _ _ c1 (Heap.get?_push_of_some _ e))
  have hT₈ : IsTri h₈ h₇.objs.size x y v := hs₈.extBut _ _ (Nat.ne_of_gt hzlt) (hs₉.extBut _ _ (Nat.ne_of_gt hzlt) (Heap.get?_push_size _ rfl))
  rw [hsz] at hz₈ hT₈; refine wpAny_pure ⟨_, rfl, ?_⟩
  show Q (.ref h₇.objs.size) _; rw [hsz]
  exact hQ x y v h₈ _ px py pv hz₈ (up _ _ D.D.TOz hTO₇) (D1.frame _ _ _ g1 fun b hb o q => up _ _ (C1.z b hb) q) (D2.frame _ _ _ g2 fun b hb o q => up _ _ (C2.z b hb) q) (D3.frame _ _ _ g3 fun b hb o q => up _ _ (C3.z b hb) q) hT₈ fun c o c1 c2 c3 c4 c5 e => up c o c1 (hk₇ c o c1 c2 c3 c4 c5 e)
/-- all three end at once, or the first ends first -/
theorem zip3_end {Q : Fin → Shared → Prop} (D : Ap6 z TI TO i1 i2 i3) (D1 : Draws prog w A i1 f1 n1 P1 S1) (C1 : Off f1 z TO i2)
    (hz : IsZip s.heap z TI TO .none) (hTI : IsTri s.heap TI (.ref i1) (.ref i2) (.ref i3)) (h1 : S1 k s.heap) (hx : k = n1)
    (hE : ∀ h' e tk, (∀ c o, c ≠ z → c ≠ TO → c ≠ i1 → c ≠ i2 → c ≠ i3 → s.heap.get? c = some o → h'.get? c = some o) → (∃ o, h'.get? e = some o ∧ o.cls = .type "StopIteration") → E (.ref e) { s with heap := h', toks := tk }) :
    wpAny (model prog w) A (Builtin.«zip.__next__» ⟨[.ref z], []⟩) Q E s := by
  show wpAny _ _ (field (.ref z) 2 >>= _) _ _ _; refine wpAny_bind (wpAny_field hz rfl (x := .bool false) rfl ?_)
  show wpAny _ _ (field (.ref z) 3 >>= _) _ _ _; refine wpAny_bind (wpAny_field hz rfl (x := .ref TI) rfl (wpAny_bind (wpAny_seqItems hTI rfl ?_)))
  show wpAny _ _ (Builtin.SmallTypes.ownedTupleIsFree (.ref z) >>= _) _ _ _; refine wpAny_bind ?_
  unfold Builtin.SmallTypes.ownedTupleIsFree; refine wpAny_bind (wpAny_field hz rfl (x := .none) rfl (wpAny_pure ?_))
  simp only [if_true]; refine wpAny_bind (wpAny_rule (wpAny_bind (wpAny_field hz rfl (x := .ref TO) rfl (wpAny_bind (wpAny_setField_rec hz (by simp) fun h₁ hz₁ hs₁ => ?_)))))
  replace hz₁ : IsZip h₁ z TI TO .ellipsis := hz₁; refine wpAny_bind ?_
  simp only [List.zipIdx_cons, List.zipIdx_nil, List.forIn_cons, List.forIn_nil]; refine wpAny_bind (wpAny_bind (wpAny_onRaise ?_))
  show wpAny _ _ (Builtin.SmallTypes.nextOf (.ref i1) >>= _) _ _ _
  refine wpAny_bind (D1.done _ _ _ (by rw [← hx]; exact dr_frK D1 h1 hs₁.extBut C1.z) fun h₂ e hs₂ he => ?_); obtain ⟨oe, hoe, hce⟩ := he
  have hz₂ : IsZip h₂ z TI TO .ellipsis := hs₂ _ _ D.D.i1z.symm hz₁
  have hez : e ≠ z := fun x => by subst x; rw [hz₂] at hoe; cases hoe; simp at hce
  exact wpAny_setField_rec hz₂ (by simp) fun h₃ _ hs₃ => hE h₃ e _ (fun c o c1 _ c3 _ _ x => hs₃.extBut _ _ c1 (hs₂ _ _ c3 (hs₁.extBut _ _ c1 x))) ⟨oe, hs₃.extBut _ _ hez hoe, hce⟩
theorem next_zip3 {Q : Option Value → Shared → Prop} (D : Ap6 z TI TO i1 i2 i3) (D1 : Draws prog w A.in1 i1 f1 n1 P1 S1) (C1 : Off f1 z TO i2) (C1' : Off f1 z TO i3) (D2 : Draws prog w A.in1 i2 f2 n2 P2 S2) (C2 : Off f2 z TO i1) (C2' : Off f2 z TO i3) (D3 : Draws prog w A.in1 i3 f3 n3 P3 S3) (C3 : Off f3 z TO i1) (C3' : Off f3 z TO i2)
    (hz : IsZip s.heap z TI TO .none) (hTI : IsTri s.heap TI (.ref i1) (.ref i2) (.ref i3)) (hTO : IsTri s.heap TO a b c) (h1 : S1 k s.heap) (h2 : S2 k s.heap) (h3 : S3 k s.heap) (hx : k < n1) (hy : k < n2) (hw : k < n3)
    (hQ : ∀ x y v h' tk, P1 k x → P2 k y → P3 k v → IsZip h' z TI TO (rawInt s.heap.objs.size) → IsTri h' TO x y v → S1 (k + 1) h' → S2 (k + 1) h' → S3 (k + 1) h' → IsTri h' s.heap.objs.size x y v → (∀ c o, c ≠ z → c ≠ TO → c ≠ i1 → c ≠ i2 → c ≠ i3 → s.heap.get? c = some o → h'.get? c = some o) → Q (some (.ref s.heap.objs.size)) { s with heap := h', toks := tk }) :
    wpAny (model prog w) A (pyNext (.ref z)) Q E s := by
  have hT : s.TypeIs (.ref z) "zip" := ⟨_, hz, rfl⟩
  unfold pyNext; exact wpAny_bind (wpAny_attempt (wpAny_callSpecial?_slot (name := Str.ofString "__next__") hT F.slot_zip_next (wpAny_call_entry F.slot_zip_next hT F.entry_zip_next (zip3_item D D1 C1 C1' D2 C2 C2' D3 C3 C3' hz hTI hTO h1 h2 h3 hx hy hw fun x y v h' tk a1 a2 a3 a4 a5 a6 a7 a8 a9 a10 => wpAny_pure (hQ x y v h' tk a1 a2 a3 a4 a5 a6 a7 a8 a9 a10)) (F.args_zip_next_1 _))))
theorem end_zip3 {Q : Option Value → Shared → Prop} (D : Ap6 z TI TO i1 i2 i3) (D1 : Draws prog w A.in1 i1 f1 n1 P1 S1) (C1 : Off f1 z TO i2)
    (hz : IsZip s.heap z TI TO .none) (hTI : IsTri s.heap TI (.ref i1) (.ref i2) (.ref i3)) (h1 : S1 k s.heap) (hx : k = n1)
    (hQ : ∀ h' tk, (∀ c o, c ≠ z → c ≠ TO → c ≠ i1 → c ≠ i2 → c ≠ i3 → s.heap.get? c = some o → h'.get? c = some o) → Q none { s with heap := h', toks := tk }) :
    wpAny (model prog w) A (pyNext (.ref z)) Q E s := by
  have hT : s.TypeIs (.ref z) "zip" := ⟨_, hz, rfl⟩
  unfold pyNext; refine wpAny_bind (wpAny_attempt (wpAny_callSpecial?_slot (name := Str.ofString "__next__") hT F.slot_zip_next (wpAny_call_entry F.slot_zip_next hT F.entry_zip_next (zip3_end D D1 C1 hz hTI h1 hx fun h' e tk hk he => ?_) (F.args_zip_next_1 _))))
  obtain ⟨o, ho, hc⟩ := he
  refine wpAny_bind (wpAny_isInstance (T := "StopIteration") (b := true) ⟨o, ho, hc⟩ isSubtype_stop ?_); exact wpAny_pure (hQ _ _ hk)
end
abbrev z3a (h : Heap) (k1 k2 k3 : Sk) (a1 a2 a3 : Addr) : Heap := ((h.push (skO k1 a1)).push (skO k2 a2)).push (skO k3 a3)
abbrev z3b (h : Heap) (k1 k2 k3 : Sk) (a1 a2 a3 : Addr) : Heap := (z3a h k1 k2 k3 a1 a2 a3).push { cls := .type "tuple", data := .seq #[.ref h.objs.size, .ref (zK1 h k1 a1).objs.size, .ref (zK1 (zK1 h k1 a1) k2 a2).objs.size] }
abbrev z3c (h : Heap) (k1 k2 k3 : Sk) (a1 a2 a3 : Addr) : Heap := (z3b h k1 k2 k3 a1 a2 a3).push { cls := .type "tuple", data := .seq #[.none, .none, .none] }
abbrev z3d (h : Heap) (k1 k2 k3 : Sk) (a1 a2 a3 : Addr) : Heap := (z3c h k1 k2 k3 a1 a2 a3).push { cls := .type "zip", data := .fields #[.none, .bool false, .bool false, .ref (z3a h k1 k2 k3 a1 a2 a3).objs.size, .ref (z3b h k1 k2 k3 a1 a2 a3).objs.size] }
set_option maxHeartbeats 4000000 in
theorem meets_zip3 (k1 k2 k3 : Sk) (a1 a2 a3 : Addr) (xs ys zs : Array Value) : Meets (Builtin.«zip.__new__» ⟨[.type "zip", .ref a1, .ref a2, .ref a3], []⟩) (fun _ R s => SkOk k1 s.heap a1 xs ∧ SkOk k2 s.heap a2 ys ∧ SkOk k3 s.heap a3 zs ∧ R (.ok (.ret (.ref (z3c s.heap k1 k2 k3 a1 a2 a3).objs.size))) { s with heap := z3d s.heap k1 k2 k3 a1 a2 a3 }) :=
  .of_wp fun prog w A R s h => by
    obtain ⟨hp, g, d, tk, os⟩ := s; obtain ⟨h1, h2, h3, h⟩ := h
    have hsub := sub_zip
    have p1 : SkOk k1 (Shared.heap ⟨hp, g, d, tk, os⟩) a1 xs := h1
    have p2 : SkOk k2 (Shared.heap ⟨hp.push (skO k1 a1), g, d, tk, os⟩) a2 ys := SkOk.push h2 _
    have p3 : SkOk k3 (Shared.heap ⟨(hp.push (skO k1 a1)).push (skO k2 a2), g, d, tk, os⟩) a3 zs := SkOk.push (SkOk.push h3 _) _
    wp_walk using iter_sk k1 p1, iter_sk k2 p2, iter_sk k3 p3
    exact ⟨_, rfl, h⟩
def ItZ3 (k1 k2 k3 : Sk) (a1 a2 a3 : Addr) : It := ⟨fun i H => ∃ xs ys zs x y v, SkR k1 H a1 xs ∧ SkR k2 H a2 ys ∧ SkR k3 H a3 zs ∧ xs[i]? = some x ∧ ys[i]? = some y ∧ zs[i]? = some v,
  fun i H u H' => ∃ p, H p = none ∧ u = .ref p ∧ ∀ xs ys zs, SkR k1 H a1 xs → SkR k2 H a2 ys → SkR k3 H a3 zs → ∃ x y v, xs[i]? = some x ∧ ys[i]? = some y ∧ zs[i]? = some v ∧ H' = upd H p (.tup [x, y, v]), fun i H => ∃ xs, SkR k1 H a1 xs ∧ i = xs.length⟩
def tn3 (k1 k2 k3 : Sk) (z TI TO i1 i2 i3 a1 a2 a3 : Addr) (i : Nat) (h : Heap) : Prop := IsZip h z TI TO .none ∧ IsTri h TI (.ref i1) (.ref i2) (.ref i3) ∧ (∃ a b c, IsTri h TO a b c) ∧ SkIt k1 h i1 a1 i ∧ SkIt k2 h i2 a2 i ∧ SkIt k3 h i3 a3 i
set_option maxHeartbeats 1000000 in
theorem turn_zip3 {P : Program} {w : World} {K : PySem.W.Frag} {es : List Expr} {n : Nat} {pos : Pos} {z TI TO i1 i2 i3 : Addr} (D : Ap6 z TI TO i1 i2 i3) (k1 k2 k3 : Sk) (a1 a2 a3 : Addr) :
    Turn P w K (.Tuple es n pos) (ItZ3 k1 k2 k3 a1 a2 a3) [z, TI, TO, i1, i2, i3] z (tn3 k1 k2 k3 z TI TO i1 i2 i3 a1 a2 a3) where
  mem := by simp
  obj := fun i h st b hb => by
    obtain ⟨hz, hI, ⟨a, c, d, hO⟩, g1, g2, g3⟩ := st
    simp only [List.mem_cons, List.not_mem_nil, or_false] at hb
    rcases hb with rfl | rfl | rfl | rfl | rfl | rfl
    · exact ⟨_, hz, fun v q => nomatch (show Data.fields _ = Data.cell v from q)⟩
    · exact ⟨_, hI, fun v q => nomatch (show Data.seq _ _ = Data.cell v from q)⟩
    · exact ⟨_, hO, fun v q => nomatch (show Data.seq _ _ = Data.cell v from q)⟩
    · exact sk_obj g1
    · exact sk_obj g2
    · exact sk_obj g3
  keep := fun i h h' st kk => by
    obtain ⟨hz, hI, ⟨a, c, d, hO⟩, g1, g2, g3⟩ := st
    exact ⟨kk _ (by simp) _ hz, kk _ (by simp) _ hI, ⟨a, c, d, kk _ (by simp) _ hO⟩, sk_keep g1 fun o => kk _ (by simp) o, sk_keep g2 fun o => kk _ (by simp) o, sk_keep g3 fun o => kk _ (by simp) o⟩
  item := by
    intro X hP hw hK hc i pins s σ H E I hf st hg
    subst hP hw hK
    obtain ⟨hz, hI, ⟨a, c, d, hO⟩, g1, g2, g3⟩ := st
    obtain ⟨xs, ys, zs, x, y, v, hq1, hq2, hq3, hx, hy, hv⟩ := hg
    obtain ⟨its1, rv1, o1, _⟩ := I.sk (hq1.q (K := X.K))
    obtain ⟨its2, rv2, o2, _⟩ := I.sk (hq2.q (K := X.K))
    obtain ⟨its3, rv3, o3, _⟩ := I.sk (hq3.q (K := X.K))
    obtain ⟨u1, hu1, ru1⟩ := rv1.get hx
    obtain ⟨u2, hu2, ru2⟩ := rv2.get hy
    obtain ⟨u3, hu3, ru3⟩ := rv3.get hv
    have l1 : i < its1.toArray.size := by rw [List.size_toArray]; exact (List.getElem?_eq_some_iff.mp hu1).1
    have l2 : i < its2.toArray.size := by rw [List.size_toArray]; exact (List.getElem?_eq_some_iff.mp hu2).1
    have l3 : i < its3.toArray.size := by rw [List.size_toArray]; exact (List.getElem?_eq_some_iff.mp hu3).1
    have Hz := (hf z (by simp)).1
    have HO := (hf TO (by simp)).1
    have H1 := (hf i1 (by simp)).1
    have H2 := (hf i2 (by simp)).1
    have H3 := (hf i3 (by simp)).1
    have D1 := dr_sk (prog := X.prog) (w := X.w) (A := X.A.in1) k1 (I.ok.hd hc) i1 a1 (sk_ne g1 o1) its1.toArray
    have D2 := dr_sk (prog := X.prog) (w := X.w) (A := X.A.in1) k2 (I.ok.hd hc) i2 a2 (sk_ne g2 o2) its2.toArray
    have D3 := dr_sk (prog := X.prog) (w := X.w) (A := X.A.in1) k3 (I.ok.hd hc) i3 a3 (sk_ne g3 o3) its3.toArray
    refine next_zip3 D D1 (off_mk (TI := TI) hq1.some Hz HO H2 D.D.i1z D.D.TOi1.symm D.D.i12) (off_mk (TI := TI) hq1.some Hz HO H3 D.D.i1z D.D.TOi1.symm D.i13) D2 (off_mk (TI := TI) hq2.some Hz HO H1 D.D.i2z D.D.TOi2.symm D.D.i12.symm) (off_mk (TI := TI) hq2.some Hz HO H3 D.D.i2z D.D.TOi2.symm D.i23) D3 (off_mk (TI := TI) hq3.some Hz HO H1 D.i3z D.TOi3.symm D.i13.symm) (off_mk (TI := TI) hq3.some Hz HO H2 D.i3z D.TOi3.symm D.i23.symm) hz hI hO ⟨g1, o1⟩ ⟨g2, o2⟩ ⟨g3, o3⟩ l1 l2 l3 fun v1 v2 v3 h1 tk p1 p2 p3 hz1 hO1 q1 q2 q3 hT hk => ⟨_, rfl, ?_⟩
    obtain rfl : v1 = u1 := Option.some.inj (p1.symm.trans (by simpa using hu1))
    obtain rfl : v2 = u2 := Option.some.inj (p2.symm.trans (by simpa using hu2))
    obtain rfl : v3 = u3 := Option.some.inj (p3.symm.trans (by simpa using hu3))
    refine wpAny_letOwnedTupleGo_zip hz1 fun h2 hz2 hs2 => ?_
    have up : ∀ b o, b ≠ z → h1.get? b = some o → h2.get? b = some o := fun b o hb q => (hs2.2 b hb).trans q
    have hlt : ∀ b ∈ [z, TI, TO, i1, i2, i3], b < s.heap.objs.size := fun b hb => by
      simp only [List.mem_cons, List.not_mem_nil, or_false] at hb
      rcases hb with rfl | rfl | rfl | rfl | rfl | rfl
      · exact Heap.lt_size hz
      · exact Heap.lt_size hI
      · exact Heap.lt_size hO
      · obtain ⟨o, g, _⟩ := sk_obj g1; exact Heap.lt_size g
      · obtain ⟨o, g, _⟩ := sk_obj g2; exact Heap.lt_size g
      · obtain ⟨o, g, _⟩ := sk_obj g3; exact Heap.lt_size g
    have kp1 : SkIt k1 h2 i1 a1 (i + 1) := sk_keep q1.1 fun o q => up _ _ D.D.i1z q
    have kp2 : SkIt k2 h2 i2 a2 (i + 1) := sk_keep q2.1 fun o q => up _ _ D.D.i2z q
    have kp3 : SkIt k3 h2 i3 a3 (i + 1) := sk_keep q3.1 fun o q => up _ _ D.i3z q
    refine ⟨.ref s.heap.objs.size, upd H s.heap.objs.size (.tup [x, y, v]), I.turnedT (ch := [z, TI, TO, i1, i2, i3]) hf (fun b o hb q => ?_) (Nat.le_refl _) ?_, rfl, ⟨_, I.hok.fresh (Nat.le_refl _), rfl, fun xs' ys' zs' e1 e2 e3 => ⟨x, y, v, by rw [I.sk_inj (e1.q (K := X.K)) hq1.q]; exact hx, by rw [I.sk_inj (e2.q (K := X.K)) hq2.q]; exact hy, by rw [I.sk_inj (e3.q (K := X.K)) hq3.q]; exact hv, rfl⟩⟩, ⟨hz2, up _ _ D.D.TIz (hk _ _ D.D.TIz D.D.TITO D.D.TIi1 D.D.TIi2 D.TIi3 hI), ⟨_, _, _, up _ _ D.D.TOz hO1⟩, kp1, kp2, kp3⟩, fun b hb => ?_⟩
    · simp only [List.mem_cons, List.not_mem_nil, or_false, not_or] at hb
      exact up b o hb.1 (hk b o hb.1 hb.2.2.1 hb.2.2.2.1 hb.2.2.2.2.1 hb.2.2.2.2.2 q)
    · exact ⟨by show 3 ≤ sizeLine; decide, [v1, v2, v3], .cons ru1 (.cons ru2 (.cons ru3 .nil)), ⟨_, up _ _ (Nat.ne_of_gt (hlt z (by simp))) hT, rfl, _, rfl, rfl⟩⟩
    · rw [upd_ne (Nat.ne_of_lt (hlt b hb))]; exact (hf b hb).1
  done := by
    intro X hP hw hK hc i pins s σ H E I hf st hg
    subst hP hw hK
    obtain ⟨hz, hI, ⟨a, c, d, hO⟩, g1, g2, g3⟩ := st
    obtain ⟨xs, hq1, hi⟩ := hg
    obtain ⟨its1, rv1, o1, _⟩ := I.sk (hq1.q (K := X.K))
    have e1 := rv1.length
    have Hz := (hf z (by simp)).1
    have HO := (hf TO (by simp)).1
    have H2 := (hf i2 (by simp)).1
    have D1 := dr_sk (prog := X.prog) (w := X.w) (A := X.A.in1) k1 (I.ok.hd hc) i1 a1 (sk_ne g1 o1) its1.toArray
    refine end_zip3 D D1 (off_mk (TI := TI) hq1.some Hz HO H2 D.D.i1z D.D.TOi1.symm D.D.i12) hz hI (k := i) ⟨g1, o1⟩ (by rw [List.size_toArray]; omega) fun h' tk hk => ⟨rfl, I.turnedL (ch := [z, TI, TO, i1, i2, i3]) hf fun b o hb q => ?_⟩
    simp only [List.mem_cons, List.not_mem_nil, or_false, not_or] at hb
    exact hk b o hb.1 hb.2.2.1 hb.2.2.2.1 hb.2.2.2.2.1 hb.2.2.2.2.2 q
  self := fun _ _ _ _ _ st h => wpAny_pyIter_zip st.1 h
theorem call_zip3 {prog : Program} {w : World} {A : Around} {E : Value → Shared → Prop} {s : Shared} {k1 k2 k3 : Sk} {a1 a2 a3 : Addr} {xs ys zs : Array Value} {Q : Value → Shared → Prop} (h1 : SkOk k1 s.heap a1 xs) (h2 : SkOk k2 s.heap a2 ys) (h3 : SkOk k3 s.heap a3 zs)
    (h : ∀ h' z TI TO i1 i2 i3, Ap6 z TI TO i1 i2 i3 → tn3 k1 k2 k3 z TI TO i1 i2 i3 a1 a2 a3 0 h' → (∀ b ∈ [z, TI, TO, i1, i2, i3], s.heap.objs.size ≤ b) → (∀ c o, s.heap.get? c = some o → h'.get? c = some o) → Q (.ref z) { s with heap := h' }) :
    wpAny (model prog w) A (call (.type "zip") [.ref a1, .ref a2, .ref a3]) Q E s := by
  refine callType_new F.called_zip (by decide) (tc_zip3 _ _ _) (nc_zip3 _ _ _) (fun obj => ai_4 obj _ _ _) F.entry_zip_new (meets_zip3 k1 k2 k3 a1 a2 a3 xs ys zs) ⟨h1, h2, h3, ?_⟩
  have z1 : (zK1 s.heap k1 a1).objs.size = s.heap.objs.size + 1 := Heap.size_push ..
  have z2 : (zK1 (zK1 s.heap k1 a1) k2 a2).objs.size = s.heap.objs.size + 2 := (Heap.size_push ..).trans (by rw [z1])
  have z3 : (z3a s.heap k1 k2 k3 a1 a2 a3).objs.size = s.heap.objs.size + 3 := (Heap.size_push ..).trans (by rw [z2])
  have z4 : (z3b s.heap k1 k2 k3 a1 a2 a3).objs.size = s.heap.objs.size + 4 := (Heap.size_push ..).trans (by rw [z3])
  have z5 : (z3c s.heap k1 k2 k3 a1 a2 a3).objs.size = s.heap.objs.size + 5 := (Heap.size_push ..).trans (by rw [z4])
  have g6 : (z3d s.heap k1 k2 k3 a1 a2 a3).get? (z3c s.heap k1 k2 k3 a1 a2 a3).objs.size = some _ := Heap.get?_push_size _ rfl
  have g5 : (z3d s.heap k1 k2 k3 a1 a2 a3).get? (z3b s.heap k1 k2 k3 a1 a2 a3).objs.size = some _ := Heap.get?_push_of_some _ (Heap.get?_push_size _ rfl)
  have g4 : (z3d s.heap k1 k2 k3 a1 a2 a3).get? (z3a s.heap k1 k2 k3 a1 a2 a3).objs.size = some _ := Heap.get?_push_of_some _ (Heap.get?_push_of_some _ (Heap.get?_push_size _ rfl))
  have g3 : (z3d s.heap k1 k2 k3 a1 a2 a3).get? (zK1 (zK1 s.heap k1 a1) k2 a2).objs.size = some _ := Heap.get?_push_of_some _ (Heap.get?_push_of_some _ (Heap.get?_push_of_some _ (Heap.get?_push_size _ rfl)))
  have g2 : (z3d s.heap k1 k2 k3 a1 a2 a3).get? (zK1 s.heap k1 a1).objs.size = some _ := Heap.get?_push_of_some _ (Heap.get?_push_of_some _ (Heap.get?_push_of_some _ (Heap.get?_push_of_some _ (Heap.get?_push_size _ rfl))))
  have g1 : (z3d s.heap k1 k2 k3 a1 a2 a3).get? s.heap.objs.size = some _ := Heap.get?_push_of_some _ (Heap.get?_push_of_some _ (Heap.get?_push_of_some _ (Heap.get?_push_of_some _ (Heap.get?_push_of_some _ (Heap.get?_push_size _ rfl)))))
  have D : Ap6 (z3c s.heap k1 k2 k3 a1 a2 a3).objs.size (z3a s.heap k1 k2 k3 a1 a2 a3).objs.size (z3b s.heap k1 k2 k3 a1 a2 a3).objs.size s.heap.objs.size (zK1 s.heap k1 a1).objs.size (zK1 (zK1 s.heap k1 a1) k2 a2).objs.size := by
    generalize (z3c s.heap k1 k2 k3 a1 a2 a3).objs.size = e5 at z5 ⊢; generalize (z3b s.heap k1 k2 k3 a1 a2 a3).objs.size = e4 at z4 ⊢; generalize (z3a s.heap k1 k2 k3 a1 a2 a3).objs.size = e3 at z3 ⊢; generalize (zK1 (zK1 s.heap k1 a1) k2 a2).objs.size = e2 at z2 ⊢; generalize (zK1 s.heap k1 a1).objs.size = e1 at z1 ⊢; generalize s.heap.objs.size = e0 at *
    refine ⟨?_, ?_, ?_, ?_, ?_, ?_⟩
    · constructor <;> (intro q; replace q : @Eq Nat _ _ := q; omega)
    all_goals (intro q; replace q : @Eq Nat _ _ := q; omega)
  refine ⟨⟨_, g6, rfl⟩, h _ _ _ _ _ _ _ D ⟨g6, g4, ⟨_, _, _, g5⟩, ?_, ?_, ?_⟩ ?_ fun c o q => Heap.get?_push_of_some _ (Heap.get?_push_of_some _ (Heap.get?_push_of_some _ (Heap.get?_push_of_some _ (Heap.get?_push_of_some _ (Heap.get?_push_of_some _ q)))))⟩
  · exact skO_it g1
  · exact skO_it g2
  · exact skO_it g3
  · intro b hb
    simp only [List.mem_cons, List.not_mem_nil, or_false] at hb
    rcases hb with q | q | q | q | q | q
    · exact Nat.le_trans (Nat.le_add_right _ 5) (Nat.le_of_eq (z5.symm.trans q.symm))
    · exact Nat.le_trans (Nat.le_add_right _ 3) (Nat.le_of_eq (z3.symm.trans q.symm))
    · exact Nat.le_trans (Nat.le_add_right _ 4) (Nat.le_of_eq (z4.symm.trans q.symm))
    · exact Nat.le_of_eq q.symm
    · exact Nat.le_trans (Nat.le_add_right _ 1) (Nat.le_of_eq (z1.symm.trans q.symm))
    · exact Nat.le_trans (Nat.le_add_right _ 2) (Nat.le_of_eq (z2.symm.trans q.symm))
theorem vals3 {x y z : V} {us : List Value} (h : Vals [x, y, z] us) : ∃ u v w, us = [u, v, w] ∧ RelV x u ∧ RelV y v ∧ RelV z w := by
  cases h with
  | cons a t =>
    cases t with
    | cons b t =>
      cases t with
      | cons c t => cases t; exact ⟨_, _, _, rfl, a, b, c⟩
section
variable {X : Cx}
def iZip3 (k1 k2 k3 : Sk) (ta : TA) : TI := fun σ H R => ta σ H fun vs H1 => ∃ a1 a2 a3, vs = [.ref a1, .ref a2, .ref a3] ∧ (∃ xs, SkR k1 H1 a1 xs) ∧ (∃ ys, SkR k2 H1 a2 ys) ∧ (∃ zs, SkR k3 H1 a3 zs) ∧ R (ItZ3 k1 k2 k3 a1 a2 a3) H1
theorem pi_zip3 (k1 k2 k3 : Sk) {es : List Expr} {n : Nat} {tp : Pos} {a b c : Expr} {ta : TA} {p pos : Pos} (hg : Gl X "zip") (hm : X.mg "zip" = none) (ha : PA X [a, b, c] ta) (h1 : isStar a = false) (h2 : isStar b = false) (h3 : isStar c = false) :
    PI X (.Tuple es n tp) (.Call (.Name "zip" p) [a, b, c] [] pos) (iZip3 k1 k2 k3 ta) := by
  intro pins s σ H R I h
  refine Call_ (ld_blt I hg hm boot_zip (PyProof.Rows.callWith_type1 (thn (ha pos pins s σ H _ I h) fun us s1 ⟨vs, H1, I1, r1, a1, a2, a3, e, ⟨xs, hq1⟩, ⟨ys, hq2⟩, ⟨zs, hq3⟩, q⟩ => ?_) (star_of h1) (by rw [star_of h2, star_of h3]; rfl)))
  subst e
  obtain ⟨u, v, w, rfl, rfl, rfl, rfl⟩ := vals3 r1
  obtain ⟨its1, rv1, o1, _⟩ := I1.sk (hq1.q (K := X.K))
  obtain ⟨its2, rv2, o2, _⟩ := I1.sk (hq2.q (K := X.K))
  obtain ⟨its3, rv3, o3, _⟩ := I1.sk (hq3.q (K := X.K))
  refine call_zip3 o1 o2 o3 fun h1 z TI TO i1 i2 i3 D st nw hk => ?_
  refine wpAny_pyIter_zip (s := { s1 with heap := h1 }) st.1 ?_
  exact ⟨_, [z, TI, TO, i1, i2, i3], _, _, H1, rfl, I1.kept (t' := s1.toks) hk, turn_zip3 D k1 k2 k3 a1 a2 a3, st, fun b hb => I1.fpOk (nw b hb) (I1.hok.fresh (nw b hb)), q⟩
end
theorem fixZ3 {k1 k2 k3 : Sk} {a1 a2 a3 : Addr} {xs ys zs : List V} (hy : xs.length ≤ ys.length) (hz : xs.length ≤ zs.length) : Fix (ItZ3 k1 k2 k3 a1 a2 a3) xs.length (fun H => SkR k1 H a1 xs ∧ SkR k2 H a2 ys ∧ SkR k3 H a3 zs) (fun i H u H' => ∃ p x y v, H p = none ∧ u = .ref p ∧ xs[i]? = some x ∧ ys[i]? = some y ∧ zs[i]? = some v ∧ H' = upd H p (.tup [x, y, v])) :=
  ⟨fun i H ok h => let ⟨x, e⟩ := at_lt (xs := xs) h; let ⟨y, e2⟩ := at_lt (xs := ys) (by omega); let ⟨v, e3⟩ := at_lt (xs := zs) (by omega); ⟨xs, ys, zs, x, y, v, ok.1, ok.2.1, ok.2.2, e, e2, e3⟩, fun H ok => ⟨xs, ok.1, rfl⟩, fun i H u H' ok _ ⟨p, hp, e, q⟩ => let ⟨x, y, v, h1, h2, h3, h4⟩ := q xs ys zs ok.1 ok.2.1 ok.2.2; ⟨p, x, y, v, hp, e, h1, h2, h3, h4⟩⟩
end L2

set_option Elab.async false
set_option linter.all false
set_option maxRecDepth 100000
namespace Lw
open PySem PySem.Spec PyProof.Rows L2 K34
open Builtin Builtin.Str StrLaws
def spLaw : Sp := fun vs H Q _ => ∃ (a : Addr) (ns : List Int), vs = [.ref a] ∧ ns.length ≤ 63 ∧ (∃ o, H a = some (.frz o (.lst (ns.map V.int)))) ∧ ∀ H', Q (.bl true) H'
theorem depthL_le {n : Nat} : ∀ {ds : List Dv}, (∀ d ∈ ds, d.depth ≤ n) → Dv.depthL ds ≤ n
  | [], _ => by unfold Dv.depthL; omega
  | d :: ds, h => by
    have h1 := h d List.mem_cons_self
    have h2 := depthL_le (ds := ds) fun x hx => h x (List.mem_cons_of_mem _ hx)
    unfold Dv.depthL
    omega
theorem depth_tup {n : Nat} {ds : List Dv} (h : ∀ d ∈ ds, d.depth ≤ n) : (Dv.tup ds).depth ≤ n + 1 := by
  have := depthL_le h
  unfold Dv.depth
  omega
theorem depth_cell (c : Cell) : c.dv.depth ≤ 1 := by cases c <;> simp [Cell.dv, Dv.depth, Dv.depthL]
theorem depth_str (x : Str) (n : Nat) : (Dv.str x).depth ≤ n := by unfold Dv.depth; omega
theorem depth_amts (l : List (Int × Int)) : (amtsD l).depth ≤ 2 := depth_tup fun d hd => by
  obtain ⟨p, _, rfl⟩ := List.mem_map.mp hd
  simp [amtD, Dv.depth, Dv.depthL]
theorem depth_row (r : List Cell) : (rowL r).depth ≤ 3 := depth_tup fun d hd => by
  simp only [List.mem_cons, List.not_mem_nil, or_false] at hd
  rcases hd with rfl | rfl
  · exact depth_str _ _
  · exact depth_tup fun d hd => by
      obtain ⟨c, _, rfl⟩ := List.mem_map.mp hd
      exact depth_cell c
theorem depth_foot (π : Plan) (row : List Cell) (since : List (List (Int × Int))) (lv : Nat) : (footD π row since lv).depth ≤ 3 := depth_tup fun d hd => by
  simp only [List.mem_cons, List.not_mem_nil, or_false] at hd
  rcases hd with rfl | rfl | rfl | rfl
  · exact depth_str _ _
  · exact depth_str _ _
  · refine depth_tup (n := 1) fun d hd => ?_
    obtain ⟨i, _, rfl⟩ := List.mem_map.mp (List.mem_of_mem_take hd)
    unfold cellD
    split
    · exact depth_cell _
    · simp [Dv.depth]
  · exact depth_amts _
theorem depth_foot2 (π : Plan) (row : List Cell) (since : List (List (Int × Int))) (lv : Nat) : (footLn π row since lv).dv.depth ≤ 3 := depth_foot π row since lv
theorem depth_prog (π : Plan) : ∀ (rows : List (List Cell)) (p : Option (List Cell)) (since : List (List (Int × Int))), ∀ x ∈ progLn π rows p since, x.dv.depth ≤ 3
  | [], none, _ => fun x hx => nomatch hx
  | [], some p, since => by
    intro x hx
    obtain ⟨i, _, rfl⟩ := List.mem_map.mp hx
    exact depth_foot2 _ _ _ _
  | r :: rs, none, since => by
    intro x hx
    rw [progLn] at hx
    rcases List.mem_cons.mp hx with rfl | hx
    · exact depth_row _
    · exact depth_prog π rs _ _ x hx
  | r :: rs, some p, since => by
    intro x hx
    rw [progLn] at hx
    rcases List.mem_append.mp hx with hx | hx
    · obtain ⟨i, _, rfl⟩ := List.mem_map.mp hx
      exact depth_foot2 _ _ _ _
    rcases List.mem_cons.mp hx with rfl | hx
    · exact depth_row _
    · exact depth_prog π rs _ _ x hx
theorem depth_pair {x : Str} {d : Dv} {n : Nat} (h : d.depth ≤ n) : (Dv.tup [.str x, d]).depth ≤ n + 1 := depth_tup fun e he => by
  simp only [List.mem_cons, List.not_mem_nil, or_false] at he
  rcases he with rfl | rfl
  · exact depth_str _ _
  · exact h
theorem depth_lns (π : Plan) (rows : List (List Cell)) : ∀ x ∈ lnsOf π rows, x.dv.depth ≤ 3 := by
  intro x hx
  rcases List.mem_append.mp hx with hx | hx
  · exact depth_prog _ _ _ _ x hx
  · obtain rfl := List.mem_singleton.mp hx
    exact depth_pair (depth_amts _)
theorem depth_hide (π : Plan) (r : List Cell) : (hidL π r).depth ≤ 3 := depth_pair (depth_tup (n := 1) fun d hd => by
  unfold hideD at hd
  obtain ⟨i, hi⟩ := List.mem_iff_getElem?.mp hd
  rw [List.getElem?_zipWith] at hi
  split at hi
  · rename_i a b _ _
    rw [← Option.some.inj hi]
    split
    · simp [Dv.depth]
    · exact depth_cell _
  · cases hi)
theorem par_cc3 {i j k : Nat} {te1 te2 te3 : TE} {D : Ends} {σ : L2.St} {H : Hp} (h : te1 σ H fun v H1 => te2 σ H1 fun w H2 => te3 σ H2 fun z H3 => ∃ v' w' z', [v, w, z] = [v', w', z'] ∧ D.nx (((σ.set i (some v')).set j (some w')).set k (some z')) H3) : tPar3 i j k (tCons te1 (tCons te2 (tCons te3 tNil))) D σ H := h
theorem call_vc {sp : Sp} {E : XK} {te1 te2 : TE} {σ : L2.St} {H : Hp} {Q : VK} (h : te1 σ H fun v H1 => te2 σ H1 fun w H2 => sp [v, w] H2 Q E) : tCall sp [] E (tCons te1 (tCons te2 tNil)) σ H Q := h
theorem zip_w (sp : List Nat) (r : List Cell) (l : List (Int × Int)) : List.zipWith addA l (sp.map (cellA r)) = wRow sp r l := by
  unfold wRow
  rw [List.zipWith_map_right]
/-- is the tuple of names empty? -/
theorem ne_none {as : Addr} {ss : List Str} {σ : L2.St} {H : Hp} {Q : Bool → Hp → Prop} (D : Deep H (.ref as) (.tup (txD ss))) (k : ∀ H' b, Same H H' → (b = true ↔ ss ≠ []) → Q b H') : tTup tNil σ H fun y H1 => rEqDp 8 true (.ref as) y H1 fun x H2 => ∃ k', x = .bl k' ∧ Q k' H2 := by
  refine ⟨Nat.zero_le _, fun l0 hl0 => ?_⟩
  have S := Same.new (o := .tup []) hl0
  refine ⟨_, .tup [], D.same S, .tup upd_same .nil, ?_, _, rfl, k _ _ S ?_⟩
  · have : ∀ ss : List Str, Dv.depthL (txD ss) ≤ 0 := by
      intro ss
      induction ss with
      | nil => unfold txD; rw [List.map_nil]; unfold Dv.depthL; omega
      | cons x xs ih =>
        have e : txD (x :: xs) = .str x :: txD xs := rfl
        rw [e]
        unfold Dv.depthL
        have : Dv.depth (.str x) = 0 := by unfold Dv.depth; rfl
        omega
    have h := this ss
    unfold Dv.depth
    omega
  · cases ss with
    | nil => simp [txD, Dv.eqb, Dv.eqbL]
    | cons x xs => simp [txD, Dv.eqb, Dv.eqbL]

/-! ### the law's mathematics -/
def rowsOf : List Ln → List (List Cell)
  | [] => []
  | .row r :: ls => r :: rowsOf ls
  | .oth _ _ :: ls => rowsOf ls
theorem rowsOf_app : ∀ a b : List Ln, rowsOf (a ++ b) = rowsOf a ++ rowsOf b
  | [], b => rfl
  | .row r :: a, b => by rw [List.cons_append, rowsOf, rowsOf, rowsOf_app a b, List.cons_append]
  | .oth _ _ :: a, b => by rw [List.cons_append, rowsOf, rowsOf, rowsOf_app a b]
theorem rowsOf_none : ∀ {a : List Ln}, (∀ x ∈ a, x.isRow = false) → rowsOf a = []
  | [], _ => rfl
  | .row r :: a, h => absurd (h _ List.mem_cons_self) (by simp [Ln.isRow])
  | .oth _ _ :: a, h => by rw [rowsOf]; exact rowsOf_none fun x hx => h x (List.mem_cons_of_mem _ hx)
theorem rowsOf_prog (π : Plan) : ∀ (rows : List (List Cell)) (p : Option (List Cell)) (since : List (List (Int × Int))), rowsOf (progLn π rows p since) = rows
  | [], none, _ => rfl
  | [], some p, since => rowsOf_none fun x hx => (foot_ok x hx).2
  | r :: rs, none, since => by rw [progLn, rowsOf, rowsOf_prog π rs]
  | r :: rs, some p, since => by rw [progLn, rowsOf_app, rowsOf_none fun x hx => (foot_ok x hx).2, rowsOf, rowsOf_prog π rs]; rfl
theorem rowsOf_lns (π : Plan) (rows : List (List Cell)) : rowsOf (lnsOf π rows) = rows := by
  unfold lnsOf
  rw [rowsOf_app, rowsOf_prog]
  show rows ++ [] = rows
  rw [List.append_nil]
/-- so many rows stand ahead -/
def cnt (ls : List Ln) (n : Nat) : Nat := rowsIn (ls.take n)
theorem cnt_row : ∀ (ls : List Ln) (n : Nat) (r : List Cell), n < ls.length → ls.getD n dfl = .row r → (rowsOf ls)[cnt ls n]? = some r
  | [], _, _, h, _ => absurd h (by simp)
  | x :: ls, 0, r, _, e => by
    have e : x = .row r := e
    subst e
    rfl
  | .row q :: ls, n + 1, r, h, e => by
    have : cnt (.row q :: ls) (n + 1) = cnt ls n + 1 := by
      show rowsIn (.row q :: ls.take n) = _
      rw [rowsIn, show (Ln.row q).isRow = true from rfl, if_pos rfl, Nat.add_comm]
      rfl
    rw [this, rowsOf, List.getElem?_cons_succ]
    exact cnt_row ls n r (by simpa using h) e
  | .oth k ds :: ls, n + 1, r, h, e => by
    have : cnt (.oth k ds :: ls) (n + 1) = cnt ls n := by
      show rowsIn (.oth k ds :: ls.take n) = _
      rw [rowsIn, show (Ln.oth k ds).isRow = false from rfl, if_neg (by decide), Nat.zero_add]
      rfl
    rw [this, rowsOf]
    exact cnt_row ls n r (by simpa using h) e
theorem cnt_succ {ls : List Ln} {n : Nat} (h : n < ls.length) : cnt ls (n + 1) = cnt ls n + (if (ls.getD n dfl).isRow = true then 1 else 0) := by
  unfold cnt
  rw [List.take_add_one, List.getElem?_eq_getElem h, rowsIn_append]
  rw [List.getD_eq_getElem?_getD, List.getElem?_eq_getElem h]
  rfl
theorem cnt_all (ls : List Ln) : cnt ls ls.length = rowsIn ls := by unfold cnt; rw [List.take_length]
theorem drop_at (ls : List Ln) (i j : Nat) : (ls.drop i).getD j dfl = ls.getD (i + j) dfl := by
  rw [List.getD_eq_getElem?_getD, List.getD_eq_getElem?_getD, List.getElem?_drop]
theorem smN_add (π : Plan) (ls : List Ln) (l : List (Int × Int)) (i : Nat) : ∀ m, smN π (ls.drop i) (smN π ls l i) m = smN π ls l (i + m)
  | 0 => rfl
  | m + 1 => by rw [smN, smN_add π ls l i m, drop_at, show i + (m + 1) = (i + m) + 1 by omega, smN]
theorem smN_rows (π : Plan) : ∀ (ls : List Ln) (l : List (Int × Int)), smN π ls l ls.length = (rowsOf ls).foldl (fun l r => wRow (sps π) r l) l := by
  have step : ∀ (x : Ln) (ls : List Ln) (l : List (Int × Int)) (n : Nat), smN π (x :: ls) l (n + 1) = smN π ls (sum1 π l x) n := by
    intro x ls l n
    induction n with
    | zero => rfl
    | succ n ih => rw [smN, ih, smN]; rfl
  intro ls
  induction ls with
  | nil => intro l; rfl
  | cons x ls ih =>
    intro l
    rw [List.length_cons, step, ih]
    cases x with
    | row r => rfl
    | oth k ds => rfl
theorem smN_total (π : Plan) (rows : List (List Cell)) : smN π (lnsOf π rows) (zeros π) (lnsOf π rows).length = total π rows := by rw [smN_rows, rowsOf_lns]; rfl
theorem shown_key (π : Plan) (b : Bool) (x : Ln) : ∃ ds, shown1 π b x = .tup (.str x.key :: ds) := by
  cases x with
  | oth k ds => exact ⟨ds, rfl⟩
  | row r =>
    cases b with
    | true => exact ⟨[.tup (hideD π r)], rfl⟩
    | false => exact ⟨[rowD r], rfl⟩
/-- what is found is what is shown -/
def FoundOk (π : Plan) (ls : List Ln) (acc : List Dv) : Prop := ∀ (j : Nat) (d : Dv), acc[j]? = some d → ∃ b, d = shown1 π b (ls.getD j dfl)
theorem FoundOk.snoc {π : Plan} {ls : List Ln} {acc : List Dv} (h : FoundOk π ls acc) (b : Bool) : FoundOk π ls (acc ++ [shown1 π b (ls.getD acc.length dfl)]) := by
  intro j d hj
  by_cases e : j < acc.length
  · rw [List.getElem?_append_left e] at hj
    exact h j d hj
  · have e2 : j = acc.length := by
      have := (List.getElem?_eq_some_iff.mp hj).1
      rw [List.length_append, List.length_singleton] at this
      omega
    subst e2
    rw [List.getElem?_append_right (Nat.le_refl _), Nat.sub_self] at hj
    exact ⟨b, (Option.some.inj hj).symm⟩
theorem shN_at (π : Plan) (L : List Ln) : ∀ (n j : Nat), j < n → (shN π L n)[j]? = some (shown1 π (prevRow L j) (L.getD j dfl))
  | 0, _, h => absurd h (by omega)
  | n + 1, j, h => by
    rw [shN]
    by_cases e : j < n
    · rw [List.getElem?_append_left (by rw [shN_len]; exact e)]
      exact shN_at π L n j e
    · obtain rfl : j = n := by omega
      rw [List.getElem?_append_right (by rw [shN_len]; omega), shN_len, Nat.sub_self]
      rfl
theorem page_len {π : Plan} (z6 : 6 ≤ π.size) {n : Nat} {l : List (Int × Int)} {L : List Ln} {m : Nat} {q : List (Int × Int)} (em : m = onPage π n l L) : ((topL π n l ++ shN π L m ++ botL π (decide (m = L.length)) q).length : Int) ≤ π.size ∧ (m ≠ L.length → ((topL π n l ++ shN π L m ++ botL π (decide (m = L.length)) q).length : Int) = π.size) ∧ (topL π n l ++ shN π L m ++ botL π (decide (m = L.length)) q).length = (topL π n l).length + m + (if m = L.length ∨ π.sums = [] then 0 else 1) := by
  have h1 := topL_len π n l
  have hb : (botL π (decide (m = L.length)) q).length = (if m = L.length ∨ π.sums = [] then 0 else 1) := by
    unfold botL
    by_cases e : m = L.length ∨ π.sums = []
    · rw [if_pos e, if_pos (by rcases e with e | e; exact .inl (decide_eq_true e); exact .inr e)]; rfl
    · rw [if_neg e, if_neg (fun y => e (by rcases y with y | y; exact .inl (of_decide_eq_true y); exact .inr y))]; rfl
  have hl : (topL π n l ++ shN π L m ++ botL π (decide (m = L.length)) q).length = (topL π n l).length + m + (if m = L.length ∨ π.sums = [] then 0 else 1) := by
    rw [List.length_append, List.length_append, shN_len, hb]
  rw [hl]
  have ho : oneIf π = if π.sums = [] then 0 else 1 := rfl
  unfold onPage fitN at em
  refine ⟨?_, ?_, rfl⟩
  · by_cases e : L.length + (topL π n l).length ≤ π.size.toNat
    · rw [if_pos e] at em
      rw [if_pos (.inl em)]
      omega
    · rw [if_neg e, ho] at em
      by_cases e2 : π.sums = []
      · rw [if_pos e2] at em
        rw [if_pos (.inr e2)]
        omega
      · rw [if_neg e2] at em
        have : (if m = L.length ∨ π.sums = [] then 0 else 1) ≤ 1 := by split <;> omega
        omega
  · intro hm
    by_cases e : L.length + (topL π n l).length ≤ π.size.toNat
    · rw [if_pos e] at em
      exact absurd em hm
    · rw [if_neg e, ho] at em
      by_cases e2 : π.sums = []
      · rw [if_pos e2] at em
        rw [if_pos (.inr e2)]
        omega
      · rw [if_neg e2] at em
        rw [if_neg (fun y => y.elim hm e2)]
        omega
theorem eq_no {x y : V} {d : Dv} {H : Hp} {Q : Bool → Hp → Prop} (dx : Deep H x d) (dy : Deep H y d) (hd : d.depth ≤ 8) (k : Q false H) : rEqDp 8 true x y H fun b H1 => ∃ k', b = .bl k' ∧ Q k' H1 := ⟨d, d, dx, dy, hd, false, by rw [Dv.eqb_self]; rfl, k⟩
theorem depth8 {x : Str} {l : List (Int × Int)} : (Dv.tup [.str x, amtsD l]).depth ≤ 8 := by
  have := depth_pair (x := x) (depth_amts l)
  omega
theorem depth_shown {π : Plan} {b : Bool} {x : Ln} (h : x.dv.depth ≤ 3) : (shown1 π b x).depth ≤ 8 := by
  cases x with
  | oth k ds => exact Nat.le_trans h (by decide)
  | row r =>
    show (if b = true then hidL π r else rowL r).depth ≤ 8
    split
    · exact Nat.le_trans (depth_hide _ _) (by decide)
    · exact Nat.le_trans (depth_row _) (by decide)
end Lw

set_option Elab.async false
set_option linter.all false
set_option maxRecDepth 100000
namespace Lw
open PySem PySem.Spec PyProof.Rows L2 K34
open Builtin Builtin.Str StrLaws
abbrev st37 (a t : Addr) (pv rv : V) (ac ak as : Addr) (sz : Int) (y8 : Option V) (R fo : Addr) (tv : V) (sn : Nat) (y13 y14 y15 y16 y17 y18 y19 y20 y21 : Option V) : L2.St := [some (.ref a), some (.ref t), some pv, some rv, some (.ref ac), some (.ref ak), some (.ref as), some (.int sz), y8, some (.ref R), some (.ref fo), some tv, some (.int (sn : Nat)), y13, y14, y15, y16, y17, y18, y19, y20, y21]
/-- what the law keeps at a line -/
structure PgAt (π : Plan) (ls : List Ln) (Hb H : Hp) (fo : Addr) (xf : List V) (acc : List Dv) (tv : V) (i : Nat) : Prop where
  B : LsSt Hb H fo xf acc
  F : FoundOk π ls acc
  la : acc.length = i
  T : Deep H tv (amtsD (smN π ls (zeros π) i))
theorem PgAt.same {π : Plan} {ls : List Ln} {Hb H H' : Hp} {fo : Addr} {xf : List V} {acc : List Dv} {tv : V} {i : Nat} (B : PgAt π ls Hb H fo xf acc tv i) (S : Same H H') : PgAt π ls Hb H' fo xf acc tv i := ⟨B.B.same S, B.F, B.la, B.T.same S⟩
theorem ejoin {te : TE} {σ : L2.St} {H : Hp} {Q : VK} (Good : V → Hp → Prop) (rest : ∀ v H', Good v H' → Q v H') (h : (∀ v H', Good v H' → Q v H') → te σ H Q) : te σ H Q := h rest
theorem sjoin {t : TS} {D : Ends} {σ : L2.St} {H : Hp} (Good : L2.St → Hp → Prop) (rest : ∀ σ' H', Good σ' H' → D.nx σ' H') (h : (∀ σ' H', Good σ' H' → D.nx σ' H') → t D σ H) : t D σ H := h rest
theorem ne_same {a b : Int} (h : a = b) : V.bl (!decide (V.int a = V.int b)) = V.bl false := by rw [h, decide_eq_true rfl]; rfl
theorem ne_sameS {a b : Str} (h : a = b) : V.bl (!decide (V.str a = V.str b)) = V.bl false := by rw [h, decide_eq_true rfl]; rfl
section
variable {P : Program} {w : World} {K : PySem.W.Frag} {mg : Str → Option Value} {base : Heap} {f : Addr} {fd : FuncData} {tk : Nat → Tok} {ca : Value}
set_option maxHeartbeats 8000000 in
theorem ok_law (F : FunC K "law" "law" s_law f fd ca) (O : Own mg) (OT : mg "tuple" = none) (OE : mg "enumerate" = none) (OZ : mg "zip" = none) (D__law_begun : Def P w K mg base 1 "_law_begun" [] spBegun) (D__law_a_plan : Def P w K mg base 2 "_law_a_plan" ["_law_script", "_law_town"] (spAPlan K))
    (D_report : Def P w K mg base 8 "report" ["plan", "rows"] spReport) (D_breaks : Def P w K mg base 7 "breaks" ["plan", "rows"] spBreaks) (D__law_plus : Def P w K mg base 1 "_law_plus" ["_law_one", "_law_two"] spPlus) : FnOk P w K mg base (CXE P w) 9 f fd ["_law_script"] spLaw := by
  refine okNCx F sc_law (fun vs H Q E h => ?_) (fun A outer s H vs Q E hr h => ?_)
  · obtain ⟨a, ns, rfl, _⟩ := h
    rfl
  · obtain ⟨a, ns, rfl, hln, ⟨oa, hsc⟩, k⟩ := h
    have hz : 100000 ≤ sizeLine := by rw [sizeLine_eq]; decide
    refine ⟨_, (psx_cons (psy_set (i := 1) sc_law.nd rfl (Or.inl rfl) (PEx.mk (D__law_begun.pe0 hr (by decide) rfl passE0)) rfl rfl)
      (psx_cons (PSy.mk (ps_asg (D__law_a_plan.pe hr (by decide) rfl passE0 (pa_c (pv 0) (pa_c (pv 1) pa_nil))) (pg_tup rfl (pgs_cons (pg_name (i := 2) sc_law.nd rfl (Or.inl rfl)) (pgs_cons (pg_name (i := 3) sc_law.nd rfl (Or.inr rfl)) pgs_nil)))))
      (psx_cons (PSy.mk (ps_asg (pv 2) (pg_tup rfl (pgs_cons (pg_name (i := 4) sc_law.nd rfl (Or.inr rfl)) (pgs_cons (pg_name (i := 5) sc_law.nd rfl (Or.inl rfl)) (pgs_cons (pg_name (i := 6) sc_law.nd rfl (Or.inl rfl)) (pgs_cons (pg_name (i := 7) sc_law.nd rfl (Or.inl rfl)) pgs_nil)))))))
      (psx_cons (PSy.mk (ps_par3 (i := 9) (j := 10) (k := 11) rfl sc_law.nd rfl rfl rfl (by decide) (by decide) (by decide) rfl rfl rfl (pa_c (D_report.pe hr (by decide) rfl passE0 (pa_c (pv 2) (pa_c (pv 3) pa_nil))) (pa_c (pe_lst pa_nil) (pa_c (pe_callTy call_tuple_of rfl OT PyProof.Rows.boot_tuple (pa_c (pe_lcomp (NB := [".0", "_law_name"]) rfl ⟨rfl, by decide +kernel, by decide +kernel, by decide +kernel⟩ (pi_tup (pv 6)) (fun _ _ _ => (pg_name (i := 1) (show ([".0", "_law_name"] : List Str).Nodup by decide +kernel) rfl (Or.inl rfl))) (fun _ _ _ => pts_nil) (fun _ _ _ => (pe_tup (pa_c pe_int (pa_c pe_int pa_nil))))) pa_nil)) pa_nil))) rfl))
      (psx_cons (psy_set (i := 12) sc_law.nd rfl (Or.inr rfl) (PEx.mk pe_int) rfl rfl)
      (psx_cons (psy_for PassesOwn.never rfl (pi_enumK .tp rfl OE (pa_c (pv 9) pa_nil)) (pg_tup rfl (pgs_cons (pg_name (i := 13) sc_law.nd rfl (Or.inl rfl)) (pgs_cons (pg_name (i := 14) sc_law.nd rfl (Or.inl rfl)) pgs_nil))) (psx_cons (psy_if (PW.pt (pw_or (pt_cmpR (op_neDp (n := 8) (hd_of hr)) (pe_ix ix_tupR (pv 14) pe_int (fun _ _ => rfl)) (pe_tup (pa_c pe_str (pa_c (pe_op op_add (pv 13) pe_int) pa_nil))) (nomark _)) (pw_or1 (pt_cmpR op_gt (pe_callB call_len_seq rfl O.len PySem.boot_len (pa_c (pv 14) pa_nil)) (pv 7) (nomark _))))) (psx_one (psy_ret (PEx.mk pe_bl))) psx_nil)
      (psx_cons (psy_set (i := 15) sc_law.nd rfl (Or.inl rfl) (pex_if (PW.pt (pw_and (pt_cmpR op_gt (pv 13) pe_int (nomark _)) (pw_and1 (pt_cmpR (op_neDp (n := 8) (hd_of hr)) (pv 6) (pe_tup pa_nil) (nomark _))))) (PEx.mk pe_int) (PEx.mk pe_int)) rfl rfl)
      (psx_cons (psy_if (PW.pt (pw_and (pt_cmpR op_eq (pv 15) pe_int (nomark _)) (pw_and1 (pt_cmpR (op_neDp (n := 8) (hd_of hr)) (pe_ix ix_tupR (pv 14) pe_int (fun _ _ => rfl)) (pe_tup (pa_c pe_str (pa_c (pv 11) pa_nil))) (nomark _))))) (psx_one (psy_ret (PEx.mk pe_bl))) psx_nil)
      (psx_cons (psy_set (i := 16) sc_law.nd rfl (Or.inl rfl) (pex_op op_sub (PEx.mk (pe_callB call_len_seq rfl O.len PySem.boot_len (pa_c (pv 14) pa_nil))) (pex_if (PW.pt (pw_and (pt_cmpR op_lt (pe_op op_add (pv 13) pe_int) (pe_callB call_len_seq rfl O.len PySem.boot_len (pa_c (pv 9) pa_nil)) (nomark _)) (pw_and1 (pt_cmpR (op_neDp (n := 8) (hd_of hr)) (pv 6) (pe_tup pa_nil) (nomark _))))) (PEx.mk pe_int) (PEx.mk pe_int))) rfl rfl)
      (psx_cons (psy_for PassesOwn.never rfl (pi_tup (pe_slice sl_tupR (pv 14) (po_some (pv 15)) (po_some (pv 16)))) (pg_name (i := 17) sc_law.nd rfl (Or.inl rfl)) (psx_cons (PSy.mk (ps_expr (pe_bm PySem.F.plainAttrs_list PySem.F.slot_list_append PySem.F.type_list_append mt_append (pv 10) (pa_c (pv 17) pa_nil))))
      (psx_one (psy_if (pt_cmpR op_eq (pe_ix ix_tupR (pv 17) pe_int (fun _ _ => rfl)) pe_str (nomark _)) (psx_cons (psy_set (i := 11) sc_law.nd rfl (Or.inl rfl) (PEx.mk (D__law_plus.pe hr (by decide) rfl passE0 (pa_c (pv 11) (pa_c (pe_lcompF (NB := [".0", "_law_name"]) (FR := ["_law_columns", "_law_rows", "_law_seen"]) (fi := [4, 3, 12]) rfl ⟨rfl, by decide +kernel, by decide +kernel, by decide +kernel, by decide +kernel, by decide +kernel⟩ rfl rfl (pi_tup (pv 6)) (fun _ _ _ => (pg_name (i := 1) (show ([".0", "_law_name", "_law_columns", "_law_rows", "_law_seen"] : List Str).Nodup by decide +kernel) rfl (Or.inl rfl))) (fun _ _ _ => pts_nil) (fun _ _ _ => (pe_ix ix_tupR (pe_ix ix_tupR (pv 3) (pv 4) (fun _ _ => rfl)) (pe_bmK (K0 := K) rfl PySem.F.plainAttrs_tuple PySem.F.slot_tuple_index PySem.F.type_tuple_index mt_tindexR (pv 2) (pa_c (pv 1) pa_nil)) (fun _ _ => rfl)))) pa_nil)))) rfl rfl)
      (psx_one (psy_set (i := 12) sc_law.nd rfl (Or.inr rfl) (pex_op op_add (PEx.mk (pv 12)) (PEx.mk pe_int)) rfl rfl))) psx_nil))) (fun _ => rfl))
      (psx_one (psy_if (PW.pt (pw_and (pt_cmpR op_lt (pe_op op_add (pv 13) pe_int) (pe_callB call_len_seq rfl O.len PySem.boot_len (pa_c (pv 9) pa_nil)) (nomark _)) (pw_and1 (PW.pt (pw_or (pt_cmpR op_ne (pe_callB call_len_seq rfl O.len PySem.boot_len (pa_c (pv 14) pa_nil)) (pv 7) (nomark _)) (pw_or1 (PW.pt (pw_and (pt_cmpR (op_neDp (n := 8) (hd_of hr)) (pv 6) (pe_tup pa_nil) (nomark _)) (pw_and1 (pt_cmpR (op_neDp (n := 8) (hd_of hr)) (pe_ix ix_tupR (pv 14) (pe_un un_neg pe_int) (fun _ _ => rfl)) (pe_tup (pa_c pe_str (pa_c (pv 11) pa_nil))) (nomark _))))))))))) (psx_one (psy_ret (PEx.mk pe_bl))) psx_nil))))))) (fun _ => rfl))
      (psx_cons (psy_set (i := 18) sc_law.nd rfl (Or.inl rfl) (PEx.mk (D_breaks.pe hr (by decide) rfl passE0 (pa_c (pv 2) (pa_c (pv 3) pa_nil)))) rfl rfl)
      (psx_cons (psy_if (PW.pt (pw_or (pt_cmpR op_ne (pe_callB call_len_seq rfl O.len PySem.boot_len (pa_c (pv 18) pa_nil)) (pe_callB call_len_seq rfl O.len PySem.boot_len (pa_c (pv 10) pa_nil)) (nomark _)) (pw_or (pt_cmpR op_ne (pv 12) (pe_callB call_len_seq rfl O.len PySem.boot_len (pa_c (pv 3) pa_nil)) (nomark _)) (pw_or1 (pt_cmpR (op_neDp (n := 8) (hd_of hr)) (pe_ix ix_listR (pv 10) (pe_un un_neg pe_int) (fun _ _ => rfl)) (pe_tup (pa_c pe_str (pa_c (pv 11) pa_nil))) (nomark _)))))) (psx_one (psy_ret (PEx.mk pe_bl))) psx_nil)
      (psx_cons (psy_for PassesOwn.never rfl (pi_zipK .ls .tp rfl OZ (pa_c (pv 10) (pa_c (pv 18) pa_nil))) (pg_tup rfl (pgs_cons (pg_name (i := 17) sc_law.nd rfl (Or.inl rfl)) (pgs_cons (pg_name (i := 19) sc_law.nd rfl (Or.inl rfl)) pgs_nil))) (psx_cons (psy_if (PW.pt (pw_or (pt_cmpR op_ne (pe_ix ix_tupR (pv 17) pe_int (fun _ _ => rfl)) (pe_ix ix_tupR (pv 19) pe_int (fun _ _ => rfl)) (nomark _)) (pw_or1 (PW.pt (pw_and (pt_cmpR op_ne (pe_ix ix_tupR (pv 17) pe_int (fun _ _ => rfl)) pe_str (nomark _)) (pw_and1 (pt_cmpR (op_neDp (n := 8) (hd_of hr)) (pv 17) (pv 19) (nomark _)))))))) (psx_one (psy_ret (PEx.mk pe_bl))) psx_nil)
      (psx_one (psy_if (pt_cmpR op_eq (pe_ix ix_tupR (pv 17) pe_int (fun _ _ => rfl)) pe_str (nomark _)) (psx_one (psy_for PassesOwn.never rfl (pi_zip3 .tp .tp .tp rfl OZ (pa_c (pv 4) (pa_c (pe_ix ix_tupR (pv 17) pe_int (fun _ _ => rfl)) (pa_c (pe_ix ix_tupR (pv 19) pe_int (fun _ _ => rfl)) pa_nil))) rfl rfl rfl) (pg_tup rfl (pgs_cons (pg_name (i := 8) sc_law.nd rfl (Or.inl rfl)) (pgs_cons (pg_name (i := 20) sc_law.nd rfl (Or.inl rfl)) (pgs_cons (pg_name (i := 21) sc_law.nd rfl (Or.inl rfl)) pgs_nil)))) (psx_one (psy_if (PW.pt (pw_and (pt_cmpR (op_neDp (n := 8) (hd_of hr)) (pv 20) (pv 21) (nomark _)) (pw_and1 (PW.pt (pw_or (pt_cmp (pc_notN (pv 20))) (pw_or1 (pt_cmpR op_notInR (pv 8) (pv 5) (by with_unfolding_all rfl)))))))) (psx_one (psy_ret (PEx.mk pe_bl))) psx_nil)) (fun _ => rfl))) psx_nil))) (fun _ => rfl))
      (psx_one (psy_ret (PEx.mk pe_bl)))))))))))), ?_⟩
    refine ⟨rfl, fun t r H1 ht hr1 T1 S1 => ?_⟩
    have B1 : Bag K H1 a t r ns 0 := ⟨.inl (.inr ⟨oa, S1 _ _ hsc⟩), ⟨[], T1⟩, (fun z => by rw [← z, hsc] at ht; cases ht), (fun z => by rw [← z, hsc] at hr1; cases hr1), hln⟩
    refine ⟨_, rfl, _, rfl, a, t, r, ns, 0, rfl, B1, by omega, fun v H3 π rows c3 B3 hc3 A3 D3 Z hk hrl Y => ?_⟩
    obtain ⟨q, xs, rfl, gq, tq⟩ := Deep.tup' D3
    cases tq with
    | @cons pv _ _ _ Dp tq =>
    cases tq with
    | @cons rv _ _ _ DR tq =>
    cases tq
    refine ⟨q, _, rfl, .inl (.inl gq), rfl, _, _, rfl, _, _, rfl, rfl, ?_⟩
    clear B1 B3 D3 gq T1 S1
    have z6 := Z.sz
    have z2 := Z.lu
    have z3 : π.keys.length + π.sums.length = (π.keys ++ π.sums).length := (List.length_append ..).symm
    have hsl : (π.sums.map V.str).length = π.sums.length := List.length_map ..
    have YL := lnsOf_ok Y
    have rl := rowsIn_lns π rows
    have ll := lns_len hk (show rows.length ≤ 20 by omega)
    obtain ⟨ap, ac, ak, as, L⟩ := plan_at Dp
    obtain rfl := L.v
    refine ⟨_, rfl, ap, _, rfl, .inl (.inl L.a), rfl, _, _, rfl, _, _, rfl, _, _, rfl, _, _, rfl, rfl, ?_⟩
    try dsimp only [gName, tAsg, tSeq, tNext]
    refine par_cc3 ⟨_, rfl, _, rfl, .ref ap, rv, π, rows, rfl, Dp, Z, hk, DR, Y, by omega, fun u H4 S4 D4 => ?_⟩
    obtain ⟨R, xr, rfl, gR, tR⟩ := Deep.tup' D4
    have lxr := tR.length
    refine ⟨by show 0 ≤ sizeLine; omega, fun fo hfo => ?_⟩
    have B5 : LsSt H4 (upd H4 fo (.lst [])) fo [] [] := ⟨Same.new hfo, hfo, upd_same, .nil⟩
    generalize upd H4 fo (.lst []) = H5 at B5
    have L4 := L.same S4
    have Dp4 := Dp.same S4
    have DR4 := DR.same S4
    clear hfo D4 L Dp DR
    refine cb1 ?_
    have L5 := L4.same B5.S
    refine comp_deep (fixT (K := K) (a := as) (xs := π.sums.map V.str)) ((zeros π).map amtD) (by unfold zeros; simp) (fun R h => ⟨_, rfl, as, rfl, ⟨_, .inl (.inl L5.s)⟩, h _ (Same.refl _)⟩) (fun H1 S => .inl (.inl (S _ _ L5.s))) ?_ ?_ (by omega)
    · rintro jj v H13 H13' d R3 hd S13 ⟨rfl, hv⟩ kk
      refine ⟨by show 2 ≤ sizeLine; omega, fun p hp => kk _ _ (Same.new hp) ?_⟩
      have : d = amtD (0, 0) := by
        unfold zeros at hd
        rw [List.getElem?_map, List.getElem?_map] at hd
        cases e : π.sums[jj]? with
        | none => rw [e] at hd; cases hd
        | some y => rw [e] at hd; exact (Option.some.inj hd).symm
      rw [this]
      exact .tup upd_same (.cons .int (.cons .int .nil))
    rintro zs H13 p13 S13 t13 hp13
    have Sn := Same.new (o := .lst zs) hp13
    refine ⟨p13, zs, rfl, .inl ⟨.inl (.inl upd_same), fun l13 hl13 => ?_⟩⟩
    have D14 := deep_tup (t13.same Sn) hl13
    have S14 := (S13.trans Sn).trans (Same.new (o := .tup zs) hl13)
    generalize upd (upd H13 p13 (.lst zs)) l13 (.tup zs) = H14 at D14 S14
    have B14 := B5.same S14
    clear Sn S13 t13 hp13 hl13 L5 S14 B5
    refine ⟨_, _, _, rfl, ?_⟩
    have all : allPages π (lnsOf π rows) = pagesF π (lnsOf π rows).length 1 (zeros π) (lnsOf π rows) := rfl
    have tot := smN_total π rows
    have rws := rowsOf_lns π rows
    have dls := depth_lns π rows
    have lst : (lnsOf π rows)[(lnsOf π rows).length - 1]? = some (.oth "final" [amtsD (total π rows)]) := by unfold lnsOf; simp
    have lne : 1 ≤ (lnsOf π rows).length := by unfold lnsOf; simp
    have mdv := lnsOf_dv π rows
    have zok : SmOk π (lnsOf π rows) (zeros π) 20 := ⟨⟨0, by omega, zeros_ok π⟩, zeros_len π⟩
    generalize allPages π (lnsOf π rows) = A at tR lxr all
    generalize lnsOf π rows = ls at YL rl ll all tot rws dls lst lne mdv zok
    have G14 : PgAt π ls H4 H14 fo [] [] (.ref l13) 0 := ⟨B14, fun j d hj => (by simp at hj), rfl, D14⟩
    clear B14 D14
    have at0 : A.drop 0 = pagesF π ls.length (0 + 1) (smN π ls (zeros π) 0) (ls.drop 0) := by rw [List.drop_zero, List.drop_zero]; exact all
    clear all
    have Lb : ∀ {H' : Hp}, Same H4 H' → PlanAt H' (.ref ap) π ap ac ak as := fun S => L4.same S
    -- the pages
    refine ⟨_, rfl, R, rfl, ⟨_, .inl (.inl (G14.B.S _ _ gR))⟩, ?_⟩
    refine for_fix (fixN (k := .tp) (K := K) (a := R) (xs := xr)) (fun kp σ H6 => ∃ (i fu : Nat) (xf : List V) (acc : List Dv) (tv : V) (y13 y14 y15 y16 y17 : Option V), σ = st37 a t (.ref ap) rv ac ak as π.size none R fo tv (cnt ls i) y13 y14 y15 y16 y17 none none none none ∧ PgAt π ls H4 H6 fo xf acc tv i ∧ i ≤ ls.length ∧ (ls.drop i).length ≤ fu ∧ A.drop kp = pagesF π fu (kp + 1) (smN π ls (zeros π) i) (ls.drop i))
      ⟨0, ls.length, [], [], .ref l13, none, none, none, none, none, rfl, G14, Nat.zero_le _, by rw [List.drop_zero]; exact Nat.le_refl _, at0⟩ ?_ ?_ ?_
    · rintro kp σ H6 _ ⟨i, fu, xf, acc, tv, y13, y14, y15, y16, y17, rfl, G, _⟩
      exact .inl (.inl (G.B.S _ _ gR))
    · rintro kp x σ H6 H7 hkp ⟨i, fu, xf, acc, tv, y13, y14, y15, y16, y17, rfl, G, hi, hfu, hA⟩ ⟨p, x, hp, rfl, hx, rfl⟩
      obtain ⟨d, hd, Dx⟩ := tR.getX hx
      have G7 := G.same (Same.new (o := .tup [.int ((kp : Nat) : Int), x]) hp)
      refine ⟨p, _, rfl, .inl (.inl upd_same), rfl, _, _, rfl, _, _, rfl, rfl, ?_⟩
      generalize upd H6 p (.tup [.int ((kp : Nat) : Int), x]) = H7 at G7
      clear G hp
      have ldr : (ls.drop i).length = ls.length - i := List.length_drop ..
      have hkA : kp < A.length := by omega
      have hA0 : A.drop kp = d :: A.drop (kp + 1) := by
        rw [List.drop_eq_getElem_cons hkA]
        congr 1
        exact (List.getElem?_eq_some_iff.mp hd).2
      have hne : ls.drop i ≠ [] := fun e => by rw [e, pagesF_nil, hA0] at hA; cases hA
      obtain ⟨fu', rfl⟩ : ∃ fu', fu = fu' + 1 := by
        cases fu with
        | zero => exact absurd (List.eq_nil_of_length_eq_zero (by omega)) hne
        | succ f => exact ⟨f, rfl⟩
      rw [pagesF_cons hne, hA0] at hA
      obtain ⟨m1, m2⟩ := onPage_pos z6 (n := kp + 1) (l := smN π ls (zeros π) i) hne
      have hd1 : d = pageD π (kp + 1) (smN π ls (zeros π) i) (ls.drop i) := (List.cons.inj hA).1
      have hA2 := (List.cons.inj hA).2
      have pg : pageD π (kp + 1) (smN π ls (zeros π) i) (ls.drop i) = .tup (topL π (kp + 1) (smN π ls (zeros π) i) ++ shN π (ls.drop i) (onPage π (kp + 1) (smN π ls (zeros π) i) (ls.drop i)) ++ botL π (decide (onPage π (kp + 1) (smN π ls (zeros π) i) (ls.drop i) = (ls.drop i).length)) (smN π (ls.drop i) (smN π ls (zeros π) i) (onPage π (kp + 1) (smN π ls (zeros π) i) (ls.drop i)))) := rfl
      have tl := topL_len π (kp + 1) (smN π ls (zeros π) i)
      obtain ⟨q1, q2, q3⟩ := page_len z6 (n := kp + 1) (l := smN π ls (zeros π) i) (L := ls.drop i) (q := smN π (ls.drop i) (smN π ls (zeros π) i) (onPage π (kp + 1) (smN π ls (zeros π) i) (ls.drop i))) rfl
      rw [hd1, pg] at Dx
      generalize onPage π (kp + 1) (smN π ls (zeros π) i) (ls.drop i) = m at m1 m2 hA2 pg q1 q2 q3 Dx
      rw [smN_add] at Dx q1 q2 q3 hA2
      obtain ⟨pa, px, rfl, gp, tp⟩ := Deep.tup' Dx
      have lpx := tp.length
      -- are there more pages?
      have more : kp + 1 < A.length ↔ m ≠ (ls.drop i).length := by
        have l1 : A.length - (kp + 1) = (pagesF π fu' (kp + 1 + 1) (smN π ls (zeros π) (i + m)) ((ls.drop i).drop m)).length := by rw [← hA2, List.length_drop]
        constructor
        · intro h e
          rw [e, List.drop_eq_nil_of_le (Nat.le_refl _), pagesF_nil] at l1
          simp at l1
          omega
        · intro h
          have hn2 : (ls.drop i).drop m ≠ [] := fun e => by
            have := congrArg List.length e
            rw [List.length_drop] at this
            simp at this
            omega
          have hf2 : 1 ≤ fu' := by omega
          obtain ⟨f2, rfl⟩ : ∃ f2, fu' = f2 + 1 := ⟨fu' - 1, by omega⟩
          rw [pagesF_cons hn2, List.length_cons] at l1
          omega
      have top0 : (topL π (kp + 1) (smN π ls (zeros π) i) ++ shN π (ls.drop i) m ++ botL π (decide (m = (ls.drop i).length)) (smN π ls (zeros π) (i + m)))[0]? = some (headD (kp + 1)) := by unfold topL; rfl
      obtain ⟨hv, hhv, Dhv⟩ := tp.get top0
      have gp7 := G7.B.S _ _ gp
      have cut1 : (topL π (kp + 1) (smN π ls (zeros π) i)).length = if (kp + 1 = 1 ∨ π.sums = []) then 1 else 2 := by
        unfold topL
        split <;> rfl
      -- the head
      dsimp only [gName, tAsg, tSeq, tNext]
      refine ⟨_, rfl, pa, px, 0, hv, rfl, rfl, .inl gp7, atI_nat (j := 0) hhv, _, rfl, _, _, rfl, rfl, by show 2 ≤ sizeLine; omega, fun p8 hp8 => ?_⟩
      have S8 := Same.new (o := .tup [.str "head", .int ((kp : Nat) + 1)]) hp8
      have G8 := G7.same S8
      refine eq_no (d := headD (kp + 1)) ((Dhv.same G7.B.S).same S8) (.tup upd_same (.cons .str (.cons .int .nil))) (Nat.le_trans (depth_pair (n := 0) (by simp [Dv.depth])) (by decide)) (iteF ?_)
      generalize upd H7 p8 (.tup [.str "head", .int ((kp : Nat) + 1)]) = H8 at G8
      clear G7 gp7 hp8
      refine ⟨_, rfl, pa, px, rfl, .inr (.inl (.inl (G8.B.S _ _ gp))), _, rfl, _, _, rfl, rfl, false, ?_, iteF ?_⟩
      · show V.bl (decide (((px.length : Nat) : Int) > π.size)) = _
        rw [decide_eq_false (by omega)]
      -- how many lines are ahead
      dsimp only [gName, tAsg, tSeq, tNext]
      refine ejoin (fun v H9 => v = .int ((topL π (kp + 1) (smN π ls (zeros π) i)).length : Nat) ∧ Same H8 H9) ?_ (fun rest => ?_)
      rotate_left
      · refine ⟨_, rfl, _, _, rfl, rfl, _, rfl, ?_⟩
        refine ifB (fun z => ?_) (fun z => ?_)
        · have z := of_decide_eq_true z
          refine ⟨_, rfl, ?_⟩
          refine ne_none (Lb G8.B.S).ds fun H9 b9 S9 hb9 => ?_
          refine ifB (fun y => ?_) (fun y => ?_)
          · exact rest _ _ ⟨by rw [cut1, if_neg (fun e => e.elim (fun e => by omega) (hb9.mp y))]; rfl, S9⟩
          · exact rest _ _ ⟨by rw [cut1, if_pos (.inr (Classical.not_not.mp fun e => by rw [hb9.mpr e] at y; cases y))]; rfl, S9⟩
        · have z := of_decide_eq_false z
          exact rest _ _ ⟨by rw [cut1, if_pos (.inl (by omega))]; rfl, Same.refl _⟩
      rintro v9 H9 ⟨rfl, S9⟩
      have G9 := G8.same S9
      clear G8
      try dsimp only [gName]
      -- what is brought
      refine sjoin (fun σ' H10 => σ' = st37 a t (.ref ap) rv ac ak as π.size none R fo tv (cnt ls i) (some (.int (kp : Nat))) (some (.ref pa)) (some (.int ((topL π (kp + 1) (smN π ls (zeros π) i)).length : Nat))) y16 y17 none none none none ∧ Same H9 H10) ?_ (fun rest => ?_)
      rotate_left
      · refine ⟨_, rfl, rfl, _, rfl, ?_⟩
        refine ifB (fun z => ?_) (fun z => ?_)
        rotate_left
        · exact rest _ _ ⟨rfl, Same.refl _⟩
        have z := of_decide_eq_true z
        have h2 : (topL π (kp + 1) (smN π ls (zeros π) i)).length = 2 := by injection z with z; omega
        have top1 : (topL π (kp + 1) (smN π ls (zeros π) i) ++ shN π (ls.drop i) m ++ botL π (decide (m = (ls.drop i).length)) (smN π ls (zeros π) (i + m)))[1]? = some (broughtD (smN π ls (zeros π) i)) := by
          unfold topL at h2 ⊢
          split
          · rename_i e; rw [if_pos e] at h2; cases h2
          · rfl
        obtain ⟨bv, hbv, Dbv⟩ := tp.get top1
        refine ⟨_, rfl, pa, px, 1, bv, rfl, rfl, .inl (G9.B.S _ _ gp), atI_nat (j := 1) hbv, _, rfl, by show 2 ≤ sizeLine; omega, fun p10 hp10 => ?_⟩
        have S10 := Same.new (o := .tup [.str "brought", tv]) hp10
        exact eq_no (d := broughtD (smN π ls (zeros π) i)) ((Dbv.same G9.B.S).same S10) (.tup upd_same (.cons .str (.cons (G9.T.same S10) .nil))) depth8 (iteF (rest _ _ ⟨rfl, S10⟩))
      rintro σ10 H10 ⟨rfl, S10⟩
      have G10 := G9.same S10
      clear G9
      dsimp only [gName, tAsg, tSeq, tNext]
      -- where the lines end
      refine ejoin (fun v H11 => v = .int (((topL π (kp + 1) (smN π ls (zeros π) i)).length + m : Nat)) ∧ Same H10 H11) ?_ (fun rest => ?_)
      rotate_left
      · refine ⟨_, rfl, pa, px, rfl, .inr (.inl (.inl (G10.B.S _ _ gp))), _, rfl, _, _, rfl, rfl, _, rfl, R, xr, rfl, .inr (.inl (.inl (G10.B.S _ _ gR))), _, _, rfl, rfl, _, rfl, ?_⟩
        have lpq : px.length = (topL π (kp + 1) (smN π ls (zeros π) i)).length + m + (if m = (ls.drop i).length ∨ π.sums = [] then 0 else 1) := by rw [lpx, q3]
        refine ifB (fun z => ?_) (fun z => ?_)
        · have z := of_decide_eq_true z
          have hm : m ≠ (ls.drop i).length := more.mp (by omega)
          refine ⟨_, rfl, ?_⟩
          refine ne_none (Lb G10.B.S).ds fun H11 b11 S11 hb11 => ?_
          refine ifB (fun y => ?_) (fun y => ?_)
          · rw [if_neg (fun e => e.elim hm (hb11.mp y))] at lpq
            exact ⟨_, _, rfl, rfl, rest _ _ ⟨congrArg V.int (by rw [lpq]; omega), S11⟩⟩
          · rw [if_pos (.inr (Classical.not_not.mp fun e => by rw [hb11.mpr e] at y; cases y))] at lpq
            exact ⟨_, _, rfl, rfl, rest _ _ ⟨congrArg V.int (by rw [lpq]; omega), S11⟩⟩
        · have z := of_decide_eq_false z
          have hm : m = (ls.drop i).length := Classical.not_not.mp fun e => z (by have := more.mpr e; omega)
          rw [if_pos (.inl hm)] at lpq
          exact ⟨_, _, rfl, rfl, rest _ _ ⟨congrArg V.int (by rw [lpq]; omega), Same.refl _⟩⟩
      rintro v11 H11 ⟨rfl, S11⟩
      have G11 := G10.same S11
      clear G10
      try dsimp only [gName]
      -- the lines
      refine ⟨_, rfl, _, rfl, _, rfl, _, rfl, _, rfl, ?_⟩
      refine cut_D (G11.B.S _ _ gp) (tp.same G11.B.S) (by rw [lpx, q3]; omega) fun u12 H12 S12 D12 => ?_
      have ecut : ((topL π (kp + 1) (smN π ls (zeros π) i) ++ shN π (ls.drop i) m ++ botL π (decide (m = (ls.drop i).length)) (smN π ls (zeros π) (i + m))).take ((topL π (kp + 1) (smN π ls (zeros π) i)).length + m)).drop (topL π (kp + 1) (smN π ls (zeros π) i)).length = shN π (ls.drop i) m := by
        rw [List.take_left' (by rw [List.length_append, shN_len]), List.drop_left' rfl]
      rw [ecut] at D12
      obtain ⟨b, bx, rfl, gb, tb⟩ := Deep.tup' D12
      have lbx := tb.length
      rw [shN_len] at lbx
      have G12 := G11.same S12
      clear G11 D12
      refine ⟨b, rfl, ⟨_, .inl (.inl gb)⟩, ?_⟩
      refine for_fix (fixT (K := K) (a := b) (xs := bx)) (fun j σ H13 => ∃ (xf : List V) (acc : List Dv) (tv : V) (y17 : Option V), σ = st37 a t (.ref ap) rv ac ak as π.size none R fo tv (cnt ls (i + j)) (some (.int (kp : Nat))) (some (.ref pa)) (some (.int ((topL π (kp + 1) (smN π ls (zeros π) i)).length : Nat))) (some (.int (((topL π (kp + 1) (smN π ls (zeros π) i)).length + m : Nat)))) y17 none none none none ∧ PgAt π ls H4 H13 fo xf acc tv (i + j) ∧ H13 b = some (.tup bx) ∧ Deeps H13 bx (shN π (ls.drop i) m)) ⟨xf, acc, tv, y17, rfl, G12, gb, tb⟩ ?_ ?_ ?_
      · rintro j σ H13 _ ⟨xf, acc, tv, y17, rfl, _, g13, _⟩
        exact .inl (.inl g13)
      · rintro j x σ H130 H13 hj ⟨xf, acc, tv, y17, rfl, G13, g13, t13⟩ ⟨rfl, hx13⟩
        obtain ⟨d, hd13, D13⟩ := t13.getX hx13
        rw [shN_at π (ls.drop i) m j (by omega), drop_at] at hd13
        obtain rfl := Option.some.inj hd13
        have hij : i + j < ls.length := by omega
        have okx := YL _ (getD_mem hij)
        have lxf := G13.B.t.length
        have lac := G13.la
        dsimp only [gName, tAsg, tSeq, tNext]
        refine ⟨_, rfl, .inl ⟨rfl, _, .inl (.inl G13.B.g)⟩, ?_⟩
        refine ⟨_, rfl, fo, xf, x, rfl, rfl, G13.B.g, by omega, ?_⟩
        have nb : b ≠ fo := fun z => by rw [z, G13.B.g] at g13; cases g13
        have B14 := G13.B.snoc D13
        have F14 := G13.F.snoc (prevRow (ls.drop i) j)
        rw [lac] at F14
        have T14 := G13.T.updL (o' := .lst (xf ++ [x])) G13.B.g (fun zs z => nomatch z)
        have D14 := D13.updL (o' := .lst (xf ++ [x])) G13.B.g (fun zs z => nomatch z)
        have t14 := t13.updL (o' := .lst (xf ++ [x])) G13.B.g (fun zs z => nomatch z)
        have g14 : upd H13 fo (.lst (xf ++ [x])) b = some (.tup bx) := by rw [upd_ne nb]; exact g13
        generalize upd H13 fo (.lst (xf ++ [x])) = H14 at B14 T14 D14 t14 g14
        clear G13 g13 t13 D13
        obtain ⟨kds, ekey⟩ := shown_key π (prevRow (ls.drop i) j) (ls.getD (i + j) dfl)
        have D14k := D14
        rw [ekey] at D14k
        obtain ⟨xa, xxs, rfl, gx, tx⟩ := Deep.tup' D14k
        obtain ⟨xys, rfl⟩ : ∃ xys, xxs = .str (ls.getD (i + j) dfl).key :: xys := by
          cases tx with
          | cons h t => obtain rfl := h.str'; exact ⟨_, rfl⟩
        refine ⟨_, rfl, xa, _, 0, _, rfl, rfl, .inl gx, atI_nat (j := 0) rfl, rfl, _, rfl, ?_⟩
        rw [Ln.key_row okx]
        have ecnt := cnt_succ hij
        refine ifB (fun z => ?_) (fun z => ?_)
        rotate_left
        · rw [z, if_neg (by decide), Nat.add_zero] at ecnt
          refine ⟨xf ++ [.ref xa], _, tv, _, (by rw [show i + (j + 1) = i + j + 1 by omega, ecnt]; all_goals rfl), ⟨B14, F14, by rw [List.length_append, List.length_singleton]; omega, ?_⟩, g14, t14⟩
          rw [show i + (j + 1) = i + j + 1 by omega, smN]
          cases er : ls.getD (i + j) dfl with
          | row r => rw [er] at z; cases z
          | oth k2 ds => exact T14
        rw [z, if_pos rfl] at ecnt
        cases er : ls.getD (i + j) dfl with
        | oth k2 ds => rw [er] at z; cases z
        | row rw_ =>
          have okr : RowOk π rw_ := by rw [er] at okx; exact okx
          have hrow := cnt_row ls (i + j) rw_ hij er
          rw [rws] at hrow
          have DRb := DR4.same B14.S
          obtain ⟨Rr, rx, rfl, gRr, tRr⟩ := Deep.tup' DRb
          obtain ⟨rowv, hrowv, Drow⟩ := tRr.get (i := cnt ls (i + j)) (d := rowD rw_) (by rw [List.getElem?_map, hrow]; rfl)
          obtain ⟨rr, cx, rfl, grr, trr⟩ := Deep.tup' Drow
          have L14 := Lb B14.S
          obtain ⟨⟨cn, hc1, hc2⟩, hc3⟩ := smN_ok Z YL zok (i + j) (by omega)
          refine call_vc ⟨_, rfl, tCompF_of ?_⟩
          refine ⟨_, rfl, as, rfl, ⟨_, .inl (.inl L14.s)⟩, ?_⟩
          have lsp : (sps π).length = π.sums.length := by unfold sps spots; rw [List.length_map]
          refine compF_deep (fv := [.ref ac, .ref Rr, .int (cnt ls (i + j) : Nat)]) (fixT (K := K) (a := as) (xs := π.sums.map V.str)) (((sps π).map (cellA rw_)).map amtD) (by rw [List.length_map, List.length_map, List.length_map, lsp]) (fun R h => h _ (Same.refl _)) rfl (fun H1 S => .inl (.inl (S _ _ L14.s))) ?_ ?_ (by omega)
          · rintro ii v H17 H18 d R3 hd S17 ⟨rfl, hv⟩ kk
            obtain ⟨nm, hnm, rfl⟩ := str_at hv
            obtain ⟨c1, c2⟩ := spot_at (sum_in Z (List.mem_of_getElem? hnm))
            obtain ⟨uu, oo, hcell⟩ := okr.sm _ nm c1 (List.contains_iff_mem.mpr (List.mem_of_getElem? hnm))
            obtain ⟨cv, hcv, dcv⟩ := trr.get (i := spot π.cols nm) (d := (Cell.amt uu oo).dv) (by rw [List.getElem?_map, hcell]; rfl)
            refine ⟨rfl, _, rfl, _, rfl, Rr, rx, _, _, rfl, rfl, .inl (S17 _ _ gRr), atI_nat hrowv, _, rfl, (.inr (.inr (.inr (.inr ⟨rfl, _, S17 _ _ L14.c⟩)))), _, rfl, ac, π.cols, nm, _, rfl, rfl, .inl (S17 _ _ L14.c), c1, c2, rr, cx, _, _, rfl, rfl, .inl (S17 _ _ grr), atI_nat hcv, kk _ _ (Same.refl _) ?_⟩
            have : d = amtD (uu, oo) := by
              have es : (sps π)[ii]? = some (spot π.cols nm) := by unfold sps spots; rw [List.getElem?_map, hnm]; rfl
              rw [List.getElem?_map, List.getElem?_map, es] at hd
              have e4 : cellA rw_ (spot π.cols nm) = (uu, oo) := by unfold cellA; rw [hcell]
              rw [← (Option.some.inj hd)]
              show amtD (cellA rw_ (spot π.cols nm)) = _
              rw [e4]
            rw [this]
            exact dcv.same S17
          rintro ys H17 p17 S17 t17 hp17
          have S18 := Same.new (o := .lst ys) hp17
          obtain ⟨ua, ux, rfl, gu, tu⟩ := amts_at T14
          refine ⟨ua, p17, ux, ys, smN π ls (zeros π) (i + j), (sps π).map (cellA rw_), cn, rfl, (S17.trans S18) _ _ gu, tu.same (S17.trans S18), upd_same, t17.same S18, by rw [hc3, List.length_map, lsp], hc2, fun p hp => ?_, by omega, by rw [hc3]; omega, fun u2 H19 S19 D19 => ?_⟩
          · obtain ⟨i2, hi2, rfl⟩ := List.mem_map.mp hp
            exact cell_ok Z okr hi2
          rw [zip_w] at D19
          have S14 := (S17.trans S18).trans S19
          dsimp only [gName]
          refine ⟨_, rfl, _, _, rfl, rfl, ?_⟩
          refine ⟨xf ++ [.ref xa], acc ++ [shown1 π (prevRow (ls.drop i) j) (ls.getD (i + j) dfl)], u2, some (.ref xa), ?_, ⟨B14.same S14, F14, by rw [List.length_append, List.length_singleton]; omega, ?_⟩, S14 _ _ g14, t14.same S14⟩
          · rw [show i + (j + 1) = i + j + 1 by omega, ecnt]
            rfl
          · rw [show i + (j + 1) = i + j + 1 by omega, smN, er]
            exact D19
      rintro σ H13 ⟨xf, acc, tv, y17, rfl, G13, g13, t13⟩
      rw [show i + bx.length = i + m by omega] at G13
      -- a full page, and what is carried
      have next : ∀ H14, Same H13 H14 → ∃ (i' fu : Nat) (xf : List V) (acc : List Dv) (tv' : V) (y13 y14 y15 y16 y17' : Option V), st37 a t (.ref ap) rv ac ak as π.size none R fo tv (cnt ls (i + bx.length)) (some (.int (kp : Nat))) (some (.ref pa)) (some (.int ((topL π (kp + 1) (smN π ls (zeros π) i)).length : Nat))) (some (.int (((topL π (kp + 1) (smN π ls (zeros π) i)).length + m : Nat)))) y17 none none none none = st37 a t (.ref ap) rv ac ak as π.size none R fo tv' (cnt ls i') y13 y14 y15 y16 y17' none none none none ∧ PgAt π ls H4 H14 fo xf acc tv' i' ∧ i' ≤ ls.length ∧ (ls.drop i').length ≤ fu ∧ A.drop (kp + 1) = pagesF π fu (kp + 1 + 1) (smN π ls (zeros π) i') (ls.drop i') := fun H14 S14 => by
        refine ⟨i + m, fu', xf, acc, tv, _, _, _, _, _, by rw [show i + bx.length = i + m by omega], G13.same S14, by omega, by rw [List.length_drop]; omega, ?_⟩
        rw [List.drop_drop] at hA2
        exact hA2
      dsimp only [gName, tAsg, tSeq, tNext]
      refine ⟨_, rfl, _, _, rfl, rfl, _, rfl, R, xr, rfl, .inr (.inl (.inl (G13.B.S _ _ gR))), _, _, rfl, rfl, _, rfl, ?_⟩
      refine ifB (fun z => ?_) (fun z => ?_)
      rotate_left
      · exact next _ (Same.refl _)
      have z := of_decide_eq_true z
      have hm : m ≠ (ls.drop i).length := more.mp (by omega)
      have hq := q2 hm
      refine ⟨_, rfl, pa, px, rfl, .inr (.inl (.inl (G13.B.S _ _ gp))), _, rfl, rfl, false, ne_same (by omega), iteF ?_⟩
      refine ⟨_, rfl, ?_⟩
      refine ne_none (Lb G13.B.S).ds fun H14 b14 S14 hb14 => ?_
      have G14' := G13.same S14
      refine ifB (fun y => ?_) (fun y => ?_)
      rotate_left
      · exact next _ S14
      have hbo : botL π (decide (m = (ls.drop i).length)) (smN π ls (zeros π) (i + m)) = [carriedD (smN π ls (zeros π) (i + m))] := by
        unfold botL
        rw [if_neg (fun e => e.elim (fun e => hm (of_decide_eq_true e)) (hb14.mp y))]
      have hlast : (topL π (kp + 1) (smN π ls (zeros π) i) ++ shN π (ls.drop i) m ++ botL π (decide (m = (ls.drop i).length)) (smN π ls (zeros π) (i + m)))[px.length - 1]? = some (carriedD (smN π ls (zeros π) (i + m))) := by
        rw [lpx, hbo, List.length_append, List.length_singleton, Nat.add_sub_cancel, List.getElem?_append_right (Nat.le_refl _), Nat.sub_self]
        rfl
      obtain ⟨cv, hcv, Dcv⟩ := tp.get hlast
      refine ⟨_, rfl, _, rfl, pa, px, _, cv, rfl, rfl, .inl (G14'.B.S _ _ gp), atI_m1 hcv (by omega), _, rfl, by show 2 ≤ sizeLine; omega, fun p15 hp15 => ?_⟩
      have S15 := Same.new (o := .tup [.str "carried", tv]) hp15
      exact eq_no (d := carriedD (smN π ls (zeros π) (i + m))) ((Dcv.same G14'.B.S).same S15) (.tup upd_same (.cons .str (.cons (G14'.T.same S15) .nil))) depth8 (iteF (next _ (S14.trans S15)))
    · rintro σ H6 ⟨i, fu, xf, acc, tv, y13, y14, y15, y16, y17, rfl, G, hi, hfu, hA⟩
      have hend : ls.drop i = [] := Classical.not_not.mp fun hne => by
        have hf : 1 ≤ fu := by
          cases fu with
          | zero => exact absurd (List.eq_nil_of_length_eq_zero (by omega)) hne
          | succ f => omega
        obtain ⟨f2, rfl⟩ : ∃ f2, fu = f2 + 1 := ⟨fu - 1, by omega⟩
        rw [pagesF_cons hne, lxr, List.drop_length] at hA
        cases hA
      have hil : i = ls.length := by
        have := congrArg List.length hend
        rw [List.length_drop] at this
        simp at this
        omega
      subst hil
      rw [cnt_all, rl]
      have TT := G.T
      rw [tot] at TT
      dsimp only [gName, tAsg, tSeq, tNext]
      refine ⟨_, rfl, _, rfl, .ref ap, rv, π, rows, rfl, Dp4.same G.B.S, Z, hk, DR4.same G.B.S, Y, by omega, fun u7 H7 S7 D7 => ?_⟩
      rw [← mdv] at D7
      obtain ⟨lr, lx, rfl, gl, tl⟩ := Deep.tup' D7
      have llx := tl.length
      rw [List.length_map] at llx
      have G7 := G.same S7
      have TT7 := TT.same S7
      clear G TT D7
      have lxf := G7.B.t.length
      have lac := G7.la
      obtain ⟨Rr, rx, rfl, gRr, tRr⟩ := Deep.tup' (DR4.same G7.B.S)
      have lrx := tRr.length
      rw [List.length_map] at lrx
      refine ⟨_, rfl, lr, lx, rfl, .inr (.inl (.inl gl)), _, rfl, fo, xf, rfl, .inl (.inl (.inl G7.B.g)), rfl, false, ne_same (by omega), iteF ?_⟩
      refine ⟨_, rfl, _, rfl, Rr, rx, rfl, .inr (.inl (.inl gRr)), rfl, false, ne_same (by omega), iteF ?_⟩
      obtain ⟨fx, hfx⟩ : ∃ fx, xf[ls.length - 1]? = some fx := ⟨_, List.getElem?_eq_getElem (by omega)⟩
      obtain ⟨fd2, hfd, Dfx⟩ := G7.B.t.getX hfx
      obtain ⟨bb, rfl⟩ := G7.F _ _ hfd
      have elast : ls.getD (ls.length - 1) dfl = .oth "final" [amtsD (total π rows)] := by rw [List.getD_eq_getElem?_getD, lst]; rfl
      rw [elast] at Dfx
      refine ⟨_, rfl, _, rfl, fo, xf, _, fx, rfl, rfl, .inl G7.B.g, atI_m1 hfx (by omega), _, rfl, by show 2 ≤ sizeLine; omega, fun p8 hp8 => ?_⟩
      have S8 := Same.new (o := .tup [.str "final", tv]) hp8
      refine eq_no (d := .tup [.str "final", amtsD (total π rows)]) (Dfx.same S8) (.tup upd_same (.cons .str (.cons (TT7.same S8) .nil))) depth8 (iteF ?_)
      have G8 := G7.same S8
      have gl8 := S8 _ _ gl
      have tl8 := tl.same S8
      have rvs : ∀ (y : V), y = .ref Rr → y = .ref Rr := fun _ h => h
      generalize upd H7 p8 (.tup [.str "final", tv]) = H8 at G8 gl8 tl8
      clear G7 TT7 Dfx S8 hp8 gl tl
      -- line by line
      dsimp only [gName, tAsg, tSeq, tNext]
      refine ⟨_, rfl, _, rfl, fo, lr, rfl, ⟨_, .inl G8.B.g⟩, ⟨_, .inl gl8⟩, ?_⟩
      refine for_fix (fixZ (k1 := .ls) (k2 := .tp) (a1 := fo) (a2 := lr) (xs := xf) (ys := lx)) (fun j σ H9 => ∃ (y8 y17 y19 y20 y21 : Option V), σ = st37 a t (.ref ap) (.ref Rr) ac ak as π.size y8 R fo tv rows.length y13 y14 y15 y16 y17 (some (.ref lr)) y19 y20 y21 ∧ Same H8 H9) ⟨none, y17, none, none, none, rfl, Same.refl _⟩ ?_ ?_ ?_
      · rintro j σ H9 _ ⟨y8, y17, y19, y20, y21, rfl, S9⟩
        exact ⟨.inl (S9 _ _ G8.B.g), .inl (S9 _ _ gl8)⟩
      · rintro j u σ H9 H10 hj ⟨y8, y17, y19, y20, y21, rfl, S9⟩ ⟨p, x, y, hp, rfl, hx, hy, rfl⟩
        obtain ⟨dx, hdx, Dx⟩ := G8.B.t.getX hx
        obtain ⟨b, rfl⟩ := G8.F _ _ hdx
        obtain ⟨hjl, Dy⟩ := lns_get tl8 hy
        have okx := YL _ (getD_mem hjl)
        have dpx := depth_shown (π := π) (b := b) (dls _ (getD_mem hjl))
        have S10 := S9.trans (Same.new (o := .tup [x, y]) hp)
        refine ⟨p, _, rfl, .inl (.inl upd_same), rfl, _, _, rfl, _, _, rfl, rfl, ?_⟩
        generalize upd H9 p (.tup [x, y]) = H10 at S10
        clear hp S9
        have Dx10 := Dx.same S10
        have Dy10 := Dy.same S10
        obtain ⟨kds, ekey⟩ := shown_key π b (ls.getD j dfl)
        have Dxk := Dx10
        rw [ekey] at Dxk
        obtain ⟨xa, xxs, rfl, gx, tx⟩ := Deep.tup' Dxk
        obtain ⟨xys, rfl⟩ : ∃ xys, xxs = .str (ls.getD j dfl).key :: xys := by
          cases tx with
          | cons h t => obtain rfl := h.str'; exact ⟨_, rfl⟩
        obtain ⟨ya, yys, rfl, gy, ty⟩ := ln_at Dy10
        dsimp only [gName, tAsg, tNext]
        refine seqJ (fun σ' H11 => σ' = st37 a t (.ref ap) (.ref Rr) ac ak as π.size y8 R fo tv rows.length y13 y14 y15 y16 (some (.ref xa)) (some (.ref lr)) (some (.ref ya)) y20 y21 ∧ Same H10 H11) ?_ (fun rest => ?_)
        rotate_left
        · refine ⟨_, rfl, xa, _, 0, _, rfl, rfl, .inl gx, atI_nat (j := 0) rfl, _, rfl, ya, _, 0, _, rfl, rfl, .inl gy, atI_nat (j := 0) rfl, rfl, false, ne_sameS rfl, iteF ?_⟩
          refine ⟨_, rfl, xa, _, 0, _, rfl, rfl, .inl gx, atI_nat (j := 0) rfl, rfl, _, rfl, ?_⟩
          refine ifB (fun z => ?_) (fun z => ?_)
          · have nrow : (ls.getD j dfl).isRow = false := by
              rw [Ln.key_row okx] at z
              cases e : (ls.getD j dfl).isRow with
              | false => rfl
              | true => rw [e] at z; cases z
            refine ⟨_, rfl, _, rfl, eq_no Dx10 ?_ dpx (iteF (rest _ _ ⟨rfl, Same.refl _⟩))⟩
            cases er : ls.getD j dfl with
            | row r => rw [er] at nrow; cases nrow
            | oth k2 ds => rw [er] at Dy10; exact Dy10
          · exact rest _ _ ⟨rfl, Same.refl _⟩
        rintro σ11 H11 ⟨rfl, S11⟩
        have gx11 := S11 _ _ gx
        have gy11 := S11 _ _ gy
        try dsimp only [gName, tAsg, tSeq, tNext]
        refine ⟨_, rfl, xa, _, 0, _, rfl, rfl, .inl gx11, atI_nat (j := 0) rfl, rfl, _, rfl, ?_⟩
        rw [Ln.key_row okx]
        refine ifB (fun z => ?_) (fun z => ?_)
        rotate_left
        · exact ⟨_, _, _, _, _, rfl, S10.trans S11⟩
        cases er : ls.getD j dfl with
        | oth k2 ds => rw [er] at z; cases z
        | row r =>
          rw [er] at okx ty gy11 gx11
          have okr : RowOk π r := okx
          obtain ⟨w2, rfl, Dw2⟩ := row_ln ty
          obtain ⟨ds1, w1, e1, hw1, Dw1⟩ : ∃ (ds1 : List Dv) (w1 : V), xys = [w1] ∧ (ds1 = hideD π r ∨ ds1 = r.map Cell.dv) ∧ Deep H10 w1 (.tup ds1) := by
            rw [er] at Dx10
            cases b with
            | true =>
              obtain ⟨a1, x1, e1, g1, t1⟩ := Deep.tup' (show Deep H10 (.ref xa) (.tup [.str "row", .tup (hideD π r)]) from Dx10)
              cases e1
              rw [gx] at g1
              cases g1
              cases t1 with
              | cons p1 t1 => cases t1 with
                | cons p2 t1 => cases t1; exact ⟨_, _, rfl, .inl rfl, p2⟩
            | false =>
              obtain ⟨a1, x1, e1, g1, t1⟩ := Deep.tup' (show Deep H10 (.ref xa) (.tup [.str "row", .tup (r.map Cell.dv)]) from Dx10)
              cases e1
              rw [gx] at g1
              cases g1
              cases t1 with
              | cons p1 t1 => cases t1 with
                | cons p2 t1 => cases t1; exact ⟨_, _, rfl, .inr rfl, p2⟩
          subst e1
          obtain ⟨c1, cx1, rfl, gc1, tc1⟩ := Deep.tup' Dw1
          obtain ⟨c2, cx2, rfl, gc2, tc2⟩ := Deep.tup' Dw2
          have l1 : cx1.length = π.cols.length := by
            rw [tc1.length]
            rcases hw1 with rfl | rfl
            · exact hide_len okr
            · rw [List.length_map]; exact okr.len
          have l2 : cx2.length = π.cols.length := by rw [tc2.length, List.length_map]; exact okr.len
          have hlc : (π.cols.map V.str).length = π.cols.length := List.length_map ..
          have L11 := Lb ((G8.B.S.trans S10).trans S11)
          refine ⟨_, rfl, _, rfl, xa, _, 1, _, rfl, rfl, .inl gx11, rfl, _, rfl, ya, _, 1, _, rfl, rfl, .inl gy11, rfl, ac, c1, c2, rfl, ⟨_, .inl L11.c⟩, ⟨_, .inl (S11 _ _ gc1)⟩, ⟨_, .inl (S11 _ _ gc2)⟩, ?_⟩
          refine for_fix (fixZ3 (k1 := .tp) (k2 := .tp) (k3 := .tp) (a1 := ac) (a2 := c1) (a3 := c2) (xs := π.cols.map V.str) (ys := cx1) (zs := cx2) (by omega) (by omega)) (fun jj σ H12 => ∃ (y8 y20 y21 : Option V), σ = st37 a t (.ref ap) (.ref Rr) ac ak as π.size y8 R fo tv rows.length y13 y14 y15 y16 (some (.ref xa)) (some (.ref lr)) (some (.ref ya)) y20 y21 ∧ Same H11 H12) ⟨y8, y20, y21, rfl, Same.refl _⟩ ?_ ?_ ?_
          · rintro jj σ H12 _ ⟨y8, y20, y21, rfl, S12⟩
            exact ⟨.inl (S12 _ _ L11.c), .inl (S12 _ _ (S11 _ _ gc1)), .inl (S12 _ _ (S11 _ _ gc2))⟩
          · rintro jj u σ H12 H13 hjj ⟨y8, y20, y21, rfl, S12⟩ ⟨p3, x3, v1, v2, hp3, rfl, hx3, hv1, hv2, rfl⟩
            obtain ⟨nm, hnm, rfl⟩ := str_at hx3
            obtain ⟨d1, hd1, D1⟩ := tc1.getX hv1
            obtain ⟨d2, hd2, D2⟩ := tc2.getX hv2
            obtain ⟨c, hc, rfl⟩ := dv_at hd2
            have S13 := S12.trans (Same.new (o := .tup [.str nm, v1, v2]) hp3)
            refine ⟨p3, _, rfl, .inl (.inl upd_same), rfl, _, _, rfl, _, _, rfl, _, _, rfl, rfl, ?_⟩
            generalize upd H12 p3 (.tup [.str nm, v1, v2]) = H13 at S13
            have D1' := (D1.same S11).same S13
            have D2' := (D2.same S11).same S13
            have hcase : d1 = c.dv ∨ (d1 = .non ∧ π.keys.contains nm = true) := by
              rcases hw1 with rfl | rfl
              · have e := hide_at hnm hc hd1
                by_cases hk2 : π.keys.contains nm = true
                · rw [if_pos hk2] at e; exact .inr ⟨e, hk2⟩
                · rw [if_neg hk2] at e; exact .inl e
              · rw [hd2] at hd1; exact .inl (Option.some.inj hd1).symm
            have dc : c.dv.depth ≤ 8 := Nat.le_trans (depth_cell c) (by decide)
            dsimp only [gName, tAsg, tSeq, tNext]
            rcases hcase with rfl | ⟨rfl, hk2⟩
            · exact ⟨_, rfl, _, rfl, eq_no D1' D2' dc (iteF ⟨_, _, _, rfl, S13⟩)⟩
            · obtain rfl : v1 = .non := by cases D1; rfl
              refine ⟨_, rfl, _, rfl, .non, c.dv, .non, D2', by simp [Dv.depth], true, by cases c <;> rfl, iteT ?_⟩
              refine ⟨_, rfl, false, rfl, iteF ?_⟩
              refine ⟨_, rfl, _, rfl, ak, π.keys, nm, rfl, rfl, .inl (S13 _ _ L11.k), false, by rw [hk2]; rfl, iteF ⟨_, _, _, rfl, S13⟩⟩
          · rintro σ H12 ⟨y8, y20, y21, rfl, S12⟩
            exact ⟨_, _, _, _, _, rfl, (S10.trans S11).trans S12⟩
      · rintro σ H9 ⟨y8, y17, y19, y20, y21, rfl, S9⟩
        exact k _
end
end Lw

set_option Elab.async false
set_option linter.all false
set_option maxRecDepth 100000
/-! a loop over a dict's keys: the dict is known to its object while the loop walks it -/
namespace L2
open PySem PySem.Spec PyProof.Rows
section
variable {X : Cx} {pins : List (Addr × Obj)} {σ : List (Option V)} {H : Hp} {s : Shared}
end
section
variable {X : Cx} {tg : Expr}
end
end L2

set_option Elab.async false
set_option linter.all false
set_option maxRecDepth 100000
/-! a law without lambdas -/
namespace L2
open PySem PySem.Spec PyProof.Rows
theorem frz_of {K : PySem.W.Frag} {H : Hp} {a : Addr} {xs : List V} (nL : noLists K = true) (hO : Only H) (h : SqL K H a xs) : ∃ o, H a = some (.frz o (.lst xs)) := by
  rcases h with h | ⟨o, its, n, hk, hc, _⟩
  · rcases h with h | ⟨o, h⟩
    · rcases hO a with z | ⟨o, ys, z⟩
      · rw [z] at h; cases h
      · rw [z] at h; cases h
    · exact ⟨o, h⟩
  · exact absurd hc (noLists_at nL hk)
theorem walk_ofN {l : PySem.W.OpenLaw} {n k : Nat} {q : Program} {loose : List Str} {XP : (Str → Option Value) → Heap → Prop} {YP : World → Heap → Prop} {d : DefRec} {K : Params → PySem.W.Frag} {CX : World → CXT} {sp : World → Sp} {x : Str}
    (hn : l.most = some n) (hn2 : n ≤ sizeLine) (hdf : d.params.defaults = []) (hr : Room k callerA) (hY : ∀ (w : World) (h : Heap), YP w h → (K w.params).In h) (nL : ∀ w : World, noLists (K w.params) = true)
    (F : ∀ (w : World) (mg : Str → Option Value) (fa : Addr) (h : Heap), (K w.params).In h → h.Ns mainGlobals mg → mg d.name = some (.ref fa) →
      ∃ fd : FuncData, (∀ (s : Shared) (u : Value), BindsTo s fd ⟨[u], []⟩ [(x, u)]) ∧ ∀ base : Heap, (K w.params).In base → base.Ns mainGlobals mg → FnOk l.prog w (K w.params) mg base (CX w) k fa fd [x] (sp w))
    (hsp : ∀ (w : World) (H : Hp) (a : Addr) (ns : List Int), ns.length ≤ n → (∃ o, H a = some (.frz o (.lst (ns.map V.int)))) → sp w [.ref a] H (fun v _ => v = .bl true) fun _ _ _ => False)
    (hCX : ∀ (w : World) (H : Hp) (s : Shared) (e : Value) (s' : Shared), CX w [] H s (fun _ _ _ => False) e s' → False) : PySem.W.WalkO q loose XP YP l.row.toRowW d [] (fun f vs => PySem.call f vs) :=
  walk_of hn hn2 hdf hr hY F (fun w H a ns h1 h2 h3 => hsp w H a ns h1 (frz_of (nL w) h2 h3)) hCX
end L2

set_option Elab.async false
set_option linter.all false
namespace L2
open PySem PySem.Spec PyProof.Rows
/-! defs of so many parameters, each given -/
section
variable {P : Program} {w : World} {K : PySem.W.Frag} {mg : Str → Option Value} {base h : Heap} {x : Str} {st : Stmt} {k : Nat} {sp : Sp} {p1 p2 p3 p4 : Str}
theorem DefAt.d0 (D : DefAt K x st) (X : K.In h) (G : h.Ns mainGlobals mg) (hok : ∀ f fd, Fun K x x st f fd → FnOk P w K mg base (CXE P w) k f fd [] sp)
    (hb : ∀ (kV doc pm : Value) (an : Option Addr) (cdv ct : Value) , bindArgs (PySem.W.fnOf x x (defArgs st) (defBody st) (defScope st) .none kV doc pm an cdv ct) ⟨[], []⟩ = pure []) : Def P w K mg base k x [] sp :=
  D.def X G hok fun kV doc pm an cdv ct us hl => match us, hl with | [], _ => hb kV doc pm an cdv ct 
theorem DefAt.d1 (D : DefAt K x st) (X : K.In h) (G : h.Ns mainGlobals mg) (hok : ∀ f fd, Fun K x x st f fd → FnOk P w K mg base (CXE P w) k f fd [p1] sp)
    (hb : ∀ (kV doc pm : Value) (an : Option Addr) (cdv ct : Value) (u1 : Value), bindArgs (PySem.W.fnOf x x (defArgs st) (defBody st) (defScope st) .none kV doc pm an cdv ct) ⟨[u1], []⟩ = pure [(p1, u1)]) : Def P w K mg base k x [p1] sp :=
  D.def X G hok fun kV doc pm an cdv ct us hl => match us, hl with | [u1], _ => hb kV doc pm an cdv ct u1
theorem DefAt.d2 (D : DefAt K x st) (X : K.In h) (G : h.Ns mainGlobals mg) (hok : ∀ f fd, Fun K x x st f fd → FnOk P w K mg base (CXE P w) k f fd [p1, p2] sp)
    (hb : ∀ (kV doc pm : Value) (an : Option Addr) (cdv ct : Value) (u1 u2 : Value), bindArgs (PySem.W.fnOf x x (defArgs st) (defBody st) (defScope st) .none kV doc pm an cdv ct) ⟨[u1, u2], []⟩ = pure [(p1, u1), (p2, u2)]) : Def P w K mg base k x [p1, p2] sp :=
  D.def X G hok fun kV doc pm an cdv ct us hl => match us, hl with | [u1, u2], _ => hb kV doc pm an cdv ct u1 u2
theorem DefAt.d3 (D : DefAt K x st) (X : K.In h) (G : h.Ns mainGlobals mg) (hok : ∀ f fd, Fun K x x st f fd → FnOk P w K mg base (CXE P w) k f fd [p1, p2, p3] sp)
    (hb : ∀ (kV doc pm : Value) (an : Option Addr) (cdv ct : Value) (u1 u2 u3 : Value), bindArgs (PySem.W.fnOf x x (defArgs st) (defBody st) (defScope st) .none kV doc pm an cdv ct) ⟨[u1, u2, u3], []⟩ = pure [(p1, u1), (p2, u2), (p3, u3)]) : Def P w K mg base k x [p1, p2, p3] sp :=
  D.def X G hok fun kV doc pm an cdv ct us hl => match us, hl with | [u1, u2, u3], _ => hb kV doc pm an cdv ct u1 u2 u3
theorem DefAt.d4 (D : DefAt K x st) (X : K.In h) (G : h.Ns mainGlobals mg) (hok : ∀ f fd, Fun K x x st f fd → FnOk P w K mg base (CXE P w) k f fd [p1, p2, p3, p4] sp)
    (hb : ∀ (kV doc pm : Value) (an : Option Addr) (cdv ct : Value) (u1 u2 u3 u4 : Value), bindArgs (PySem.W.fnOf x x (defArgs st) (defBody st) (defScope st) .none kV doc pm an cdv ct) ⟨[u1, u2, u3, u4], []⟩ = pure [(p1, u1), (p2, u2), (p3, u3), (p4, u4)]) : Def P w K mg base k x [p1, p2, p3, p4] sp :=
  D.def X G hok fun kV doc pm an cdv ct us hl => match us, hl with | [u1, u2, u3, u4], _ => hb kV doc pm an cdv ct u1 u2 u3 u4
end
end L2

set_option Elab.async false
set_option linter.all false
set_option maxRecDepth 100000
namespace L2
open PySem PySem.Spec PyProof.Rows
end L2
namespace Lw
open PySem PySem.Spec PyProof.Rows L2 K34
set_option maxHeartbeats 8000000 in
theorem all_mk {l : PySem.W.OpenLaw} {w : World} {K : PySem.W.Frag} {h : Heap} {mg : Str → Option Value} {ca : Value} {fa fl   : Addr} {oc kV doc pm ct : Value} {od an : Option Addr} {osl : Array (Option Value)} (X : K.In h) (G : h.Ns mainGlobals mg) (hfa : mg "law" = some (.ref fa))
    (d_ten_to : DefAt K "ten_to" s_ten_to)
    (d_quotient_cut : DefAt K "quotient_cut" s_quotient_cut)
    (d_cut : DefAt K "cut" s_cut)
    (d_lined_up : DefAt K "lined_up" s_lined_up)
    (d_same : DefAt K "same" s_same)
    (d_added : DefAt K "added" s_added)
    (d_is_pair : DefAt K "is_pair" s_is_pair)
    (d_spots_of : DefAt K "spots_of" s_spots_of)
    (d_no_sums : DefAt K "no_sums" s_no_sums)
    (d_with_row : DefAt K "with_row" s_with_row)
    (d_sums_of : DefAt K "sums_of" s_sums_of)
    (d_is_alike : DefAt K "is_alike" s_is_alike)
    (d_unlike_from : DefAt K "unlike_from" s_unlike_from)
    (d_feet : DefAt K "feet" s_feet)
    (d_breaks : DefAt K "breaks" s_breaks)
    (d_page_top : DefAt K "page_top" s_page_top)
    (d_page_bottom : DefAt K "page_bottom" s_page_bottom)
    (d_lines_on_page : DefAt K "lines_on_page" s_lines_on_page)
    (d_without_keys : DefAt K "without_keys" s_without_keys)
    (d_shown : DefAt K "shown" s_shown)
    (d_report : DefAt K "report" s_report)
    (d__law_draw : DefAt K "_law_draw" s__law_draw)
    (d__law_begun : DefAt K "_law_begun" s__law_begun)
    (d__law_a_plan : DefAt K "_law_a_plan" s__law_a_plan)
    (d__law_plus : DefAt K "_law_plus" s__law_plus)
    (z2_tuple : PySem.W.nsIn K mainGlobals "tuple" = some none)
    (z2_enumerate : PySem.W.nsIn K mainGlobals "enumerate" = some none)
    (z2_zip : PySem.W.nsIn K mainGlobals "zip" = some none)
    (t_str_tuple : PySem.W.kitOne K (.type "str") (.type "tuple") = some false)
    (t_tuple_tuple : PySem.W.kitOne K (.type "tuple") (.type "tuple") = some true)
    (z_len : PySem.W.nsIn K mainGlobals "len" = some none)
    (z_range : PySem.W.nsIn K mainGlobals "range" = some none)
    (z_abs : PySem.W.nsIn K mainGlobals "abs" = some none)
    (z_max : PySem.W.nsIn K mainGlobals "max" = some none)
    (z_int : PySem.W.nsIn K mainGlobals "int" = some none)
    (z_isi : PySem.W.nsIn K mainGlobals "isinstance" = some none)
    (z_bool : PySem.W.nsIn K mainGlobals "bool" = some none)
    (z_val : PySem.W.nsIn K mainGlobals "ValueError" = some none)
    (z_reversed : PySem.W.nsIn K mainGlobals "reversed" = some none)
    (z_divmod : PySem.W.nsIn K mainGlobals "divmod" = some none)
    (z_str : PySem.W.nsIn K mainGlobals "str" = some none)
    (z_sum : PySem.W.nsIn K mainGlobals "sum" = some none)
    (a_law : PySem.W.nsIn K mainGlobals "law" = some (some (.ref fl)))
    (l_law : K.lookup fl = some ⟨oc, od, .func (PySem.W.fnOf "law" "law" (defArgs s_law) (defBody s_law) (defScope s_law) .none kV doc pm an ca ct), osl⟩)
    (c_law : PySem.W.codeIn K ca "law" = true)
    : ∃ fd : FuncData, (∀ (s : Shared) (v : Value), BindsTo s fd ⟨[v], []⟩ [("_law_script", v)]) ∧ ∀ base : Heap, K.In base → base.Ns mainGlobals mg → FnOk l.prog w K mg base (CXE l.prog w) 9 fa fd ["_law_script"] spLaw := by
  have e := hfa.symm.trans (PySem.W.mg_of X G a_law)
  cases e
  have O : Own mg := ⟨PySem.W.mg_none_of X G z_len, PySem.W.mg_none_of X G z_range, PySem.W.mg_none_of X G z_abs, PySem.W.mg_none_of X G z_max, PySem.W.mg_none_of X G z_int, PySem.W.mg_none_of X G z_isi, PySem.W.mg_none_of X G z_bool, PySem.W.mg_none_of X G z_val, PySem.W.mg_none_of X G z_reversed, PySem.W.mg_none_of X G z_divmod, PySem.W.mg_none_of X G z_str, PySem.W.mg_none_of X G z_sum⟩
  have KT : Kit K := ⟨t_str_tuple, t_tuple_tuple⟩
  have OT : mg "tuple" = none := PySem.W.mg_none_of X G z2_tuple
  have OE : mg "enumerate" = none := PySem.W.mg_none_of X G z2_enumerate
  have OZ : mg "zip" = none := PySem.W.mg_none_of X G z2_zip
  refine ⟨PySem.W.fnOf "law" "law" (defArgs s_law) (defBody s_law) (defScope s_law) .none kV doc pm an ca ct, fun s v => .of_eq rfl, fun base kb nb => ?_⟩
  have D_ten_to : Def l.prog w K mg base 1 "ten_to" ["many"] (spTen) := d_ten_to.d1 X G (fun f fd F => ok_ten_to F O) fun _ _ _ _ _ _ _ => rfl
  have D_quotient_cut : Def l.prog w K mg base 1 "quotient_cut" ["number", "by"] (spQcut) := d_quotient_cut.d2 X G (fun f fd F => ok_quotient_cut F O) fun _ _ _ _ _ _ _ _ => rfl
  have D_cut : Def l.prog w K mg base 2 "cut" ["amount", "places"] (spCut K) := d_cut.d2 X G (fun f fd F => ok_cut F O D_ten_to D_quotient_cut) fun _ _ _ _ _ _ _ _ => rfl
  have D_lined_up : Def l.prog w K mg base 3 "lined_up" ["one", "other"] (spLined K) := d_lined_up.d2 X G (fun f fd F => ok_lined_up F O D_cut) fun _ _ _ _ _ _ _ _ => rfl
  have D_same : Def l.prog w K mg base 4 "same" ["one", "other"] (spSame K) := d_same.d2 X G (fun f fd F => ok_same F D_lined_up) fun _ _ _ _ _ _ _ _ => rfl
  have D_added : Def l.prog w K mg base 4 "added" ["one", "other"] (spSum K fun x y => x + y) := d_added.d2 X G (fun f fd F => ok_added F D_lined_up) fun _ _ _ _ _ _ _ _ => rfl
  have D_is_pair : Def l.prog w K mg base 1 "is_pair" ["value"] (spIsPair) := d_is_pair.d1 X G (fun f fd F => ok_is_pair F O OT KT) fun _ _ _ _ _ _ _ => rfl
  have D_spots_of : Def l.prog w K mg base 1 "spots_of" ["plan", "names"] (spSpots) := d_spots_of.d2 X G (fun f fd F => ok_spots_of F ) fun _ _ _ _ _ _ _ _ => rfl
  have D_no_sums : Def l.prog w K mg base 1 "no_sums" ["plan"] (spNoS) := d_no_sums.d1 X G (fun f fd F => ok_no_sums F OT) fun _ _ _ _ _ _ _ => rfl
  have D_with_row : Def l.prog w K mg base 5 "with_row" ["plan", "amounts", "row"] (spWith K) := d_with_row.d3 X G (fun f fd F => ok_with_row F OT OZ D_spots_of D_added) fun _ _ _ _ _ _ _ _ _ => rfl
  have D_sums_of : Def l.prog w K mg base 6 "sums_of" ["plan", "rows"] (spSums) := d_sums_of.d2 X G (fun f fd F => ok_sums_of F D_no_sums D_with_row) fun _ _ _ _ _ _ _ _ => rfl
  have D_is_alike : Def l.prog w K mg base 5 "is_alike" ["one", "other"] (spAlike) := d_is_alike.d2 X G (fun f fd F => ok_is_alike F D_is_pair D_same) fun _ _ _ _ _ _ _ _ => rfl
  have D_unlike_from : Def l.prog w K mg base 6 "unlike_from" ["plan", "one", "other"] (spUnlike) := d_unlike_from.d3 X G (fun f fd F => ok_unlike_from F O OE D_spots_of D_is_alike) fun _ _ _ _ _ _ _ _ _ => rfl
  have D_feet : Def l.prog w K mg base 2 "feet" ["plan", "row", "since", "first"] (spFeet) := d_feet.d4 X G (fun f fd F => ok_feet F O OT D_spots_of) fun _ _ _ _ _ _ _ _ _ _ => rfl
  have D_breaks : Def l.prog w K mg base 7 "breaks" ["plan", "rows"] (spBreaks) := d_breaks.d2 X G (fun f fd F => ok_breaks F O OT OE D_no_sums D_with_row D_sums_of D_unlike_from D_feet) fun _ _ _ _ _ _ _ _ => rfl
  have D_page_top : Def l.prog w K mg base 1 "page_top" ["plan", "page", "amounts"] (spTop) := d_page_top.d3 X G (fun f fd F => ok_page_top F O) fun _ _ _ _ _ _ _ _ _ => rfl
  have D_page_bottom : Def l.prog w K mg base 1 "page_bottom" ["plan", "is_last", "amounts"] (spBot) := d_page_bottom.d3 X G (fun f fd F => ok_page_bottom F O) fun _ _ _ _ _ _ _ _ _ => rfl
  have D_lines_on_page : Def l.prog w K mg base 1 "lines_on_page" ["plan", "ahead", "left"] (spFit) := d_lines_on_page.d3 X G (fun f fd F => ok_lines_on_page F O) fun _ _ _ _ _ _ _ _ _ => rfl
  have D_without_keys : Def l.prog w K mg base 1 "without_keys" ["plan", "row"] (spHide) := d_without_keys.d2 X G (fun f fd F => ok_without_keys F OT OZ) fun _ _ _ _ _ _ _ _ => rfl
  have D_shown : Def l.prog w K mg base 2 "shown" ["plan", "lines"] (spShown) := d_shown.d2 X G (fun f fd F => ok_shown F OT OE D_without_keys) fun _ _ _ _ _ _ _ _ => rfl
  have D_report : Def l.prog w K mg base 8 "report" ["plan", "rows"] (spReport) := d_report.d2 X G (fun f fd F => ok_report F O OT D_breaks D_no_sums D_with_row D_page_top D_page_bottom D_lines_on_page D_shown) fun _ _ _ _ _ _ _ _ => rfl
  have D__law_draw : Def l.prog w K mg base 1 "_law_draw" ["_law_script", "_law_town", "_law_many"] (spDraw K) := d__law_draw.d3 X G (fun f fd F => ok__law_draw F O) fun _ _ _ _ _ _ _ _ _ => rfl
  have D__law_begun : Def l.prog w K mg base 1 "_law_begun" [] (spBegun) := d__law_begun.d0 X G (fun f fd F => ok__law_begun F ) fun _ _ _ _ _ _ => rfl
  have D__law_a_plan : Def l.prog w K mg base 2 "_law_a_plan" ["_law_script", "_law_town"] (spAPlan K) := d__law_a_plan.d2 X G (fun f fd F => ok__law_a_plan F O OT D__law_draw) fun _ _ _ _ _ _ _ _ => rfl
  have D__law_plus : Def l.prog w K mg base 1 "_law_plus" ["_law_one", "_law_two"] (spPlus) := d__law_plus.d2 X G (fun f fd F => ok__law_plus F O OT OZ) fun _ _ _ _ _ _ _ _ => rfl
  exact ok_law (P := l.prog) (w := w) (base := base) ⟨oc, od, kV, doc, pm, an, ct, osl, rfl, l_law, c_law⟩ O OT OE OZ D__law_begun D__law_a_plan D_report D_breaks D__law_plus
theorem cxe_no {P : Program} {w : World} {H : Hp} {s : Shared} {e : Value} {s' : Shared} (z : CXE P w [] H s (fun _ _ _ => False) e s') : False := by
  obtain ⟨_, _, _, _, _, _, _, _, _, _, _, _, _, _, h⟩ := z
  exact h
end Lw
/-! names that keep the head from laying twins of what it need not look into -/
namespace PySem.W.Fast
theorem tw15799788748400720928 : True := trivial
theorem tw8631638387893447424 : True := trivial
theorem tw12529014077434508128 : True := trivial
theorem tw8956177476030506944 : True := trivial
theorem tw10872429702047838689 : True := trivial
theorem tw17495212538842936065 : True := trivial
theorem tw7136679969482904770 : True := trivial
theorem tw17540100362815252098 : True := trivial
theorem tw8118260970154111650 : True := trivial
theorem tw8241679602474625762 : True := trivial
theorem tw8409092747039540194 : True := trivial
theorem tw6655930765364709187 : True := trivial
theorem tw6440100032335857668 : True := trivial
theorem tw7755548008138405956 : True := trivial
theorem tw15178869930569464964 : True := trivial
theorem tw12879404417561801412 : True := trivial
theorem tw17966590225540736069 : True := trivial
theorem tw10533149956845198437 : True := trivial
theorem tw3928575275676675429 : True := trivial
theorem tw5544670971103698501 : True := trivial
theorem tw493042178070208261 : True := trivial
theorem tw11751250231111856198 : True := trivial
theorem tw9467088364932069702 : True := trivial
theorem tw8953899156809848582 : True := trivial
theorem tw10786557779081257766 : True := trivial
theorem tw1321322199890798374 : True := trivial
theorem tw7294864275360644966 : True := trivial
theorem tw16033695847184669383 : True := trivial
theorem tw8780699388673652679 : True := trivial
theorem tw16743815329110514856 : True := trivial
theorem tw4052035563990530440 : True := trivial
theorem tw14478608579816826344 : True := trivial
theorem tw3238749063601988168 : True := trivial
theorem tw2550250403353718504 : True := trivial
theorem tw14334609380557768488 : True := trivial
theorem tw18383068651485782089 : True := trivial
theorem tw2125895143489672297 : True := trivial
theorem tw9288914075433816329 : True := trivial
theorem tw8338406013483310409 : True := trivial
theorem tw13625485098770011497 : True := trivial
theorem tw9686195819053214281 : True := trivial
theorem tw8663537074548718569 : True := trivial
theorem tw2745172803256214570 : True := trivial
theorem tw116699817523615082 : True := trivial
theorem tw9654202985574135530 : True := trivial
theorem tw15470469998340454346 : True := trivial
theorem tw4995933416323709131 : True := trivial
theorem tw4749318183913049547 : True := trivial
theorem tw9636472202974096171 : True := trivial
theorem tw7982054766117959756 : True := trivial
theorem tw14085124556500898092 : True := trivial
theorem tw902883911955974892 : True := trivial
theorem tw5527856806565234668 : True := trivial
theorem tw8192471117229836301 : True := trivial
theorem tw6663773518306834445 : True := trivial
theorem tw4817245238666669709 : True := trivial
theorem tw8751857038228733741 : True := trivial
theorem tw112364187181484366 : True := trivial
theorem tw17289738113819641198 : True := trivial
theorem tw1509991968288350670 : True := trivial
theorem tw8693083489185741678 : True := trivial
theorem tw12809021674700114798 : True := trivial
theorem tw2834897650478981167 : True := trivial
theorem tw8596033519527230863 : True := trivial
theorem tw13533992311788913103 : True := trivial
theorem tw8949581605442114031 : True := trivial
theorem tw11289841660549582607 : True := trivial
theorem tw11402828666567369744 : True := trivial
theorem tw8358204455670309904 : True := trivial
theorem tw4910156107669003504 : True := trivial
theorem tw3634489302267990320 : True := trivial
theorem tw12286937018459739536 : True := trivial
theorem tw17523486662696865200 : True := trivial
theorem tw8516445737030742512 : True := trivial
theorem tw1575322928841161169 : True := trivial
theorem tw14926113324993071793 : True := trivial
theorem tw16627783051986135761 : True := trivial
theorem tw8971461839777581809 : True := trivial
theorem tw219446914823990097 : True := trivial
theorem tw11683238064985031794 : True := trivial
theorem tw10672930229030289587 : True := trivial
theorem tw8698728964036463059 : True := trivial
theorem tw144145700143423987 : True := trivial
theorem tw12178146567236388403 : True := trivial
theorem tw9973141055803727475 : True := trivial
theorem tw2743121801241192115 : True := trivial
theorem tw8135812233976855283 : True := trivial
theorem tw9601989916237165748 : True := trivial
theorem tw10226519363564730740 : True := trivial
theorem tw9814029758171971572 : True := trivial
theorem tw1219292687511242773 : True := trivial
theorem tw8995899559434115189 : True := trivial
theorem tw3180822565320065333 : True := trivial
theorem tw8351619730053851541 : True := trivial
theorem tw4138332732974719733 : True := trivial
theorem tw14261975510199631765 : True := trivial
theorem tw5289482755940650965 : True := trivial
theorem tw11392783348031421462 : True := trivial
theorem tw8169666325091908662 : True := trivial
theorem tw16513707517048219862 : True := trivial
theorem tw9794598011246206294 : True := trivial
theorem tw5125299096387104150 : True := trivial
theorem tw10460946930611063382 : True := trivial
theorem tw6456779398999136918 : True := trivial
theorem tw3115645092157815510 : True := trivial
theorem tw7533875979365822294 : True := trivial
theorem tw11272960018950265111 : True := trivial
theorem tw7049346809581919927 : True := trivial
theorem tw17387787155182219448 : True := trivial
theorem tw558168494882111224 : True := trivial
theorem tw4620313212975876024 : True := trivial
theorem tw1161347349552005433 : True := trivial
theorem tw14500550318717277529 : True := trivial
theorem tw5951064490212231705 : True := trivial
theorem tw8183721950404326329 : True := trivial
theorem tw8383936611234155481 : True := trivial
theorem tw3834472538410596378 : True := trivial
theorem tw11338566342177746170 : True := trivial
theorem tw4720166915063214330 : True := trivial
theorem tw17767097030207446330 : True := trivial
theorem tw6637462555193273754 : True := trivial
theorem tw9209930269334038362 : True := trivial
theorem tw8836569460935697435 : True := trivial
theorem tw3225418311343907963 : True := trivial
theorem tw14136629882160291323 : True := trivial
theorem tw5870037951248256539 : True := trivial
theorem tw6424494428939207227 : True := trivial
theorem tw11020880300645966491 : True := trivial
theorem tw11420324768068711387 : True := trivial
theorem tw6061194007439831196 : True := trivial
theorem tw8399136995529796028 : True := trivial
theorem tw10488325580727160316 : True := trivial
theorem tw16047762653473019580 : True := trivial
theorem tw10338065326518979516 : True := trivial
theorem tw81924574683453404 : True := trivial
theorem tw7468449281976169533 : True := trivial
theorem tw5335511368758449373 : True := trivial
theorem tw6463071364067927645 : True := trivial
theorem tw12432799600622691037 : True := trivial
theorem tw15814375493607441213 : True := trivial
theorem tw4610441635127636829 : True := trivial
theorem tw3259244796960926621 : True := trivial
theorem tw11211333817832081630 : True := trivial
theorem tw9218955678190654814 : True := trivial
theorem tw10174239052328842846 : True := trivial
theorem tw8302878790678519199 : True := trivial
theorem tw9888955352846261247 : True := trivial
theorem tw4810173474558417919 : True := trivial
theorem tw11727897558656748202 : True := trivial
end PySem.W.Fast
open PySem PySem.W PyProof.Rows
set_option maxRecDepth 100000 in
set_option maxHeartbeats 0 in
theorem PySem.Challenge.cw_boxmoves_k37_whole_pages_holds : PySem.Challenge.rw_boxmoves_k37_whole_pages.Holds := by
  w_on; o_law; k_head; (case hw => w_witness2)
  k_fill
  refine L2.walk_ofN (l := PySem.Challenge.rw_boxmoves_k37_whole_pages) (n := 63) (k := 9) (x := "_law_script") (CX := fun w => L2.CXE PySem.Challenge.rw_boxmoves_k37_whole_pages.prog w) (sp := fun _ => Lw.spLaw) rfl (by decide) rfl ⟨rfl, by decide, by decide⟩ (fun w h Y => PySem.W.kIn_of Y) ?nL ?F (fun w H a ns hl hS => ⟨a, ns, rfl, hl, hS, fun _ => rfl⟩) (fun w H s e s' z => Lw.cxe_no z)
  case nL => intro w; kernel_rfl
  case F =>
    intro w mg fa h KX G hmg
    refine' Lw.all_mk KX G hmg ?d_ten_to ?d_quotient_cut ?d_cut ?d_lined_up ?d_same ?d_added ?d_is_pair ?d_spots_of ?d_no_sums ?d_with_row ?d_sums_of ?d_is_alike ?d_unlike_from ?d_feet ?d_breaks ?d_page_top ?d_page_bottom ?d_lines_on_page ?d_without_keys ?d_shown ?d_report ?d__law_draw ?d__law_begun ?d__law_a_plan ?d__law_plus ?z2_tuple ?z2_enumerate ?z2_zip ?t_str_tuple ?t_tuple_tuple ?z_len ?z_range ?z_abs ?z_max ?z_int ?z_isi ?z_bool ?z_val ?z_reversed ?z_divmod ?z_str ?z_sum ?a_law ?l_law ?c_law
    (case d_ten_to => (refine' L2.defAt_mk ?a ?l ?c ?k; (case a => k_is); (case l => k_is); (case c => k_is); (case k => k_is)))
    (case d_quotient_cut => (refine' L2.defAt_mk ?a ?l ?c ?k; (case a => k_is); (case l => k_is); (case c => k_is); (case k => k_is)))
    (case d_cut => (refine' L2.defAt_mk ?a ?l ?c ?k; (case a => k_is); (case l => k_is); (case c => k_is); (case k => k_is)))
    (case d_lined_up => (refine' L2.defAt_mk ?a ?l ?c ?k; (case a => k_is); (case l => k_is); (case c => k_is); (case k => k_is)))
    (case d_same => (refine' L2.defAt_mk ?a ?l ?c ?k; (case a => k_is); (case l => k_is); (case c => k_is); (case k => k_is)))
    (case d_added => (refine' L2.defAt_mk ?a ?l ?c ?k; (case a => k_is); (case l => k_is); (case c => k_is); (case k => k_is)))
    (case d_is_pair => (refine' L2.defAt_mk ?a ?l ?c ?k; (case a => k_is); (case l => k_is); (case c => k_is); (case k => k_is)))
    (case d_spots_of => (refine' L2.defAt_mk ?a ?l ?c ?k; (case a => k_is); (case l => k_is); (case c => k_is); (case k => k_is)))
    (case d_no_sums => (refine' L2.defAt_mk ?a ?l ?c ?k; (case a => k_is); (case l => k_is); (case c => k_is); (case k => k_is)))
    (case d_with_row => (refine' L2.defAt_mk ?a ?l ?c ?k; (case a => k_is); (case l => k_is); (case c => k_is); (case k => k_is)))
    (case d_sums_of => (refine' L2.defAt_mk ?a ?l ?c ?k; (case a => k_is); (case l => k_is); (case c => k_is); (case k => k_is)))
    (case d_is_alike => (refine' L2.defAt_mk ?a ?l ?c ?k; (case a => k_is); (case l => k_is); (case c => k_is); (case k => k_is)))
    (case d_unlike_from => (refine' L2.defAt_mk ?a ?l ?c ?k; (case a => k_is); (case l => k_is); (case c => k_is); (case k => k_is)))
    (case d_feet => (refine' L2.defAt_mk ?a ?l ?c ?k; (case a => k_is); (case l => k_is); (case c => k_is); (case k => k_is)))
    (case d_breaks => (refine' L2.defAt_mk ?a ?l ?c ?k; (case a => k_is); (case l => k_is); (case c => k_is); (case k => k_is)))
    (case d_page_top => (refine' L2.defAt_mk ?a ?l ?c ?k; (case a => k_is); (case l => k_is); (case c => k_is); (case k => k_is)))
    (case d_page_bottom => (refine' L2.defAt_mk ?a ?l ?c ?k; (case a => k_is); (case l => k_is); (case c => k_is); (case k => k_is)))
    (case d_lines_on_page => (refine' L2.defAt_mk ?a ?l ?c ?k; (case a => k_is); (case l => k_is); (case c => k_is); (case k => k_is)))
    (case d_without_keys => (refine' L2.defAt_mk ?a ?l ?c ?k; (case a => k_is); (case l => k_is); (case c => k_is); (case k => k_is)))
    (case d_shown => (refine' L2.defAt_mk ?a ?l ?c ?k; (case a => k_is); (case l => k_is); (case c => k_is); (case k => k_is)))
    (case d_report => (refine' L2.defAt_mk ?a ?l ?c ?k; (case a => k_is); (case l => k_is); (case c => k_is); (case k => k_is)))
    (case d__law_draw => (refine' L2.defAt_mk ?a ?l ?c ?k; (case a => k_is); (case l => k_is); (case c => k_is); (case k => k_is)))
    (case d__law_begun => (refine' L2.defAt_mk ?a ?l ?c ?k; (case a => k_is); (case l => k_is); (case c => k_is); (case k => k_is)))
    (case d__law_a_plan => (refine' L2.defAt_mk ?a ?l ?c ?k; (case a => k_is); (case l => k_is); (case c => k_is); (case k => k_is)))
    (case d__law_plus => (refine' L2.defAt_mk ?a ?l ?c ?k; (case a => k_is); (case l => k_is); (case c => k_is); (case k => k_is)))
    (case z2_tuple => k_is)
    (case z2_enumerate => k_is)
    (case z2_zip => k_is)
    (case t_str_tuple => kit_is)
    (case t_tuple_tuple => kit_is)
    (case z_len => k_is)
    (case z_range => k_is)
    (case z_abs => k_is)
    (case z_max => k_is)
    (case z_int => k_is)
    (case z_isi => k_is)
    (case z_bool => k_is)
    (case z_val => k_is)
    (case z_reversed => k_is)
    (case z_divmod => k_is)
    (case z_str => k_is)
    (case z_sum => k_is)
    (case a_law => k_is)
    (case l_law => k_is)
    (case c_law => k_is)

